/-
 A script by the program alone; what is there at last.
-/
import Derived.Test.YtkblaobhhoebaaaGreatYY14e
set_option linter.unusedVariables false
set_option linter.unusedSimpArgs false
namespace Go.Proofs.YtkblaobhhoebaaaGreat.Abs
theorem Avi (x:Int):0≤wI ((BitVec.ofInt 64 x &&& BitVec.ofInt 64 65535).toNat:Int):=by
 have h1:(BitVec.ofInt 64 x &&& BitVec.ofInt 64 65535).toNat≤65535:=by
  rw [BitVec.toNat_and]
  exact yO Nat.and_le_right (by decide)
 rw [Cd (by omega) (by omega)]
 exact xM _
def PlI (T:Int) (a0:List Cv) (s:Int × Ah × List B2 × List B2):Prop:=∃ j:Nat,j≤a0.length∧s.1=(j:Int)∧EgI s.2.1 j∧OpE s.2.1∧s.2.2.1.length≤j∧s.2.2.2.length≤j∧(∀ h ∈ s.2.2.2,h.acts_≤j)∧fnd s.2.1.Toks.L T=none∧∀ o ∈ s.2.1.Open,o.Token≠T
theorem Ap2 (a0:List Cv) (hl:a0.length≤80) (hk:∀ o ∈ a0,o.Key.length≤50) (T:Int) (hT:∀ o ∈ a0,o.Token≠T):∃ e d,Nn a0=some (e,d)∧EgI e a0.length∧OpE e∧fnd e.Toks.L T=none∧∀ o ∈ e.Open,o.Token≠T:=by
 unfold Nn
 obtain ⟨v,hv,hr⟩:=Di (f:=J6 a0) (P:=PlI T a0) (μ:=fun s=>a0.length-s.1.toNat) (R:=fun v=>EgI v.1 a0.length∧OpE v.1∧fnd v.1.Toks.L T=none∧∀ o ∈ v.1.Open,o.Token≠T) (by
  rintro ⟨_,e,done,all⟩ ⟨j,hj,rfl,he,ho,hd,ha,hac,hn1,hn2⟩
  dsimp only at he ho hd ha hac hn1 hn2
  unfold J6
  dsimp only
  rcases zP j a0.length with hlt | hge
  ·left
   rw [if_pos (decide_eq_true (by omega))]
   have hg:a0[j]? = some a0[j]:=zB hlt
   have hw:wI ((j:Int)+1)=((j+1:Nat):Int):=Cd (by omega) (by omega)
   have key:∀ id:Int,0≤id→∃ s',Hk a0 ((j:Int),e,done,all) id=some (.cont s')∧PlI T a0 s'∧a0.length-s'.1.toNat<a0.length-(j:Int).toNat:=fun id hid=>by
    obtain ⟨e',x,hx,hok⟩:=A0v he (by omega) ho a0[j] id (hk _ (xI hlt))
    unfold Hk
    dsimp only
    rw [Bp,hg,zA,hx,zA]
    dsimp only
    have k6:EgI e' (j+1)→OpE e'→fnd e'.Toks.L T=none→(∀ o ∈ e'.Open,o.Token≠T)→∃ s',G9 a0 ((j:Int),e,done,all) id (e',x) ()=some (.cont s')∧PlI T a0 s'∧a0.length-s'.1.toNat<a0.length-(j:Int).toNat:=fun h1 h2 h3 h4=>by
     have k9:∀ d9 b9:List B2,d9.length≤j+1→b9.length≤j+1→(∀ h ∈ b9,h.acts_≤j+1)→∃ s',Dv ((j:Int),e,done,all) (e',x) (d9,b9)=some (.cont s')∧PlI T a0 s'∧a0.length-s'.1.toNat<a0.length-(j:Int).toNat:=fun d9 b9 q1 q2 q3=>by
      unfold Dv
      dsimp only
      rw [hw]
      exact ⟨_,rfl,⟨j+1,hlt,rfl,h1,h2,q1,q2,q3,h3,h4⟩,by simp only [zW];omega⟩
     have k8:∀ b8:List B2,b8.length≤j+1→(∀ h ∈ b8,h.acts_≤j+1)→∃ s',Du a0 ((j:Int),e,done,all) id (e',x) b8=some (.cont s')∧PlI T a0 s'∧a0.length-s'.1.toNat<a0.length-(j:Int).toNat:=fun b8 q2 q3=>by
      have plain:=k9 done b8 (by omega) q2 q3
      unfold Du
      dsimp only
      rw [Bp,hg,zA,zA]
      split
      ·split
       ·split
        ·split
         ·rename_i hb
          rw [decide_eq_true_eq] at hb
          have hin:id.toNat<b8.length:=by omega
          have hix:∀ l:List B2,l.length=b8.length→∃ u,idx l id=some u∧u ∈ l:=fun l hl=>by
           obtain ⟨m,rfl⟩:=Int.eq_ofNat_of_zero_le hid
           refine ⟨l[m]'(by rw [hl];simpa using hin),?_,xI _⟩
           rw [Bp]
           exact zB _
          obtain ⟨u,hu,hum⟩:=hix b8 rfl
          rw [hu,zA]
          obtain ⟨u2,hu2,hu2m⟩:=hix (b8.set id.toNat { u with end_:=x.n_ }) (xJ ..)
          rw [hu2,zA,if_pos (by rw [yE];omega)]
          refine k9 _ _ (by simp;omega) (by rw [xJ];exact q2) fun h hh=>?_
          rcases jN hh with hh | rfl
          ·exact q3 h hh
          ·exact q3 u hum
         ·exact plain
        ·exact plain
       ·exact plain
      ·exact plain
     have k7:∀ b7:List B2,b7.length≤j+1→(∀ h ∈ b7,h.acts_≤j)→∃ s',Fz a0 ((j:Int),e,done,all) id (e',x) b7=some (.cont s')∧PlI T a0 s'∧a0.length-s'.1.toNat<a0.length-(j:Int).toNat:=fun b7 q2 q3=>by
      have plain:=k8 b7 q2 fun h hh=>jV (q3 h hh)
      unfold Fz
      dsimp only
      rw [Bp,hg,zA,zA]
      split
      ·split
       ·split
        ·split
         ·rename_i hb
          rw [decide_eq_true_eq] at hb
          obtain ⟨u,hu,hum⟩:∃ u,idx b7 id=some u∧u ∈ b7:=by
           obtain ⟨m,rfl⟩:=Int.eq_ofNat_of_zero_le hid
           refine ⟨b7[m]'(by simpa using hb),?_,xI _⟩
           rw [Bp]
           exact zB _
          have hq:=q3 u hum
          rw [hu,zA,zA,if_pos (by simp only [yE,maxLen];omega),zA]
          refine k8 _ (by rw [xJ];exact q2) fun h hh=>?_
          rcases jN hh with hh | rfl
          ·exact jV (q3 h hh)
          ·show u.acts_+_≤j+1
           rw [yE];omega
         ·exact plain
        ·exact plain
       ·exact plain
      ·exact plain
     unfold G9
     dsimp only
     rw [Bp,hg,zA]
     have plain:=k7 all (by omega) hac
     split
     ·split
      ·rw [if_pos (by rw [yE];omega)]
       refine k7 _ (by simp;omega) fun h hh=>?_
       rcases yH.1 hh with hh | hh
       ·exact hac h hh
       ·rw [zT.1 hh];exact zX _
      ·exact plain
     ·exact plain
    rcases hok with ⟨h1,h2⟩ | ⟨h1,h2,h3⟩
    ·rw [if_pos (decide_eq_true h1),if_pos (decide_eq_true h2),hw]
     exact ⟨_,rfl,⟨j+1,hlt,rfl,he.up (xD j),ho,by show done.length≤_;omega,by show all.length≤_;omega,(fun h hh=>jV (hac h hh)),hn1,hn2⟩,by simp only [zW];omega⟩
    ·obtain ⟨h4,h5⟩:=h3 T (fun e1=>hT _ (xI hlt) e1.symm) hn2 hn1
     split
     ·split
      ·rw [hw]
       exact ⟨_,rfl,⟨j+1,hlt,rfl,he.up (xD j),ho,by show done.length≤_;omega,by show all.length≤_;omega,(fun h hh=>jV (hac h hh)),hn1,hn2⟩,by simp only [zW];omega⟩
      ·exact k6 h1 h2 h4 h5
     ·exact k6 h1 h2 h4 h5
   split
   ·rename_i h0
    rw [decide_eq_true_eq] at h0
    rw [Bp,hg,zA,if_pos (by omega)]
    exact key _ (Int.tmod_nonneg _ (Avi _))
   ·exact key 0 (xP 0)
  ·right
   have e1:j=a0.length:=by omega
   subst e1
   rw [if_neg (by rw [decide_eq_true_eq];omega)]
   exact ⟨_,rfl,he,ho,hn1,hn2⟩) fuel (0,E2,[],[]) ⟨0,zX _,rfl,Aoo,Apf,zN _,zN _,(fun h hh=>(by cases hh)),rfl,fun o ho=>(by cases ho)⟩ (Ci (by show a0.length-0≤_;omega))
 rw [hv]
 exact ⟨_,_,rfl,hr.1,hr.2.1,hr.2.2.1,hr.2.2.2⟩
end Go.Proofs.YtkblaobhhoebaaaGreat.Abs
