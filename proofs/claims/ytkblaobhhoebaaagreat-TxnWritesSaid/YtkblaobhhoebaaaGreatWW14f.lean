/-
 A script by the program alone; what is there at last.
-/
import Derived.Test.YtkblaobhhoebaaaGreatWW14e
set_option linter.unusedVariables false
set_option linter.unusedSimpArgs false
namespace Go.Proofs.YtkblaobhhoebaaaGreat.Abs
theorem Ajc (l:List B3) (hl:l.length≤1000000):Pi l l=some true:=by
 unfold Pi
 rw [if_neg (by simp)]
 obtain ⟨v,hv,hr⟩:=Dh (f:=Nt l l) (P:=fun s=>∃ j:Nat,j≤l.length∧s=(j:Int)) (μ:=fun s=>l.length-s.toNat) (R:=fun v=>v=.inr ()) (by
  rintro _ ⟨j,hj,rfl⟩
  unfold Nt
  rcases zO j l.length with hlt | hge
  ·rw [if_pos (decide_eq_true (by omega)),Bn,zB hlt]
   simp only [zA,beq_self_eq_true,jJ,kY,if_false]
   rw [Cb (by omega) (by omega)]
   exact .inl ⟨_,rfl,⟨j+1,hlt,rfl⟩,by simp only [zR];omega⟩
  ·rw [if_neg (by rw [decide_eq_true_eq];omega)]
   exact .inr (.inl ⟨_,rfl,rfl⟩)) fuel 0 ⟨0,zY _,rfl⟩ (Ce (by show l.length-0≤_;omega))
 rw [hv,hr];rfl
theorem Aqc {e:Ah} {n:Nat} (h:EgI e n) (hn:n≤500):∃ l,Fj e.Store=some l∧l.length≤1000000:=by
 have hkl:=h.kl
 have hents:=st.ents_len ⟨[],[],true⟩ e.Store.Ts e.Store.Keys e.Store.Chains
 unfold Fj
 rw [show He e.Store ⟨[],[],true⟩ e.Store.Ts (e.Store.Keys.length:Int)=some ((st.ents ⟨[],[],true⟩ e.Store.Ts e.Store.Keys e.Store.Chains).take (e.Store.Keys.length:Int).toNat) from st.scan_m h.st (by omega) h.kl _ _ _,zA]
 exact ⟨_,rfl,by rw [zL];omega⟩
theorem Av2 (x:Int):0≤wI ((BitVec.ofInt 64 x &&& BitVec.ofInt 64 65535).toNat:Int):=by
 have h1:(BitVec.ofInt 64 x &&& BitVec.ofInt 64 65535).toNat≤65535:=by
  rw [BitVec.toNat_and]
  exact yO Nat.and_le_right (by decide)
 rw [Cb (by omega) (by omega)]
 exact xK _
def PlI (a0:List Fq) (s:Int × Ah × List B1 × List B1):Prop:=∃ j:Nat,j≤a0.length∧s.1=(j:Int)∧EgI s.2.1 j∧OpE s.2.1∧s.2.2.1.length≤j∧s.2.2.2.length≤j∧∀ h ∈ s.2.2.2,h.acts_≤j
theorem Ao0 (a0:List Fq) (hl:a0.length≤80) (hk:∀ o ∈ a0,o.Key.length≤50):∃ e d,Nv a0=some (e,d)∧EgI e a0.length∧OpE e:=by
 unfold Nv
 obtain ⟨v,hv,hr⟩:=C9 (f:=Ki a0) (P:=PlI a0) (μ:=fun s=>a0.length-s.1.toNat) (R:=fun v=>EgI v.1 a0.length∧OpE v.1) (by
  rintro ⟨_,e,done,all⟩ ⟨j,hj,rfl,he,ho,hd,ha,hac⟩
  dsimp only at he ho hd ha hac
  unfold Ki
  dsimp only
  rcases zO j a0.length with hlt | hge
  ·left
   rw [if_pos (decide_eq_true (by omega))]
   have hg:a0[j]? = some a0[j]:=zB hlt
   have hw:wI ((j:Int)+1)=((j+1:Nat):Int):=Cb (by omega) (by omega)
   have key:∀ id:Int,0≤id→∃ s',Hm a0 ((j:Int),e,done,all) id=some (.cont s')∧PlI a0 s'∧a0.length-s'.1.toNat<a0.length-(j:Int).toNat:=fun id hid=>by
    obtain ⟨e',x,hx,hok⟩:=A1l he (by omega) ho a0[j] id (hk _ (xN hlt))
    unfold Hm
    dsimp only
    rw [Bn,hg,zA,hx,zA]
    dsimp only
    have k6:EgI e' (j+1)→OpE e'→∃ s',Hk a0 ((j:Int),e,done,all) id (e',x) ()=some (.cont s')∧PlI a0 s'∧a0.length-s'.1.toNat<a0.length-(j:Int).toNat:=fun h1 h2=>by
     have k9:∀ d9 b9:List B1,d9.length≤j+1→b9.length≤j+1→(∀ h ∈ b9,h.acts_≤j+1)→∃ s',Dm ((j:Int),e,done,all) (e',x) (d9,b9)=some (.cont s')∧PlI a0 s'∧a0.length-s'.1.toNat<a0.length-(j:Int).toNat:=fun d9 b9 q1 q2 q3=>by
      unfold Dm
      dsimp only
      rw [hw]
      exact ⟨_,rfl,⟨j+1,hlt,rfl,h1,h2,q1,q2,q3⟩,by simp only [zR];omega⟩
     have k8:∀ b8:List B1,b8.length≤j+1→(∀ h ∈ b8,h.acts_≤j+1)→∃ s',Dn a0 ((j:Int),e,done,all) id (e',x) b8=some (.cont s')∧PlI a0 s'∧a0.length-s'.1.toNat<a0.length-(j:Int).toNat:=fun b8 q2 q3=>by
      have plain:=k9 done b8 (by omega) q2 q3
      unfold Dn
      dsimp only
      rw [Bn,hg,zA,zA]
      split
      ·split
       ·split
        ·split
         ·rename_i hb
          rw [decide_eq_true_eq] at hb
          have hin:id.toNat<b8.length:=by omega
          have hix:∀ l:List B1,l.length=b8.length→∃ u,idx l id=some u∧u ∈ l:=fun l hl=>by
           obtain ⟨m,rfl⟩:=Int.eq_ofNat_of_zero_le hid
           refine ⟨l[m]'(by rw [hl];simpa using hin),?_,xN _⟩
           rw [Bn]
           exact zB _
          obtain ⟨u,hu,hum⟩:=hix b8 rfl
          rw [hu,zA]
          obtain ⟨u2,hu2,hu2m⟩:=hix (b8.set id.toNat { u with end_:=x.n_ }) (xH ..)
          rw [hu2,zA,if_pos (by rw [yE];omega)]
          refine k9 _ _ (by simp;omega) (by rw [xH];exact q2) fun h hh=>?_
          rcases jR hh with hh | rfl
          ·exact q3 h hh
          ·exact q3 u hum
         ·exact plain
        ·exact plain
       ·exact plain
      ·exact plain
     have k7:∀ b7:List B1,b7.length≤j+1→(∀ h ∈ b7,h.acts_≤j)→∃ s',Ft a0 ((j:Int),e,done,all) id (e',x) b7=some (.cont s')∧PlI a0 s'∧a0.length-s'.1.toNat<a0.length-(j:Int).toNat:=fun b7 q2 q3=>by
      have plain:=k8 b7 q2 fun h hh=>j1 (q3 h hh)
      unfold Ft
      dsimp only
      rw [Bn,hg,zA,zA]
      split
      ·split
       ·split
        ·split
         ·rename_i hb
          rw [decide_eq_true_eq] at hb
          obtain ⟨u,hu,hum⟩:∃ u,idx b7 id=some u∧u ∈ b7:=by
           obtain ⟨m,rfl⟩:=Int.eq_ofNat_of_zero_le hid
           refine ⟨b7[m]'(by simpa using hb),?_,xN _⟩
           rw [Bn]
           exact zB _
          have hq:=q3 u hum
          rw [hu,zA,zA,if_pos (by simp only [yE,maxLen];omega),zA]
          refine k8 _ (by rw [xH];exact q2) fun h hh=>?_
          rcases jR hh with hh | rfl
          ·exact j1 (q3 h hh)
          ·show u.acts_+_≤j+1
           rw [yE];omega
         ·exact plain
        ·exact plain
       ·exact plain
      ·exact plain
     unfold Hk
     dsimp only
     rw [Bn,hg,zA]
     have plain:=k7 all (by omega) hac
     split
     ·split
      ·rw [if_pos (by rw [yE];omega)]
       refine k7 _ (by simp;omega) fun h hh=>?_
       rcases yL.1 hh with hh | hh
       ·exact hac h hh
       ·rw [zW.1 hh];exact zY _
      ·exact plain
     ·exact plain
    rcases hok with ⟨h1,h2⟩ | ⟨h1,h2⟩
    ·rw [if_pos (decide_eq_true h1),if_pos (decide_eq_true h2),hw]
     exact ⟨_,rfl,⟨j+1,hlt,rfl,he.up (xE j),ho,by show done.length≤_;omega,by show all.length≤_;omega,fun h hh=>j1 (hac h hh)⟩,by simp only [zR];omega⟩
    ·split
     ·split
      ·rw [hw]
       exact ⟨_,rfl,⟨j+1,hlt,rfl,he.up (xE j),ho,by show done.length≤_;omega,by show all.length≤_;omega,fun h hh=>j1 (hac h hh)⟩,by simp only [zR];omega⟩
      ·exact k6 h1 h2
     ·exact k6 h1 h2
   split
   ·rename_i h0
    rw [decide_eq_true_eq] at h0
    rw [Bn,hg,zA,if_pos (by omega)]
    exact key _ (Int.tmod_nonneg _ (Av2 _))
   ·exact key 0 (xU 0)
  ·right
   have e1:j=a0.length:=by omega
   subst e1
   rw [if_neg (by rw [decide_eq_true_eq];omega)]
   exact ⟨_,rfl,he,ho⟩) fuel (0,E4,[],[]) ⟨0,zY _,rfl,Ao9,Aqi,zN _,zN _,fun h hh=>(by cases hh)⟩ (Ce (by show a0.length-0≤_;omega))
 rw [hv]
 exact ⟨_,_,rfl,hr.1,hr.2⟩
end Go.Proofs.YtkblaobhhoebaaaGreat.Abs
