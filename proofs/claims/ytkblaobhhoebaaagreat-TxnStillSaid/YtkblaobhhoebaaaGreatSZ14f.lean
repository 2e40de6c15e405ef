/-
 A script by the program alone; what is there at last.
-/
import Derived.Test.YtkblaobhhoebaaaGreatSZ14e
set_option linter.unusedVariables false
set_option linter.unusedSimpArgs false
namespace Go.Proofs.YtkblaobhhoebaaaGreat.Abs
theorem Ato (l:List B8) (hl:l.length<=1000000):Sq l l=some true:=by
 unfold Sq
 rw[if_neg (by simp)]
 obtain⟨v,hv,hr⟩:=D2 (f:=Ox l l) (P:=λs=>∃ j:Nat,j<=l.length/\s=(j:Int)) (μ:=λs=>l.length-s.toNat) (R:=λv=>v=.inr ()) (by
  rintro _ ⟨j,hj,rfl⟩
  unfold Ox
  rcases zO j l.length with hlt|hge
  ·rw[if_pos (decide_eq_true (by omega)),Bo,zB hlt]
   simp only[zA,beq_self_eq_true,jH,kO,if_false]
   rw[Cd (by omega) (by omega)]
   exact .inl ⟨_,rfl,⟨j+1,hlt,rfl⟩,by simp only[zT];omega⟩
  ·rw[if_neg (by rw[decide_eq_true_eq];omega)]
   exact .inr (.inl ⟨_,rfl,rfl⟩)) fuel 0 ⟨0,zX _,rfl⟩ (Co (by show l.length-0<=_;omega))
 rw[hv,hr];rfl
theorem As8 {e:Ai} {n:Nat} (h:EgI e n) (hn:n<=500):∃ l,I2 e.Store=some l/\l.length<=1000000:=by
 have hkl:=h.kl
 have hents:=st.ents_len ⟨[],[],true⟩ e.Store.Ts e.Store.Keys e.Store.Chains
 unfold I2
 rw[show Hw e.Store ⟨[],[],true⟩ e.Store.Ts (e.Store.Keys.length:Int)=some ((st.ents ⟨[],[],true⟩ e.Store.Ts e.Store.Keys e.Store.Chains).take (e.Store.Keys.length:Int).toNat) from st.scan_m h.st (by omega) h.kl _ _ _,zA]
 exact⟨_,rfl,by rw[zK];omega⟩
theorem Aze (x:Int):0<=wI ((BitVec.ofInt 64 x &&& BitVec.ofInt 64 65535).toNat:Int):=by
 have h1:(BitVec.ofInt 64 x &&& BitVec.ofInt 64 65535).toNat<=65535:=by
  rw[BitVec.toNat_and]
  exact yO Nat.and_le_right (by decide)
 rw[Cd (by omega) (by omega)]
 exact xL _
def PlI (a0:List Eo) (s:Int×Ai×List B5×List B5):Prop:=∃ j:Nat,j<=a0.length/\s.1=(j:Int)/\EgI s.2.1 j/\OpE s.2.1/\s.2.2.1.length<=j/\s.2.2.2.length<=j/\∀ h∈s.2.2.2,h.acts_<=j
theorem Aro (a0:List Eo) (hl:a0.length<=80) (hk:∀ o∈a0,o.Key.length<=50):∃ e d,Ov a0=some (e,d)/\EgI e a0.length/\OpE e:=by
 unfold Ov
 obtain⟨v,hv,hr⟩:=Dm (f:=Kq a0) (P:=PlI a0) (μ:=λs=>a0.length-s.1.toNat) (R:=λv=>EgI v.1 a0.length/\OpE v.1) (by
  rintro⟨_,e,done,all⟩ ⟨j,hj,rfl,he,ho,hd,ha,hac⟩
  dsimp only at he ho hd ha hac
  unfold Kq
  dsimp only
  rcases zO j a0.length with hlt|hge
  ·left
   rw[if_pos (decide_eq_true (by omega))]
   have hg:a0[j]? = some a0[j]:=zB hlt
   have hw:wI ((j:Int)+1)=((j+1:Nat):Int):=Cd (by omega) (by omega)
   have key:∀ id:Int,0<=id->∃ s',H2 a0 ((j:Int),e,done,all) id=some (.cont s')/\PlI a0 s'/\a0.length-s'.1.toNat<a0.length-(j:Int).toNat:=λid hid=>by
    obtain⟨e',x,hx,hok⟩:=A49 he (by omega) ho a0[j] id (hk _ (yY hlt))
    unfold H2
    dsimp only
    rw[Bo,hg,zA,hx,zA]
    dsimp only
    have k6:EgI e' (j+1)->OpE e'->∃ s',Hz a0 ((j:Int),e,done,all) id (e',x) ()=some (.cont s')/\PlI a0 s'/\a0.length-s'.1.toNat<a0.length-(j:Int).toNat:=λh1 h2=>by
     have k9:∀ d9 b9:List B5,d9.length<=j+1->b9.length<=j+1->(∀ h∈b9,h.acts_<=j+1)->∃ s',Dz ((j:Int),e,done,all) (e',x) (d9,b9)=some (.cont s')/\PlI a0 s'/\a0.length-s'.1.toNat<a0.length-(j:Int).toNat:=λd9 b9 q1 q2 q3=>by
      unfold Dz
      dsimp only
      rw[hw]
      exact⟨_,rfl,⟨j+1,hlt,rfl,h1,h2,q1,q2,q3⟩,by simp only[zT];omega⟩
     have k8:∀ b8:List B5,b8.length<=j+1->(∀ h∈b8,h.acts_<=j+1)->∃ s',D1 a0 ((j:Int),e,done,all) id (e',x) b8=some (.cont s')/\PlI a0 s'/\a0.length-s'.1.toNat<a0.length-(j:Int).toNat:=λb8 q2 q3=>by
      have plain:=k9 done b8 (by omega) q2 q3
      unfold D1
      dsimp only
      rw[Bo,hg,zA,zA]
      split
      ·split
       ·split
        ·split
         ·rename_i hb
          rw[decide_eq_true_eq] at hb
          have hin:id.toNat<b8.length:=by omega
          have hix:∀ l:List B5,l.length=b8.length->∃ u,idx l id=some u/\u∈l:=λl hl=>by
           obtain⟨m,rfl⟩:=Int.eq_ofNat_of_zero_le hid
           refine⟨l[m]'(by rw[hl];simpa using hin),?_,yY _⟩
           rw[Bo]
           exact zB _
          obtain⟨u,hu,hum⟩:=hix b8 rfl
          rw[hu,zA]
          obtain⟨u2,hu2,hu2m⟩:=hix (b8.set id.toNat { u with end_:=x.n_ }) (xI ..)
          rw[hu2,zA,if_pos (by rw[z6];omega)]
          refine k9 _ _ (by simp;omega) (by rw[xI];exact q2) λh hh=>?_
          rcases jP hh with hh|rfl
          ·exact q3 h hh
          ·exact q3 u hum
         ·exact plain
        ·exact plain
       ·exact plain
      ·exact plain
     have k7:∀ b7:List B5,b7.length<=j+1->(∀ h∈b7,h.acts_<=j)->∃ s',F7 a0 ((j:Int),e,done,all) id (e',x) b7=some (.cont s')/\PlI a0 s'/\a0.length-s'.1.toNat<a0.length-(j:Int).toNat:=λb7 q2 q3=>by
      have plain:=k8 b7 q2 λh hh=>jW (q3 h hh)
      unfold F7
      dsimp only
      rw[Bo,hg,zA,zA]
      split
      ·split
       ·split
        ·split
         ·rename_i hb
          rw[decide_eq_true_eq] at hb
          obtain⟨u,hu,hum⟩:∃ u,idx b7 id=some u/\u∈b7:=by
           obtain⟨m,rfl⟩:=Int.eq_ofNat_of_zero_le hid
           refine⟨b7[m]'(by simpa using hb),?_,yY _⟩
           rw[Bo]
           exact zB _
          have hq:=q3 u hum
          rw[hu,zA,zA,if_pos (by simp only[z6,maxLen];omega),zA]
          refine k8 _ (by rw[xI];exact q2) λh hh=>?_
          rcases jP hh with hh|rfl
          ·exact jW (q3 h hh)
          ·show u.acts_+_<=j+1
           rw[z6];omega
         ·exact plain
        ·exact plain
       ·exact plain
      ·exact plain
     unfold Hz
     dsimp only
     rw[Bo,hg,zA]
     have plain:=k7 all (by omega) hac
     split
     ·split
      ·rw[if_pos (by rw[z6];omega)]
       refine k7 _ (by simp;omega) λh hh=>?_
       rcases yH.1 hh with hh|hh
       ·exact hac h hh
       ·rw[zV.1 hh];exact zX _
      ·exact plain
     ·exact plain
    rcases hok with⟨h1,h2⟩|⟨h1,h2,-⟩
    ·rw[if_pos (decide_eq_true h1),if_pos (decide_eq_true h2),hw]
     exact⟨_,rfl,⟨j+1,hlt,rfl,he.up (xF j),ho,by show done.length<=_;omega,by show all.length<=_;omega,λh hh=>jW (hac h hh)⟩,by simp only[zT];omega⟩
    ·split
     ·split
      ·rw[hw]
       exact⟨_,rfl,⟨j+1,hlt,rfl,he.up (xF j),ho,by show done.length<=_;omega,by show all.length<=_;omega,λh hh=>jW (hac h hh)⟩,by simp only[zT];omega⟩
      ·exact k6 h1 h2
     ·exact k6 h1 h2
   split
   ·rename_i h0
    rw[decide_eq_true_eq] at h0
    rw[Bo,hg,zA,if_pos (by omega)]
    exact key _ (Int.tmod_nonneg _ (Aze _))
   ·exact key 0 (xU 0)
  ·right
   have e1:j=a0.length:=by omega
   subst e1
   rw[if_neg (by rw[decide_eq_true_eq];omega)]
   exact⟨_,rfl,he,ho⟩) fuel (0,Fe,[],[]) ⟨0,zX _,rfl,As4,Asn,zN _,zN _,λh hh=>(by cases hh)⟩ (Co (by show a0.length-0<=_;omega))
 rw[hv]
 exact⟨_,_,rfl,hr.1,hr.2⟩
end Go.Proofs.YtkblaobhhoebaaaGreat.Abs
