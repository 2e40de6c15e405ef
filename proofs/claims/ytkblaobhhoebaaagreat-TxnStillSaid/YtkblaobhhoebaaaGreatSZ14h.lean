/-
 TxnStill: what is refused changes nothing.
-/
import Derived.Test.YtkblaobhhoebaaaGreatSZ14g
set_option linter.unusedVariables false
set_option linter.unusedSimpArgs false
namespace Go.Proofs.YtkblaobhhoebaaaGreat.Abs
theorem Aex (a0:List Eo) (a1:Eo) (a2:Int):Ps a0 a1 a2=some true:=by
 unfold Ps
 rw[Aus,zA]
 obtain⟨v,hv,hs⟩:=Aqw a0
 rw[hv,zA]
 split
 ·rfl
 rename_i hvt
 obtain⟨h80,hkey⟩:=hs (by simpa using hvt)
 obtain⟨w,hw,hs1⟩:=Aqw [a1]
 rw[hw,zA]
 split
 ·rfl
 rename_i hwt
 obtain⟨-,hkey1⟩:=hs1 (by simpa using hwt)
 unfold Mz
 obtain⟨e,d,hp,he,ho⟩:=Aro a0 h80 hkey
 rw[hp,zA]
 dsimp only
 obtain⟨t,ht,hf⟩:=Atj he (by omega)
 rw[ht,zA]
 obtain⟨f,x,hx,hr⟩:=A49 he (by omega) ho a1 (wI ((BitVec.ofInt 64 a2 &&& BitVec.ofInt 64 255).toNat:Int)) (hkey1 _ (zV.2 rfl))
 rw[hx,zA,zA,Asi hf,zA,if_neg (by decide)]
 have hts:=he.ts
 have ht0:=he.st.t0
 have key:∀ b:Bool,(b=true↔7<a1.What/\a1.What<=10/\x.e_=0)->E7 true (e,d) (f,x) b=some true:=λb hb=>by
  unfold E7
  dsimp only
  have k9:EgI f (a0.length+1)->OpE f->(f.Store=e.Store/\(7<a1.What->a1.What<=10->x.e_≠0)\/7<a1.What/\a1.What<=10/\x.e_=0/\f.Store.Ts=e.Store.Ts+1/\x.n_=e.Store.Ts+1)->G1 true (e,d) (f,x) b ()=some true:=λh1 h2 h3=>by
   unfold G1
   dsimp only
   rw[if_pos rfl,Abk h1 (by omega) h2,zA,if_pos rfl]
   rcases h3 with⟨h3,h4⟩|⟨h3,h4,h5,h6,h7⟩
   ·have hbf:b=false:=by
     cases b with
     | false=>rfl
     | true=>exact absurd (hb.1 rfl).2.2 (h4 (hb.1 rfl).1 (hb.1 rfl).2.1)
    subst hbf
    obtain⟨l,hl,hll⟩:=As8 he (by omega)
    rw[if_neg (by decide),h3,hl,zA,zA,Ato l hll,zA,if_pos rfl,if_pos (by simp),if_pos (by decide)]
   ·have hbt:b=true:=hb.2 ⟨h3,h4,h5⟩
    subst hbt
    rw[if_pos rfl,if_neg (by decide),Cd (by omega) (by omega),if_pos (decide_eq_true h6),decide_eq_true (by omega)]
  rcases hr with⟨h1,h2⟩|⟨h1,h2,h3⟩
  ·rw[if_pos (decide_eq_true h1),if_pos (decide_eq_true h2)]
  ·split
   ·split
    ·rfl
    ·exact k9 h1 h2 h3
   ·exact k9 h1 h2 h3
 split
 ·rename_i c7
  rw[decide_eq_true_eq] at c7
  split
  ·rename_i c10
   rw[decide_eq_true_eq] at c10
   exact key _ (by rw[decide_eq_true_eq];exact⟨λh=>⟨c7,c10,h⟩,λh=>h.2.2⟩)
  ·rename_i c10
   rw[decide_eq_true_eq] at c10
   exact key _ ⟨(λh=>by cases h),λh=>absurd h.2.1 c10⟩
 ·rename_i c7
  rw[decide_eq_true_eq] at c7
  exact key _ ⟨(λh=>by cases h),λh=>absurd h.1 c7⟩
end Go.Proofs.YtkblaobhhoebaaaGreat.Abs
