/-
 TxnOnce.
-/
import Derived.Test.YtkblaobhhoebaaaGreatLH14x
set_option linter.unusedVariables false
set_option linter.unusedSimpArgs false
namespace Go.Proofs.YtkblaobhhoebaaaGreat.Abs
theorem As8:Un=some true:=by decide +kernel
theorem Atn (a0:List Dl):∃ v,Qa a0=some v/\(v=true->a0.length<=80/\∀ o∈a0,o.Key.length<=50):=by
 unfold Qa
 by_cases h80:80<(a0.length:Int)
 ·rw[ifp h80];exact⟨_,rfl,λh=>by cases h⟩
 rw[ifn h80]
 obtain⟨v,hv,hr⟩:=Cr (f:=Ma a0) (P:=λs=>∃ j:Nat,j<=a0.length/\s=(j:Int)/\∀ o∈a0.take j,o.Key.length<=50) (μ:=λs=>a0.length-s.toNat)
  (R:=λv=>v=.inl false\/(v=.inr ()/\∀ o∈a0,o.Key.length<=50)) (by
   rintro _ ⟨j,hj,rfl,hk⟩
   unfold Ma
   rcases zU j a0.length with hlt|hge
   ·have hsh:∃ b,P7 a0[j].Rng=some b:=by unfold P7;split <;> exact⟨_,rfl⟩
    obtain⟨b,hb⟩:=hsh
    rw[ifo,A3,zC hlt,zA,hb,zA,zA,zA,wIo]
    split
    ·exact .inr (.inr ⟨_,rfl,.inl rfl⟩)
    split
    ·exact .inr (.inr ⟨_,rfl,.inl rfl⟩)
    split
    ·exact .inr (.inr ⟨_,rfl,.inl rfl⟩)
    rename_i h50 _
    rw[decide_eq_true_eq] at h50
    refine .inl ⟨_,rfl,⟨j+1,hlt,rfl,λo ho=>?_⟩,by simp only[zT];omega⟩
    rw[zV hlt] at ho
    rcases yC.1 ho with ho|ho
    ·exact hk o ho
    ·rw[zP.1 ho];omega
   ·right;left
    have e:j=a0.length:=by omega
    subst e
    rw[yJ] at hk
    rw[ifq]
    exact⟨_,rfl,.inr ⟨rfl,hk⟩⟩) fuel 0 ⟨0,zZ _,rfl,by simp⟩ (Bs (by show a0.length-0<=_;omega))
 rw[hv]
 rcases hr with rfl|⟨rfl,hk⟩
 ·exact⟨_,rfl,λh=>by cases h⟩
 ·exact⟨_,rfl,λ_=>⟨by omega,hk⟩⟩
theorem Ap7:EgI De 0:=⟨⟨xQ _,by decide,rfl,by simp,List.Pairwise.nil,by simp⟩,by decide,xQ _,Awx,⟨_,ss.inv_nil,rfl,rfl,rfl⟩,by decide,by simp,xQ _,xQ _⟩
end Go.Proofs.YtkblaobhhoebaaaGreat.Abs
