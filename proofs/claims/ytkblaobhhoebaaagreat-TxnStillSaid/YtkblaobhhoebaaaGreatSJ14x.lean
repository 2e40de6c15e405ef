/-
 TxnOnce.
-/
import Derived.Test.YtkblaobhhoebaaaGreatSH14x
set_option linter.unusedVariables false
set_option linter.unusedSimpArgs false
namespace Go.Proofs.YtkblaobhhoebaaaGreat.Abs
theorem Aus:Tp=some true:=by decide +kernel
theorem Aqw (a0:List Eo):∃ v,N4 a0=some v/\(v=true->a0.length<=80/\∀ o∈a0,o.Key.length<=50):=by
 unfold N4
 by_cases h80:80<(a0.length:Int)
 ·rw[if_pos (decide_eq_true h80)];exact⟨_,rfl,λh=>by cases h⟩
 rw[if_neg (by rw[decide_eq_true_eq];exact h80)]
 obtain⟨v,hv,hr⟩:=D2 (f:=Mf a0) (P:=λs=>∃ j:Nat,j<=a0.length/\s=(j:Int)/\∀ o∈a0.take j,o.Key.length<=50) (μ:=λs=>a0.length-s.toNat)
  (R:=λv=>v=.inl false\/(v=.inr ()/\∀ o∈a0,o.Key.length<=50)) (by
   rintro _ ⟨j,hj,rfl,hk⟩
   unfold Mf
   rcases zO j a0.length with hlt|hge
   ·have hsh:∃ b,Pq a0[j].Rng=some b:=by unfold Pq;split <;> exact⟨_,rfl⟩
    obtain⟨b,hb⟩:=hsh
    rw[if_pos (decide_eq_true (by omega)),Bo,zB hlt,zA,hb,zA,zA,zA,Cd (by omega) (by omega)]
    split
    ·exact .inr (.inr ⟨_,rfl,.inl rfl⟩)
    split
    ·exact .inr (.inr ⟨_,rfl,.inl rfl⟩)
    split
    ·exact .inr (.inr ⟨_,rfl,.inl rfl⟩)
    rename_i h50 _
    rw[decide_eq_true_eq] at h50
    refine .inl ⟨_,rfl,⟨j+1,hlt,rfl,λo ho=>?_⟩,by simp only[zT];omega⟩
    rw[zM hlt] at ho
    rcases yH.1 ho with ho|ho
    ·exact hk o ho
    ·rw[zV.1 ho];omega
   ·right;left
    have e:j=a0.length:=by omega
    subst e
    rw[yF] at hk
    rw[if_neg (by rw[decide_eq_true_eq];omega)]
    exact⟨_,rfl,.inr ⟨rfl,hk⟩⟩) fuel 0 ⟨0,zX _,rfl,by simp⟩ (Co (by show a0.length-0<=_;omega))
 rw[hv]
 rcases hr with rfl|⟨rfl,hk⟩
 ·exact⟨_,rfl,λh=>by cases h⟩
 ·exact⟨_,rfl,λ_=>⟨by omega,hk⟩⟩
theorem As4:EgI Fe 0:=⟨⟨xU _,by decide,rfl,by simp,List.Pairwise.nil,by simp⟩,by decide,xU _,Axi,⟨_,ss.inv_nil,rfl,rfl,rfl⟩,by decide,by simp,xU _,xU _⟩
end Go.Proofs.YtkblaobhhoebaaaGreat.Abs
