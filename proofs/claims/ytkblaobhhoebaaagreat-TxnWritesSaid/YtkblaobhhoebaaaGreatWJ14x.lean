/-
 TxnOnce.
-/
import Derived.Test.YtkblaobhhoebaaaGreatWH14x
set_option linter.unusedVariables false
set_option linter.unusedSimpArgs false
namespace Go.Proofs.YtkblaobhhoebaaaGreat.Abs
theorem Asi:Rf=some true:=by decide +kernel
theorem Atj (a0:List Fq):∃ v,O1 a0=some v∧(v=true→a0.length≤80∧∀ o ∈ a0,o.Key.length≤50):=by
 unfold O1
 by_cases h80:80<(a0.length:Int)
 ·rw [if_pos (decide_eq_true h80)];exact ⟨_,rfl,fun h=>by cases h⟩
 rw [if_neg (by rw [decide_eq_true_eq];exact h80)]
 obtain ⟨v,hv,hr⟩:=Dh (f:=Lp a0) (P:=fun s=>∃ j:Nat,j≤a0.length∧s=(j:Int)∧∀ o ∈ a0.take j,o.Key.length≤50) (μ:=fun s=>a0.length-s.toNat)
  (R:=fun v=>v=.inl false∨(v=.inr ()∧∀ o ∈ a0,o.Key.length≤50)) (by
   rintro _ ⟨j,hj,rfl,hk⟩
   unfold Lp
   rcases zO j a0.length with hlt | hge
   ·have hsh:∃ b,Oi a0[j].Rng=some b:=by unfold Oi;split <;> exact ⟨_,rfl⟩
    obtain ⟨b,hb⟩:=hsh
    rw [if_pos (decide_eq_true (by omega)),Bn,zB hlt,zA,hb,zA,zA,zA,Cb (by omega) (by omega)]
    split
    ·exact .inr (.inr ⟨_,rfl,.inl rfl⟩)
    split
    ·exact .inr (.inr ⟨_,rfl,.inl rfl⟩)
    split
    ·exact .inr (.inr ⟨_,rfl,.inl rfl⟩)
    rename_i h50 _
    rw [decide_eq_true_eq] at h50
    refine .inl ⟨_,rfl,⟨j+1,hlt,rfl,fun o ho=>?_⟩,by simp only [zR];omega⟩
    rw [zM hlt] at ho
    rcases yL.1 ho with ho | ho
    ·exact hk o ho
    ·rw [zW.1 ho];omega
   ·right;left
    have e:j=a0.length:=by omega
    subst e
    rw [yI] at hk
    rw [if_neg (by rw [decide_eq_true_eq];omega)]
    exact ⟨_,rfl,.inr ⟨rfl,hk⟩⟩) fuel 0 ⟨0,zY _,rfl,by simp⟩ (Ce (by show a0.length-0≤_;omega))
 rw [hv]
 rcases hr with rfl | ⟨rfl,hk⟩
 ·exact ⟨_,rfl,fun h=>by cases h⟩
 ·exact ⟨_,rfl,fun _=>⟨by omega,hk⟩⟩
theorem Ao9:EgI E4 0:=⟨⟨xU _,by decide,rfl,by simp,List.Pairwise.nil,by simp⟩,by decide,xU _,Au6,⟨_,ss.inv_nil,rfl,rfl,rfl⟩,by decide,by simp,xU _,xU _⟩
end Go.Proofs.YtkblaobhhoebaaaGreat.Abs
