/-
 TxnOnce.
-/
import Derived.Test.YtkblaobhhoebaaaGreatYH14x
set_option linter.unusedVariables false
set_option linter.unusedSimpArgs false
namespace Go.Proofs.YtkblaobhhoebaaaGreat.Abs
theorem Ase:Q3=some true:=by decide +kernel
theorem Ak8 (a0:List Cv):∃ v,M6 a0=some v∧(v=true→a0.length≤80∧∀ o ∈ a0,o.Key.length≤50):=by
 unfold M6
 by_cases h80:80<(a0.length:Int)
 ·rw [if_pos (decide_eq_true h80)];exact ⟨_,rfl,fun h=>by cases h⟩
 rw [if_neg (by rw [decide_eq_true_eq];exact h80)]
 obtain ⟨v,hv,hr⟩:=Dt (f:=Ld a0) (P:=fun s=>∃ j:Nat,j≤a0.length∧s=(j:Int)∧∀ o ∈ a0.take j,o.Key.length≤50) (μ:=fun s=>a0.length-s.toNat)
  (R:=fun v=>v=.inl false∨(v=.inr ()∧∀ o ∈ a0,o.Key.length≤50)) (by
   rintro _ ⟨j,hj,rfl,hk⟩
   unfold Ld
   rcases zP j a0.length with hlt | hge
   ·have hsh:∃ b,Oh a0[j].Rng=some b:=by unfold Oh;split <;> exact ⟨_,rfl⟩
    obtain ⟨b,hb⟩:=hsh
    rw [if_pos (decide_eq_true (by omega)),Bp,zB hlt,zA,hb,zA,zA,zA,Cd (by omega) (by omega)]
    split
    ·exact .inr (.inr ⟨_,rfl,.inl rfl⟩)
    split
    ·exact .inr (.inr ⟨_,rfl,.inl rfl⟩)
    split
    ·exact .inr (.inr ⟨_,rfl,.inl rfl⟩)
    rename_i h50 _
    rw [decide_eq_true_eq] at h50
    refine .inl ⟨_,rfl,⟨j+1,hlt,rfl,fun o ho=>?_⟩,by simp only [zW];omega⟩
    rw [zM hlt] at ho
    rcases yH.1 ho with ho | ho
    ·exact hk o ho
    ·rw [zT.1 ho];omega
   ·right;left
    have e:j=a0.length:=by omega
    subst e
    rw [yI] at hk
    rw [if_neg (by rw [decide_eq_true_eq];omega)]
    exact ⟨_,rfl,.inr ⟨rfl,hk⟩⟩) fuel 0 ⟨0,zX _,rfl,by simp⟩ (Ci (by show a0.length-0≤_;omega))
 rw [hv]
 rcases hr with rfl | ⟨rfl,hk⟩
 ·exact ⟨_,rfl,fun h=>by cases h⟩
 ·exact ⟨_,rfl,fun _=>⟨by omega,hk⟩⟩
theorem Aoo:EgI E2 0:=⟨⟨xP _,by decide,rfl,by simp,List.Pairwise.nil,by simp⟩,by decide,xP _,Awf,⟨_,ss.inv_nil,rfl,rfl,rfl⟩,by decide,by simp,xP _,xP _⟩
end Go.Proofs.YtkblaobhhoebaaaGreat.Abs
