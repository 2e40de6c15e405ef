/-
 The library's rows.
-/
import Derived.Test.YtphgpfgibpgfiaaGreatST24r
import Derived.Test.YtphgpfgibpgfiaaGreatSAbsC
set_option linter.unusedVariables false
set_option linter.unusedSimpArgs false
namespace Go.Proofs.YtphgpfgibpgfiaaGreat.Abs
theorem T3 (n : Int) (h0 : 0 ≤ n) (h1 : n * 8 ≤ 140737488355328) : Jm n = some [] := by
 unfold Jm
 rw [if_neg (by rw [decide_eq_true_eq]; omega)]
 unfold I7
 rw [Ch (n := 0 - 0) (by decide) (by decide), show n - (0 - 0) = n from by omega, Ch (by omega) (by omega)]
 by_cases hn : 0 < n
 ·rw [if_pos (decide_eq_true hn), if_pos ⟨hn, by omega⟩, if_pos ⟨Int.le_refl _, Int.natCast_nonneg _⟩]
  rfl
 ·rw [if_neg (by rw [decide_eq_true_eq]; exact hn)]
theorem Sy (xss : List (List Int)) (h : xss.flatten.length * 8 ≤ 140737488355328) (hl : xss.length ≤ 1000000000000000000) : H7 xss = some xss.flatten := by
 have hpre : ∀ i, (xss.take i).flatten.length ≤ xss.flatten.length := fun i => by
  have e : xss.flatten.length = (xss.take i).flatten.length + (xss.drop i).flatten.length := by
   rw [← List.length_append, ← List.flatten_append, List.take_append_drop]
  omega
 have hstep : ∀ i (hi : i < xss.length), (xss.take (i + 1)).flatten = (xss.take i).flatten ++ xss[i] := fun i hi => by
  rw [List.take_succ_eq_append_getElem hi, List.flatten_append]; simp
 obtain ⟨v, hv, rfl⟩ := Eg (f := E1 xss) (P := fun s => ∃ i, i ≤ xss.length ∧ s = (((xss.take i).flatten.length : Int), (i : Int))) (μ := fun s => xss.length - s.2.toNat) (R := fun v => v = (xss.flatten.length : Int)) (by
  rintro _ ⟨i, hi, rfl⟩
  rcases Nat.lt_or_ge i xss.length with hlt | hge
  ·left
   have h1 := hpre (i + 1)
   rw [hstep i hlt, List.length_append] at h1
   refine ⟨(((xss.take (i + 1)).flatten.length : Int), ((i + 1 : Nat) : Int)), ?_, ⟨i + 1, hlt, rfl⟩, by simp only [Int.toNat_natCast]; omega⟩
   unfold E1
   rw [if_pos (decide_eq_true (by show (i : Int) < xss.length; omega))]
   dsimp only
   rw [Bv, List.getElem?_eq_getElem hlt, Option.bind_some, Ch (by omega) (by omega), Ch (by omega) (by omega), if_neg (by rw [decide_eq_true_eq]; omega), hstep i hlt, List.length_append, Int.natCast_add, Int.natCast_add]
   rfl
  ·right
   have e : i = xss.length := by omega
   subst e
   refine ⟨_, ?_, rfl⟩
   unfold E1
   rw [if_neg (by rw [decide_eq_true_eq]; exact Int.lt_irrefl _), List.take_length]) fuel (0, 0) ⟨0, Nat.zero_le _, by simp⟩ (Dh (by show xss.length - 0 ≤ _; omega))
 obtain ⟨w, hw, rfl⟩ := Eg (f := E0 xss) (P := fun s => ∃ i, i ≤ xss.length ∧ s = ((i : Int), (xss.take i).flatten)) (μ := fun s => xss.length - s.1.toNat) (R := fun v => v = xss.flatten) (by
  rintro _ ⟨i, hi, rfl⟩
  rcases Nat.lt_or_ge i xss.length with hlt | hge
  ·left
   have h1 := hpre (i + 1)
   rw [hstep i hlt, List.length_append] at h1
   refine ⟨(((i + 1 : Nat) : Int), (xss.take (i + 1)).flatten), ?_, ⟨i + 1, hlt, rfl⟩, by simp only [Int.toNat_natCast]; omega⟩
   unfold E0
   rw [if_pos (decide_eq_true (by show (i : Int) < xss.length; omega))]
   dsimp only
   rw [Bv, List.getElem?_eq_getElem hlt, Option.bind_some, Ch (by omega) (by omega), if_pos (by omega), hstep i hlt, Int.natCast_add]
   rfl
  ·right
   have e : i = xss.length := by omega
   subst e
   refine ⟨_, ?_, rfl⟩
   unfold E0
   rw [if_neg (by rw [decide_eq_true_eq]; exact Int.lt_irrefl _), List.take_length]) fuel (0, ([] : List Int)) ⟨0, Nat.zero_le _, by simp⟩ (Dh (by show xss.length - 0 ≤ _; omega))
 unfold H7
 rw [hv, Option.bind_some]
 unfold Hz
 rw [T3 _ (by omega) (by omega), Option.bind_some, hw, Option.bind_some]
 rfl
theorem Sz (n : Int) (h0 : 0 ≤ n) (h1 : n * 1 ≤ 140737488355328) : Iv n = some [] := by
 unfold Iv
 rw [if_neg (by rw [decide_eq_true_eq]; omega)]
 unfold H3
 rw [Ch (n := 0 - 0) (by decide) (by decide), show n - (0 - 0) = n from by omega, Ch (by omega) (by omega)]
 by_cases hn : 0 < n
 ·rw [if_pos (decide_eq_true hn), if_pos ⟨hn, by omega⟩, if_pos ⟨Int.le_refl _, Int.natCast_nonneg _⟩]
  rfl
 ·rw [if_neg (by rw [decide_eq_true_eq]; exact hn)]
theorem Rq (xss : List (List UInt8)) (h : xss.flatten.length * 1 ≤ 140737488355328) (hl : xss.length ≤ 1000000000000000000) : Fu xss = some xss.flatten := by
 have hpre : ∀ i, (xss.take i).flatten.length ≤ xss.flatten.length := fun i => by
  have e : xss.flatten.length = (xss.take i).flatten.length + (xss.drop i).flatten.length := by
   rw [← List.length_append, ← List.flatten_append, List.take_append_drop]
  omega
 have hstep : ∀ i (hi : i < xss.length), (xss.take (i + 1)).flatten = (xss.take i).flatten ++ xss[i] := fun i hi => by
  rw [List.take_succ_eq_append_getElem hi, List.flatten_append]; simp
 obtain ⟨v, hv, rfl⟩ := Eg (f := Ef xss) (P := fun s => ∃ i, i ≤ xss.length ∧ s = (((xss.take i).flatten.length : Int), (i : Int))) (μ := fun s => xss.length - s.2.toNat) (R := fun v => v = (xss.flatten.length : Int)) (by
  rintro _ ⟨i, hi, rfl⟩
  rcases Nat.lt_or_ge i xss.length with hlt | hge
  ·left
   have h1 := hpre (i + 1)
   rw [hstep i hlt, List.length_append] at h1
   refine ⟨(((xss.take (i + 1)).flatten.length : Int), ((i + 1 : Nat) : Int)), ?_, ⟨i + 1, hlt, rfl⟩, by simp only [Int.toNat_natCast]; omega⟩
   unfold Ef
   rw [if_pos (decide_eq_true (by show (i : Int) < xss.length; omega))]
   dsimp only
   rw [Bv, List.getElem?_eq_getElem hlt, Option.bind_some, Ch (by omega) (by omega), Ch (by omega) (by omega), if_neg (by rw [decide_eq_true_eq]; omega), hstep i hlt, List.length_append, Int.natCast_add, Int.natCast_add]
   rfl
  ·right
   have e : i = xss.length := by omega
   subst e
   refine ⟨_, ?_, rfl⟩
   unfold Ef
   rw [if_neg (by rw [decide_eq_true_eq]; exact Int.lt_irrefl _), List.take_length]) fuel (0, 0) ⟨0, Nat.zero_le _, by simp⟩ (Dh (by show xss.length - 0 ≤ _; omega))
 obtain ⟨w, hw, rfl⟩ := Eg (f := Ed xss) (P := fun s => ∃ i, i ≤ xss.length ∧ s = ((i : Int), (xss.take i).flatten)) (μ := fun s => xss.length - s.1.toNat) (R := fun v => v = xss.flatten) (by
  rintro _ ⟨i, hi, rfl⟩
  rcases Nat.lt_or_ge i xss.length with hlt | hge
  ·left
   have h1 := hpre (i + 1)
   rw [hstep i hlt, List.length_append] at h1
   refine ⟨(((i + 1 : Nat) : Int), (xss.take (i + 1)).flatten), ?_, ⟨i + 1, hlt, rfl⟩, by simp only [Int.toNat_natCast]; omega⟩
   unfold Ed
   rw [if_pos (decide_eq_true (by show (i : Int) < xss.length; omega))]
   dsimp only
   rw [Bv, List.getElem?_eq_getElem hlt, Option.bind_some, Ch (by omega) (by omega), if_pos (by omega), hstep i hlt, Int.natCast_add]
   rfl
  ·right
   have e : i = xss.length := by omega
   subst e
   refine ⟨_, ?_, rfl⟩
   unfold Ed
   rw [if_neg (by rw [decide_eq_true_eq]; exact Int.lt_irrefl _), List.take_length]) fuel (0, ([] : List UInt8)) ⟨0, Nat.zero_le _, by simp⟩ (Dh (by show xss.length - 0 ≤ _; omega))
 unfold Fu
 rw [hv, Option.bind_some]
 unfold Hh
 rw [Sz _ (by omega) (by omega), Option.bind_some, hw, Option.bind_some]
 rfl
theorem Of (xs : List Af) (h : xs.length * 56 ≤ 140737488355328) : Iw xs = some xs := by
 unfold Iw
 rw [if_pos (by simpa using h)]
 rfl
end Go.Proofs.YtphgpfgibpgfiaaGreat.Abs
