/-
 The library's rows.
-/
import Derived.Test.YtbjckaahoacbfaaGreatDoorET21
import Derived.Test.YtbjckaahoacbfaaGreatDoorEAbsC
set_option linter.unusedVariables false
set_option linter.unusedSimpArgs false
namespace Go.Proofs.YtbjckaahoacbfaaGreatDoor.Abs
theorem S9 (n : Int) (h0 : 0 ≤ n) (h1 : n * 1 ≤ 140737488355328) : J3 n = some [] := by
 unfold J3
 rw [if_neg (by rw [decide_eq_true_eq]; omega)]
 unfold Jp
 rw [Dx (n := 0 - 0) (by decide) (by decide), show n - (0 - 0) = n from by omega, Dx (by omega) (by omega)]
 by_cases hn : 0 < n
 ·rw [if_pos (decide_eq_true hn), if_pos ⟨hn, by omega⟩, if_pos ⟨Int.le_refl _, Int.natCast_nonneg _⟩]
  rfl
 ·rw [if_neg (by rw [decide_eq_true_eq]; exact hn)]
theorem Iu (xss : List (List UInt8)) (h : xss.flatten.length * 1 ≤ 140737488355328) (hl : xss.length ≤ 1000000000000000000) : En xss = some xss.flatten := by
 have hpre : ∀ i, (xss.take i).flatten.length ≤ xss.flatten.length := fun i => by
  have e : xss.flatten.length = (xss.take i).flatten.length + (xss.drop i).flatten.length := by
   rw [← List.length_append, ← List.flatten_append, List.take_append_drop]
  omega
 have hstep : ∀ i (hi : i < xss.length), (xss.take (i + 1)).flatten = (xss.take i).flatten ++ xss[i] := fun i hi => by
  rw [List.take_succ_eq_append_getElem hi, List.flatten_append]; simp
 obtain ⟨v, hv, rfl⟩ := He (f := Fc xss) (P := fun s => ∃ i, i ≤ xss.length ∧ s = (((xss.take i).flatten.length : Int), (i : Int))) (μ := fun s => xss.length - s.2.toNat) (R := fun v => v = (xss.flatten.length : Int)) (by
  rintro _ ⟨i, hi, rfl⟩
  rcases Nat.lt_or_ge i xss.length with hlt | hge
  ·left
   have h1 := hpre (i + 1)
   rw [hstep i hlt, List.length_append] at h1
   refine ⟨(((xss.take (i + 1)).flatten.length : Int), ((i + 1 : Nat) : Int)), ?_, ⟨i + 1, hlt, rfl⟩, by simp only [Int.toNat_natCast]; omega⟩
   unfold Fc
   rw [if_pos (decide_eq_true (by show (i : Int) < xss.length; omega))]
   dsimp only
   rw [Gy, List.getElem?_eq_getElem hlt, Option.bind_some, Dx (by omega) (by omega), Dx (by omega) (by omega), if_neg (by rw [decide_eq_true_eq]; omega), hstep i hlt, List.length_append, Int.natCast_add, Int.natCast_add]
   rfl
  ·right
   have e : i = xss.length := by omega
   subst e
   refine ⟨_, ?_, rfl⟩
   unfold Fc
   rw [if_neg (by rw [decide_eq_true_eq]; exact Int.lt_irrefl _), List.take_length]) fuel (0, 0) ⟨0, Nat.zero_le _, by simp⟩ (Hj (by show xss.length - 0 ≤ _; omega))
 obtain ⟨w, hw, rfl⟩ := He (f := Fj xss) (P := fun s => ∃ i, i ≤ xss.length ∧ s = ((i : Int), (xss.take i).flatten)) (μ := fun s => xss.length - s.1.toNat) (R := fun v => v = xss.flatten) (by
  rintro _ ⟨i, hi, rfl⟩
  rcases Nat.lt_or_ge i xss.length with hlt | hge
  ·left
   have h1 := hpre (i + 1)
   rw [hstep i hlt, List.length_append] at h1
   refine ⟨(((i + 1 : Nat) : Int), (xss.take (i + 1)).flatten), ?_, ⟨i + 1, hlt, rfl⟩, by simp only [Int.toNat_natCast]; omega⟩
   unfold Fj
   rw [if_pos (decide_eq_true (by show (i : Int) < xss.length; omega))]
   dsimp only
   rw [Gy, List.getElem?_eq_getElem hlt, Option.bind_some, Dx (by omega) (by omega), if_pos (by omega), hstep i hlt, Int.natCast_add]
   rfl
  ·right
   have e : i = xss.length := by omega
   subst e
   refine ⟨_, ?_, rfl⟩
   unfold Fj
   rw [if_neg (by rw [decide_eq_true_eq]; exact Int.lt_irrefl _), List.take_length]) fuel (0, ([] : List UInt8)) ⟨0, Nat.zero_le _, by simp⟩ (Hj (by show xss.length - 0 ≤ _; omega))
 unfold En
 rw [hv, Option.bind_some]
 unfold Ie
 rw [S9 _ (by omega) (by omega), Option.bind_some, hw, Option.bind_some]
 rfl
theorem Sq (n : Int) (h0 : 0 ≤ n) (h1 : n * 96 ≤ 140737488355328) : I4 n = some [] := by
 unfold I4
 rw [if_neg (by rw [decide_eq_true_eq]; omega)]
 unfold Ix
 rw [Dx (n := 0 - 0) (by decide) (by decide), show n - (0 - 0) = n from by omega, Dx (by omega) (by omega)]
 by_cases hn : 0 < n
 ·rw [if_pos (decide_eq_true hn), if_pos ⟨hn, by omega⟩, if_pos ⟨Int.le_refl _, Int.natCast_nonneg _⟩]
  rfl
 ·rw [if_neg (by rw [decide_eq_true_eq]; exact hn)]
theorem Qz (xss : List (List Ba)) (h : xss.flatten.length * 96 ≤ 140737488355328) (hl : xss.length ≤ 1000000000000000000) : Hz xss = some xss.flatten := by
 have hpre : ∀ i, (xss.take i).flatten.length ≤ xss.flatten.length := fun i => by
  have e : xss.flatten.length = (xss.take i).flatten.length + (xss.drop i).flatten.length := by
   rw [← List.length_append, ← List.flatten_append, List.take_append_drop]
  omega
 have hstep : ∀ i (hi : i < xss.length), (xss.take (i + 1)).flatten = (xss.take i).flatten ++ xss[i] := fun i hi => by
  rw [List.take_succ_eq_append_getElem hi, List.flatten_append]; simp
 obtain ⟨v, hv, rfl⟩ := He (f := Eu xss) (P := fun s => ∃ i, i ≤ xss.length ∧ s = (((xss.take i).flatten.length : Int), (i : Int))) (μ := fun s => xss.length - s.2.toNat) (R := fun v => v = (xss.flatten.length : Int)) (by
  rintro _ ⟨i, hi, rfl⟩
  rcases Nat.lt_or_ge i xss.length with hlt | hge
  ·left
   have h1 := hpre (i + 1)
   rw [hstep i hlt, List.length_append] at h1
   refine ⟨(((xss.take (i + 1)).flatten.length : Int), ((i + 1 : Nat) : Int)), ?_, ⟨i + 1, hlt, rfl⟩, by simp only [Int.toNat_natCast]; omega⟩
   unfold Eu
   rw [if_pos (decide_eq_true (by show (i : Int) < xss.length; omega))]
   dsimp only
   rw [Gy, List.getElem?_eq_getElem hlt, Option.bind_some, Dx (by omega) (by omega), Dx (by omega) (by omega), if_neg (by rw [decide_eq_true_eq]; omega), hstep i hlt, List.length_append, Int.natCast_add, Int.natCast_add]
   rfl
  ·right
   have e : i = xss.length := by omega
   subst e
   refine ⟨_, ?_, rfl⟩
   unfold Eu
   rw [if_neg (by rw [decide_eq_true_eq]; exact Int.lt_irrefl _), List.take_length]) fuel (0, 0) ⟨0, Nat.zero_le _, by simp⟩ (Hj (by show xss.length - 0 ≤ _; omega))
 obtain ⟨w, hw, rfl⟩ := He (f := Er xss) (P := fun s => ∃ i, i ≤ xss.length ∧ s = ((i : Int), (xss.take i).flatten)) (μ := fun s => xss.length - s.1.toNat) (R := fun v => v = xss.flatten) (by
  rintro _ ⟨i, hi, rfl⟩
  rcases Nat.lt_or_ge i xss.length with hlt | hge
  ·left
   have h1 := hpre (i + 1)
   rw [hstep i hlt, List.length_append] at h1
   refine ⟨(((i + 1 : Nat) : Int), (xss.take (i + 1)).flatten), ?_, ⟨i + 1, hlt, rfl⟩, by simp only [Int.toNat_natCast]; omega⟩
   unfold Er
   rw [if_pos (decide_eq_true (by show (i : Int) < xss.length; omega))]
   dsimp only
   rw [Gy, List.getElem?_eq_getElem hlt, Option.bind_some, Dx (by omega) (by omega), if_pos (by omega), hstep i hlt, Int.natCast_add]
   rfl
  ·right
   have e : i = xss.length := by omega
   subst e
   refine ⟨_, ?_, rfl⟩
   unfold Er
   rw [if_neg (by rw [decide_eq_true_eq]; exact Int.lt_irrefl _), List.take_length]) fuel (0, ([] : List Ba)) ⟨0, Nat.zero_le _, by simp⟩ (Hj (by show xss.length - 0 ≤ _; omega))
 unfold Hz
 rw [hv, Option.bind_some]
 unfold H7
 rw [Sq _ (by omega) (by omega), Option.bind_some, hw, Option.bind_some]
 rfl
theorem Tf (n : Int) (h0 : 0 ≤ n) (h1 : n * 40 ≤ 140737488355328) : J2 n = some [] := by
 unfold J2
 rw [if_neg (by rw [decide_eq_true_eq]; omega)]
 unfold Jm
 rw [Dx (n := 0 - 0) (by decide) (by decide), show n - (0 - 0) = n from by omega, Dx (by omega) (by omega)]
 by_cases hn : 0 < n
 ·rw [if_pos (decide_eq_true hn), if_pos ⟨hn, by omega⟩, if_pos ⟨Int.le_refl _, Int.natCast_nonneg _⟩]
  rfl
 ·rw [if_neg (by rw [decide_eq_true_eq]; exact hn)]
theorem Rm (xss : List (List Av)) (h : xss.flatten.length * 40 ≤ 140737488355328) (hl : xss.length ≤ 1000000000000000000) : Ik xss = some xss.flatten := by
 have hpre : ∀ i, (xss.take i).flatten.length ≤ xss.flatten.length := fun i => by
  have e : xss.flatten.length = (xss.take i).flatten.length + (xss.drop i).flatten.length := by
   rw [← List.length_append, ← List.flatten_append, List.take_append_drop]
  omega
 have hstep : ∀ i (hi : i < xss.length), (xss.take (i + 1)).flatten = (xss.take i).flatten ++ xss[i] := fun i hi => by
  rw [List.take_succ_eq_append_getElem hi, List.flatten_append]; simp
 obtain ⟨v, hv, rfl⟩ := He (f := Fb xss) (P := fun s => ∃ i, i ≤ xss.length ∧ s = (((xss.take i).flatten.length : Int), (i : Int))) (μ := fun s => xss.length - s.2.toNat) (R := fun v => v = (xss.flatten.length : Int)) (by
  rintro _ ⟨i, hi, rfl⟩
  rcases Nat.lt_or_ge i xss.length with hlt | hge
  ·left
   have h1 := hpre (i + 1)
   rw [hstep i hlt, List.length_append] at h1
   refine ⟨(((xss.take (i + 1)).flatten.length : Int), ((i + 1 : Nat) : Int)), ?_, ⟨i + 1, hlt, rfl⟩, by simp only [Int.toNat_natCast]; omega⟩
   unfold Fb
   rw [if_pos (decide_eq_true (by show (i : Int) < xss.length; omega))]
   dsimp only
   rw [Gy, List.getElem?_eq_getElem hlt, Option.bind_some, Dx (by omega) (by omega), Dx (by omega) (by omega), if_neg (by rw [decide_eq_true_eq]; omega), hstep i hlt, List.length_append, Int.natCast_add, Int.natCast_add]
   rfl
  ·right
   have e : i = xss.length := by omega
   subst e
   refine ⟨_, ?_, rfl⟩
   unfold Fb
   rw [if_neg (by rw [decide_eq_true_eq]; exact Int.lt_irrefl _), List.take_length]) fuel (0, 0) ⟨0, Nat.zero_le _, by simp⟩ (Hj (by show xss.length - 0 ≤ _; omega))
 obtain ⟨w, hw, rfl⟩ := He (f := Fi xss) (P := fun s => ∃ i, i ≤ xss.length ∧ s = ((i : Int), (xss.take i).flatten)) (μ := fun s => xss.length - s.1.toNat) (R := fun v => v = xss.flatten) (by
  rintro _ ⟨i, hi, rfl⟩
  rcases Nat.lt_or_ge i xss.length with hlt | hge
  ·left
   have h1 := hpre (i + 1)
   rw [hstep i hlt, List.length_append] at h1
   refine ⟨(((i + 1 : Nat) : Int), (xss.take (i + 1)).flatten), ?_, ⟨i + 1, hlt, rfl⟩, by simp only [Int.toNat_natCast]; omega⟩
   unfold Fi
   rw [if_pos (decide_eq_true (by show (i : Int) < xss.length; omega))]
   dsimp only
   rw [Gy, List.getElem?_eq_getElem hlt, Option.bind_some, Dx (by omega) (by omega), if_pos (by omega), hstep i hlt, Int.natCast_add]
   rfl
  ·right
   have e : i = xss.length := by omega
   subst e
   refine ⟨_, ?_, rfl⟩
   unfold Fi
   rw [if_neg (by rw [decide_eq_true_eq]; exact Int.lt_irrefl _), List.take_length]) fuel (0, ([] : List Av)) ⟨0, Nat.zero_le _, by simp⟩ (Hj (by show xss.length - 0 ≤ _; omega))
 unfold Ik
 rw [hv, Option.bind_some]
 unfold Ii
 rw [Tf _ (by omega) (by omega), Option.bind_some, hw, Option.bind_some]
 rfl
theorem Sf (n : Int) (h0 : 0 ≤ n) (h1 : n * 80 ≤ 140737488355328) : I3 n = some [] := by
 unfold I3
 rw [if_neg (by rw [decide_eq_true_eq]; omega)]
 unfold Iw
 rw [Dx (n := 0 - 0) (by decide) (by decide), show n - (0 - 0) = n from by omega, Dx (by omega) (by omega)]
 by_cases hn : 0 < n
 ·rw [if_pos (decide_eq_true hn), if_pos ⟨hn, by omega⟩, if_pos ⟨Int.le_refl _, Int.natCast_nonneg _⟩]
  rfl
 ·rw [if_neg (by rw [decide_eq_true_eq]; exact hn)]
theorem Qt (xss : List (List A4)) (h : xss.flatten.length * 80 ≤ 140737488355328) (hl : xss.length ≤ 1000000000000000000) : Hw xss = some xss.flatten := by
 have hpre : ∀ i, (xss.take i).flatten.length ≤ xss.flatten.length := fun i => by
  have e : xss.flatten.length = (xss.take i).flatten.length + (xss.drop i).flatten.length := by
   rw [← List.length_append, ← List.flatten_append, List.take_append_drop]
  omega
 have hstep : ∀ i (hi : i < xss.length), (xss.take (i + 1)).flatten = (xss.take i).flatten ++ xss[i] := fun i hi => by
  rw [List.take_succ_eq_append_getElem hi, List.flatten_append]; simp
 obtain ⟨v, hv, rfl⟩ := He (f := Eo xss) (P := fun s => ∃ i, i ≤ xss.length ∧ s = (((xss.take i).flatten.length : Int), (i : Int))) (μ := fun s => xss.length - s.2.toNat) (R := fun v => v = (xss.flatten.length : Int)) (by
  rintro _ ⟨i, hi, rfl⟩
  rcases Nat.lt_or_ge i xss.length with hlt | hge
  ·left
   have h1 := hpre (i + 1)
   rw [hstep i hlt, List.length_append] at h1
   refine ⟨(((xss.take (i + 1)).flatten.length : Int), ((i + 1 : Nat) : Int)), ?_, ⟨i + 1, hlt, rfl⟩, by simp only [Int.toNat_natCast]; omega⟩
   unfold Eo
   rw [if_pos (decide_eq_true (by show (i : Int) < xss.length; omega))]
   dsimp only
   rw [Gy, List.getElem?_eq_getElem hlt, Option.bind_some, Dx (by omega) (by omega), Dx (by omega) (by omega), if_neg (by rw [decide_eq_true_eq]; omega), hstep i hlt, List.length_append, Int.natCast_add, Int.natCast_add]
   rfl
  ·right
   have e : i = xss.length := by omega
   subst e
   refine ⟨_, ?_, rfl⟩
   unfold Eo
   rw [if_neg (by rw [decide_eq_true_eq]; exact Int.lt_irrefl _), List.take_length]) fuel (0, 0) ⟨0, Nat.zero_le _, by simp⟩ (Hj (by show xss.length - 0 ≤ _; omega))
 obtain ⟨w, hw, rfl⟩ := He (f := Et xss) (P := fun s => ∃ i, i ≤ xss.length ∧ s = ((i : Int), (xss.take i).flatten)) (μ := fun s => xss.length - s.1.toNat) (R := fun v => v = xss.flatten) (by
  rintro _ ⟨i, hi, rfl⟩
  rcases Nat.lt_or_ge i xss.length with hlt | hge
  ·left
   have h1 := hpre (i + 1)
   rw [hstep i hlt, List.length_append] at h1
   refine ⟨(((i + 1 : Nat) : Int), (xss.take (i + 1)).flatten), ?_, ⟨i + 1, hlt, rfl⟩, by simp only [Int.toNat_natCast]; omega⟩
   unfold Et
   rw [if_pos (decide_eq_true (by show (i : Int) < xss.length; omega))]
   dsimp only
   rw [Gy, List.getElem?_eq_getElem hlt, Option.bind_some, Dx (by omega) (by omega), if_pos (by omega), hstep i hlt, Int.natCast_add]
   rfl
  ·right
   have e : i = xss.length := by omega
   subst e
   refine ⟨_, ?_, rfl⟩
   unfold Et
   rw [if_neg (by rw [decide_eq_true_eq]; exact Int.lt_irrefl _), List.take_length]) fuel (0, ([] : List A4)) ⟨0, Nat.zero_le _, by simp⟩ (Hj (by show xss.length - 0 ≤ _; omega))
 unfold Hw
 rw [hv, Option.bind_some]
 unfold H6
 rw [Sf _ (by omega) (by omega), Option.bind_some, hw, Option.bind_some]
 rfl
theorem Tm (xs : List UInt8) (h : xs.length * 1 ≤ 140737488355328) : J1 xs = some xs := by
 unfold J1
 rw [if_pos (by simpa using h)]
 rfl
theorem N4 (xs : List UInt8) (h : xs.length * 1 ≤ 140737488355328) : Hq xs = some xs := by
 unfold Hq
 rw [if_pos (by simpa using h)]
 rfl
theorem Rk (xs : List Av) (h : xs.length * 40 ≤ 140737488355328) : Ig xs = some xs := by
 unfold Ig
 rw [if_pos (by simpa using h)]
 rfl
end Go.Proofs.YtbjckaahoacbfaaGreatDoor.Abs
