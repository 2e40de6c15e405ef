/-
 The library's rows.
-/
import Derived.Test.YtbjckaahoacbfaaGreatDoorT21
import Derived.Test.YtbjckaahoacbfaaGreatDoorAbsC
set_option linter.unusedVariables false
set_option linter.unusedSimpArgs false
namespace Go.Proofs.YtbjckaahoacbfaaGreatDoor.Abs
theorem Td (n : Int) (h0 : 0 ≤ n) (h1 : n * 1 ≤ 140737488355328) : J2 n = some [] := by
 unfold J2
 rw [if_neg (by rw [decide_eq_true_eq]; omega)]
 unfold Jr
 rw [Dj (n := 0 - 0) (by decide) (by decide), show n - (0 - 0) = n from by omega, Dj (by omega) (by omega)]
 by_cases hn : 0 < n
 ·rw [if_pos (decide_eq_true hn), if_pos ⟨hn, by omega⟩, if_pos ⟨Int.le_refl _, Int.natCast_nonneg _⟩]
  rfl
 ·rw [if_neg (by rw [decide_eq_true_eq]; exact hn)]
theorem Iy (xss : List (List UInt8)) (h : xss.flatten.length * 1 ≤ 140737488355328) (hl : xss.length ≤ 1000000000000000000) : Eo xss = some xss.flatten := by
 have hpre : ∀ i, (xss.take i).flatten.length ≤ xss.flatten.length := fun i => by
  have e : xss.flatten.length = (xss.take i).flatten.length + (xss.drop i).flatten.length := by
   rw [← List.length_append, ← List.flatten_append, List.take_append_drop]
  omega
 have hstep : ∀ i (hi : i < xss.length), (xss.take (i + 1)).flatten = (xss.take i).flatten ++ xss[i] := fun i hi => by
  rw [List.take_succ_eq_append_getElem hi, List.flatten_append]; simp
 obtain ⟨v, hv, rfl⟩ := Hb (f := Fo xss) (P := fun s => ∃ i, i ≤ xss.length ∧ s = (((xss.take i).flatten.length : Int), (i : Int))) (μ := fun s => xss.length - s.2.toNat) (R := fun v => v = (xss.flatten.length : Int)) (by
  rintro _ ⟨i, hi, rfl⟩
  rcases Nat.lt_or_ge i xss.length with hlt | hge
  ·left
   have h1 := hpre (i + 1)
   rw [hstep i hlt, List.length_append] at h1
   refine ⟨(((xss.take (i + 1)).flatten.length : Int), ((i + 1 : Nat) : Int)), ?_, ⟨i + 1, hlt, rfl⟩, by simp only [Int.toNat_natCast]; omega⟩
   unfold Fo
   rw [if_pos (decide_eq_true (by show (i : Int) < xss.length; omega))]
   dsimp only
   rw [F4, List.getElem?_eq_getElem hlt, Option.bind_some, Dj (by omega) (by omega), Dj (by omega) (by omega), if_neg (by rw [decide_eq_true_eq]; omega), hstep i hlt, List.length_append, Int.natCast_add, Int.natCast_add]
   rfl
  ·right
   have e : i = xss.length := by omega
   subst e
   refine ⟨_, ?_, rfl⟩
   unfold Fo
   rw [if_neg (by rw [decide_eq_true_eq]; exact Int.lt_irrefl _), List.take_length]) Di (0, 0) ⟨0, Nat.zero_le _, by simp⟩ (Hh (by show xss.length - 0 ≤ _; omega))
 obtain ⟨w, hw, rfl⟩ := Hb (f := Fg xss) (P := fun s => ∃ i, i ≤ xss.length ∧ s = ((i : Int), (xss.take i).flatten)) (μ := fun s => xss.length - s.1.toNat) (R := fun v => v = xss.flatten) (by
  rintro _ ⟨i, hi, rfl⟩
  rcases Nat.lt_or_ge i xss.length with hlt | hge
  ·left
   have h1 := hpre (i + 1)
   rw [hstep i hlt, List.length_append] at h1
   refine ⟨(((i + 1 : Nat) : Int), (xss.take (i + 1)).flatten), ?_, ⟨i + 1, hlt, rfl⟩, by simp only [Int.toNat_natCast]; omega⟩
   unfold Fg
   rw [if_pos (decide_eq_true (by show (i : Int) < xss.length; omega))]
   dsimp only
   rw [F4, List.getElem?_eq_getElem hlt, Option.bind_some, Dj (by omega) (by omega), if_pos (by omega), hstep i hlt, Int.natCast_add]
   rfl
  ·right
   have e : i = xss.length := by omega
   subst e
   refine ⟨_, ?_, rfl⟩
   unfold Fg
   rw [if_neg (by rw [decide_eq_true_eq]; exact Int.lt_irrefl _), List.take_length]) Di (0, ([] : List UInt8)) ⟨0, Nat.zero_le _, by simp⟩ (Hh (by show xss.length - 0 ≤ _; omega))
 unfold Eo
 rw [hv, Option.bind_some]
 unfold Im
 rw [Td _ (by omega) (by omega), Option.bind_some, hw, Option.bind_some]
 rfl
theorem Sy (n : Int) (h0 : 0 ≤ n) (h1 : n * 96 ≤ 140737488355328) : Iz n = some [] := by
 unfold Iz
 rw [if_neg (by rw [decide_eq_true_eq]; omega)]
 unfold Iw
 rw [Dj (n := 0 - 0) (by decide) (by decide), show n - (0 - 0) = n from by omega, Dj (by omega) (by omega)]
 by_cases hn : 0 < n
 ·rw [if_pos (decide_eq_true hn), if_pos ⟨hn, by omega⟩, if_pos ⟨Int.le_refl _, Int.natCast_nonneg _⟩]
  rfl
 ·rw [if_neg (by rw [decide_eq_true_eq]; exact hn)]
theorem Qq (xss : List (List A8)) (h : xss.flatten.length * 96 ≤ 140737488355328) (hl : xss.length ≤ 1000000000000000000) : Hx xss = some xss.flatten := by
 have hpre : ∀ i, (xss.take i).flatten.length ≤ xss.flatten.length := fun i => by
  have e : xss.flatten.length = (xss.take i).flatten.length + (xss.drop i).flatten.length := by
   rw [← List.length_append, ← List.flatten_append, List.take_append_drop]
  omega
 have hstep : ∀ i (hi : i < xss.length), (xss.take (i + 1)).flatten = (xss.take i).flatten ++ xss[i] := fun i hi => by
  rw [List.take_succ_eq_append_getElem hi, List.flatten_append]; simp
 obtain ⟨v, hv, rfl⟩ := Hb (f := Ew xss) (P := fun s => ∃ i, i ≤ xss.length ∧ s = (((xss.take i).flatten.length : Int), (i : Int))) (μ := fun s => xss.length - s.2.toNat) (R := fun v => v = (xss.flatten.length : Int)) (by
  rintro _ ⟨i, hi, rfl⟩
  rcases Nat.lt_or_ge i xss.length with hlt | hge
  ·left
   have h1 := hpre (i + 1)
   rw [hstep i hlt, List.length_append] at h1
   refine ⟨(((xss.take (i + 1)).flatten.length : Int), ((i + 1 : Nat) : Int)), ?_, ⟨i + 1, hlt, rfl⟩, by simp only [Int.toNat_natCast]; omega⟩
   unfold Ew
   rw [if_pos (decide_eq_true (by show (i : Int) < xss.length; omega))]
   dsimp only
   rw [F4, List.getElem?_eq_getElem hlt, Option.bind_some, Dj (by omega) (by omega), Dj (by omega) (by omega), if_neg (by rw [decide_eq_true_eq]; omega), hstep i hlt, List.length_append, Int.natCast_add, Int.natCast_add]
   rfl
  ·right
   have e : i = xss.length := by omega
   subst e
   refine ⟨_, ?_, rfl⟩
   unfold Ew
   rw [if_neg (by rw [decide_eq_true_eq]; exact Int.lt_irrefl _), List.take_length]) Di (0, 0) ⟨0, Nat.zero_le _, by simp⟩ (Hh (by show xss.length - 0 ≤ _; omega))
 obtain ⟨w, hw, rfl⟩ := Hb (f := Es xss) (P := fun s => ∃ i, i ≤ xss.length ∧ s = ((i : Int), (xss.take i).flatten)) (μ := fun s => xss.length - s.1.toNat) (R := fun v => v = xss.flatten) (by
  rintro _ ⟨i, hi, rfl⟩
  rcases Nat.lt_or_ge i xss.length with hlt | hge
  ·left
   have h1 := hpre (i + 1)
   rw [hstep i hlt, List.length_append] at h1
   refine ⟨(((i + 1 : Nat) : Int), (xss.take (i + 1)).flatten), ?_, ⟨i + 1, hlt, rfl⟩, by simp only [Int.toNat_natCast]; omega⟩
   unfold Es
   rw [if_pos (decide_eq_true (by show (i : Int) < xss.length; omega))]
   dsimp only
   rw [F4, List.getElem?_eq_getElem hlt, Option.bind_some, Dj (by omega) (by omega), if_pos (by omega), hstep i hlt, Int.natCast_add]
   rfl
  ·right
   have e : i = xss.length := by omega
   subst e
   refine ⟨_, ?_, rfl⟩
   unfold Es
   rw [if_neg (by rw [decide_eq_true_eq]; exact Int.lt_irrefl _), List.take_length]) Di (0, ([] : List A8)) ⟨0, Nat.zero_le _, by simp⟩ (Hh (by show xss.length - 0 ≤ _; omega))
 unfold Hx
 rw [hv, Option.bind_some]
 unfold H6
 rw [Sy _ (by omega) (by omega), Option.bind_some, hw, Option.bind_some]
 rfl
theorem T4 (n : Int) (h0 : 0 ≤ n) (h1 : n * 40 ≤ 140737488355328) : Jw n = some [] := by
 unfold Jw
 rw [if_neg (by rw [decide_eq_true_eq]; omega)]
 unfold Jm
 rw [Dj (n := 0 - 0) (by decide) (by decide), show n - (0 - 0) = n from by omega, Dj (by omega) (by omega)]
 by_cases hn : 0 < n
 ·rw [if_pos (decide_eq_true hn), if_pos ⟨hn, by omega⟩, if_pos ⟨Int.le_refl _, Int.natCast_nonneg _⟩]
  rfl
 ·rw [if_neg (by rw [decide_eq_true_eq]; exact hn)]
theorem Rw (xss : List (List Aw)) (h : xss.flatten.length * 40 ≤ 140737488355328) (hl : xss.length ≤ 1000000000000000000) : Il xss = some xss.flatten := by
 have hpre : ∀ i, (xss.take i).flatten.length ≤ xss.flatten.length := fun i => by
  have e : xss.flatten.length = (xss.take i).flatten.length + (xss.drop i).flatten.length := by
   rw [← List.length_append, ← List.flatten_append, List.take_append_drop]
  omega
 have hstep : ∀ i (hi : i < xss.length), (xss.take (i + 1)).flatten = (xss.take i).flatten ++ xss[i] := fun i hi => by
  rw [List.take_succ_eq_append_getElem hi, List.flatten_append]; simp
 obtain ⟨v, hv, rfl⟩ := Hb (f := Fb xss) (P := fun s => ∃ i, i ≤ xss.length ∧ s = (((xss.take i).flatten.length : Int), (i : Int))) (μ := fun s => xss.length - s.2.toNat) (R := fun v => v = (xss.flatten.length : Int)) (by
  rintro _ ⟨i, hi, rfl⟩
  rcases Nat.lt_or_ge i xss.length with hlt | hge
  ·left
   have h1 := hpre (i + 1)
   rw [hstep i hlt, List.length_append] at h1
   refine ⟨(((xss.take (i + 1)).flatten.length : Int), ((i + 1 : Nat) : Int)), ?_, ⟨i + 1, hlt, rfl⟩, by simp only [Int.toNat_natCast]; omega⟩
   unfold Fb
   rw [if_pos (decide_eq_true (by show (i : Int) < xss.length; omega))]
   dsimp only
   rw [F4, List.getElem?_eq_getElem hlt, Option.bind_some, Dj (by omega) (by omega), Dj (by omega) (by omega), if_neg (by rw [decide_eq_true_eq]; omega), hstep i hlt, List.length_append, Int.natCast_add, Int.natCast_add]
   rfl
  ·right
   have e : i = xss.length := by omega
   subst e
   refine ⟨_, ?_, rfl⟩
   unfold Fb
   rw [if_neg (by rw [decide_eq_true_eq]; exact Int.lt_irrefl _), List.take_length]) Di (0, 0) ⟨0, Nat.zero_le _, by simp⟩ (Hh (by show xss.length - 0 ≤ _; omega))
 obtain ⟨w, hw, rfl⟩ := Hb (f := Fi xss) (P := fun s => ∃ i, i ≤ xss.length ∧ s = ((i : Int), (xss.take i).flatten)) (μ := fun s => xss.length - s.1.toNat) (R := fun v => v = xss.flatten) (by
  rintro _ ⟨i, hi, rfl⟩
  rcases Nat.lt_or_ge i xss.length with hlt | hge
  ·left
   have h1 := hpre (i + 1)
   rw [hstep i hlt, List.length_append] at h1
   refine ⟨(((i + 1 : Nat) : Int), (xss.take (i + 1)).flatten), ?_, ⟨i + 1, hlt, rfl⟩, by simp only [Int.toNat_natCast]; omega⟩
   unfold Fi
   rw [if_pos (decide_eq_true (by show (i : Int) < xss.length; omega))]
   dsimp only
   rw [F4, List.getElem?_eq_getElem hlt, Option.bind_some, Dj (by omega) (by omega), if_pos (by omega), hstep i hlt, Int.natCast_add]
   rfl
  ·right
   have e : i = xss.length := by omega
   subst e
   refine ⟨_, ?_, rfl⟩
   unfold Fi
   rw [if_neg (by rw [decide_eq_true_eq]; exact Int.lt_irrefl _), List.take_length]) Di (0, ([] : List Aw)) ⟨0, Nat.zero_le _, by simp⟩ (Hh (by show xss.length - 0 ≤ _; omega))
 unfold Il
 rw [hv, Option.bind_some]
 unfold Ii
 rw [T4 _ (by omega) (by omega), Option.bind_some, hw, Option.bind_some]
 rfl
theorem Sm (n : Int) (h0 : 0 ≤ n) (h1 : n * 80 ≤ 140737488355328) : I3 n = some [] := by
 unfold I3
 rw [if_neg (by rw [decide_eq_true_eq]; omega)]
 unfold Ix
 rw [Dj (n := 0 - 0) (by decide) (by decide), show n - (0 - 0) = n from by omega, Dj (by omega) (by omega)]
 by_cases hn : 0 < n
 ·rw [if_pos (decide_eq_true hn), if_pos ⟨hn, by omega⟩, if_pos ⟨Int.le_refl _, Int.natCast_nonneg _⟩]
  rfl
 ·rw [if_neg (by rw [decide_eq_true_eq]; exact hn)]
theorem Qj (xss : List (List A5)) (h : xss.flatten.length * 80 ≤ 140737488355328) (hl : xss.length ≤ 1000000000000000000) : Hy xss = some xss.flatten := by
 have hpre : ∀ i, (xss.take i).flatten.length ≤ xss.flatten.length := fun i => by
  have e : xss.flatten.length = (xss.take i).flatten.length + (xss.drop i).flatten.length := by
   rw [← List.length_append, ← List.flatten_append, List.take_append_drop]
  omega
 have hstep : ∀ i (hi : i < xss.length), (xss.take (i + 1)).flatten = (xss.take i).flatten ++ xss[i] := fun i hi => by
  rw [List.take_succ_eq_append_getElem hi, List.flatten_append]; simp
 obtain ⟨v, hv, rfl⟩ := Hb (f := Eu xss) (P := fun s => ∃ i, i ≤ xss.length ∧ s = (((xss.take i).flatten.length : Int), (i : Int))) (μ := fun s => xss.length - s.2.toNat) (R := fun v => v = (xss.flatten.length : Int)) (by
  rintro _ ⟨i, hi, rfl⟩
  rcases Nat.lt_or_ge i xss.length with hlt | hge
  ·left
   have h1 := hpre (i + 1)
   rw [hstep i hlt, List.length_append] at h1
   refine ⟨(((xss.take (i + 1)).flatten.length : Int), ((i + 1 : Nat) : Int)), ?_, ⟨i + 1, hlt, rfl⟩, by simp only [Int.toNat_natCast]; omega⟩
   unfold Eu
   rw [if_pos (decide_eq_true (by show (i : Int) < xss.length; omega))]
   dsimp only
   rw [F4, List.getElem?_eq_getElem hlt, Option.bind_some, Dj (by omega) (by omega), Dj (by omega) (by omega), if_neg (by rw [decide_eq_true_eq]; omega), hstep i hlt, List.length_append, Int.natCast_add, Int.natCast_add]
   rfl
  ·right
   have e : i = xss.length := by omega
   subst e
   refine ⟨_, ?_, rfl⟩
   unfold Eu
   rw [if_neg (by rw [decide_eq_true_eq]; exact Int.lt_irrefl _), List.take_length]) Di (0, 0) ⟨0, Nat.zero_le _, by simp⟩ (Hh (by show xss.length - 0 ≤ _; omega))
 obtain ⟨w, hw, rfl⟩ := Hb (f := Er xss) (P := fun s => ∃ i, i ≤ xss.length ∧ s = ((i : Int), (xss.take i).flatten)) (μ := fun s => xss.length - s.1.toNat) (R := fun v => v = xss.flatten) (by
  rintro _ ⟨i, hi, rfl⟩
  rcases Nat.lt_or_ge i xss.length with hlt | hge
  ·left
   have h1 := hpre (i + 1)
   rw [hstep i hlt, List.length_append] at h1
   refine ⟨(((i + 1 : Nat) : Int), (xss.take (i + 1)).flatten), ?_, ⟨i + 1, hlt, rfl⟩, by simp only [Int.toNat_natCast]; omega⟩
   unfold Er
   rw [if_pos (decide_eq_true (by show (i : Int) < xss.length; omega))]
   dsimp only
   rw [F4, List.getElem?_eq_getElem hlt, Option.bind_some, Dj (by omega) (by omega), if_pos (by omega), hstep i hlt, Int.natCast_add]
   rfl
  ·right
   have e : i = xss.length := by omega
   subst e
   refine ⟨_, ?_, rfl⟩
   unfold Er
   rw [if_neg (by rw [decide_eq_true_eq]; exact Int.lt_irrefl _), List.take_length]) Di (0, ([] : List A5)) ⟨0, Nat.zero_le _, by simp⟩ (Hh (by show xss.length - 0 ≤ _; omega))
 unfold Hy
 rw [hv, Option.bind_some]
 unfold H7
 rw [Sm _ (by omega) (by omega), Option.bind_some, hw, Option.bind_some]
 rfl
theorem Tc (xs : List UInt8) (h : xs.length * 1 ≤ 140737488355328) : Jv xs = some xs := by
 unfold Jv
 rw [if_pos (by simpa using h)]
 rfl
theorem N7 (xs : List UInt8) (h : xs.length * 1 ≤ 140737488355328) : Hq xs = some xs := by
 unfold Hq
 rw [if_pos (by simpa using h)]
 rfl
theorem Rs (xs : List Aw) (h : xs.length * 40 ≤ 140737488355328) : Ic xs = some xs := by
 unfold Ic
 rw [if_pos (by simpa using h)]
 rfl
end Go.Proofs.YtbjckaahoacbfaaGreatDoor.Abs
