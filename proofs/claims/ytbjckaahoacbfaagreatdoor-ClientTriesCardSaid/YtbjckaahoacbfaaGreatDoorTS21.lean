/-
 The library's rows.
-/
import Derived.Test.YtbjckaahoacbfaaGreatDoorTT21
import Derived.Test.YtbjckaahoacbfaaGreatDoorTAbsC
set_option linter.unusedVariables false
set_option linter.unusedSimpArgs false
namespace Go.Proofs.YtbjckaahoacbfaaGreatDoor.Abs
theorem T0 (n : Int) (h0 : 0 ≤ n) (h1 : n * 1 ≤ 140737488355328) : J2 n = some [] := by
 unfold J2
 rw [if_neg (by rw [decide_eq_true_eq]; omega)]
 unfold Jo
 rw [Dh (n := 0 - 0) (by decide) (by decide), show n - (0 - 0) = n from by omega, Dh (by omega) (by omega)]
 by_cases hn : 0 < n
 ·rw [if_pos (decide_eq_true hn), if_pos ⟨hn, by omega⟩, if_pos ⟨Int.le_refl _, Int.natCast_nonneg _⟩]
  rfl
 ·rw [if_neg (by rw [decide_eq_true_eq]; exact hn)]
theorem I1 (xss : List (List UInt8)) (h : xss.flatten.length * 1 ≤ 140737488355328) (hl : xss.length ≤ 1000000000000000000) : Eo xss = some xss.flatten := by
 have hpre : ∀ i, (xss.take i).flatten.length ≤ xss.flatten.length := fun i => by
  have e : xss.flatten.length = (xss.take i).flatten.length + (xss.drop i).flatten.length := by
   rw [← List.length_append, ← List.flatten_append, List.take_append_drop]
  omega
 have hstep : ∀ i (hi : i < xss.length), (xss.take (i + 1)).flatten = (xss.take i).flatten ++ xss[i] := fun i hi => by
  rw [List.take_succ_eq_append_getElem hi, List.flatten_append]; simp
 obtain ⟨v, hv, rfl⟩ := Gz (f := Fl xss) (P := fun s => ∃ i, i ≤ xss.length ∧ s = (((xss.take i).flatten.length : Int), (i : Int))) (μ := fun s => xss.length - s.2.toNat) (R := fun v => v = (xss.flatten.length : Int)) (by
  rintro _ ⟨i, hi, rfl⟩
  rcases Nat.lt_or_ge i xss.length with hlt | hge
  ·left
   have h1 := hpre (i + 1)
   rw [hstep i hlt, List.length_append] at h1
   refine ⟨(((xss.take (i + 1)).flatten.length : Int), ((i + 1 : Nat) : Int)), ?_, ⟨i + 1, hlt, rfl⟩, by simp only [Int.toNat_natCast]; omega⟩
   unfold Fl
   rw [if_pos (decide_eq_true (by show (i : Int) < xss.length; omega))]
   dsimp only
   rw [E3, List.getElem?_eq_getElem hlt, Option.bind_some, Dh (by omega) (by omega), Dh (by omega) (by omega), if_neg (by rw [decide_eq_true_eq]; omega), hstep i hlt, List.length_append, Int.natCast_add, Int.natCast_add]
   rfl
  ·right
   have e : i = xss.length := by omega
   subst e
   refine ⟨_, ?_, rfl⟩
   unfold Fl
   rw [if_neg (by rw [decide_eq_true_eq]; exact Int.lt_irrefl _), List.take_length]) fuel (0, 0) ⟨0, Nat.zero_le _, by simp⟩ (Hh (by show xss.length - 0 ≤ _; omega))
 obtain ⟨w, hw, rfl⟩ := Gz (f := Fg xss) (P := fun s => ∃ i, i ≤ xss.length ∧ s = ((i : Int), (xss.take i).flatten)) (μ := fun s => xss.length - s.1.toNat) (R := fun v => v = xss.flatten) (by
  rintro _ ⟨i, hi, rfl⟩
  rcases Nat.lt_or_ge i xss.length with hlt | hge
  ·left
   have h1 := hpre (i + 1)
   rw [hstep i hlt, List.length_append] at h1
   refine ⟨(((i + 1 : Nat) : Int), (xss.take (i + 1)).flatten), ?_, ⟨i + 1, hlt, rfl⟩, by simp only [Int.toNat_natCast]; omega⟩
   unfold Fg
   rw [if_pos (decide_eq_true (by show (i : Int) < xss.length; omega))]
   dsimp only
   rw [E3, List.getElem?_eq_getElem hlt, Option.bind_some, Dh (by omega) (by omega), if_pos (by omega), hstep i hlt, Int.natCast_add]
   rfl
  ·right
   have e : i = xss.length := by omega
   subst e
   refine ⟨_, ?_, rfl⟩
   unfold Fg
   rw [if_neg (by rw [decide_eq_true_eq]; exact Int.lt_irrefl _), List.take_length]) fuel (0, ([] : List UInt8)) ⟨0, Nat.zero_le _, by simp⟩ (Hh (by show xss.length - 0 ≤ _; omega))
 unfold Eo
 rw [hv, Option.bind_some]
 unfold Il
 rw [T0 _ (by omega) (by omega), Option.bind_some, hw, Option.bind_some]
 rfl
theorem Td (n : Int) (h0 : 0 ≤ n) (h1 : n * 96 ≤ 140737488355328) : Jb n = some [] := by
 unfold Jb
 rw [if_neg (by rw [decide_eq_true_eq]; omega)]
 unfold I2
 rw [Dh (n := 0 - 0) (by decide) (by decide), show n - (0 - 0) = n from by omega, Dh (by omega) (by omega)]
 by_cases hn : 0 < n
 ·rw [if_pos (decide_eq_true hn), if_pos ⟨hn, by omega⟩, if_pos ⟨Int.le_refl _, Int.natCast_nonneg _⟩]
  rfl
 ·rw [if_neg (by rw [decide_eq_true_eq]; exact hn)]
theorem Qs (xss : List (List A9)) (h : xss.flatten.length * 96 ≤ 140737488355328) (hl : xss.length ≤ 1000000000000000000) : H6 xss = some xss.flatten := by
 have hpre : ∀ i, (xss.take i).flatten.length ≤ xss.flatten.length := fun i => by
  have e : xss.flatten.length = (xss.take i).flatten.length + (xss.drop i).flatten.length := by
   rw [← List.length_append, ← List.flatten_append, List.take_append_drop]
  omega
 have hstep : ∀ i (hi : i < xss.length), (xss.take (i + 1)).flatten = (xss.take i).flatten ++ xss[i] := fun i hi => by
  rw [List.take_succ_eq_append_getElem hi, List.flatten_append]; simp
 obtain ⟨v, hv, rfl⟩ := Gz (f := Er xss) (P := fun s => ∃ i, i ≤ xss.length ∧ s = (((xss.take i).flatten.length : Int), (i : Int))) (μ := fun s => xss.length - s.2.toNat) (R := fun v => v = (xss.flatten.length : Int)) (by
  rintro _ ⟨i, hi, rfl⟩
  rcases Nat.lt_or_ge i xss.length with hlt | hge
  ·left
   have h1 := hpre (i + 1)
   rw [hstep i hlt, List.length_append] at h1
   refine ⟨(((xss.take (i + 1)).flatten.length : Int), ((i + 1 : Nat) : Int)), ?_, ⟨i + 1, hlt, rfl⟩, by simp only [Int.toNat_natCast]; omega⟩
   unfold Er
   rw [if_pos (decide_eq_true (by show (i : Int) < xss.length; omega))]
   dsimp only
   rw [E3, List.getElem?_eq_getElem hlt, Option.bind_some, Dh (by omega) (by omega), Dh (by omega) (by omega), if_neg (by rw [decide_eq_true_eq]; omega), hstep i hlt, List.length_append, Int.natCast_add, Int.natCast_add]
   rfl
  ·right
   have e : i = xss.length := by omega
   subst e
   refine ⟨_, ?_, rfl⟩
   unfold Er
   rw [if_neg (by rw [decide_eq_true_eq]; exact Int.lt_irrefl _), List.take_length]) fuel (0, 0) ⟨0, Nat.zero_le _, by simp⟩ (Hh (by show xss.length - 0 ≤ _; omega))
 obtain ⟨w, hw, rfl⟩ := Gz (f := Et xss) (P := fun s => ∃ i, i ≤ xss.length ∧ s = ((i : Int), (xss.take i).flatten)) (μ := fun s => xss.length - s.1.toNat) (R := fun v => v = xss.flatten) (by
  rintro _ ⟨i, hi, rfl⟩
  rcases Nat.lt_or_ge i xss.length with hlt | hge
  ·left
   have h1 := hpre (i + 1)
   rw [hstep i hlt, List.length_append] at h1
   refine ⟨(((i + 1 : Nat) : Int), (xss.take (i + 1)).flatten), ?_, ⟨i + 1, hlt, rfl⟩, by simp only [Int.toNat_natCast]; omega⟩
   unfold Et
   rw [if_pos (decide_eq_true (by show (i : Int) < xss.length; omega))]
   dsimp only
   rw [E3, List.getElem?_eq_getElem hlt, Option.bind_some, Dh (by omega) (by omega), if_pos (by omega), hstep i hlt, Int.natCast_add]
   rfl
  ·right
   have e : i = xss.length := by omega
   subst e
   refine ⟨_, ?_, rfl⟩
   unfold Et
   rw [if_neg (by rw [decide_eq_true_eq]; exact Int.lt_irrefl _), List.take_length]) fuel (0, ([] : List A9)) ⟨0, Nat.zero_le _, by simp⟩ (Hh (by show xss.length - 0 ≤ _; omega))
 unfold H6
 rw [hv, Option.bind_some]
 unfold H8
 rw [Td _ (by omega) (by omega), Option.bind_some, hw, Option.bind_some]
 rfl
theorem T1 (n : Int) (h0 : 0 ≤ n) (h1 : n * 40 ≤ 140737488355328) : Jz n = some [] := by
 unfold Jz
 rw [if_neg (by rw [decide_eq_true_eq]; omega)]
 unfold Jr
 rw [Dh (n := 0 - 0) (by decide) (by decide), show n - (0 - 0) = n from by omega, Dh (by omega) (by omega)]
 by_cases hn : 0 < n
 ·rw [if_pos (decide_eq_true hn), if_pos ⟨hn, by omega⟩, if_pos ⟨Int.le_refl _, Int.natCast_nonneg _⟩]
  rfl
 ·rw [if_neg (by rw [decide_eq_true_eq]; exact hn)]
theorem Sd (xss : List (List As)) (h : xss.flatten.length * 40 ≤ 140737488355328) (hl : xss.length ≤ 1000000000000000000) : Ii xss = some xss.flatten := by
 have hpre : ∀ i, (xss.take i).flatten.length ≤ xss.flatten.length := fun i => by
  have e : xss.flatten.length = (xss.take i).flatten.length + (xss.drop i).flatten.length := by
   rw [← List.length_append, ← List.flatten_append, List.take_append_drop]
  omega
 have hstep : ∀ i (hi : i < xss.length), (xss.take (i + 1)).flatten = (xss.take i).flatten ++ xss[i] := fun i hi => by
  rw [List.take_succ_eq_append_getElem hi, List.flatten_append]; simp
 obtain ⟨v, hv, rfl⟩ := Gz (f := Fk xss) (P := fun s => ∃ i, i ≤ xss.length ∧ s = (((xss.take i).flatten.length : Int), (i : Int))) (μ := fun s => xss.length - s.2.toNat) (R := fun v => v = (xss.flatten.length : Int)) (by
  rintro _ ⟨i, hi, rfl⟩
  rcases Nat.lt_or_ge i xss.length with hlt | hge
  ·left
   have h1 := hpre (i + 1)
   rw [hstep i hlt, List.length_append] at h1
   refine ⟨(((xss.take (i + 1)).flatten.length : Int), ((i + 1 : Nat) : Int)), ?_, ⟨i + 1, hlt, rfl⟩, by simp only [Int.toNat_natCast]; omega⟩
   unfold Fk
   rw [if_pos (decide_eq_true (by show (i : Int) < xss.length; omega))]
   dsimp only
   rw [E3, List.getElem?_eq_getElem hlt, Option.bind_some, Dh (by omega) (by omega), Dh (by omega) (by omega), if_neg (by rw [decide_eq_true_eq]; omega), hstep i hlt, List.length_append, Int.natCast_add, Int.natCast_add]
   rfl
  ·right
   have e : i = xss.length := by omega
   subst e
   refine ⟨_, ?_, rfl⟩
   unfold Fk
   rw [if_neg (by rw [decide_eq_true_eq]; exact Int.lt_irrefl _), List.take_length]) fuel (0, 0) ⟨0, Nat.zero_le _, by simp⟩ (Hh (by show xss.length - 0 ≤ _; omega))
 obtain ⟨w, hw, rfl⟩ := Gz (f := Ff xss) (P := fun s => ∃ i, i ≤ xss.length ∧ s = ((i : Int), (xss.take i).flatten)) (μ := fun s => xss.length - s.1.toNat) (R := fun v => v = xss.flatten) (by
  rintro _ ⟨i, hi, rfl⟩
  rcases Nat.lt_or_ge i xss.length with hlt | hge
  ·left
   have h1 := hpre (i + 1)
   rw [hstep i hlt, List.length_append] at h1
   refine ⟨(((i + 1 : Nat) : Int), (xss.take (i + 1)).flatten), ?_, ⟨i + 1, hlt, rfl⟩, by simp only [Int.toNat_natCast]; omega⟩
   unfold Ff
   rw [if_pos (decide_eq_true (by show (i : Int) < xss.length; omega))]
   dsimp only
   rw [E3, List.getElem?_eq_getElem hlt, Option.bind_some, Dh (by omega) (by omega), if_pos (by omega), hstep i hlt, Int.natCast_add]
   rfl
  ·right
   have e : i = xss.length := by omega
   subst e
   refine ⟨_, ?_, rfl⟩
   unfold Ff
   rw [if_neg (by rw [decide_eq_true_eq]; exact Int.lt_irrefl _), List.take_length]) fuel (0, ([] : List As)) ⟨0, Nat.zero_le _, by simp⟩ (Hh (by show xss.length - 0 ≤ _; omega))
 unfold Ii
 rw [hv, Option.bind_some]
 unfold Im
 rw [T1 _ (by omega) (by omega), Option.bind_some, hw, Option.bind_some]
 rfl
theorem Tg (n : Int) (h0 : 0 ≤ n) (h1 : n * 80 ≤ 140737488355328) : I6 n = some [] := by
 unfold I6
 rw [if_neg (by rw [decide_eq_true_eq]; omega)]
 unfold I0
 rw [Dh (n := 0 - 0) (by decide) (by decide), show n - (0 - 0) = n from by omega, Dh (by omega) (by omega)]
 by_cases hn : 0 < n
 ·rw [if_pos (decide_eq_true hn), if_pos ⟨hn, by omega⟩, if_pos ⟨Int.le_refl _, Int.natCast_nonneg _⟩]
  rfl
 ·rw [if_neg (by rw [decide_eq_true_eq]; exact hn)]
theorem Rk (xss : List (List A6)) (h : xss.flatten.length * 80 ≤ 140737488355328) (hl : xss.length ≤ 1000000000000000000) : Hy xss = some xss.flatten := by
 have hpre : ∀ i, (xss.take i).flatten.length ≤ xss.flatten.length := fun i => by
  have e : xss.flatten.length = (xss.take i).flatten.length + (xss.drop i).flatten.length := by
   rw [← List.length_append, ← List.flatten_append, List.take_append_drop]
  omega
 have hstep : ∀ i (hi : i < xss.length), (xss.take (i + 1)).flatten = (xss.take i).flatten ++ xss[i] := fun i hi => by
  rw [List.take_succ_eq_append_getElem hi, List.flatten_append]; simp
 obtain ⟨v, hv, rfl⟩ := Gz (f := Eu xss) (P := fun s => ∃ i, i ≤ xss.length ∧ s = (((xss.take i).flatten.length : Int), (i : Int))) (μ := fun s => xss.length - s.2.toNat) (R := fun v => v = (xss.flatten.length : Int)) (by
  rintro _ ⟨i, hi, rfl⟩
  rcases Nat.lt_or_ge i xss.length with hlt | hge
  ·left
   have h1 := hpre (i + 1)
   rw [hstep i hlt, List.length_append] at h1
   refine ⟨(((xss.take (i + 1)).flatten.length : Int), ((i + 1 : Nat) : Int)), ?_, ⟨i + 1, hlt, rfl⟩, by simp only [Int.toNat_natCast]; omega⟩
   unfold Eu
   rw [if_pos (decide_eq_true (by show (i : Int) < xss.length; omega))]
   dsimp only
   rw [E3, List.getElem?_eq_getElem hlt, Option.bind_some, Dh (by omega) (by omega), Dh (by omega) (by omega), if_neg (by rw [decide_eq_true_eq]; omega), hstep i hlt, List.length_append, Int.natCast_add, Int.natCast_add]
   rfl
  ·right
   have e : i = xss.length := by omega
   subst e
   refine ⟨_, ?_, rfl⟩
   unfold Eu
   rw [if_neg (by rw [decide_eq_true_eq]; exact Int.lt_irrefl _), List.take_length]) fuel (0, 0) ⟨0, Nat.zero_le _, by simp⟩ (Hh (by show xss.length - 0 ≤ _; omega))
 obtain ⟨w, hw, rfl⟩ := Gz (f := Ex xss) (P := fun s => ∃ i, i ≤ xss.length ∧ s = ((i : Int), (xss.take i).flatten)) (μ := fun s => xss.length - s.1.toNat) (R := fun v => v = xss.flatten) (by
  rintro _ ⟨i, hi, rfl⟩
  rcases Nat.lt_or_ge i xss.length with hlt | hge
  ·left
   have h1 := hpre (i + 1)
   rw [hstep i hlt, List.length_append] at h1
   refine ⟨(((i + 1 : Nat) : Int), (xss.take (i + 1)).flatten), ?_, ⟨i + 1, hlt, rfl⟩, by simp only [Int.toNat_natCast]; omega⟩
   unfold Ex
   rw [if_pos (decide_eq_true (by show (i : Int) < xss.length; omega))]
   dsimp only
   rw [E3, List.getElem?_eq_getElem hlt, Option.bind_some, Dh (by omega) (by omega), if_pos (by omega), hstep i hlt, Int.natCast_add]
   rfl
  ·right
   have e : i = xss.length := by omega
   subst e
   refine ⟨_, ?_, rfl⟩
   unfold Ex
   rw [if_neg (by rw [decide_eq_true_eq]; exact Int.lt_irrefl _), List.take_length]) fuel (0, ([] : List A6)) ⟨0, Nat.zero_le _, by simp⟩ (Hh (by show xss.length - 0 ≤ _; omega))
 unfold Hy
 rw [hv, Option.bind_some]
 unfold Ia
 rw [Tg _ (by omega) (by omega), Option.bind_some, hw, Option.bind_some]
 rfl
theorem Tq (xs : List UInt8) (h : xs.length * 1 ≤ 140737488355328) : Jy xs = some xs := by
 unfold Jy
 rw [if_pos (by simpa using h)]
 rfl
theorem Oj (xs : List UInt8) (h : xs.length * 1 ≤ 140737488355328) : Ho xs = some xs := by
 unfold Ho
 rw [if_pos (by simpa using h)]
 rfl
theorem Rv (xs : List As) (h : xs.length * 40 ≤ 140737488355328) : Ip xs = some xs := by
 unfold Ip
 rw [if_pos (by simpa using h)]
 rfl
end Go.Proofs.YtbjckaahoacbfaaGreatDoor.Abs
