/- . -/
import Derived.Test.YtbjckaahoacbfaaGreatDoorST21
import Derived.Test.YtbjckaahoacbfaaGreatDoorSAbsC
namespace Go.Proofs.YtbjckaahoacbfaaGreatDoor.Abs
theorem Vq (n : Int) (h0 : 0 ≤ n) (h1 : n * 1 ≤ 140737488355328) : K0 n = some [] := by
 unfold K0
 rw [if_neg (by rw [decide_eq_true_eq]; omega)]
 unfold Kr
 rw [Dl (n := 0 - 0) (by decide) (by decide), show n - (0 - 0) = n from by omega, Dl (by omega) (by omega)]
 by_cases hn : 0 < n
 ·rw [if_pos (decide_eq_true hn), if_pos ⟨hn, by omega⟩, if_pos ⟨Int.le_refl _, Int.natCast_nonneg _⟩]
  rfl
 ·rw [if_neg (by rw [decide_eq_true_eq]; exact hn)]
theorem Jp (xss : List (List UInt8)) (h : xss.flatten.length * 1 ≤ 140737488355328) (hl : xss.length ≤ 1000000000000000000) : E1 xss = some xss.flatten := by
 have hpre : ∀ i, (xss.take i).flatten.length ≤ xss.flatten.length := fun i => by
  have e : xss.flatten.length = (xss.take i).flatten.length + (xss.drop i).flatten.length := by
   rw [← List.length_append, ← List.flatten_append, List.take_append_drop]
  omega
 have hstep : ∀ i (hi : i < xss.length), (xss.take (i + 1)).flatten = (xss.take i).flatten ++ xss[i] := fun i hi => by
  rw [List.take_succ_eq_append_getElem hi, List.flatten_append]; simp
 obtain ⟨v, hv, rfl⟩ := Ft (f := Fw xss) (P := fun s => ∃ i, i ≤ xss.length ∧ s = (((xss.take i).flatten.length : Int), (i : Int))) (μ := fun s => xss.length - s.2.toNat) (R := fun v => v = (xss.flatten.length : Int)) (by
  rintro _ ⟨i, hi, rfl⟩
  rcases Nat.lt_or_ge i xss.length with hlt | hge
  ·left
   have h1 := hpre (i + 1)
   rw [hstep i hlt, List.length_append] at h1
   refine ⟨(((xss.take (i + 1)).flatten.length : Int), ((i + 1 : Nat) : Int)), ?_, ⟨i + 1, hlt, rfl⟩, by simp only [Int.toNat_natCast]; omega⟩
   unfold Fw
   rw [if_pos (decide_eq_true (by show (i : Int) < xss.length; omega))]
   dsimp only
   rw [Ed, List.getElem?_eq_getElem hlt, Option.bind_some, Dl (by omega) (by omega), Dl (by omega) (by omega), if_neg (by rw [decide_eq_true_eq]; omega), hstep i hlt, List.length_append, Int.natCast_add, Int.natCast_add]
   rfl
  ·right
   have e : i = xss.length := by omega
   subst e
   refine ⟨_, ?_, rfl⟩
   unfold Fw
   rw [if_neg (by rw [decide_eq_true_eq]; exact Int.lt_irrefl _), List.take_length]) fuel (0, 0) ⟨0, Nat.zero_le _, by simp⟩ (Gz (by show xss.length - 0 ≤ _; omega))
 obtain ⟨w, hw, rfl⟩ := Ft (f := F1 xss) (P := fun s => ∃ i, i ≤ xss.length ∧ s = ((i : Int), (xss.take i).flatten)) (μ := fun s => xss.length - s.1.toNat) (R := fun v => v = xss.flatten) (by
  rintro _ ⟨i, hi, rfl⟩
  rcases Nat.lt_or_ge i xss.length with hlt | hge
  ·left
   have h1 := hpre (i + 1)
   rw [hstep i hlt, List.length_append] at h1
   refine ⟨(((i + 1 : Nat) : Int), (xss.take (i + 1)).flatten), ?_, ⟨i + 1, hlt, rfl⟩, by simp only [Int.toNat_natCast]; omega⟩
   unfold F1
   rw [if_pos (decide_eq_true (by show (i : Int) < xss.length; omega))]
   dsimp only
   rw [Ed, List.getElem?_eq_getElem hlt, Option.bind_some, Dl (by omega) (by omega), if_pos (by omega), hstep i hlt, Int.natCast_add]
   rfl
  ·right
   have e : i = xss.length := by omega
   subst e
   refine ⟨_, ?_, rfl⟩
   unfold F1
   rw [if_neg (by rw [decide_eq_true_eq]; exact Int.lt_irrefl _), List.take_length]) fuel (0, ([] : List UInt8)) ⟨0, Nat.zero_le _, by simp⟩ (Gz (by show xss.length - 0 ≤ _; omega))
 unfold E1
 rw [hv, Option.bind_some]
 unfold Ja
 rw [Vq _ (by omega) (by omega), Option.bind_some, hw, Option.bind_some]
 rfl
theorem Uu (n : Int) (h0 : 0 ≤ n) (h1 : n * 96 ≤ 140737488355328) : Jz n = some [] := by
 unfold Jz
 rw [if_neg (by rw [decide_eq_true_eq]; omega)]
 unfold Jo
 rw [Dl (n := 0 - 0) (by decide) (by decide), show n - (0 - 0) = n from by omega, Dl (by omega) (by omega)]
 by_cases hn : 0 < n
 ·rw [if_pos (decide_eq_true hn), if_pos ⟨hn, by omega⟩, if_pos ⟨Int.le_refl _, Int.natCast_nonneg _⟩]
  rfl
 ·rw [if_neg (by rw [decide_eq_true_eq]; exact hn)]
theorem Tr (xss : List (List A8)) (h : xss.flatten.length * 96 ≤ 140737488355328) (hl : xss.length ≤ 1000000000000000000) : Ip xss = some xss.flatten := by
 have hpre : ∀ i, (xss.take i).flatten.length ≤ xss.flatten.length := fun i => by
  have e : xss.flatten.length = (xss.take i).flatten.length + (xss.drop i).flatten.length := by
   rw [← List.length_append, ← List.flatten_append, List.take_append_drop]
  omega
 have hstep : ∀ i (hi : i < xss.length), (xss.take (i + 1)).flatten = (xss.take i).flatten ++ xss[i] := fun i hi => by
  rw [List.take_succ_eq_append_getElem hi, List.flatten_append]; simp
 obtain ⟨v, hv, rfl⟩ := Ft (f := E4 xss) (P := fun s => ∃ i, i ≤ xss.length ∧ s = (((xss.take i).flatten.length : Int), (i : Int))) (μ := fun s => xss.length - s.2.toNat) (R := fun v => v = (xss.flatten.length : Int)) (by
  rintro _ ⟨i, hi, rfl⟩
  rcases Nat.lt_or_ge i xss.length with hlt | hge
  ·left
   have h1 := hpre (i + 1)
   rw [hstep i hlt, List.length_append] at h1
   refine ⟨(((xss.take (i + 1)).flatten.length : Int), ((i + 1 : Nat) : Int)), ?_, ⟨i + 1, hlt, rfl⟩, by simp only [Int.toNat_natCast]; omega⟩
   unfold E4
   rw [if_pos (decide_eq_true (by show (i : Int) < xss.length; omega))]
   dsimp only
   rw [Ed, List.getElem?_eq_getElem hlt, Option.bind_some, Dl (by omega) (by omega), Dl (by omega) (by omega), if_neg (by rw [decide_eq_true_eq]; omega), hstep i hlt, List.length_append, Int.natCast_add, Int.natCast_add]
   rfl
  ·right
   have e : i = xss.length := by omega
   subst e
   refine ⟨_, ?_, rfl⟩
   unfold E4
   rw [if_neg (by rw [decide_eq_true_eq]; exact Int.lt_irrefl _), List.take_length]) fuel (0, 0) ⟨0, Nat.zero_le _, by simp⟩ (Gz (by show xss.length - 0 ≤ _; omega))
 obtain ⟨w, hw, rfl⟩ := Ft (f := E8 xss) (P := fun s => ∃ i, i ≤ xss.length ∧ s = ((i : Int), (xss.take i).flatten)) (μ := fun s => xss.length - s.1.toNat) (R := fun v => v = xss.flatten) (by
  rintro _ ⟨i, hi, rfl⟩
  rcases Nat.lt_or_ge i xss.length with hlt | hge
  ·left
   have h1 := hpre (i + 1)
   rw [hstep i hlt, List.length_append] at h1
   refine ⟨(((i + 1 : Nat) : Int), (xss.take (i + 1)).flatten), ?_, ⟨i + 1, hlt, rfl⟩, by simp only [Int.toNat_natCast]; omega⟩
   unfold E8
   rw [if_pos (decide_eq_true (by show (i : Int) < xss.length; omega))]
   dsimp only
   rw [Ed, List.getElem?_eq_getElem hlt, Option.bind_some, Dl (by omega) (by omega), if_pos (by omega), hstep i hlt, Int.natCast_add]
   rfl
  ·right
   have e : i = xss.length := by omega
   subst e
   refine ⟨_, ?_, rfl⟩
   unfold E8
   rw [if_neg (by rw [decide_eq_true_eq]; exact Int.lt_irrefl _), List.take_length]) fuel (0, ([] : List A8)) ⟨0, Nat.zero_le _, by simp⟩ (Gz (by show xss.length - 0 ≤ _; omega))
 unfold Ip
 rw [hv, Option.bind_some]
 unfold Iw
 rw [Uu _ (by omega) (by omega), Option.bind_some, hw, Option.bind_some]
 rfl
theorem Wi (n : Int) (h0 : 0 ≤ n) (h1 : n * 40 ≤ 140737488355328) : Ky n = some [] := by
 unfold Ky
 rw [if_neg (by rw [decide_eq_true_eq]; omega)]
 unfold Km
 rw [Dl (n := 0 - 0) (by decide) (by decide), show n - (0 - 0) = n from by omega, Dl (by omega) (by omega)]
 by_cases hn : 0 < n
 ·rw [if_pos (decide_eq_true hn), if_pos ⟨hn, by omega⟩, if_pos ⟨Int.le_refl _, Int.natCast_nonneg _⟩]
  rfl
 ·rw [if_neg (by rw [decide_eq_true_eq]; exact hn)]
theorem Ue (xss : List (List Am)) (h : xss.flatten.length * 40 ≤ 140737488355328) (hl : xss.length ≤ 1000000000000000000) : Jb xss = some xss.flatten := by
 have hpre : ∀ i, (xss.take i).flatten.length ≤ xss.flatten.length := fun i => by
  have e : xss.flatten.length = (xss.take i).flatten.length + (xss.drop i).flatten.length := by
   rw [← List.length_append, ← List.flatten_append, List.take_append_drop]
  omega
 have hstep : ∀ i (hi : i < xss.length), (xss.take (i + 1)).flatten = (xss.take i).flatten ++ xss[i] := fun i hi => by
  rw [List.take_succ_eq_append_getElem hi, List.flatten_append]; simp
 obtain ⟨v, hv, rfl⟩ := Ft (f := Fq xss) (P := fun s => ∃ i, i ≤ xss.length ∧ s = (((xss.take i).flatten.length : Int), (i : Int))) (μ := fun s => xss.length - s.2.toNat) (R := fun v => v = (xss.flatten.length : Int)) (by
  rintro _ ⟨i, hi, rfl⟩
  rcases Nat.lt_or_ge i xss.length with hlt | hge
  ·left
   have h1 := hpre (i + 1)
   rw [hstep i hlt, List.length_append] at h1
   refine ⟨(((xss.take (i + 1)).flatten.length : Int), ((i + 1 : Nat) : Int)), ?_, ⟨i + 1, hlt, rfl⟩, by simp only [Int.toNat_natCast]; omega⟩
   unfold Fq
   rw [if_pos (decide_eq_true (by show (i : Int) < xss.length; omega))]
   dsimp only
   rw [Ed, List.getElem?_eq_getElem hlt, Option.bind_some, Dl (by omega) (by omega), Dl (by omega) (by omega), if_neg (by rw [decide_eq_true_eq]; omega), hstep i hlt, List.length_append, Int.natCast_add, Int.natCast_add]
   rfl
  ·right
   have e : i = xss.length := by omega
   subst e
   refine ⟨_, ?_, rfl⟩
   unfold Fq
   rw [if_neg (by rw [decide_eq_true_eq]; exact Int.lt_irrefl _), List.take_length]) fuel (0, 0) ⟨0, Nat.zero_le _, by simp⟩ (Gz (by show xss.length - 0 ≤ _; omega))
 obtain ⟨w, hw, rfl⟩ := Ft (f := Fu xss) (P := fun s => ∃ i, i ≤ xss.length ∧ s = ((i : Int), (xss.take i).flatten)) (μ := fun s => xss.length - s.1.toNat) (R := fun v => v = xss.flatten) (by
  rintro _ ⟨i, hi, rfl⟩
  rcases Nat.lt_or_ge i xss.length with hlt | hge
  ·left
   have h1 := hpre (i + 1)
   rw [hstep i hlt, List.length_append] at h1
   refine ⟨(((i + 1 : Nat) : Int), (xss.take (i + 1)).flatten), ?_, ⟨i + 1, hlt, rfl⟩, by simp only [Int.toNat_natCast]; omega⟩
   unfold Fu
   rw [if_pos (decide_eq_true (by show (i : Int) < xss.length; omega))]
   dsimp only
   rw [Ed, List.getElem?_eq_getElem hlt, Option.bind_some, Dl (by omega) (by omega), if_pos (by omega), hstep i hlt, Int.natCast_add]
   rfl
  ·right
   have e : i = xss.length := by omega
   subst e
   refine ⟨_, ?_, rfl⟩
   unfold Fu
   rw [if_neg (by rw [decide_eq_true_eq]; exact Int.lt_irrefl _), List.take_length]) fuel (0, ([] : List Am)) ⟨0, Nat.zero_le _, by simp⟩ (Gz (by show xss.length - 0 ≤ _; omega))
 unfold Jb
 rw [hv, Option.bind_some]
 unfold I5
 rw [Wi _ (by omega) (by omega), Option.bind_some, hw, Option.bind_some]
 rfl
theorem Vh (n : Int) (h0 : 0 ≤ n) (h1 : n * 80 ≤ 140737488355328) : Ka n = some [] := by
 unfold Ka
 rw [if_neg (by rw [decide_eq_true_eq]; omega)]
 unfold Jl
 rw [Dl (n := 0 - 0) (by decide) (by decide), show n - (0 - 0) = n from by omega, Dl (by omega) (by omega)]
 by_cases hn : 0 < n
 ·rw [if_pos (decide_eq_true hn), if_pos ⟨hn, by omega⟩, if_pos ⟨Int.le_refl _, Int.natCast_nonneg _⟩]
  rfl
 ·rw [if_neg (by rw [decide_eq_true_eq]; exact hn)]
theorem Tb (xss : List (List A9)) (h : xss.flatten.length * 80 ≤ 140737488355328) (hl : xss.length ≤ 1000000000000000000) : Iu xss = some xss.flatten := by
 have hpre : ∀ i, (xss.take i).flatten.length ≤ xss.flatten.length := fun i => by
  have e : xss.flatten.length = (xss.take i).flatten.length + (xss.drop i).flatten.length := by
   rw [← List.length_append, ← List.flatten_append, List.take_append_drop]
  omega
 have hstep : ∀ i (hi : i < xss.length), (xss.take (i + 1)).flatten = (xss.take i).flatten ++ xss[i] := fun i hi => by
  rw [List.take_succ_eq_append_getElem hi, List.flatten_append]; simp
 obtain ⟨v, hv, rfl⟩ := Ft (f := E7 xss) (P := fun s => ∃ i, i ≤ xss.length ∧ s = (((xss.take i).flatten.length : Int), (i : Int))) (μ := fun s => xss.length - s.2.toNat) (R := fun v => v = (xss.flatten.length : Int)) (by
  rintro _ ⟨i, hi, rfl⟩
  rcases Nat.lt_or_ge i xss.length with hlt | hge
  ·left
   have h1 := hpre (i + 1)
   rw [hstep i hlt, List.length_append] at h1
   refine ⟨(((xss.take (i + 1)).flatten.length : Int), ((i + 1 : Nat) : Int)), ?_, ⟨i + 1, hlt, rfl⟩, by simp only [Int.toNat_natCast]; omega⟩
   unfold E7
   rw [if_pos (decide_eq_true (by show (i : Int) < xss.length; omega))]
   dsimp only
   rw [Ed, List.getElem?_eq_getElem hlt, Option.bind_some, Dl (by omega) (by omega), Dl (by omega) (by omega), if_neg (by rw [decide_eq_true_eq]; omega), hstep i hlt, List.length_append, Int.natCast_add, Int.natCast_add]
   rfl
  ·right
   have e : i = xss.length := by omega
   subst e
   refine ⟨_, ?_, rfl⟩
   unfold E7
   rw [if_neg (by rw [decide_eq_true_eq]; exact Int.lt_irrefl _), List.take_length]) fuel (0, 0) ⟨0, Nat.zero_le _, by simp⟩ (Gz (by show xss.length - 0 ≤ _; omega))
 obtain ⟨w, hw, rfl⟩ := Ft (f := E5 xss) (P := fun s => ∃ i, i ≤ xss.length ∧ s = ((i : Int), (xss.take i).flatten)) (μ := fun s => xss.length - s.1.toNat) (R := fun v => v = xss.flatten) (by
  rintro _ ⟨i, hi, rfl⟩
  rcases Nat.lt_or_ge i xss.length with hlt | hge
  ·left
   have h1 := hpre (i + 1)
   rw [hstep i hlt, List.length_append] at h1
   refine ⟨(((i + 1 : Nat) : Int), (xss.take (i + 1)).flatten), ?_, ⟨i + 1, hlt, rfl⟩, by simp only [Int.toNat_natCast]; omega⟩
   unfold E5
   rw [if_pos (decide_eq_true (by show (i : Int) < xss.length; omega))]
   dsimp only
   rw [Ed, List.getElem?_eq_getElem hlt, Option.bind_some, Dl (by omega) (by omega), if_pos (by omega), hstep i hlt, Int.natCast_add]
   rfl
  ·right
   have e : i = xss.length := by omega
   subst e
   refine ⟨_, ?_, rfl⟩
   unfold E5
   rw [if_neg (by rw [decide_eq_true_eq]; exact Int.lt_irrefl _), List.take_length]) fuel (0, ([] : List A9)) ⟨0, Nat.zero_le _, by simp⟩ (Gz (by show xss.length - 0 ≤ _; omega))
 unfold Iu
 rw [hv, Option.bind_some]
 unfold Iv
 rw [Vh _ (by omega) (by omega), Option.bind_some, hw, Option.bind_some]
 rfl
theorem Wd (xs : List UInt8) (h : xs.length * 1 ≤ 140737488355328) : Kz xs = some xs := by
 unfold Kz
 rw [if_pos (by simpa using h)]
 rfl
theorem Pu (xs : List UInt8) (h : xs.length * 1 ≤ 140737488355328) : Ib xs = some xs := by
 unfold Ib
 rw [if_pos (by simpa using h)]
 rfl
theorem T8 (xs : List Am) (h : xs.length * 40 ≤ 140737488355328) : I4 xs = some xs := by
 unfold I4
 rw [if_pos (by simpa using h)]
 rfl
end Go.Proofs.YtbjckaahoacbfaaGreatDoor.Abs
