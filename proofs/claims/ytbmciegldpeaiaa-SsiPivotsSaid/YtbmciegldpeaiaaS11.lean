/-
  The library's rows.
-/
import Derived.Test.YtbmciegldpeaiaaT11
import Derived.Test.YtbmciegldpeaiaaAbsB
namespace Go.Proofs.Ytbmciegldpeaiaa.Abs

theorem m59_slices_Growo_m (n : Int) (h0 : 0 ≤ n) (h1 : n * 64 ≤ 140737488355328) : m59_slices_Growo n = some [] := by
  unfold m59_slices_Growo
  rw [if_neg (by rw [decide_eq_true_eq]; omega)]
  unfold m59_slices_Growo_k1
  rw [wI_id (n := 0 - 0) (by decide) (by decide), show n - (0 - 0) = n from by omega, wI_id (by omega) (by omega)]
  by_cases hn : 0 < n
  · rw [if_pos (decide_eq_true hn), if_pos ⟨hn, by omega⟩, if_pos ⟨Int.le_refl _, Int.natCast_nonneg _⟩]
    rfl
  · rw [if_neg (by rw [decide_eq_true_eq]; exact hn)]
theorem m38_slices_Concat_m (xss : List (List GSsiTx)) (h : xss.flatten.length * 64 ≤ 140737488355328) (hl : xss.length ≤ 1000000000000000000) : m38_slices_Concat xss = some xss.flatten := by
  have hpre : ∀ i, (xss.take i).flatten.length ≤ xss.flatten.length := fun i => by
    have e : xss.flatten.length = (xss.take i).flatten.length + (xss.drop i).flatten.length := by
      rw [← List.length_append, ← List.flatten_append, List.take_append_drop]
    omega
  have hstep : ∀ i (hi : i < xss.length), (xss.take (i + 1)).flatten = (xss.take i).flatten ++ xss[i] := fun i hi => by
    rw [List.take_succ_eq_append_getElem hi, List.flatten_append]; simp
  obtain ⟨v, hv, rfl⟩ := iterB_inv (f := m38_slices_Concat_s8 xss) (P := fun s => ∃ i, i ≤ xss.length ∧ s = (((xss.take i).flatten.length : Int), (i : Int))) (μ := fun s => xss.length - s.2.toNat) (R := fun v => v = (xss.flatten.length : Int)) (by
    rintro _ ⟨i, hi, rfl⟩
    rcases Nat.lt_or_ge i xss.length with hlt | hge
    · left
      have h1 := hpre (i + 1)
      rw [hstep i hlt, List.length_append] at h1
      refine ⟨(((xss.take (i + 1)).flatten.length : Int), ((i + 1 : Nat) : Int)), ?_, ⟨i + 1, hlt, rfl⟩, by simp only [Int.toNat_natCast]; omega⟩
      unfold m38_slices_Concat_s8
      rw [if_pos (decide_eq_true (by show (i : Int) < xss.length; omega))]
      dsimp only
      rw [idx_nat, List.getElem?_eq_getElem hlt, Option.bind_some, wI_id (by omega) (by omega), wI_id (by omega) (by omega), if_neg (by rw [decide_eq_true_eq]; omega), hstep i hlt, List.length_append, Int.natCast_add, Int.natCast_add]
      rfl
    · right
      have e : i = xss.length := by omega
      subst e
      refine ⟨_, ?_, rfl⟩
      unfold m38_slices_Concat_s8
      rw [if_neg (by rw [decide_eq_true_eq]; exact Int.lt_irrefl _), List.take_length]) fuel (0, 0) ⟨0, Nat.zero_le _, by simp⟩ (lt_fuel (by show xss.length - 0 ≤ _; omega))
  obtain ⟨w, hw, rfl⟩ := iterB_inv (f := m38_slices_Concat_s4 xss) (P := fun s => ∃ i, i ≤ xss.length ∧ s = ((i : Int), (xss.take i).flatten)) (μ := fun s => xss.length - s.1.toNat) (R := fun v => v = xss.flatten) (by
    rintro _ ⟨i, hi, rfl⟩
    rcases Nat.lt_or_ge i xss.length with hlt | hge
    · left
      have h1 := hpre (i + 1)
      rw [hstep i hlt, List.length_append] at h1
      refine ⟨(((i + 1 : Nat) : Int), (xss.take (i + 1)).flatten), ?_, ⟨i + 1, hlt, rfl⟩, by simp only [Int.toNat_natCast]; omega⟩
      unfold m38_slices_Concat_s4
      rw [if_pos (decide_eq_true (by show (i : Int) < xss.length; omega))]
      dsimp only
      rw [idx_nat, List.getElem?_eq_getElem hlt, Option.bind_some, wI_id (by omega) (by omega), if_pos (by omega), hstep i hlt, Int.natCast_add]
      rfl
    · right
      have e : i = xss.length := by omega
      subst e
      refine ⟨_, ?_, rfl⟩
      unfold m38_slices_Concat_s4
      rw [if_neg (by rw [decide_eq_true_eq]; exact Int.lt_irrefl _), List.take_length]) fuel (0, ([] : List GSsiTx)) ⟨0, Nat.zero_le _, by simp⟩ (lt_fuel (by show xss.length - 0 ≤ _; omega))
  unfold m38_slices_Concat
  rw [hv, Option.bind_some]
  unfold m38_slices_Concat_k1
  rw [m59_slices_Growo_m _ (by omega) (by omega), Option.bind_some, hw, Option.bind_some]
  rfl

theorem m73_slices_Growo_m (n : Int) (h0 : 0 ≤ n) (h1 : n * 64 ≤ 140737488355328) : m73_slices_Growo n = some [] := by
  unfold m73_slices_Growo
  rw [if_neg (by rw [decide_eq_true_eq]; omega)]
  unfold m73_slices_Growo_k1
  rw [wI_id (n := 0 - 0) (by decide) (by decide), show n - (0 - 0) = n from by omega, wI_id (by omega) (by omega)]
  by_cases hn : 0 < n
  · rw [if_pos (decide_eq_true hn), if_pos ⟨hn, by omega⟩, if_pos ⟨Int.le_refl _, Int.natCast_nonneg _⟩]
    rfl
  · rw [if_neg (by rw [decide_eq_true_eq]; exact hn)]
theorem m61_slices_Concato_m (xss : List (List GReadsRead)) (h : xss.flatten.length * 64 ≤ 140737488355328) (hl : xss.length ≤ 1000000000000000000) : m61_slices_Concato xss = some xss.flatten := by
  have hpre : ∀ i, (xss.take i).flatten.length ≤ xss.flatten.length := fun i => by
    have e : xss.flatten.length = (xss.take i).flatten.length + (xss.drop i).flatten.length := by
      rw [← List.length_append, ← List.flatten_append, List.take_append_drop]
    omega
  have hstep : ∀ i (hi : i < xss.length), (xss.take (i + 1)).flatten = (xss.take i).flatten ++ xss[i] := fun i hi => by
    rw [List.take_succ_eq_append_getElem hi, List.flatten_append]; simp
  obtain ⟨v, hv, rfl⟩ := iterB_inv (f := m61_slices_Concato_s8 xss) (P := fun s => ∃ i, i ≤ xss.length ∧ s = (((xss.take i).flatten.length : Int), (i : Int))) (μ := fun s => xss.length - s.2.toNat) (R := fun v => v = (xss.flatten.length : Int)) (by
    rintro _ ⟨i, hi, rfl⟩
    rcases Nat.lt_or_ge i xss.length with hlt | hge
    · left
      have h1 := hpre (i + 1)
      rw [hstep i hlt, List.length_append] at h1
      refine ⟨(((xss.take (i + 1)).flatten.length : Int), ((i + 1 : Nat) : Int)), ?_, ⟨i + 1, hlt, rfl⟩, by simp only [Int.toNat_natCast]; omega⟩
      unfold m61_slices_Concato_s8
      rw [if_pos (decide_eq_true (by show (i : Int) < xss.length; omega))]
      dsimp only
      rw [idx_nat, List.getElem?_eq_getElem hlt, Option.bind_some, wI_id (by omega) (by omega), wI_id (by omega) (by omega), if_neg (by rw [decide_eq_true_eq]; omega), hstep i hlt, List.length_append, Int.natCast_add, Int.natCast_add]
      rfl
    · right
      have e : i = xss.length := by omega
      subst e
      refine ⟨_, ?_, rfl⟩
      unfold m61_slices_Concato_s8
      rw [if_neg (by rw [decide_eq_true_eq]; exact Int.lt_irrefl _), List.take_length]) fuel (0, 0) ⟨0, Nat.zero_le _, by simp⟩ (lt_fuel (by show xss.length - 0 ≤ _; omega))
  obtain ⟨w, hw, rfl⟩ := iterB_inv (f := m61_slices_Concato_s4 xss) (P := fun s => ∃ i, i ≤ xss.length ∧ s = ((i : Int), (xss.take i).flatten)) (μ := fun s => xss.length - s.1.toNat) (R := fun v => v = xss.flatten) (by
    rintro _ ⟨i, hi, rfl⟩
    rcases Nat.lt_or_ge i xss.length with hlt | hge
    · left
      have h1 := hpre (i + 1)
      rw [hstep i hlt, List.length_append] at h1
      refine ⟨(((i + 1 : Nat) : Int), (xss.take (i + 1)).flatten), ?_, ⟨i + 1, hlt, rfl⟩, by simp only [Int.toNat_natCast]; omega⟩
      unfold m61_slices_Concato_s4
      rw [if_pos (decide_eq_true (by show (i : Int) < xss.length; omega))]
      dsimp only
      rw [idx_nat, List.getElem?_eq_getElem hlt, Option.bind_some, wI_id (by omega) (by omega), if_pos (by omega), hstep i hlt, Int.natCast_add]
      rfl
    · right
      have e : i = xss.length := by omega
      subst e
      refine ⟨_, ?_, rfl⟩
      unfold m61_slices_Concato_s4
      rw [if_neg (by rw [decide_eq_true_eq]; exact Int.lt_irrefl _), List.take_length]) fuel (0, ([] : List GReadsRead)) ⟨0, Nat.zero_le _, by simp⟩ (lt_fuel (by show xss.length - 0 ≤ _; omega))
  unfold m61_slices_Concato
  rw [hv, Option.bind_some]
  unfold m61_slices_Concato_k1
  rw [m73_slices_Growo_m _ (by omega) (by omega), Option.bind_some, hw, Option.bind_some]
  rfl

theorem m40_slices_Cloneo_m (xs : List GSsiTx) (h : xs.length * 64 ≤ 140737488355328) : m40_slices_Cloneo xs = some xs := by
  unfold m40_slices_Cloneo
  rw [if_pos (by simpa using h)]
  rfl

end Go.Proofs.Ytbmciegldpeaiaa.Abs
