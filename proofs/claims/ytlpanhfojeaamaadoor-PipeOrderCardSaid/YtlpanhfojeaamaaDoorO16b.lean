/-
  PipeOrder: rows turned round, and masks.
-/
import Derived.Test.YtlpanhfojeaamaaDoorT16
import Derived.Test.YtlpanhfojeaamaaDoorAbsC
namespace Go.Proofs.YtlpanhfojeaamaaDoor.Abs

/-! A row of k different numbers below k -/
structure PM (k : Nat) (l : List Int) : Prop where
  len : l.length = k
  ran : ∀ i (h : i < l.length), 0 ≤ l[i] ∧ l[i] < (k : Int)
  inj : ∀ i j (hi : i < l.length) (hj : j < l.length), l[i] = l[j] → i = j
  sur : ∀ j, j < k → ∃ i, ∃ h : i < l.length, l[i] = (j : Int)
def sw (a b i : Nat) : Nat := if i = b then a else if i = a then b else i
theorem sw_sw (a b i : Nat) : sw a b (sw a b i) = i := by
  unfold sw; repeat' split
  all_goals omega
theorem sw_lt {a b i n : Nat} (ha : a < n) (hb : b < n) (hi : i < n) : sw a b i < n := by
  unfold sw; repeat' split
  all_goals omega
theorem sw_get {l : List Int} {a b : Nat} (ha : a < l.length) (hb : b < l.length) (i : Nat) (hi : i < ((l.set a l[b]).set b l[a]).length) :
    ((l.set a l[b]).set b l[a])[i] = l[sw a b i]'(sw_lt ha hb (by simpa using hi)) := by
  rw [List.getElem_set]
  have hi' : i < l.length := by simpa using hi
  by_cases h1 : b = i
  · rw [if_pos h1]; simp only [sw, h1, if_true]
  · rw [if_neg h1, List.getElem_set]
    by_cases h2 : a = i
    · rw [if_pos h2]
      have : sw a b i = b := by unfold sw; rw [if_neg (fun h => h1 h.symm), if_pos h2.symm]
      simp only [this]
    · rw [if_neg h2]
      have : sw a b i = i := by unfold sw; rw [if_neg (fun h => h1 h.symm), if_neg (fun h => h2 h.symm)]
      simp only [this]
theorem PM.swap {k : Nat} {l : List Int} (h : PM k l) {a b : Nat} (ha : a < l.length) (hb : b < l.length) : PM k ((l.set a l[b]).set b l[a]) := by
  have hl : ((l.set a l[b]).set b l[a]).length = l.length := by simp
  refine ⟨by rw [hl]; exact h.len, fun i hi => ?_, fun i j hi hj he => ?_, fun j hj => ?_⟩
  · rw [sw_get ha hb]; exact h.ran _ _
  · rw [sw_get ha hb, sw_get ha hb] at he
    have := h.inj _ _ _ _ he
    rw [← sw_sw a b i, this, sw_sw]
  · obtain ⟨i, hi, e⟩ := h.sur j hj
    refine ⟨sw a b i, by rw [hl]; exact sw_lt ha hb hi, ?_⟩
    rw [sw_get ha hb]
    simp only [sw_sw]
    exact e

/-! Masks -/
def msk (l : List Int) : Nat := l.foldl (fun m x => m ||| 1 <<< x.toNat) 0
theorem msk_snoc (l : List Int) (x : Int) : msk (l ++ [x]) = msk l ||| 1 <<< x.toNat := by
  unfold msk; rw [List.foldl_append]; rfl
theorem bit1 (a j : Nat) : (1 <<< a).testBit j = decide (a = j) := by
  rw [Nat.shiftLeft_eq, Nat.one_mul, Nat.testBit_two_pow]
theorem msk_bit_aux (l : List Int) (j : Nat) : ∀ m, (l.foldl (fun m x => m ||| 1 <<< x.toNat) m).testBit j = (m.testBit j || l.any fun x => decide (x.toNat = j)) := by
  induction l with
  | nil => intro m; simp
  | cons x l ih =>
    intro m
    rw [List.foldl_cons, ih, Nat.testBit_or, bit1, List.any_cons, Bool.or_assoc]
theorem msk_bit (l : List Int) (j : Nat) : (msk l).testBit j = l.any fun x => decide (x.toNat = j) := by
  unfold msk; rw [msk_bit_aux]; simp
theorem msk_lt (l : List Int) (h : ∀ x ∈ l, x.toNat < 8) : msk l < 256 := by
  have : msk l < 2 ^ 8 := by
    apply Nat.lt_pow_two_of_testBit
    intro i hi
    rw [msk_bit]
    rw [List.any_eq_false]
    intro x hx
    have := h x hx
    simp only [decide_eq_true_eq]; omega
  exact this
theorem PM.full {k : Nat} {l : List Int} (h : PM k l) : msk l = 2 ^ k - 1 := by
  apply Nat.eq_of_testBit_eq
  intro j
  rw [msk_bit, Nat.testBit_two_pow_sub_one]
  by_cases hj : j < k
  · rw [decide_eq_true hj, List.any_eq_true]
    obtain ⟨i, hi, e⟩ := h.sur j hj
    exact ⟨l[i], List.getElem_mem hi, by rw [e]; simp⟩
  · rw [decide_eq_false hj, List.any_eq_false]
    intro x hx
    obtain ⟨i, hi, e⟩ := List.getElem_of_mem hx
    have := h.ran i hi
    rw [e] at this
    simp only [decide_eq_true_eq]; omega
theorem PM.fresh {k : Nat} {l : List Int} (h : PM k l) (i : Nat) (hi : i < l.length) : (msk (l.take i)).testBit (l[i]).toNat = false := by
  rw [msk_bit, List.any_eq_false]
  intro x hx
  simp only [decide_eq_true_eq]
  obtain ⟨j, hj, e⟩ := List.getElem_of_mem hx
  rw [List.getElem_take] at e
  have hj' : j < i ∧ j < l.length := by rw [List.length_take] at hj; omega
  intro he
  have r1 := h.ran i hi
  have r2 := h.ran j hj'.2
  rw [e] at r2
  have : l[j] = l[i] := by rw [e]; omega
  have := h.inj j i hj'.2 hi this
  omega
end Go.Proofs.YtlpanhfojeaamaaDoor.Abs
