/-
  What the texts of the keys are, beside the reference's.
-/
import Derived.Test.YtiadgkkebmclgaaC06c
namespace Go.Proofs.Ytiadgkkebmclgaa.Abs

theorem short_m (r : GApiRange) : ∃ v, m11_r06_Short r = some v ∧ (v = true → r.Lo.length ≤ 100 ∧ r.Hi.length ≤ 100) := by
  unfold m11_r06_Short
  by_cases h1 : (r.Lo.length : Int) ≤ 100
  · rw [if_pos (decide_eq_true h1)]
    exact ⟨_, rfl, fun h => ⟨by omega, by have := of_decide_eq_true h; omega⟩⟩
  · rw [if_neg (by rw [decide_eq_true_eq]; exact h1)]
    exact ⟨_, rfl, fun h => by cases h⟩
theorem saneK (k : List UInt8) : ∃ v, m25_keys_Sane k = some v ∧ m26_r06_Sane k = some v := by
  unfold m25_keys_Sane m26_r06_Sane
  by_cases h : (1 : Int) ≤ k.length
  · exact ⟨decide ((k.length : Int) ≤ 16), by rw [if_pos (decide_eq_true h)], by rw [if_pos (decide_eq_true h)]⟩
  · exact ⟨false, by rw [if_neg (by rw [decide_eq_true_eq]; exact h)], by rw [if_neg (by rw [decide_eq_true_eq]; exact h)]⟩
theorem saneR (r : GApiRange) : ∃ v, m27_keys_SaneRange r = some v ∧ m28_r06_SaneRange r = some v := by
  unfold m27_keys_SaneRange m28_r06_SaneRange
  by_cases h : (r.Lo.length : Int) ≤ 17
  · rw [if_pos (decide_eq_true h), if_pos (decide_eq_true h)]
    by_cases h2 : (r.Hi.length : Int) ≤ 17
    · rw [if_pos (decide_eq_true h2), if_pos (decide_eq_true h2)]
      cases r.Open with
      | false => exact ⟨true, rfl, rfl⟩
      | true =>
        refine ⟨_, rfl, ?_⟩
        rw [if_neg (by simp)]
        congr 1
        rw [← decide_not, decide_eq_decide]
        omega
    · exact ⟨false, by rw [if_neg (by rw [decide_eq_true_eq]; exact h2)], by rw [if_neg (by rw [decide_eq_true_eq]; exact h2)]⟩
  · exact ⟨false, by rw [if_neg (by rw [decide_eq_true_eq]; exact h)], by rw [if_neg (by rw [decide_eq_true_eq]; exact h)]⟩
theorem same_m (r : GApiRange) : m17_r06_SameRange r r = some true := by
  unfold m17_r06_SameRange
  rw [if_pos (by simp), if_pos (by simp)]
  simp
theorem meet_k3 (b2 : List UInt8) (b3 : List UInt8 × Bool) (h : b3.1.length ≤ 1000000) : ∃ v, m13_keys_Meet_k3 b2 b3 = some v ∧ m14_r06_Meet_k3 b2 b3 = some v := by
  unfold m13_keys_Meet_k3 m14_r06_Meet_k3
  rw [empty_m, rempty_m _ (by show b3.1.length ≤ _; omega)]
  simp only [Option.bind_some]
  cases emptyV ⟨b2, b3.1, b3.2⟩ with
  | true => exact ⟨_, rfl, rfl⟩
  | false => exact ⟨_, rfl, rfl⟩
theorem meet_k2 (a b : GApiRange) (l : List UInt8) (h1 : a.Hi.length ≤ 100) (h2 : b.Hi.length ≤ 100) : ∃ v, m13_keys_Meet_k2 a b l = some v ∧ m14_r06_Meet_k2 a b l = some v := by
  obtain ⟨alo, ahi, ao⟩ := a
  obtain ⟨blo, bhi, bo⟩ := b
  have q1 : ahi.length ≤ 100 := h1
  have q2 : bhi.length ≤ 100 := h2
  unfold m13_keys_Meet_k2 m14_r06_Meet_k2
  dsimp only
  rw [cmp_m, rcmp_m bhi ahi (by omega)]
  simp only [Option.bind_some]
  cases bo with
  | true => exact meet_k3 l (ahi, ao) (by show ahi.length ≤ _; omega)
  | false =>
    cases ao with
    | true => exact meet_k3 l (bhi, false) (by show bhi.length ≤ _; omega)
    | false =>
      by_cases hc : cmpL bhi ahi < 0
      · have := meet_k3 l (bhi, false) (by show bhi.length ≤ _; omega)
        simpa [hc] using this
      · have := meet_k3 l (ahi, false) (by show ahi.length ≤ _; omega)
        simpa [hc] using this
theorem meet_m (a b : GApiRange) (h1 : a.Lo.length ≤ 100 ∧ a.Hi.length ≤ 100) (h2 : b.Lo.length ≤ 100 ∧ b.Hi.length ≤ 100) : ∃ v, m13_keys_Meet a b = some v ∧ m14_r06_Meet a b = some v := by
  unfold m13_keys_Meet m14_r06_Meet
  rw [cmp_m, rcmp_m _ _ (by omega)]
  simp only [Option.bind_some]
  by_cases hc : 0 < cmpL b.Lo a.Lo
  · rw [if_pos (decide_eq_true hc), if_pos (decide_eq_true hc)]
    exact meet_k2 a b _ h1.2 h2.2
  · rw [if_neg (by rw [decide_eq_true_eq]; exact hc), if_neg (by rw [decide_eq_true_eq]; exact hc)]
    exact meet_k2 a b _ h1.2 h2.2

theorem keysIs_true (a0 a1 : List UInt8) (a2 a3 : GApiRange) (a4 : Keys) : m3_l06_KeysIs a0 a1 a2 a3 a4 = some true := by
  unfold m3_l06_KeysIs
  rw [awake06]
  simp only [Option.bind_some]
  by_cases h1 : (100 : Int) < a0.length
  · rw [if_pos (decide_eq_true h1)]
  rw [if_neg (by rw [decide_eq_true_eq]; exact h1)]
  by_cases h2 : (100 : Int) < a1.length
  · rw [if_pos (decide_eq_true h2)]
  rw [if_neg (by rw [decide_eq_true_eq]; exact h2)]
  obtain ⟨v2, e2, f2⟩ := short_m a2
  obtain ⟨v3, e3, f3⟩ := short_m a3
  obtain ⟨v4, e4, f4⟩ := few_m a4
  rw [e2]
  simp only [Option.bind_some]
  cases v2 with
  | false => rfl
  | true =>
  rw [if_neg (by simp), e3]
  simp only [Option.bind_some]
  cases v3 with
  | false => rfl
  | true =>
  rw [if_neg (by simp), e4]
  simp only [Option.bind_some]
  cases v4 with
  | false => rfl
  | true =>
  rw [if_neg (by simp)]
  have g2 := f2 rfl
  have g3 := f3 rfl
  obtain ⟨hn, hx⟩ := f4 rfl
  unfold m3_l06_KeysIs_k2
  obtain ⟨vm, em, em'⟩ := meet_m a2 a3 g2 g3
  rw [em, em', find_m _ _ (by omega), rfind_m _ _ (by omega) (fun x h => by have := hx x h; omega)]
  simp only [Option.bind_some]
  rw [same_m]
  simp only [Option.bind_some]
  rw [if_neg (by simp), if_neg (by simp), if_neg (by simp), if_neg (by simp)]
  rw [insert_m _ _ (by omega) (fun x h => by have := hx x h; omega) (by omega), rinsert_m _ _ (by omega) (fun x h => by have := hx x h; omega) (by omega)]
  simp only [Option.bind_some]
  rw [lists_m _ (by rw [ins_len]; split <;> omega)]
  simp only [Option.bind_some]
  rw [if_neg (by simp), one_m _ (by omega), rone_m _ (by omega)]
  simp only [Option.bind_some]
  rw [same_m]
  simp only [Option.bind_some]
  rw [if_neg (by simp)]
  unfold m3_l06_KeysIs_k7
  obtain ⟨vs, es, es'⟩ := saneK a0
  obtain ⟨vr, er, er'⟩ := saneR a2
  obtain ⟨vo, eo⟩ := sorted_some a4 (by omega)
  rw [cmp_m, rcmp_m _ _ (by omega), es, es', er, er', has_m, rhas_m _ _ (by omega), empty_m, rempty_m _ (by omega), rsorted_eq a4 (fun x h => by have := hx x h; omega), eo]
  simp
end Go.Proofs.Ytiadgkkebmclgaa.Abs
