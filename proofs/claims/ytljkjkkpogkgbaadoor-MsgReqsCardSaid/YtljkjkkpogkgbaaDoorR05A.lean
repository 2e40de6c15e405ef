/-
  What the law of requests needs besides.
-/
import Derived.Test.YtljkjkkpogkgbaaDoorR05c
namespace Go.Proofs.YtljkjkkpogkgbaaDoor.Abs
theorem awake5 : m9_l05_awake = some true := by decide +kernel
theorem few_m (a : GR05Req) : ∃ b, m10_r05_Few a = some b ∧ (b = true → a.Key.length ≤ 100 ∧ a.Val.length ≤ 100 ∧ a.Rng.Lo.length ≤ 100 ∧ a.Rng.Hi.length ≤ 100) := by
  unfold m10_r05_Few
  by_cases h1 : (a.Key.length : Int) ≤ 100
  · by_cases h2 : (a.Val.length : Int) ≤ 100
    · by_cases h3 : (a.Rng.Lo.length : Int) ≤ 100
      · refine ⟨decide ((a.Rng.Hi.length : Int) ≤ 100), by rw [if_pos (decide_eq_true h1), if_pos (decide_eq_true h2), if_pos (decide_eq_true h3)], fun h => ?_⟩
        have := of_decide_eq_true h
        omega
      · exact ⟨false, by rw [if_pos (decide_eq_true h1), if_pos (decide_eq_true h2), if_neg (by rw [decide_eq_true_eq]; exact h3)], fun h => by cases h⟩
    · exact ⟨false, by rw [if_pos (decide_eq_true h1), if_neg (by rw [decide_eq_true_eq]; exact h2)], fun h => by cases h⟩
  · exact ⟨false, by rw [if_neg (by rw [decide_eq_true_eq]; exact h1)], fun h => by cases h⟩
def rq (a : GR05Req) : GMsgReq := GMsgReq.mk a.Kind a.Seq a.Token a.Attempt a.RO a.Key a.Val (GApiRange.mk a.Rng.Lo a.Rng.Hi a.Rng.Open)
theorem req_m (a : GR05Req) : m12_l05_req a = some (rq a) := rfl
theorem same_bytes (a b : List UInt8) : m63_bytes_Equal a b = some (a == b) := rfl
theorem sameReq_m (a b : GMsgReq) : ∃ r, m20_msg_SameReq a b = some r ∧ (r = true ↔ a = b) := by
  obtain ⟨k, s, t, at_, ro, ke, va, lo, hi, op⟩ := a
  obtain ⟨k', s', t', at', ro', ke', va', lo', hi', op'⟩ := b
  unfold m20_msg_SameReq m64_msg_sameRange
  simp only [same_bytes, Option.bind_some]
  by_cases h1 : k = k'
  · by_cases h2 : s = s'
    · by_cases h3 : t = t'
      · by_cases h4 : at_ = at'
        · by_cases h5 : ro = ro'
          · by_cases h6 : ke = ke'
            · by_cases h7 : va = va'
              · by_cases h8 : op = op'
                · by_cases h9 : lo = lo'
                  · by_cases h10 : hi = hi'
                    · subst h1 h2 h3 h4 h5 h6 h7 h8 h9 h10
                      exact ⟨true, by simp, by simp⟩
                    · exact ⟨false, by simp [h1, h2, h3, h4, h5, h6, h7, h8, h9, h10], by simp [h10]⟩
                  · exact ⟨false, by simp [h1, h2, h3, h4, h5, h6, h7, h8, h9], by simp [h9]⟩
                · exact ⟨false, by simp [h1, h2, h3, h4, h5, h6, h7, h8], by simp [h8]⟩
              · exact ⟨false, by simp [h1, h2, h3, h4, h5, h6, h7], by simp [h7]⟩
            · exact ⟨false, by simp [h1, h2, h3, h4, h5, h6], by simp [h6]⟩
          · exact ⟨false, by simp [h1, h2, h3, h4, h5], by simp [h5]⟩
        · exact ⟨false, by simp [h1, h2, h3, h4], by simp [h4]⟩
      · exact ⟨false, by simp [h1, h2, h3], by simp [h3]⟩
    · exact ⟨false, by simp [h1, h2], by simp [h2]⟩
  · exact ⟨false, by simp [h1], by simp [h1]⟩
theorem sameReq_self (a : GMsgReq) : m20_msg_SameReq a a = some true := by
  obtain ⟨r, h, h2⟩ := sameReq_m a a
  rw [h, h2.2 rfl]
end Go.Proofs.YtljkjkkpogkgbaaDoor.Abs
