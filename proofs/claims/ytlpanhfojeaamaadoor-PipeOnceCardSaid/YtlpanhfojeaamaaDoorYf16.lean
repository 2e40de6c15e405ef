/-
  Few: requests and replies.
-/
import Derived.Test.YtlpanhfojeaamaaDoorX16
namespace Go.Proofs.YtlpanhfojeaamaaDoor.Abs

theorem fewReply_m (a : GR05Reply) : ∃ b, m11_r05_FewReply a = some b ∧ (b = true → a.List.length ≤ 20) := by
  unfold m11_r05_FewReply
  by_cases h1 : (100 : Int) < (a.Val.length : Int)
  · exact ⟨false, by rw [if_pos (decide_eq_true h1)], by simp⟩
  rw [if_neg (by rw [decide_eq_true_eq]; exact h1)]
  by_cases h2 : (20 : Int) < (a.List.length : Int)
  · exact ⟨false, by rw [if_pos (decide_eq_true h2)], by simp⟩
  rw [if_neg (by rw [decide_eq_true_eq]; exact h2)]
  unfold m11_r05_FewReply_k1
  obtain ⟨b, hb, _⟩ := iter_inv (f := m11_r05_FewReply_s3 a) (P := fun s => ∃ i : Nat, i ≤ a.List.length ∧ s = (i : Int)) (μ := fun s => a.List.length - s.toNat) (R := fun _ => True)
    (fun s hs => by
      obtain ⟨i, hi, rfl⟩ := hs
      unfold m11_r05_FewReply_s3
      by_cases h0 : i < a.List.length
      · rw [if_pos (by rw [decide_eq_true_eq]; omega), idx_nat, List.getElem?_eq_getElem h0]
        simp only [Option.bind_some]
        by_cases h3 : (100 : Int) < ((a.List[i]).Key.length : Int)
        · exact .inr (.inr ⟨_, by rw [if_pos (decide_eq_true h3)], trivial⟩)
        · rw [if_neg (by rw [decide_eq_true_eq]; exact h3)]
          by_cases h4 : (100 : Int) < ((a.List[i]).Val.length : Int)
          · exact .inr (.inr ⟨_, by rw [if_pos (decide_eq_true h4)], trivial⟩)
          · exact .inl ⟨((i + 1 : Nat) : Int), by rw [if_neg (by rw [decide_eq_true_eq]; exact h4), wI_id (by omega) (by omega)]; rfl, ⟨i + 1, by omega, rfl⟩, by omega⟩
      · exact .inr (.inl ⟨(), by rw [if_neg (by rw [decide_eq_true_eq]; omega)], trivial⟩)) fuel 0 ⟨0, by omega, rfl⟩ (lt_fuel (by omega))
  rw [hb]
  cases b with
  | inl r => exact ⟨r, rfl, fun _ => by omega⟩
  | inr r => exact ⟨true, rfl, fun _ => by omega⟩
theorem few_m (a : GR05Req) : ∃ b, m10_r05_Few a = some b := by
  unfold m10_r05_Few
  split
  · split
    · split
      · exact ⟨_, rfl⟩
      · exact ⟨_, rfl⟩
    · exact ⟨_, rfl⟩
  · exact ⟨_, rfl⟩
end Go.Proofs.YtlpanhfojeaamaaDoor.Abs
