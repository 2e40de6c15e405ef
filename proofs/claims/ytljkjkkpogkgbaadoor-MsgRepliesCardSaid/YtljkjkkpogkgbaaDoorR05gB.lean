/-
  What the law of replies needs.
-/
import Derived.Test.YtljkjkkpogkgbaaDoorR05fB
namespace Go.Proofs.YtljkjkkpogkgbaaDoor.Abs
theorem awake5 : m9_l05_awake = some true := by decide +kernel
theorem fewRep_m (a : GR05Reply) : ∃ b, m21_r05_FewReply a = some b ∧ (b = true → a.List.length ≤ 20) := by
  unfold m21_r05_FewReply
  by_cases h1 : (100 : Int) < (a.Val.length : Int)
  · exact ⟨false, by rw [if_pos (decide_eq_true h1)], fun h => by cases h⟩
  · rw [if_neg (by rw [decide_eq_true_eq]; exact h1)]
    by_cases h2 : (20 : Int) < (a.List.length : Int)
    · exact ⟨false, by rw [if_pos (decide_eq_true h2)], fun h => by cases h⟩
    · rw [if_neg (by rw [decide_eq_true_eq]; exact h2)]
      unfold m21_r05_FewReply_k1
      obtain ⟨r, hr, _⟩ := iter_inv (f := m21_r05_FewReply_s3 a) (P := fun s => 0 ≤ s ∧ s ≤ (a.List.length : Int)) (μ := fun s => a.List.length - s.toNat) (R := fun _ => True)
        (fun s hs => by
          obtain ⟨h0, h3⟩ := hs
          unfold m21_r05_FewReply_s3
          by_cases hlt : s < (a.List.length : Int)
          · obtain ⟨x, hx, hx'⟩ := idx_get h0 hlt
            rw [if_pos (decide_eq_true hlt), hx]
            simp only [Option.bind_some]
            by_cases h4 : (100 : Int) < (x.Key.length : Int)
            · exact .inr (.inr ⟨false, by rw [if_pos (decide_eq_true h4)], trivial⟩)
            · rw [if_neg (by rw [decide_eq_true_eq]; exact h4)]
              by_cases h5 : (100 : Int) < (x.Val.length : Int)
              · exact .inr (.inr ⟨false, by rw [if_pos (decide_eq_true h5)], trivial⟩)
              · exact .inl ⟨s + 1, by rw [if_neg (by rw [decide_eq_true_eq]; exact h5), wI_id (by omega) (by omega)], ⟨by omega, by omega⟩, by omega⟩
          · exact .inr (.inl ⟨(), by rw [if_neg (by rw [decide_eq_true_eq]; exact hlt)], trivial⟩)) fuel 0 ⟨by omega, by omega⟩ (lt_fuel (by simp; omega))
      rw [hr]
      simp only [Option.bind_some]
      cases r with
      | inl r => exact ⟨r, rfl, fun _ => by omega⟩
      | inr u => exact ⟨true, rfl, fun _ => by omega⟩
def rp (a : GR05Reply) : GMsgReply := GMsgReply.mk a.Kind a.Seq a.Code a.N a.Found a.Val a.List
theorem reply_m (a : GR05Reply) : m23_l05_reply a = some (rp a) := rfl
end Go.Proofs.YtljkjkkpogkgbaaDoor.Abs
