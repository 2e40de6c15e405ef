/-
  The row of RetryFew: for every input the law returns true, and the input reads as it did. No condition.
-/
import Derived.Test.YtipcjpjjlphlfaaF20
import Derived.Test.YtipcjpjjlphlfaaN20
import Derived.Test.YtipcjpjjlphlfaaRows
import Derived.ProofKit
namespace Go.Proofs.Ytipcjpjjlphlfaa.Abs
open Go.RowKit Go.Proofs

theorem retryFew_f : ∀ xs, FitsAll [.st (.pair (.int .i64) (.pair (.int .i64) (.pair (.int .i64) (.unit)))), .int .i64, .int .i64] xs → CallsA Try.prog 8 xs (· = .s (.one (.b true)))
  | [], h => h.elim
  | [_], h => h.2.elim
  | [_, _], h => h.2.2.elim
  | [_, _, _], ⟨⟨ls0, h0, e0⟩, ⟨ls1, h1, e1⟩, ⟨ls2, h2, e2⟩, _⟩ => by
    obtain ⟨a0, q0, rfl⟩ := ft_GR20Plan h0
    subst e0
    obtain ⟨a1, q1, rfl⟩ := ft_i64 h1
    subst e1
    obtain ⟨a2, q2, rfl⟩ := ft_i64 h2
    subst e2
    exact m8_l20_RetryFew_c (retryFew_true a0 a1 a2)
  | _ :: _ :: _ :: _ :: _, h => h.2.2.2.elim
end Go.Proofs.Ytipcjpjjlphlfaa.Abs

namespace Go.Proofs.Ytipcjpjjlphlfaa
open Go.ChangeShapes Go.WideShapes Go.ChangeAt Go.RowKit

theorem Try.own : ownKnob Try.prog.godebug = none := by kernel_rfl
theorem Try.laidOut : laidOutB Try.prog = true := by kernel_rfl

set_option maxRecDepth 100000 in
theorem retryFew_lifted (os : Os) (started : os.Started) (H : Type) (enc : TypeId × Value → H) :
    ReturnsInHanded {} Try.checked os 8 .any (Rows.retryFewSpec.pre6 enc Try.prog Try.f8 Rows.retryFewRow.domain false) (Rows.retryFewSpec.post enc Try.prog Try.f8 false true false false) := by
  refine returnsInHanded_of_change (C := Try.checked) Try.own started (by kernel_rfl) Try.func8
    (ChangeSpec.witness6 (enc := enc) (C := Try.checked) false ⟨#[], #[.agg #[.int .i64 0, .int .i64 0, .int .i64 0], .int .i64 0, .int .i64 0], []⟩ 8 (by kernel_rfl) (by kernel_rfl) (by kernel_rfl) (by kernel_rfl)) ?_
  intro W base args ds gs before hval hW _ _
  exact Go.Proofs.Ytipcjpjjlphlfaa.Abs.law_contract (tb := 4) Try.laidOut [.st (.pair (.int .i64) (.pair (.int .i64) (.pair (.int .i64) (.unit)))), .int .i64, .int .i64] (by kernel_rfl) rfl Try.underlying4 rfl (fun ds h => match ds, h with | [d0, d1, d2], _ => rfl) Go.Proofs.Ytipcjpjjlphlfaa.Abs.retryFew_f (fun _ h => by cases h) base args ds gs before hval hW

theorem retryFew_holds : Rows.RetryFewSaid :=
  OpenClaim.holds_of_wide 8 Try.f8 rfl rfl rfl rfl rfl rfl rfl ⟨rfl, rfl, rfl, rfl, rfl⟩ rfl rfl rfl rfl rfl (by kernel_rfl) Try.func8 (by kernel_rfl)
    (of_decide_eq_true (by kernel_rfl)) (by unfold Func.isWrapper; first | (rw [if_pos (by decide +kernel)]; kernel_rfl) | (rw [if_neg (by decide +kernel)]; exact ⟨rfl, rfl⟩))
    (fun os started H enc _ => retryFew_lifted os started H enc)

end Go.Proofs.Ytipcjpjjlphlfaa
