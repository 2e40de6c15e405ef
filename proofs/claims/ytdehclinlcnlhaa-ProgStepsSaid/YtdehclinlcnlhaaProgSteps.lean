/-
  The row of ProgSteps: for every input the law returns true, and the input reads as it did. No condition.
-/
import Derived.Test.YtdehclinlcnlhaaF19
import Derived.Test.YtdehclinlcnlhaaW19
import Derived.Test.YtdehclinlcnlhaaRows
import Derived.ProofKit
namespace Go.Proofs.Ytdehclinlcnlhaa.Abs
open Go.RowKit Go.Proofs

theorem progSteps_f : ∀ xs, FitsAll [.st (.pair (.bool) (.pair (.sl (.st (.pair (.int .i64) (.pair (.int .i64) (.pair (.int .i64) (.pair (.int .i64) (.pair (.sl (.int .u8)) (.pair (.st (.pair (.sl (.int .u8)) (.pair (.sl (.int .u8)) (.pair (.bool) (.unit))))) (.unit))))))))) (.unit))), .sl (.st (.pair (.sl (.int .u8)) (.pair (.sl (.int .u8)) (.unit))))] xs → CallsA Try.prog 3 xs (· = .s (.one (.b true)))
  | [], h => h.elim
  | [_], h => h.2.elim
  | [_, _], ⟨⟨ls0, h0, e0⟩, ⟨ls1, h1, e1⟩, _⟩ => by
    obtain ⟨a0, q0, rfl⟩ := ft_GR19Prog h0
    subst e0
    obtain ⟨a1, q1, rfl⟩ := (ft_sl (Q := fun (x : GApiKV) => QGApiKV x) (fun h => ft_GApiKV h)) h1
    subst e1
    exact m3_l19_ProgSteps_c (progSteps_true a0 a1)
  | _ :: _ :: _ :: _, h => h.2.2.elim
end Go.Proofs.Ytdehclinlcnlhaa.Abs

namespace Go.Proofs.Ytdehclinlcnlhaa
open Go.ChangeShapes Go.WideShapes Go.ChangeAt Go.RowKit

theorem Try.own : ownKnob Try.prog.godebug = none := by kernel_rfl
theorem Try.laidOut : laidOutB Try.prog = true := by kernel_rfl

set_option maxRecDepth 100000 in
theorem progSteps_lifted (os : Os) (started : os.Started) (H : Type) (enc : TypeId × Value → H) :
    ReturnsInHanded {} Try.checked os 3 .any (Rows.progStepsSpec.pre6 enc Try.prog Try.f3 Rows.progStepsRow.domain false) (Rows.progStepsSpec.post enc Try.prog Try.f3 false true false false) := by
  refine returnsInHanded_of_change (C := Try.checked) Try.own started (by kernel_rfl) Try.func3
    (ChangeSpec.witness6 (enc := enc) (C := Try.checked) false ⟨#[], #[.agg #[.bool false, .slice none 0 0], .slice none 0 0], []⟩ 8 (by kernel_rfl) (by kernel_rfl) (by kernel_rfl) (by kernel_rfl)) ?_
  intro W base args ds gs before hval hW _ _
  exact Go.Proofs.Ytdehclinlcnlhaa.Abs.law_contract (tb := 4) Try.laidOut [.st (.pair (.bool) (.pair (.sl (.st (.pair (.int .i64) (.pair (.int .i64) (.pair (.int .i64) (.pair (.int .i64) (.pair (.sl (.int .u8)) (.pair (.st (.pair (.sl (.int .u8)) (.pair (.sl (.int .u8)) (.pair (.bool) (.unit))))) (.unit))))))))) (.unit))), .sl (.st (.pair (.sl (.int .u8)) (.pair (.sl (.int .u8)) (.unit))))] (by kernel_rfl) rfl Try.underlying4 rfl (fun ds h => match ds, h with | [d0, d1], _ => rfl) Go.Proofs.Ytdehclinlcnlhaa.Abs.progSteps_f (fun _ h => by cases h) base args ds gs before hval hW

theorem progSteps_holds : Rows.ProgStepsSaid :=
  OpenClaim.holds_of_wide 3 Try.f3 rfl rfl rfl rfl rfl rfl rfl ⟨rfl, rfl, rfl, rfl, rfl⟩ rfl rfl rfl rfl rfl (by kernel_rfl) Try.func3 (by kernel_rfl)
    (of_decide_eq_true (by kernel_rfl)) (by unfold Func.isWrapper; first | (rw [if_pos (by decide +kernel)]; kernel_rfl) | (rw [if_neg (by decide +kernel)]; exact ⟨rfl, rfl⟩))
    (fun os started H enc _ => progSteps_lifted os started H enc)

end Go.Proofs.Ytdehclinlcnlhaa
