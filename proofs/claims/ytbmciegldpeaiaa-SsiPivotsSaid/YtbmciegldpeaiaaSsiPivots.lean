/-
  The row of SsiPivots: for every input the law returns true, and the input reads as it did. No condition.
-/
import Derived.Test.YtbmciegldpeaiaaF11
import Derived.Test.YtbmciegldpeaiaaR11
import Derived.Test.YtbmciegldpeaiaaRows
import Derived.ProofKit
namespace Go.Proofs.Ytbmciegldpeaiaa.Abs
open Go.RowKit Go.Proofs

theorem ssiPivots_f : ∀ xs, FitsAll [.sl (.st (.pair (.int .i64) (.pair (.int .i64) (.pair (.bool) (.pair (.st (.pair (.sl (.int .u8)) (.pair (.sl (.int .u8)) (.pair (.bool) (.unit))))) (.pair (.sl (.sl (.int .u8))) (.unit)))))))] xs → CallsA Try.prog 4 xs (· = .s (.one (.b true)))
  | [], h => h.elim
  | [_], ⟨⟨ls0, h0, e0⟩, _⟩ => by
    obtain ⟨a0, q0, rfl⟩ := (ft_sl (Q := fun (x : GL11Act) => QGL11Act x) (fun h => ft_GL11Act h)) h0
    subst e0
    exact m4_l11_SsiPivots_c (ssiPivots_true a0)
  | _ :: _ :: _, h => h.2.elim
end Go.Proofs.Ytbmciegldpeaiaa.Abs

namespace Go.Proofs.Ytbmciegldpeaiaa
open Go.ChangeShapes Go.WideShapes Go.ChangeAt Go.RowKit

theorem Try.own : ownKnob Try.prog.godebug = none := by kernel_rfl
theorem Try.laidOut : laidOutB Try.prog = true := by kernel_rfl

set_option maxRecDepth 100000 in
theorem ssiPivots_lifted (os : Os) (started : os.Started) (H : Type) (enc : TypeId × Value → H) :
    ReturnsInHanded {} Try.checked os 4 .any (Rows.ssiPivotsSpec.pre6 enc Try.prog Try.f4 Rows.ssiPivotsRow.domain false) (Rows.ssiPivotsSpec.post enc Try.prog Try.f4 false true false false) := by
  refine returnsInHanded_of_change (C := Try.checked) Try.own started (by kernel_rfl) Try.func4
    (ChangeSpec.witness6 (enc := enc) (C := Try.checked) false ⟨#[], #[.slice none 0 0], []⟩ 8 (by kernel_rfl) (by kernel_rfl) (by kernel_rfl) (by kernel_rfl)) ?_
  intro W base args ds gs before hval hW _ _
  exact Go.Proofs.Ytbmciegldpeaiaa.Abs.law_contract (tb := 4) Try.laidOut [.sl (.st (.pair (.int .i64) (.pair (.int .i64) (.pair (.bool) (.pair (.st (.pair (.sl (.int .u8)) (.pair (.sl (.int .u8)) (.pair (.bool) (.unit))))) (.pair (.sl (.sl (.int .u8))) (.unit)))))))] (by kernel_rfl) rfl Try.underlying4 rfl (fun ds h => match ds, h with | [d0], _ => rfl) Go.Proofs.Ytbmciegldpeaiaa.Abs.ssiPivots_f (fun _ h => by cases h) base args ds gs before hval hW

theorem ssiPivots_holds : Rows.SsiPivotsSaid :=
  OpenClaim.holds_of_wide 4 Try.f4 rfl rfl rfl rfl rfl rfl rfl ⟨rfl, rfl, rfl, rfl, rfl⟩ rfl rfl rfl rfl rfl (by kernel_rfl) Try.func4 (by kernel_rfl)
    (of_decide_eq_true (by kernel_rfl)) (by unfold Func.isWrapper; first | (rw [if_pos (by decide +kernel)]; kernel_rfl) | (rw [if_neg (by decide +kernel)]; exact ⟨rfl, rfl⟩))
    (fun os started H enc _ => ssiPivots_lifted os started H enc)

end Go.Proofs.Ytbmciegldpeaiaa
