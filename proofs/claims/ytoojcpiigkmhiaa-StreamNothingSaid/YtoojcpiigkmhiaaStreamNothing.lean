/-
  The row of StreamNothing: for every input the law returns true, and the input reads as it did. No condition.
-/
import Derived.Test.YtoojcpiigkmhiaaF04
import Derived.Test.YtoojcpiigkmhiaaG2
import Derived.Test.YtoojcpiigkmhiaaRows
import Derived.ProofKit
namespace Go.Proofs.Ytoojcpiigkmhiaa.Abs
open Go.RowKit Go.Proofs

theorem streamNothing_f : ∀ xs, FitsAll [.st (.pair (.sl (.int .u8)) (.pair (.int .i64) (.unit)))] xs → CallsA Try.prog 9 xs (· = .s (.one (.b true)))
  | [], h => h.elim
  | [_], ⟨⟨ls0, h0, e0⟩, _⟩ => by
    obtain ⟨a0, q0, rfl⟩ := ft_GR04Stream h0
    subst e0
    exact m9_l04_StreamNothing_c (streamNothing_true a0)
  | _ :: _ :: _, h => h.2.elim
end Go.Proofs.Ytoojcpiigkmhiaa.Abs

namespace Go.Proofs.Ytoojcpiigkmhiaa
open Go.ChangeShapes Go.WideShapes Go.ChangeAt Go.RowKit

theorem Try.own : ownKnob Try.prog.godebug = none := by kernel_rfl
theorem Try.laidOut : laidOutB Try.prog = true := by kernel_rfl

set_option maxRecDepth 100000 in
theorem streamNothing_lifted (os : Os) (started : os.Started) (H : Type) (enc : TypeId × Value → H) :
    ReturnsInHanded {} Try.checked os 9 .any (Rows.streamNothingSpec.pre6 enc Try.prog Try.f9 Rows.streamNothingRow.domain false) (Rows.streamNothingSpec.post enc Try.prog Try.f9 false true false false) := by
  refine returnsInHanded_of_change (C := Try.checked) Try.own started (by kernel_rfl) Try.func9
    (ChangeSpec.witness6 (enc := enc) (C := Try.checked) false ⟨#[], #[.agg #[.slice none 0 0, .int .i64 0]], []⟩ 8 (by kernel_rfl) (by kernel_rfl) (by kernel_rfl) (by kernel_rfl)) ?_
  intro W base args ds gs before hval hW _ _
  exact Go.Proofs.Ytoojcpiigkmhiaa.Abs.law_contract (tb := 4) Try.laidOut [.st (.pair (.sl (.int .u8)) (.pair (.int .i64) (.unit)))] (by kernel_rfl) rfl Try.underlying4 rfl (fun ds h => match ds, h with | [d0], _ => rfl) Go.Proofs.Ytoojcpiigkmhiaa.Abs.streamNothing_f base args ds gs before hval hW

theorem streamNothing_holds : Rows.StreamNothingSaid :=
  OpenClaim.holds_of_wide 9 Try.f9 rfl rfl rfl rfl rfl rfl rfl ⟨rfl, rfl, rfl, rfl, rfl⟩ rfl rfl rfl rfl rfl (by kernel_rfl) Try.func9 (by kernel_rfl)
    (of_decide_eq_true (by kernel_rfl)) (by unfold Func.isWrapper; first | (rw [if_pos (by decide +kernel)]; kernel_rfl) | (rw [if_neg (by decide +kernel)]; exact ⟨rfl, rfl⟩))
    (fun os started H enc _ => streamNothing_lifted os started H enc)

end Go.Proofs.Ytoojcpiigkmhiaa
