/-
  The row of EncReads: for every input the law returns true, and the input reads as it did. No condition.
-/
import Derived.Test.YtlfgbpkigdmjdaaF01
import Derived.Test.YtlfgbpkigdmjdaaE01
import Derived.Test.YtlfgbpkigdmjdaaRows
import Derived.ProofKit
namespace Go.Proofs.Ytlfgbpkigdmjdaa.Abs
open Go.RowKit Go.Proofs

theorem encReads_f : ∀ xs, FitsAll [.sl (.int .u8), .sl (.st (.pair (.int .i64) (.pair (.int .i64) (.unit))))] xs → CallsA Try.prog 4 xs (· = .s (.one (.b true)))
  | [], h => h.elim
  | [_], h => h.2.elim
  | [_, _], ⟨⟨ls0, h0, e0⟩, ⟨ls1, h1, e1⟩, _⟩ => by
    obtain ⟨a0, q0, rfl⟩ := (ft_sl (Q := fun (x : UInt8) => True) (fun h => ft_u8 h)) h0
    subst e0
    obtain ⟨a1, q1, rfl⟩ := (ft_sl (Q := fun (x : GL01Step) => QGL01Step x) (fun h => ft_GL01Step h)) h1
    subst e1
    exact m4_l01_EncReads_c (encReads_true a0 a1)
  | _ :: _ :: _ :: _, h => h.2.2.elim
end Go.Proofs.Ytlfgbpkigdmjdaa.Abs

namespace Go.Proofs.Ytlfgbpkigdmjdaa
open Go.ChangeShapes Go.WideShapes Go.ChangeAt Go.RowKit

theorem Try.own : ownKnob Try.prog.godebug = none := by kernel_rfl
theorem Try.laidOut : laidOutB Try.prog = true := by kernel_rfl

set_option maxRecDepth 100000 in
theorem encReads_lifted (os : Os) (started : os.Started) (H : Type) (enc : TypeId × Value → H) :
    ReturnsInHanded {} Try.checked os 4 .any (Rows.encReadsSpec.pre6 enc Try.prog Try.f4 Rows.encReadsRow.domain false) (Rows.encReadsSpec.post enc Try.prog Try.f4 false true false false) := by
  refine returnsInHanded_of_change (C := Try.checked) Try.own started (by kernel_rfl) Try.func4
    (ChangeSpec.witness6 (enc := enc) (C := Try.checked) false ⟨#[], #[.slice none 0 0, .slice none 0 0], []⟩ 8 (by kernel_rfl) (by kernel_rfl) (by kernel_rfl) (by kernel_rfl)) ?_
  intro W base args ds gs before hval hW _ _
  exact Go.Proofs.Ytlfgbpkigdmjdaa.Abs.law_contract (tb := 4) Try.laidOut [.sl (.int .u8), .sl (.st (.pair (.int .i64) (.pair (.int .i64) (.unit))))] (by kernel_rfl) rfl Try.underlying4 rfl (fun ds h => match ds, h with | [d0, d1], _ => rfl) Go.Proofs.Ytlfgbpkigdmjdaa.Abs.encReads_f (fun _ h => by cases h) base args ds gs before hval hW

theorem encReads_holds : Rows.EncReadsSaid :=
  OpenClaim.holds_of_wide 4 Try.f4 rfl rfl rfl rfl rfl rfl rfl ⟨rfl, rfl, rfl, rfl, rfl⟩ rfl rfl rfl rfl rfl (by kernel_rfl) Try.func4 (by kernel_rfl)
    (of_decide_eq_true (by kernel_rfl)) (by unfold Func.isWrapper; first | (rw [if_pos (by decide +kernel)]; kernel_rfl) | (rw [if_neg (by decide +kernel)]; exact ⟨rfl, rfl⟩))
    (fun os started H enc _ => encReads_lifted os started H enc)

end Go.Proofs.Ytlfgbpkigdmjdaa
