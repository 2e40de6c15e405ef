/-
  The row of FrameBack: for every input the law returns true, and the input reads as it did. No condition.
-/
import Derived.Test.YthofeonffhenmaaF03
import Derived.Test.YthofeonffhenmaaF2
import Derived.Test.YthofeonffhenmaaRows
import Derived.ProofKit
namespace Go.Proofs.Ythofeonffhenmaa.Abs
open Go.RowKit Go.Proofs

theorem frameBack_f : ∀ xs, FitsAll [.sl (.sl (.int .u8))] xs → CallsA Try.prog 4 xs (· = .s (.one (.b true)))
  | [], h => h.elim
  | [_], ⟨⟨ls0, h0, e0⟩, _⟩ => by
    obtain ⟨a0, q0, rfl⟩ := (ft_sl (Q := fun (x : List UInt8) => (x.length ≤ maxLen ∧ ∀ xy ∈ x, True)) (fun h => (ft_sl (Q := fun (x : UInt8) => True) (fun h => ft_u8 h)) h)) h0
    subst e0
    exact m4_l03_FrameBack_c (frameBack_true a0)
  | _ :: _ :: _, h => h.2.elim
end Go.Proofs.Ythofeonffhenmaa.Abs

namespace Go.Proofs.Ythofeonffhenmaa
open Go.ChangeShapes Go.WideShapes Go.ChangeAt Go.RowKit

theorem Try.own : ownKnob Try.prog.godebug = none := by kernel_rfl
theorem Try.laidOut : laidOutB Try.prog = true := by kernel_rfl

set_option maxRecDepth 100000 in
theorem frameBack_lifted (os : Os) (started : os.Started) (H : Type) (enc : TypeId × Value → H) :
    ReturnsInHanded {} Try.checked os 4 .any (Rows.frameBackSpec.pre6 enc Try.prog Try.f4 Rows.frameBackRow.domain false) (Rows.frameBackSpec.post enc Try.prog Try.f4 false true false false) := by
  refine returnsInHanded_of_change (C := Try.checked) Try.own started (by kernel_rfl) Try.func4
    (ChangeSpec.witness6 (enc := enc) (C := Try.checked) false ⟨#[], #[.slice none 0 0], []⟩ 8 (by kernel_rfl) (by kernel_rfl) (by kernel_rfl) (by kernel_rfl)) ?_
  intro W base args ds gs before hval hW _ _
  exact Go.Proofs.Ythofeonffhenmaa.Abs.law_contract (tb := 4) Try.laidOut [.sl (.sl (.int .u8))] (by kernel_rfl) rfl Try.underlying4 rfl (fun ds h => match ds, h with | [d0], _ => rfl) Go.Proofs.Ythofeonffhenmaa.Abs.frameBack_f base args ds gs before hval hW

theorem frameBack_holds : Rows.FrameBackSaid :=
  OpenClaim.holds_of_wide 4 Try.f4 rfl rfl rfl rfl rfl rfl rfl ⟨rfl, rfl, rfl, rfl, rfl⟩ rfl rfl rfl rfl rfl (by kernel_rfl) Try.func4 (by kernel_rfl)
    (of_decide_eq_true (by kernel_rfl)) (by unfold Func.isWrapper; first | (rw [if_pos (by decide +kernel)]; kernel_rfl) | (rw [if_neg (by decide +kernel)]; exact ⟨rfl, rfl⟩))
    (fun os started H enc _ => frameBack_lifted os started H enc)

end Go.Proofs.Ythofeonffhenmaa
