/-
  The row of EncSplit: for every input the law returns true, and the input reads as it did. No condition.
-/
import Derived.Test.YtlfgbpkigdmjdaaF01
import Derived.Test.YtlfgbpkigdmjdaaC01b
import Derived.Test.YtlfgbpkigdmjdaaRows
import Derived.ProofKit
namespace Go.Proofs.Ytlfgbpkigdmjdaa.Abs
open Go.RowKit Go.Proofs

theorem encSplit_f : ∀ xs, FitsAll [.sl (.int .u8)] xs → CallsA Try.prog 8 xs (· = .s (.one (.b true)))
  | [], h => h.elim
  | [_], ⟨⟨ls0, h0, e0⟩, _⟩ => by
    obtain ⟨a0, q0, rfl⟩ := (ft_sl (Q := fun (x : UInt8) => True) (fun h => ft_u8 h)) h0
    subst e0
    exact m8_l01_EncSplit_c (encSplit_true a0)
  | _ :: _ :: _, h => h.2.elim
end Go.Proofs.Ytlfgbpkigdmjdaa.Abs

namespace Go.Proofs.Ytlfgbpkigdmjdaa
open Go.ChangeShapes Go.WideShapes Go.ChangeAt Go.RowKit

theorem Try.own : ownKnob Try.prog.godebug = none := by kernel_rfl
theorem Try.laidOut : laidOutB Try.prog = true := by kernel_rfl

set_option maxRecDepth 100000 in
theorem encSplit_lifted (os : Os) (started : os.Started) (H : Type) (enc : TypeId × Value → H) :
    ReturnsInHanded {} Try.checked os 8 .any (Rows.encSplitSpec.pre6 enc Try.prog Try.f8 Rows.encSplitRow.domain false) (Rows.encSplitSpec.post enc Try.prog Try.f8 false true false false) := by
  refine returnsInHanded_of_change (C := Try.checked) Try.own started (by kernel_rfl) Try.func8
    (ChangeSpec.witness6 (enc := enc) (C := Try.checked) false ⟨#[], #[.slice none 0 0], []⟩ 8 (by kernel_rfl) (by kernel_rfl) (by kernel_rfl) (by kernel_rfl)) ?_
  intro W base args ds gs before hval hW _ _
  exact Go.Proofs.Ytlfgbpkigdmjdaa.Abs.law_contract (tb := 4) Try.laidOut [.sl (.int .u8)] (by kernel_rfl) rfl Try.underlying4 rfl (fun ds h => match ds, h with | [d0], _ => rfl) Go.Proofs.Ytlfgbpkigdmjdaa.Abs.encSplit_f base args ds gs before hval hW

theorem encSplit_holds : Rows.EncSplitSaid :=
  OpenClaim.holds_of_wide 8 Try.f8 rfl rfl rfl rfl rfl rfl rfl ⟨rfl, rfl, rfl, rfl, rfl⟩ rfl rfl rfl rfl rfl (by kernel_rfl) Try.func8 (by kernel_rfl)
    (of_decide_eq_true (by kernel_rfl)) (by unfold Func.isWrapper; first | (rw [if_pos (by decide +kernel)]; kernel_rfl) | (rw [if_neg (by decide +kernel)]; exact ⟨rfl, rfl⟩))
    (fun os started H enc _ => encSplit_lifted os started H enc)

end Go.Proofs.Ytlfgbpkigdmjdaa
