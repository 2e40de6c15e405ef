/-
  The row of ProgVals: for every input the law returns true, and the input reads as it did. No condition.
-/
import Derived.Test.YtdehclinlcnlhaaF19
import Derived.Test.YtdehclinlcnlhaaK19
import Derived.Test.YtdehclinlcnlhaaRows
import Derived.ProofKit
namespace Go.Proofs.Ytdehclinlcnlhaa.Abs
open Go.RowKit Go.Proofs

theorem progVals_f : ∀ xs, FitsAll [.int .i64, .sl (.int .u8)] xs → CallsA Try.prog 5 xs (· = .s (.one (.b true)))
  | [], h => h.elim
  | [_], h => h.2.elim
  | [_, _], ⟨⟨ls0, h0, e0⟩, ⟨ls1, h1, e1⟩, _⟩ => by
    obtain ⟨a0, q0, rfl⟩ := ft_i64 h0
    subst e0
    obtain ⟨a1, q1, rfl⟩ := (ft_sl (Q := fun (x : UInt8) => True) (fun h => ft_u8 h)) h1
    subst e1
    exact m5_l19_ProgVals_c (progVals_true a0 a1)
  | _ :: _ :: _ :: _, h => h.2.2.elim
end Go.Proofs.Ytdehclinlcnlhaa.Abs

namespace Go.Proofs.Ytdehclinlcnlhaa
open Go.ChangeShapes Go.WideShapes Go.ChangeAt Go.RowKit

theorem Try.own : ownKnob Try.prog.godebug = none := by kernel_rfl
theorem Try.laidOut : laidOutB Try.prog = true := by kernel_rfl

set_option maxRecDepth 100000 in
theorem progVals_lifted (os : Os) (started : os.Started) (H : Type) (enc : TypeId × Value → H) :
    ReturnsInHanded {} Try.checked os 5 .any (Rows.progValsSpec.pre6 enc Try.prog Try.f5 Rows.progValsRow.domain false) (Rows.progValsSpec.post enc Try.prog Try.f5 false true false false) := by
  refine returnsInHanded_of_change (C := Try.checked) Try.own started (by kernel_rfl) Try.func5
    (ChangeSpec.witness6 (enc := enc) (C := Try.checked) false ⟨#[], #[.int .i64 0, .slice none 0 0], []⟩ 8 (by kernel_rfl) (by kernel_rfl) (by kernel_rfl) (by kernel_rfl)) ?_
  intro W base args ds gs before hval hW _ _
  exact Go.Proofs.Ytdehclinlcnlhaa.Abs.law_contract (tb := 4) Try.laidOut [.int .i64, .sl (.int .u8)] (by kernel_rfl) rfl Try.underlying4 rfl (fun ds h => match ds, h with | [d0, d1], _ => rfl) Go.Proofs.Ytdehclinlcnlhaa.Abs.progVals_f (fun _ h => by cases h) base args ds gs before hval hW

theorem progVals_holds : Rows.ProgValsSaid :=
  OpenClaim.holds_of_wide 5 Try.f5 rfl rfl rfl rfl rfl rfl rfl ⟨rfl, rfl, rfl, rfl, rfl⟩ rfl rfl rfl rfl rfl (by kernel_rfl) Try.func5 (by kernel_rfl)
    (of_decide_eq_true (by kernel_rfl)) (by unfold Func.isWrapper; first | (rw [if_pos (by decide +kernel)]; kernel_rfl) | (rw [if_neg (by decide +kernel)]; exact ⟨rfl, rfl⟩))
    (fun os started H enc _ => progVals_lifted os started H enc)

end Go.Proofs.Ytdehclinlcnlhaa
