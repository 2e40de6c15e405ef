/-
  The row of SeqsIs: for every input the law returns true, and the input reads as it did. No condition.
-/
import Derived.Test.YtaffjoloefhodaaQ13
import Derived.Test.YtaffjoloefhodaaRows
import Derived.ProofKit
namespace Go.Proofs.Ytaffjoloefhodaa.Abs
open Go.RowKit Go.Proofs

theorem seqsIs_f : ∀ xs, FitsAll [.st (.pair (.int .i64) (.pair (.int .u64) .unit)), .int .i64, .int .i64] xs → CallsA Try.prog 3 xs (· = .s (.one (.b true)))
  | [], h => h.elim
  | [_], h => h.2.elim
  | [_, _], h => h.2.2.elim
  | [_, _, _], ⟨⟨ls0, h0, e0⟩, ⟨ls1, h1, e1⟩, ⟨ls2, h2, e2⟩, _⟩ => by
    obtain ⟨b, u, hb, rfl⟩ := fits_win h0
    subst e0
    obtain ⟨s, hs, rfl⟩ := fits_i64 h1
    subst e1
    obtain ⟨m, hm, rfl⟩ := fits_i64 h2
    subst e2
    exact seqsIs_c hb
  | _ :: _ :: _ :: _ :: _, h => h.2.2.2.elim
end Go.Proofs.Ytaffjoloefhodaa.Abs

namespace Go.Proofs.Ytaffjoloefhodaa
open Go.ChangeShapes Go.WideShapes Go.ChangeAt Go.RowKit

theorem Try.own : ownKnob Try.prog.godebug = none := by kernel_rfl
theorem Try.laidOut : laidOutB Try.prog = true := by kernel_rfl

set_option maxRecDepth 100000 in
theorem seqsIs_lifted (os : Os) (started : os.Started) (H : Type) (enc : TypeId × Value → H) :
    ReturnsInHanded {} Try.checked os 3 .any (Rows.seqsIsSpec.pre6 enc Try.prog Try.f3 Rows.seqsIsRow.domain false) (Rows.seqsIsSpec.post enc Try.prog Try.f3 false true false false) := by
  refine returnsInHanded_of_change (C := Try.checked) Try.own started (by kernel_rfl) Try.func3
    (ChangeSpec.witness6 (enc := enc) (C := Try.checked) false ⟨#[], #[.agg #[.int .i64 0, .int .u64 0], .int .i64 0, .int .i64 0], []⟩ 8 (by kernel_rfl) (by kernel_rfl) (by kernel_rfl) (by kernel_rfl)) ?_
  intro W base args ds gs before hval hW _ _
  exact Go.Proofs.Ytaffjoloefhodaa.Abs.law_contract (tb := 4) Try.laidOut [.st (.pair (.int .i64) (.pair (.int .u64) .unit)), .int .i64, .int .i64] (by kernel_rfl) rfl Try.underlying4 rfl (fun ds h => match ds, h with | [d0, d1, d2], _ => rfl) Go.Proofs.Ytaffjoloefhodaa.Abs.seqsIs_f base args ds gs before hval hW

theorem seqsIs_holds : Rows.SeqsIsSaid :=
  OpenClaim.holds_of_wide 3 Try.f3 rfl rfl rfl rfl rfl rfl rfl ⟨rfl, rfl, rfl, rfl, rfl⟩ rfl rfl rfl rfl rfl (by kernel_rfl) Try.func3 (by kernel_rfl)
    (of_decide_eq_true (by kernel_rfl)) (by unfold Func.isWrapper; first | (rw [if_pos (by decide +kernel)]; kernel_rfl) | (rw [if_neg (by decide +kernel)]; exact ⟨rfl, rfl⟩))
    (fun os started H enc _ => seqsIs_lifted os started H enc)

end Go.Proofs.Ytaffjoloefhodaa
