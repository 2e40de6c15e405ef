/-
  The row of SeqsOrder: for every input the law returns true, and the input reads as it did. No condition.
-/
import Derived.Test.YtaffjoloefhodaaQ8
import Derived.Test.YtaffjoloefhodaaRows
import Derived.ProofKit
namespace Go.Proofs.Ytaffjoloefhodaa.Abs
open Go.RowKit Go.Proofs

theorem seqsOrder_f : ∀ xs, FitsAll [.int .i64, .sl (.int .i64)] xs → CallsA Try.prog 5 xs (· = .s (.one (.b true)))
  | [], h => h.elim
  | [_], h => h.2.elim
  | [_, _], ⟨⟨ls0, ⟨n, hw0, h0⟩, e0⟩, ⟨ls1, ⟨rows1, hl1, hr1, h1⟩, e1⟩, _⟩ => by
    subst h0; subst e0
    have hr0 := lit_i64 hw0
    subst h1; subst e1
    obtain ⟨xs, hx1, rfl⟩ := rows_ints hr1
    show CallsA _ _ _ _
    rw [flat_ints, List.length_map]; exact seqsOrder_c hx1
  | _ :: _ :: _ :: _, h => h.2.2.elim
end Go.Proofs.Ytaffjoloefhodaa.Abs

namespace Go.Proofs.Ytaffjoloefhodaa
open Go.ChangeShapes Go.WideShapes Go.ChangeAt Go.RowKit

theorem Try.own : ownKnob Try.prog.godebug = none := by kernel_rfl
theorem Try.laidOut : laidOutB Try.prog = true := by kernel_rfl

set_option maxRecDepth 100000 in
theorem seqsOrder_lifted (os : Os) (started : os.Started) (H : Type) (enc : TypeId × Value → H) :
    ReturnsInHanded {} Try.checked os 5 .any (Rows.seqsOrderSpec.pre6 enc Try.prog Try.f5 Rows.seqsOrderRow.domain false) (Rows.seqsOrderSpec.post enc Try.prog Try.f5 false true false false) := by
  refine returnsInHanded_of_change (C := Try.checked) Try.own started (by kernel_rfl) Try.func5
    (ChangeSpec.witness6 (enc := enc) (C := Try.checked) false ⟨#[], #[.int .i64 0, .slice none 0 0], []⟩ 8 (by kernel_rfl) (by kernel_rfl) (by kernel_rfl) (by kernel_rfl)) ?_
  intro W base args ds gs before hval hW _ _
  exact Go.Proofs.Ytaffjoloefhodaa.Abs.law_contract (tb := 4) Try.laidOut [.int .i64, .sl (.int .i64)] (by kernel_rfl) rfl Try.underlying4 rfl (fun ds h => match ds, h with | [d0, d1], _ => rfl) Go.Proofs.Ytaffjoloefhodaa.Abs.seqsOrder_f base args ds gs before hval hW

theorem seqsOrder_holds : Rows.SeqsOrderSaid :=
  OpenClaim.holds_of_wide 5 Try.f5 rfl rfl rfl rfl rfl rfl rfl ⟨rfl, rfl, rfl, rfl, rfl⟩ rfl rfl rfl rfl rfl (by kernel_rfl) Try.func5 (by kernel_rfl)
    (of_decide_eq_true (by kernel_rfl)) (by unfold Func.isWrapper; first | (rw [if_pos (by decide +kernel)]; kernel_rfl) | (rw [if_neg (by decide +kernel)]; exact ⟨rfl, rfl⟩))
    (fun os started H enc _ => seqsOrder_lifted os started H enc)

end Go.Proofs.Ytaffjoloefhodaa
