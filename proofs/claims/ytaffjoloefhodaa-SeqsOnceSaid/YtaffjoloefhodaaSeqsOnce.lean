/-
  The row of SeqsOnce: for every input the law returns true, and the input reads as it did. No condition.
-/
import Derived.Test.YtaffjoloefhodaaQ1
import Derived.Test.YtaffjoloefhodaaRows
import Derived.ProofKit
namespace Go.Proofs.Ytaffjoloefhodaa.Abs
open Go.RowKit Go.Proofs

theorem seqsOnce_f : ∀ xs, FitsAll [.sl (.int .i64), .int .i64] xs → CallsA Try.prog 4 xs (· = .s (.one (.b true)))
  | [], h => h.elim
  | [_], h => h.2.elim
  | [_, _], ⟨⟨ls, ⟨rows, _, hr, h1⟩, h2⟩, ⟨ls', ⟨k, _, h3⟩, h4⟩, _⟩ => by
    subst h1; subst h2; subst h3; subst h4
    obtain ⟨xs, hx, rfl⟩ := rows_ints hr
    have := seqsOnce_c (xs := xs) (k := k) hx
    rw [flat_ints, List.length_map]
    exact this
  | _ :: _ :: _ :: _, h => h.2.2.elim
end Go.Proofs.Ytaffjoloefhodaa.Abs

namespace Go.Proofs.Ytaffjoloefhodaa
open Go.ChangeShapes Go.WideShapes Go.ChangeAt Go.RowKit
theorem Try.own : ownKnob Try.prog.godebug = none := by kernel_rfl
theorem Try.laidOut : laidOutB Try.prog = true := by kernel_rfl

set_option maxRecDepth 100000 in
theorem seqsOnce_lifted (os : Os) (started : os.Started) (H : Type) (enc : TypeId × Value → H) :
    ReturnsInHanded {} Try.checked os 4 .any (Rows.seqsOnceSpec.pre6 enc Try.prog Try.f4 Rows.seqsOnceRow.domain false) (Rows.seqsOnceSpec.post enc Try.prog Try.f4 false true false false) := by
  refine returnsInHanded_of_change (C := Try.checked) Try.own started (by kernel_rfl) Try.func4
    (ChangeSpec.witness6 (enc := enc) (C := Try.checked) false ⟨#[], #[.slice none 0 0, .int .i64 0], []⟩ 8 (by kernel_rfl) (by kernel_rfl) (by kernel_rfl) (by kernel_rfl)) ?_
  intro W base args ds gs before hval hW _ _
  exact Go.Proofs.Ytaffjoloefhodaa.Abs.law_contract (tb := 4) Try.laidOut [.sl (.int .i64), .int .i64] (by kernel_rfl) rfl Try.underlying4 rfl (fun ds h => match ds, h with | [d0, d1], _ => rfl) Go.Proofs.Ytaffjoloefhodaa.Abs.seqsOnce_f base args ds gs before hval hW

theorem seqsOnce_holds : Rows.SeqsOnceSaid :=
  OpenClaim.holds_of_wide 4 Try.f4 rfl rfl rfl rfl rfl rfl rfl ⟨rfl, rfl, rfl, rfl, rfl⟩ rfl rfl rfl rfl rfl (by kernel_rfl) Try.func4 (by kernel_rfl)
    (of_decide_eq_true (by kernel_rfl)) (by unfold Func.isWrapper; first | (rw [if_pos (by decide +kernel)]; kernel_rfl) | (rw [if_neg (by decide +kernel)]; exact ⟨rfl, rfl⟩))
    (fun os started H enc _ => seqsOnce_lifted os started H enc)

end Go.Proofs.Ytaffjoloefhodaa
