/-
  The row of BufferAgain: for every input the law returns true, and the input reads as it did. No condition.
-/
import Derived.Test.YtmkcigfeebippaaF09
import Derived.Test.YtmkcigfeebippaaOver09
import Derived.Test.YtmkcigfeebippaaRows
import Derived.ProofKit
namespace Go.Proofs.Ytmkcigfeebippaa.Abs
open Go.RowKit Go.Proofs

theorem bufferAgain_f : ∀ xs, FitsAll [.sl (.st (.pair (.sl (.int .u8)) (.pair (.sl (.int .u8)) (.pair (.bool) (.unit))))), .st (.pair (.sl (.int .u8)) (.pair (.sl (.int .u8)) (.pair (.bool) (.unit)))), .st (.pair (.sl (.int .u8)) (.pair (.sl (.int .u8)) (.pair (.bool) (.unit))))] xs → CallsA Try.prog 6 xs (· = .s (.one (.b true)))
  | [], h => h.elim
  | [_], h => h.2.elim
  | [_, _], h => h.2.2.elim
  | [_, _, _], ⟨⟨ls0, h0, e0⟩, ⟨ls1, h1, e1⟩, ⟨ls2, h2, e2⟩, _⟩ => by
    obtain ⟨a0, q0, rfl⟩ := (ft_sl (Q := fun (x : GApiWrite) => QGApiWrite x) (fun h => ft_GApiWrite h)) h0
    subst e0
    obtain ⟨a1, q1, rfl⟩ := ft_GApiWrite h1
    subst e1
    obtain ⟨a2, q2, rfl⟩ := ft_GApiWrite h2
    subst e2
    exact m6_l09_BufferAgain_c (bufferAgain_true a0 a1 a2)
  | _ :: _ :: _ :: _ :: _, h => h.2.2.2.elim
end Go.Proofs.Ytmkcigfeebippaa.Abs

namespace Go.Proofs.Ytmkcigfeebippaa
open Go.ChangeShapes Go.WideShapes Go.ChangeAt Go.RowKit

theorem Try.own : ownKnob Try.prog.godebug = none := by kernel_rfl
theorem Try.laidOut : laidOutB Try.prog = true := by kernel_rfl

set_option maxRecDepth 100000 in
theorem bufferAgain_lifted (os : Os) (started : os.Started) (H : Type) (enc : TypeId × Value → H) :
    ReturnsInHanded {} Try.checked os 6 .any (Rows.bufferAgainSpec.pre6 enc Try.prog Try.f6 Rows.bufferAgainRow.domain false) (Rows.bufferAgainSpec.post enc Try.prog Try.f6 false true false false) := by
  refine returnsInHanded_of_change (C := Try.checked) Try.own started (by kernel_rfl) Try.func6
    (ChangeSpec.witness6 (enc := enc) (C := Try.checked) false ⟨#[], #[.slice none 0 0, .agg #[.slice none 0 0, .slice none 0 0, .bool false], .agg #[.slice none 0 0, .slice none 0 0, .bool false]], []⟩ 8 (by kernel_rfl) (by kernel_rfl) (by kernel_rfl) (by kernel_rfl)) ?_
  intro W base args ds gs before hval hW _ _
  exact Go.Proofs.Ytmkcigfeebippaa.Abs.law_contract (tb := 4) Try.laidOut [.sl (.st (.pair (.sl (.int .u8)) (.pair (.sl (.int .u8)) (.pair (.bool) (.unit))))), .st (.pair (.sl (.int .u8)) (.pair (.sl (.int .u8)) (.pair (.bool) (.unit)))), .st (.pair (.sl (.int .u8)) (.pair (.sl (.int .u8)) (.pair (.bool) (.unit))))] (by kernel_rfl) rfl Try.underlying4 rfl (fun ds h => match ds, h with | [d0, d1, d2], _ => rfl) Go.Proofs.Ytmkcigfeebippaa.Abs.bufferAgain_f (fun _ h => by cases h) base args ds gs before hval hW

theorem bufferAgain_holds : Rows.BufferAgainSaid :=
  OpenClaim.holds_of_wide 6 Try.f6 rfl rfl rfl rfl rfl rfl rfl ⟨rfl, rfl, rfl, rfl, rfl⟩ rfl rfl rfl rfl rfl (by kernel_rfl) Try.func6 (by kernel_rfl)
    (of_decide_eq_true (by kernel_rfl)) (by unfold Func.isWrapper; first | (rw [if_pos (by decide +kernel)]; kernel_rfl) | (rw [if_neg (by decide +kernel)]; exact ⟨rfl, rfl⟩))
    (fun os started H enc _ => bufferAgain_lifted os started H enc)

end Go.Proofs.Ytmkcigfeebippaa
