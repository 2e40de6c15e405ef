/-
  The row of SerialAhead: for every input the law returns true, and the input reads as it did. No condition.
-/
import Derived.Test.YteomnkookckfiaaF24
import Derived.Test.YteomnkookckfiaaAhead24
import Derived.Test.YteomnkookckfiaaRows
import Derived.ProofKit
namespace Go.Proofs.Yteomnkookckfiaa.Abs
open Go.RowKit Go.Proofs

theorem serialAhead_f : ∀ xs, FitsAll [.st (.pair (.int .i64) (.pair (.int .i64) (.pair (.int .i64) (.pair (.sl (.st (.pair (.sl (.int .u8)) (.pair (.sl (.int .u8)) (.pair (.bool) (.unit)))))) (.pair (.sl (.st (.pair (.sl (.int .u8)) (.pair (.sl (.int .u8)) (.pair (.bool) (.unit)))))) (.unit)))))), .st (.pair (.int .i64) (.pair (.int .i64) (.pair (.int .i64) (.pair (.sl (.st (.pair (.sl (.int .u8)) (.pair (.sl (.int .u8)) (.pair (.bool) (.unit)))))) (.pair (.sl (.st (.pair (.sl (.int .u8)) (.pair (.sl (.int .u8)) (.pair (.bool) (.unit)))))) (.unit))))))] xs → CallsA Try.prog 4 xs (· = .s (.one (.b true)))
  | [], h => h.elim
  | [_], h => h.2.elim
  | [_, _], ⟨⟨ls0, h0, e0⟩, ⟨ls1, h1, e1⟩, _⟩ => by
    obtain ⟨a0, q0, rfl⟩ := ft_GR24Tx h0
    subst e0
    obtain ⟨a1, q1, rfl⟩ := ft_GR24Tx h1
    subst e1
    exact m4_l24_SerialAhead_c (serialAhead_true a0 a1)
  | _ :: _ :: _ :: _, h => h.2.2.elim
end Go.Proofs.Yteomnkookckfiaa.Abs

namespace Go.Proofs.Yteomnkookckfiaa
open Go.ChangeShapes Go.WideShapes Go.ChangeAt Go.RowKit

theorem Try.own : ownKnob Try.prog.godebug = none := by kernel_rfl
theorem Try.laidOut : laidOutB Try.prog = true := by kernel_rfl

set_option maxRecDepth 100000 in
theorem serialAhead_lifted (os : Os) (started : os.Started) (H : Type) (enc : TypeId × Value → H) :
    ReturnsInHanded {} Try.checked os 4 .any (Rows.serialAheadSpec.pre6 enc Try.prog Try.f4 Rows.serialAheadRow.domain false) (Rows.serialAheadSpec.post enc Try.prog Try.f4 false true false false) := by
  refine returnsInHanded_of_change (C := Try.checked) Try.own started (by kernel_rfl) Try.func4
    (ChangeSpec.witness6 (enc := enc) (C := Try.checked) false ⟨#[], #[.agg #[.int .i64 0, .int .i64 0, .int .i64 0, .slice none 0 0, .slice none 0 0], .agg #[.int .i64 0, .int .i64 0, .int .i64 0, .slice none 0 0, .slice none 0 0]], []⟩ 8 (by kernel_rfl) (by kernel_rfl) (by kernel_rfl) (by kernel_rfl)) ?_
  intro W base args ds gs before hval hW _ _
  exact Go.Proofs.Yteomnkookckfiaa.Abs.law_contract (tb := 4) Try.laidOut [.st (.pair (.int .i64) (.pair (.int .i64) (.pair (.int .i64) (.pair (.sl (.st (.pair (.sl (.int .u8)) (.pair (.sl (.int .u8)) (.pair (.bool) (.unit)))))) (.pair (.sl (.st (.pair (.sl (.int .u8)) (.pair (.sl (.int .u8)) (.pair (.bool) (.unit)))))) (.unit)))))), .st (.pair (.int .i64) (.pair (.int .i64) (.pair (.int .i64) (.pair (.sl (.st (.pair (.sl (.int .u8)) (.pair (.sl (.int .u8)) (.pair (.bool) (.unit)))))) (.pair (.sl (.st (.pair (.sl (.int .u8)) (.pair (.sl (.int .u8)) (.pair (.bool) (.unit)))))) (.unit))))))] (by kernel_rfl) rfl Try.underlying4 rfl (fun ds h => match ds, h with | [d0, d1], _ => rfl) Go.Proofs.Yteomnkookckfiaa.Abs.serialAhead_f (fun _ h => by cases h) base args ds gs before hval hW

theorem serialAhead_holds : Rows.SerialAheadSaid :=
  OpenClaim.holds_of_wide 4 Try.f4 rfl rfl rfl rfl rfl rfl rfl ⟨rfl, rfl, rfl, rfl, rfl⟩ rfl rfl rfl rfl rfl (by kernel_rfl) Try.func4 (by kernel_rfl)
    (of_decide_eq_true (by kernel_rfl)) (by unfold Func.isWrapper; first | (rw [if_pos (by decide +kernel)]; kernel_rfl) | (rw [if_neg (by decide +kernel)]; exact ⟨rfl, rfl⟩))
    (fun os started H enc _ => serialAhead_lifted os started H enc)

end Go.Proofs.Yteomnkookckfiaa
