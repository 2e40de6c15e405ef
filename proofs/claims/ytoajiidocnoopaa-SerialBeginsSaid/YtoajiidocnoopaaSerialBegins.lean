/-
  The row of SerialBegins: for every input the law returns true, and the input reads as it did. No condition.
-/
import Derived.Test.YtoajiidocnoopaaF24
import Derived.Test.YtoajiidocnoopaaBegins24
import Derived.Test.YtoajiidocnoopaaRows
import Derived.ProofKit
namespace Go.Proofs.Ytoajiidocnoopaa.Abs
open Go.RowKit Go.Proofs

theorem serialBegins_f : ∀ xs, FitsAll [.sl (.st (.pair (.int .i64) (.pair (.int .i64) (.pair (.int .i64) (.pair (.sl (.st (.pair (.sl (.int .u8)) (.pair (.sl (.int .u8)) (.pair (.bool) (.unit)))))) (.pair (.sl (.st (.pair (.sl (.int .u8)) (.pair (.sl (.int .u8)) (.pair (.bool) (.unit)))))) (.unit))))))), .int .i64] xs → CallsA Try.prog 5 xs (· = .s (.one (.b true)))
  | [], h => h.elim
  | [_], h => h.2.elim
  | [_, _], ⟨⟨ls0, h0, e0⟩, ⟨ls1, h1, e1⟩, _⟩ => by
    obtain ⟨a0, q0, rfl⟩ := (ft_sl (Q := fun (x : GR24Tx) => QGR24Tx x) (fun h => ft_GR24Tx h)) h0
    subst e0
    obtain ⟨a1, q1, rfl⟩ := ft_i64 h1
    subst e1
    exact m5_l24_SerialBegins_c (serialBegins_true a0 a1)
  | _ :: _ :: _ :: _, h => h.2.2.elim
end Go.Proofs.Ytoajiidocnoopaa.Abs

namespace Go.Proofs.Ytoajiidocnoopaa
open Go.ChangeShapes Go.WideShapes Go.ChangeAt Go.RowKit

theorem Try.own : ownKnob Try.prog.godebug = none := by kernel_rfl
theorem Try.laidOut : laidOutB Try.prog = true := by kernel_rfl

set_option maxRecDepth 100000 in
theorem serialBegins_lifted (os : Os) (started : os.Started) (H : Type) (enc : TypeId × Value → H) :
    ReturnsInHanded {} Try.checked os 5 .any (Rows.serialBeginsSpec.pre6 enc Try.prog Try.f5 Rows.serialBeginsRow.domain false) (Rows.serialBeginsSpec.post enc Try.prog Try.f5 false true false false) := by
  refine returnsInHanded_of_change (C := Try.checked) Try.own started (by kernel_rfl) Try.func5
    (ChangeSpec.witness6 (enc := enc) (C := Try.checked) false ⟨#[], #[.slice none 0 0, .int .i64 0], []⟩ 8 (by kernel_rfl) (by kernel_rfl) (by kernel_rfl) (by kernel_rfl)) ?_
  intro W base args ds gs before hval hW _ _
  exact Go.Proofs.Ytoajiidocnoopaa.Abs.law_contract (tb := 4) Try.laidOut [.sl (.st (.pair (.int .i64) (.pair (.int .i64) (.pair (.int .i64) (.pair (.sl (.st (.pair (.sl (.int .u8)) (.pair (.sl (.int .u8)) (.pair (.bool) (.unit)))))) (.pair (.sl (.st (.pair (.sl (.int .u8)) (.pair (.sl (.int .u8)) (.pair (.bool) (.unit)))))) (.unit))))))), .int .i64] (by kernel_rfl) rfl Try.underlying4 rfl (fun ds h => match ds, h with | [d0, d1], _ => rfl) Go.Proofs.Ytoajiidocnoopaa.Abs.serialBegins_f (fun _ h => by cases h) base args ds gs before hval hW

theorem serialBegins_holds : Rows.SerialBeginsSaid :=
  OpenClaim.holds_of_wide 5 Try.f5 rfl rfl rfl rfl rfl rfl rfl ⟨rfl, rfl, rfl, rfl, rfl⟩ rfl rfl rfl rfl rfl (by kernel_rfl) Try.func5 (by kernel_rfl)
    (of_decide_eq_true (by kernel_rfl)) (by unfold Func.isWrapper; first | (rw [if_pos (by decide +kernel)]; kernel_rfl) | (rw [if_neg (by decide +kernel)]; exact ⟨rfl, rfl⟩))
    (fun os started H enc _ => serialBegins_lifted os started H enc)

end Go.Proofs.Ytoajiidocnoopaa
