/-
  The row of StoreIs: for every input the law returns true, and the input reads as it did. No condition.
-/
import Derived.Test.YtbojepclnfnmcaaF08
import Derived.Test.YtbojepclnfnmcaaIs08
import Derived.Test.YtbojepclnfnmcaaRows
import Derived.ProofKit
namespace Go.Proofs.Ytbojepclnfnmcaa.Abs
open Go.RowKit Go.Proofs

theorem storeIs_f : ∀ xs, FitsAll [.st (.pair (.sl (.sl (.int .u8))) (.pair (.sl (.st (.pair (.sl (.st (.pair (.int .i64) (.pair (.sl (.int .u8)) (.pair (.bool) (.unit)))))) (.unit)))) (.pair (.int .i64) (.unit)))), .sl (.int .u8), .st (.pair (.sl (.int .u8)) (.pair (.sl (.int .u8)) (.pair (.bool) (.unit)))), .int .i64, .int .i64, .sl (.st (.pair (.sl (.int .u8)) (.pair (.sl (.int .u8)) (.pair (.bool) (.unit)))))] xs → CallsA Try.prog 3 xs (· = .s (.one (.b true)))
  | [], h => h.elim
  | [_], h => h.2.elim
  | [_, _], h => h.2.2.elim
  | [_, _, _], h => h.2.2.2.elim
  | [_, _, _, _], h => h.2.2.2.2.elim
  | [_, _, _, _, _], h => h.2.2.2.2.2.elim
  | [_, _, _, _, _, _], ⟨⟨ls0, h0, e0⟩, ⟨ls1, h1, e1⟩, ⟨ls2, h2, e2⟩, ⟨ls3, h3, e3⟩, ⟨ls4, h4, e4⟩, ⟨ls5, h5, e5⟩, _⟩ => by
    obtain ⟨a0, q0, rfl⟩ := ft_GR08Store h0
    subst e0
    obtain ⟨a1, q1, rfl⟩ := (ft_sl (Q := fun (x : UInt8) => True) (fun h => ft_u8 h)) h1
    subst e1
    obtain ⟨a2, q2, rfl⟩ := ft_GApiRange h2
    subst e2
    obtain ⟨a3, q3, rfl⟩ := ft_i64 h3
    subst e3
    obtain ⟨a4, q4, rfl⟩ := ft_i64 h4
    subst e4
    obtain ⟨a5, q5, rfl⟩ := (ft_sl (Q := fun (x : GApiWrite) => QGApiWrite x) (fun h => ft_GApiWrite h)) h5
    subst e5
    exact m3_l08_StoreIs_c (storeIs_true a0 a1 a2 a3 a4 a5)
  | _ :: _ :: _ :: _ :: _ :: _ :: _ :: _, h => h.2.2.2.2.2.2.elim
end Go.Proofs.Ytbojepclnfnmcaa.Abs

namespace Go.Proofs.Ytbojepclnfnmcaa
open Go.ChangeShapes Go.WideShapes Go.ChangeAt Go.RowKit

theorem Try.own : ownKnob Try.prog.godebug = none := by kernel_rfl
theorem Try.laidOut : laidOutB Try.prog = true := by kernel_rfl

set_option maxRecDepth 100000 in
theorem storeIs_lifted (os : Os) (started : os.Started) (H : Type) (enc : TypeId × Value → H) :
    ReturnsInHanded {} Try.checked os 3 .any (Rows.storeIsSpec.pre6 enc Try.prog Try.f3 Rows.storeIsRow.domain false) (Rows.storeIsSpec.post enc Try.prog Try.f3 false true false false) := by
  refine returnsInHanded_of_change (C := Try.checked) Try.own started (by kernel_rfl) Try.func3
    (ChangeSpec.witness6 (enc := enc) (C := Try.checked) false ⟨#[], #[.agg #[.slice none 0 0, .slice none 0 0, .int .i64 0], .slice none 0 0, .agg #[.slice none 0 0, .slice none 0 0, .bool false], .int .i64 0, .int .i64 0, .slice none 0 0], []⟩ 8 (by kernel_rfl) (by kernel_rfl) (by kernel_rfl) (by kernel_rfl)) ?_
  intro W base args ds gs before hval hW _ _
  exact Go.Proofs.Ytbojepclnfnmcaa.Abs.law_contract (tb := 4) Try.laidOut [.st (.pair (.sl (.sl (.int .u8))) (.pair (.sl (.st (.pair (.sl (.st (.pair (.int .i64) (.pair (.sl (.int .u8)) (.pair (.bool) (.unit)))))) (.unit)))) (.pair (.int .i64) (.unit)))), .sl (.int .u8), .st (.pair (.sl (.int .u8)) (.pair (.sl (.int .u8)) (.pair (.bool) (.unit)))), .int .i64, .int .i64, .sl (.st (.pair (.sl (.int .u8)) (.pair (.sl (.int .u8)) (.pair (.bool) (.unit)))))] (by kernel_rfl) rfl Try.underlying4 rfl (fun ds h => match ds, h with | [d0, d1, d2, d3, d4, d5], _ => rfl) Go.Proofs.Ytbojepclnfnmcaa.Abs.storeIs_f (fun _ h => by cases h) base args ds gs before hval hW

theorem storeIs_holds : Rows.StoreIsSaid :=
  OpenClaim.holds_of_wide 3 Try.f3 rfl rfl rfl rfl rfl rfl rfl ⟨rfl, rfl, rfl, rfl, rfl⟩ rfl rfl rfl rfl rfl (by kernel_rfl) Try.func3 (by kernel_rfl)
    (of_decide_eq_true (by kernel_rfl)) (by unfold Func.isWrapper; first | (rw [if_pos (by decide +kernel)]; kernel_rfl) | (rw [if_neg (by decide +kernel)]; exact ⟨rfl, rfl⟩))
    (fun os started H enc _ => storeIs_lifted os started H enc)

end Go.Proofs.Ytbojepclnfnmcaa
