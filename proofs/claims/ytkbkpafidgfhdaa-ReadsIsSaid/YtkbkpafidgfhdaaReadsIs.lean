/-
  The row of ReadsIs: for every input the law returns true, and the input reads as it did. No condition.
-/
import Derived.Test.YtkbkpafidgfhdaaF10
import Derived.Test.YtkbkpafidgfhdaaM10
import Derived.Test.YtkbkpafidgfhdaaRows
import Derived.ProofKit
namespace Go.Proofs.Ytkbkpafidgfhdaa.Abs
open Go.RowKit Go.Proofs

theorem readsIs_f : ∀ xs, FitsAll [.st (.pair (.sl (.st (.pair (.int .i64) (.pair (.st (.pair (.sl (.int .u8)) (.pair (.sl (.int .u8)) (.pair (.bool) (.unit))))) (.unit))))) (.unit)), .int .i64, .st (.pair (.sl (.int .u8)) (.pair (.sl (.int .u8)) (.pair (.bool) (.unit)))), .sl (.int .u8), .sl (.int .i64)] xs → CallsA Try.prog 3 xs (· = .s (.one (.b true)))
  | [], h => h.elim
  | [_], h => h.2.elim
  | [_, _], h => h.2.2.elim
  | [_, _, _], h => h.2.2.2.elim
  | [_, _, _, _], h => h.2.2.2.2.elim
  | [_, _, _, _, _], ⟨⟨ls0, h0, e0⟩, ⟨ls1, h1, e1⟩, ⟨ls2, h2, e2⟩, ⟨ls3, h3, e3⟩, ⟨ls4, h4, e4⟩, _⟩ => by
    obtain ⟨a0, q0, rfl⟩ := ft_GR10Table h0
    subst e0
    obtain ⟨a1, q1, rfl⟩ := ft_i64 h1
    subst e1
    obtain ⟨a2, q2, rfl⟩ := ft_GApiRange h2
    subst e2
    obtain ⟨a3, q3, rfl⟩ := (ft_sl (Q := fun (x : UInt8) => True) (fun h => ft_u8 h)) h3
    subst e3
    obtain ⟨a4, q4, rfl⟩ := (ft_sl (Q := fun (x : Int) => (-9223372036854775808 ≤ x ∧ x ≤ 9223372036854775807)) (fun h => ft_i64 h)) h4
    subst e4
    exact m3_l10_ReadsIs_c (readsIs_true a0 a1 a2 a3 a4)
  | _ :: _ :: _ :: _ :: _ :: _ :: _, h => h.2.2.2.2.2.elim
end Go.Proofs.Ytkbkpafidgfhdaa.Abs

namespace Go.Proofs.Ytkbkpafidgfhdaa
open Go.ChangeShapes Go.WideShapes Go.ChangeAt Go.RowKit

theorem Try.own : ownKnob Try.prog.godebug = none := by kernel_rfl
theorem Try.laidOut : laidOutB Try.prog = true := by kernel_rfl

set_option maxRecDepth 100000 in
theorem readsIs_lifted (os : Os) (started : os.Started) (H : Type) (enc : TypeId × Value → H) :
    ReturnsInHanded {} Try.checked os 3 .any (Rows.readsIsSpec.pre6 enc Try.prog Try.f3 Rows.readsIsRow.domain false) (Rows.readsIsSpec.post enc Try.prog Try.f3 false true false false) := by
  refine returnsInHanded_of_change (C := Try.checked) Try.own started (by kernel_rfl) Try.func3
    (ChangeSpec.witness6 (enc := enc) (C := Try.checked) false ⟨#[], #[.agg #[.slice none 0 0], .int .i64 0, .agg #[.slice none 0 0, .slice none 0 0, .bool false], .slice none 0 0, .slice none 0 0], []⟩ 8 (by kernel_rfl) (by kernel_rfl) (by kernel_rfl) (by kernel_rfl)) ?_
  intro W base args ds gs before hval hW _ _
  exact Go.Proofs.Ytkbkpafidgfhdaa.Abs.law_contract (tb := 4) Try.laidOut [.st (.pair (.sl (.st (.pair (.int .i64) (.pair (.st (.pair (.sl (.int .u8)) (.pair (.sl (.int .u8)) (.pair (.bool) (.unit))))) (.unit))))) (.unit)), .int .i64, .st (.pair (.sl (.int .u8)) (.pair (.sl (.int .u8)) (.pair (.bool) (.unit)))), .sl (.int .u8), .sl (.int .i64)] (by kernel_rfl) rfl Try.underlying4 rfl (fun ds h => match ds, h with | [d0, d1, d2, d3, d4], _ => rfl) Go.Proofs.Ytkbkpafidgfhdaa.Abs.readsIs_f (fun _ h => by cases h) base args ds gs before hval hW

theorem readsIs_holds : Rows.ReadsIsSaid :=
  OpenClaim.holds_of_wide 3 Try.f3 rfl rfl rfl rfl rfl rfl rfl ⟨rfl, rfl, rfl, rfl, rfl⟩ rfl rfl rfl rfl rfl (by kernel_rfl) Try.func3 (by kernel_rfl)
    (of_decide_eq_true (by kernel_rfl)) (by unfold Func.isWrapper; first | (rw [if_pos (by decide +kernel)]; kernel_rfl) | (rw [if_neg (by decide +kernel)]; exact ⟨rfl, rfl⟩))
    (fun os started H enc _ => readsIs_lifted os started H enc)

end Go.Proofs.Ytkbkpafidgfhdaa
