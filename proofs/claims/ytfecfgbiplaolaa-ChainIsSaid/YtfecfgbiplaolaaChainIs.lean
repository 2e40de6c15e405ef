/-
  The row of ChainIs: for every input the law returns true, and the input reads as it did. No condition.
-/
import Derived.Test.YtfecfgbiplaolaaF07
import Derived.Test.YtfecfgbiplaolaaO07
import Derived.Test.YtfecfgbiplaolaaRows
import Derived.ProofKit
namespace Go.Proofs.Ytfecfgbiplaolaa.Abs
open Go.RowKit Go.Proofs

theorem chainIs_f : ∀ xs, FitsAll [.st (.pair (.sl (.st (.pair (.int .i64) (.pair (.sl (.int .u8)) (.pair (.bool) (.unit)))))) (.unit)), .st (.pair (.int .i64) (.pair (.sl (.int .u8)) (.pair (.bool) (.unit)))), .int .i64] xs → CallsA Try.prog 3 xs (· = .s (.one (.b true)))
  | [], h => h.elim
  | [_], h => h.2.elim
  | [_, _], h => h.2.2.elim
  | [_, _, _], ⟨⟨ls0, h0, e0⟩, ⟨ls1, h1, e1⟩, ⟨ls2, h2, e2⟩, _⟩ => by
    obtain ⟨a0, q0, rfl⟩ := ft_GR07Chain h0
    subst e0
    obtain ⟨a1, q1, rfl⟩ := ft_GR07Ver h1
    subst e1
    obtain ⟨a2, q2, rfl⟩ := ft_i64 h2
    subst e2
    exact m3_l07_ChainIs_c (chainIs_true a0 a1 a2)
  | _ :: _ :: _ :: _ :: _, h => h.2.2.2.elim
end Go.Proofs.Ytfecfgbiplaolaa.Abs

namespace Go.Proofs.Ytfecfgbiplaolaa
open Go.ChangeShapes Go.WideShapes Go.ChangeAt Go.RowKit

theorem Try.own : ownKnob Try.prog.godebug = none := by kernel_rfl
theorem Try.laidOut : laidOutB Try.prog = true := by kernel_rfl

set_option maxRecDepth 100000 in
theorem chainIs_lifted (os : Os) (started : os.Started) (H : Type) (enc : TypeId × Value → H) :
    ReturnsInHanded {} Try.checked os 3 .any (Rows.chainIsSpec.pre6 enc Try.prog Try.f3 Rows.chainIsRow.domain false) (Rows.chainIsSpec.post enc Try.prog Try.f3 false true false false) := by
  refine returnsInHanded_of_change (C := Try.checked) Try.own started (by kernel_rfl) Try.func3
    (ChangeSpec.witness6 (enc := enc) (C := Try.checked) false ⟨#[], #[.agg #[.slice none 0 0], .agg #[.int .i64 0, .slice none 0 0, .bool false], .int .i64 0], []⟩ 8 (by kernel_rfl) (by kernel_rfl) (by kernel_rfl) (by kernel_rfl)) ?_
  intro W base args ds gs before hval hW _ _
  exact Go.Proofs.Ytfecfgbiplaolaa.Abs.law_contract (tb := 4) Try.laidOut [.st (.pair (.sl (.st (.pair (.int .i64) (.pair (.sl (.int .u8)) (.pair (.bool) (.unit)))))) (.unit)), .st (.pair (.int .i64) (.pair (.sl (.int .u8)) (.pair (.bool) (.unit)))), .int .i64] (by kernel_rfl) rfl Try.underlying4 rfl (fun ds h => match ds, h with | [d0, d1, d2], _ => rfl) Go.Proofs.Ytfecfgbiplaolaa.Abs.chainIs_f (fun _ h => by cases h) base args ds gs before hval hW

theorem chainIs_holds : Rows.ChainIsSaid :=
  OpenClaim.holds_of_wide 3 Try.f3 rfl rfl rfl rfl rfl rfl rfl ⟨rfl, rfl, rfl, rfl, rfl⟩ rfl rfl rfl rfl rfl (by kernel_rfl) Try.func3 (by kernel_rfl)
    (of_decide_eq_true (by kernel_rfl)) (by unfold Func.isWrapper; first | (rw [if_pos (by decide +kernel)]; kernel_rfl) | (rw [if_neg (by decide +kernel)]; exact ⟨rfl, rfl⟩))
    (fun os started H enc _ => chainIs_lifted os started H enc)

end Go.Proofs.Ytfecfgbiplaolaa
