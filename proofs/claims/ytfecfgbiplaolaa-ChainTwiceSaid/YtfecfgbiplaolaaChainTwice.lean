/-
  The row of ChainTwice: for every input the law returns true, and the input reads as it did. No condition.
-/
import Derived.Test.YtfecfgbiplaolaaF07
import Derived.Test.YtfecfgbiplaolaaO07
import Derived.Test.YtfecfgbiplaolaaRows
import Derived.ProofKit
namespace Go.Proofs.Ytfecfgbiplaolaa.Abs
open Go.RowKit Go.Proofs

theorem chainTwice_f : ∀ xs, FitsAll [.sl (.st (.pair (.int .i64) (.pair (.sl (.int .u8)) (.pair (.bool) (.unit))))), .int .i64, .int .i64] xs → CallsA Try.prog 7 xs (· = .s (.one (.b true)))
  | [], h => h.elim
  | [_], h => h.2.elim
  | [_, _], h => h.2.2.elim
  | [_, _, _], ⟨⟨ls0, h0, e0⟩, ⟨ls1, h1, e1⟩, ⟨ls2, h2, e2⟩, _⟩ => by
    obtain ⟨a0, q0, rfl⟩ := (ft_sl (Q := fun (x : GR07Ver) => QGR07Ver x) (fun h => ft_GR07Ver h)) h0
    subst e0
    obtain ⟨a1, q1, rfl⟩ := ft_i64 h1
    subst e1
    obtain ⟨a2, q2, rfl⟩ := ft_i64 h2
    subst e2
    exact m7_l07_ChainTwice_c (chainTwice_true a0 a1 a2)
  | _ :: _ :: _ :: _ :: _, h => h.2.2.2.elim
end Go.Proofs.Ytfecfgbiplaolaa.Abs

namespace Go.Proofs.Ytfecfgbiplaolaa
open Go.ChangeShapes Go.WideShapes Go.ChangeAt Go.RowKit

theorem Try.own : ownKnob Try.prog.godebug = none := by kernel_rfl
theorem Try.laidOut : laidOutB Try.prog = true := by kernel_rfl

set_option maxRecDepth 100000 in
theorem chainTwice_lifted (os : Os) (started : os.Started) (H : Type) (enc : TypeId × Value → H) :
    ReturnsInHanded {} Try.checked os 7 .any (Rows.chainTwiceSpec.pre6 enc Try.prog Try.f7 Rows.chainTwiceRow.domain false) (Rows.chainTwiceSpec.post enc Try.prog Try.f7 false true false false) := by
  refine returnsInHanded_of_change (C := Try.checked) Try.own started (by kernel_rfl) Try.func7
    (ChangeSpec.witness6 (enc := enc) (C := Try.checked) false ⟨#[], #[.slice none 0 0, .int .i64 0, .int .i64 0], []⟩ 8 (by kernel_rfl) (by kernel_rfl) (by kernel_rfl) (by kernel_rfl)) ?_
  intro W base args ds gs before hval hW _ _
  exact Go.Proofs.Ytfecfgbiplaolaa.Abs.law_contract (tb := 4) Try.laidOut [.sl (.st (.pair (.int .i64) (.pair (.sl (.int .u8)) (.pair (.bool) (.unit))))), .int .i64, .int .i64] (by kernel_rfl) rfl Try.underlying4 rfl (fun ds h => match ds, h with | [d0, d1, d2], _ => rfl) Go.Proofs.Ytfecfgbiplaolaa.Abs.chainTwice_f (fun _ h => by cases h) base args ds gs before hval hW

theorem chainTwice_holds : Rows.ChainTwiceSaid :=
  OpenClaim.holds_of_wide 7 Try.f7 rfl rfl rfl rfl rfl rfl rfl ⟨rfl, rfl, rfl, rfl, rfl⟩ rfl rfl rfl rfl rfl (by kernel_rfl) Try.func7 (by kernel_rfl)
    (of_decide_eq_true (by kernel_rfl)) (by unfold Func.isWrapper; first | (rw [if_pos (by decide +kernel)]; kernel_rfl) | (rw [if_neg (by decide +kernel)]; exact ⟨rfl, rfl⟩))
    (fun os started H enc _ => chainTwice_lifted os started H enc)

end Go.Proofs.Ytfecfgbiplaolaa
