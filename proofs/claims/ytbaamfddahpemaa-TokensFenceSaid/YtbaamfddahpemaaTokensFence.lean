/-
  The row of TokensFence: for every input the law returns true, and the input reads as it did. No condition.
-/
import Derived.Test.YtbaamfddahpemaaF12
import Derived.Test.YtbaamfddahpemaaL12
import Derived.Test.YtbaamfddahpemaaRows
import Derived.ProofKit
namespace Go.Proofs.Ytbaamfddahpemaa.Abs
open Go.RowKit Go.Proofs

theorem tokensFence_f : ∀ xs, FitsAll [.sl (.st (.pair (.int .i64) (.pair (.int .i64) (.pair (.int .i64) (.unit))))), .int .i64, .int .i64, .sl (.st (.pair (.int .i64) (.pair (.int .i64) (.pair (.int .i64) (.unit)))))] xs → CallsA Try.prog 6 xs (· = .s (.one (.b true)))
  | [], h => h.elim
  | [_], h => h.2.elim
  | [_, _], h => h.2.2.elim
  | [_, _, _], h => h.2.2.2.elim
  | [_, _, _, _], ⟨⟨ls0, h0, e0⟩, ⟨ls1, h1, e1⟩, ⟨ls2, h2, e2⟩, ⟨ls3, h3, e3⟩, _⟩ => by
    obtain ⟨a0, q0, rfl⟩ := (ft_sl (Q := fun (x : GL12Act) => QGL12Act x) (fun h => ft_GL12Act h)) h0
    subst e0
    obtain ⟨a1, q1, rfl⟩ := ft_i64 h1
    subst e1
    obtain ⟨a2, q2, rfl⟩ := ft_i64 h2
    subst e2
    obtain ⟨a3, q3, rfl⟩ := (ft_sl (Q := fun (x : GL12Act) => QGL12Act x) (fun h => ft_GL12Act h)) h3
    subst e3
    exact m6_l12_TokensFence_c (tokensFence_true a0 a1 a2 a3)
  | _ :: _ :: _ :: _ :: _ :: _, h => h.2.2.2.2.elim
end Go.Proofs.Ytbaamfddahpemaa.Abs

namespace Go.Proofs.Ytbaamfddahpemaa
open Go.ChangeShapes Go.WideShapes Go.ChangeAt Go.RowKit

theorem Try.own : ownKnob Try.prog.godebug = none := by kernel_rfl
theorem Try.laidOut : laidOutB Try.prog = true := by kernel_rfl

set_option maxRecDepth 100000 in
theorem tokensFence_lifted (os : Os) (started : os.Started) (H : Type) (enc : TypeId × Value → H) :
    ReturnsInHanded {} Try.checked os 6 .any (Rows.tokensFenceSpec.pre6 enc Try.prog Try.f6 Rows.tokensFenceRow.domain false) (Rows.tokensFenceSpec.post enc Try.prog Try.f6 false true false false) := by
  refine returnsInHanded_of_change (C := Try.checked) Try.own started (by kernel_rfl) Try.func6
    (ChangeSpec.witness6 (enc := enc) (C := Try.checked) false ⟨#[], #[.slice none 0 0, .int .i64 0, .int .i64 0, .slice none 0 0], []⟩ 8 (by kernel_rfl) (by kernel_rfl) (by kernel_rfl) (by kernel_rfl)) ?_
  intro W base args ds gs before hval hW _ _
  exact Go.Proofs.Ytbaamfddahpemaa.Abs.law_contract (tb := 4) Try.laidOut [.sl (.st (.pair (.int .i64) (.pair (.int .i64) (.pair (.int .i64) (.unit))))), .int .i64, .int .i64, .sl (.st (.pair (.int .i64) (.pair (.int .i64) (.pair (.int .i64) (.unit)))))] (by kernel_rfl) rfl Try.underlying4 rfl (fun ds h => match ds, h with | [d0, d1, d2, d3], _ => rfl) Go.Proofs.Ytbaamfddahpemaa.Abs.tokensFence_f base args ds gs before hval hW

theorem tokensFence_holds : Rows.TokensFenceSaid :=
  OpenClaim.holds_of_wide 6 Try.f6 rfl rfl rfl rfl rfl rfl rfl ⟨rfl, rfl, rfl, rfl, rfl⟩ rfl rfl rfl rfl rfl (by kernel_rfl) Try.func6 (by kernel_rfl)
    (of_decide_eq_true (by kernel_rfl)) (by unfold Func.isWrapper; first | (rw [if_pos (by decide +kernel)]; kernel_rfl) | (rw [if_neg (by decide +kernel)]; exact ⟨rfl, rfl⟩))
    (fun os started H enc _ => tokensFence_lifted os started H enc)

end Go.Proofs.Ytbaamfddahpemaa
