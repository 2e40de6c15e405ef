/-
  The row of TokensOnce: for every input the law returns true, and the input reads as it did. No condition.
-/
import Derived.Test.YtbaamfddahpemaaF12
import Derived.Test.YtbaamfddahpemaaL12
import Derived.Test.YtbaamfddahpemaaRows
import Derived.ProofKit
namespace Go.Proofs.Ytbaamfddahpemaa.Abs
open Go.RowKit Go.Proofs

theorem tokensOnce_f : ∀ xs, FitsAll [.sl (.st (.pair (.int .i64) (.pair (.int .i64) (.pair (.int .i64) (.unit))))), .int .i64] xs → CallsA Try.prog 3 xs (· = .s (.one (.b true)))
  | [], h => h.elim
  | [_], h => h.2.elim
  | [_, _], ⟨⟨ls0, h0, e0⟩, ⟨ls1, h1, e1⟩, _⟩ => by
    obtain ⟨a0, q0, rfl⟩ := (ft_sl (Q := fun (x : GL12Act) => QGL12Act x) (fun h => ft_GL12Act h)) h0
    subst e0
    obtain ⟨a1, q1, rfl⟩ := ft_i64 h1
    subst e1
    exact m3_l12_TokensOnce_c (tokensOnce_true a0 a1)
  | _ :: _ :: _ :: _, h => h.2.2.elim
end Go.Proofs.Ytbaamfddahpemaa.Abs

namespace Go.Proofs.Ytbaamfddahpemaa
open Go.ChangeShapes Go.WideShapes Go.ChangeAt Go.RowKit

theorem Try.own : ownKnob Try.prog.godebug = none := by kernel_rfl
theorem Try.laidOut : laidOutB Try.prog = true := by kernel_rfl

set_option maxRecDepth 100000 in
theorem tokensOnce_lifted (os : Os) (started : os.Started) (H : Type) (enc : TypeId × Value → H) :
    ReturnsInHanded {} Try.checked os 3 .any (Rows.tokensOnceSpec.pre6 enc Try.prog Try.f3 Rows.tokensOnceRow.domain false) (Rows.tokensOnceSpec.post enc Try.prog Try.f3 false true false false) := by
  refine returnsInHanded_of_change (C := Try.checked) Try.own started (by kernel_rfl) Try.func3
    (ChangeSpec.witness6 (enc := enc) (C := Try.checked) false ⟨#[], #[.slice none 0 0, .int .i64 0], []⟩ 8 (by kernel_rfl) (by kernel_rfl) (by kernel_rfl) (by kernel_rfl)) ?_
  intro W base args ds gs before hval hW _ _
  exact Go.Proofs.Ytbaamfddahpemaa.Abs.law_contract (tb := 4) Try.laidOut [.sl (.st (.pair (.int .i64) (.pair (.int .i64) (.pair (.int .i64) (.unit))))), .int .i64] (by kernel_rfl) rfl Try.underlying4 rfl (fun ds h => match ds, h with | [d0, d1], _ => rfl) Go.Proofs.Ytbaamfddahpemaa.Abs.tokensOnce_f base args ds gs before hval hW

theorem tokensOnce_holds : Rows.TokensOnceSaid :=
  OpenClaim.holds_of_wide 3 Try.f3 rfl rfl rfl rfl rfl rfl rfl ⟨rfl, rfl, rfl, rfl, rfl⟩ rfl rfl rfl rfl rfl (by kernel_rfl) Try.func3 (by kernel_rfl)
    (of_decide_eq_true (by kernel_rfl)) (by unfold Func.isWrapper; first | (rw [if_pos (by decide +kernel)]; kernel_rfl) | (rw [if_neg (by decide +kernel)]; exact ⟨rfl, rfl⟩))
    (fun os started H enc _ => tokensOnce_lifted os started H enc)

end Go.Proofs.Ytbaamfddahpemaa
