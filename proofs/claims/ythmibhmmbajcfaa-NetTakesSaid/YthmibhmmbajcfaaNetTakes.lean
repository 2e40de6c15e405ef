/-
  The row of NetTakes: for every input the law returns true, and the input reads as it did. No condition.
-/
import Derived.Test.YthmibhmmbajcfaaF22
import Derived.Test.YthmibhmmbajcfaaQ22
import Derived.Test.YthmibhmmbajcfaaRows
import Derived.ProofKit
namespace Go.Proofs.Ythmibhmmbajcfaa.Abs
open Go.RowKit Go.Proofs

theorem netTakes_f : ∀ xs, FitsAll [.sl (.sl (.int .u8)), .int .i64] xs → CallsA Try.prog 5 xs (· = .s (.one (.b true)))
  | [], h => h.elim
  | [_], h => h.2.elim
  | [_, _], ⟨⟨ls0, h0, e0⟩, ⟨ls1, h1, e1⟩, _⟩ => by
    obtain ⟨a0, q0, rfl⟩ := (ft_sl (Q := fun (x : List UInt8) => (x.length ≤ maxLen ∧ ∀ xy ∈ x, True)) (fun h => (ft_sl (Q := fun (x : UInt8) => True) (fun h => ft_u8 h)) h)) h0
    subst e0
    obtain ⟨a1, q1, rfl⟩ := ft_i64 h1
    subst e1
    exact m5_l22_NetTakes_c (netTakes_true a0 a1)
  | _ :: _ :: _ :: _, h => h.2.2.elim
end Go.Proofs.Ythmibhmmbajcfaa.Abs

namespace Go.Proofs.Ythmibhmmbajcfaa
open Go.ChangeShapes Go.WideShapes Go.ChangeAt Go.RowKit

theorem Try.own : ownKnob Try.prog.godebug = none := by kernel_rfl
theorem Try.laidOut : laidOutB Try.prog = true := by kernel_rfl

set_option maxRecDepth 100000 in
theorem netTakes_lifted (os : Os) (started : os.Started) (H : Type) (enc : TypeId × Value → H) :
    ReturnsInHanded {} Try.checked os 5 .any (Rows.netTakesSpec.pre6 enc Try.prog Try.f5 Rows.netTakesRow.domain false) (Rows.netTakesSpec.post enc Try.prog Try.f5 false true false false) := by
  refine returnsInHanded_of_change (C := Try.checked) Try.own started (by kernel_rfl) Try.func5
    (ChangeSpec.witness6 (enc := enc) (C := Try.checked) false ⟨#[], #[.slice none 0 0, .int .i64 0], []⟩ 8 (by kernel_rfl) (by kernel_rfl) (by kernel_rfl) (by kernel_rfl)) ?_
  intro W base args ds gs before hval hW _ _
  exact Go.Proofs.Ythmibhmmbajcfaa.Abs.law_contract (tb := 4) Try.laidOut [.sl (.sl (.int .u8)), .int .i64] (by kernel_rfl) rfl Try.underlying4 rfl (fun ds h => match ds, h with | [d0, d1], _ => rfl) Go.Proofs.Ythmibhmmbajcfaa.Abs.netTakes_f (fun _ h => by cases h) base args ds gs before hval hW

theorem netTakes_holds : Rows.NetTakesSaid :=
  OpenClaim.holds_of_wide 5 Try.f5 rfl rfl rfl rfl rfl rfl rfl ⟨rfl, rfl, rfl, rfl, rfl⟩ rfl rfl rfl rfl rfl (by kernel_rfl) Try.func5 (by kernel_rfl)
    (of_decide_eq_true (by kernel_rfl)) (by unfold Func.isWrapper; first | (rw [if_pos (by decide +kernel)]; kernel_rfl) | (rw [if_neg (by decide +kernel)]; exact ⟨rfl, rfl⟩))
    (fun os started H enc _ => netTakes_lifted os started H enc)

end Go.Proofs.Ythmibhmmbajcfaa
