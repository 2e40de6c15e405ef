/-
  The row of KeysThree: for every input the law returns true, and the input reads as it did. No condition.
-/
import Derived.Test.YtiadgkkebmclgaaK4
import Derived.Test.YtiadgkkebmclgaaRows
import Derived.ProofKit
namespace Go.Proofs.Ytiadgkkebmclgaa.Abs
open Go.RowKit Go.Proofs

theorem keysThree_f : ∀ xs, FitsAll [.st (.pair (.sl (.int .u8)) (.pair (.sl (.int .u8)) (.pair .bool .unit))), .st (.pair (.sl (.int .u8)) (.pair (.sl (.int .u8)) (.pair .bool .unit))), .st (.pair (.sl (.int .u8)) (.pair (.sl (.int .u8)) (.pair .bool .unit))), .sl (.int .u8)] xs → CallsA Try.prog 9 xs (· = .s (.one (.b true)))
  | [], h => h.elim
  | [_], h => h.2.elim
  | [_, _], h => h.2.2.elim
  | [_, _, _], h => h.2.2.2.elim
  | [_, _, _, _], ⟨⟨ls0, h0, e0⟩, ⟨ls1, h1, e1⟩, ⟨ls2, h2, e2⟩, ⟨ls3, h3, e3⟩, _⟩ => by
    obtain ⟨lo, hi, o, rfl⟩ := fits_range h0
    subst e0
    obtain ⟨lo1, hi1, o1, rfl⟩ := fits_range h1
    subst e1
    obtain ⟨lo2, hi2, o2, rfl⟩ := fits_range h2
    subst e2
    obtain ⟨k, rfl⟩ := fits_bytes h3
    subst e3
    exact keysThree_c
  | _ :: _ :: _ :: _ :: _ :: _, h => h.2.2.2.2.elim
end Go.Proofs.Ytiadgkkebmclgaa.Abs

namespace Go.Proofs.Ytiadgkkebmclgaa
open Go.ChangeShapes Go.WideShapes Go.ChangeAt Go.RowKit

theorem Try.own : ownKnob Try.prog.godebug = none := by kernel_rfl
theorem Try.laidOut : laidOutB Try.prog = true := by kernel_rfl

set_option maxRecDepth 100000 in
theorem keysThree_lifted (os : Os) (started : os.Started) (H : Type) (enc : TypeId × Value → H) :
    ReturnsInHanded {} Try.checked os 9 .any (Rows.keysThreeSpec.pre6 enc Try.prog Try.f9 Rows.keysThreeRow.domain false) (Rows.keysThreeSpec.post enc Try.prog Try.f9 false true false false) := by
  refine returnsInHanded_of_change (C := Try.checked) Try.own started (by kernel_rfl) Try.func9
    (ChangeSpec.witness6 (enc := enc) (C := Try.checked) false ⟨#[], #[.agg #[.slice none 0 0, .slice none 0 0, .bool false], .agg #[.slice none 0 0, .slice none 0 0, .bool false], .agg #[.slice none 0 0, .slice none 0 0, .bool false], .slice none 0 0], []⟩ 8 (by kernel_rfl) (by kernel_rfl) (by kernel_rfl) (by kernel_rfl)) ?_
  intro W base args ds gs before hval hW _ _
  exact Go.Proofs.Ytiadgkkebmclgaa.Abs.law_contract (tb := 4) Try.laidOut [.st (.pair (.sl (.int .u8)) (.pair (.sl (.int .u8)) (.pair .bool .unit))), .st (.pair (.sl (.int .u8)) (.pair (.sl (.int .u8)) (.pair .bool .unit))), .st (.pair (.sl (.int .u8)) (.pair (.sl (.int .u8)) (.pair .bool .unit))), .sl (.int .u8)] (by kernel_rfl) rfl Try.underlying4 rfl (fun ds h => match ds, h with | [d0, d1, d2, d3], _ => rfl) Go.Proofs.Ytiadgkkebmclgaa.Abs.keysThree_f base args ds gs before hval hW

theorem keysThree_holds : Rows.KeysThreeSaid :=
  OpenClaim.holds_of_wide 9 Try.f9 rfl rfl rfl rfl rfl rfl rfl ⟨rfl, rfl, rfl, rfl, rfl⟩ rfl rfl rfl rfl rfl (by kernel_rfl) Try.func9 (by kernel_rfl)
    (of_decide_eq_true (by kernel_rfl)) (by unfold Func.isWrapper; first | (rw [if_pos (by decide +kernel)]; kernel_rfl) | (rw [if_neg (by decide +kernel)]; exact ⟨rfl, rfl⟩))
    (fun os started H enc _ => keysThree_lifted os started H enc)

end Go.Proofs.Ytiadgkkebmclgaa
