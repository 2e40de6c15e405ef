/-
  The row of KeysMeet: for every input the law returns true, and the input reads as it did. No condition.
-/
import Derived.Test.YtiadgkkebmclgaaK5
import Derived.Test.YtiadgkkebmclgaaRows
import Derived.ProofKit
namespace Go.Proofs.Ytiadgkkebmclgaa.Abs
open Go.RowKit Go.Proofs

theorem keysMeet_f : ∀ xs, FitsAll [.st (.pair (.sl (.int .u8)) (.pair (.sl (.int .u8)) (.pair .bool .unit))), .st (.pair (.sl (.int .u8)) (.pair (.sl (.int .u8)) (.pair .bool .unit))), .sl (.int .u8)] xs → CallsA Try.prog 5 xs (· = .s (.one (.b true)))
  | [], h => h.elim
  | [_], h => h.2.elim
  | [_, _], h => h.2.2.elim
  | [_, _, _], ⟨⟨ls0, h0, e0⟩, ⟨ls1, h1, e1⟩, ⟨ls2, h2, e2⟩, _⟩ => by
    obtain ⟨lo, hi, o, rfl⟩ := fits_range h0
    subst e0
    obtain ⟨lo1, hi1, o1, rfl⟩ := fits_range h1
    subst e1
    obtain ⟨k, rfl⟩ := fits_bytes h2
    subst e2
    exact keysMeet_c
  | _ :: _ :: _ :: _ :: _, h => h.2.2.2.elim
end Go.Proofs.Ytiadgkkebmclgaa.Abs

namespace Go.Proofs.Ytiadgkkebmclgaa
open Go.ChangeShapes Go.WideShapes Go.ChangeAt Go.RowKit

theorem Try.own : ownKnob Try.prog.godebug = none := by kernel_rfl
theorem Try.laidOut : laidOutB Try.prog = true := by kernel_rfl

set_option maxRecDepth 100000 in
theorem keysMeet_lifted (os : Os) (started : os.Started) (H : Type) (enc : TypeId × Value → H) :
    ReturnsInHanded {} Try.checked os 5 .any (Rows.keysMeetSpec.pre6 enc Try.prog Try.f5 Rows.keysMeetRow.domain false) (Rows.keysMeetSpec.post enc Try.prog Try.f5 false true false false) := by
  refine returnsInHanded_of_change (C := Try.checked) Try.own started (by kernel_rfl) Try.func5
    (ChangeSpec.witness6 (enc := enc) (C := Try.checked) false ⟨#[], #[.agg #[.slice none 0 0, .slice none 0 0, .bool false], .agg #[.slice none 0 0, .slice none 0 0, .bool false], .slice none 0 0], []⟩ 8 (by kernel_rfl) (by kernel_rfl) (by kernel_rfl) (by kernel_rfl)) ?_
  intro W base args ds gs before hval hW _ _
  exact Go.Proofs.Ytiadgkkebmclgaa.Abs.law_contract (tb := 4) Try.laidOut [.st (.pair (.sl (.int .u8)) (.pair (.sl (.int .u8)) (.pair .bool .unit))), .st (.pair (.sl (.int .u8)) (.pair (.sl (.int .u8)) (.pair .bool .unit))), .sl (.int .u8)] (by kernel_rfl) rfl Try.underlying4 rfl (fun ds h => match ds, h with | [d0, d1, d2], _ => rfl) Go.Proofs.Ytiadgkkebmclgaa.Abs.keysMeet_f base args ds gs before hval hW

theorem keysMeet_holds : Rows.KeysMeetSaid :=
  OpenClaim.holds_of_wide 5 Try.f5 rfl rfl rfl rfl rfl rfl rfl ⟨rfl, rfl, rfl, rfl, rfl⟩ rfl rfl rfl rfl rfl (by kernel_rfl) Try.func5 (by kernel_rfl)
    (of_decide_eq_true (by kernel_rfl)) (by unfold Func.isWrapper; first | (rw [if_pos (by decide +kernel)]; kernel_rfl) | (rw [if_neg (by decide +kernel)]; exact ⟨rfl, rfl⟩))
    (fun os started H enc _ => keysMeet_lifted os started H enc)

end Go.Proofs.Ytiadgkkebmclgaa
