/-
  The row of SsiAlone: for every input the law returns true, and the input reads as it did. No condition.
-/
import Derived.Test.YtbmciegldpeaiaaF11
import Derived.Test.YtbmciegldpeaiaaQ11
import Derived.Test.YtbmciegldpeaiaaRows
import Derived.ProofKit
namespace Go.Proofs.Ytbmciegldpeaiaa.Abs
open Go.RowKit Go.Proofs

theorem ssiAlone_f : ∀ xs, FitsAll [.sl (.st (.pair (.int .i64) (.pair (.int .i64) (.pair (.bool) (.pair (.st (.pair (.sl (.int .u8)) (.pair (.sl (.int .u8)) (.pair (.bool) (.unit))))) (.pair (.sl (.sl (.int .u8))) (.unit))))))), .sl (.st (.pair (.sl (.int .u8)) (.pair (.sl (.int .u8)) (.pair (.bool) (.unit))))), .sl (.sl (.int .u8))] xs → CallsA Try.prog 5 xs (· = .s (.one (.b true)))
  | [], h => h.elim
  | [_], h => h.2.elim
  | [_, _], h => h.2.2.elim
  | [_, _, _], ⟨⟨ls0, h0, e0⟩, ⟨ls1, h1, e1⟩, ⟨ls2, h2, e2⟩, _⟩ => by
    obtain ⟨a0, q0, rfl⟩ := (ft_sl (Q := fun (x : GL11Act) => QGL11Act x) (fun h => ft_GL11Act h)) h0
    subst e0
    obtain ⟨a1, q1, rfl⟩ := (ft_sl (Q := fun (x : GApiRange) => QGApiRange x) (fun h => ft_GApiRange h)) h1
    subst e1
    obtain ⟨a2, q2, rfl⟩ := (ft_sl (Q := fun (x : List UInt8) => (x.length ≤ maxLen ∧ ∀ xy ∈ x, True)) (fun h => (ft_sl (Q := fun (x : UInt8) => True) (fun h => ft_u8 h)) h)) h2
    subst e2
    exact m5_l11_SsiAlone_c (ssiAlone_true a0 a1 a2)
  | _ :: _ :: _ :: _ :: _, h => h.2.2.2.elim
end Go.Proofs.Ytbmciegldpeaiaa.Abs

namespace Go.Proofs.Ytbmciegldpeaiaa
open Go.ChangeShapes Go.WideShapes Go.ChangeAt Go.RowKit

theorem Try.own : ownKnob Try.prog.godebug = none := by kernel_rfl
theorem Try.laidOut : laidOutB Try.prog = true := by kernel_rfl

set_option maxRecDepth 100000 in
theorem ssiAlone_lifted (os : Os) (started : os.Started) (H : Type) (enc : TypeId × Value → H) :
    ReturnsInHanded {} Try.checked os 5 .any (Rows.ssiAloneSpec.pre6 enc Try.prog Try.f5 Rows.ssiAloneRow.domain false) (Rows.ssiAloneSpec.post enc Try.prog Try.f5 false true false false) := by
  refine returnsInHanded_of_change (C := Try.checked) Try.own started (by kernel_rfl) Try.func5
    (ChangeSpec.witness6 (enc := enc) (C := Try.checked) false ⟨#[], #[.slice none 0 0, .slice none 0 0, .slice none 0 0], []⟩ 8 (by kernel_rfl) (by kernel_rfl) (by kernel_rfl) (by kernel_rfl)) ?_
  intro W base args ds gs before hval hW _ _
  exact Go.Proofs.Ytbmciegldpeaiaa.Abs.law_contract (tb := 4) Try.laidOut [.sl (.st (.pair (.int .i64) (.pair (.int .i64) (.pair (.bool) (.pair (.st (.pair (.sl (.int .u8)) (.pair (.sl (.int .u8)) (.pair (.bool) (.unit))))) (.pair (.sl (.sl (.int .u8))) (.unit))))))), .sl (.st (.pair (.sl (.int .u8)) (.pair (.sl (.int .u8)) (.pair (.bool) (.unit))))), .sl (.sl (.int .u8))] (by kernel_rfl) rfl Try.underlying4 rfl (fun ds h => match ds, h with | [d0, d1, d2], _ => rfl) Go.Proofs.Ytbmciegldpeaiaa.Abs.ssiAlone_f (fun _ h => by cases h) base args ds gs before hval hW

theorem ssiAlone_holds : Rows.SsiAloneSaid :=
  OpenClaim.holds_of_wide 5 Try.f5 rfl rfl rfl rfl rfl rfl rfl ⟨rfl, rfl, rfl, rfl, rfl⟩ rfl rfl rfl rfl rfl (by kernel_rfl) Try.func5 (by kernel_rfl)
    (of_decide_eq_true (by kernel_rfl)) (by unfold Func.isWrapper; first | (rw [if_pos (by decide +kernel)]; kernel_rfl) | (rw [if_neg (by decide +kernel)]; exact ⟨rfl, rfl⟩))
    (fun os started H enc _ => ssiAlone_lifted os started H enc)

end Go.Proofs.Ytbmciegldpeaiaa
