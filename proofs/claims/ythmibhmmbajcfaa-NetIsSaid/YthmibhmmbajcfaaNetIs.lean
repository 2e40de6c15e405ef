/-
  The row of NetIs: for every input the law returns true, and the input reads as it did. No condition.
-/
import Derived.Test.YthmibhmmbajcfaaF22
import Derived.Test.YthmibhmmbajcfaaQ22
import Derived.Test.YthmibhmmbajcfaaRows
import Derived.ProofKit
namespace Go.Proofs.Ythmibhmmbajcfaa.Abs
open Go.RowKit Go.Proofs

theorem netIs_f : ∀ xs, FitsAll [.st (.pair (.sl (.st (.pair (.int .i64) (.pair (.int .i64) (.pair (.int .i64) (.unit)))))) (.pair (.sl (.st (.pair (.int .i64) (.pair (.bool) (.pair (.sl (.int .u8)) (.unit)))))) (.pair (.int .i64) (.unit)))), .int .i64, .int .i64, .int .i64, .int .i64, .bool, .sl (.int .u8)] xs → CallsA Try.prog 3 xs (· = .s (.one (.b true)))
  | [], h => h.elim
  | [_], h => h.2.elim
  | [_, _], h => h.2.2.elim
  | [_, _, _], h => h.2.2.2.elim
  | [_, _, _, _], h => h.2.2.2.2.elim
  | [_, _, _, _, _], h => h.2.2.2.2.2.elim
  | [_, _, _, _, _, _], h => h.2.2.2.2.2.2.elim
  | [_, _, _, _, _, _, _], ⟨⟨ls0, h0, e0⟩, ⟨ls1, h1, e1⟩, ⟨ls2, h2, e2⟩, ⟨ls3, h3, e3⟩, ⟨ls4, h4, e4⟩, ⟨ls5, h5, e5⟩, ⟨ls6, h6, e6⟩, _⟩ => by
    obtain ⟨a0, q0, rfl⟩ := ft_GR22Net h0
    subst e0
    obtain ⟨a1, q1, rfl⟩ := ft_i64 h1
    subst e1
    obtain ⟨a2, q2, rfl⟩ := ft_i64 h2
    subst e2
    obtain ⟨a3, q3, rfl⟩ := ft_i64 h3
    subst e3
    obtain ⟨a4, q4, rfl⟩ := ft_i64 h4
    subst e4
    obtain ⟨a5, q5, rfl⟩ := ft_bool h5
    subst e5
    obtain ⟨a6, q6, rfl⟩ := (ft_sl (Q := fun (x : UInt8) => True) (fun h => ft_u8 h)) h6
    subst e6
    exact m3_l22_NetIs_c (netIs_true a0 a1 a2 a3 a4 a5 a6)
  | _ :: _ :: _ :: _ :: _ :: _ :: _ :: _ :: _, h => h.2.2.2.2.2.2.2.elim
end Go.Proofs.Ythmibhmmbajcfaa.Abs

namespace Go.Proofs.Ythmibhmmbajcfaa
open Go.ChangeShapes Go.WideShapes Go.ChangeAt Go.RowKit

theorem Try.own : ownKnob Try.prog.godebug = none := by kernel_rfl
theorem Try.laidOut : laidOutB Try.prog = true := by kernel_rfl

set_option maxRecDepth 100000 in
theorem netIs_lifted (os : Os) (started : os.Started) (H : Type) (enc : TypeId × Value → H) :
    ReturnsInHanded {} Try.checked os 3 .any (Rows.netIsSpec.pre6 enc Try.prog Try.f3 Rows.netIsRow.domain false) (Rows.netIsSpec.post enc Try.prog Try.f3 false true false false) := by
  refine returnsInHanded_of_change (C := Try.checked) Try.own started (by kernel_rfl) Try.func3
    (ChangeSpec.witness6 (enc := enc) (C := Try.checked) false ⟨#[], #[.agg #[.slice none 0 0, .slice none 0 0, .int .i64 0], .int .i64 0, .int .i64 0, .int .i64 0, .int .i64 0, .bool false, .slice none 0 0], []⟩ 8 (by kernel_rfl) (by kernel_rfl) (by kernel_rfl) (by kernel_rfl)) ?_
  intro W base args ds gs before hval hW _ _
  exact Go.Proofs.Ythmibhmmbajcfaa.Abs.law_contract (tb := 4) Try.laidOut [.st (.pair (.sl (.st (.pair (.int .i64) (.pair (.int .i64) (.pair (.int .i64) (.unit)))))) (.pair (.sl (.st (.pair (.int .i64) (.pair (.bool) (.pair (.sl (.int .u8)) (.unit)))))) (.pair (.int .i64) (.unit)))), .int .i64, .int .i64, .int .i64, .int .i64, .bool, .sl (.int .u8)] (by kernel_rfl) rfl Try.underlying4 rfl (fun ds h => match ds, h with | [d0, d1, d2, d3, d4, d5, d6], _ => rfl) Go.Proofs.Ythmibhmmbajcfaa.Abs.netIs_f (fun _ h => by cases h) base args ds gs before hval hW

theorem netIs_holds : Rows.NetIsSaid :=
  OpenClaim.holds_of_wide 3 Try.f3 rfl rfl rfl rfl rfl rfl rfl ⟨rfl, rfl, rfl, rfl, rfl⟩ rfl rfl rfl rfl rfl (by kernel_rfl) Try.func3 (by kernel_rfl)
    (of_decide_eq_true (by kernel_rfl)) (by unfold Func.isWrapper; first | (rw [if_pos (by decide +kernel)]; kernel_rfl) | (rw [if_neg (by decide +kernel)]; exact ⟨rfl, rfl⟩))
    (fun os started H enc _ => netIs_lifted os started H enc)

end Go.Proofs.Ythmibhmmbajcfaa
