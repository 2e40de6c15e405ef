/-
  The row of ProgReads: for every input the law returns true, and the input reads as it did.
-/
import Derived.Test.YtdehclinlcnlhaaF19
import Derived.Test.YtdehclinlcnlhaaQ19
import Derived.Test.YtdehclinlcnlhaaRows
import Derived.ProofKit
import Derived.Test.YtdehclinlcnlhaaAbsC
import Derived.SizedLaws
namespace Go.Proofs.Ytdehclinlcnlhaa.Abs
open Go.RowKit Go.Proofs


theorem progReads_f : ∀ xs, FzAll Try.prog [.st (.pair (.bool) (.pair (.sl (.st (.pair (.int .i64) (.pair (.int .i64) (.pair (.int .i64) (.pair (.int .i64) (.pair (.sl (.int .u8)) (.pair (.st (.pair (.sl (.int .u8)) (.pair (.sl (.int .u8)) (.pair (.bool) (.unit))))) (.unit))))))))) (.unit))), .sl (.st (.pair (.sl (.int .u8)) (.pair (.sl (.int .u8)) (.unit)))), .st (.pair (.int .i64) (.pair (.st (.pair (.int .i64) (.pair (.int .i64) (.pair (.int .i64) (.pair (.int .i64) (.pair (.int .i64) (.pair (.int .i64) (.pair (.int .i64) (.pair (.int .i64) (.unit)))))))))) (.pair (.bool) (.unit))))] [24, 25, 40] xs → CallsA Try.prog 4 xs (· = .s (.one (.b true)))
  | [], h => h.elim
  | [_], h => h.2.elim
  | [_, _], h => h.2.2.elim
  | [_, _, _], ⟨⟨ls0, h0, e0⟩, ⟨ls1, h1, e1⟩, ⟨ls2, h2, e2⟩, _⟩ => by
    obtain ⟨a0, q0, rfl⟩ := ft_GR19Prog (fz_fits h0)
    subst e0
    obtain ⟨a1, q1, rfl⟩ := (ft_sl (Q := fun (x : GApiKV) => QGApiKV x) (fun h => ft_GApiKV h)) (fz_fits h1)
    subst e1
    obtain ⟨a2, q2, rfl⟩ := ft_GR19State (fz_fits h2)
    subst e2
    exact m4_l19_ProgReads_c (progReads_true a0 a1 a2)
  | _ :: _ :: _ :: _ :: _, h => h.2.2.2.elim
end Go.Proofs.Ytdehclinlcnlhaa.Abs

namespace Go.Proofs.Ytdehclinlcnlhaa
open Go.ChangeShapes Go.WideShapes Go.ChangeAt Go.RowKit

theorem Try.own : ownKnob Try.prog.godebug = none := by kernel_rfl
theorem Try.laidOut : laidOutB Try.prog = true := by kernel_rfl

set_option maxRecDepth 100000 in
theorem progReads_lifted (os : Os) (started : os.Started) (H : Type) (enc : TypeId × Value → H) :
    ReturnsInHanded {} Try.checked os 4 .any (Rows.progReadsSpec.pre6 enc Try.prog Try.f4 Rows.progReadsRow.domain false) (Rows.progReadsSpec.post enc Try.prog Try.f4 false true false false) := by
  refine returnsInHanded_of_change_sized (C := Try.checked) Try.own started (by kernel_rfl) Try.func4
    (ChangeSpec.witness6 (enc := enc) (C := Try.checked) false ⟨#[], #[.agg #[.bool false, .slice none 0 0], .slice none 0 0, .agg #[.int .i64 0, .int .i64 0, .int .i64 0, .int .i64 0, .int .i64 0, .int .i64 0, .int .i64 0, .int .i64 0, .int .i64 0, .bool false]], []⟩ 8 (by kernel_rfl) (by kernel_rfl) (by kernel_rfl) (by kernel_rfl)) ?_
  intro W base args ds gs before hval hW _ hz _
  exact Go.Proofs.Ytdehclinlcnlhaa.Abs.law_contractz (tb := 4) Try.laidOut [.st (.pair (.bool) (.pair (.sl (.st (.pair (.int .i64) (.pair (.int .i64) (.pair (.int .i64) (.pair (.int .i64) (.pair (.sl (.int .u8)) (.pair (.st (.pair (.sl (.int .u8)) (.pair (.sl (.int .u8)) (.pair (.bool) (.unit))))) (.unit))))))))) (.unit))), .sl (.st (.pair (.sl (.int .u8)) (.pair (.sl (.int .u8)) (.unit)))), .st (.pair (.int .i64) (.pair (.st (.pair (.int .i64) (.pair (.int .i64) (.pair (.int .i64) (.pair (.int .i64) (.pair (.int .i64) (.pair (.int .i64) (.pair (.int .i64) (.pair (.int .i64) (.unit)))))))))) (.pair (.bool) (.unit))))] (by kernel_rfl) rfl Try.underlying4 rfl (fun ds h => match ds, h with | [d0, d1, d2], _ => rfl) Go.Proofs.Ytdehclinlcnlhaa.Abs.progReads_f (fun _ h => by cases h) base args ds gs before hval hW hz

theorem progReads_holds : Rows.ProgReadsSaid :=
  OpenClaim.holds_of_wide 4 Try.f4 rfl rfl rfl rfl rfl rfl rfl ⟨rfl, rfl, rfl, rfl, rfl⟩ rfl rfl rfl rfl rfl (by kernel_rfl) Try.func4 (by kernel_rfl)
    (of_decide_eq_true (by kernel_rfl)) (by unfold Func.isWrapper; first | (rw [if_pos (by decide +kernel)]; kernel_rfl) | (rw [if_neg (by decide +kernel)]; exact ⟨rfl, rfl⟩))
    (fun os started H enc _ => progReads_lifted os started H enc)

end Go.Proofs.Ytdehclinlcnlhaa
