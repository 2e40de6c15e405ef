/-
  The row of NetLinks: for every input the law returns true, and the input reads as it did.
-/
import Derived.Test.YthmibhmmbajcfaaF22
import Derived.Test.YthmibhmmbajcfaaR22
import Derived.Test.YthmibhmmbajcfaaRows
import Derived.ProofKit
import Derived.Test.YthmibhmmbajcfaaAbsC
import Derived.SizedLaws
namespace Go.Proofs.Ythmibhmmbajcfaa.Abs
open Go.RowKit Go.Proofs


theorem netLinks_f : ∀ xs, FzAll Try.prog [.sl (.st (.pair (.int .i64) (.pair (.int .i64) (.unit)))), .sl (.int .i64)] [66, 67] xs → CallsA Try.prog 6 xs (· = .s (.one (.b true)))
  | [], h => h.elim
  | [_], h => h.2.elim
  | [_, _], ⟨⟨ls0, h0, e0⟩, ⟨ls1, h1, e1⟩, _⟩ => by
    obtain ⟨a0, q0, rfl⟩ := (ft_sl (Q := fun (x : GAnon72) => QGAnon72 x) (fun h => ft_GAnon72 h)) (fz_fits h0)
    subst e0
    obtain ⟨a1, q1, rfl⟩ := (ft_sl (Q := fun (x : Int) => (-9223372036854775808 ≤ x ∧ x ≤ 9223372036854775807)) (fun h => ft_i64 h)) (fz_fits h1)
    subst e1
    exact m6_l22_NetLinks_c (netLinks_true a0 a1)
  | _ :: _ :: _ :: _, h => h.2.2.elim
end Go.Proofs.Ythmibhmmbajcfaa.Abs

namespace Go.Proofs.Ythmibhmmbajcfaa
open Go.ChangeShapes Go.WideShapes Go.ChangeAt Go.RowKit

theorem Try.own : ownKnob Try.prog.godebug = none := by kernel_rfl
theorem Try.laidOut : laidOutB Try.prog = true := by kernel_rfl

set_option maxRecDepth 100000 in
theorem netLinks_lifted (os : Os) (started : os.Started) (H : Type) (enc : TypeId × Value → H) :
    ReturnsInHanded {} Try.checked os 6 .any (Rows.netLinksSpec.pre6 enc Try.prog Try.f6 Rows.netLinksRow.domain false) (Rows.netLinksSpec.post enc Try.prog Try.f6 false true false false) := by
  refine returnsInHanded_of_change_sized (C := Try.checked) Try.own started (by kernel_rfl) Try.func6
    (ChangeSpec.witness6 (enc := enc) (C := Try.checked) false ⟨#[], #[.slice none 0 0, .slice none 0 0], []⟩ 8 (by kernel_rfl) (by kernel_rfl) (by kernel_rfl) (by kernel_rfl)) ?_
  intro W base args ds gs before hval hW _ hz _
  exact Go.Proofs.Ythmibhmmbajcfaa.Abs.law_contractz (tb := 4) Try.laidOut [.sl (.st (.pair (.int .i64) (.pair (.int .i64) (.unit)))), .sl (.int .i64)] (by kernel_rfl) rfl Try.underlying4 rfl (fun ds h => match ds, h with | [d0, d1], _ => rfl) Go.Proofs.Ythmibhmmbajcfaa.Abs.netLinks_f (fun _ h => by cases h) base args ds gs before hval hW hz

theorem netLinks_holds : Rows.NetLinksSaid :=
  OpenClaim.holds_of_wide 6 Try.f6 rfl rfl rfl rfl rfl rfl rfl ⟨rfl, rfl, rfl, rfl, rfl⟩ rfl rfl rfl rfl rfl (by kernel_rfl) Try.func6 (by kernel_rfl)
    (of_decide_eq_true (by kernel_rfl)) (by unfold Func.isWrapper; first | (rw [if_pos (by decide +kernel)]; kernel_rfl) | (rw [if_neg (by decide +kernel)]; exact ⟨rfl, rfl⟩))
    (fun os started H enc _ => netLinks_lifted os started H enc)

end Go.Proofs.Ythmibhmmbajcfaa
