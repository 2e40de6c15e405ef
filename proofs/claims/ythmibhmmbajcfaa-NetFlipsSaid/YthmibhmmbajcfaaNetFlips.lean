/-
  The row of NetFlips: for every input the law returns true, and the input reads as it did.
-/
import Derived.Test.YthmibhmmbajcfaaF22
import Derived.Test.YthmibhmmbajcfaaR22
import Derived.Test.YthmibhmmbajcfaaRows
import Derived.ProofKit
import Derived.Test.YthmibhmmbajcfaaAbsC
import Derived.SizedLaws
namespace Go.Proofs.Ythmibhmmbajcfaa.Abs
open Go.RowKit Go.Proofs

theorem bd_25 {a : GR22Net} (h : Fz Try.prog (.st (.pair (.sl (.st (.pair (.int .i64) (.pair (.int .i64) (.pair (.int .i64) (.unit)))))) (.pair (.sl (.st (.pair (.int .i64) (.pair (.bool) (.pair (.sl (.int .u8)) (.unit)))))) (.pair (.int .i64) (.unit))))) (.inl 25) (eGR22Net a)) : a.Links.length * 24 ≤ 140737488355328 ∧ a.Packets.length * 40 ≤ 140737488355328 := by
  obtain ⟨fs, hu, h⟩ | ⟨m, e, hu, -⟩ := h
  case inr => rw [Try.underlying25] at hu; cases hu
  rw [Try.underlying25] at hu
  cases hu
  obtain ⟨x0, y0, ⟨t0, r0, u0, _, b0, _, rfl⟩, ⟨x1, y1, ⟨t1, r1, u1, _, b1, _, rfl⟩, ⟨x2, y2, ⟨n2, _, rfl⟩, hun, rfl⟩, rfl⟩, he⟩ := h
  replace hun : _ = [] := hun
  subst hun
  simp only [eGR22Net, List.cons_append, List.nil_append, List.cons.injEq, Lf.sl.injEq] at he
  have v0 := u0.symm.trans Try.underlying22
  cases v0
  rw [show Try.prog.bytesOf 75 = 24 by kernel_rfl] at b0
  have v1 := u1.symm.trans Try.underlying23
  cases v1
  rw [show Try.prog.bytesOf 49 = 40 by kernel_rfl] at b1
  have hr : reachBytes ≤ 140737488355328 := by decide
  omega

theorem netFlips_f : ∀ xs, FzAll Try.prog [.st (.pair (.sl (.st (.pair (.int .i64) (.pair (.int .i64) (.pair (.int .i64) (.unit)))))) (.pair (.sl (.st (.pair (.int .i64) (.pair (.bool) (.pair (.sl (.int .u8)) (.unit)))))) (.pair (.int .i64) (.unit)))), .int .i64, .int .i64] [25, 3, 3] xs → CallsA Try.prog 4 xs (· = .s (.one (.b true)))
  | [], h => h.elim
  | [_], h => h.2.elim
  | [_, _], h => h.2.2.elim
  | [_, _, _], ⟨⟨ls0, h0, e0⟩, ⟨ls1, h1, e1⟩, ⟨ls2, h2, e2⟩, _⟩ => by
    obtain ⟨a0, q0, rfl⟩ := ft_GR22Net (fz_fits h0)
    subst e0
    obtain ⟨a1, q1, rfl⟩ := ft_i64 (fz_fits h1)
    subst e1
    obtain ⟨a2, q2, rfl⟩ := ft_i64 (fz_fits h2)
    subst e2
    exact m4_l22_NetFlips_c (netFlips_true a0 a1 a2 (bd_25 h0).1 (bd_25 h0).2)
  | _ :: _ :: _ :: _ :: _, h => h.2.2.2.elim
end Go.Proofs.Ythmibhmmbajcfaa.Abs

namespace Go.Proofs.Ythmibhmmbajcfaa
open Go.ChangeShapes Go.WideShapes Go.ChangeAt Go.RowKit

theorem Try.own : ownKnob Try.prog.godebug = none := by kernel_rfl
theorem Try.laidOut : laidOutB Try.prog = true := by kernel_rfl

set_option maxRecDepth 100000 in
theorem netFlips_lifted (os : Os) (started : os.Started) (H : Type) (enc : TypeId × Value → H) :
    ReturnsInHanded {} Try.checked os 4 .any (Rows.netFlipsSpec.pre6 enc Try.prog Try.f4 Rows.netFlipsRow.domain false) (Rows.netFlipsSpec.post enc Try.prog Try.f4 false true false false) := by
  refine returnsInHanded_of_change_sized (C := Try.checked) Try.own started (by kernel_rfl) Try.func4
    (ChangeSpec.witness6 (enc := enc) (C := Try.checked) false ⟨#[], #[.agg #[.slice none 0 0, .slice none 0 0, .int .i64 0], .int .i64 0, .int .i64 0], []⟩ 8 (by kernel_rfl) (by kernel_rfl) (by kernel_rfl) (by kernel_rfl)) ?_
  intro W base args ds gs before hval hW _ hz _
  exact Go.Proofs.Ythmibhmmbajcfaa.Abs.law_contractz (tb := 4) Try.laidOut [.st (.pair (.sl (.st (.pair (.int .i64) (.pair (.int .i64) (.pair (.int .i64) (.unit)))))) (.pair (.sl (.st (.pair (.int .i64) (.pair (.bool) (.pair (.sl (.int .u8)) (.unit)))))) (.pair (.int .i64) (.unit)))), .int .i64, .int .i64] (by kernel_rfl) rfl Try.underlying4 rfl (fun ds h => match ds, h with | [d0, d1, d2], _ => rfl) Go.Proofs.Ythmibhmmbajcfaa.Abs.netFlips_f (fun _ h => by cases h) base args ds gs before hval hW hz

theorem netFlips_holds : Rows.NetFlipsSaid :=
  OpenClaim.holds_of_wide 4 Try.f4 rfl rfl rfl rfl rfl rfl rfl ⟨rfl, rfl, rfl, rfl, rfl⟩ rfl rfl rfl rfl rfl (by kernel_rfl) Try.func4 (by kernel_rfl)
    (of_decide_eq_true (by kernel_rfl)) (by unfold Func.isWrapper; first | (rw [if_pos (by decide +kernel)]; kernel_rfl) | (rw [if_neg (by decide +kernel)]; exact ⟨rfl, rfl⟩))
    (fun os started H enc _ => netFlips_lifted os started H enc)

end Go.Proofs.Ythmibhmmbajcfaa
