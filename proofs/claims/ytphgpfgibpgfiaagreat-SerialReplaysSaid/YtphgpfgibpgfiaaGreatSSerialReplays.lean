/-
 The row of SerialReplays: for every input the law returns true, and the input reads as it did.
-/
import Derived.Test.YtphgpfgibpgfiaaGreatSF24r
import Derived.Test.YtphgpfgibpgfiaaGreatSO24r
import Derived.Test.YtphgpfgibpgfiaaGreatRows
import Derived.ProofKit
import Derived.Test.YtphgpfgibpgfiaaGreatSAbsC
import Derived.SizedLaws
set_option linter.unusedVariables false
set_option linter.unusedSimpArgs false
namespace Go.Proofs.YtphgpfgibpgfiaaGreat.Abs
open Go.RowKit Go.Proofs
theorem Afn : ∀ xs, Aiz Tryz.prog [.sl (.st (.pair (.st (.pair (.int .i64) (.pair (.int .i64) (.pair (.int .i64) (.pair (.sl (.st (.pair (.sl (.int .u8)) (.pair (.sl (.int .u8)) (.pair (.bool) (.unit)))))) (.pair (.sl (.st (.pair (.sl (.int .u8)) (.pair (.sl (.int .u8)) (.pair (.bool) (.unit)))))) (.unit))))))) (.pair (.st (.pair (.bool) (.pair (.sl (.st (.pair (.int .i64) (.pair (.int .i64) (.pair (.int .i64) (.pair (.int .i64) (.pair (.sl (.int .u8)) (.pair (.st (.pair (.sl (.int .u8)) (.pair (.sl (.int .u8)) (.pair (.bool) (.unit))))) (.unit))))))))) (.unit)))) (.pair (.st (.pair (.int .i64) (.pair (.int .i64) (.pair (.int .i64) (.pair (.int .i64) (.pair (.int .i64) (.pair (.int .i64) (.pair (.int .i64) (.pair (.int .i64) (.unit)))))))))) (.unit)))))] [22] xs → Bz Tryz.prog 3 xs (· = .s (.one (.b true)))
 | [], h => h.elim
 | [_], ⟨⟨ls0, h0, e0⟩, _⟩ => by
  obtain ⟨a0, q0, rfl⟩ := (Y5 (Q := fun (x : Ep) => Zn x) (fun h => Ab3 h)) (Ak3 h0)
  subst e0
  exact Qt (Ti a0 fun x hx o ho => ((q0.2 x hx).2.1.2.2 o ho).1)
 | _ :: _ :: _, h => h.2.elim
end Go.Proofs.YtphgpfgibpgfiaaGreat.Abs
namespace Go.Proofs.YtphgpfgibpgfiaaGreat
open Go.ChangeShapes Go.WideShapes Go.ChangeAt Go.RowKit

theorem Tryz.own : ownKnob Tryz.prog.godebug = none := by kernel_rfl
theorem Tryz.laidOut : laidOutB Tryz.prog = true := by kernel_rfl

set_option maxRecDepth 100000 in
theorem serialReplays_lifted (os : Os) (started : os.Started) (H : Type) (enc : TypeId × Value → H) :
    ReturnsInHanded {} Tryz.checked os 3 .any (Rows.serialReplaysSpec.pre6 enc Tryz.prog Tryz.f3 Rows.serialReplaysRow.domain false) (Rows.serialReplaysSpec.post enc Tryz.prog Tryz.f3 false true false false) := by
  refine returnsInHanded_of_change_sized (C := Tryz.checked) Tryz.own started (by kernel_rfl) Tryz.func3
    (ChangeSpec.witness6 (enc := enc) (C := Tryz.checked) false ⟨#[], #[.slice none 0 0], []⟩ 8 (by kernel_rfl) (by kernel_rfl) (by kernel_rfl) (by kernel_rfl)) ?_
  intro W base args ds gs before hval hW _ hz _
  exact Go.Proofs.YtphgpfgibpgfiaaGreat.Abs.Ai9 (tb := 4) Tryz.laidOut [.sl (.st (.pair (.st (.pair (.int .i64) (.pair (.int .i64) (.pair (.int .i64) (.pair (.sl (.st (.pair (.sl (.int .u8)) (.pair (.sl (.int .u8)) (.pair (.bool) (.unit)))))) (.pair (.sl (.st (.pair (.sl (.int .u8)) (.pair (.sl (.int .u8)) (.pair (.bool) (.unit)))))) (.unit))))))) (.pair (.st (.pair (.bool) (.pair (.sl (.st (.pair (.int .i64) (.pair (.int .i64) (.pair (.int .i64) (.pair (.int .i64) (.pair (.sl (.int .u8)) (.pair (.st (.pair (.sl (.int .u8)) (.pair (.sl (.int .u8)) (.pair (.bool) (.unit))))) (.unit))))))))) (.unit)))) (.pair (.st (.pair (.int .i64) (.pair (.int .i64) (.pair (.int .i64) (.pair (.int .i64) (.pair (.int .i64) (.pair (.int .i64) (.pair (.int .i64) (.pair (.int .i64) (.unit)))))))))) (.unit)))))] (by kernel_rfl) rfl Tryz.underlying4 rfl (fun ds h => match ds, h with | [d0], _ => rfl) Go.Proofs.YtphgpfgibpgfiaaGreat.Abs.Afn (fun _ h => by cases h) base args ds gs before hval hW hz

theorem serialReplays_holds : Rows.SerialReplaysSaid :=
  OpenClaim.holds_of_wide 3 Tryz.f3 rfl rfl rfl rfl rfl rfl rfl ⟨rfl, rfl, rfl, rfl, rfl⟩ rfl rfl rfl rfl rfl (by kernel_rfl) Tryz.func3 (by kernel_rfl)
    (of_decide_eq_true (by kernel_rfl)) (by unfold Func.isWrapper; first | (rw [if_pos (by decide +kernel)]; kernel_rfl) | (rw [if_neg (by decide +kernel)]; exact ⟨rfl, rfl⟩))
    (fun os started H enc _ => serialReplays_lifted os started H enc)

end Go.Proofs.YtphgpfgibpgfiaaGreat
