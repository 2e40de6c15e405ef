/-
 The row of TxnOnce: for every input the law returns true, and the input reads as it did. No condition.
-/
import Derived.Test.YtkblaobhhoebaaaGreatOF14
import Derived.Test.YtkblaobhhoebaaaGreatOI14x
import Derived.Test.YtkblaobhhoebaaaGreatRows
import Derived.ProofKit
import Derived.Test.YtkblaobhhoebaaaGreatOC14a
set_option linter.unusedVariables false
set_option linter.unusedSimpArgs false
namespace Go.Proofs.YtkblaobhhoebaaaGreat.Abs
open Go.RowKit Go.Proofs
theorem txnOnce_f:∀ xs,Ab3 [.sl (.st (.pair (.int .i64) (.pair (.int .i64) (.pair (.int .i64) (.pair (.int .i64) (.pair (.bool) (.pair (.bool) (.pair (.sl (.int .u8)) (.pair (.sl (.int .u8)) (.pair (.st (.pair (.sl (.int .u8)) (.pair (.sl (.int .u8)) (.pair (.bool) (.unit))))) (.unit))))))))))),.int .i64] xs→Bt Tryz.prog 5 xs (·=.s (.one (.b true)))
 | [],h=>h.elim
 | [_],h=>h.2.elim
 | [_,_],⟨⟨ls0,h0,e0⟩,⟨ls1,h1,e1⟩,_⟩=>by
  obtain ⟨a0,q0,rfl⟩:=(Aml (Q:=fun (x:I0)=>Aha x) (fun h=>Aif h)) h0
  subst e0
  obtain ⟨a1,q1,rfl⟩:=Ady h1
  subst e1
  exact X2 (Adz a0 a1)
 | _::_::_::_,h=>h.2.2.elim
end Go.Proofs.YtkblaobhhoebaaaGreat.Abs
namespace Go.Proofs.YtkblaobhhoebaaaGreat
open Go.ChangeShapes Go.WideShapes Go.ChangeAt Go.RowKit
theorem Tryz.own:ownKnob Tryz.prog.godebug=none:=by kernel_rfl
theorem Tryz.laidOut:laidOutB Tryz.prog=true:=by kernel_rfl
set_option maxRecDepth 100000 in
theorem Aag (os:Os) (started:os.Started) (H:Type) (enc:TypeId × Value→H) :
  ReturnsInHanded {} Tryz.checked os 5 .any (Rows.txnOnceSpec.pre6 enc Tryz.prog Tryz.f5 Rows.txnOnceRow.domain false) (Rows.txnOnceSpec.post enc Tryz.prog Tryz.f5 false true false false):=by
 refine returnsInHanded_of_change (C:=Tryz.checked) Tryz.own started (by kernel_rfl) Tryz.func5
  (ChangeSpec.witness6 (enc:=enc) (C:=Tryz.checked) false ⟨#[],#[.slice none 0 0,.int .i64 0],[]⟩ 8 (by kernel_rfl) (by kernel_rfl) (by kernel_rfl) (by kernel_rfl)) ?_
 intro W base args ds gs before hval hW _ _
 exact Go.Proofs.YtkblaobhhoebaaaGreat.Abs.law_contract (tb:=4) Tryz.laidOut [.sl (.st (.pair (.int .i64) (.pair (.int .i64) (.pair (.int .i64) (.pair (.int .i64) (.pair (.bool) (.pair (.bool) (.pair (.sl (.int .u8)) (.pair (.sl (.int .u8)) (.pair (.st (.pair (.sl (.int .u8)) (.pair (.sl (.int .u8)) (.pair (.bool) (.unit))))) (.unit))))))))))),.int .i64] (by kernel_rfl) rfl Tryz.underlying4 rfl (fun ds h=>match ds,h with | [d0,d1],_=>rfl) Go.Proofs.YtkblaobhhoebaaaGreat.Abs.txnOnce_f (fun _ h=>by cases h) base args ds gs before hval hW
theorem txnOnce_holds:Rows.TxnOnceSaid :=
 OpenClaim.holds_of_wide 5 Tryz.f5 rfl rfl rfl rfl rfl rfl rfl ⟨rfl,rfl,rfl,rfl,rfl⟩ rfl rfl rfl rfl rfl (by kernel_rfl) Tryz.func5 txnOnce_closed
  (of_decide_eq_true (by kernel_rfl)) (by unfold Func.isWrapper;first | (rw [if_pos (by decide +kernel)];kernel_rfl) | (rw [if_neg (by decide +kernel)];exact ⟨rfl,rfl⟩))
  (fun os started H enc _=>Aag os started H enc)
end Go.Proofs.YtkblaobhhoebaaaGreat
