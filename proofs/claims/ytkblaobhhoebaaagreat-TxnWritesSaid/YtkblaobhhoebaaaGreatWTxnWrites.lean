/-
 The row of TxnWrites: for every input the law returns true, and the input reads as it did. No condition.
-/
import Derived.Test.YtkblaobhhoebaaaGreatWF14
import Derived.Test.YtkblaobhhoebaaaGreatWW14h
import Derived.Test.YtkblaobhhoebaaaGreatRows
import Derived.ProofKit
import Derived.Test.YtkblaobhhoebaaaGreatWC14a
set_option linter.unusedVariables false
set_option linter.unusedSimpArgs false
namespace Go.Proofs.YtkblaobhhoebaaaGreat.Abs
open Go.RowKit Go.Proofs
theorem txnWrites_f:∀ xs,Acu [.sl (.st (.pair (.int .i64) (.pair (.int .i64) (.pair (.int .i64) (.pair (.int .i64) (.pair (.bool) (.pair (.bool) (.pair (.sl (.int .u8)) (.pair (.sl (.int .u8)) (.pair (.st (.pair (.sl (.int .u8)) (.pair (.sl (.int .u8)) (.pair (.bool) (.unit))))) (.unit))))))))))),.sl (.st (.pair (.sl (.int .u8)) (.pair (.sl (.int .u8)) (.pair (.bool) (.unit))))),.bool] xs→Br Tryz.prog 8 xs (·=.s (.one (.b true)))
 | [],h=>h.elim
 | [_],h=>h.2.elim
 | [_,_],h=>h.2.2.elim
 | [_,_,_],⟨⟨ls0,h0,e0⟩,⟨ls1,h1,e1⟩,⟨ls2,h2,e2⟩,_⟩=>by
  obtain ⟨a0,q0,rfl⟩:=(Afn (Q:=fun (x:Fq)=>Ah5 x) (fun h=>Akn h)) h0
  subst e0
  obtain ⟨a1,q1,rfl⟩:=(Afn (Q:=fun (x:Av)=>Abo x) (fun h=>Aej h)) h1
  subst e1
  obtain ⟨a2,q2,rfl⟩:=Z8 h2
  subst e2
  exact Xe (Aau a0 a1 a2)
 | _::_::_::_::_,h=>h.2.2.2.elim
end Go.Proofs.YtkblaobhhoebaaaGreat.Abs
namespace Go.Proofs.YtkblaobhhoebaaaGreat
open Go.ChangeShapes Go.WideShapes Go.ChangeAt Go.RowKit
theorem Tryz.own:ownKnob Tryz.prog.godebug=none:=by kernel_rfl
theorem Tryz.laidOut:laidOutB Tryz.prog=true:=by kernel_rfl
set_option maxRecDepth 100000 in
theorem Yz (os:Os) (started:os.Started) (H:Type) (enc:TypeId × Value→H) :
  ReturnsInHanded {} Tryz.checked os 8 .any (Rows.txnWritesSpec.pre6 enc Tryz.prog Tryz.f8 Rows.txnWritesRow.domain false) (Rows.txnWritesSpec.post enc Tryz.prog Tryz.f8 false true false false):=by
 refine returnsInHanded_of_change (C:=Tryz.checked) Tryz.own started (by kernel_rfl) Tryz.func8
  (ChangeSpec.witness6 (enc:=enc) (C:=Tryz.checked) false ⟨#[],#[.slice none 0 0,.slice none 0 0,.bool false],[]⟩ 8 (by kernel_rfl) (by kernel_rfl) (by kernel_rfl) (by kernel_rfl)) ?_
 intro W base args ds gs before hval hW _ _
 exact Go.Proofs.YtkblaobhhoebaaaGreat.Abs.law_contract (tb:=4) Tryz.laidOut [.sl (.st (.pair (.int .i64) (.pair (.int .i64) (.pair (.int .i64) (.pair (.int .i64) (.pair (.bool) (.pair (.bool) (.pair (.sl (.int .u8)) (.pair (.sl (.int .u8)) (.pair (.st (.pair (.sl (.int .u8)) (.pair (.sl (.int .u8)) (.pair (.bool) (.unit))))) (.unit))))))))))),.sl (.st (.pair (.sl (.int .u8)) (.pair (.sl (.int .u8)) (.pair (.bool) (.unit))))),.bool] (by kernel_rfl) rfl Tryz.underlying4 rfl (fun ds h=>match ds,h with | [d0,d1,d2],_=>rfl) Go.Proofs.YtkblaobhhoebaaaGreat.Abs.txnWrites_f (fun _ h=>by cases h) base args ds gs before hval hW
theorem txnWrites_holds:Rows.TxnWritesSaid :=
 OpenClaim.holds_of_wide 8 Tryz.f8 rfl rfl rfl rfl rfl rfl rfl ⟨rfl,rfl,rfl,rfl,rfl⟩ rfl rfl rfl rfl rfl (by kernel_rfl) Tryz.func8 txnWrites_closed
  (of_decide_eq_true (by kernel_rfl)) (by unfold Func.isWrapper;first | (rw [if_pos (by decide +kernel)];kernel_rfl) | (rw [if_neg (by decide +kernel)];exact ⟨rfl,rfl⟩))
  (fun os started H enc _=>Yz os started H enc)
end Go.Proofs.YtkblaobhhoebaaaGreat
