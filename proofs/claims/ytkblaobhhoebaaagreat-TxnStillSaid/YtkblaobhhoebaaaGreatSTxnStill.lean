/-
 The row of TxnStill: for every input the law returns true, and the input reads as it did. No condition.
-/
import Derived.Test.YtkblaobhhoebaaaGreatSF14
import Derived.Test.YtkblaobhhoebaaaGreatSZ14h
import Derived.Test.YtkblaobhhoebaaaGreatRows
import Derived.ProofKit
import Derived.Test.YtkblaobhhoebaaaGreatSC14a
set_option linter.unusedVariables false
set_option linter.unusedSimpArgs false
namespace Go.Proofs.YtkblaobhhoebaaaGreat.Abs
open Go.RowKit Go.Proofs
theorem txnStill_f:∀ xs,Afm [.sl (.st (.pair (.int .i64) (.pair (.int .i64) (.pair (.int .i64) (.pair (.int .i64) (.pair (.bool) (.pair (.bool) (.pair (.sl (.int .u8)) (.pair (.sl (.int .u8)) (.pair (.st (.pair (.sl (.int .u8)) (.pair (.sl (.int .u8)) (.pair (.bool) (.unit))))) (.unit))))))))))),.st (.pair (.int .i64) (.pair (.int .i64) (.pair (.int .i64) (.pair (.int .i64) (.pair (.bool) (.pair (.bool) (.pair (.sl (.int .u8)) (.pair (.sl (.int .u8)) (.pair (.st (.pair (.sl (.int .u8)) (.pair (.sl (.int .u8)) (.pair (.bool) (.unit))))) (.unit)))))))))),.int .i64] xs->Bt Tryz.prog 7 xs (·=.s (.one (.b true)))
 | [],h=>h.elim
 | [_],h=>h.2.elim
 | [_,_],h=>h.2.2.elim
 | [_,_,_],⟨⟨ls0,h0,e0⟩,⟨ls1,h1,e1⟩,⟨ls2,h2,e2⟩,_⟩=>by
  obtain⟨a0,q0,rfl⟩:=(Ao9 (Q:=λ(x:Eo)=>Ak8 x) (λh=>Ady h)) h0
  subst e0
  obtain⟨a1,q1,rfl⟩:=Ady h1
  subst e1
  obtain⟨a2,q2,rfl⟩:=Agc h2
  subst e2
  exact Z1 (Aex a0 a1 a2)
 | _::_::_::_::_,h=>h.2.2.2.elim
end Go.Proofs.YtkblaobhhoebaaaGreat.Abs
namespace Go.Proofs.YtkblaobhhoebaaaGreat
open Go.ChangeShapes Go.WideShapes Go.ChangeAt Go.RowKit
theorem Tryz.own:ownKnob Tryz.prog.godebug=none:=by kernel_rfl
theorem Tryz.laidOut:laidOutB Tryz.prog=true:=by kernel_rfl
set_option maxRecDepth 100000 in
theorem Ab1 (os:Os) (started:os.Started) (H:Type) (enc:TypeId×Value->H) :
  ReturnsInHanded {} Tryz.checked os 7 .any (Rows.txnStillSpec.pre6 enc Tryz.prog Tryz.f7 Rows.txnStillRow.domain false) (Rows.txnStillSpec.post enc Tryz.prog Tryz.f7 false true false false):=by
 refine returnsInHanded_of_change (C:=Tryz.checked) Tryz.own started (by kernel_rfl) Tryz.func7
  (ChangeSpec.witness6 (enc:=enc) (C:=Tryz.checked) false ⟨#[],#[.slice none 0 0,.agg #[.int .i64 0,.int .i64 0,.int .i64 0,.int .i64 0,.bool false,.bool false,.slice none 0 0,.slice none 0 0,.slice none 0 0,.slice none 0 0,.bool false],.int .i64 0],[]⟩ 8 (by kernel_rfl) (by kernel_rfl) (by kernel_rfl) (by kernel_rfl)) ?_
 intro W base args ds gs before hval hW _ _
 exact Go.Proofs.YtkblaobhhoebaaaGreat.Abs.law_contract (tb:=4) Tryz.laidOut [.sl (.st (.pair (.int .i64) (.pair (.int .i64) (.pair (.int .i64) (.pair (.int .i64) (.pair (.bool) (.pair (.bool) (.pair (.sl (.int .u8)) (.pair (.sl (.int .u8)) (.pair (.st (.pair (.sl (.int .u8)) (.pair (.sl (.int .u8)) (.pair (.bool) (.unit))))) (.unit))))))))))),.st (.pair (.int .i64) (.pair (.int .i64) (.pair (.int .i64) (.pair (.int .i64) (.pair (.bool) (.pair (.bool) (.pair (.sl (.int .u8)) (.pair (.sl (.int .u8)) (.pair (.st (.pair (.sl (.int .u8)) (.pair (.sl (.int .u8)) (.pair (.bool) (.unit))))) (.unit)))))))))),.int .i64] (by kernel_rfl) rfl Tryz.underlying4 rfl (λds h=>match ds,h with|[d0,d1,d2],_=>rfl) Go.Proofs.YtkblaobhhoebaaaGreat.Abs.txnStill_f (λ_ h=>by cases h) base args ds gs before hval hW
theorem txnStill_holds:Rows.TxnStillSaid :=
 OpenClaim.holds_of_wide 7 Tryz.f7 rfl rfl rfl rfl rfl rfl rfl ⟨rfl,rfl,rfl,rfl,rfl⟩ rfl rfl rfl rfl rfl (by kernel_rfl) Tryz.func7 txnStill_closed
  (of_decide_eq_true (by kernel_rfl)) (by unfold Func.isWrapper;first|(rw[if_pos (by decide +kernel)];kernel_rfl)|(rw[if_neg (by decide +kernel)];exact⟨rfl,rfl⟩))
  (λos started H enc _=>Ab1 os started H enc)
end Go.Proofs.YtkblaobhhoebaaaGreat
