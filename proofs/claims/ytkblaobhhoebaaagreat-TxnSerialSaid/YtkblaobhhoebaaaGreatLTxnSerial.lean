import Derived.Test.YtkblaobhhoebaaaGreatLF14
import Derived.Test.YtkblaobhhoebaaaGreatLSh
import Derived.Test.YtkblaobhhoebaaaGreatRows
import Derived.ProofKit
import Derived.Test.YtkblaobhhoebaaaGreatLC14a
import Derived.Test.YtkblaobhhoebaaaGreatLPl14
set_option linter.unusedVariables false
set_option linter.unusedSimpArgs false
namespace Go.Proofs.YtkblaobhhoebaaaGreat.Abs
open Go.RowKit Go.Proofs
theorem txnSerial_f:∀ xs,Aca [.sl (.st (.pair (.int .i64) (.pair (.int .i64) (.pair (.int .i64) (.pair (.int .i64) (.pair (.bool) (.pair (.bool) (.pair (.sl (.int .u8)) (.pair (.sl (.int .u8)) (.pair (.st (.pair (.sl (.int .u8)) (.pair (.sl (.int .u8)) (.pair (.bool) (.unit))))) (.unit)))))))))))] xs->A6 Tryz.prog 4 xs (·=.s (.one (.b true)))
 | [],h=>h.elim
 | [_],⟨⟨ls0,h0,e0⟩,_⟩=>by
  obtain⟨a0,q0,rfl⟩:=(Al3 (Q:=λ(x:Dl)=>Ah9 x) (λh=>Ajo h)) h0
  subst e0
  exact Xd (Aaz a0)
 | _::_::_,h=>h.2.elim
end Go.Proofs.YtkblaobhhoebaaaGreat.Abs
namespace Go.Proofs.YtkblaobhhoebaaaGreat
open Go.ChangeShapes Go.WideShapes Go.ChangeAt Go.RowKit
theorem Tryz.own:ownKnob Tryz.prog.godebug=none:=by kernel_rfl
theorem Tryz.laidOut:laidOutB Tryz.prog=true:=by kernel_rfl
set_option maxRecDepth 100000 in
theorem Yt (os:Os) (started:os.Started) (H:Type) (enc:TypeId×Value->H) :
  ReturnsInHanded {} Tryz.checked os 4 .any (Rows.txnSerialSpec.pre6 enc Tryz.prog Tryz.f4 Rows.txnSerialRow.domain false) (Rows.txnSerialSpec.post enc Tryz.prog Tryz.f4 false true false false):=by
 refine returnsInHanded_of_change (C:=Tryz.checked) Tryz.own started (by kernel_rfl) Tryz.func4
  (ChangeSpec.witness6 (enc:=enc) (C:=Tryz.checked) false ⟨#[],#[.slice none 0 0],[]⟩ 8 (by kernel_rfl) (by kernel_rfl) (by kernel_rfl) (by kernel_rfl)) ?_
 intro W base args ds gs before hval hW _ _
 exact Go.Proofs.YtkblaobhhoebaaaGreat.Abs.law_contract (tb:=4) Tryz.laidOut [.sl (.st (.pair (.int .i64) (.pair (.int .i64) (.pair (.int .i64) (.pair (.int .i64) (.pair (.bool) (.pair (.bool) (.pair (.sl (.int .u8)) (.pair (.sl (.int .u8)) (.pair (.st (.pair (.sl (.int .u8)) (.pair (.sl (.int .u8)) (.pair (.bool) (.unit))))) (.unit)))))))))))] (by kernel_rfl) rfl Tryz.underlying4 rfl (λds h=>match ds,h with|[d0],_=>rfl) Go.Proofs.YtkblaobhhoebaaaGreat.Abs.txnSerial_f (λ_ h=>by cases h) base args ds gs before hval hW
theorem txnSerial_holds:Rows.TxnSerialSaid :=
 OpenClaim.holds_of_wide 4 Tryz.f4 rfl rfl rfl rfl rfl rfl rfl ⟨rfl,rfl,rfl,rfl,rfl⟩ rfl rfl rfl rfl rfl (by kernel_rfl) Tryz.func4 txnSerial_closed
  (of_decide_eq_true (by kernel_rfl)) (by unfold Func.isWrapper;first|(rw[if_pos (by decide +kernel)];kernel_rfl)|(rw[if_neg (by decide +kernel)];exact⟨rfl,rfl⟩))
  (λos started H enc _=>Yt os started H enc)
end Go.Proofs.YtkblaobhhoebaaaGreat
