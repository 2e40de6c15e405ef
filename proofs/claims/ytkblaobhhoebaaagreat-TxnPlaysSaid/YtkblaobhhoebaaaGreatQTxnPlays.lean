/-
 The row of TxnPlays: for every input the law returns true, and the input reads as it did. No condition.
-/
import Derived.Test.YtkblaobhhoebaaaGreatQM2
import Derived.Test.YtkblaobhhoebaaaGreatRows
import Derived.ProofKit
import Derived.Test.YtkblaobhhoebaaaGreatQC14a
set_option linter.unusedVariables false
set_option linter.unusedSimpArgs false
namespace Go.Proofs.YtkblaobhhoebaaaGreat.Abs
open Go.RowKit Go.Proofs
theorem txnPlays_f:∀ xs,Aie [.sl (.st (.pair (.int .i64) (.pair (.int .i64) (.pair (.int .i64) (.pair (.int .i64) (.pair (.bool) (.pair (.bool) (.pair (.sl (.int .u8)) (.pair (.sl (.int .u8)) (.pair (.st (.pair (.sl (.int .u8)) (.pair (.sl (.int .u8)) (.pair (.bool) (.unit))))) (.unit)))))))))))] xs->Bc Tryz.prog 3 xs (·=.s (.one (.b true)))
 | [],h=>h.elim
 | [_],⟨⟨ls0,h0,e0⟩,_⟩=>by
  obtain⟨a0,q0,rfl⟩:=(Atz (Q:=λ(x:Ic)=>Apl x) (λh=>Aqq h)) h0
  subst e0
  exact c3.ok (a0,()) true (Ajo a0)
 | _::_::_,h=>h.2.elim
end Go.Proofs.YtkblaobhhoebaaaGreat.Abs
namespace Go.Proofs.YtkblaobhhoebaaaGreat
open Go.ChangeShapes Go.WideShapes Go.ChangeAt Go.RowKit
theorem Tryz.own:ownKnob Tryz.prog.godebug=none:=by kernel_rfl
theorem Tryz.laidOut:laidOutB Tryz.prog=true:=by kernel_rfl
set_option maxRecDepth 100000 in
theorem Ae4 (os:Os) (started:os.Started) (H:Type) (enc:TypeId×Value->H) :
  ReturnsInHanded {} Tryz.checked os 3 .any (Rows.txnPlaysSpec.pre6 enc Tryz.prog Tryz.f3 Rows.txnPlaysRow.domain false) (Rows.txnPlaysSpec.post enc Tryz.prog Tryz.f3 false true false false):=by
 refine returnsInHanded_of_change (C:=Tryz.checked) Tryz.own started (by kernel_rfl) Tryz.func3
  (ChangeSpec.witness6 (enc:=enc) (C:=Tryz.checked) false ⟨#[],#[.slice none 0 0],[]⟩ 8 (by kernel_rfl) (by kernel_rfl) (by kernel_rfl) (by kernel_rfl)) ?_
 intro W base args ds gs before hval hW _ _
 exact Go.Proofs.YtkblaobhhoebaaaGreat.Abs.law_contract (tb:=4) Tryz.laidOut [.sl (.st (.pair (.int .i64) (.pair (.int .i64) (.pair (.int .i64) (.pair (.int .i64) (.pair (.bool) (.pair (.bool) (.pair (.sl (.int .u8)) (.pair (.sl (.int .u8)) (.pair (.st (.pair (.sl (.int .u8)) (.pair (.sl (.int .u8)) (.pair (.bool) (.unit))))) (.unit)))))))))))] (by kernel_rfl) rfl Tryz.underlying4 rfl (λds h=>match ds,h with|[d0],_=>rfl) Go.Proofs.YtkblaobhhoebaaaGreat.Abs.txnPlays_f (λ_ h=>by cases h) base args ds gs before hval hW
theorem txnPlays_holds:Rows.TxnPlaysSaid :=
 OpenClaim.holds_of_wide 3 Tryz.f3 rfl rfl rfl rfl rfl rfl rfl ⟨rfl,rfl,rfl,rfl,rfl⟩ rfl rfl rfl rfl rfl (by kernel_rfl) Tryz.func3 txnPlays_closed
  (of_decide_eq_true (by kernel_rfl)) (by unfold Func.isWrapper;first|(rw[if_pos (by decide +kernel)];kernel_rfl)|(rw[if_neg (by decide +kernel)];exact⟨rfl,rfl⟩))
  (λos started H enc _=>Ae4 os started H enc)
end Go.Proofs.YtkblaobhhoebaaaGreat
