/-
 What the row of TxnPlays asks of the program, reckoned one by one.
-/
import Derived.Test.YtkblaobhhoebaaaGreatRows
import Derived.JoinedOf
import Derived.ProofKit
set_option linter.unusedVariables false
set_option linter.unusedSimpArgs false
namespace Go.Proofs.YtkblaobhhoebaaaGreat
open Go.ChangeShapes Go.WideShapes Go.ChangeAt Go.RowKit
noncomputable abbrev QqP:=Tryz.pinned.checked.prog
noncomputable abbrev WwR:=Rows.txnPlaysRow
noncomputable abbrev WwS:=Rows.txnPlaysSpec
theorem Ak0:(WwR.wf (OpenSpec.ofChange WwS))=true:=by kernel_rfl
theorem Ak1:(laidOutB QqP)=true:=by kernel_rfl
theorem Ak2:(mapsRowed QqP)=true:=by kernel_rfl
theorem Ak3:(Tryz.f3.params.all (QqP.readableRec ·))=true:=by kernel_rfl
theorem Ak4:(namedTie QqP WwR.named WwS.vars)=true:=by kernel_rfl
theorem Ak5:((WwR.stops==[]))=true:=by kernel_rfl
theorem Ak6:((QqP.stops==[]))=true:=by kernel_rfl
theorem Ak7:((WwR.knobs==[]))=true:=by kernel_rfl
theorem Ak8:((QqP.stopKnobs==[]))=true:=by kernel_rfl
theorem Ak9:((WwR.inPlace==QqP.inPlace (3:FuncId)))=true:=by kernel_rfl
theorem Bfi:((WwR.unfollowed==QqP.unfollowed (3:FuncId)))=true:=by kernel_rfl
theorem Bfj:((WwR.recurses==QqP.recurses (3:FuncId)))=true:=by kernel_rfl
theorem Beb:((WwR.named==QqP.varsNamed (3:FuncId)))=true:=by kernel_rfl
theorem Bf5:((WwR.maps==(Tryz.f3.params.toList++WwS.plain.varTypes QqP).any (QqP.mapsRec ·)))=true:=by kernel_rfl
theorem Bfk:((WwR.ifaces==(Tryz.f3.params.toList++WwS.plain.varTypes QqP).any (QqP.ifacesRec ·)))=true:=by kernel_rfl
theorem Bda:((WwR.mapsOut==QqP.mapsAmong Tryz.f3.resultTypes.toList))=true:=by kernel_rfl
theorem Bey:((WwR.loops==(Tryz.f3.params.toList++WwS.plain.varTypes QqP).any (QqP.loopsFrom ·)))=true:=by kernel_rfl
theorem Bel:((WwR.wideKeys==(Tryz.f3.params.toList++WwS.plain.varTypes QqP++Tryz.f3.resultTypes.toList).any (QqP.wideKeysFrom ·)))=true:=by kernel_rfl
theorem Bek:(WwS.vars.all (QqP.varReadable ·))=true:=by kernel_rfl
theorem Ben:(Tryz.f3.resultTypes.all (λt=>QqP.readableRec t&&decide (t<QqP.types.size)))=true:=by kernel_rfl
theorem Bdj:((WwR.ifacesOut==Tryz.f3.resultTypes.toList.any (QqP.ifacesRec ·)))=true:=by kernel_rfl
theorem Bfw:((WwR.loopsOut==Tryz.f3.resultTypes.toList.any (QqP.loopsFrom ·)))=true:=by kernel_rfl
theorem Bfq:((WwR.plainKeys==QqP.plainKeys))=true:=by kernel_rfl
theorem Bdp:(WwR.shortTexts.isNone)=true:=by kernel_rfl
theorem Bdz:(QqP.stopsHeard)=true:=by kernel_rfl
theorem Be0:(QqP.mayEnter)=true:=by kernel_rfl
theorem Bfb:((WwR.lifted==QqP.liftsFinal))=true:=by kernel_rfl
theorem Bdn:((QqP.make==some WwR.make))=true:=by kernel_rfl
theorem Bfv:((WwR.kinds==(if WwR.domain.isEmpty then[] else Tryz.f3.params.toList.map λt=>match QqP.underlying t with|some (.int k)=>some k|_=>none)))=true:=by kernel_rfl
theorem Bfa:((WwR.pinned==WwR.pinnedBy))=true:=by kernel_rfl
theorem Bet:((WwR.veiled==(Tryz.f3.params.toList++WwS.plain.varTypes QqP++Tryz.f3.resultTypes.toList).any (QqP.veiledRec ·)))=true:=by kernel_rfl
theorem Bdq:(WwR.veiledFits QqP Tryz.f3.params.toList (Tryz.f3.params.toList++WwS.plain.varTypes QqP++Tryz.f3.resultTypes.toList))=true:=by kernel_rfl
theorem Fb {a b:Bool} (h:a=true) (k:b=true):(a&&b)=true:=by rw[h,k];rfl
set_option maxRecDepth 100000 in
theorem txnPlays_closed:joinedFacts QqP 3 Tryz.f3 WwS WwR=true:=by
 unfold joinedFacts
 exact Fb (Fb (Fb (Fb (Fb (Fb (Fb (Fb (Fb (Fb (Fb (Fb (Fb (Fb (Fb (Fb (Fb (Fb (Fb (Fb (Fb (Fb (Fb (Fb (Fb (Fb (Fb (Fb (Fb (Fb (Fb Ak0 Ak1) Ak2) Ak3) Ak4) Ak5) Ak6) Ak7) Ak8) Ak9) Bfi) Bfj) Beb) Bf5) Bfk) Bda) Bey) Bel) Bek) Ben) Bdj) Bfw) Bfq) Bdp) Bdz) Be0) Bfb) Bdn) Bfv) Bfa) Bet) Bdq
end Go.Proofs.YtkblaobhhoebaaaGreat
