/-
 What the row of TxnSerial asks of the program, reckoned one by one.
-/
import Derived.Test.YtkblaobhhoebaaaGreatRows
import Derived.JoinedOf
import Derived.ProofKit
set_option linter.unusedVariables false
set_option linter.unusedSimpArgs false
namespace Go.Proofs.YtkblaobhhoebaaaGreat
open Go.ChangeShapes Go.WideShapes Go.ChangeAt Go.RowKit
noncomputable abbrev QqP:=Tryz.pinned.checked.prog
noncomputable abbrev WwR:=Rows.txnSerialRow
noncomputable abbrev WwS:=Rows.txnSerialSpec
theorem Ak0:(WwR.wf (OpenSpec.ofChange WwS))=true:=by kernel_rfl
theorem Ak1:(laidOutB QqP)=true:=by kernel_rfl
theorem Ak2:(mapsRowed QqP)=true:=by kernel_rfl
theorem Ak3:(Tryz.f4.params.all (QqP.readableRec ·))=true:=by kernel_rfl
theorem Ak4:(namedTie QqP WwR.named WwS.vars)=true:=by kernel_rfl
theorem Ak5:((WwR.stops==[]))=true:=by kernel_rfl
theorem Ak6:((QqP.stops==[]))=true:=by kernel_rfl
theorem Ak7:((WwR.knobs==[]))=true:=by kernel_rfl
theorem Ak8:((QqP.stopKnobs==[]))=true:=by kernel_rfl
theorem Ak9:((WwR.inPlace==QqP.inPlace (4:FuncId)))=true:=by kernel_rfl
theorem Az5:((WwR.unfollowed==QqP.unfollowed (4:FuncId)))=true:=by kernel_rfl
theorem Az6:((WwR.recurses==QqP.recurses (4:FuncId)))=true:=by kernel_rfl
theorem A0y:((WwR.named==QqP.varsNamed (4:FuncId)))=true:=by kernel_rfl
theorem A0g:((WwR.maps==(Tryz.f4.params.toList++WwS.plain.varTypes QqP).any (QqP.mapsRec ·)))=true:=by kernel_rfl
theorem A0j:((WwR.ifaces==(Tryz.f4.params.toList++WwS.plain.varTypes QqP).any (QqP.ifacesRec ·)))=true:=by kernel_rfl
theorem Azr:((WwR.mapsOut==QqP.mapsAmong Tryz.f4.resultTypes.toList))=true:=by kernel_rfl
theorem A0a:((WwR.loops==(Tryz.f4.params.toList++WwS.plain.varTypes QqP).any (QqP.loopsFrom ·)))=true:=by kernel_rfl
theorem Azx:((WwR.wideKeys==(Tryz.f4.params.toList++WwS.plain.varTypes QqP++Tryz.f4.resultTypes.toList).any (QqP.wideKeysFrom ·)))=true:=by kernel_rfl
theorem A01:(WwS.vars.all (QqP.varReadable ·))=true:=by kernel_rfl
theorem Azu:(Tryz.f4.resultTypes.all (λt=>QqP.readableRec t&&decide (t<QqP.types.size)))=true:=by kernel_rfl
theorem A0w:((WwR.ifacesOut==Tryz.f4.resultTypes.toList.any (QqP.ifacesRec ·)))=true:=by kernel_rfl
theorem Az9:((WwR.loopsOut==Tryz.f4.resultTypes.toList.any (QqP.loopsFrom ·)))=true:=by kernel_rfl
theorem Az0:((WwR.plainKeys==QqP.plainKeys))=true:=by kernel_rfl
theorem A0s:(WwR.shortTexts.isNone)=true:=by kernel_rfl
theorem A0b:(QqP.stopsHeard)=true:=by kernel_rfl
theorem Azt:(QqP.mayEnter)=true:=by kernel_rfl
theorem Az2:((WwR.lifted==QqP.liftsFinal))=true:=by kernel_rfl
theorem A0n:((QqP.make==some WwR.make))=true:=by kernel_rfl
theorem A00:((WwR.kinds==(if WwR.domain.isEmpty then[] else Tryz.f4.params.toList.map λt=>match QqP.underlying t with|some (.int k)=>some k|_=>none)))=true:=by kernel_rfl
theorem Azo:((WwR.pinned==WwR.pinnedBy))=true:=by kernel_rfl
theorem A0e:((WwR.veiled==(Tryz.f4.params.toList++WwS.plain.varTypes QqP++Tryz.f4.resultTypes.toList).any (QqP.veiledRec ·)))=true:=by kernel_rfl
theorem A0c:(WwR.veiledFits QqP Tryz.f4.params.toList (Tryz.f4.params.toList++WwS.plain.varTypes QqP++Tryz.f4.resultTypes.toList))=true:=by kernel_rfl
theorem F8 {a b:Bool} (h:a=true) (k:b=true):(a&&b)=true:=by rw[h,k];rfl
set_option maxRecDepth 100000 in
theorem txnSerial_closed:joinedFacts QqP 4 Tryz.f4 WwS WwR=true:=by
 unfold joinedFacts
 exact F8 (F8 (F8 (F8 (F8 (F8 (F8 (F8 (F8 (F8 (F8 (F8 (F8 (F8 (F8 (F8 (F8 (F8 (F8 (F8 (F8 (F8 (F8 (F8 (F8 (F8 (F8 (F8 (F8 (F8 (F8 Ak0 Ak1) Ak2) Ak3) Ak4) Ak5) Ak6) Ak7) Ak8) Ak9) Az5) Az6) A0y) A0g) A0j) Azr) A0a) Azx) A01) Azu) A0w) Az9) Az0) A0s) A0b) Azt) Az2) A0n) A00) Azo) A0e) A0c
end Go.Proofs.YtkblaobhhoebaaaGreat
