/-
 What the row of TxnStill asks of the program, reckoned one by one.
-/
import Derived.Test.YtkblaobhhoebaaaGreatRows
import Derived.JoinedOf
import Derived.ProofKit
set_option linter.unusedVariables false
set_option linter.unusedSimpArgs false
namespace Go.Proofs.YtkblaobhhoebaaaGreat
open Go.ChangeShapes Go.WideShapes Go.ChangeAt Go.RowKit
noncomputable abbrev QqP:=Tryz.pinned.checked.prog
noncomputable abbrev WwR:=Rows.txnStillRow
noncomputable abbrev WwS:=Rows.txnStillSpec
theorem Ait:(WwR.wf (OpenSpec.ofChange WwS))=true:=by kernel_rfl
theorem Aik:(laidOutB QqP)=true:=by kernel_rfl
theorem Aj3:(mapsRowed QqP)=true:=by kernel_rfl
theorem Aiw:(Tryz.f7.params.all (QqP.readableRec ·))=true:=by kernel_rfl
theorem Ajc:(namedTie QqP WwR.named WwS.vars)=true:=by kernel_rfl
theorem Ajf:((WwR.stops==[]))=true:=by kernel_rfl
theorem Ajd:((QqP.stops==[]))=true:=by kernel_rfl
theorem Aj6:((WwR.knobs==[]))=true:=by kernel_rfl
theorem Ajt:((QqP.stopKnobs==[]))=true:=by kernel_rfl
theorem Aiu:((WwR.inPlace==QqP.inPlace (7:FuncId)))=true:=by kernel_rfl
theorem Agk:((WwR.unfollowed==QqP.unfollowed (7:FuncId)))=true:=by kernel_rfl
theorem Ahh:((WwR.recurses==QqP.recurses (7:FuncId)))=true:=by kernel_rfl
theorem Af0:((WwR.named==QqP.varsNamed (7:FuncId)))=true:=by kernel_rfl
theorem Ahz:((WwR.maps==(Tryz.f7.params.toList++WwS.plain.varTypes QqP).any (QqP.mapsRec ·)))=true:=by kernel_rfl
theorem Agg:((WwR.ifaces==(Tryz.f7.params.toList++WwS.plain.varTypes QqP).any (QqP.ifacesRec ·)))=true:=by kernel_rfl
theorem Afw:((WwR.mapsOut==QqP.mapsAmong Tryz.f7.resultTypes.toList))=true:=by kernel_rfl
theorem Agy:((WwR.loops==(Tryz.f7.params.toList++WwS.plain.varTypes QqP).any (QqP.loopsFrom ·)))=true:=by kernel_rfl
theorem Ah5:((WwR.wideKeys==(Tryz.f7.params.toList++WwS.plain.varTypes QqP++Tryz.f7.resultTypes.toList).any (QqP.wideKeysFrom ·)))=true:=by kernel_rfl
theorem Agp:(WwS.vars.all (QqP.varReadable ·))=true:=by kernel_rfl
theorem Ag7:(Tryz.f7.resultTypes.all (λt=>QqP.readableRec t&&decide (t<QqP.types.size)))=true:=by kernel_rfl
theorem Ah2:((WwR.ifacesOut==Tryz.f7.resultTypes.toList.any (QqP.ifacesRec ·)))=true:=by kernel_rfl
theorem Ahf:((WwR.loopsOut==Tryz.f7.resultTypes.toList.any (QqP.loopsFrom ·)))=true:=by kernel_rfl
theorem Agw:((WwR.plainKeys==QqP.plainKeys))=true:=by kernel_rfl
theorem Ag5:(WwR.shortTexts.isNone)=true:=by kernel_rfl
theorem Ahd:(QqP.stopsHeard)=true:=by kernel_rfl
theorem Agu:(QqP.mayEnter)=true:=by kernel_rfl
theorem Ah1:((WwR.lifted==QqP.liftsFinal))=true:=by kernel_rfl
theorem Ahw:((QqP.make==some WwR.make))=true:=by kernel_rfl
theorem Agx:((WwR.kinds==(if WwR.domain.isEmpty then[] else Tryz.f7.params.toList.map λt=>match QqP.underlying t with|some (.int k)=>some k|_=>none)))=true:=by kernel_rfl
theorem Ahc:((WwR.pinned==WwR.pinnedBy))=true:=by kernel_rfl
theorem Ag0:((WwR.veiled==(Tryz.f7.params.toList++WwS.plain.varTypes QqP++Tryz.f7.resultTypes.toList).any (QqP.veiledRec ·)))=true:=by kernel_rfl
theorem Aho:(WwR.veiledFits QqP Tryz.f7.params.toList (Tryz.f7.params.toList++WwS.plain.varTypes QqP++Tryz.f7.resultTypes.toList))=true:=by kernel_rfl
theorem Il {a b:Bool} (h:a=true) (k:b=true):(a&&b)=true:=by rw[h,k];rfl
set_option maxRecDepth 100000 in
theorem txnStill_closed:joinedFacts QqP 7 Tryz.f7 WwS WwR=true:=by
 unfold joinedFacts
 exact Il (Il (Il (Il (Il (Il (Il (Il (Il (Il (Il (Il (Il (Il (Il (Il (Il (Il (Il (Il (Il (Il (Il (Il (Il (Il (Il (Il (Il (Il (Il Ait Aik) Aj3) Aiw) Ajc) Ajf) Ajd) Aj6) Ajt) Aiu) Agk) Ahh) Af0) Ahz) Agg) Afw) Agy) Ah5) Agp) Ag7) Ah2) Ahf) Agw) Ag5) Ahd) Agu) Ah1) Ahw) Agx) Ahc) Ag0) Aho
end Go.Proofs.YtkblaobhhoebaaaGreat
