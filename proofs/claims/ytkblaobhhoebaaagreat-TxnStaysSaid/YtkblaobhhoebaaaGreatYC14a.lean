/-
 What the row of TxnStays asks of the program, reckoned one by one.
-/
import Derived.Test.YtkblaobhhoebaaaGreatRows
import Derived.JoinedOf
import Derived.ProofKit
set_option linter.unusedVariables false
set_option linter.unusedSimpArgs false
namespace Go.Proofs.YtkblaobhhoebaaaGreat
open Go.ChangeShapes Go.WideShapes Go.ChangeAt Go.RowKit
theorem Af2:(Rows.txnStaysRow.wf (OpenSpec.ofChange Rows.txnStaysSpec))=true:=by kernel_rfl
theorem Ahe:(laidOutB Tryz.pinned.checked.prog)=true:=by kernel_rfl
theorem Agf:(mapsRowed Tryz.pinned.checked.prog)=true:=by kernel_rfl
theorem Agd:(Tryz.f6.params.all (Tryz.pinned.checked.prog.readableRec ·))=true:=by kernel_rfl
theorem Ahd:(namedTie Tryz.pinned.checked.prog Rows.txnStaysRow.named Rows.txnStaysSpec.vars)=true:=by kernel_rfl
theorem Agh:((Rows.txnStaysRow.stops == []))=true:=by kernel_rfl
theorem Agb:((Tryz.pinned.checked.prog.stops == []))=true:=by kernel_rfl
theorem Ahs:((Rows.txnStaysRow.knobs == []))=true:=by kernel_rfl
theorem Afx:((Tryz.pinned.checked.prog.stopKnobs == []))=true:=by kernel_rfl
theorem Agr:((Rows.txnStaysRow.inPlace == Tryz.pinned.checked.prog.inPlace (6:FuncId)))=true:=by kernel_rfl
theorem Adf:((Rows.txnStaysRow.unfollowed == Tryz.pinned.checked.prog.unfollowed (6:FuncId)))=true:=by kernel_rfl
theorem Ae4:((Rows.txnStaysRow.recurses == Tryz.pinned.checked.prog.recurses (6:FuncId)))=true:=by kernel_rfl
theorem Ael:((Rows.txnStaysRow.named == Tryz.pinned.checked.prog.varsNamed (6:FuncId)))=true:=by kernel_rfl
theorem Ade:((Rows.txnStaysRow.maps == (Tryz.f6.params.toList++Rows.txnStaysSpec.plain.varTypes Tryz.pinned.checked.prog).any (Tryz.pinned.checked.prog.mapsRec ·)))=true:=by kernel_rfl
theorem Ae3:((Rows.txnStaysRow.ifaces == (Tryz.f6.params.toList++Rows.txnStaysSpec.plain.varTypes Tryz.pinned.checked.prog).any (Tryz.pinned.checked.prog.ifacesRec ·)))=true:=by kernel_rfl
theorem Adz:((Rows.txnStaysRow.mapsOut == Tryz.pinned.checked.prog.mapsAmong Tryz.f6.resultTypes.toList))=true:=by kernel_rfl
theorem Adc:((Rows.txnStaysRow.loops == (Tryz.f6.params.toList++Rows.txnStaysSpec.plain.varTypes Tryz.pinned.checked.prog).any (Tryz.pinned.checked.prog.loopsFrom ·)))=true:=by kernel_rfl
theorem Aeh:((Rows.txnStaysRow.wideKeys == (Tryz.f6.params.toList++Rows.txnStaysSpec.plain.varTypes Tryz.pinned.checked.prog++Tryz.f6.resultTypes.toList).any (Tryz.pinned.checked.prog.wideKeysFrom ·)))=true:=by kernel_rfl
theorem Ada:(Rows.txnStaysSpec.vars.all (Tryz.pinned.checked.prog.varReadable ·))=true:=by kernel_rfl
theorem Ae0:(Tryz.f6.resultTypes.all (fun t=>Tryz.pinned.checked.prog.readableRec t && decide (t<Tryz.pinned.checked.prog.types.size)))=true:=by kernel_rfl
theorem Ado:((Rows.txnStaysRow.ifacesOut == Tryz.f6.resultTypes.toList.any (Tryz.pinned.checked.prog.ifacesRec ·)))=true:=by kernel_rfl
theorem Ae9:((Rows.txnStaysRow.loopsOut == Tryz.f6.resultTypes.toList.any (Tryz.pinned.checked.prog.loopsFrom ·)))=true:=by kernel_rfl
theorem Afm:((Rows.txnStaysRow.plainKeys == Tryz.pinned.checked.prog.plainKeys))=true:=by kernel_rfl
theorem Aer:(Rows.txnStaysRow.shortTexts.isNone)=true:=by kernel_rfl
theorem Aef:(Tryz.pinned.checked.prog.stopsHeard)=true:=by kernel_rfl
theorem Aec:(Tryz.pinned.checked.prog.mayEnter)=true:=by kernel_rfl
theorem Afl:((Rows.txnStaysRow.lifted == Tryz.pinned.checked.prog.liftsFinal))=true:=by kernel_rfl
theorem Ac6:((Tryz.pinned.checked.prog.make == some Rows.txnStaysRow.make))=true:=by kernel_rfl
theorem Aem:((Rows.txnStaysRow.kinds == (if Rows.txnStaysRow.domain.isEmpty then [] else Tryz.f6.params.toList.map fun t=>match Tryz.pinned.checked.prog.underlying t with | some (.int k)=>some k | _=>none)))=true:=by kernel_rfl
theorem Aej:((Rows.txnStaysRow.pinned == Rows.txnStaysRow.pinnedBy))=true:=by kernel_rfl
theorem Adh:((Rows.txnStaysRow.veiled == (Tryz.f6.params.toList++Rows.txnStaysSpec.plain.varTypes Tryz.pinned.checked.prog++Tryz.f6.resultTypes.toList).any (Tryz.pinned.checked.prog.veiledRec ·)))=true:=by kernel_rfl
theorem Aex:(Rows.txnStaysRow.veiledFits Tryz.pinned.checked.prog Tryz.f6.params.toList (Tryz.f6.params.toList++Rows.txnStaysSpec.plain.varTypes Tryz.pinned.checked.prog++Tryz.f6.resultTypes.toList))=true:=by kernel_rfl
theorem Hq {a b:Bool} (h:a=true) (k:b=true):(a && b)=true:=by rw [h,k];rfl
set_option maxRecDepth 100000 in
theorem txnStays_closed:joinedFacts Tryz.pinned.checked.prog 6 Tryz.f6 Rows.txnStaysSpec Rows.txnStaysRow=true:=by
 unfold joinedFacts
 exact Hq (Hq (Hq (Hq (Hq (Hq (Hq (Hq (Hq (Hq (Hq (Hq (Hq (Hq (Hq (Hq (Hq (Hq (Hq (Hq (Hq (Hq (Hq (Hq (Hq (Hq (Hq (Hq (Hq (Hq (Hq Af2 Ahe) Agf) Agd) Ahd) Agh) Agb) Ahs) Afx) Agr) Adf) Ae4) Ael) Ade) Ae3) Adz) Adc) Aeh) Ada) Ae0) Ado) Ae9) Afm) Aer) Aef) Aec) Afl) Ac6) Aem) Aej) Adh) Aex
end Go.Proofs.YtkblaobhhoebaaaGreat
