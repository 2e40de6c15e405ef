/-
 What the row of TxnOnce asks of the program, reckoned one by one.
-/
import Derived.Test.YtkblaobhhoebaaaGreatRows
import Derived.JoinedOf
import Derived.ProofKit
set_option linter.unusedVariables false
set_option linter.unusedSimpArgs false
namespace Go.Proofs.YtkblaobhhoebaaaGreat
open Go.ChangeShapes Go.WideShapes Go.ChangeAt Go.RowKit
theorem Aij:(Rows.txnOnceRow.wf (OpenSpec.ofChange Rows.txnOnceSpec))=true:=by kernel_rfl
theorem Air:(laidOutB Tryz.pinned.checked.prog)=true:=by kernel_rfl
theorem Ajf:(mapsRowed Tryz.pinned.checked.prog)=true:=by kernel_rfl
theorem Aim:(Tryz.f5.params.all (Tryz.pinned.checked.prog.readableRec ·))=true:=by kernel_rfl
theorem Aic:(namedTie Tryz.pinned.checked.prog Rows.txnOnceRow.named Rows.txnOnceSpec.vars)=true:=by kernel_rfl
theorem Aia:((Rows.txnOnceRow.stops == []))=true:=by kernel_rfl
theorem Ahw:((Tryz.pinned.checked.prog.stops == []))=true:=by kernel_rfl
theorem Ahv:((Rows.txnOnceRow.knobs == []))=true:=by kernel_rfl
theorem Aiw:((Tryz.pinned.checked.prog.stopKnobs == []))=true:=by kernel_rfl
theorem Ajj:((Rows.txnOnceRow.inPlace == Tryz.pinned.checked.prog.inPlace (5:FuncId)))=true:=by kernel_rfl
theorem Afx:((Rows.txnOnceRow.unfollowed == Tryz.pinned.checked.prog.unfollowed (5:FuncId)))=true:=by kernel_rfl
theorem Afm:((Rows.txnOnceRow.recurses == Tryz.pinned.checked.prog.recurses (5:FuncId)))=true:=by kernel_rfl
theorem Afz:((Rows.txnOnceRow.named == Tryz.pinned.checked.prog.varsNamed (5:FuncId)))=true:=by kernel_rfl
theorem Afy:((Rows.txnOnceRow.maps == (Tryz.f5.params.toList++Rows.txnOnceSpec.plain.varTypes Tryz.pinned.checked.prog).any (Tryz.pinned.checked.prog.mapsRec ·)))=true:=by kernel_rfl
theorem Afu:((Rows.txnOnceRow.ifaces == (Tryz.f5.params.toList++Rows.txnOnceSpec.plain.varTypes Tryz.pinned.checked.prog).any (Tryz.pinned.checked.prog.ifacesRec ·)))=true:=by kernel_rfl
theorem Aee:((Rows.txnOnceRow.mapsOut == Tryz.pinned.checked.prog.mapsAmong Tryz.f5.resultTypes.toList))=true:=by kernel_rfl
theorem Ae0:((Rows.txnOnceRow.loops == (Tryz.f5.params.toList++Rows.txnOnceSpec.plain.varTypes Tryz.pinned.checked.prog).any (Tryz.pinned.checked.prog.loopsFrom ·)))=true:=by kernel_rfl
theorem Ae2:((Rows.txnOnceRow.wideKeys == (Tryz.f5.params.toList++Rows.txnOnceSpec.plain.varTypes Tryz.pinned.checked.prog++Tryz.f5.resultTypes.toList).any (Tryz.pinned.checked.prog.wideKeysFrom ·)))=true:=by kernel_rfl
theorem Aeu:(Rows.txnOnceSpec.vars.all (Tryz.pinned.checked.prog.varReadable ·))=true:=by kernel_rfl
theorem Afc:(Tryz.f5.resultTypes.all (fun t=>Tryz.pinned.checked.prog.readableRec t && decide (t<Tryz.pinned.checked.prog.types.size)))=true:=by kernel_rfl
theorem Aeo:((Rows.txnOnceRow.ifacesOut == Tryz.f5.resultTypes.toList.any (Tryz.pinned.checked.prog.ifacesRec ·)))=true:=by kernel_rfl
theorem Aem:((Rows.txnOnceRow.loopsOut == Tryz.f5.resultTypes.toList.any (Tryz.pinned.checked.prog.loopsFrom ·)))=true:=by kernel_rfl
theorem Aew:((Rows.txnOnceRow.plainKeys == Tryz.pinned.checked.prog.plainKeys))=true:=by kernel_rfl
theorem Afb:(Rows.txnOnceRow.shortTexts.isNone)=true:=by kernel_rfl
theorem Afo:(Tryz.pinned.checked.prog.stopsHeard)=true:=by kernel_rfl
theorem Af2:(Tryz.pinned.checked.prog.mayEnter)=true:=by kernel_rfl
theorem Ae6:((Rows.txnOnceRow.lifted == Tryz.pinned.checked.prog.liftsFinal))=true:=by kernel_rfl
theorem Ael:((Tryz.pinned.checked.prog.make == some Rows.txnOnceRow.make))=true:=by kernel_rfl
theorem Afl:((Rows.txnOnceRow.kinds == (if Rows.txnOnceRow.domain.isEmpty then [] else Tryz.f5.params.toList.map fun t=>match Tryz.pinned.checked.prog.underlying t with | some (.int k)=>some k | _=>none)))=true:=by kernel_rfl
theorem Agb:((Rows.txnOnceRow.pinned == Rows.txnOnceRow.pinnedBy))=true:=by kernel_rfl
theorem Aeg:((Rows.txnOnceRow.veiled == (Tryz.f5.params.toList++Rows.txnOnceSpec.plain.varTypes Tryz.pinned.checked.prog++Tryz.f5.resultTypes.toList).any (Tryz.pinned.checked.prog.veiledRec ·)))=true:=by kernel_rfl
theorem Afe:(Rows.txnOnceRow.veiledFits Tryz.pinned.checked.prog Tryz.f5.params.toList (Tryz.f5.params.toList++Rows.txnOnceSpec.plain.varTypes Tryz.pinned.checked.prog++Tryz.f5.resultTypes.toList))=true:=by kernel_rfl
theorem Hf {a b:Bool} (h:a=true) (k:b=true):(a && b)=true:=by rw [h,k];rfl
set_option maxRecDepth 100000 in
theorem txnOnce_closed:joinedFacts Tryz.pinned.checked.prog 5 Tryz.f5 Rows.txnOnceSpec Rows.txnOnceRow=true:=by
 unfold joinedFacts
 exact Hf (Hf (Hf (Hf (Hf (Hf (Hf (Hf (Hf (Hf (Hf (Hf (Hf (Hf (Hf (Hf (Hf (Hf (Hf (Hf (Hf (Hf (Hf (Hf (Hf (Hf (Hf (Hf (Hf (Hf (Hf Aij Air) Ajf) Aim) Aic) Aia) Ahw) Ahv) Aiw) Ajj) Afx) Afm) Afz) Afy) Afu) Aee) Ae0) Ae2) Aeu) Afc) Aeo) Aem) Aew) Afb) Afo) Af2) Ae6) Ael) Afl) Agb) Aeg) Afe
end Go.Proofs.YtkblaobhhoebaaaGreat
