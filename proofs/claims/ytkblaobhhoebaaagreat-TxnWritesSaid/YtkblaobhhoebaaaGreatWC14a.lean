/-
 What the row of TxnWrites asks of the program, reckoned one by one.
-/
import Derived.Test.YtkblaobhhoebaaaGreatRows
import Derived.JoinedOf
import Derived.ProofKit
set_option linter.unusedVariables false
set_option linter.unusedSimpArgs false
namespace Go.Proofs.YtkblaobhhoebaaaGreat
open Go.ChangeShapes Go.WideShapes Go.ChangeAt Go.RowKit
noncomputable abbrev Qq:=Tryz.pinned.checked.prog
noncomputable abbrev Ww:=Rows.txnWritesRow
theorem Aer:(Ww.wf (OpenSpec.ofChange Rows.txnWritesSpec))=true:=by kernel_rfl
theorem Ad5:(laidOutB Qq)=true:=by kernel_rfl
theorem Ae9:(mapsRowed Qq)=true:=by kernel_rfl
theorem Afg:(Tryz.f8.params.all (Qq.readableRec ·))=true:=by kernel_rfl
theorem Afh:(namedTie Qq Ww.named Rows.txnWritesSpec.vars)=true:=by kernel_rfl
theorem Afr:((Ww.stops == []))=true:=by kernel_rfl
theorem Aeh:((Qq.stops == []))=true:=by kernel_rfl
theorem Ae8:((Ww.knobs == []))=true:=by kernel_rfl
theorem Afp:((Qq.stopKnobs == []))=true:=by kernel_rfl
theorem Aes:((Ww.inPlace == Qq.inPlace (8:FuncId)))=true:=by kernel_rfl
theorem Ac6:((Ww.unfollowed == Qq.unfollowed (8:FuncId)))=true:=by kernel_rfl
theorem Adk:((Ww.recurses == Qq.recurses (8:FuncId)))=true:=by kernel_rfl
theorem Acv:((Ww.named == Qq.varsNamed (8:FuncId)))=true:=by kernel_rfl
theorem Ac1:((Ww.maps == (Tryz.f8.params.toList++Rows.txnWritesSpec.plain.varTypes Qq).any (Qq.mapsRec ·)))=true:=by kernel_rfl
theorem Acf:((Ww.ifaces == (Tryz.f8.params.toList++Rows.txnWritesSpec.plain.varTypes Qq).any (Qq.ifacesRec ·)))=true:=by kernel_rfl
theorem Acr:((Ww.mapsOut == Qq.mapsAmong Tryz.f8.resultTypes.toList))=true:=by kernel_rfl
theorem Aci:((Ww.loops == (Tryz.f8.params.toList++Rows.txnWritesSpec.plain.varTypes Qq).any (Qq.loopsFrom ·)))=true:=by kernel_rfl
theorem Acl:((Ww.wideKeys == (Tryz.f8.params.toList++Rows.txnWritesSpec.plain.varTypes Qq++Tryz.f8.resultTypes.toList).any (Qq.wideKeysFrom ·)))=true:=by kernel_rfl
theorem Acc:(Rows.txnWritesSpec.vars.all (Qq.varReadable ·))=true:=by kernel_rfl
theorem Ace:(Tryz.f8.resultTypes.all (fun t=>Qq.readableRec t && decide (t<Qq.types.size)))=true:=by kernel_rfl
theorem Adj:((Ww.ifacesOut == Tryz.f8.resultTypes.toList.any (Qq.ifacesRec ·)))=true:=by kernel_rfl
theorem Acs:((Ww.loopsOut == Tryz.f8.resultTypes.toList.any (Qq.loopsFrom ·)))=true:=by kernel_rfl
theorem Ack:((Ww.plainKeys == Qq.plainKeys))=true:=by kernel_rfl
theorem Adu:(Ww.shortTexts.isNone)=true:=by kernel_rfl
theorem Ab2:(Qq.stopsHeard)=true:=by kernel_rfl
theorem Acz:(Qq.mayEnter)=true:=by kernel_rfl
theorem Adp:((Ww.lifted == Qq.liftsFinal))=true:=by kernel_rfl
theorem Adn:((Qq.make == some Ww.make))=true:=by kernel_rfl
theorem Ac3:((Ww.kinds == (if Ww.domain.isEmpty then [] else Tryz.f8.params.toList.map fun t=>match Qq.underlying t with | some (.int k)=>some k | _=>none)))=true:=by kernel_rfl
theorem Acj:((Ww.pinned == Ww.pinnedBy))=true:=by kernel_rfl
theorem Adf:((Ww.veiled == (Tryz.f8.params.toList++Rows.txnWritesSpec.plain.varTypes Qq++Tryz.f8.resultTypes.toList).any (Qq.veiledRec ·)))=true:=by kernel_rfl
theorem Ab3:(Ww.veiledFits Qq Tryz.f8.params.toList (Tryz.f8.params.toList++Rows.txnWritesSpec.plain.varTypes Qq++Tryz.f8.resultTypes.toList))=true:=by kernel_rfl
theorem H2 {a b:Bool} (h:a=true) (k:b=true):(a && b)=true:=by rw [h,k];rfl
set_option maxRecDepth 100000 in
theorem txnWrites_closed:joinedFacts Qq 8 Tryz.f8 Rows.txnWritesSpec Ww=true:=by
 unfold joinedFacts
 exact H2 (H2 (H2 (H2 (H2 (H2 (H2 (H2 (H2 (H2 (H2 (H2 (H2 (H2 (H2 (H2 (H2 (H2 (H2 (H2 (H2 (H2 (H2 (H2 (H2 (H2 (H2 (H2 (H2 (H2 (H2 Aer Ad5) Ae9) Afg) Afh) Afr) Aeh) Ae8) Afp) Aes) Ac6) Adk) Acv) Ac1) Acf) Acr) Aci) Acl) Acc) Ace) Adj) Acs) Ack) Adu) Ab2) Acz) Adp) Adn) Ac3) Acj) Adf) Ab3
end Go.Proofs.YtkblaobhhoebaaaGreat
