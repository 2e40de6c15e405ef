/-
  DERIVED. GIVEN WITH THE SEED: THE CARDS: each row of YtljkjkkpogkgbaaDoorRows.lean that lists a variable, with what it lists TIED to the program's text (the seventh form; the later family's looks); each row that meets fmt, with fmt's text TOLD by the authors' own Lean function (tested against real Go, not proved from fmt's source: count such statements apart). THE CARD IS WHAT COUNTS. Prove the row's statement (the work); the ties are given (YtljkjkkpogkgbaaDoorTie.lean); close each card by the builder's one call (the guide's Derived/Test/ToyasCard.lean, 'card_holds'). Laid BY PROGRAM, IN A SANDBOX (cutbox-door.mjs). By AI agents, Wed Nov 11 2026. No macro, syntax, notation, axiom, sorry.
-/
import Derived.Test.YtljkjkkpogkgbaaDoorRows
import GoSem.ClaimSeven
namespace Go.Proofs.YtljkjkkpogkgbaaDoor
namespace Rows

/-- THE TIED CARD OF 'godwitlaw05.MsgReqs'. -/
def msgReqsCard : Claim7 := { stood := { row := msgReqsRow, standIns := [], harness := (true, "37f6973ace527cd947b7b2159e9f12c99930eb1126f31baa46e930181ccc16bc"), looks := false }, kinds := [], alts := [], laidByText := true, laidKinds := [.data], laidTests := true, laidLooks := .later }
def MsgReqsCardSaid : Prop := Claim7.holds Tryd.pinned (.plain (OpenSpec.ofChange msgReqsSpec)) msgReqsCard

/-- THE TIED CARD OF 'godwitlaw05.MsgReplies'. -/
def msgRepliesCard : Claim7 := { stood := { row := msgRepliesRow, standIns := [], harness := (true, "37f6973ace527cd947b7b2159e9f12c99930eb1126f31baa46e930181ccc16bc"), looks := false }, kinds := [], alts := [], laidByText := true, laidKinds := [.data], laidTests := true, laidLooks := .later }
def MsgRepliesCardSaid : Prop := Claim7.holds Tryd.pinned (.plain (OpenSpec.ofChange msgRepliesSpec)) msgRepliesCard

/-- THE TIED CARD OF 'godwitlaw05.MsgBack'. -/
def msgBackCard : Claim7 := { stood := { row := msgBackRow, standIns := [], harness := (true, "37f6973ace527cd947b7b2159e9f12c99930eb1126f31baa46e930181ccc16bc"), looks := false }, kinds := [], alts := [], laidByText := true, laidKinds := [.data], laidTests := true, laidLooks := .later }
def MsgBackCardSaid : Prop := Claim7.holds Tryd.pinned (.plain (OpenSpec.ofChange msgBackSpec)) msgBackCard

/-- THE TIED CARD OF 'godwitlaw05.MsgTold'. -/
def msgToldCard : Claim7 := { stood := { row := msgToldRow, standIns := [], harness := (true, "37f6973ace527cd947b7b2159e9f12c99930eb1126f31baa46e930181ccc16bc"), looks := false }, kinds := [], alts := [], laidByText := true, laidKinds := [.data], laidTests := true, laidLooks := .later }
def MsgToldCardSaid : Prop := Claim7.holds Tryd.pinned (.plain (OpenSpec.ofChange msgToldSpec)) msgToldCard

/-- THE TIED CARD OF 'godwitlaw05.MsgSame'. -/
def msgSameCard : Claim7 := { stood := { row := msgSameRow, standIns := [], harness := (true, "37f6973ace527cd947b7b2159e9f12c99930eb1126f31baa46e930181ccc16bc"), looks := false }, kinds := [], alts := [], laidByText := true, laidKinds := [.data], laidTests := true, laidLooks := .later }
def MsgSameCardSaid : Prop := Claim7.holds Tryd.pinned (.plain (OpenSpec.ofChange msgSameSpec)) msgSameCard

/-- THE TIED CARD OF 'godwitlaw05.MsgSeq'. -/
def msgSeqCard : Claim7 := { stood := { row := msgSeqRow, standIns := [], harness := (true, "37f6973ace527cd947b7b2159e9f12c99930eb1126f31baa46e930181ccc16bc"), looks := false }, kinds := [], alts := [], laidByText := true, laidKinds := [.data], laidTests := true, laidLooks := .later }
def MsgSeqCardSaid : Prop := Claim7.holds Tryd.pinned (.plain (OpenSpec.ofChange msgSeqSpec)) msgSeqCard

/-- THE SECOND FORM's CARD OF 'godwitlaw05.MsgReqs'. -/
def msgReqsUptoCard : Claim7 := { stood := { row := msgReqsUptoRow, standIns := [], harness := (true, "37f6973ace527cd947b7b2159e9f12c99930eb1126f31baa46e930181ccc16bc"), looks := false }, kinds := [], alts := [], laidByText := true, laidKinds := [.data], laidTests := true, laidLooks := .later }
def MsgReqsUptoCardSaid : Prop := Claim7.holds Tryd.pinned (.plain (OpenSpec.upto msgReqsSpec)) msgReqsUptoCard

/-- THE SECOND FORM's CARD OF 'godwitlaw05.MsgReplies'. -/
def msgRepliesUptoCard : Claim7 := { stood := { row := msgRepliesUptoRow, standIns := [], harness := (true, "37f6973ace527cd947b7b2159e9f12c99930eb1126f31baa46e930181ccc16bc"), looks := false }, kinds := [], alts := [], laidByText := true, laidKinds := [.data], laidTests := true, laidLooks := .later }
def MsgRepliesUptoCardSaid : Prop := Claim7.holds Tryd.pinned (.plain (OpenSpec.upto msgRepliesSpec)) msgRepliesUptoCard

/-- THE SECOND FORM's CARD OF 'godwitlaw05.MsgBack'. -/
def msgBackUptoCard : Claim7 := { stood := { row := msgBackUptoRow, standIns := [], harness := (true, "37f6973ace527cd947b7b2159e9f12c99930eb1126f31baa46e930181ccc16bc"), looks := false }, kinds := [], alts := [], laidByText := true, laidKinds := [.data], laidTests := true, laidLooks := .later }
def MsgBackUptoCardSaid : Prop := Claim7.holds Tryd.pinned (.plain (OpenSpec.upto msgBackSpec)) msgBackUptoCard

/-- THE SECOND FORM's CARD OF 'godwitlaw05.MsgTold'. -/
def msgToldUptoCard : Claim7 := { stood := { row := msgToldUptoRow, standIns := [], harness := (true, "37f6973ace527cd947b7b2159e9f12c99930eb1126f31baa46e930181ccc16bc"), looks := false }, kinds := [], alts := [], laidByText := true, laidKinds := [.data], laidTests := true, laidLooks := .later }
def MsgToldUptoCardSaid : Prop := Claim7.holds Tryd.pinned (.plain (OpenSpec.upto msgToldSpec)) msgToldUptoCard

/-- THE SECOND FORM's CARD OF 'godwitlaw05.MsgSame'. -/
def msgSameUptoCard : Claim7 := { stood := { row := msgSameUptoRow, standIns := [], harness := (true, "37f6973ace527cd947b7b2159e9f12c99930eb1126f31baa46e930181ccc16bc"), looks := false }, kinds := [], alts := [], laidByText := true, laidKinds := [.data], laidTests := true, laidLooks := .later }
def MsgSameUptoCardSaid : Prop := Claim7.holds Tryd.pinned (.plain (OpenSpec.upto msgSameSpec)) msgSameUptoCard

/-- THE SECOND FORM's CARD OF 'godwitlaw05.MsgSeq'. -/
def msgSeqUptoCard : Claim7 := { stood := { row := msgSeqUptoRow, standIns := [], harness := (true, "37f6973ace527cd947b7b2159e9f12c99930eb1126f31baa46e930181ccc16bc"), looks := false }, kinds := [], alts := [], laidByText := true, laidKinds := [.data], laidTests := true, laidLooks := .later }
def MsgSeqUptoCardSaid : Prop := Claim7.holds Tryd.pinned (.plain (OpenSpec.upto msgSeqSpec)) msgSeqUptoCard
end Rows
end Go.Proofs.YtljkjkkpogkgbaaDoor
