/-
  NARROWER THAN 'FOR EVERY INPUT', by the rows' own cells (each row's printed sentence says how): MsgReqs: laid · MsgReplies: laid · MsgBack: laid · MsgTold: laid · MsgSame: laid · MsgSeq: laid.
  DERIVED. THE GIVEN ROWS OF THIS SEAT. 6 by the template 'for every input the law returns true; each argument reads behind the call as it read before'; 0 by the template 'total and deterministic' (their statements: YtljkjkkpogkgbaaDoorTotals.lean).
  GIVEN WITH THE SEED: the statements are not yours to turn. If you find one false, say at which input.
  Laid BY PROGRAM, IN A SANDBOX (cutbox-rows.mjs): the forced cells as the released guide's own fill.sh prints them over the translation c8411d74f0f4ac5b… (all of the seat's roots in one cut). By AI agents, Wed Nov 11 2026. No macro, syntax, notation, axiom, sorry.
-/
import Derived.Test.YtljkjkkpogkgbaaDoorChecked
import GoSem.Claim
import GoSem.ClaimJoined
import GoSem.ClaimMapViews
import Derived.JoinedTies
import Derived.KernelRfl
namespace Go.Proofs.YtljkjkkpogkgbaaDoor
/- THE CELL 'sum', in the pinned program and in every row, IS THE sha256 OF THE DUMP (.gsa) THAT YtljkjkkpogkgbaaDoorProg.lean LOADS. Nothing in Lean hashes anything: it is a label: what it is worth is what the hold of that sum in a sandbox is worth. -/
noncomputable def Tryd.pinned : Pinned := { name := "ytljkjkkpogkgbaadoor", sum := "c8411d74f0f4ac5b4f3e069053124a2614ddc83336d21bb3544b37834c86d7e4", checked := Tryd.checked }
namespace Rows
def none {H : Type} : Left H := { results := [], args := [] }

/- WHAT THE LISTED PACKAGE-LEVEL VARIABLES READ AS WHEN THE CALL BEGINS. Each datum BY PROGRAM (the guide's laid-datum.mjs) off the statement by which the dump's own 'gosem.cut.vars' lays the variable. In a bare row this is a premise. The card (YtljkjkkpogkgbaaDoorCards.lean) ties it to the program's text. -/
def laid_godwit_msg_kindParts {H : Type} : DataW H := .agg [.agg [.lit (.bool false), .lit (.bool false), .lit (.bool false), .lit (.bool false), .lit (.bool false), .lit (.bool false)], .agg [.lit (.bool true), .lit (.bool true), .lit (.bool false), .lit (.bool false), .lit (.bool false), .lit (.bool false)], .agg [.lit (.bool true), .lit (.bool true), .lit (.bool true), .lit (.bool false), .lit (.bool false), .lit (.bool false)], .agg [.lit (.bool false), .lit (.bool false), .lit (.bool false), .lit (.bool true), .lit (.bool false), .lit (.bool false)], .agg [.lit (.bool false), .lit (.bool false), .lit (.bool false), .lit (.bool true), .lit (.bool true), .lit (.bool false)], .agg [.lit (.bool false), .lit (.bool false), .lit (.bool false), .lit (.bool true), .lit (.bool false), .lit (.bool false)], .agg [.lit (.bool false), .lit (.bool false), .lit (.bool false), .lit (.bool false), .lit (.bool false), .lit (.bool true)], .agg [.lit (.bool false), .lit (.bool false), .lit (.bool false), .lit (.bool false), .lit (.bool false), .lit (.bool false)], .agg [.lit (.bool false), .lit (.bool false), .lit (.bool false), .lit (.bool false), .lit (.bool false), .lit (.bool false)], .agg [.lit (.bool true), .lit (.bool true), .lit (.bool false), .lit (.bool false), .lit (.bool false), .lit (.bool false)], .agg [.lit (.bool true), .lit (.bool false), .lit (.bool false), .lit (.bool false), .lit (.bool false), .lit (.bool false)], .agg [.lit (.bool false), .lit (.bool false), .lit (.bool false), .lit (.bool false), .lit (.bool false), .lit (.bool false)]]

/-- 'godwitlaw05.MsgReqs': WHATEVER THE INPUT: true; the input reads as it did. -/
def msgReqsSpec : ChangeSpec := { name := "msgReqs", fn := fun _ => fun
  | [d1, d2, d3] => { results := [.lit (.bool true)], args := [d1, d2, d3] }
  | _ => none }
def msgReqsRow : OpenClaim := { program := "ytljkjkkpogkgbaadoor", sum := "c8411d74f0f4ac5b4f3e069053124a2614ddc83336d21bb3544b37834c86d7e4", func := "godwit/godwitlaw05.MsgReqs", spec := "msgReqs", unfollowed := true, recurses := true, named := ["godwit/msg.kindParts"], apart := false, laid := [("godwit/msg.kindParts", laid_godwit_msg_kindParts)] }
def MsgReqsSaid : Prop := msgReqsRow.holds Tryd.pinned (OpenSpec.ofChange msgReqsSpec)

/-- ITS FALSE NEIGHBOUR: 'it returns false'. Refute it at one input. -/
def msgReqsWrong : ChangeSpec := { name := "msgReqs", fn := fun _ => fun
  | [d1, d2, d3] => { results := [.lit (.bool false)], args := [d1, d2, d3] }
  | _ => none }
def MsgReqsWrongFalsely : Prop := msgReqsRow.holds Tryd.pinned (OpenSpec.ofChange msgReqsWrong)

/-- 'godwitlaw05.MsgReplies': WHATEVER THE INPUT: true; the input reads as it did. -/
def msgRepliesSpec : ChangeSpec := { name := "msgReplies", fn := fun _ => fun
  | [d1, d2, d3] => { results := [.lit (.bool true)], args := [d1, d2, d3] }
  | _ => none }
def msgRepliesRow : OpenClaim := { program := "ytljkjkkpogkgbaadoor", sum := "c8411d74f0f4ac5b4f3e069053124a2614ddc83336d21bb3544b37834c86d7e4", func := "godwit/godwitlaw05.MsgReplies", spec := "msgReplies", unfollowed := true, recurses := true, named := ["godwit/msg.kindParts"], apart := false, laid := [("godwit/msg.kindParts", laid_godwit_msg_kindParts)] }
def MsgRepliesSaid : Prop := msgRepliesRow.holds Tryd.pinned (OpenSpec.ofChange msgRepliesSpec)

/-- ITS FALSE NEIGHBOUR: 'it returns false'. Refute it at one input. -/
def msgRepliesWrong : ChangeSpec := { name := "msgReplies", fn := fun _ => fun
  | [d1, d2, d3] => { results := [.lit (.bool false)], args := [d1, d2, d3] }
  | _ => none }
def MsgRepliesWrongFalsely : Prop := msgRepliesRow.holds Tryd.pinned (OpenSpec.ofChange msgRepliesWrong)

/-- 'godwitlaw05.MsgBack': WHATEVER THE INPUT: true; the input reads as it did. -/
def msgBackSpec : ChangeSpec := { name := "msgBack", fn := fun _ => fun
  | [d1, d2, d3] => { results := [.lit (.bool true)], args := [d1, d2, d3] }
  | _ => none }
def msgBackRow : OpenClaim := { program := "ytljkjkkpogkgbaadoor", sum := "c8411d74f0f4ac5b4f3e069053124a2614ddc83336d21bb3544b37834c86d7e4", func := "godwit/godwitlaw05.MsgBack", spec := "msgBack", unfollowed := true, recurses := true, named := ["godwit/msg.kindParts"], apart := false, laid := [("godwit/msg.kindParts", laid_godwit_msg_kindParts)] }
def MsgBackSaid : Prop := msgBackRow.holds Tryd.pinned (OpenSpec.ofChange msgBackSpec)

/-- ITS FALSE NEIGHBOUR: 'it returns false'. Refute it at one input. -/
def msgBackWrong : ChangeSpec := { name := "msgBack", fn := fun _ => fun
  | [d1, d2, d3] => { results := [.lit (.bool false)], args := [d1, d2, d3] }
  | _ => none }
def MsgBackWrongFalsely : Prop := msgBackRow.holds Tryd.pinned (OpenSpec.ofChange msgBackWrong)

/-- 'godwitlaw05.MsgTold': WHATEVER THE INPUT: true; the input reads as it did. -/
def msgToldSpec : ChangeSpec := { name := "msgTold", fn := fun _ => fun
  | [d] => { results := [.lit (.bool true)], args := [d] }
  | _ => none }
def msgToldRow : OpenClaim := { program := "ytljkjkkpogkgbaadoor", sum := "c8411d74f0f4ac5b4f3e069053124a2614ddc83336d21bb3544b37834c86d7e4", func := "godwit/godwitlaw05.MsgTold", spec := "msgTold", unfollowed := true, recurses := true, named := ["godwit/msg.kindParts"], apart := false, laid := [("godwit/msg.kindParts", laid_godwit_msg_kindParts)] }
def MsgToldSaid : Prop := msgToldRow.holds Tryd.pinned (OpenSpec.ofChange msgToldSpec)

/-- ITS FALSE NEIGHBOUR: 'it returns false'. Refute it at one input. -/
def msgToldWrong : ChangeSpec := { name := "msgTold", fn := fun _ => fun
  | [d] => { results := [.lit (.bool false)], args := [d] }
  | _ => none }
def MsgToldWrongFalsely : Prop := msgToldRow.holds Tryd.pinned (OpenSpec.ofChange msgToldWrong)

/-- 'godwitlaw05.MsgSame': WHATEVER THE INPUT: true; the input reads as it did. -/
def msgSameSpec : ChangeSpec := { name := "msgSame", fn := fun _ => fun
  | [d1, d2, d3, d4] => { results := [.lit (.bool true)], args := [d1, d2, d3, d4] }
  | _ => none }
def msgSameRow : OpenClaim := { program := "ytljkjkkpogkgbaadoor", sum := "c8411d74f0f4ac5b4f3e069053124a2614ddc83336d21bb3544b37834c86d7e4", func := "godwit/godwitlaw05.MsgSame", spec := "msgSame", unfollowed := true, recurses := true, named := ["godwit/msg.kindParts"], apart := false, laid := [("godwit/msg.kindParts", laid_godwit_msg_kindParts)] }
def MsgSameSaid : Prop := msgSameRow.holds Tryd.pinned (OpenSpec.ofChange msgSameSpec)

/-- ITS FALSE NEIGHBOUR: 'it returns false'. Refute it at one input. -/
def msgSameWrong : ChangeSpec := { name := "msgSame", fn := fun _ => fun
  | [d1, d2, d3, d4] => { results := [.lit (.bool false)], args := [d1, d2, d3, d4] }
  | _ => none }
def MsgSameWrongFalsely : Prop := msgSameRow.holds Tryd.pinned (OpenSpec.ofChange msgSameWrong)

/-- 'godwitlaw05.MsgSeq': WHATEVER THE INPUT: true; the input reads as it did. -/
def msgSeqSpec : ChangeSpec := { name := "msgSeq", fn := fun _ => fun
  | [d1, d2] => { results := [.lit (.bool true)], args := [d1, d2] }
  | _ => none }
def msgSeqRow : OpenClaim := { program := "ytljkjkkpogkgbaadoor", sum := "c8411d74f0f4ac5b4f3e069053124a2614ddc83336d21bb3544b37834c86d7e4", func := "godwit/godwitlaw05.MsgSeq", spec := "msgSeq", unfollowed := true, recurses := true, named := ["godwit/msg.kindParts"], apart := false, laid := [("godwit/msg.kindParts", laid_godwit_msg_kindParts)] }
def MsgSeqSaid : Prop := msgSeqRow.holds Tryd.pinned (OpenSpec.ofChange msgSeqSpec)

/-- ITS FALSE NEIGHBOUR: 'it returns false'. Refute it at one input. -/
def msgSeqWrong : ChangeSpec := { name := "msgSeq", fn := fun _ => fun
  | [d1, d2] => { results := [.lit (.bool false)], args := [d1, d2] }
  | _ => none }
def MsgSeqWrongFalsely : Prop := msgSeqRow.holds Tryd.pinned (OpenSpec.ofChange msgSeqWrong)

/- THE SECOND FORM. 'bulk': how many values and letters a reading holds, each counted each time it is reached (what is shared counts as often as it is met; a slice's spare places count too). A statement '..UptoSaid' is the law's where the arguments, and the package variables that the reading takes, are together of bulk at most 1048576: NARROWER than '..Said'. Prove '..Said' where nothing that the law and all that it calls make is longer than what came in: it says more and counts as full. Else prove '..UptoSaid'. A law counts once. -/
mutual
def uptoBulk {H : Type} : DataW H → Nat
  | .lit (.string bytes) => bytes.length + 1
  | .lit _ => 1
  | .nil => 1
  | .ptr d => uptoBulk d + 1
  | .slice elems spare => uptoBulkAll elems + uptoBulkAll spare + 1
  | .agg parts => uptoBulkAll parts + 1
  | .iface _ d => uptoBulk d + 1
  | .map entries => uptoBulkEntries entries + 1
  | .held _ => 1
def uptoBulkAll {H : Type} : List (DataW H) → Nat
  | [] => 0
  | d :: r => uptoBulk d + uptoBulkAll r
def uptoBulkEntries {H : Type} : List (Lit × DataW H) → Nat
  | [] => 0
  | x :: r => uptoBulkEntry x + uptoBulkEntries r
def uptoBulkEntry {H : Type} : Lit × DataW H → Nat
  | (.string bytes, d) => bytes.length + uptoBulk d + 1
  | (_, d) => uptoBulk d + 1
 end
def uptoSmall : (H : Type) → List (DataW H) → Bool := fun _ ds => decide (uptoBulkAll ds ≤ 1048576)
def OpenSpec.upto (s : _root_.Go.ChangeSpec) : _root_.Go.OpenSpec := { _root_.Go.OpenSpec.ofChange s with cond := some uptoSmall }

/-- 'godwitlaw05.MsgReqs', WHERE WHAT IT READS IS OF BULK AT MOST 1048576: true; the input reads as it did. -/
def msgReqsUptoRow : OpenClaim := { program := "ytljkjkkpogkgbaadoor", sum := "c8411d74f0f4ac5b4f3e069053124a2614ddc83336d21bb3544b37834c86d7e4", func := "godwit/godwitlaw05.MsgReqs", spec := "msgReqs", unfollowed := true, recurses := true, named := ["godwit/msg.kindParts"], apart := false, laid := [("godwit/msg.kindParts", laid_godwit_msg_kindParts)], narrowed := true }
def MsgReqsUptoSaid : Prop := msgReqsUptoRow.holds Tryd.pinned (OpenSpec.upto msgReqsSpec)

/-- 'godwitlaw05.MsgReplies', WHERE WHAT IT READS IS OF BULK AT MOST 1048576: true; the input reads as it did. -/
def msgRepliesUptoRow : OpenClaim := { program := "ytljkjkkpogkgbaadoor", sum := "c8411d74f0f4ac5b4f3e069053124a2614ddc83336d21bb3544b37834c86d7e4", func := "godwit/godwitlaw05.MsgReplies", spec := "msgReplies", unfollowed := true, recurses := true, named := ["godwit/msg.kindParts"], apart := false, laid := [("godwit/msg.kindParts", laid_godwit_msg_kindParts)], narrowed := true }
def MsgRepliesUptoSaid : Prop := msgRepliesUptoRow.holds Tryd.pinned (OpenSpec.upto msgRepliesSpec)

/-- 'godwitlaw05.MsgBack', WHERE WHAT IT READS IS OF BULK AT MOST 1048576: true; the input reads as it did. -/
def msgBackUptoRow : OpenClaim := { program := "ytljkjkkpogkgbaadoor", sum := "c8411d74f0f4ac5b4f3e069053124a2614ddc83336d21bb3544b37834c86d7e4", func := "godwit/godwitlaw05.MsgBack", spec := "msgBack", unfollowed := true, recurses := true, named := ["godwit/msg.kindParts"], apart := false, laid := [("godwit/msg.kindParts", laid_godwit_msg_kindParts)], narrowed := true }
def MsgBackUptoSaid : Prop := msgBackUptoRow.holds Tryd.pinned (OpenSpec.upto msgBackSpec)

/-- 'godwitlaw05.MsgTold', WHERE WHAT IT READS IS OF BULK AT MOST 1048576: true; the input reads as it did. -/
def msgToldUptoRow : OpenClaim := { program := "ytljkjkkpogkgbaadoor", sum := "c8411d74f0f4ac5b4f3e069053124a2614ddc83336d21bb3544b37834c86d7e4", func := "godwit/godwitlaw05.MsgTold", spec := "msgTold", unfollowed := true, recurses := true, named := ["godwit/msg.kindParts"], apart := false, laid := [("godwit/msg.kindParts", laid_godwit_msg_kindParts)], narrowed := true }
def MsgToldUptoSaid : Prop := msgToldUptoRow.holds Tryd.pinned (OpenSpec.upto msgToldSpec)

/-- 'godwitlaw05.MsgSame', WHERE WHAT IT READS IS OF BULK AT MOST 1048576: true; the input reads as it did. -/
def msgSameUptoRow : OpenClaim := { program := "ytljkjkkpogkgbaadoor", sum := "c8411d74f0f4ac5b4f3e069053124a2614ddc83336d21bb3544b37834c86d7e4", func := "godwit/godwitlaw05.MsgSame", spec := "msgSame", unfollowed := true, recurses := true, named := ["godwit/msg.kindParts"], apart := false, laid := [("godwit/msg.kindParts", laid_godwit_msg_kindParts)], narrowed := true }
def MsgSameUptoSaid : Prop := msgSameUptoRow.holds Tryd.pinned (OpenSpec.upto msgSameSpec)

/-- 'godwitlaw05.MsgSeq', WHERE WHAT IT READS IS OF BULK AT MOST 1048576: true; the input reads as it did. -/
def msgSeqUptoRow : OpenClaim := { program := "ytljkjkkpogkgbaadoor", sum := "c8411d74f0f4ac5b4f3e069053124a2614ddc83336d21bb3544b37834c86d7e4", func := "godwit/godwitlaw05.MsgSeq", spec := "msgSeq", unfollowed := true, recurses := true, named := ["godwit/msg.kindParts"], apart := false, laid := [("godwit/msg.kindParts", laid_godwit_msg_kindParts)], narrowed := true }
def MsgSeqUptoSaid : Prop := msgSeqUptoRow.holds Tryd.pinned (OpenSpec.upto msgSeqSpec)

end Rows
end Go.Proofs.YtljkjkkpogkgbaaDoor
