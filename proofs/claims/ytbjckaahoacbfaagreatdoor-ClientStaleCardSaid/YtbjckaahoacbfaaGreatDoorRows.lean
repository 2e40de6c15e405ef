/-
  NARROWER THAN 'FOR EVERY INPUT', by the rows' own cells (each row's printed sentence says how): ClientOnce: laid · ClientTries: laid · ClientEnds: laid · ClientStale: laid.
  DERIVED. THE GIVEN ROWS OF THIS SEAT. 4 by the template 'for every input the law returns true; each argument reads behind the call as it read before'; 0 by the template 'total and deterministic' (their statements: YtbjckaahoacbfaaGreatDoorTotals.lean).
  GIVEN WITH THE SEED: the statements are not yours to turn. If you find one false, say at which input.
  Laid BY PROGRAM, IN A SANDBOX (cutbox-rows.mjs): the forced cells as the released guide's own fill.sh prints them over the translation 39d4ce1420c6f386… (all of the seat's roots in one cut). By AI agents, Wed Nov 11 2026. No macro, syntax, notation, axiom, sorry.
-/
import Derived.Test.YtbjckaahoacbfaaGreatDoorChecked
import GoSem.Claim
import GoSem.ClaimJoined
import GoSem.ClaimMapViews
import Derived.JoinedTies
import Derived.KernelRfl
namespace Go.Proofs.YtbjckaahoacbfaaGreatDoor
/- THE CELL 'sum', in the pinned program and in every row, IS THE sha256 OF THE DUMP (.gsa) THAT YtbjckaahoacbfaaGreatDoorProg.lean LOADS. Nothing in Lean hashes anything: it is a label: what it is worth is what the hold of that sum in a sandbox is worth. -/
noncomputable def Tryz.pinned : Pinned := { name := "ytbjckaahoacbfaagreatdoor", sum := "39d4ce1420c6f386a457a17c9687b80c07c35290541982d01e58d1a5e02a9887", checked := Tryz.checked }
namespace Rows
def none {H : Type} : Left H := { results := [], args := [] }

/- WHAT THE LISTED PACKAGE-LEVEL VARIABLES READ AS WHEN THE CALL BEGINS. Each datum BY PROGRAM (the guide's laid-datum.mjs) off the statement by which the dump's own 'gosem.cut.vars' lays the variable. In a bare row this is a premise. The card (YtbjckaahoacbfaaGreatDoorCards.lean) ties it to the program's text. -/
def laid_godwit_msg_kindParts {H : Type} : DataW H := .agg [.agg [.lit (.bool false), .lit (.bool false), .lit (.bool false), .lit (.bool false), .lit (.bool false), .lit (.bool false)], .agg [.lit (.bool true), .lit (.bool true), .lit (.bool false), .lit (.bool false), .lit (.bool false), .lit (.bool false)], .agg [.lit (.bool true), .lit (.bool true), .lit (.bool true), .lit (.bool false), .lit (.bool false), .lit (.bool false)], .agg [.lit (.bool false), .lit (.bool false), .lit (.bool false), .lit (.bool true), .lit (.bool false), .lit (.bool false)], .agg [.lit (.bool false), .lit (.bool false), .lit (.bool false), .lit (.bool true), .lit (.bool true), .lit (.bool false)], .agg [.lit (.bool false), .lit (.bool false), .lit (.bool false), .lit (.bool true), .lit (.bool false), .lit (.bool false)], .agg [.lit (.bool false), .lit (.bool false), .lit (.bool false), .lit (.bool false), .lit (.bool false), .lit (.bool true)], .agg [.lit (.bool false), .lit (.bool false), .lit (.bool false), .lit (.bool false), .lit (.bool false), .lit (.bool false)], .agg [.lit (.bool false), .lit (.bool false), .lit (.bool false), .lit (.bool false), .lit (.bool false), .lit (.bool false)], .agg [.lit (.bool true), .lit (.bool true), .lit (.bool false), .lit (.bool false), .lit (.bool false), .lit (.bool false)], .agg [.lit (.bool true), .lit (.bool false), .lit (.bool false), .lit (.bool false), .lit (.bool false), .lit (.bool false)], .agg [.lit (.bool false), .lit (.bool false), .lit (.bool false), .lit (.bool false), .lit (.bool false), .lit (.bool false)]]

/-- 'godwitlaw21.ClientOnce': WHATEVER THE INPUT: true; the input reads as it did. -/
def clientOnceSpec : ChangeSpec := { name := "clientOnce", fn := fun _ => fun
  | [d] => { results := [.lit (.bool true)], args := [d] }
  | _ => none }
def clientOnceRow : OpenClaim := { program := "ytbjckaahoacbfaagreatdoor", sum := "39d4ce1420c6f386a457a17c9687b80c07c35290541982d01e58d1a5e02a9887", func := "godwit/godwitlaw21.ClientOnce", spec := "clientOnce", inPlace := ["internal/bytealg.Compare"], unfollowed := true, recurses := true, named := ["godwit/msg.kindParts"], apart := false, laid := [("godwit/msg.kindParts", laid_godwit_msg_kindParts)] }
def ClientOnceSaid : Prop := clientOnceRow.holds Tryz.pinned (OpenSpec.ofChange clientOnceSpec)

/-- ITS FALSE NEIGHBOUR: 'it returns false'. Refute it at one input. -/
def clientOnceWrong : ChangeSpec := { name := "clientOnce", fn := fun _ => fun
  | [d] => { results := [.lit (.bool false)], args := [d] }
  | _ => none }
def ClientOnceWrongFalsely : Prop := clientOnceRow.holds Tryz.pinned (OpenSpec.ofChange clientOnceWrong)

/-- 'godwitlaw21.ClientTries': WHATEVER THE INPUT: true; the input reads as it did. -/
def clientTriesSpec : ChangeSpec := { name := "clientTries", fn := fun _ => fun
  | [d] => { results := [.lit (.bool true)], args := [d] }
  | _ => none }
def clientTriesRow : OpenClaim := { program := "ytbjckaahoacbfaagreatdoor", sum := "39d4ce1420c6f386a457a17c9687b80c07c35290541982d01e58d1a5e02a9887", func := "godwit/godwitlaw21.ClientTries", spec := "clientTries", inPlace := ["internal/bytealg.Compare"], unfollowed := true, recurses := true, named := ["godwit/msg.kindParts"], apart := false, laid := [("godwit/msg.kindParts", laid_godwit_msg_kindParts)] }
def ClientTriesSaid : Prop := clientTriesRow.holds Tryz.pinned (OpenSpec.ofChange clientTriesSpec)

/-- ITS FALSE NEIGHBOUR: 'it returns false'. Refute it at one input. -/
def clientTriesWrong : ChangeSpec := { name := "clientTries", fn := fun _ => fun
  | [d] => { results := [.lit (.bool false)], args := [d] }
  | _ => none }
def ClientTriesWrongFalsely : Prop := clientTriesRow.holds Tryz.pinned (OpenSpec.ofChange clientTriesWrong)

/-- 'godwitlaw21.ClientEnds': WHATEVER THE INPUT: true; the input reads as it did. -/
def clientEndsSpec : ChangeSpec := { name := "clientEnds", fn := fun _ => fun
  | [d1, d2] => { results := [.lit (.bool true)], args := [d1, d2] }
  | _ => none }
def clientEndsRow : OpenClaim := { program := "ytbjckaahoacbfaagreatdoor", sum := "39d4ce1420c6f386a457a17c9687b80c07c35290541982d01e58d1a5e02a9887", func := "godwit/godwitlaw21.ClientEnds", spec := "clientEnds", inPlace := ["internal/bytealg.Compare"], unfollowed := true, recurses := true, named := ["godwit/msg.kindParts"], apart := false, laid := [("godwit/msg.kindParts", laid_godwit_msg_kindParts)] }
def ClientEndsSaid : Prop := clientEndsRow.holds Tryz.pinned (OpenSpec.ofChange clientEndsSpec)

/-- ITS FALSE NEIGHBOUR: 'it returns false'. Refute it at one input. -/
def clientEndsWrong : ChangeSpec := { name := "clientEnds", fn := fun _ => fun
  | [d1, d2] => { results := [.lit (.bool false)], args := [d1, d2] }
  | _ => none }
def ClientEndsWrongFalsely : Prop := clientEndsRow.holds Tryz.pinned (OpenSpec.ofChange clientEndsWrong)

/-- 'godwitlaw21.ClientStale': WHATEVER THE INPUT: true; the input reads as it did. -/
def clientStaleSpec : ChangeSpec := { name := "clientStale", fn := fun _ => fun
  | [d1, d2, d3, d4] => { results := [.lit (.bool true)], args := [d1, d2, d3, d4] }
  | _ => none }
def clientStaleRow : OpenClaim := { program := "ytbjckaahoacbfaagreatdoor", sum := "39d4ce1420c6f386a457a17c9687b80c07c35290541982d01e58d1a5e02a9887", func := "godwit/godwitlaw21.ClientStale", spec := "clientStale", inPlace := ["internal/bytealg.Compare"], unfollowed := true, recurses := true, named := ["godwit/msg.kindParts"], apart := false, laid := [("godwit/msg.kindParts", laid_godwit_msg_kindParts)] }
def ClientStaleSaid : Prop := clientStaleRow.holds Tryz.pinned (OpenSpec.ofChange clientStaleSpec)

/-- ITS FALSE NEIGHBOUR: 'it returns false'. Refute it at one input. -/
def clientStaleWrong : ChangeSpec := { name := "clientStale", fn := fun _ => fun
  | [d1, d2, d3, d4] => { results := [.lit (.bool false)], args := [d1, d2, d3, d4] }
  | _ => none }
def ClientStaleWrongFalsely : Prop := clientStaleRow.holds Tryz.pinned (OpenSpec.ofChange clientStaleWrong)

/- THE SECOND FORM. 'bulk': how many values and letters a reading holds, each counted each time it is reached (what is shared counts as often as it is met; a slice's spare places count too). A statement '..UptoSaid' is the law's where the arguments, and the package variables that the reading takes, are together of bulk at most 1048576: NARROWER than '..Said'. Prove '..Said' where nothing that the law and all that it calls make is longer than what came in: it says more and counts as full. Else prove '..UptoSaid'. A law counts once. -/
mutual
def uptoBulk {H : Type} : DataW H → Nat
  | .lit (.string bytes) => bytes.length + 1
  | .lit _ => 1
  | .nil => 1
  | .ptr d => uptoBulk d + 1
  | .slice elems spare => uptoBulkAll elems + uptoBulkAll spare + 1
  | .agg parts => uptoBulkAll parts + 1
  | .iface _ d => uptoBulk d + 1
  | .map entries => uptoBulkEntries entries + 1
  | .held _ => 1
def uptoBulkAll {H : Type} : List (DataW H) → Nat
  | [] => 0
  | d :: r => uptoBulk d + uptoBulkAll r
def uptoBulkEntries {H : Type} : List (Lit × DataW H) → Nat
  | [] => 0
  | x :: r => uptoBulkEntry x + uptoBulkEntries r
def uptoBulkEntry {H : Type} : Lit × DataW H → Nat
  | (.string bytes, d) => bytes.length + uptoBulk d + 1
  | (_, d) => uptoBulk d + 1
 end
def uptoSmall : (H : Type) → List (DataW H) → Bool := fun _ ds => decide (uptoBulkAll ds ≤ 1048576)
def OpenSpec.upto (s : _root_.Go.ChangeSpec) : _root_.Go.OpenSpec := { _root_.Go.OpenSpec.ofChange s with cond := some uptoSmall }

/-- 'godwitlaw21.ClientOnce', WHERE WHAT IT READS IS OF BULK AT MOST 1048576: true; the input reads as it did. -/
def clientOnceUptoRow : OpenClaim := { program := "ytbjckaahoacbfaagreatdoor", sum := "39d4ce1420c6f386a457a17c9687b80c07c35290541982d01e58d1a5e02a9887", func := "godwit/godwitlaw21.ClientOnce", spec := "clientOnce", inPlace := ["internal/bytealg.Compare"], unfollowed := true, recurses := true, named := ["godwit/msg.kindParts"], apart := false, laid := [("godwit/msg.kindParts", laid_godwit_msg_kindParts)], narrowed := true }
def ClientOnceUptoSaid : Prop := clientOnceUptoRow.holds Tryz.pinned (OpenSpec.upto clientOnceSpec)

/-- 'godwitlaw21.ClientTries', WHERE WHAT IT READS IS OF BULK AT MOST 1048576: true; the input reads as it did. -/
def clientTriesUptoRow : OpenClaim := { program := "ytbjckaahoacbfaagreatdoor", sum := "39d4ce1420c6f386a457a17c9687b80c07c35290541982d01e58d1a5e02a9887", func := "godwit/godwitlaw21.ClientTries", spec := "clientTries", inPlace := ["internal/bytealg.Compare"], unfollowed := true, recurses := true, named := ["godwit/msg.kindParts"], apart := false, laid := [("godwit/msg.kindParts", laid_godwit_msg_kindParts)], narrowed := true }
def ClientTriesUptoSaid : Prop := clientTriesUptoRow.holds Tryz.pinned (OpenSpec.upto clientTriesSpec)

/-- 'godwitlaw21.ClientEnds', WHERE WHAT IT READS IS OF BULK AT MOST 1048576: true; the input reads as it did. -/
def clientEndsUptoRow : OpenClaim := { program := "ytbjckaahoacbfaagreatdoor", sum := "39d4ce1420c6f386a457a17c9687b80c07c35290541982d01e58d1a5e02a9887", func := "godwit/godwitlaw21.ClientEnds", spec := "clientEnds", inPlace := ["internal/bytealg.Compare"], unfollowed := true, recurses := true, named := ["godwit/msg.kindParts"], apart := false, laid := [("godwit/msg.kindParts", laid_godwit_msg_kindParts)], narrowed := true }
def ClientEndsUptoSaid : Prop := clientEndsUptoRow.holds Tryz.pinned (OpenSpec.upto clientEndsSpec)

/-- 'godwitlaw21.ClientStale', WHERE WHAT IT READS IS OF BULK AT MOST 1048576: true; the input reads as it did. -/
def clientStaleUptoRow : OpenClaim := { program := "ytbjckaahoacbfaagreatdoor", sum := "39d4ce1420c6f386a457a17c9687b80c07c35290541982d01e58d1a5e02a9887", func := "godwit/godwitlaw21.ClientStale", spec := "clientStale", inPlace := ["internal/bytealg.Compare"], unfollowed := true, recurses := true, named := ["godwit/msg.kindParts"], apart := false, laid := [("godwit/msg.kindParts", laid_godwit_msg_kindParts)], narrowed := true }
def ClientStaleUptoSaid : Prop := clientStaleUptoRow.holds Tryz.pinned (OpenSpec.upto clientStaleSpec)

end Rows
end Go.Proofs.YtbjckaahoacbfaaGreatDoor
