/-
  NARROWER THAN 'FOR EVERY INPUT', by the rows' own cells (each row's printed sentence says how): ConnsOne: laid · ConnsFull: laid · ConnsStill: laid.
  DERIVED. THE GIVEN ROWS OF THIS SEAT. 3 by the template 'for every input the law returns true; each argument reads behind the call as it read before'; 0 by the template 'total and deterministic' (their statements: YtlnpkincpgbmcaaDoorTotals.lean).
  GIVEN WITH THE SEED: the statements are not yours to turn. If you find one false, say at which input.
  Laid BY PROGRAM, IN A SANDBOX (cutbox-rows.mjs): the forced cells as the released guide's own fill.sh prints them over the translation f7245a746f7844aa… (all of the seat's roots in one cut). By AI agents, Wed Nov 11 2026. No macro, syntax, notation, axiom, sorry.
-/
import Derived.Test.YtlnpkincpgbmcaaDoorChecked
import GoSem.Claim
import GoSem.ClaimJoined
import GoSem.ClaimMapViews
import Derived.JoinedTies
import Derived.KernelRfl
namespace Go.Proofs.YtlnpkincpgbmcaaDoor
/- THE CELL 'sum', in the pinned program and in every row, IS THE sha256 OF THE DUMP (.gsa) THAT YtlnpkincpgbmcaaDoorProg.lean LOADS. Nothing in Lean hashes anything: it is a label: what it is worth is what the hold of that sum in a sandbox is worth. -/
noncomputable def Tryd.pinned : Pinned := { name := "ytlnpkincpgbmcaadoor", sum := "f7245a746f7844aa4b3c7a1c6ac0c773e813b85e8eb147b8b73a171ce95147ce", checked := Tryd.checked }
namespace Rows
def none {H : Type} : Left H := { results := [], args := [] }

/- WHAT THE LISTED PACKAGE-LEVEL VARIABLES READ AS WHEN THE CALL BEGINS. Each datum BY PROGRAM (the guide's laid-datum.mjs) off the statement by which the dump's own 'gosem.cut.vars' lays the variable. In a bare row this is a premise. The card (YtlnpkincpgbmcaaDoorCards.lean) ties it to the program's text. -/
def laid_godwit_msg_kindParts {H : Type} : DataW H := .agg [.agg [.lit (.bool false), .lit (.bool false), .lit (.bool false), .lit (.bool false), .lit (.bool false), .lit (.bool false)], .agg [.lit (.bool true), .lit (.bool true), .lit (.bool false), .lit (.bool false), .lit (.bool false), .lit (.bool false)], .agg [.lit (.bool true), .lit (.bool true), .lit (.bool true), .lit (.bool false), .lit (.bool false), .lit (.bool false)], .agg [.lit (.bool false), .lit (.bool false), .lit (.bool false), .lit (.bool true), .lit (.bool false), .lit (.bool false)], .agg [.lit (.bool false), .lit (.bool false), .lit (.bool false), .lit (.bool true), .lit (.bool true), .lit (.bool false)], .agg [.lit (.bool false), .lit (.bool false), .lit (.bool false), .lit (.bool true), .lit (.bool false), .lit (.bool false)], .agg [.lit (.bool false), .lit (.bool false), .lit (.bool false), .lit (.bool false), .lit (.bool false), .lit (.bool true)], .agg [.lit (.bool false), .lit (.bool false), .lit (.bool false), .lit (.bool false), .lit (.bool false), .lit (.bool false)], .agg [.lit (.bool false), .lit (.bool false), .lit (.bool false), .lit (.bool false), .lit (.bool false), .lit (.bool false)], .agg [.lit (.bool true), .lit (.bool true), .lit (.bool false), .lit (.bool false), .lit (.bool false), .lit (.bool false)], .agg [.lit (.bool true), .lit (.bool false), .lit (.bool false), .lit (.bool false), .lit (.bool false), .lit (.bool false)], .agg [.lit (.bool false), .lit (.bool false), .lit (.bool false), .lit (.bool false), .lit (.bool false), .lit (.bool false)]]

/-- 'godwitlaw17.ConnsOne': WHATEVER THE INPUT: true; the input reads as it did. -/
def connsOneSpec : ChangeSpec := { name := "connsOne", fn := fun _ => fun
  | [d1, d2] => { results := [.lit (.bool true)], args := [d1, d2] }
  | _ => none }
def connsOneRow : OpenClaim := { program := "ytlnpkincpgbmcaadoor", sum := "f7245a746f7844aa4b3c7a1c6ac0c773e813b85e8eb147b8b73a171ce95147ce", func := "godwit/godwitlaw17.ConnsOne", spec := "connsOne", unfollowed := true, recurses := true, named := ["godwit/msg.kindParts"], apart := false, laid := [("godwit/msg.kindParts", laid_godwit_msg_kindParts)] }
def ConnsOneSaid : Prop := connsOneRow.holds Tryd.pinned (OpenSpec.ofChange connsOneSpec)

/-- ITS FALSE NEIGHBOUR: 'it returns false'. Refute it at one input. -/
def connsOneWrong : ChangeSpec := { name := "connsOne", fn := fun _ => fun
  | [d1, d2] => { results := [.lit (.bool false)], args := [d1, d2] }
  | _ => none }
def ConnsOneWrongFalsely : Prop := connsOneRow.holds Tryd.pinned (OpenSpec.ofChange connsOneWrong)

/-- 'godwitlaw17.ConnsFull': WHATEVER THE INPUT: true; the input reads as it did. -/
def connsFullSpec : ChangeSpec := { name := "connsFull", fn := fun _ => fun
  | [d] => { results := [.lit (.bool true)], args := [d] }
  | _ => none }
def connsFullRow : OpenClaim := { program := "ytlnpkincpgbmcaadoor", sum := "f7245a746f7844aa4b3c7a1c6ac0c773e813b85e8eb147b8b73a171ce95147ce", func := "godwit/godwitlaw17.ConnsFull", spec := "connsFull", unfollowed := true, recurses := true, named := ["godwit/msg.kindParts"], apart := false, laid := [("godwit/msg.kindParts", laid_godwit_msg_kindParts)] }
def ConnsFullSaid : Prop := connsFullRow.holds Tryd.pinned (OpenSpec.ofChange connsFullSpec)

/-- ITS FALSE NEIGHBOUR: 'it returns false'. Refute it at one input. -/
def connsFullWrong : ChangeSpec := { name := "connsFull", fn := fun _ => fun
  | [d] => { results := [.lit (.bool false)], args := [d] }
  | _ => none }
def ConnsFullWrongFalsely : Prop := connsFullRow.holds Tryd.pinned (OpenSpec.ofChange connsFullWrong)

/-- 'godwitlaw17.ConnsStill': WHATEVER THE INPUT: true; the input reads as it did. -/
def connsStillSpec : ChangeSpec := { name := "connsStill", fn := fun _ => fun
  | [d1, d2, d3, d4, d5] => { results := [.lit (.bool true)], args := [d1, d2, d3, d4, d5] }
  | _ => none }
def connsStillRow : OpenClaim := { program := "ytlnpkincpgbmcaadoor", sum := "f7245a746f7844aa4b3c7a1c6ac0c773e813b85e8eb147b8b73a171ce95147ce", func := "godwit/godwitlaw17.ConnsStill", spec := "connsStill", unfollowed := true, recurses := true, named := ["godwit/msg.kindParts"], apart := false, laid := [("godwit/msg.kindParts", laid_godwit_msg_kindParts)] }
def ConnsStillSaid : Prop := connsStillRow.holds Tryd.pinned (OpenSpec.ofChange connsStillSpec)

/-- ITS FALSE NEIGHBOUR: 'it returns false'. Refute it at one input. -/
def connsStillWrong : ChangeSpec := { name := "connsStill", fn := fun _ => fun
  | [d1, d2, d3, d4, d5] => { results := [.lit (.bool false)], args := [d1, d2, d3, d4, d5] }
  | _ => none }
def ConnsStillWrongFalsely : Prop := connsStillRow.holds Tryd.pinned (OpenSpec.ofChange connsStillWrong)

/- THE SECOND FORM. 'bulk': how many values and letters a reading holds, each counted each time it is reached (what is shared counts as often as it is met; a slice's spare places count too). A statement '..UptoSaid' is the law's where the arguments, and the package variables that the reading takes, are together of bulk at most 1048576: NARROWER than '..Said'. Prove '..Said' where nothing that the law and all that it calls make is longer than what came in: it says more and counts as full. Else prove '..UptoSaid'. A law counts once. -/
mutual
def uptoBulk {H : Type} : DataW H → Nat
  | .lit (.string bytes) => bytes.length + 1
  | .lit _ => 1
  | .nil => 1
  | .ptr d => uptoBulk d + 1
  | .slice elems spare => uptoBulkAll elems + uptoBulkAll spare + 1
  | .agg parts => uptoBulkAll parts + 1
  | .iface _ d => uptoBulk d + 1
  | .map entries => uptoBulkEntries entries + 1
  | .held _ => 1
def uptoBulkAll {H : Type} : List (DataW H) → Nat
  | [] => 0
  | d :: r => uptoBulk d + uptoBulkAll r
def uptoBulkEntries {H : Type} : List (Lit × DataW H) → Nat
  | [] => 0
  | x :: r => uptoBulkEntry x + uptoBulkEntries r
def uptoBulkEntry {H : Type} : Lit × DataW H → Nat
  | (.string bytes, d) => bytes.length + uptoBulk d + 1
  | (_, d) => uptoBulk d + 1
 end
def uptoSmall : (H : Type) → List (DataW H) → Bool := fun _ ds => decide (uptoBulkAll ds ≤ 1048576)
def OpenSpec.upto (s : _root_.Go.ChangeSpec) : _root_.Go.OpenSpec := { _root_.Go.OpenSpec.ofChange s with cond := some uptoSmall }

/-- 'godwitlaw17.ConnsOne', WHERE WHAT IT READS IS OF BULK AT MOST 1048576: true; the input reads as it did. -/
def connsOneUptoRow : OpenClaim := { program := "ytlnpkincpgbmcaadoor", sum := "f7245a746f7844aa4b3c7a1c6ac0c773e813b85e8eb147b8b73a171ce95147ce", func := "godwit/godwitlaw17.ConnsOne", spec := "connsOne", unfollowed := true, recurses := true, named := ["godwit/msg.kindParts"], apart := false, laid := [("godwit/msg.kindParts", laid_godwit_msg_kindParts)], narrowed := true }
def ConnsOneUptoSaid : Prop := connsOneUptoRow.holds Tryd.pinned (OpenSpec.upto connsOneSpec)

/-- 'godwitlaw17.ConnsFull', WHERE WHAT IT READS IS OF BULK AT MOST 1048576: true; the input reads as it did. -/
def connsFullUptoRow : OpenClaim := { program := "ytlnpkincpgbmcaadoor", sum := "f7245a746f7844aa4b3c7a1c6ac0c773e813b85e8eb147b8b73a171ce95147ce", func := "godwit/godwitlaw17.ConnsFull", spec := "connsFull", unfollowed := true, recurses := true, named := ["godwit/msg.kindParts"], apart := false, laid := [("godwit/msg.kindParts", laid_godwit_msg_kindParts)], narrowed := true }
def ConnsFullUptoSaid : Prop := connsFullUptoRow.holds Tryd.pinned (OpenSpec.upto connsFullSpec)

/-- 'godwitlaw17.ConnsStill', WHERE WHAT IT READS IS OF BULK AT MOST 1048576: true; the input reads as it did. -/
def connsStillUptoRow : OpenClaim := { program := "ytlnpkincpgbmcaadoor", sum := "f7245a746f7844aa4b3c7a1c6ac0c773e813b85e8eb147b8b73a171ce95147ce", func := "godwit/godwitlaw17.ConnsStill", spec := "connsStill", unfollowed := true, recurses := true, named := ["godwit/msg.kindParts"], apart := false, laid := [("godwit/msg.kindParts", laid_godwit_msg_kindParts)], narrowed := true }
def ConnsStillUptoSaid : Prop := connsStillUptoRow.holds Tryd.pinned (OpenSpec.upto connsStillSpec)

end Rows
end Go.Proofs.YtlnpkincpgbmcaaDoor
