/-
  NARROWER THAN 'FOR EVERY INPUT', by the rows' own cells (each row's printed sentence says how): PipeIs: laid · PipeOnce: laid · PipeOrder: laid · PipeTwice: laid · PipeSame: laid.
  DERIVED. THE GIVEN ROWS OF THIS SEAT. 5 by the template 'for every input the law returns true; each argument reads behind the call as it read before'; 0 by the template 'total and deterministic' (their statements: YtlpanhfojeaamaaDoorTotals.lean).
  GIVEN WITH THE SEED: the statements are not yours to turn. If you find one false, say at which input.
  Laid BY PROGRAM, IN A SANDBOX (cutbox-rows.mjs): the forced cells as the released guide's own fill.sh prints them over the translation 7ba22780f3dda85e… (all of the seat's roots in one cut). By AI agents, Wed Nov 11 2026. No macro, syntax, notation, axiom, sorry.
-/
import Derived.Test.YtlpanhfojeaamaaDoorChecked
import GoSem.Claim
import GoSem.ClaimJoined
import GoSem.ClaimMapViews
import Derived.JoinedTies
import Derived.KernelRfl
namespace Go.Proofs.YtlpanhfojeaamaaDoor
/- THE CELL 'sum', in the pinned program and in every row, IS THE sha256 OF THE DUMP (.gsa) THAT YtlpanhfojeaamaaDoorProg.lean LOADS. Nothing in Lean hashes anything: it is a label: what it is worth is what the hold of that sum in a sandbox is worth. -/
noncomputable def Tryd.pinned : Pinned := { name := "ytlpanhfojeaamaadoor", sum := "7ba22780f3dda85eb06d8b7a8b6338e4e150a900ef7e315578883acaef752d8b", checked := Tryd.checked }
namespace Rows
def none {H : Type} : Left H := { results := [], args := [] }

/- WHAT THE LISTED PACKAGE-LEVEL VARIABLES READ AS WHEN THE CALL BEGINS. Each datum BY PROGRAM (the guide's laid-datum.mjs) off the statement by which the dump's own 'gosem.cut.vars' lays the variable. In a bare row this is a premise. The card (YtlpanhfojeaamaaDoorCards.lean) ties it to the program's text. -/
def laid_godwit_msg_kindParts {H : Type} : DataW H := .agg [.agg [.lit (.bool false), .lit (.bool false), .lit (.bool false), .lit (.bool false), .lit (.bool false), .lit (.bool false)], .agg [.lit (.bool true), .lit (.bool true), .lit (.bool false), .lit (.bool false), .lit (.bool false), .lit (.bool false)], .agg [.lit (.bool true), .lit (.bool true), .lit (.bool true), .lit (.bool false), .lit (.bool false), .lit (.bool false)], .agg [.lit (.bool false), .lit (.bool false), .lit (.bool false), .lit (.bool true), .lit (.bool false), .lit (.bool false)], .agg [.lit (.bool false), .lit (.bool false), .lit (.bool false), .lit (.bool true), .lit (.bool true), .lit (.bool false)], .agg [.lit (.bool false), .lit (.bool false), .lit (.bool false), .lit (.bool true), .lit (.bool false), .lit (.bool false)], .agg [.lit (.bool false), .lit (.bool false), .lit (.bool false), .lit (.bool false), .lit (.bool false), .lit (.bool true)], .agg [.lit (.bool false), .lit (.bool false), .lit (.bool false), .lit (.bool false), .lit (.bool false), .lit (.bool false)], .agg [.lit (.bool false), .lit (.bool false), .lit (.bool false), .lit (.bool false), .lit (.bool false), .lit (.bool false)], .agg [.lit (.bool true), .lit (.bool true), .lit (.bool false), .lit (.bool false), .lit (.bool false), .lit (.bool false)], .agg [.lit (.bool true), .lit (.bool false), .lit (.bool false), .lit (.bool false), .lit (.bool false), .lit (.bool false)], .agg [.lit (.bool false), .lit (.bool false), .lit (.bool false), .lit (.bool false), .lit (.bool false), .lit (.bool false)]]

/-- 'godwitlaw16.PipeIs': WHATEVER THE INPUT: true; the input reads as it did. -/
def pipeIsSpec : ChangeSpec := { name := "pipeIs", fn := fun _ => fun
  | [d1, d2, d3] => { results := [.lit (.bool true)], args := [d1, d2, d3] }
  | _ => none }
def pipeIsRow : OpenClaim := { program := "ytlpanhfojeaamaadoor", sum := "7ba22780f3dda85eb06d8b7a8b6338e4e150a900ef7e315578883acaef752d8b", func := "godwit/godwitlaw16.PipeIs", spec := "pipeIs", named := ["godwit/msg.kindParts"], apart := false, laid := [("godwit/msg.kindParts", laid_godwit_msg_kindParts)] }
def PipeIsSaid : Prop := pipeIsRow.holds Tryd.pinned (OpenSpec.ofChange pipeIsSpec)

/-- ITS FALSE NEIGHBOUR: 'it returns false'. Refute it at one input. -/
def pipeIsWrong : ChangeSpec := { name := "pipeIs", fn := fun _ => fun
  | [d1, d2, d3] => { results := [.lit (.bool false)], args := [d1, d2, d3] }
  | _ => none }
def PipeIsWrongFalsely : Prop := pipeIsRow.holds Tryd.pinned (OpenSpec.ofChange pipeIsWrong)

/-- 'godwitlaw16.PipeOnce': WHATEVER THE INPUT: true; the input reads as it did. -/
def pipeOnceSpec : ChangeSpec := { name := "pipeOnce", fn := fun _ => fun
  | [d] => { results := [.lit (.bool true)], args := [d] }
  | _ => none }
def pipeOnceRow : OpenClaim := { program := "ytlpanhfojeaamaadoor", sum := "7ba22780f3dda85eb06d8b7a8b6338e4e150a900ef7e315578883acaef752d8b", func := "godwit/godwitlaw16.PipeOnce", spec := "pipeOnce", named := ["godwit/msg.kindParts"], apart := false, laid := [("godwit/msg.kindParts", laid_godwit_msg_kindParts)] }
def PipeOnceSaid : Prop := pipeOnceRow.holds Tryd.pinned (OpenSpec.ofChange pipeOnceSpec)

/-- ITS FALSE NEIGHBOUR: 'it returns false'. Refute it at one input. -/
def pipeOnceWrong : ChangeSpec := { name := "pipeOnce", fn := fun _ => fun
  | [d] => { results := [.lit (.bool false)], args := [d] }
  | _ => none }
def PipeOnceWrongFalsely : Prop := pipeOnceRow.holds Tryd.pinned (OpenSpec.ofChange pipeOnceWrong)

/-- 'godwitlaw16.PipeOrder': WHATEVER THE INPUT: true; the input reads as it did. -/
def pipeOrderSpec : ChangeSpec := { name := "pipeOrder", fn := fun _ => fun
  | [d1, d2] => { results := [.lit (.bool true)], args := [d1, d2] }
  | _ => none }
def pipeOrderRow : OpenClaim := { program := "ytlpanhfojeaamaadoor", sum := "7ba22780f3dda85eb06d8b7a8b6338e4e150a900ef7e315578883acaef752d8b", func := "godwit/godwitlaw16.PipeOrder", spec := "pipeOrder", named := ["godwit/msg.kindParts"], apart := false, laid := [("godwit/msg.kindParts", laid_godwit_msg_kindParts)] }
def PipeOrderSaid : Prop := pipeOrderRow.holds Tryd.pinned (OpenSpec.ofChange pipeOrderSpec)

/-- ITS FALSE NEIGHBOUR: 'it returns false'. Refute it at one input. -/
def pipeOrderWrong : ChangeSpec := { name := "pipeOrder", fn := fun _ => fun
  | [d1, d2] => { results := [.lit (.bool false)], args := [d1, d2] }
  | _ => none }
def PipeOrderWrongFalsely : Prop := pipeOrderRow.holds Tryd.pinned (OpenSpec.ofChange pipeOrderWrong)

/-- 'godwitlaw16.PipeTwice': WHATEVER THE INPUT: true; the input reads as it did. -/
def pipeTwiceSpec : ChangeSpec := { name := "pipeTwice", fn := fun _ => fun
  | [d1, d2] => { results := [.lit (.bool true)], args := [d1, d2] }
  | _ => none }
def pipeTwiceRow : OpenClaim := { program := "ytlpanhfojeaamaadoor", sum := "7ba22780f3dda85eb06d8b7a8b6338e4e150a900ef7e315578883acaef752d8b", func := "godwit/godwitlaw16.PipeTwice", spec := "pipeTwice", named := ["godwit/msg.kindParts"], apart := false, laid := [("godwit/msg.kindParts", laid_godwit_msg_kindParts)] }
def PipeTwiceSaid : Prop := pipeTwiceRow.holds Tryd.pinned (OpenSpec.ofChange pipeTwiceSpec)

/-- ITS FALSE NEIGHBOUR: 'it returns false'. Refute it at one input. -/
def pipeTwiceWrong : ChangeSpec := { name := "pipeTwice", fn := fun _ => fun
  | [d1, d2] => { results := [.lit (.bool false)], args := [d1, d2] }
  | _ => none }
def PipeTwiceWrongFalsely : Prop := pipeTwiceRow.holds Tryd.pinned (OpenSpec.ofChange pipeTwiceWrong)

/-- 'godwitlaw16.PipeSame': WHATEVER THE INPUT: true; the input reads as it did. -/
def pipeSameSpec : ChangeSpec := { name := "pipeSame", fn := fun _ => fun
  | [d1, d2, d3] => { results := [.lit (.bool true)], args := [d1, d2, d3] }
  | _ => none }
def pipeSameRow : OpenClaim := { program := "ytlpanhfojeaamaadoor", sum := "7ba22780f3dda85eb06d8b7a8b6338e4e150a900ef7e315578883acaef752d8b", func := "godwit/godwitlaw16.PipeSame", spec := "pipeSame", named := ["godwit/msg.kindParts"], apart := false, laid := [("godwit/msg.kindParts", laid_godwit_msg_kindParts)] }
def PipeSameSaid : Prop := pipeSameRow.holds Tryd.pinned (OpenSpec.ofChange pipeSameSpec)

/-- ITS FALSE NEIGHBOUR: 'it returns false'. Refute it at one input. -/
def pipeSameWrong : ChangeSpec := { name := "pipeSame", fn := fun _ => fun
  | [d1, d2, d3] => { results := [.lit (.bool false)], args := [d1, d2, d3] }
  | _ => none }
def PipeSameWrongFalsely : Prop := pipeSameRow.holds Tryd.pinned (OpenSpec.ofChange pipeSameWrong)

/- THE SECOND FORM. 'bulk': how many values and letters a reading holds, each counted each time it is reached (what is shared counts as often as it is met; a slice's spare places count too). A statement '..UptoSaid' is the law's where the arguments, and the package variables that the reading takes, are together of bulk at most 1048576: NARROWER than '..Said'. Prove '..Said' where nothing that the law and all that it calls make is longer than what came in: it says more and counts as full. Else prove '..UptoSaid'. A law counts once. -/
mutual
def uptoBulk {H : Type} : DataW H → Nat
  | .lit (.string bytes) => bytes.length + 1
  | .lit _ => 1
  | .nil => 1
  | .ptr d => uptoBulk d + 1
  | .slice elems spare => uptoBulkAll elems + uptoBulkAll spare + 1
  | .agg parts => uptoBulkAll parts + 1
  | .iface _ d => uptoBulk d + 1
  | .map entries => uptoBulkEntries entries + 1
  | .held _ => 1
def uptoBulkAll {H : Type} : List (DataW H) → Nat
  | [] => 0
  | d :: r => uptoBulk d + uptoBulkAll r
def uptoBulkEntries {H : Type} : List (Lit × DataW H) → Nat
  | [] => 0
  | x :: r => uptoBulkEntry x + uptoBulkEntries r
def uptoBulkEntry {H : Type} : Lit × DataW H → Nat
  | (.string bytes, d) => bytes.length + uptoBulk d + 1
  | (_, d) => uptoBulk d + 1
 end
def uptoSmall : (H : Type) → List (DataW H) → Bool := fun _ ds => decide (uptoBulkAll ds ≤ 1048576)
def OpenSpec.upto (s : _root_.Go.ChangeSpec) : _root_.Go.OpenSpec := { _root_.Go.OpenSpec.ofChange s with cond := some uptoSmall }

/-- 'godwitlaw16.PipeIs', WHERE WHAT IT READS IS OF BULK AT MOST 1048576: true; the input reads as it did. -/
def pipeIsUptoRow : OpenClaim := { program := "ytlpanhfojeaamaadoor", sum := "7ba22780f3dda85eb06d8b7a8b6338e4e150a900ef7e315578883acaef752d8b", func := "godwit/godwitlaw16.PipeIs", spec := "pipeIs", named := ["godwit/msg.kindParts"], apart := false, laid := [("godwit/msg.kindParts", laid_godwit_msg_kindParts)], narrowed := true }
def PipeIsUptoSaid : Prop := pipeIsUptoRow.holds Tryd.pinned (OpenSpec.upto pipeIsSpec)

/-- 'godwitlaw16.PipeOnce', WHERE WHAT IT READS IS OF BULK AT MOST 1048576: true; the input reads as it did. -/
def pipeOnceUptoRow : OpenClaim := { program := "ytlpanhfojeaamaadoor", sum := "7ba22780f3dda85eb06d8b7a8b6338e4e150a900ef7e315578883acaef752d8b", func := "godwit/godwitlaw16.PipeOnce", spec := "pipeOnce", named := ["godwit/msg.kindParts"], apart := false, laid := [("godwit/msg.kindParts", laid_godwit_msg_kindParts)], narrowed := true }
def PipeOnceUptoSaid : Prop := pipeOnceUptoRow.holds Tryd.pinned (OpenSpec.upto pipeOnceSpec)

/-- 'godwitlaw16.PipeOrder', WHERE WHAT IT READS IS OF BULK AT MOST 1048576: true; the input reads as it did. -/
def pipeOrderUptoRow : OpenClaim := { program := "ytlpanhfojeaamaadoor", sum := "7ba22780f3dda85eb06d8b7a8b6338e4e150a900ef7e315578883acaef752d8b", func := "godwit/godwitlaw16.PipeOrder", spec := "pipeOrder", named := ["godwit/msg.kindParts"], apart := false, laid := [("godwit/msg.kindParts", laid_godwit_msg_kindParts)], narrowed := true }
def PipeOrderUptoSaid : Prop := pipeOrderUptoRow.holds Tryd.pinned (OpenSpec.upto pipeOrderSpec)

/-- 'godwitlaw16.PipeTwice', WHERE WHAT IT READS IS OF BULK AT MOST 1048576: true; the input reads as it did. -/
def pipeTwiceUptoRow : OpenClaim := { program := "ytlpanhfojeaamaadoor", sum := "7ba22780f3dda85eb06d8b7a8b6338e4e150a900ef7e315578883acaef752d8b", func := "godwit/godwitlaw16.PipeTwice", spec := "pipeTwice", named := ["godwit/msg.kindParts"], apart := false, laid := [("godwit/msg.kindParts", laid_godwit_msg_kindParts)], narrowed := true }
def PipeTwiceUptoSaid : Prop := pipeTwiceUptoRow.holds Tryd.pinned (OpenSpec.upto pipeTwiceSpec)

/-- 'godwitlaw16.PipeSame', WHERE WHAT IT READS IS OF BULK AT MOST 1048576: true; the input reads as it did. -/
def pipeSameUptoRow : OpenClaim := { program := "ytlpanhfojeaamaadoor", sum := "7ba22780f3dda85eb06d8b7a8b6338e4e150a900ef7e315578883acaef752d8b", func := "godwit/godwitlaw16.PipeSame", spec := "pipeSame", named := ["godwit/msg.kindParts"], apart := false, laid := [("godwit/msg.kindParts", laid_godwit_msg_kindParts)], narrowed := true }
def PipeSameUptoSaid : Prop := pipeSameUptoRow.holds Tryd.pinned (OpenSpec.upto pipeSameSpec)

end Rows
end Go.Proofs.YtlpanhfojeaamaaDoor
