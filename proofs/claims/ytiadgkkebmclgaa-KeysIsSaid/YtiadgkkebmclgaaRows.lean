/-
  No cell of these rows narrows 'for every input' (looked for: loops, veiled, ifaces, maps, wideKeys, modest, calm, conditions, laid).
  DERIVED. THE GIVEN ROWS OF THIS SEAT. 7 by the template 'for every input the law returns true; each argument reads behind the call as it read before'; 0 by the template 'total and deterministic' (their statements: YtiadgkkebmclgaaTotals.lean).
  GIVEN WITH THE SEED: the statements are not yours to turn. If you find one false, say at which input.
  Laid BY PROGRAM, IN A SANDBOX (cutbox-rows.mjs): the forced cells as the released guide's own fill.sh prints them over the translation a84b413d67ac1ffc… (all of the seat's roots in one cut). By AI agents, Wed Nov 11 2026. No macro, syntax, notation, axiom, sorry.
-/
import Derived.Test.YtiadgkkebmclgaaChecked
import GoSem.Claim
import GoSem.ClaimJoined
import GoSem.ClaimMapViews
import Derived.JoinedTies
import Derived.KernelRfl
namespace Go.Proofs.Ytiadgkkebmclgaa
/- THE CELL 'sum', in the pinned program and in every row, IS THE sha256 OF THE DUMP (.gsa) THAT YtiadgkkebmclgaaProg.lean LOADS. Nothing in Lean hashes anything: it is a label: what it is worth is what the hold of that sum in a sandbox is worth. -/
noncomputable def Try.pinned : Pinned := { name := "ytiadgkkebmclgaa", sum := "a84b413d67ac1ffcbeadb5462f647194b44493fa39e496248e220e5d149c26d6", checked := Try.checked }
namespace Rows
def none {H : Type} : Left H := { results := [], args := [] }

/-- 'godwitlaw06.KeysIs': WHATEVER THE INPUT: true; the input reads as it did. -/
def keysIsSpec : ChangeSpec := { name := "keysIs", fn := fun _ => fun
  | [d1, d2, d3, d4, d5] => { results := [.lit (.bool true)], args := [d1, d2, d3, d4, d5] }
  | _ => none }
def keysIsRow : OpenClaim := { program := "ytiadgkkebmclgaa", sum := "a84b413d67ac1ffcbeadb5462f647194b44493fa39e496248e220e5d149c26d6", func := "godwit/godwitlaw06.KeysIs", spec := "keysIs", inPlace := ["internal/bytealg.Compare"], unfollowed := true, recurses := true, apart := false }
def KeysIsSaid : Prop := keysIsRow.holds Try.pinned (OpenSpec.ofChange keysIsSpec)

/-- ITS FALSE NEIGHBOUR: 'it returns false'. Refute it at one input. -/
def keysIsWrong : ChangeSpec := { name := "keysIs", fn := fun _ => fun
  | [d1, d2, d3, d4, d5] => { results := [.lit (.bool false)], args := [d1, d2, d3, d4, d5] }
  | _ => none }
def KeysIsWrongFalsely : Prop := keysIsRow.holds Try.pinned (OpenSpec.ofChange keysIsWrong)

/-- 'godwitlaw06.KeysOrder': WHATEVER THE INPUT: true; the input reads as it did. -/
def keysOrderSpec : ChangeSpec := { name := "keysOrder", fn := fun _ => fun
  | [d1, d2, d3] => { results := [.lit (.bool true)], args := [d1, d2, d3] }
  | _ => none }
def keysOrderRow : OpenClaim := { program := "ytiadgkkebmclgaa", sum := "a84b413d67ac1ffcbeadb5462f647194b44493fa39e496248e220e5d149c26d6", func := "godwit/godwitlaw06.KeysOrder", spec := "keysOrder", inPlace := ["internal/bytealg.Compare"], apart := false }
def KeysOrderSaid : Prop := keysOrderRow.holds Try.pinned (OpenSpec.ofChange keysOrderSpec)

/-- ITS FALSE NEIGHBOUR: 'it returns false'. Refute it at one input. -/
def keysOrderWrong : ChangeSpec := { name := "keysOrder", fn := fun _ => fun
  | [d1, d2, d3] => { results := [.lit (.bool false)], args := [d1, d2, d3] }
  | _ => none }
def KeysOrderWrongFalsely : Prop := keysOrderRow.holds Try.pinned (OpenSpec.ofChange keysOrderWrong)

/-- 'godwitlaw06.KeysMeet': WHATEVER THE INPUT: true; the input reads as it did. -/
def keysMeetSpec : ChangeSpec := { name := "keysMeet", fn := fun _ => fun
  | [d1, d2, d3] => { results := [.lit (.bool true)], args := [d1, d2, d3] }
  | _ => none }
def keysMeetRow : OpenClaim := { program := "ytiadgkkebmclgaa", sum := "a84b413d67ac1ffcbeadb5462f647194b44493fa39e496248e220e5d149c26d6", func := "godwit/godwitlaw06.KeysMeet", spec := "keysMeet", inPlace := ["internal/bytealg.Compare"], apart := false }
def KeysMeetSaid : Prop := keysMeetRow.holds Try.pinned (OpenSpec.ofChange keysMeetSpec)

/-- ITS FALSE NEIGHBOUR: 'it returns false'. Refute it at one input. -/
def keysMeetWrong : ChangeSpec := { name := "keysMeet", fn := fun _ => fun
  | [d1, d2, d3] => { results := [.lit (.bool false)], args := [d1, d2, d3] }
  | _ => none }
def KeysMeetWrongFalsely : Prop := keysMeetRow.holds Try.pinned (OpenSpec.ofChange keysMeetWrong)

/-- 'godwitlaw06.KeysOne': WHATEVER THE INPUT: true; the input reads as it did. -/
def keysOneSpec : ChangeSpec := { name := "keysOne", fn := fun _ => fun
  | [d1, d2] => { results := [.lit (.bool true)], args := [d1, d2] }
  | _ => none }
def keysOneRow : OpenClaim := { program := "ytiadgkkebmclgaa", sum := "a84b413d67ac1ffcbeadb5462f647194b44493fa39e496248e220e5d149c26d6", func := "godwit/godwitlaw06.KeysOne", spec := "keysOne", inPlace := ["internal/bytealg.Compare"], apart := false }
def KeysOneSaid : Prop := keysOneRow.holds Try.pinned (OpenSpec.ofChange keysOneSpec)

/-- ITS FALSE NEIGHBOUR: 'it returns false'. Refute it at one input. -/
def keysOneWrong : ChangeSpec := { name := "keysOne", fn := fun _ => fun
  | [d1, d2] => { results := [.lit (.bool false)], args := [d1, d2] }
  | _ => none }
def KeysOneWrongFalsely : Prop := keysOneRow.holds Try.pinned (OpenSpec.ofChange keysOneWrong)

/-- 'godwitlaw06.KeysRows': WHATEVER THE INPUT: true; the input reads as it did. -/
def keysRowsSpec : ChangeSpec := { name := "keysRows", fn := fun _ => fun
  | [d1, d2, d3] => { results := [.lit (.bool true)], args := [d1, d2, d3] }
  | _ => none }
def keysRowsRow : OpenClaim := { program := "ytiadgkkebmclgaa", sum := "a84b413d67ac1ffcbeadb5462f647194b44493fa39e496248e220e5d149c26d6", func := "godwit/godwitlaw06.KeysRows", spec := "keysRows", inPlace := ["internal/bytealg.Compare"], unfollowed := true, recurses := true, apart := false }
def KeysRowsSaid : Prop := keysRowsRow.holds Try.pinned (OpenSpec.ofChange keysRowsSpec)

/-- ITS FALSE NEIGHBOUR: 'it returns false'. Refute it at one input. -/
def keysRowsWrong : ChangeSpec := { name := "keysRows", fn := fun _ => fun
  | [d1, d2, d3] => { results := [.lit (.bool false)], args := [d1, d2, d3] }
  | _ => none }
def KeysRowsWrongFalsely : Prop := keysRowsRow.holds Try.pinned (OpenSpec.ofChange keysRowsWrong)

/-- 'godwitlaw06.KeysBetween': WHATEVER THE INPUT: true; the input reads as it did. -/
def keysBetweenSpec : ChangeSpec := { name := "keysBetween", fn := fun _ => fun
  | [d1, d2, d3, d4] => { results := [.lit (.bool true)], args := [d1, d2, d3, d4] }
  | _ => none }
def keysBetweenRow : OpenClaim := { program := "ytiadgkkebmclgaa", sum := "a84b413d67ac1ffcbeadb5462f647194b44493fa39e496248e220e5d149c26d6", func := "godwit/godwitlaw06.KeysBetween", spec := "keysBetween", inPlace := ["internal/bytealg.Compare"], apart := false }
def KeysBetweenSaid : Prop := keysBetweenRow.holds Try.pinned (OpenSpec.ofChange keysBetweenSpec)

/-- ITS FALSE NEIGHBOUR: 'it returns false'. Refute it at one input. -/
def keysBetweenWrong : ChangeSpec := { name := "keysBetween", fn := fun _ => fun
  | [d1, d2, d3, d4] => { results := [.lit (.bool false)], args := [d1, d2, d3, d4] }
  | _ => none }
def KeysBetweenWrongFalsely : Prop := keysBetweenRow.holds Try.pinned (OpenSpec.ofChange keysBetweenWrong)

/-- 'godwitlaw06.KeysThree': WHATEVER THE INPUT: true; the input reads as it did. -/
def keysThreeSpec : ChangeSpec := { name := "keysThree", fn := fun _ => fun
  | [d1, d2, d3, d4] => { results := [.lit (.bool true)], args := [d1, d2, d3, d4] }
  | _ => none }
def keysThreeRow : OpenClaim := { program := "ytiadgkkebmclgaa", sum := "a84b413d67ac1ffcbeadb5462f647194b44493fa39e496248e220e5d149c26d6", func := "godwit/godwitlaw06.KeysThree", spec := "keysThree", inPlace := ["internal/bytealg.Compare"], apart := false }
def KeysThreeSaid : Prop := keysThreeRow.holds Try.pinned (OpenSpec.ofChange keysThreeSpec)

/-- ITS FALSE NEIGHBOUR: 'it returns false'. Refute it at one input. -/
def keysThreeWrong : ChangeSpec := { name := "keysThree", fn := fun _ => fun
  | [d1, d2, d3, d4] => { results := [.lit (.bool false)], args := [d1, d2, d3, d4] }
  | _ => none }
def KeysThreeWrongFalsely : Prop := keysThreeRow.holds Try.pinned (OpenSpec.ofChange keysThreeWrong)

/- THE SECOND FORM. 'bulk': how many values and letters a reading holds, each counted each time it is reached (what is shared counts as often as it is met; a slice's spare places count too). A statement '..UptoSaid' is the law's where the arguments, and the package variables that the reading takes, are together of bulk at most 1048576: NARROWER than '..Said'. Prove '..Said' where nothing that the law and all that it calls make is longer than what came in: it says more and counts as full. Else prove '..UptoSaid'. A law counts once. -/
mutual
def uptoBulk {H : Type} : DataW H → Nat
  | .lit (.string bytes) => bytes.length + 1
  | .lit _ => 1
  | .nil => 1
  | .ptr d => uptoBulk d + 1
  | .slice elems spare => uptoBulkAll elems + uptoBulkAll spare + 1
  | .agg parts => uptoBulkAll parts + 1
  | .iface _ d => uptoBulk d + 1
  | .map entries => uptoBulkEntries entries + 1
  | .held _ => 1
def uptoBulkAll {H : Type} : List (DataW H) → Nat
  | [] => 0
  | d :: r => uptoBulk d + uptoBulkAll r
def uptoBulkEntries {H : Type} : List (Lit × DataW H) → Nat
  | [] => 0
  | x :: r => uptoBulkEntry x + uptoBulkEntries r
def uptoBulkEntry {H : Type} : Lit × DataW H → Nat
  | (.string bytes, d) => bytes.length + uptoBulk d + 1
  | (_, d) => uptoBulk d + 1
 end
def uptoSmall : (H : Type) → List (DataW H) → Bool := fun _ ds => decide (uptoBulkAll ds ≤ 1048576)
def OpenSpec.upto (s : _root_.Go.ChangeSpec) : _root_.Go.OpenSpec := { _root_.Go.OpenSpec.ofChange s with cond := some uptoSmall }

/-- 'godwitlaw06.KeysIs', WHERE WHAT IT READS IS OF BULK AT MOST 1048576: true; the input reads as it did. -/
def keysIsUptoRow : OpenClaim := { program := "ytiadgkkebmclgaa", sum := "a84b413d67ac1ffcbeadb5462f647194b44493fa39e496248e220e5d149c26d6", func := "godwit/godwitlaw06.KeysIs", spec := "keysIs", inPlace := ["internal/bytealg.Compare"], unfollowed := true, recurses := true, apart := false, narrowed := true }
def KeysIsUptoSaid : Prop := keysIsUptoRow.holds Try.pinned (OpenSpec.upto keysIsSpec)

/-- 'godwitlaw06.KeysOrder', WHERE WHAT IT READS IS OF BULK AT MOST 1048576: true; the input reads as it did. -/
def keysOrderUptoRow : OpenClaim := { program := "ytiadgkkebmclgaa", sum := "a84b413d67ac1ffcbeadb5462f647194b44493fa39e496248e220e5d149c26d6", func := "godwit/godwitlaw06.KeysOrder", spec := "keysOrder", inPlace := ["internal/bytealg.Compare"], apart := false, narrowed := true }
def KeysOrderUptoSaid : Prop := keysOrderUptoRow.holds Try.pinned (OpenSpec.upto keysOrderSpec)

/-- 'godwitlaw06.KeysMeet', WHERE WHAT IT READS IS OF BULK AT MOST 1048576: true; the input reads as it did. -/
def keysMeetUptoRow : OpenClaim := { program := "ytiadgkkebmclgaa", sum := "a84b413d67ac1ffcbeadb5462f647194b44493fa39e496248e220e5d149c26d6", func := "godwit/godwitlaw06.KeysMeet", spec := "keysMeet", inPlace := ["internal/bytealg.Compare"], apart := false, narrowed := true }
def KeysMeetUptoSaid : Prop := keysMeetUptoRow.holds Try.pinned (OpenSpec.upto keysMeetSpec)

/-- 'godwitlaw06.KeysOne', WHERE WHAT IT READS IS OF BULK AT MOST 1048576: true; the input reads as it did. -/
def keysOneUptoRow : OpenClaim := { program := "ytiadgkkebmclgaa", sum := "a84b413d67ac1ffcbeadb5462f647194b44493fa39e496248e220e5d149c26d6", func := "godwit/godwitlaw06.KeysOne", spec := "keysOne", inPlace := ["internal/bytealg.Compare"], apart := false, narrowed := true }
def KeysOneUptoSaid : Prop := keysOneUptoRow.holds Try.pinned (OpenSpec.upto keysOneSpec)

/-- 'godwitlaw06.KeysRows', WHERE WHAT IT READS IS OF BULK AT MOST 1048576: true; the input reads as it did. -/
def keysRowsUptoRow : OpenClaim := { program := "ytiadgkkebmclgaa", sum := "a84b413d67ac1ffcbeadb5462f647194b44493fa39e496248e220e5d149c26d6", func := "godwit/godwitlaw06.KeysRows", spec := "keysRows", inPlace := ["internal/bytealg.Compare"], unfollowed := true, recurses := true, apart := false, narrowed := true }
def KeysRowsUptoSaid : Prop := keysRowsUptoRow.holds Try.pinned (OpenSpec.upto keysRowsSpec)

/-- 'godwitlaw06.KeysBetween', WHERE WHAT IT READS IS OF BULK AT MOST 1048576: true; the input reads as it did. -/
def keysBetweenUptoRow : OpenClaim := { program := "ytiadgkkebmclgaa", sum := "a84b413d67ac1ffcbeadb5462f647194b44493fa39e496248e220e5d149c26d6", func := "godwit/godwitlaw06.KeysBetween", spec := "keysBetween", inPlace := ["internal/bytealg.Compare"], apart := false, narrowed := true }
def KeysBetweenUptoSaid : Prop := keysBetweenUptoRow.holds Try.pinned (OpenSpec.upto keysBetweenSpec)

/-- 'godwitlaw06.KeysThree', WHERE WHAT IT READS IS OF BULK AT MOST 1048576: true; the input reads as it did. -/
def keysThreeUptoRow : OpenClaim := { program := "ytiadgkkebmclgaa", sum := "a84b413d67ac1ffcbeadb5462f647194b44493fa39e496248e220e5d149c26d6", func := "godwit/godwitlaw06.KeysThree", spec := "keysThree", inPlace := ["internal/bytealg.Compare"], apart := false, narrowed := true }
def KeysThreeUptoSaid : Prop := keysThreeUptoRow.holds Try.pinned (OpenSpec.upto keysThreeSpec)

end Rows
end Go.Proofs.Ytiadgkkebmclgaa
