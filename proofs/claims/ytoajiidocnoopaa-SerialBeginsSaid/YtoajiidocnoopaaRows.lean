/-
  No cell of these rows narrows 'for every input' (looked for: loops, veiled, ifaces, maps, wideKeys, modest, calm, conditions, laid).
  DERIVED. THE GIVEN ROWS OF THIS SEAT. 3 by the template 'for every input the law returns true; each argument reads behind the call as it read before'; 0 by the template 'total and deterministic' (their statements: YtoajiidocnoopaaTotals.lean).
  GIVEN WITH THE SEED: the statements are not yours to turn. If you find one false, say at which input.
  Laid BY PROGRAM, IN A SANDBOX (cutbox-rows.mjs): the forced cells as the released guide's own fill.sh prints them over the translation 651047fd5d980f1f… (all of the seat's roots in one cut). By AI agents, Wed Nov 11 2026. No macro, syntax, notation, axiom, sorry.
-/
import Derived.Test.YtoajiidocnoopaaChecked
import GoSem.Claim
import GoSem.ClaimJoined
import GoSem.ClaimMapViews
import Derived.JoinedTies
import Derived.KernelRfl
namespace Go.Proofs.Ytoajiidocnoopaa
/- THE CELL 'sum', in the pinned program and in every row, IS THE sha256 OF THE DUMP (.gsa) THAT YtoajiidocnoopaaProg.lean LOADS. Nothing in Lean hashes anything: it is a label: what it is worth is what the hold of that sum in a sandbox is worth. -/
noncomputable def Try.pinned : Pinned := { name := "ytoajiidocnoopaa", sum := "651047fd5d980f1f71c69ce0fecf688688f7c4e4c013137cad9f6783cb175569", checked := Try.checked }
namespace Rows
def none {H : Type} : Left H := { results := [], args := [] }

/-- 'godwitlaw24.SerialOrder': WHATEVER THE INPUT: true; the input reads as it did. -/
def serialOrderSpec : ChangeSpec := { name := "serialOrder", fn := fun _ => fun
  | [d] => { results := [.lit (.bool true)], args := [d] }
  | _ => none }
def serialOrderRow : OpenClaim := { program := "ytoajiidocnoopaa", sum := "651047fd5d980f1f71c69ce0fecf688688f7c4e4c013137cad9f6783cb175569", func := "godwit/godwitlaw24.SerialOrder", spec := "serialOrder", inPlace := ["internal/bytealg.Compare"], unfollowed := true, recurses := true, apart := false }
def SerialOrderSaid : Prop := serialOrderRow.holds Try.pinned (OpenSpec.ofChange serialOrderSpec)

/-- ITS FALSE NEIGHBOUR: 'it returns false'. Refute it at one input. -/
def serialOrderWrong : ChangeSpec := { name := "serialOrder", fn := fun _ => fun
  | [d] => { results := [.lit (.bool false)], args := [d] }
  | _ => none }
def SerialOrderWrongFalsely : Prop := serialOrderRow.holds Try.pinned (OpenSpec.ofChange serialOrderWrong)

/-- 'godwitlaw24.SerialAhead': WHATEVER THE INPUT: true; the input reads as it did. -/
def serialAheadSpec : ChangeSpec := { name := "serialAhead", fn := fun _ => fun
  | [d1, d2] => { results := [.lit (.bool true)], args := [d1, d2] }
  | _ => none }
def serialAheadRow : OpenClaim := { program := "ytoajiidocnoopaa", sum := "651047fd5d980f1f71c69ce0fecf688688f7c4e4c013137cad9f6783cb175569", func := "godwit/godwitlaw24.SerialAhead", spec := "serialAhead", inPlace := ["internal/bytealg.Compare"], unfollowed := true, recurses := true, apart := false }
def SerialAheadSaid : Prop := serialAheadRow.holds Try.pinned (OpenSpec.ofChange serialAheadSpec)

/-- ITS FALSE NEIGHBOUR: 'it returns false'. Refute it at one input. -/
def serialAheadWrong : ChangeSpec := { name := "serialAhead", fn := fun _ => fun
  | [d1, d2] => { results := [.lit (.bool false)], args := [d1, d2] }
  | _ => none }
def SerialAheadWrongFalsely : Prop := serialAheadRow.holds Try.pinned (OpenSpec.ofChange serialAheadWrong)

/-- 'godwitlaw24.SerialBegins': WHATEVER THE INPUT: true; the input reads as it did. -/
def serialBeginsSpec : ChangeSpec := { name := "serialBegins", fn := fun _ => fun
  | [d1, d2] => { results := [.lit (.bool true)], args := [d1, d2] }
  | _ => none }
def serialBeginsRow : OpenClaim := { program := "ytoajiidocnoopaa", sum := "651047fd5d980f1f71c69ce0fecf688688f7c4e4c013137cad9f6783cb175569", func := "godwit/godwitlaw24.SerialBegins", spec := "serialBegins", inPlace := ["internal/bytealg.Compare"], unfollowed := true, recurses := true, apart := false }
def SerialBeginsSaid : Prop := serialBeginsRow.holds Try.pinned (OpenSpec.ofChange serialBeginsSpec)

/-- ITS FALSE NEIGHBOUR: 'it returns false'. Refute it at one input. -/
def serialBeginsWrong : ChangeSpec := { name := "serialBegins", fn := fun _ => fun
  | [d1, d2] => { results := [.lit (.bool false)], args := [d1, d2] }
  | _ => none }
def SerialBeginsWrongFalsely : Prop := serialBeginsRow.holds Try.pinned (OpenSpec.ofChange serialBeginsWrong)

/- THE SECOND FORM. 'bulk': how many values and letters a reading holds, each counted each time it is reached (what is shared counts as often as it is met; a slice's spare places count too). A statement '..UptoSaid' is the law's where the arguments, and the package variables that the reading takes, are together of bulk at most 1048576: NARROWER than '..Said'. Prove '..Said' where nothing that the law and all that it calls make is longer than what came in: it says more and counts as full. Else prove '..UptoSaid'. A law counts once. -/
mutual
def uptoBulk {H : Type} : DataW H → Nat
  | .lit (.string bytes) => bytes.length + 1
  | .lit _ => 1
  | .nil => 1
  | .ptr d => uptoBulk d + 1
  | .slice elems spare => uptoBulkAll elems + uptoBulkAll spare + 1
  | .agg parts => uptoBulkAll parts + 1
  | .iface _ d => uptoBulk d + 1
  | .map entries => uptoBulkEntries entries + 1
  | .held _ => 1
def uptoBulkAll {H : Type} : List (DataW H) → Nat
  | [] => 0
  | d :: r => uptoBulk d + uptoBulkAll r
def uptoBulkEntries {H : Type} : List (Lit × DataW H) → Nat
  | [] => 0
  | x :: r => uptoBulkEntry x + uptoBulkEntries r
def uptoBulkEntry {H : Type} : Lit × DataW H → Nat
  | (.string bytes, d) => bytes.length + uptoBulk d + 1
  | (_, d) => uptoBulk d + 1
 end
def uptoSmall : (H : Type) → List (DataW H) → Bool := fun _ ds => decide (uptoBulkAll ds ≤ 1048576)
def OpenSpec.upto (s : _root_.Go.ChangeSpec) : _root_.Go.OpenSpec := { _root_.Go.OpenSpec.ofChange s with cond := some uptoSmall }

/-- 'godwitlaw24.SerialOrder', WHERE WHAT IT READS IS OF BULK AT MOST 1048576: true; the input reads as it did. -/
def serialOrderUptoRow : OpenClaim := { program := "ytoajiidocnoopaa", sum := "651047fd5d980f1f71c69ce0fecf688688f7c4e4c013137cad9f6783cb175569", func := "godwit/godwitlaw24.SerialOrder", spec := "serialOrder", inPlace := ["internal/bytealg.Compare"], unfollowed := true, recurses := true, apart := false, narrowed := true }
def SerialOrderUptoSaid : Prop := serialOrderUptoRow.holds Try.pinned (OpenSpec.upto serialOrderSpec)

/-- 'godwitlaw24.SerialAhead', WHERE WHAT IT READS IS OF BULK AT MOST 1048576: true; the input reads as it did. -/
def serialAheadUptoRow : OpenClaim := { program := "ytoajiidocnoopaa", sum := "651047fd5d980f1f71c69ce0fecf688688f7c4e4c013137cad9f6783cb175569", func := "godwit/godwitlaw24.SerialAhead", spec := "serialAhead", inPlace := ["internal/bytealg.Compare"], unfollowed := true, recurses := true, apart := false, narrowed := true }
def SerialAheadUptoSaid : Prop := serialAheadUptoRow.holds Try.pinned (OpenSpec.upto serialAheadSpec)

/-- 'godwitlaw24.SerialBegins', WHERE WHAT IT READS IS OF BULK AT MOST 1048576: true; the input reads as it did. -/
def serialBeginsUptoRow : OpenClaim := { program := "ytoajiidocnoopaa", sum := "651047fd5d980f1f71c69ce0fecf688688f7c4e4c013137cad9f6783cb175569", func := "godwit/godwitlaw24.SerialBegins", spec := "serialBegins", inPlace := ["internal/bytealg.Compare"], unfollowed := true, recurses := true, apart := false, narrowed := true }
def SerialBeginsUptoSaid : Prop := serialBeginsUptoRow.holds Try.pinned (OpenSpec.upto serialBeginsSpec)

end Rows
end Go.Proofs.Ytoajiidocnoopaa
