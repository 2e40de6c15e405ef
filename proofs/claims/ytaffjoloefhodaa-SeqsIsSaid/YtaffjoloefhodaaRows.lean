/-
  No cell of these rows narrows 'for every input' (looked for: loops, veiled, ifaces, maps, wideKeys, modest, calm, conditions, laid).
  DERIVED. THE GIVEN ROWS OF THIS SEAT. 5 by the template 'for every input the law returns true; each argument reads behind the call as it read before'; 0 by the template 'total and deterministic' (their statements: YtaffjoloefhodaaTotals.lean).
  GIVEN WITH THE SEED: the statements are not yours to turn. If you find one false, say at which input.
  Laid BY PROGRAM, IN A SANDBOX (cutbox-rows.mjs): the forced cells as the released guide's own fill.sh prints them over the translation c0d165b1039b0621… (all of the seat's roots in one cut). By AI agents, Wed Nov 11 2026. No macro, syntax, notation, axiom, sorry.
-/
import Derived.Test.YtaffjoloefhodaaChecked
import GoSem.Claim
import GoSem.ClaimJoined
import GoSem.ClaimMapViews
import Derived.JoinedTies
import Derived.KernelRfl
namespace Go.Proofs.Ytaffjoloefhodaa
/- THE CELL 'sum', in the pinned program and in every row, IS THE sha256 OF THE DUMP (.gsa) THAT YtaffjoloefhodaaProg.lean LOADS. Nothing in Lean hashes anything: it is a label: what it is worth is what the hold of that sum in a sandbox is worth. -/
noncomputable def Try.pinned : Pinned := { name := "ytaffjoloefhodaa", sum := "c0d165b1039b0621b86d725bf228867648692b84534e9f9f2bd68358fdc77547", checked := Try.checked }
namespace Rows
def none {H : Type} : Left H := { results := [], args := [] }

/-- 'godwitlaw15.SeqsIs': WHATEVER THE INPUT: true; the input reads as it did. -/
def seqsIsSpec : ChangeSpec := { name := "seqsIs", fn := fun _ => fun
  | [d1, d2, d3] => { results := [.lit (.bool true)], args := [d1, d2, d3] }
  | _ => none }
def seqsIsRow : OpenClaim := { program := "ytaffjoloefhodaa", sum := "c0d165b1039b0621b86d725bf228867648692b84534e9f9f2bd68358fdc77547", func := "godwit/godwitlaw15.SeqsIs", spec := "seqsIs", apart := false }
def SeqsIsSaid : Prop := seqsIsRow.holds Try.pinned (OpenSpec.ofChange seqsIsSpec)

/-- ITS FALSE NEIGHBOUR: 'it returns false'. Refute it at one input. -/
def seqsIsWrong : ChangeSpec := { name := "seqsIs", fn := fun _ => fun
  | [d1, d2, d3] => { results := [.lit (.bool false)], args := [d1, d2, d3] }
  | _ => none }
def SeqsIsWrongFalsely : Prop := seqsIsRow.holds Try.pinned (OpenSpec.ofChange seqsIsWrong)

/-- 'godwitlaw15.SeqsOnce': WHATEVER THE INPUT: true; the input reads as it did. -/
def seqsOnceSpec : ChangeSpec := { name := "seqsOnce", fn := fun _ => fun
  | [d1, d2] => { results := [.lit (.bool true)], args := [d1, d2] }
  | _ => none }
def seqsOnceRow : OpenClaim := { program := "ytaffjoloefhodaa", sum := "c0d165b1039b0621b86d725bf228867648692b84534e9f9f2bd68358fdc77547", func := "godwit/godwitlaw15.SeqsOnce", spec := "seqsOnce", apart := false }
def SeqsOnceSaid : Prop := seqsOnceRow.holds Try.pinned (OpenSpec.ofChange seqsOnceSpec)

/-- ITS FALSE NEIGHBOUR: 'it returns false'. Refute it at one input. -/
def seqsOnceWrong : ChangeSpec := { name := "seqsOnce", fn := fun _ => fun
  | [d1, d2] => { results := [.lit (.bool false)], args := [d1, d2] }
  | _ => none }
def SeqsOnceWrongFalsely : Prop := seqsOnceRow.holds Try.pinned (OpenSpec.ofChange seqsOnceWrong)

/-- 'godwitlaw15.SeqsOrder': WHATEVER THE INPUT: true; the input reads as it did. -/
def seqsOrderSpec : ChangeSpec := { name := "seqsOrder", fn := fun _ => fun
  | [d1, d2] => { results := [.lit (.bool true)], args := [d1, d2] }
  | _ => none }
def seqsOrderRow : OpenClaim := { program := "ytaffjoloefhodaa", sum := "c0d165b1039b0621b86d725bf228867648692b84534e9f9f2bd68358fdc77547", func := "godwit/godwitlaw15.SeqsOrder", spec := "seqsOrder", apart := false }
def SeqsOrderSaid : Prop := seqsOrderRow.holds Try.pinned (OpenSpec.ofChange seqsOrderSpec)

/-- ITS FALSE NEIGHBOUR: 'it returns false'. Refute it at one input. -/
def seqsOrderWrong : ChangeSpec := { name := "seqsOrder", fn := fun _ => fun
  | [d1, d2] => { results := [.lit (.bool false)], args := [d1, d2] }
  | _ => none }
def SeqsOrderWrongFalsely : Prop := seqsOrderRow.holds Try.pinned (OpenSpec.ofChange seqsOrderWrong)

/-- 'godwitlaw15.SeqsEnds': WHATEVER THE INPUT: true; the input reads as it did. -/
def seqsEndsSpec : ChangeSpec := { name := "seqsEnds", fn := fun _ => fun
  | [d1, d2] => { results := [.lit (.bool true)], args := [d1, d2] }
  | _ => none }
def seqsEndsRow : OpenClaim := { program := "ytaffjoloefhodaa", sum := "c0d165b1039b0621b86d725bf228867648692b84534e9f9f2bd68358fdc77547", func := "godwit/godwitlaw15.SeqsEnds", spec := "seqsEnds", apart := false }
def SeqsEndsSaid : Prop := seqsEndsRow.holds Try.pinned (OpenSpec.ofChange seqsEndsSpec)

/-- ITS FALSE NEIGHBOUR: 'it returns false'. Refute it at one input. -/
def seqsEndsWrong : ChangeSpec := { name := "seqsEnds", fn := fun _ => fun
  | [d1, d2] => { results := [.lit (.bool false)], args := [d1, d2] }
  | _ => none }
def SeqsEndsWrongFalsely : Prop := seqsEndsRow.holds Try.pinned (OpenSpec.ofChange seqsEndsWrong)

/-- 'godwitlaw15.SeqsMissing': WHATEVER THE INPUT: true; the input reads as it did. -/
def seqsMissingSpec : ChangeSpec := { name := "seqsMissing", fn := fun _ => fun
  | [d1, d2] => { results := [.lit (.bool true)], args := [d1, d2] }
  | _ => none }
def seqsMissingRow : OpenClaim := { program := "ytaffjoloefhodaa", sum := "c0d165b1039b0621b86d725bf228867648692b84534e9f9f2bd68358fdc77547", func := "godwit/godwitlaw15.SeqsMissing", spec := "seqsMissing", apart := false }
def SeqsMissingSaid : Prop := seqsMissingRow.holds Try.pinned (OpenSpec.ofChange seqsMissingSpec)

/-- ITS FALSE NEIGHBOUR: 'it returns false'. Refute it at one input. -/
def seqsMissingWrong : ChangeSpec := { name := "seqsMissing", fn := fun _ => fun
  | [d1, d2] => { results := [.lit (.bool false)], args := [d1, d2] }
  | _ => none }
def SeqsMissingWrongFalsely : Prop := seqsMissingRow.holds Try.pinned (OpenSpec.ofChange seqsMissingWrong)

/- THE SECOND FORM. 'bulk': how many values and letters a reading holds, each counted each time it is reached (what is shared counts as often as it is met; a slice's spare places count too). A statement '..UptoSaid' is the law's where the arguments, and the package variables that the reading takes, are together of bulk at most 1048576: NARROWER than '..Said'. Prove '..Said' where nothing that the law and all that it calls make is longer than what came in: it says more and counts as full. Else prove '..UptoSaid'. A law counts once. -/
mutual
def uptoBulk {H : Type} : DataW H → Nat
  | .lit (.string bytes) => bytes.length + 1
  | .lit _ => 1
  | .nil => 1
  | .ptr d => uptoBulk d + 1
  | .slice elems spare => uptoBulkAll elems + uptoBulkAll spare + 1
  | .agg parts => uptoBulkAll parts + 1
  | .iface _ d => uptoBulk d + 1
  | .map entries => uptoBulkEntries entries + 1
  | .held _ => 1
def uptoBulkAll {H : Type} : List (DataW H) → Nat
  | [] => 0
  | d :: r => uptoBulk d + uptoBulkAll r
def uptoBulkEntries {H : Type} : List (Lit × DataW H) → Nat
  | [] => 0
  | x :: r => uptoBulkEntry x + uptoBulkEntries r
def uptoBulkEntry {H : Type} : Lit × DataW H → Nat
  | (.string bytes, d) => bytes.length + uptoBulk d + 1
  | (_, d) => uptoBulk d + 1
 end
def uptoSmall : (H : Type) → List (DataW H) → Bool := fun _ ds => decide (uptoBulkAll ds ≤ 1048576)
def OpenSpec.upto (s : _root_.Go.ChangeSpec) : _root_.Go.OpenSpec := { _root_.Go.OpenSpec.ofChange s with cond := some uptoSmall }

/-- 'godwitlaw15.SeqsIs', WHERE WHAT IT READS IS OF BULK AT MOST 1048576: true; the input reads as it did. -/
def seqsIsUptoRow : OpenClaim := { program := "ytaffjoloefhodaa", sum := "c0d165b1039b0621b86d725bf228867648692b84534e9f9f2bd68358fdc77547", func := "godwit/godwitlaw15.SeqsIs", spec := "seqsIs", apart := false, narrowed := true }
def SeqsIsUptoSaid : Prop := seqsIsUptoRow.holds Try.pinned (OpenSpec.upto seqsIsSpec)

/-- 'godwitlaw15.SeqsOnce', WHERE WHAT IT READS IS OF BULK AT MOST 1048576: true; the input reads as it did. -/
def seqsOnceUptoRow : OpenClaim := { program := "ytaffjoloefhodaa", sum := "c0d165b1039b0621b86d725bf228867648692b84534e9f9f2bd68358fdc77547", func := "godwit/godwitlaw15.SeqsOnce", spec := "seqsOnce", apart := false, narrowed := true }
def SeqsOnceUptoSaid : Prop := seqsOnceUptoRow.holds Try.pinned (OpenSpec.upto seqsOnceSpec)

/-- 'godwitlaw15.SeqsOrder', WHERE WHAT IT READS IS OF BULK AT MOST 1048576: true; the input reads as it did. -/
def seqsOrderUptoRow : OpenClaim := { program := "ytaffjoloefhodaa", sum := "c0d165b1039b0621b86d725bf228867648692b84534e9f9f2bd68358fdc77547", func := "godwit/godwitlaw15.SeqsOrder", spec := "seqsOrder", apart := false, narrowed := true }
def SeqsOrderUptoSaid : Prop := seqsOrderUptoRow.holds Try.pinned (OpenSpec.upto seqsOrderSpec)

/-- 'godwitlaw15.SeqsEnds', WHERE WHAT IT READS IS OF BULK AT MOST 1048576: true; the input reads as it did. -/
def seqsEndsUptoRow : OpenClaim := { program := "ytaffjoloefhodaa", sum := "c0d165b1039b0621b86d725bf228867648692b84534e9f9f2bd68358fdc77547", func := "godwit/godwitlaw15.SeqsEnds", spec := "seqsEnds", apart := false, narrowed := true }
def SeqsEndsUptoSaid : Prop := seqsEndsUptoRow.holds Try.pinned (OpenSpec.upto seqsEndsSpec)

/-- 'godwitlaw15.SeqsMissing', WHERE WHAT IT READS IS OF BULK AT MOST 1048576: true; the input reads as it did. -/
def seqsMissingUptoRow : OpenClaim := { program := "ytaffjoloefhodaa", sum := "c0d165b1039b0621b86d725bf228867648692b84534e9f9f2bd68358fdc77547", func := "godwit/godwitlaw15.SeqsMissing", spec := "seqsMissing", apart := false, narrowed := true }
def SeqsMissingUptoSaid : Prop := seqsMissingUptoRow.holds Try.pinned (OpenSpec.upto seqsMissingSpec)

end Rows
end Go.Proofs.Ytaffjoloefhodaa
