/-
  No cell of these rows narrows 'for every input' (looked for: loops, veiled, ifaces, maps, wideKeys, modest, calm, conditions, laid).
  DERIVED. THE GIVEN ROWS OF THIS SEAT. 6 by the template 'for every input the law returns true; each argument reads behind the call as it read before'; 0 by the template 'total and deterministic' (their statements: YtlfgbpkigdmjdaaTotals.lean).
  GIVEN WITH THE SEED: the statements are not yours to turn. If you find one false, say at which input.
  Laid BY PROGRAM, IN A SANDBOX (cutbox-rows.mjs): the forced cells as the released guide's own fill.sh prints them over the translation 3a25eca1702960d5… (all of the seat's roots in one cut). By AI agents, Wed Nov 11 2026. No macro, syntax, notation, axiom, sorry.
-/
import Derived.Test.YtlfgbpkigdmjdaaChecked
import GoSem.Claim
import GoSem.ClaimJoined
import GoSem.ClaimMapViews
import Derived.JoinedTies
import Derived.KernelRfl
namespace Go.Proofs.Ytlfgbpkigdmjdaa
/- THE CELL 'sum', in the pinned program and in every row, IS THE sha256 OF THE DUMP (.gsa) THAT YtlfgbpkigdmjdaaProg.lean LOADS. Nothing in Lean hashes anything: it is a label: what it is worth is what the hold of that sum in a sandbox is worth. -/
noncomputable def Try.pinned : Pinned := { name := "ytlfgbpkigdmjdaa", sum := "3a25eca1702960d5b5bc267be4ba9cb90eaddb93f78b7ed96b28268678623808", checked := Try.checked }
namespace Rows
def none {H : Type} : Left H := { results := [], args := [] }

/-- 'godwitlaw01.EncLays': WHATEVER THE INPUT: true; the input reads as it did. -/
def encLaysSpec : ChangeSpec := { name := "encLays", fn := fun _ => fun
  | [d1, d2, d3, d4] => { results := [.lit (.bool true)], args := [d1, d2, d3, d4] }
  | _ => none }
def encLaysRow : OpenClaim := { program := "ytlfgbpkigdmjdaa", sum := "3a25eca1702960d5b5bc267be4ba9cb90eaddb93f78b7ed96b28268678623808", func := "godwit/godwitlaw01.EncLays", spec := "encLays", unfollowed := true, recurses := true, apart := false }
def EncLaysSaid : Prop := encLaysRow.holds Try.pinned (OpenSpec.ofChange encLaysSpec)

/-- ITS FALSE NEIGHBOUR: 'it returns false'. Refute it at one input. -/
def encLaysWrong : ChangeSpec := { name := "encLays", fn := fun _ => fun
  | [d1, d2, d3, d4] => { results := [.lit (.bool false)], args := [d1, d2, d3, d4] }
  | _ => none }
def EncLaysWrongFalsely : Prop := encLaysRow.holds Try.pinned (OpenSpec.ofChange encLaysWrong)

/-- 'godwitlaw01.EncReads': WHATEVER THE INPUT: true; the input reads as it did. -/
def encReadsSpec : ChangeSpec := { name := "encReads", fn := fun _ => fun
  | [d1, d2] => { results := [.lit (.bool true)], args := [d1, d2] }
  | _ => none }
def encReadsRow : OpenClaim := { program := "ytlfgbpkigdmjdaa", sum := "3a25eca1702960d5b5bc267be4ba9cb90eaddb93f78b7ed96b28268678623808", func := "godwit/godwitlaw01.EncReads", spec := "encReads", unfollowed := true, recurses := true, apart := false }
def EncReadsSaid : Prop := encReadsRow.holds Try.pinned (OpenSpec.ofChange encReadsSpec)

/-- ITS FALSE NEIGHBOUR: 'it returns false'. Refute it at one input. -/
def encReadsWrong : ChangeSpec := { name := "encReads", fn := fun _ => fun
  | [d1, d2] => { results := [.lit (.bool false)], args := [d1, d2] }
  | _ => none }
def EncReadsWrongFalsely : Prop := encReadsRow.holds Try.pinned (OpenSpec.ofChange encReadsWrong)

/-- 'godwitlaw01.EncBack': WHATEVER THE INPUT: true; the input reads as it did. -/
def encBackSpec : ChangeSpec := { name := "encBack", fn := fun _ => fun
  | [d1, d2, d3] => { results := [.lit (.bool true)], args := [d1, d2, d3] }
  | _ => none }
def encBackRow : OpenClaim := { program := "ytlfgbpkigdmjdaa", sum := "3a25eca1702960d5b5bc267be4ba9cb90eaddb93f78b7ed96b28268678623808", func := "godwit/godwitlaw01.EncBack", spec := "encBack", unfollowed := true, recurses := true, apart := false }
def EncBackSaid : Prop := encBackRow.holds Try.pinned (OpenSpec.ofChange encBackSpec)

/-- ITS FALSE NEIGHBOUR: 'it returns false'. Refute it at one input. -/
def encBackWrong : ChangeSpec := { name := "encBack", fn := fun _ => fun
  | [d1, d2, d3] => { results := [.lit (.bool false)], args := [d1, d2, d3] }
  | _ => none }
def EncBackWrongFalsely : Prop := encBackRow.holds Try.pinned (OpenSpec.ofChange encBackWrong)

/-- 'godwitlaw01.EncStays': WHATEVER THE INPUT: true; the input reads as it did. -/
def encStaysSpec : ChangeSpec := { name := "encStays", fn := fun _ => fun
  | [d1, d2, d3] => { results := [.lit (.bool true)], args := [d1, d2, d3] }
  | _ => none }
def encStaysRow : OpenClaim := { program := "ytlfgbpkigdmjdaa", sum := "3a25eca1702960d5b5bc267be4ba9cb90eaddb93f78b7ed96b28268678623808", func := "godwit/godwitlaw01.EncStays", spec := "encStays", unfollowed := true, recurses := true, apart := false }
def EncStaysSaid : Prop := encStaysRow.holds Try.pinned (OpenSpec.ofChange encStaysSpec)

/-- ITS FALSE NEIGHBOUR: 'it returns false'. Refute it at one input. -/
def encStaysWrong : ChangeSpec := { name := "encStays", fn := fun _ => fun
  | [d1, d2, d3] => { results := [.lit (.bool false)], args := [d1, d2, d3] }
  | _ => none }
def EncStaysWrongFalsely : Prop := encStaysRow.holds Try.pinned (OpenSpec.ofChange encStaysWrong)

/-- 'godwitlaw01.EncLens': WHATEVER THE INPUT: true; the input reads as it did. -/
def encLensSpec : ChangeSpec := { name := "encLens", fn := fun _ => fun
  | [d1, d2, d3, d4] => { results := [.lit (.bool true)], args := [d1, d2, d3, d4] }
  | _ => none }
def encLensRow : OpenClaim := { program := "ytlfgbpkigdmjdaa", sum := "3a25eca1702960d5b5bc267be4ba9cb90eaddb93f78b7ed96b28268678623808", func := "godwit/godwitlaw01.EncLens", spec := "encLens", unfollowed := true, recurses := true, apart := false }
def EncLensSaid : Prop := encLensRow.holds Try.pinned (OpenSpec.ofChange encLensSpec)

/-- ITS FALSE NEIGHBOUR: 'it returns false'. Refute it at one input. -/
def encLensWrong : ChangeSpec := { name := "encLens", fn := fun _ => fun
  | [d1, d2, d3, d4] => { results := [.lit (.bool false)], args := [d1, d2, d3, d4] }
  | _ => none }
def EncLensWrongFalsely : Prop := encLensRow.holds Try.pinned (OpenSpec.ofChange encLensWrong)

/-- 'godwitlaw01.EncSplit': WHATEVER THE INPUT: true; the input reads as it did. -/
def encSplitSpec : ChangeSpec := { name := "encSplit", fn := fun _ => fun
  | [d] => { results := [.lit (.bool true)], args := [d] }
  | _ => none }
def encSplitRow : OpenClaim := { program := "ytlfgbpkigdmjdaa", sum := "3a25eca1702960d5b5bc267be4ba9cb90eaddb93f78b7ed96b28268678623808", func := "godwit/godwitlaw01.EncSplit", spec := "encSplit", unfollowed := true, recurses := true, apart := false }
def EncSplitSaid : Prop := encSplitRow.holds Try.pinned (OpenSpec.ofChange encSplitSpec)

/-- ITS FALSE NEIGHBOUR: 'it returns false'. Refute it at one input. -/
def encSplitWrong : ChangeSpec := { name := "encSplit", fn := fun _ => fun
  | [d] => { results := [.lit (.bool false)], args := [d] }
  | _ => none }
def EncSplitWrongFalsely : Prop := encSplitRow.holds Try.pinned (OpenSpec.ofChange encSplitWrong)

/- THE SECOND FORM. 'bulk': how many values and letters a reading holds, each counted each time it is reached (what is shared counts as often as it is met; a slice's spare places count too). A statement '..UptoSaid' is the law's where the arguments, and the package variables that the reading takes, are together of bulk at most 1048576: NARROWER than '..Said'. Prove '..Said' where nothing that the law and all that it calls make is longer than what came in: it says more and counts as full. Else prove '..UptoSaid'. A law counts once. -/
mutual
def uptoBulk {H : Type} : DataW H → Nat
  | .lit (.string bytes) => bytes.length + 1
  | .lit _ => 1
  | .nil => 1
  | .ptr d => uptoBulk d + 1
  | .slice elems spare => uptoBulkAll elems + uptoBulkAll spare + 1
  | .agg parts => uptoBulkAll parts + 1
  | .iface _ d => uptoBulk d + 1
  | .map entries => uptoBulkEntries entries + 1
  | .held _ => 1
def uptoBulkAll {H : Type} : List (DataW H) → Nat
  | [] => 0
  | d :: r => uptoBulk d + uptoBulkAll r
def uptoBulkEntries {H : Type} : List (Lit × DataW H) → Nat
  | [] => 0
  | x :: r => uptoBulkEntry x + uptoBulkEntries r
def uptoBulkEntry {H : Type} : Lit × DataW H → Nat
  | (.string bytes, d) => bytes.length + uptoBulk d + 1
  | (_, d) => uptoBulk d + 1
 end
def uptoSmall : (H : Type) → List (DataW H) → Bool := fun _ ds => decide (uptoBulkAll ds ≤ 1048576)
def OpenSpec.upto (s : _root_.Go.ChangeSpec) : _root_.Go.OpenSpec := { _root_.Go.OpenSpec.ofChange s with cond := some uptoSmall }

/-- 'godwitlaw01.EncLays', WHERE WHAT IT READS IS OF BULK AT MOST 1048576: true; the input reads as it did. -/
def encLaysUptoRow : OpenClaim := { program := "ytlfgbpkigdmjdaa", sum := "3a25eca1702960d5b5bc267be4ba9cb90eaddb93f78b7ed96b28268678623808", func := "godwit/godwitlaw01.EncLays", spec := "encLays", unfollowed := true, recurses := true, apart := false, narrowed := true }
def EncLaysUptoSaid : Prop := encLaysUptoRow.holds Try.pinned (OpenSpec.upto encLaysSpec)

/-- 'godwitlaw01.EncReads', WHERE WHAT IT READS IS OF BULK AT MOST 1048576: true; the input reads as it did. -/
def encReadsUptoRow : OpenClaim := { program := "ytlfgbpkigdmjdaa", sum := "3a25eca1702960d5b5bc267be4ba9cb90eaddb93f78b7ed96b28268678623808", func := "godwit/godwitlaw01.EncReads", spec := "encReads", unfollowed := true, recurses := true, apart := false, narrowed := true }
def EncReadsUptoSaid : Prop := encReadsUptoRow.holds Try.pinned (OpenSpec.upto encReadsSpec)

/-- 'godwitlaw01.EncBack', WHERE WHAT IT READS IS OF BULK AT MOST 1048576: true; the input reads as it did. -/
def encBackUptoRow : OpenClaim := { program := "ytlfgbpkigdmjdaa", sum := "3a25eca1702960d5b5bc267be4ba9cb90eaddb93f78b7ed96b28268678623808", func := "godwit/godwitlaw01.EncBack", spec := "encBack", unfollowed := true, recurses := true, apart := false, narrowed := true }
def EncBackUptoSaid : Prop := encBackUptoRow.holds Try.pinned (OpenSpec.upto encBackSpec)

/-- 'godwitlaw01.EncStays', WHERE WHAT IT READS IS OF BULK AT MOST 1048576: true; the input reads as it did. -/
def encStaysUptoRow : OpenClaim := { program := "ytlfgbpkigdmjdaa", sum := "3a25eca1702960d5b5bc267be4ba9cb90eaddb93f78b7ed96b28268678623808", func := "godwit/godwitlaw01.EncStays", spec := "encStays", unfollowed := true, recurses := true, apart := false, narrowed := true }
def EncStaysUptoSaid : Prop := encStaysUptoRow.holds Try.pinned (OpenSpec.upto encStaysSpec)

/-- 'godwitlaw01.EncLens', WHERE WHAT IT READS IS OF BULK AT MOST 1048576: true; the input reads as it did. -/
def encLensUptoRow : OpenClaim := { program := "ytlfgbpkigdmjdaa", sum := "3a25eca1702960d5b5bc267be4ba9cb90eaddb93f78b7ed96b28268678623808", func := "godwit/godwitlaw01.EncLens", spec := "encLens", unfollowed := true, recurses := true, apart := false, narrowed := true }
def EncLensUptoSaid : Prop := encLensUptoRow.holds Try.pinned (OpenSpec.upto encLensSpec)

/-- 'godwitlaw01.EncSplit', WHERE WHAT IT READS IS OF BULK AT MOST 1048576: true; the input reads as it did. -/
def encSplitUptoRow : OpenClaim := { program := "ytlfgbpkigdmjdaa", sum := "3a25eca1702960d5b5bc267be4ba9cb90eaddb93f78b7ed96b28268678623808", func := "godwit/godwitlaw01.EncSplit", spec := "encSplit", unfollowed := true, recurses := true, apart := false, narrowed := true }
def EncSplitUptoSaid : Prop := encSplitUptoRow.holds Try.pinned (OpenSpec.upto encSplitSpec)

end Rows
end Go.Proofs.Ytlfgbpkigdmjdaa
