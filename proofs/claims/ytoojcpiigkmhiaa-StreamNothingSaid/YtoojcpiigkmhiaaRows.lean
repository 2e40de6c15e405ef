/-
  No cell of these rows narrows 'for every input' (looked for: loops, veiled, ifaces, maps, wideKeys, modest, calm, conditions, laid).
  DERIVED. THE GIVEN ROWS OF THIS SEAT. 7 by the template 'for every input the law returns true; each argument reads behind the call as it read before'; 0 by the template 'total and deterministic' (their statements: YtoojcpiigkmhiaaTotals.lean).
  GIVEN WITH THE SEED: the statements are not yours to turn. If you find one false, say at which input.
  Laid BY PROGRAM, IN A SANDBOX (cutbox-rows.mjs): the forced cells as the released guide's own fill.sh prints them over the translation 2504b94a11d6957a… (all of the seat's roots in one cut). By AI agents, Wed Nov 11 2026. No macro, syntax, notation, axiom, sorry.
-/
import Derived.Test.YtoojcpiigkmhiaaChecked
import GoSem.Claim
import GoSem.ClaimJoined
import GoSem.ClaimMapViews
import Derived.JoinedTies
import Derived.KernelRfl
namespace Go.Proofs.Ytoojcpiigkmhiaa
/- THE CELL 'sum', in the pinned program and in every row, IS THE sha256 OF THE DUMP (.gsa) THAT YtoojcpiigkmhiaaProg.lean LOADS. Nothing in Lean hashes anything: it is a label: what it is worth is what the hold of that sum in a sandbox is worth. -/
noncomputable def Try.pinned : Pinned := { name := "ytoojcpiigkmhiaa", sum := "2504b94a11d6957a6f6a342ad011d2c1c531f4dbfc8f0650a508ba59a52caf11", checked := Try.checked }
namespace Rows
def none {H : Type} : Left H := { results := [], args := [] }

/-- 'godwitlaw04.StreamIs': WHATEVER THE INPUT: true; the input reads as it did. -/
def streamIsSpec : ChangeSpec := { name := "streamIs", fn := fun _ => fun
  | [d1, d2] => { results := [.lit (.bool true)], args := [d1, d2] }
  | _ => none }
def streamIsRow : OpenClaim := { program := "ytoojcpiigkmhiaa", sum := "2504b94a11d6957a6f6a342ad011d2c1c531f4dbfc8f0650a508ba59a52caf11", func := "godwit/godwitlaw04.StreamIs", spec := "streamIs", unfollowed := true, recurses := true, apart := false }
def StreamIsSaid : Prop := streamIsRow.holds Try.pinned (OpenSpec.ofChange streamIsSpec)

/-- ITS FALSE NEIGHBOUR: 'it returns false'. Refute it at one input. -/
def streamIsWrong : ChangeSpec := { name := "streamIs", fn := fun _ => fun
  | [d1, d2] => { results := [.lit (.bool false)], args := [d1, d2] }
  | _ => none }
def StreamIsWrongFalsely : Prop := streamIsRow.holds Try.pinned (OpenSpec.ofChange streamIsWrong)

/-- 'godwitlaw04.StreamCuts': WHATEVER THE INPUT: true; the input reads as it did. -/
def streamCutsSpec : ChangeSpec := { name := "streamCuts", fn := fun _ => fun
  | [d1, d2] => { results := [.lit (.bool true)], args := [d1, d2] }
  | _ => none }
def streamCutsRow : OpenClaim := { program := "ytoojcpiigkmhiaa", sum := "2504b94a11d6957a6f6a342ad011d2c1c531f4dbfc8f0650a508ba59a52caf11", func := "godwit/godwitlaw04.StreamCuts", spec := "streamCuts", unfollowed := true, recurses := true, apart := false }
def StreamCutsSaid : Prop := streamCutsRow.holds Try.pinned (OpenSpec.ofChange streamCutsSpec)

/-- ITS FALSE NEIGHBOUR: 'it returns false'. Refute it at one input. -/
def streamCutsWrong : ChangeSpec := { name := "streamCuts", fn := fun _ => fun
  | [d1, d2] => { results := [.lit (.bool false)], args := [d1, d2] }
  | _ => none }
def StreamCutsWrongFalsely : Prop := streamCutsRow.holds Try.pinned (OpenSpec.ofChange streamCutsWrong)

/-- 'godwitlaw04.StreamBack': WHATEVER THE INPUT: true; the input reads as it did. -/
def streamBackSpec : ChangeSpec := { name := "streamBack", fn := fun _ => fun
  | [d1, d2] => { results := [.lit (.bool true)], args := [d1, d2] }
  | _ => none }
def streamBackRow : OpenClaim := { program := "ytoojcpiigkmhiaa", sum := "2504b94a11d6957a6f6a342ad011d2c1c531f4dbfc8f0650a508ba59a52caf11", func := "godwit/godwitlaw04.StreamBack", spec := "streamBack", unfollowed := true, recurses := true, apart := false }
def StreamBackSaid : Prop := streamBackRow.holds Try.pinned (OpenSpec.ofChange streamBackSpec)

/-- ITS FALSE NEIGHBOUR: 'it returns false'. Refute it at one input. -/
def streamBackWrong : ChangeSpec := { name := "streamBack", fn := fun _ => fun
  | [d1, d2] => { results := [.lit (.bool false)], args := [d1, d2] }
  | _ => none }
def StreamBackWrongFalsely : Prop := streamBackRow.holds Try.pinned (OpenSpec.ofChange streamBackWrong)

/-- 'godwitlaw04.StreamDead': WHATEVER THE INPUT: true; the input reads as it did. -/
def streamDeadSpec : ChangeSpec := { name := "streamDead", fn := fun _ => fun
  | [d1, d2, d3] => { results := [.lit (.bool true)], args := [d1, d2, d3] }
  | _ => none }
def streamDeadRow : OpenClaim := { program := "ytoojcpiigkmhiaa", sum := "2504b94a11d6957a6f6a342ad011d2c1c531f4dbfc8f0650a508ba59a52caf11", func := "godwit/godwitlaw04.StreamDead", spec := "streamDead", unfollowed := true, recurses := true, apart := false }
def StreamDeadSaid : Prop := streamDeadRow.holds Try.pinned (OpenSpec.ofChange streamDeadSpec)

/-- ITS FALSE NEIGHBOUR: 'it returns false'. Refute it at one input. -/
def streamDeadWrong : ChangeSpec := { name := "streamDead", fn := fun _ => fun
  | [d1, d2, d3] => { results := [.lit (.bool false)], args := [d1, d2, d3] }
  | _ => none }
def StreamDeadWrongFalsely : Prop := streamDeadRow.holds Try.pinned (OpenSpec.ofChange streamDeadWrong)

/-- 'godwitlaw04.StreamWants': WHATEVER THE INPUT: true; the input reads as it did. -/
def streamWantsSpec : ChangeSpec := { name := "streamWants", fn := fun _ => fun
  | [d1, d2] => { results := [.lit (.bool true)], args := [d1, d2] }
  | _ => none }
def streamWantsRow : OpenClaim := { program := "ytoojcpiigkmhiaa", sum := "2504b94a11d6957a6f6a342ad011d2c1c531f4dbfc8f0650a508ba59a52caf11", func := "godwit/godwitlaw04.StreamWants", spec := "streamWants", unfollowed := true, recurses := true, apart := false }
def StreamWantsSaid : Prop := streamWantsRow.holds Try.pinned (OpenSpec.ofChange streamWantsSpec)

/-- ITS FALSE NEIGHBOUR: 'it returns false'. Refute it at one input. -/
def streamWantsWrong : ChangeSpec := { name := "streamWants", fn := fun _ => fun
  | [d1, d2] => { results := [.lit (.bool false)], args := [d1, d2] }
  | _ => none }
def StreamWantsWrongFalsely : Prop := streamWantsRow.holds Try.pinned (OpenSpec.ofChange streamWantsWrong)

/-- 'godwitlaw04.StreamApart': WHATEVER THE INPUT: true; the input reads as it did. -/
def streamApartSpec : ChangeSpec := { name := "streamApart", fn := fun _ => fun
  | [d1, d2] => { results := [.lit (.bool true)], args := [d1, d2] }
  | _ => none }
def streamApartRow : OpenClaim := { program := "ytoojcpiigkmhiaa", sum := "2504b94a11d6957a6f6a342ad011d2c1c531f4dbfc8f0650a508ba59a52caf11", func := "godwit/godwitlaw04.StreamApart", spec := "streamApart", unfollowed := true, recurses := true, apart := false }
def StreamApartSaid : Prop := streamApartRow.holds Try.pinned (OpenSpec.ofChange streamApartSpec)

/-- ITS FALSE NEIGHBOUR: 'it returns false'. Refute it at one input. -/
def streamApartWrong : ChangeSpec := { name := "streamApart", fn := fun _ => fun
  | [d1, d2] => { results := [.lit (.bool false)], args := [d1, d2] }
  | _ => none }
def StreamApartWrongFalsely : Prop := streamApartRow.holds Try.pinned (OpenSpec.ofChange streamApartWrong)

/-- 'godwitlaw04.StreamNothing': WHATEVER THE INPUT: true; the input reads as it did. -/
def streamNothingSpec : ChangeSpec := { name := "streamNothing", fn := fun _ => fun
  | [d] => { results := [.lit (.bool true)], args := [d] }
  | _ => none }
def streamNothingRow : OpenClaim := { program := "ytoojcpiigkmhiaa", sum := "2504b94a11d6957a6f6a342ad011d2c1c531f4dbfc8f0650a508ba59a52caf11", func := "godwit/godwitlaw04.StreamNothing", spec := "streamNothing", unfollowed := true, recurses := true, apart := false }
def StreamNothingSaid : Prop := streamNothingRow.holds Try.pinned (OpenSpec.ofChange streamNothingSpec)

/-- ITS FALSE NEIGHBOUR: 'it returns false'. Refute it at one input. -/
def streamNothingWrong : ChangeSpec := { name := "streamNothing", fn := fun _ => fun
  | [d] => { results := [.lit (.bool false)], args := [d] }
  | _ => none }
def StreamNothingWrongFalsely : Prop := streamNothingRow.holds Try.pinned (OpenSpec.ofChange streamNothingWrong)

/- THE SECOND FORM. 'bulk': how many values and letters a reading holds, each counted each time it is reached (what is shared counts as often as it is met; a slice's spare places count too). A statement '..UptoSaid' is the law's where the arguments, and the package variables that the reading takes, are together of bulk at most 1048576: NARROWER than '..Said'. Prove '..Said' where nothing that the law and all that it calls make is longer than what came in: it says more and counts as full. Else prove '..UptoSaid'. A law counts once. -/
mutual
def uptoBulk {H : Type} : DataW H → Nat
  | .lit (.string bytes) => bytes.length + 1
  | .lit _ => 1
  | .nil => 1
  | .ptr d => uptoBulk d + 1
  | .slice elems spare => uptoBulkAll elems + uptoBulkAll spare + 1
  | .agg parts => uptoBulkAll parts + 1
  | .iface _ d => uptoBulk d + 1
  | .map entries => uptoBulkEntries entries + 1
  | .held _ => 1
def uptoBulkAll {H : Type} : List (DataW H) → Nat
  | [] => 0
  | d :: r => uptoBulk d + uptoBulkAll r
def uptoBulkEntries {H : Type} : List (Lit × DataW H) → Nat
  | [] => 0
  | x :: r => uptoBulkEntry x + uptoBulkEntries r
def uptoBulkEntry {H : Type} : Lit × DataW H → Nat
  | (.string bytes, d) => bytes.length + uptoBulk d + 1
  | (_, d) => uptoBulk d + 1
 end
def uptoSmall : (H : Type) → List (DataW H) → Bool := fun _ ds => decide (uptoBulkAll ds ≤ 1048576)
def OpenSpec.upto (s : _root_.Go.ChangeSpec) : _root_.Go.OpenSpec := { _root_.Go.OpenSpec.ofChange s with cond := some uptoSmall }

/-- 'godwitlaw04.StreamIs', WHERE WHAT IT READS IS OF BULK AT MOST 1048576: true; the input reads as it did. -/
def streamIsUptoRow : OpenClaim := { program := "ytoojcpiigkmhiaa", sum := "2504b94a11d6957a6f6a342ad011d2c1c531f4dbfc8f0650a508ba59a52caf11", func := "godwit/godwitlaw04.StreamIs", spec := "streamIs", unfollowed := true, recurses := true, apart := false, narrowed := true }
def StreamIsUptoSaid : Prop := streamIsUptoRow.holds Try.pinned (OpenSpec.upto streamIsSpec)

/-- 'godwitlaw04.StreamCuts', WHERE WHAT IT READS IS OF BULK AT MOST 1048576: true; the input reads as it did. -/
def streamCutsUptoRow : OpenClaim := { program := "ytoojcpiigkmhiaa", sum := "2504b94a11d6957a6f6a342ad011d2c1c531f4dbfc8f0650a508ba59a52caf11", func := "godwit/godwitlaw04.StreamCuts", spec := "streamCuts", unfollowed := true, recurses := true, apart := false, narrowed := true }
def StreamCutsUptoSaid : Prop := streamCutsUptoRow.holds Try.pinned (OpenSpec.upto streamCutsSpec)

/-- 'godwitlaw04.StreamBack', WHERE WHAT IT READS IS OF BULK AT MOST 1048576: true; the input reads as it did. -/
def streamBackUptoRow : OpenClaim := { program := "ytoojcpiigkmhiaa", sum := "2504b94a11d6957a6f6a342ad011d2c1c531f4dbfc8f0650a508ba59a52caf11", func := "godwit/godwitlaw04.StreamBack", spec := "streamBack", unfollowed := true, recurses := true, apart := false, narrowed := true }
def StreamBackUptoSaid : Prop := streamBackUptoRow.holds Try.pinned (OpenSpec.upto streamBackSpec)

/-- 'godwitlaw04.StreamDead', WHERE WHAT IT READS IS OF BULK AT MOST 1048576: true; the input reads as it did. -/
def streamDeadUptoRow : OpenClaim := { program := "ytoojcpiigkmhiaa", sum := "2504b94a11d6957a6f6a342ad011d2c1c531f4dbfc8f0650a508ba59a52caf11", func := "godwit/godwitlaw04.StreamDead", spec := "streamDead", unfollowed := true, recurses := true, apart := false, narrowed := true }
def StreamDeadUptoSaid : Prop := streamDeadUptoRow.holds Try.pinned (OpenSpec.upto streamDeadSpec)

/-- 'godwitlaw04.StreamWants', WHERE WHAT IT READS IS OF BULK AT MOST 1048576: true; the input reads as it did. -/
def streamWantsUptoRow : OpenClaim := { program := "ytoojcpiigkmhiaa", sum := "2504b94a11d6957a6f6a342ad011d2c1c531f4dbfc8f0650a508ba59a52caf11", func := "godwit/godwitlaw04.StreamWants", spec := "streamWants", unfollowed := true, recurses := true, apart := false, narrowed := true }
def StreamWantsUptoSaid : Prop := streamWantsUptoRow.holds Try.pinned (OpenSpec.upto streamWantsSpec)

/-- 'godwitlaw04.StreamApart', WHERE WHAT IT READS IS OF BULK AT MOST 1048576: true; the input reads as it did. -/
def streamApartUptoRow : OpenClaim := { program := "ytoojcpiigkmhiaa", sum := "2504b94a11d6957a6f6a342ad011d2c1c531f4dbfc8f0650a508ba59a52caf11", func := "godwit/godwitlaw04.StreamApart", spec := "streamApart", unfollowed := true, recurses := true, apart := false, narrowed := true }
def StreamApartUptoSaid : Prop := streamApartUptoRow.holds Try.pinned (OpenSpec.upto streamApartSpec)

/-- 'godwitlaw04.StreamNothing', WHERE WHAT IT READS IS OF BULK AT MOST 1048576: true; the input reads as it did. -/
def streamNothingUptoRow : OpenClaim := { program := "ytoojcpiigkmhiaa", sum := "2504b94a11d6957a6f6a342ad011d2c1c531f4dbfc8f0650a508ba59a52caf11", func := "godwit/godwitlaw04.StreamNothing", spec := "streamNothing", unfollowed := true, recurses := true, apart := false, narrowed := true }
def StreamNothingUptoSaid : Prop := streamNothingUptoRow.holds Try.pinned (OpenSpec.upto streamNothingSpec)

end Rows
end Go.Proofs.Ytoojcpiigkmhiaa
