/-
  No cell of these rows narrows 'for every input' (looked for: loops, veiled, ifaces, maps, wideKeys, modest, calm, conditions, laid).
  DERIVED. THE GIVEN ROWS OF THIS SEAT. 5 by the template 'for every input the law returns true; each argument reads behind the call as it read before'; 0 by the template 'total and deterministic' (their statements: YtmkcigfeebippaaTotals.lean).
  GIVEN WITH THE SEED: the statements are not yours to turn. If you find one false, say at which input.
  Laid BY PROGRAM, IN A SANDBOX (cutbox-rows.mjs): the forced cells as the released guide's own fill.sh prints them over the translation 84544287fd44e860… (all of the seat's roots in one cut). By AI agents, Wed Nov 11 2026. No macro, syntax, notation, axiom, sorry.
-/
import Derived.Test.YtmkcigfeebippaaChecked
import GoSem.Claim
import GoSem.ClaimJoined
import GoSem.ClaimMapViews
import Derived.JoinedTies
import Derived.KernelRfl
namespace Go.Proofs.Ytmkcigfeebippaa
/- THE CELL 'sum', in the pinned program and in every row, IS THE sha256 OF THE DUMP (.gsa) THAT YtmkcigfeebippaaProg.lean LOADS. Nothing in Lean hashes anything: it is a label: what it is worth is what the hold of that sum in a sandbox is worth. -/
noncomputable def Try.pinned : Pinned := { name := "ytmkcigfeebippaa", sum := "84544287fd44e860d703e35f14acbe52ebfec934b18f51ae6e04298f14d861cb", checked := Try.checked }
namespace Rows
def none {H : Type} : Left H := { results := [], args := [] }

/-- 'godwitlaw09.BufferGets': WHATEVER THE INPUT: true; the input reads as it did. -/
def bufferGetsSpec : ChangeSpec := { name := "bufferGets", fn := fun _ => fun
  | [d1, d2] => { results := [.lit (.bool true)], args := [d1, d2] }
  | _ => none }
def bufferGetsRow : OpenClaim := { program := "ytmkcigfeebippaa", sum := "84544287fd44e860d703e35f14acbe52ebfec934b18f51ae6e04298f14d861cb", func := "godwit/godwitlaw09.BufferGets", spec := "bufferGets", inPlace := ["internal/bytealg.Compare", "slices.overlaps[godwit/api.Write]"], unfollowed := true, recurses := true, apart := false }
def BufferGetsSaid : Prop := bufferGetsRow.holds Try.pinned (OpenSpec.ofChange bufferGetsSpec)

/-- ITS FALSE NEIGHBOUR: 'it returns false'. Refute it at one input. -/
def bufferGetsWrong : ChangeSpec := { name := "bufferGets", fn := fun _ => fun
  | [d1, d2] => { results := [.lit (.bool false)], args := [d1, d2] }
  | _ => none }
def BufferGetsWrongFalsely : Prop := bufferGetsRow.holds Try.pinned (OpenSpec.ofChange bufferGetsWrong)

/-- 'godwitlaw09.BufferOver': WHATEVER THE INPUT: true; the input reads as it did. -/
def bufferOverSpec : ChangeSpec := { name := "bufferOver", fn := fun _ => fun
  | [d1, d2, d3] => { results := [.lit (.bool true)], args := [d1, d2, d3] }
  | _ => none }
def bufferOverRow : OpenClaim := { program := "ytmkcigfeebippaa", sum := "84544287fd44e860d703e35f14acbe52ebfec934b18f51ae6e04298f14d861cb", func := "godwit/godwitlaw09.BufferOver", spec := "bufferOver", inPlace := ["internal/bytealg.Compare", "slices.overlaps[godwit/api.Write]"], unfollowed := true, recurses := true, apart := false }
def BufferOverSaid : Prop := bufferOverRow.holds Try.pinned (OpenSpec.ofChange bufferOverSpec)

/-- ITS FALSE NEIGHBOUR: 'it returns false'. Refute it at one input. -/
def bufferOverWrong : ChangeSpec := { name := "bufferOver", fn := fun _ => fun
  | [d1, d2, d3] => { results := [.lit (.bool false)], args := [d1, d2, d3] }
  | _ => none }
def BufferOverWrongFalsely : Prop := bufferOverRow.holds Try.pinned (OpenSpec.ofChange bufferOverWrong)

/-- 'godwitlaw09.BufferFull': WHATEVER THE INPUT: true; the input reads as it did. -/
def bufferFullSpec : ChangeSpec := { name := "bufferFull", fn := fun _ => fun
  | [d1, d2] => { results := [.lit (.bool true)], args := [d1, d2] }
  | _ => none }
def bufferFullRow : OpenClaim := { program := "ytmkcigfeebippaa", sum := "84544287fd44e860d703e35f14acbe52ebfec934b18f51ae6e04298f14d861cb", func := "godwit/godwitlaw09.BufferFull", spec := "bufferFull", inPlace := ["internal/bytealg.Compare", "slices.overlaps[godwit/api.Write]"], unfollowed := true, recurses := true, apart := false }
def BufferFullSaid : Prop := bufferFullRow.holds Try.pinned (OpenSpec.ofChange bufferFullSpec)

/-- ITS FALSE NEIGHBOUR: 'it returns false'. Refute it at one input. -/
def bufferFullWrong : ChangeSpec := { name := "bufferFull", fn := fun _ => fun
  | [d1, d2] => { results := [.lit (.bool false)], args := [d1, d2] }
  | _ => none }
def BufferFullWrongFalsely : Prop := bufferFullRow.holds Try.pinned (OpenSpec.ofChange bufferFullWrong)

/-- 'godwitlaw09.BufferAgain': WHATEVER THE INPUT: true; the input reads as it did. -/
def bufferAgainSpec : ChangeSpec := { name := "bufferAgain", fn := fun _ => fun
  | [d1, d2, d3] => { results := [.lit (.bool true)], args := [d1, d2, d3] }
  | _ => none }
def bufferAgainRow : OpenClaim := { program := "ytmkcigfeebippaa", sum := "84544287fd44e860d703e35f14acbe52ebfec934b18f51ae6e04298f14d861cb", func := "godwit/godwitlaw09.BufferAgain", spec := "bufferAgain", inPlace := ["internal/bytealg.Compare", "slices.overlaps[godwit/api.Write]"], unfollowed := true, recurses := true, apart := false }
def BufferAgainSaid : Prop := bufferAgainRow.holds Try.pinned (OpenSpec.ofChange bufferAgainSpec)

/-- ITS FALSE NEIGHBOUR: 'it returns false'. Refute it at one input. -/
def bufferAgainWrong : ChangeSpec := { name := "bufferAgain", fn := fun _ => fun
  | [d1, d2, d3] => { results := [.lit (.bool false)], args := [d1, d2, d3] }
  | _ => none }
def BufferAgainWrongFalsely : Prop := bufferAgainRow.holds Try.pinned (OpenSpec.ofChange bufferAgainWrong)

/-- 'godwitlaw09.BufferRange': WHATEVER THE INPUT: true; the input reads as it did. -/
def bufferRangeSpec : ChangeSpec := { name := "bufferRange", fn := fun _ => fun
  | [d1, d2, d3] => { results := [.lit (.bool true)], args := [d1, d2, d3] }
  | _ => none }
def bufferRangeRow : OpenClaim := { program := "ytmkcigfeebippaa", sum := "84544287fd44e860d703e35f14acbe52ebfec934b18f51ae6e04298f14d861cb", func := "godwit/godwitlaw09.BufferRange", spec := "bufferRange", inPlace := ["internal/bytealg.Compare", "slices.overlaps[godwit/api.Write]"], unfollowed := true, recurses := true, apart := false }
def BufferRangeSaid : Prop := bufferRangeRow.holds Try.pinned (OpenSpec.ofChange bufferRangeSpec)

/-- ITS FALSE NEIGHBOUR: 'it returns false'. Refute it at one input. -/
def bufferRangeWrong : ChangeSpec := { name := "bufferRange", fn := fun _ => fun
  | [d1, d2, d3] => { results := [.lit (.bool false)], args := [d1, d2, d3] }
  | _ => none }
def BufferRangeWrongFalsely : Prop := bufferRangeRow.holds Try.pinned (OpenSpec.ofChange bufferRangeWrong)

/- THE SECOND FORM. 'bulk': how many values and letters a reading holds, each counted each time it is reached (what is shared counts as often as it is met; a slice's spare places count too). A statement '..UptoSaid' is the law's where the arguments, and the package variables that the reading takes, are together of bulk at most 1048576: NARROWER than '..Said'. Prove '..Said' where nothing that the law and all that it calls make is longer than what came in: it says more and counts as full. Else prove '..UptoSaid'. A law counts once. -/
mutual
def uptoBulk {H : Type} : DataW H → Nat
  | .lit (.string bytes) => bytes.length + 1
  | .lit _ => 1
  | .nil => 1
  | .ptr d => uptoBulk d + 1
  | .slice elems spare => uptoBulkAll elems + uptoBulkAll spare + 1
  | .agg parts => uptoBulkAll parts + 1
  | .iface _ d => uptoBulk d + 1
  | .map entries => uptoBulkEntries entries + 1
  | .held _ => 1
def uptoBulkAll {H : Type} : List (DataW H) → Nat
  | [] => 0
  | d :: r => uptoBulk d + uptoBulkAll r
def uptoBulkEntries {H : Type} : List (Lit × DataW H) → Nat
  | [] => 0
  | x :: r => uptoBulkEntry x + uptoBulkEntries r
def uptoBulkEntry {H : Type} : Lit × DataW H → Nat
  | (.string bytes, d) => bytes.length + uptoBulk d + 1
  | (_, d) => uptoBulk d + 1
 end
def uptoSmall : (H : Type) → List (DataW H) → Bool := fun _ ds => decide (uptoBulkAll ds ≤ 1048576)
def OpenSpec.upto (s : _root_.Go.ChangeSpec) : _root_.Go.OpenSpec := { _root_.Go.OpenSpec.ofChange s with cond := some uptoSmall }

/-- 'godwitlaw09.BufferGets', WHERE WHAT IT READS IS OF BULK AT MOST 1048576: true; the input reads as it did. -/
def bufferGetsUptoRow : OpenClaim := { program := "ytmkcigfeebippaa", sum := "84544287fd44e860d703e35f14acbe52ebfec934b18f51ae6e04298f14d861cb", func := "godwit/godwitlaw09.BufferGets", spec := "bufferGets", inPlace := ["internal/bytealg.Compare", "slices.overlaps[godwit/api.Write]"], unfollowed := true, recurses := true, apart := false, narrowed := true }
def BufferGetsUptoSaid : Prop := bufferGetsUptoRow.holds Try.pinned (OpenSpec.upto bufferGetsSpec)

/-- 'godwitlaw09.BufferOver', WHERE WHAT IT READS IS OF BULK AT MOST 1048576: true; the input reads as it did. -/
def bufferOverUptoRow : OpenClaim := { program := "ytmkcigfeebippaa", sum := "84544287fd44e860d703e35f14acbe52ebfec934b18f51ae6e04298f14d861cb", func := "godwit/godwitlaw09.BufferOver", spec := "bufferOver", inPlace := ["internal/bytealg.Compare", "slices.overlaps[godwit/api.Write]"], unfollowed := true, recurses := true, apart := false, narrowed := true }
def BufferOverUptoSaid : Prop := bufferOverUptoRow.holds Try.pinned (OpenSpec.upto bufferOverSpec)

/-- 'godwitlaw09.BufferFull', WHERE WHAT IT READS IS OF BULK AT MOST 1048576: true; the input reads as it did. -/
def bufferFullUptoRow : OpenClaim := { program := "ytmkcigfeebippaa", sum := "84544287fd44e860d703e35f14acbe52ebfec934b18f51ae6e04298f14d861cb", func := "godwit/godwitlaw09.BufferFull", spec := "bufferFull", inPlace := ["internal/bytealg.Compare", "slices.overlaps[godwit/api.Write]"], unfollowed := true, recurses := true, apart := false, narrowed := true }
def BufferFullUptoSaid : Prop := bufferFullUptoRow.holds Try.pinned (OpenSpec.upto bufferFullSpec)

/-- 'godwitlaw09.BufferAgain', WHERE WHAT IT READS IS OF BULK AT MOST 1048576: true; the input reads as it did. -/
def bufferAgainUptoRow : OpenClaim := { program := "ytmkcigfeebippaa", sum := "84544287fd44e860d703e35f14acbe52ebfec934b18f51ae6e04298f14d861cb", func := "godwit/godwitlaw09.BufferAgain", spec := "bufferAgain", inPlace := ["internal/bytealg.Compare", "slices.overlaps[godwit/api.Write]"], unfollowed := true, recurses := true, apart := false, narrowed := true }
def BufferAgainUptoSaid : Prop := bufferAgainUptoRow.holds Try.pinned (OpenSpec.upto bufferAgainSpec)

/-- 'godwitlaw09.BufferRange', WHERE WHAT IT READS IS OF BULK AT MOST 1048576: true; the input reads as it did. -/
def bufferRangeUptoRow : OpenClaim := { program := "ytmkcigfeebippaa", sum := "84544287fd44e860d703e35f14acbe52ebfec934b18f51ae6e04298f14d861cb", func := "godwit/godwitlaw09.BufferRange", spec := "bufferRange", inPlace := ["internal/bytealg.Compare", "slices.overlaps[godwit/api.Write]"], unfollowed := true, recurses := true, apart := false, narrowed := true }
def BufferRangeUptoSaid : Prop := bufferRangeUptoRow.holds Try.pinned (OpenSpec.upto bufferRangeSpec)

end Rows
end Go.Proofs.Ytmkcigfeebippaa
