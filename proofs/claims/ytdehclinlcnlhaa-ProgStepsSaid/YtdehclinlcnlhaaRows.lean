/-
  No cell of these rows narrows 'for every input' (looked for: loops, veiled, ifaces, maps, wideKeys, modest, calm, conditions, laid).
  DERIVED. THE GIVEN ROWS OF THIS SEAT. 6 by the template 'for every input the law returns true; each argument reads behind the call as it read before'; 0 by the template 'total and deterministic' (their statements: YtdehclinlcnlhaaTotals.lean).
  GIVEN WITH THE SEED: the statements are not yours to turn. If you find one false, say at which input.
  Laid BY PROGRAM, IN A SANDBOX (cutbox-rows.mjs): the forced cells as the released guide's own fill.sh prints them over the translation 0773de10b539c479… (all of the seat's roots in one cut). By AI agents, Wed Nov 11 2026. No macro, syntax, notation, axiom, sorry.
-/
import Derived.Test.YtdehclinlcnlhaaChecked
import GoSem.Claim
import GoSem.ClaimJoined
import GoSem.ClaimMapViews
import Derived.JoinedTies
import Derived.KernelRfl
namespace Go.Proofs.Ytdehclinlcnlhaa
/- THE CELL 'sum', in the pinned program and in every row, IS THE sha256 OF THE DUMP (.gsa) THAT YtdehclinlcnlhaaProg.lean LOADS. Nothing in Lean hashes anything: it is a label: what it is worth is what the hold of that sum in a sandbox is worth. -/
noncomputable def Try.pinned : Pinned := { name := "ytdehclinlcnlhaa", sum := "0773de10b539c47953e7307032e513160b09541d517d8ff8bb40e1dcb9c25b1f", checked := Try.checked }
namespace Rows
def none {H : Type} : Left H := { results := [], args := [] }

/-- 'godwitlaw19.ProgSteps': WHATEVER THE INPUT: true; the input reads as it did. -/
def progStepsSpec : ChangeSpec := { name := "progSteps", fn := fun _ => fun
  | [d1, d2] => { results := [.lit (.bool true)], args := [d1, d2] }
  | _ => none }
def progStepsRow : OpenClaim := { program := "ytdehclinlcnlhaa", sum := "0773de10b539c47953e7307032e513160b09541d517d8ff8bb40e1dcb9c25b1f", func := "godwit/godwitlaw19.ProgSteps", spec := "progSteps", inPlace := ["internal/bytealg.Compare", "slices.overlaps[godwit/api.Write]"], unfollowed := true, recurses := true, apart := false }
def ProgStepsSaid : Prop := progStepsRow.holds Try.pinned (OpenSpec.ofChange progStepsSpec)

/-- ITS FALSE NEIGHBOUR: 'it returns false'. Refute it at one input. -/
def progStepsWrong : ChangeSpec := { name := "progSteps", fn := fun _ => fun
  | [d1, d2] => { results := [.lit (.bool false)], args := [d1, d2] }
  | _ => none }
def ProgStepsWrongFalsely : Prop := progStepsRow.holds Try.pinned (OpenSpec.ofChange progStepsWrong)

/-- 'godwitlaw19.ProgReads': WHATEVER THE INPUT: true; the input reads as it did. -/
def progReadsSpec : ChangeSpec := { name := "progReads", fn := fun _ => fun
  | [d1, d2, d3] => { results := [.lit (.bool true)], args := [d1, d2, d3] }
  | _ => none }
def progReadsRow : OpenClaim := { program := "ytdehclinlcnlhaa", sum := "0773de10b539c47953e7307032e513160b09541d517d8ff8bb40e1dcb9c25b1f", func := "godwit/godwitlaw19.ProgReads", spec := "progReads", inPlace := ["internal/bytealg.Compare", "slices.overlaps[godwit/api.Write]"], unfollowed := true, recurses := true, apart := false }
def ProgReadsSaid : Prop := progReadsRow.holds Try.pinned (OpenSpec.ofChange progReadsSpec)

/-- ITS FALSE NEIGHBOUR: 'it returns false'. Refute it at one input. -/
def progReadsWrong : ChangeSpec := { name := "progReads", fn := fun _ => fun
  | [d1, d2, d3] => { results := [.lit (.bool false)], args := [d1, d2, d3] }
  | _ => none }
def ProgReadsWrongFalsely : Prop := progReadsRow.holds Try.pinned (OpenSpec.ofChange progReadsWrong)

/-- 'godwitlaw19.ProgVals': WHATEVER THE INPUT: true; the input reads as it did. -/
def progValsSpec : ChangeSpec := { name := "progVals", fn := fun _ => fun
  | [d1, d2] => { results := [.lit (.bool true)], args := [d1, d2] }
  | _ => none }
def progValsRow : OpenClaim := { program := "ytdehclinlcnlhaa", sum := "0773de10b539c47953e7307032e513160b09541d517d8ff8bb40e1dcb9c25b1f", func := "godwit/godwitlaw19.ProgVals", spec := "progVals", inPlace := ["internal/bytealg.Compare", "slices.overlaps[godwit/api.Write]"], unfollowed := true, recurses := true, apart := false }
def ProgValsSaid : Prop := progValsRow.holds Try.pinned (OpenSpec.ofChange progValsSpec)

/-- ITS FALSE NEIGHBOUR: 'it returns false'. Refute it at one input. -/
def progValsWrong : ChangeSpec := { name := "progVals", fn := fun _ => fun
  | [d1, d2] => { results := [.lit (.bool false)], args := [d1, d2] }
  | _ => none }
def ProgValsWrongFalsely : Prop := progValsRow.holds Try.pinned (OpenSpec.ofChange progValsWrong)

/-- 'godwitlaw19.ProgTouches': WHATEVER THE INPUT: true; the input reads as it did. -/
def progTouchesSpec : ChangeSpec := { name := "progTouches", fn := fun _ => fun
  | [d1, d2] => { results := [.lit (.bool true)], args := [d1, d2] }
  | _ => none }
def progTouchesRow : OpenClaim := { program := "ytdehclinlcnlhaa", sum := "0773de10b539c47953e7307032e513160b09541d517d8ff8bb40e1dcb9c25b1f", func := "godwit/godwitlaw19.ProgTouches", spec := "progTouches", inPlace := ["internal/bytealg.Compare", "slices.overlaps[godwit/api.Write]"], unfollowed := true, recurses := true, apart := false }
def ProgTouchesSaid : Prop := progTouchesRow.holds Try.pinned (OpenSpec.ofChange progTouchesSpec)

/-- ITS FALSE NEIGHBOUR: 'it returns false'. Refute it at one input. -/
def progTouchesWrong : ChangeSpec := { name := "progTouches", fn := fun _ => fun
  | [d1, d2] => { results := [.lit (.bool false)], args := [d1, d2] }
  | _ => none }
def ProgTouchesWrongFalsely : Prop := progTouchesRow.holds Try.pinned (OpenSpec.ofChange progTouchesWrong)

/-- 'godwitlaw19.ProgStops': WHATEVER THE INPUT: true; the input reads as it did. -/
def progStopsSpec : ChangeSpec := { name := "progStops", fn := fun _ => fun
  | [d1, d2] => { results := [.lit (.bool true)], args := [d1, d2] }
  | _ => none }
def progStopsRow : OpenClaim := { program := "ytdehclinlcnlhaa", sum := "0773de10b539c47953e7307032e513160b09541d517d8ff8bb40e1dcb9c25b1f", func := "godwit/godwitlaw19.ProgStops", spec := "progStops", inPlace := ["internal/bytealg.Compare", "slices.overlaps[godwit/api.Write]"], unfollowed := true, recurses := true, apart := false }
def ProgStopsSaid : Prop := progStopsRow.holds Try.pinned (OpenSpec.ofChange progStopsSpec)

/-- ITS FALSE NEIGHBOUR: 'it returns false'. Refute it at one input. -/
def progStopsWrong : ChangeSpec := { name := "progStops", fn := fun _ => fun
  | [d1, d2] => { results := [.lit (.bool false)], args := [d1, d2] }
  | _ => none }
def ProgStopsWrongFalsely : Prop := progStopsRow.holds Try.pinned (OpenSpec.ofChange progStopsWrong)

/-- 'godwitlaw19.ProgChains': WHATEVER THE INPUT: true; the input reads as it did. -/
def progChainsSpec : ChangeSpec := { name := "progChains", fn := fun _ => fun
  | [d1, d2, d3] => { results := [.lit (.bool true)], args := [d1, d2, d3] }
  | _ => none }
def progChainsRow : OpenClaim := { program := "ytdehclinlcnlhaa", sum := "0773de10b539c47953e7307032e513160b09541d517d8ff8bb40e1dcb9c25b1f", func := "godwit/godwitlaw19.ProgChains", spec := "progChains", inPlace := ["internal/bytealg.Compare", "slices.overlaps[godwit/api.Write]"], unfollowed := true, recurses := true, apart := false }
def ProgChainsSaid : Prop := progChainsRow.holds Try.pinned (OpenSpec.ofChange progChainsSpec)

/-- ITS FALSE NEIGHBOUR: 'it returns false'. Refute it at one input. -/
def progChainsWrong : ChangeSpec := { name := "progChains", fn := fun _ => fun
  | [d1, d2, d3] => { results := [.lit (.bool false)], args := [d1, d2, d3] }
  | _ => none }
def ProgChainsWrongFalsely : Prop := progChainsRow.holds Try.pinned (OpenSpec.ofChange progChainsWrong)

/- THE SECOND FORM. 'bulk': how many values and letters a reading holds, each counted each time it is reached (what is shared counts as often as it is met; a slice's spare places count too). A statement '..UptoSaid' is the law's where the arguments, and the package variables that the reading takes, are together of bulk at most 1048576: NARROWER than '..Said'. Prove '..Said' where nothing that the law and all that it calls make is longer than what came in: it says more and counts as full. Else prove '..UptoSaid'. A law counts once. -/
mutual
def uptoBulk {H : Type} : DataW H → Nat
  | .lit (.string bytes) => bytes.length + 1
  | .lit _ => 1
  | .nil => 1
  | .ptr d => uptoBulk d + 1
  | .slice elems spare => uptoBulkAll elems + uptoBulkAll spare + 1
  | .agg parts => uptoBulkAll parts + 1
  | .iface _ d => uptoBulk d + 1
  | .map entries => uptoBulkEntries entries + 1
  | .held _ => 1
def uptoBulkAll {H : Type} : List (DataW H) → Nat
  | [] => 0
  | d :: r => uptoBulk d + uptoBulkAll r
def uptoBulkEntries {H : Type} : List (Lit × DataW H) → Nat
  | [] => 0
  | x :: r => uptoBulkEntry x + uptoBulkEntries r
def uptoBulkEntry {H : Type} : Lit × DataW H → Nat
  | (.string bytes, d) => bytes.length + uptoBulk d + 1
  | (_, d) => uptoBulk d + 1
 end
def uptoSmall : (H : Type) → List (DataW H) → Bool := fun _ ds => decide (uptoBulkAll ds ≤ 1048576)
def OpenSpec.upto (s : _root_.Go.ChangeSpec) : _root_.Go.OpenSpec := { _root_.Go.OpenSpec.ofChange s with cond := some uptoSmall }

/-- 'godwitlaw19.ProgSteps', WHERE WHAT IT READS IS OF BULK AT MOST 1048576: true; the input reads as it did. -/
def progStepsUptoRow : OpenClaim := { program := "ytdehclinlcnlhaa", sum := "0773de10b539c47953e7307032e513160b09541d517d8ff8bb40e1dcb9c25b1f", func := "godwit/godwitlaw19.ProgSteps", spec := "progSteps", inPlace := ["internal/bytealg.Compare", "slices.overlaps[godwit/api.Write]"], unfollowed := true, recurses := true, apart := false, narrowed := true }
def ProgStepsUptoSaid : Prop := progStepsUptoRow.holds Try.pinned (OpenSpec.upto progStepsSpec)

/-- 'godwitlaw19.ProgReads', WHERE WHAT IT READS IS OF BULK AT MOST 1048576: true; the input reads as it did. -/
def progReadsUptoRow : OpenClaim := { program := "ytdehclinlcnlhaa", sum := "0773de10b539c47953e7307032e513160b09541d517d8ff8bb40e1dcb9c25b1f", func := "godwit/godwitlaw19.ProgReads", spec := "progReads", inPlace := ["internal/bytealg.Compare", "slices.overlaps[godwit/api.Write]"], unfollowed := true, recurses := true, apart := false, narrowed := true }
def ProgReadsUptoSaid : Prop := progReadsUptoRow.holds Try.pinned (OpenSpec.upto progReadsSpec)

/-- 'godwitlaw19.ProgVals', WHERE WHAT IT READS IS OF BULK AT MOST 1048576: true; the input reads as it did. -/
def progValsUptoRow : OpenClaim := { program := "ytdehclinlcnlhaa", sum := "0773de10b539c47953e7307032e513160b09541d517d8ff8bb40e1dcb9c25b1f", func := "godwit/godwitlaw19.ProgVals", spec := "progVals", inPlace := ["internal/bytealg.Compare", "slices.overlaps[godwit/api.Write]"], unfollowed := true, recurses := true, apart := false, narrowed := true }
def ProgValsUptoSaid : Prop := progValsUptoRow.holds Try.pinned (OpenSpec.upto progValsSpec)

/-- 'godwitlaw19.ProgTouches', WHERE WHAT IT READS IS OF BULK AT MOST 1048576: true; the input reads as it did. -/
def progTouchesUptoRow : OpenClaim := { program := "ytdehclinlcnlhaa", sum := "0773de10b539c47953e7307032e513160b09541d517d8ff8bb40e1dcb9c25b1f", func := "godwit/godwitlaw19.ProgTouches", spec := "progTouches", inPlace := ["internal/bytealg.Compare", "slices.overlaps[godwit/api.Write]"], unfollowed := true, recurses := true, apart := false, narrowed := true }
def ProgTouchesUptoSaid : Prop := progTouchesUptoRow.holds Try.pinned (OpenSpec.upto progTouchesSpec)

/-- 'godwitlaw19.ProgStops', WHERE WHAT IT READS IS OF BULK AT MOST 1048576: true; the input reads as it did. -/
def progStopsUptoRow : OpenClaim := { program := "ytdehclinlcnlhaa", sum := "0773de10b539c47953e7307032e513160b09541d517d8ff8bb40e1dcb9c25b1f", func := "godwit/godwitlaw19.ProgStops", spec := "progStops", inPlace := ["internal/bytealg.Compare", "slices.overlaps[godwit/api.Write]"], unfollowed := true, recurses := true, apart := false, narrowed := true }
def ProgStopsUptoSaid : Prop := progStopsUptoRow.holds Try.pinned (OpenSpec.upto progStopsSpec)

/-- 'godwitlaw19.ProgChains', WHERE WHAT IT READS IS OF BULK AT MOST 1048576: true; the input reads as it did. -/
def progChainsUptoRow : OpenClaim := { program := "ytdehclinlcnlhaa", sum := "0773de10b539c47953e7307032e513160b09541d517d8ff8bb40e1dcb9c25b1f", func := "godwit/godwitlaw19.ProgChains", spec := "progChains", inPlace := ["internal/bytealg.Compare", "slices.overlaps[godwit/api.Write]"], unfollowed := true, recurses := true, apart := false, narrowed := true }
def ProgChainsUptoSaid : Prop := progChainsUptoRow.holds Try.pinned (OpenSpec.upto progChainsSpec)

end Rows
end Go.Proofs.Ytdehclinlcnlhaa
