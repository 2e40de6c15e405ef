/-
  No cell of these rows narrows 'for every input' (looked for: loops, veiled, ifaces, maps, wideKeys, modest, calm, conditions, laid).
  DERIVED. THE GIVEN ROWS OF THIS SEAT. 6 by the template 'for every input the law returns true; each argument reads behind the call as it read before'; 0 by the template 'total and deterministic' (their statements: YtbojepclnfnmcaaTotals.lean).
  GIVEN WITH THE SEED: the statements are not yours to turn. If you find one false, say at which input.
  Laid BY PROGRAM, IN A SANDBOX (cutbox-rows.mjs): the forced cells as the released guide's own fill.sh prints them over the translation 042dc9c85ddb344b… (all of the seat's roots in one cut). By AI agents, Wed Nov 11 2026. No macro, syntax, notation, axiom, sorry.
-/
import Derived.Test.YtbojepclnfnmcaaChecked
import GoSem.Claim
import GoSem.ClaimJoined
import GoSem.ClaimMapViews
import Derived.JoinedTies
import Derived.KernelRfl
namespace Go.Proofs.Ytbojepclnfnmcaa
/- THE CELL 'sum', in the pinned program and in every row, IS THE sha256 OF THE DUMP (.gsa) THAT YtbojepclnfnmcaaProg.lean LOADS. Nothing in Lean hashes anything: it is a label: what it is worth is what the hold of that sum in a sandbox is worth. -/
noncomputable def Try.pinned : Pinned := { name := "ytbojepclnfnmcaa", sum := "042dc9c85ddb344b7fb6bb0609cf424e88efc0db267c0222d010f568aa6ef8ef", checked := Try.checked }
namespace Rows
def none {H : Type} : Left H := { results := [], args := [] }

/-- 'godwitlaw08.StoreIs': WHATEVER THE INPUT: true; the input reads as it did. -/
def storeIsSpec : ChangeSpec := { name := "storeIs", fn := fun _ => fun
  | [d1, d2, d3, d4, d5, d6] => { results := [.lit (.bool true)], args := [d1, d2, d3, d4, d5, d6] }
  | _ => none }
def storeIsRow : OpenClaim := { program := "ytbojepclnfnmcaa", sum := "042dc9c85ddb344b7fb6bb0609cf424e88efc0db267c0222d010f568aa6ef8ef", func := "godwit/godwitlaw08.StoreIs", spec := "storeIs", inPlace := ["internal/bytealg.Compare", "slices.overlaps[[]byte]", "slices.overlaps[godwit/chain.Chain]"], unfollowed := true, recurses := true, apart := false }
def StoreIsSaid : Prop := storeIsRow.holds Try.pinned (OpenSpec.ofChange storeIsSpec)

/-- ITS FALSE NEIGHBOUR: 'it returns false'. Refute it at one input. -/
def storeIsWrong : ChangeSpec := { name := "storeIs", fn := fun _ => fun
  | [d1, d2, d3, d4, d5, d6] => { results := [.lit (.bool false)], args := [d1, d2, d3, d4, d5, d6] }
  | _ => none }
def StoreIsWrongFalsely : Prop := storeIsRow.holds Try.pinned (OpenSpec.ofChange storeIsWrong)

/-- 'godwitlaw08.StoreSees': WHATEVER THE INPUT: true; the input reads as it did. -/
def storeSeesSpec : ChangeSpec := { name := "storeSees", fn := fun _ => fun
  | [d1, d2, d3, d4] => { results := [.lit (.bool true)], args := [d1, d2, d3, d4] }
  | _ => none }
def storeSeesRow : OpenClaim := { program := "ytbojepclnfnmcaa", sum := "042dc9c85ddb344b7fb6bb0609cf424e88efc0db267c0222d010f568aa6ef8ef", func := "godwit/godwitlaw08.StoreSees", spec := "storeSees", inPlace := ["internal/bytealg.Compare", "slices.overlaps[[]byte]", "slices.overlaps[godwit/chain.Chain]"], unfollowed := true, recurses := true, apart := false }
def StoreSeesSaid : Prop := storeSeesRow.holds Try.pinned (OpenSpec.ofChange storeSeesSpec)

/-- ITS FALSE NEIGHBOUR: 'it returns false'. Refute it at one input. -/
def storeSeesWrong : ChangeSpec := { name := "storeSees", fn := fun _ => fun
  | [d1, d2, d3, d4] => { results := [.lit (.bool false)], args := [d1, d2, d3, d4] }
  | _ => none }
def StoreSeesWrongFalsely : Prop := storeSeesRow.holds Try.pinned (OpenSpec.ofChange storeSeesWrong)

/-- 'godwitlaw08.StoreScans': WHATEVER THE INPUT: true; the input reads as it did. -/
def storeScansSpec : ChangeSpec := { name := "storeScans", fn := fun _ => fun
  | [d1, d2, d3, d4] => { results := [.lit (.bool true)], args := [d1, d2, d3, d4] }
  | _ => none }
def storeScansRow : OpenClaim := { program := "ytbojepclnfnmcaa", sum := "042dc9c85ddb344b7fb6bb0609cf424e88efc0db267c0222d010f568aa6ef8ef", func := "godwit/godwitlaw08.StoreScans", spec := "storeScans", inPlace := ["internal/bytealg.Compare", "slices.overlaps[[]byte]", "slices.overlaps[godwit/chain.Chain]"], unfollowed := true, recurses := true, apart := false }
def StoreScansSaid : Prop := storeScansRow.holds Try.pinned (OpenSpec.ofChange storeScansSpec)

/-- ITS FALSE NEIGHBOUR: 'it returns false'. Refute it at one input. -/
def storeScansWrong : ChangeSpec := { name := "storeScans", fn := fun _ => fun
  | [d1, d2, d3, d4] => { results := [.lit (.bool false)], args := [d1, d2, d3, d4] }
  | _ => none }
def StoreScansWrongFalsely : Prop := storeScansRow.holds Try.pinned (OpenSpec.ofChange storeScansWrong)

/-- 'godwitlaw08.StoreVacuums': WHATEVER THE INPUT: true; the input reads as it did. -/
def storeVacuumsSpec : ChangeSpec := { name := "storeVacuums", fn := fun _ => fun
  | [d1, d2, d3, d4] => { results := [.lit (.bool true)], args := [d1, d2, d3, d4] }
  | _ => none }
def storeVacuumsRow : OpenClaim := { program := "ytbojepclnfnmcaa", sum := "042dc9c85ddb344b7fb6bb0609cf424e88efc0db267c0222d010f568aa6ef8ef", func := "godwit/godwitlaw08.StoreVacuums", spec := "storeVacuums", inPlace := ["internal/bytealg.Compare", "slices.overlaps[[]byte]", "slices.overlaps[godwit/chain.Chain]"], unfollowed := true, recurses := true, apart := false }
def StoreVacuumsSaid : Prop := storeVacuumsRow.holds Try.pinned (OpenSpec.ofChange storeVacuumsSpec)

/-- ITS FALSE NEIGHBOUR: 'it returns false'. Refute it at one input. -/
def storeVacuumsWrong : ChangeSpec := { name := "storeVacuums", fn := fun _ => fun
  | [d1, d2, d3, d4] => { results := [.lit (.bool false)], args := [d1, d2, d3, d4] }
  | _ => none }
def StoreVacuumsWrongFalsely : Prop := storeVacuumsRow.holds Try.pinned (OpenSpec.ofChange storeVacuumsWrong)

/-- 'godwitlaw08.StoreRanges': WHATEVER THE INPUT: true; the input reads as it did. -/
def storeRangesSpec : ChangeSpec := { name := "storeRanges", fn := fun _ => fun
  | [d1, d2, d3, d4] => { results := [.lit (.bool true)], args := [d1, d2, d3, d4] }
  | _ => none }
def storeRangesRow : OpenClaim := { program := "ytbojepclnfnmcaa", sum := "042dc9c85ddb344b7fb6bb0609cf424e88efc0db267c0222d010f568aa6ef8ef", func := "godwit/godwitlaw08.StoreRanges", spec := "storeRanges", inPlace := ["internal/bytealg.Compare", "slices.overlaps[[]byte]", "slices.overlaps[godwit/chain.Chain]"], unfollowed := true, recurses := true, apart := false }
def StoreRangesSaid : Prop := storeRangesRow.holds Try.pinned (OpenSpec.ofChange storeRangesSpec)

/-- ITS FALSE NEIGHBOUR: 'it returns false'. Refute it at one input. -/
def storeRangesWrong : ChangeSpec := { name := "storeRanges", fn := fun _ => fun
  | [d1, d2, d3, d4] => { results := [.lit (.bool false)], args := [d1, d2, d3, d4] }
  | _ => none }
def StoreRangesWrongFalsely : Prop := storeRangesRow.holds Try.pinned (OpenSpec.ofChange storeRangesWrong)

/-- 'godwitlaw08.StoreStill': WHATEVER THE INPUT: true; the input reads as it did. -/
def storeStillSpec : ChangeSpec := { name := "storeStill", fn := fun _ => fun
  | [d1, d2, d3] => { results := [.lit (.bool true)], args := [d1, d2, d3] }
  | _ => none }
def storeStillRow : OpenClaim := { program := "ytbojepclnfnmcaa", sum := "042dc9c85ddb344b7fb6bb0609cf424e88efc0db267c0222d010f568aa6ef8ef", func := "godwit/godwitlaw08.StoreStill", spec := "storeStill", inPlace := ["internal/bytealg.Compare", "slices.overlaps[[]byte]", "slices.overlaps[godwit/chain.Chain]"], unfollowed := true, recurses := true, apart := false }
def StoreStillSaid : Prop := storeStillRow.holds Try.pinned (OpenSpec.ofChange storeStillSpec)

/-- ITS FALSE NEIGHBOUR: 'it returns false'. Refute it at one input. -/
def storeStillWrong : ChangeSpec := { name := "storeStill", fn := fun _ => fun
  | [d1, d2, d3] => { results := [.lit (.bool false)], args := [d1, d2, d3] }
  | _ => none }
def StoreStillWrongFalsely : Prop := storeStillRow.holds Try.pinned (OpenSpec.ofChange storeStillWrong)

/- THE SECOND FORM. 'bulk': how many values and letters a reading holds, each counted each time it is reached (what is shared counts as often as it is met; a slice's spare places count too). A statement '..UptoSaid' is the law's where the arguments, and the package variables that the reading takes, are together of bulk at most 1048576: NARROWER than '..Said'. Prove '..Said' where nothing that the law and all that it calls make is longer than what came in: it says more and counts as full. Else prove '..UptoSaid'. A law counts once. -/
mutual
def uptoBulk {H : Type} : DataW H → Nat
  | .lit (.string bytes) => bytes.length + 1
  | .lit _ => 1
  | .nil => 1
  | .ptr d => uptoBulk d + 1
  | .slice elems spare => uptoBulkAll elems + uptoBulkAll spare + 1
  | .agg parts => uptoBulkAll parts + 1
  | .iface _ d => uptoBulk d + 1
  | .map entries => uptoBulkEntries entries + 1
  | .held _ => 1
def uptoBulkAll {H : Type} : List (DataW H) → Nat
  | [] => 0
  | d :: r => uptoBulk d + uptoBulkAll r
def uptoBulkEntries {H : Type} : List (Lit × DataW H) → Nat
  | [] => 0
  | x :: r => uptoBulkEntry x + uptoBulkEntries r
def uptoBulkEntry {H : Type} : Lit × DataW H → Nat
  | (.string bytes, d) => bytes.length + uptoBulk d + 1
  | (_, d) => uptoBulk d + 1
 end
def uptoSmall : (H : Type) → List (DataW H) → Bool := fun _ ds => decide (uptoBulkAll ds ≤ 1048576)
def OpenSpec.upto (s : _root_.Go.ChangeSpec) : _root_.Go.OpenSpec := { _root_.Go.OpenSpec.ofChange s with cond := some uptoSmall }

/-- 'godwitlaw08.StoreIs', WHERE WHAT IT READS IS OF BULK AT MOST 1048576: true; the input reads as it did. -/
def storeIsUptoRow : OpenClaim := { program := "ytbojepclnfnmcaa", sum := "042dc9c85ddb344b7fb6bb0609cf424e88efc0db267c0222d010f568aa6ef8ef", func := "godwit/godwitlaw08.StoreIs", spec := "storeIs", inPlace := ["internal/bytealg.Compare", "slices.overlaps[[]byte]", "slices.overlaps[godwit/chain.Chain]"], unfollowed := true, recurses := true, apart := false, narrowed := true }
def StoreIsUptoSaid : Prop := storeIsUptoRow.holds Try.pinned (OpenSpec.upto storeIsSpec)

/-- 'godwitlaw08.StoreSees', WHERE WHAT IT READS IS OF BULK AT MOST 1048576: true; the input reads as it did. -/
def storeSeesUptoRow : OpenClaim := { program := "ytbojepclnfnmcaa", sum := "042dc9c85ddb344b7fb6bb0609cf424e88efc0db267c0222d010f568aa6ef8ef", func := "godwit/godwitlaw08.StoreSees", spec := "storeSees", inPlace := ["internal/bytealg.Compare", "slices.overlaps[[]byte]", "slices.overlaps[godwit/chain.Chain]"], unfollowed := true, recurses := true, apart := false, narrowed := true }
def StoreSeesUptoSaid : Prop := storeSeesUptoRow.holds Try.pinned (OpenSpec.upto storeSeesSpec)

/-- 'godwitlaw08.StoreScans', WHERE WHAT IT READS IS OF BULK AT MOST 1048576: true; the input reads as it did. -/
def storeScansUptoRow : OpenClaim := { program := "ytbojepclnfnmcaa", sum := "042dc9c85ddb344b7fb6bb0609cf424e88efc0db267c0222d010f568aa6ef8ef", func := "godwit/godwitlaw08.StoreScans", spec := "storeScans", inPlace := ["internal/bytealg.Compare", "slices.overlaps[[]byte]", "slices.overlaps[godwit/chain.Chain]"], unfollowed := true, recurses := true, apart := false, narrowed := true }
def StoreScansUptoSaid : Prop := storeScansUptoRow.holds Try.pinned (OpenSpec.upto storeScansSpec)

/-- 'godwitlaw08.StoreVacuums', WHERE WHAT IT READS IS OF BULK AT MOST 1048576: true; the input reads as it did. -/
def storeVacuumsUptoRow : OpenClaim := { program := "ytbojepclnfnmcaa", sum := "042dc9c85ddb344b7fb6bb0609cf424e88efc0db267c0222d010f568aa6ef8ef", func := "godwit/godwitlaw08.StoreVacuums", spec := "storeVacuums", inPlace := ["internal/bytealg.Compare", "slices.overlaps[[]byte]", "slices.overlaps[godwit/chain.Chain]"], unfollowed := true, recurses := true, apart := false, narrowed := true }
def StoreVacuumsUptoSaid : Prop := storeVacuumsUptoRow.holds Try.pinned (OpenSpec.upto storeVacuumsSpec)

/-- 'godwitlaw08.StoreRanges', WHERE WHAT IT READS IS OF BULK AT MOST 1048576: true; the input reads as it did. -/
def storeRangesUptoRow : OpenClaim := { program := "ytbojepclnfnmcaa", sum := "042dc9c85ddb344b7fb6bb0609cf424e88efc0db267c0222d010f568aa6ef8ef", func := "godwit/godwitlaw08.StoreRanges", spec := "storeRanges", inPlace := ["internal/bytealg.Compare", "slices.overlaps[[]byte]", "slices.overlaps[godwit/chain.Chain]"], unfollowed := true, recurses := true, apart := false, narrowed := true }
def StoreRangesUptoSaid : Prop := storeRangesUptoRow.holds Try.pinned (OpenSpec.upto storeRangesSpec)

/-- 'godwitlaw08.StoreStill', WHERE WHAT IT READS IS OF BULK AT MOST 1048576: true; the input reads as it did. -/
def storeStillUptoRow : OpenClaim := { program := "ytbojepclnfnmcaa", sum := "042dc9c85ddb344b7fb6bb0609cf424e88efc0db267c0222d010f568aa6ef8ef", func := "godwit/godwitlaw08.StoreStill", spec := "storeStill", inPlace := ["internal/bytealg.Compare", "slices.overlaps[[]byte]", "slices.overlaps[godwit/chain.Chain]"], unfollowed := true, recurses := true, apart := false, narrowed := true }
def StoreStillUptoSaid : Prop := storeStillUptoRow.holds Try.pinned (OpenSpec.upto storeStillSpec)

end Rows
end Go.Proofs.Ytbojepclnfnmcaa
