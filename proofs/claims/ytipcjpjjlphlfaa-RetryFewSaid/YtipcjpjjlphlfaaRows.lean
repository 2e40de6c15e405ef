/-
  No cell of these rows narrows 'for every input' (looked for: loops, veiled, ifaces, maps, wideKeys, modest, calm, conditions, laid).
  DERIVED. THE GIVEN ROWS OF THIS SEAT. 6 by the template 'for every input the law returns true; each argument reads behind the call as it read before'; 0 by the template 'total and deterministic' (their statements: YtipcjpjjlphlfaaTotals.lean).
  GIVEN WITH THE SEED: the statements are not yours to turn. If you find one false, say at which input.
  Laid BY PROGRAM, IN A SANDBOX (cutbox-rows.mjs): the forced cells as the released guide's own fill.sh prints them over the translation f5564d0f2eb36e05… (all of the seat's roots in one cut). By AI agents, Wed Nov 11 2026. No macro, syntax, notation, axiom, sorry.
-/
import Derived.Test.YtipcjpjjlphlfaaChecked
import GoSem.Claim
import GoSem.ClaimJoined
import GoSem.ClaimMapViews
import Derived.JoinedTies
import Derived.KernelRfl
namespace Go.Proofs.Ytipcjpjjlphlfaa
/- THE CELL 'sum', in the pinned program and in every row, IS THE sha256 OF THE DUMP (.gsa) THAT YtipcjpjjlphlfaaProg.lean LOADS. Nothing in Lean hashes anything: it is a label: what it is worth is what the hold of that sum in a sandbox is worth. -/
noncomputable def Try.pinned : Pinned := { name := "ytipcjpjjlphlfaa", sum := "f5564d0f2eb36e053dffc1200b88409f686031fcdfbf8cf979a827f728925386", checked := Try.checked }
namespace Rows
def none {H : Type} : Left H := { results := [], args := [] }

/-- 'godwitlaw20.RetryIs': WHATEVER THE INPUT: true; the input reads as it did. -/
def retryIsSpec : ChangeSpec := { name := "retryIs", fn := fun _ => fun
  | [d1, d2, d3, d4] => { results := [.lit (.bool true)], args := [d1, d2, d3, d4] }
  | _ => none }
def retryIsRow : OpenClaim := { program := "ytipcjpjjlphlfaa", sum := "f5564d0f2eb36e053dffc1200b88409f686031fcdfbf8cf979a827f728925386", func := "godwit/godwitlaw20.RetryIs", spec := "retryIs", unfollowed := true, recurses := true, apart := false }
def RetryIsSaid : Prop := retryIsRow.holds Try.pinned (OpenSpec.ofChange retryIsSpec)

/-- ITS FALSE NEIGHBOUR: 'it returns false'. Refute it at one input. -/
def retryIsWrong : ChangeSpec := { name := "retryIs", fn := fun _ => fun
  | [d1, d2, d3, d4] => { results := [.lit (.bool false)], args := [d1, d2, d3, d4] }
  | _ => none }
def RetryIsWrongFalsely : Prop := retryIsRow.holds Try.pinned (OpenSpec.ofChange retryIsWrong)

/-- 'godwitlaw20.RetryRises': WHATEVER THE INPUT: true; the input reads as it did. -/
def retryRisesSpec : ChangeSpec := { name := "retryRises", fn := fun _ => fun
  | [d] => { results := [.lit (.bool true)], args := [d] }
  | _ => none }
def retryRisesRow : OpenClaim := { program := "ytipcjpjjlphlfaa", sum := "f5564d0f2eb36e053dffc1200b88409f686031fcdfbf8cf979a827f728925386", func := "godwit/godwitlaw20.RetryRises", spec := "retryRises", unfollowed := true, recurses := true, apart := false }
def RetryRisesSaid : Prop := retryRisesRow.holds Try.pinned (OpenSpec.ofChange retryRisesSpec)

/-- ITS FALSE NEIGHBOUR: 'it returns false'. Refute it at one input. -/
def retryRisesWrong : ChangeSpec := { name := "retryRises", fn := fun _ => fun
  | [d] => { results := [.lit (.bool false)], args := [d] }
  | _ => none }
def RetryRisesWrongFalsely : Prop := retryRisesRow.holds Try.pinned (OpenSpec.ofChange retryRisesWrong)

/-- 'godwitlaw20.RetryBy': WHATEVER THE INPUT: true; the input reads as it did. -/
def retryBySpec : ChangeSpec := { name := "retryBy", fn := fun _ => fun
  | [d1, d2, d3] => { results := [.lit (.bool true)], args := [d1, d2, d3] }
  | _ => none }
def retryByRow : OpenClaim := { program := "ytipcjpjjlphlfaa", sum := "f5564d0f2eb36e053dffc1200b88409f686031fcdfbf8cf979a827f728925386", func := "godwit/godwitlaw20.RetryBy", spec := "retryBy", unfollowed := true, recurses := true, apart := false }
def RetryBySaid : Prop := retryByRow.holds Try.pinned (OpenSpec.ofChange retryBySpec)

/-- ITS FALSE NEIGHBOUR: 'it returns false'. Refute it at one input. -/
def retryByWrong : ChangeSpec := { name := "retryBy", fn := fun _ => fun
  | [d1, d2, d3] => { results := [.lit (.bool false)], args := [d1, d2, d3] }
  | _ => none }
def RetryByWrongFalsely : Prop := retryByRow.holds Try.pinned (OpenSpec.ofChange retryByWrong)

/-- 'godwitlaw20.RetrySpread': WHATEVER THE INPUT: true; the input reads as it did. -/
def retrySpreadSpec : ChangeSpec := { name := "retrySpread", fn := fun _ => fun
  | [d1, d2, d3] => { results := [.lit (.bool true)], args := [d1, d2, d3] }
  | _ => none }
def retrySpreadRow : OpenClaim := { program := "ytipcjpjjlphlfaa", sum := "f5564d0f2eb36e053dffc1200b88409f686031fcdfbf8cf979a827f728925386", func := "godwit/godwitlaw20.RetrySpread", spec := "retrySpread", unfollowed := true, recurses := true, apart := false }
def RetrySpreadSaid : Prop := retrySpreadRow.holds Try.pinned (OpenSpec.ofChange retrySpreadSpec)

/-- ITS FALSE NEIGHBOUR: 'it returns false'. Refute it at one input. -/
def retrySpreadWrong : ChangeSpec := { name := "retrySpread", fn := fun _ => fun
  | [d1, d2, d3] => { results := [.lit (.bool false)], args := [d1, d2, d3] }
  | _ => none }
def RetrySpreadWrongFalsely : Prop := retrySpreadRow.holds Try.pinned (OpenSpec.ofChange retrySpreadWrong)

/-- 'godwitlaw20.RetryDoubles': WHATEVER THE INPUT: true; the input reads as it did. -/
def retryDoublesSpec : ChangeSpec := { name := "retryDoubles", fn := fun _ => fun
  | [d1, d2] => { results := [.lit (.bool true)], args := [d1, d2] }
  | _ => none }
def retryDoublesRow : OpenClaim := { program := "ytipcjpjjlphlfaa", sum := "f5564d0f2eb36e053dffc1200b88409f686031fcdfbf8cf979a827f728925386", func := "godwit/godwitlaw20.RetryDoubles", spec := "retryDoubles", unfollowed := true, recurses := true, apart := false }
def RetryDoublesSaid : Prop := retryDoublesRow.holds Try.pinned (OpenSpec.ofChange retryDoublesSpec)

/-- ITS FALSE NEIGHBOUR: 'it returns false'. Refute it at one input. -/
def retryDoublesWrong : ChangeSpec := { name := "retryDoubles", fn := fun _ => fun
  | [d1, d2] => { results := [.lit (.bool false)], args := [d1, d2] }
  | _ => none }
def RetryDoublesWrongFalsely : Prop := retryDoublesRow.holds Try.pinned (OpenSpec.ofChange retryDoublesWrong)

/-- 'godwitlaw20.RetryFew': WHATEVER THE INPUT: true; the input reads as it did. -/
def retryFewSpec : ChangeSpec := { name := "retryFew", fn := fun _ => fun
  | [d1, d2, d3] => { results := [.lit (.bool true)], args := [d1, d2, d3] }
  | _ => none }
def retryFewRow : OpenClaim := { program := "ytipcjpjjlphlfaa", sum := "f5564d0f2eb36e053dffc1200b88409f686031fcdfbf8cf979a827f728925386", func := "godwit/godwitlaw20.RetryFew", spec := "retryFew", unfollowed := true, recurses := true, apart := false }
def RetryFewSaid : Prop := retryFewRow.holds Try.pinned (OpenSpec.ofChange retryFewSpec)

/-- ITS FALSE NEIGHBOUR: 'it returns false'. Refute it at one input. -/
def retryFewWrong : ChangeSpec := { name := "retryFew", fn := fun _ => fun
  | [d1, d2, d3] => { results := [.lit (.bool false)], args := [d1, d2, d3] }
  | _ => none }
def RetryFewWrongFalsely : Prop := retryFewRow.holds Try.pinned (OpenSpec.ofChange retryFewWrong)

/- THE SECOND FORM. 'bulk': how many values and letters a reading holds, each counted each time it is reached (what is shared counts as often as it is met; a slice's spare places count too). A statement '..UptoSaid' is the law's where the arguments, and the package variables that the reading takes, are together of bulk at most 1048576: NARROWER than '..Said'. Prove '..Said' where nothing that the law and all that it calls make is longer than what came in: it says more and counts as full. Else prove '..UptoSaid'. A law counts once. -/
mutual
def uptoBulk {H : Type} : DataW H → Nat
  | .lit (.string bytes) => bytes.length + 1
  | .lit _ => 1
  | .nil => 1
  | .ptr d => uptoBulk d + 1
  | .slice elems spare => uptoBulkAll elems + uptoBulkAll spare + 1
  | .agg parts => uptoBulkAll parts + 1
  | .iface _ d => uptoBulk d + 1
  | .map entries => uptoBulkEntries entries + 1
  | .held _ => 1
def uptoBulkAll {H : Type} : List (DataW H) → Nat
  | [] => 0
  | d :: r => uptoBulk d + uptoBulkAll r
def uptoBulkEntries {H : Type} : List (Lit × DataW H) → Nat
  | [] => 0
  | x :: r => uptoBulkEntry x + uptoBulkEntries r
def uptoBulkEntry {H : Type} : Lit × DataW H → Nat
  | (.string bytes, d) => bytes.length + uptoBulk d + 1
  | (_, d) => uptoBulk d + 1
 end
def uptoSmall : (H : Type) → List (DataW H) → Bool := fun _ ds => decide (uptoBulkAll ds ≤ 1048576)
def OpenSpec.upto (s : _root_.Go.ChangeSpec) : _root_.Go.OpenSpec := { _root_.Go.OpenSpec.ofChange s with cond := some uptoSmall }

/-- 'godwitlaw20.RetryIs', WHERE WHAT IT READS IS OF BULK AT MOST 1048576: true; the input reads as it did. -/
def retryIsUptoRow : OpenClaim := { program := "ytipcjpjjlphlfaa", sum := "f5564d0f2eb36e053dffc1200b88409f686031fcdfbf8cf979a827f728925386", func := "godwit/godwitlaw20.RetryIs", spec := "retryIs", unfollowed := true, recurses := true, apart := false, narrowed := true }
def RetryIsUptoSaid : Prop := retryIsUptoRow.holds Try.pinned (OpenSpec.upto retryIsSpec)

/-- 'godwitlaw20.RetryRises', WHERE WHAT IT READS IS OF BULK AT MOST 1048576: true; the input reads as it did. -/
def retryRisesUptoRow : OpenClaim := { program := "ytipcjpjjlphlfaa", sum := "f5564d0f2eb36e053dffc1200b88409f686031fcdfbf8cf979a827f728925386", func := "godwit/godwitlaw20.RetryRises", spec := "retryRises", unfollowed := true, recurses := true, apart := false, narrowed := true }
def RetryRisesUptoSaid : Prop := retryRisesUptoRow.holds Try.pinned (OpenSpec.upto retryRisesSpec)

/-- 'godwitlaw20.RetryBy', WHERE WHAT IT READS IS OF BULK AT MOST 1048576: true; the input reads as it did. -/
def retryByUptoRow : OpenClaim := { program := "ytipcjpjjlphlfaa", sum := "f5564d0f2eb36e053dffc1200b88409f686031fcdfbf8cf979a827f728925386", func := "godwit/godwitlaw20.RetryBy", spec := "retryBy", unfollowed := true, recurses := true, apart := false, narrowed := true }
def RetryByUptoSaid : Prop := retryByUptoRow.holds Try.pinned (OpenSpec.upto retryBySpec)

/-- 'godwitlaw20.RetrySpread', WHERE WHAT IT READS IS OF BULK AT MOST 1048576: true; the input reads as it did. -/
def retrySpreadUptoRow : OpenClaim := { program := "ytipcjpjjlphlfaa", sum := "f5564d0f2eb36e053dffc1200b88409f686031fcdfbf8cf979a827f728925386", func := "godwit/godwitlaw20.RetrySpread", spec := "retrySpread", unfollowed := true, recurses := true, apart := false, narrowed := true }
def RetrySpreadUptoSaid : Prop := retrySpreadUptoRow.holds Try.pinned (OpenSpec.upto retrySpreadSpec)

/-- 'godwitlaw20.RetryDoubles', WHERE WHAT IT READS IS OF BULK AT MOST 1048576: true; the input reads as it did. -/
def retryDoublesUptoRow : OpenClaim := { program := "ytipcjpjjlphlfaa", sum := "f5564d0f2eb36e053dffc1200b88409f686031fcdfbf8cf979a827f728925386", func := "godwit/godwitlaw20.RetryDoubles", spec := "retryDoubles", unfollowed := true, recurses := true, apart := false, narrowed := true }
def RetryDoublesUptoSaid : Prop := retryDoublesUptoRow.holds Try.pinned (OpenSpec.upto retryDoublesSpec)

/-- 'godwitlaw20.RetryFew', WHERE WHAT IT READS IS OF BULK AT MOST 1048576: true; the input reads as it did. -/
def retryFewUptoRow : OpenClaim := { program := "ytipcjpjjlphlfaa", sum := "f5564d0f2eb36e053dffc1200b88409f686031fcdfbf8cf979a827f728925386", func := "godwit/godwitlaw20.RetryFew", spec := "retryFew", unfollowed := true, recurses := true, apart := false, narrowed := true }
def RetryFewUptoSaid : Prop := retryFewUptoRow.holds Try.pinned (OpenSpec.upto retryFewSpec)

end Rows
end Go.Proofs.Ytipcjpjjlphlfaa
