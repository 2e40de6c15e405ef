/-
  No cell of these rows narrows 'for every input' (looked for: loops, veiled, ifaces, maps, wideKeys, modest, calm, conditions, laid).
  DERIVED. THE GIVEN ROWS OF THIS SEAT. 6 by the template 'for every input the law returns true; each argument reads behind the call as it read before'; 0 by the template 'total and deterministic' (their statements: YtbmciegldpeaiaaTotals.lean).
  GIVEN WITH THE SEED: the statements are not yours to turn. If you find one false, say at which input.
  Laid BY PROGRAM, IN A SANDBOX (cutbox-rows.mjs): the forced cells as the released guide's own fill.sh prints them over the translation ea3a76905efa76bd… (all of the seat's roots in one cut). By AI agents, Wed Nov 11 2026. No macro, syntax, notation, axiom, sorry.
-/
import Derived.Test.YtbmciegldpeaiaaChecked
import GoSem.Claim
import GoSem.ClaimJoined
import GoSem.ClaimMapViews
import Derived.JoinedTies
import Derived.KernelRfl
namespace Go.Proofs.Ytbmciegldpeaiaa
/- THE CELL 'sum', in the pinned program and in every row, IS THE sha256 OF THE DUMP (.gsa) THAT YtbmciegldpeaiaaProg.lean LOADS. Nothing in Lean hashes anything: it is a label: what it is worth is what the hold of that sum in a sandbox is worth. -/
noncomputable def Try.pinned : Pinned := { name := "ytbmciegldpeaiaa", sum := "ea3a76905efa76bdddda7c69a19dc549d6eaa106bf026904012cd3ed1d1e8cbb", checked := Try.checked }
namespace Rows
def none {H : Type} : Left H := { results := [], args := [] }

/-- 'godwitlaw11.SsiOrders': WHATEVER THE INPUT: true; the input reads as it did. -/
def ssiOrdersSpec : ChangeSpec := { name := "ssiOrders", fn := fun _ => fun
  | [d] => { results := [.lit (.bool true)], args := [d] }
  | _ => none }
def ssiOrdersRow : OpenClaim := { program := "ytbmciegldpeaiaa", sum := "ea3a76905efa76bdddda7c69a19dc549d6eaa106bf026904012cd3ed1d1e8cbb", func := "godwit/godwitlaw11.SsiOrders", spec := "ssiOrders", inPlace := ["internal/bytealg.Compare"], unfollowed := true, recurses := true, plainKeys := false, apart := false }
def SsiOrdersSaid : Prop := ssiOrdersRow.holds Try.pinned (OpenSpec.ofChange ssiOrdersSpec)

/-- ITS FALSE NEIGHBOUR: 'it returns false'. Refute it at one input. -/
def ssiOrdersWrong : ChangeSpec := { name := "ssiOrders", fn := fun _ => fun
  | [d] => { results := [.lit (.bool false)], args := [d] }
  | _ => none }
def SsiOrdersWrongFalsely : Prop := ssiOrdersRow.holds Try.pinned (OpenSpec.ofChange ssiOrdersWrong)

/-- 'godwitlaw11.SsiPivots': WHATEVER THE INPUT: true; the input reads as it did. -/
def ssiPivotsSpec : ChangeSpec := { name := "ssiPivots", fn := fun _ => fun
  | [d] => { results := [.lit (.bool true)], args := [d] }
  | _ => none }
def ssiPivotsRow : OpenClaim := { program := "ytbmciegldpeaiaa", sum := "ea3a76905efa76bdddda7c69a19dc549d6eaa106bf026904012cd3ed1d1e8cbb", func := "godwit/godwitlaw11.SsiPivots", spec := "ssiPivots", inPlace := ["internal/bytealg.Compare"], unfollowed := true, recurses := true, plainKeys := false, apart := false }
def SsiPivotsSaid : Prop := ssiPivotsRow.holds Try.pinned (OpenSpec.ofChange ssiPivotsSpec)

/-- ITS FALSE NEIGHBOUR: 'it returns false'. Refute it at one input. -/
def ssiPivotsWrong : ChangeSpec := { name := "ssiPivots", fn := fun _ => fun
  | [d] => { results := [.lit (.bool false)], args := [d] }
  | _ => none }
def SsiPivotsWrongFalsely : Prop := ssiPivotsRow.holds Try.pinned (OpenSpec.ofChange ssiPivotsWrong)

/-- 'godwitlaw11.SsiAlone': WHATEVER THE INPUT: true; the input reads as it did. -/
def ssiAloneSpec : ChangeSpec := { name := "ssiAlone", fn := fun _ => fun
  | [d1, d2, d3] => { results := [.lit (.bool true)], args := [d1, d2, d3] }
  | _ => none }
def ssiAloneRow : OpenClaim := { program := "ytbmciegldpeaiaa", sum := "ea3a76905efa76bdddda7c69a19dc549d6eaa106bf026904012cd3ed1d1e8cbb", func := "godwit/godwitlaw11.SsiAlone", spec := "ssiAlone", inPlace := ["internal/bytealg.Compare"], unfollowed := true, recurses := true, plainKeys := false, apart := false }
def SsiAloneSaid : Prop := ssiAloneRow.holds Try.pinned (OpenSpec.ofChange ssiAloneSpec)

/-- ITS FALSE NEIGHBOUR: 'it returns false'. Refute it at one input. -/
def ssiAloneWrong : ChangeSpec := { name := "ssiAlone", fn := fun _ => fun
  | [d1, d2, d3] => { results := [.lit (.bool false)], args := [d1, d2, d3] }
  | _ => none }
def SsiAloneWrongFalsely : Prop := ssiAloneRow.holds Try.pinned (OpenSpec.ofChange ssiAloneWrong)

/-- 'godwitlaw11.SsiStill': WHATEVER THE INPUT: true; the input reads as it did. -/
def ssiStillSpec : ChangeSpec := { name := "ssiStill", fn := fun _ => fun
  | [d1, d2] => { results := [.lit (.bool true)], args := [d1, d2] }
  | _ => none }
def ssiStillRow : OpenClaim := { program := "ytbmciegldpeaiaa", sum := "ea3a76905efa76bdddda7c69a19dc549d6eaa106bf026904012cd3ed1d1e8cbb", func := "godwit/godwitlaw11.SsiStill", spec := "ssiStill", inPlace := ["internal/bytealg.Compare"], unfollowed := true, recurses := true, plainKeys := false, apart := false }
def SsiStillSaid : Prop := ssiStillRow.holds Try.pinned (OpenSpec.ofChange ssiStillSpec)

/-- ITS FALSE NEIGHBOUR: 'it returns false'. Refute it at one input. -/
def ssiStillWrong : ChangeSpec := { name := "ssiStill", fn := fun _ => fun
  | [d1, d2] => { results := [.lit (.bool false)], args := [d1, d2] }
  | _ => none }
def SsiStillWrongFalsely : Prop := ssiStillRow.holds Try.pinned (OpenSpec.ofChange ssiStillWrong)

/-- 'godwitlaw11.SsiCleans': WHATEVER THE INPUT: true; the input reads as it did. -/
def ssiCleansSpec : ChangeSpec := { name := "ssiCleans", fn := fun _ => fun
  | [d] => { results := [.lit (.bool true)], args := [d] }
  | _ => none }
def ssiCleansRow : OpenClaim := { program := "ytbmciegldpeaiaa", sum := "ea3a76905efa76bdddda7c69a19dc549d6eaa106bf026904012cd3ed1d1e8cbb", func := "godwit/godwitlaw11.SsiCleans", spec := "ssiCleans", inPlace := ["internal/bytealg.Compare"], unfollowed := true, recurses := true, plainKeys := false, apart := false }
def SsiCleansSaid : Prop := ssiCleansRow.holds Try.pinned (OpenSpec.ofChange ssiCleansSpec)

/-- ITS FALSE NEIGHBOUR: 'it returns false'. Refute it at one input. -/
def ssiCleansWrong : ChangeSpec := { name := "ssiCleans", fn := fun _ => fun
  | [d] => { results := [.lit (.bool false)], args := [d] }
  | _ => none }
def SsiCleansWrongFalsely : Prop := ssiCleansRow.holds Try.pinned (OpenSpec.ofChange ssiCleansWrong)

/-- 'godwitlaw11.SsiReaders': WHATEVER THE INPUT: true; the input reads as it did. -/
def ssiReadersSpec : ChangeSpec := { name := "ssiReaders", fn := fun _ => fun
  | [d1, d2] => { results := [.lit (.bool true)], args := [d1, d2] }
  | _ => none }
def ssiReadersRow : OpenClaim := { program := "ytbmciegldpeaiaa", sum := "ea3a76905efa76bdddda7c69a19dc549d6eaa106bf026904012cd3ed1d1e8cbb", func := "godwit/godwitlaw11.SsiReaders", spec := "ssiReaders", inPlace := ["internal/bytealg.Compare"], unfollowed := true, recurses := true, plainKeys := false, apart := false }
def SsiReadersSaid : Prop := ssiReadersRow.holds Try.pinned (OpenSpec.ofChange ssiReadersSpec)

/-- ITS FALSE NEIGHBOUR: 'it returns false'. Refute it at one input. -/
def ssiReadersWrong : ChangeSpec := { name := "ssiReaders", fn := fun _ => fun
  | [d1, d2] => { results := [.lit (.bool false)], args := [d1, d2] }
  | _ => none }
def SsiReadersWrongFalsely : Prop := ssiReadersRow.holds Try.pinned (OpenSpec.ofChange ssiReadersWrong)

/- THE SECOND FORM. 'bulk': how many values and letters a reading holds, each counted each time it is reached (what is shared counts as often as it is met; a slice's spare places count too). A statement '..UptoSaid' is the law's where the arguments, and the package variables that the reading takes, are together of bulk at most 1048576: NARROWER than '..Said'. Prove '..Said' where nothing that the law and all that it calls make is longer than what came in: it says more and counts as full. Else prove '..UptoSaid'. A law counts once. -/
mutual
def uptoBulk {H : Type} : DataW H → Nat
  | .lit (.string bytes) => bytes.length + 1
  | .lit _ => 1
  | .nil => 1
  | .ptr d => uptoBulk d + 1
  | .slice elems spare => uptoBulkAll elems + uptoBulkAll spare + 1
  | .agg parts => uptoBulkAll parts + 1
  | .iface _ d => uptoBulk d + 1
  | .map entries => uptoBulkEntries entries + 1
  | .held _ => 1
def uptoBulkAll {H : Type} : List (DataW H) → Nat
  | [] => 0
  | d :: r => uptoBulk d + uptoBulkAll r
def uptoBulkEntries {H : Type} : List (Lit × DataW H) → Nat
  | [] => 0
  | x :: r => uptoBulkEntry x + uptoBulkEntries r
def uptoBulkEntry {H : Type} : Lit × DataW H → Nat
  | (.string bytes, d) => bytes.length + uptoBulk d + 1
  | (_, d) => uptoBulk d + 1
 end
def uptoSmall : (H : Type) → List (DataW H) → Bool := fun _ ds => decide (uptoBulkAll ds ≤ 1048576)
def OpenSpec.upto (s : _root_.Go.ChangeSpec) : _root_.Go.OpenSpec := { _root_.Go.OpenSpec.ofChange s with cond := some uptoSmall }

/-- 'godwitlaw11.SsiOrders', WHERE WHAT IT READS IS OF BULK AT MOST 1048576: true; the input reads as it did. -/
def ssiOrdersUptoRow : OpenClaim := { program := "ytbmciegldpeaiaa", sum := "ea3a76905efa76bdddda7c69a19dc549d6eaa106bf026904012cd3ed1d1e8cbb", func := "godwit/godwitlaw11.SsiOrders", spec := "ssiOrders", inPlace := ["internal/bytealg.Compare"], unfollowed := true, recurses := true, plainKeys := false, apart := false, narrowed := true }
def SsiOrdersUptoSaid : Prop := ssiOrdersUptoRow.holds Try.pinned (OpenSpec.upto ssiOrdersSpec)

/-- 'godwitlaw11.SsiPivots', WHERE WHAT IT READS IS OF BULK AT MOST 1048576: true; the input reads as it did. -/
def ssiPivotsUptoRow : OpenClaim := { program := "ytbmciegldpeaiaa", sum := "ea3a76905efa76bdddda7c69a19dc549d6eaa106bf026904012cd3ed1d1e8cbb", func := "godwit/godwitlaw11.SsiPivots", spec := "ssiPivots", inPlace := ["internal/bytealg.Compare"], unfollowed := true, recurses := true, plainKeys := false, apart := false, narrowed := true }
def SsiPivotsUptoSaid : Prop := ssiPivotsUptoRow.holds Try.pinned (OpenSpec.upto ssiPivotsSpec)

/-- 'godwitlaw11.SsiAlone', WHERE WHAT IT READS IS OF BULK AT MOST 1048576: true; the input reads as it did. -/
def ssiAloneUptoRow : OpenClaim := { program := "ytbmciegldpeaiaa", sum := "ea3a76905efa76bdddda7c69a19dc549d6eaa106bf026904012cd3ed1d1e8cbb", func := "godwit/godwitlaw11.SsiAlone", spec := "ssiAlone", inPlace := ["internal/bytealg.Compare"], unfollowed := true, recurses := true, plainKeys := false, apart := false, narrowed := true }
def SsiAloneUptoSaid : Prop := ssiAloneUptoRow.holds Try.pinned (OpenSpec.upto ssiAloneSpec)

/-- 'godwitlaw11.SsiStill', WHERE WHAT IT READS IS OF BULK AT MOST 1048576: true; the input reads as it did. -/
def ssiStillUptoRow : OpenClaim := { program := "ytbmciegldpeaiaa", sum := "ea3a76905efa76bdddda7c69a19dc549d6eaa106bf026904012cd3ed1d1e8cbb", func := "godwit/godwitlaw11.SsiStill", spec := "ssiStill", inPlace := ["internal/bytealg.Compare"], unfollowed := true, recurses := true, plainKeys := false, apart := false, narrowed := true }
def SsiStillUptoSaid : Prop := ssiStillUptoRow.holds Try.pinned (OpenSpec.upto ssiStillSpec)

/-- 'godwitlaw11.SsiCleans', WHERE WHAT IT READS IS OF BULK AT MOST 1048576: true; the input reads as it did. -/
def ssiCleansUptoRow : OpenClaim := { program := "ytbmciegldpeaiaa", sum := "ea3a76905efa76bdddda7c69a19dc549d6eaa106bf026904012cd3ed1d1e8cbb", func := "godwit/godwitlaw11.SsiCleans", spec := "ssiCleans", inPlace := ["internal/bytealg.Compare"], unfollowed := true, recurses := true, plainKeys := false, apart := false, narrowed := true }
def SsiCleansUptoSaid : Prop := ssiCleansUptoRow.holds Try.pinned (OpenSpec.upto ssiCleansSpec)

/-- 'godwitlaw11.SsiReaders', WHERE WHAT IT READS IS OF BULK AT MOST 1048576: true; the input reads as it did. -/
def ssiReadersUptoRow : OpenClaim := { program := "ytbmciegldpeaiaa", sum := "ea3a76905efa76bdddda7c69a19dc549d6eaa106bf026904012cd3ed1d1e8cbb", func := "godwit/godwitlaw11.SsiReaders", spec := "ssiReaders", inPlace := ["internal/bytealg.Compare"], unfollowed := true, recurses := true, plainKeys := false, apart := false, narrowed := true }
def SsiReadersUptoSaid : Prop := ssiReadersUptoRow.holds Try.pinned (OpenSpec.upto ssiReadersSpec)

end Rows
end Go.Proofs.Ytbmciegldpeaiaa
