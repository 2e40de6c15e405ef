/-
  No cell of these rows narrows 'for every input' (looked for: loops, veiled, ifaces, maps, wideKeys, modest, calm, conditions, laid).
  DERIVED. THE GIVEN ROWS OF THIS SEAT. 6 by the template 'for every input the law returns true; each argument reads behind the call as it read before'; 0 by the template 'total and deterministic' (their statements: YtkblaobhhoebaaaGreatTotals.lean).
  GIVEN WITH THE SEED: the statements are not yours to turn. If you find one false, say at which input.
  Laid BY PROGRAM, IN A SANDBOX (cutbox-rows.mjs): the forced cells as the released guide's own fill.sh prints them over the translation f85192c618f0f9ee… (all of the seat's roots in one cut). By AI agents, Wed Nov 11 2026. No macro, syntax, notation, axiom, sorry.
-/
import Derived.Test.YtkblaobhhoebaaaGreatChecked
import GoSem.Claim
import GoSem.ClaimJoined
import GoSem.ClaimMapViews
import Derived.JoinedTies
import Derived.KernelRfl
namespace Go.Proofs.YtkblaobhhoebaaaGreat
/- THE CELL 'sum', in the pinned program and in every row, IS THE sha256 OF THE DUMP (.gsa) THAT YtkblaobhhoebaaaGreatProg.lean LOADS. Nothing in Lean hashes anything: it is a label: what it is worth is what the hold of that sum in a sandbox is worth. -/
noncomputable def Tryz.pinned : Pinned := { name := "ytkblaobhhoebaaagreat", sum := "f85192c618f0f9eea1430d1ffa61062a6f6a7645d287e64e7f728cee997dfe6b", checked := Tryz.checked }
namespace Rows
def none {H : Type} : Left H := { results := [], args := [] }

/-- 'godwitlaw14.TxnPlays': WHATEVER THE INPUT: true; the input reads as it did. -/
def txnPlaysSpec : ChangeSpec := { name := "txnPlays", fn := fun _ => fun
  | [d] => { results := [.lit (.bool true)], args := [d] }
  | _ => none }
def txnPlaysRow : OpenClaim := { program := "ytkblaobhhoebaaagreat", sum := "f85192c618f0f9eea1430d1ffa61062a6f6a7645d287e64e7f728cee997dfe6b", func := "godwit/godwitlaw14.TxnPlays", spec := "txnPlays", inPlace := ["internal/bytealg.Compare", "slices.overlaps[godwit/api.Write]", "internal/reflectlite.TypeOf", "slices.overlaps[[]byte]", "slices.overlaps[godwit/chain.Chain]"], unfollowed := true, recurses := true, plainKeys := false, apart := false }
def TxnPlaysSaid : Prop := txnPlaysRow.holds Tryz.pinned (OpenSpec.ofChange txnPlaysSpec)

/-- ITS FALSE NEIGHBOUR: 'it returns false'. Refute it at one input. -/
def txnPlaysWrong : ChangeSpec := { name := "txnPlays", fn := fun _ => fun
  | [d] => { results := [.lit (.bool false)], args := [d] }
  | _ => none }
def TxnPlaysWrongFalsely : Prop := txnPlaysRow.holds Tryz.pinned (OpenSpec.ofChange txnPlaysWrong)

/-- 'godwitlaw14.TxnSerial': WHATEVER THE INPUT: true; the input reads as it did. -/
def txnSerialSpec : ChangeSpec := { name := "txnSerial", fn := fun _ => fun
  | [d] => { results := [.lit (.bool true)], args := [d] }
  | _ => none }
def txnSerialRow : OpenClaim := { program := "ytkblaobhhoebaaagreat", sum := "f85192c618f0f9eea1430d1ffa61062a6f6a7645d287e64e7f728cee997dfe6b", func := "godwit/godwitlaw14.TxnSerial", spec := "txnSerial", inPlace := ["internal/bytealg.Compare", "slices.overlaps[godwit/api.Write]", "internal/reflectlite.TypeOf", "slices.overlaps[[]byte]", "slices.overlaps[godwit/chain.Chain]"], unfollowed := true, recurses := true, plainKeys := false, apart := false }
def TxnSerialSaid : Prop := txnSerialRow.holds Tryz.pinned (OpenSpec.ofChange txnSerialSpec)

/-- ITS FALSE NEIGHBOUR: 'it returns false'. Refute it at one input. -/
def txnSerialWrong : ChangeSpec := { name := "txnSerial", fn := fun _ => fun
  | [d] => { results := [.lit (.bool false)], args := [d] }
  | _ => none }
def TxnSerialWrongFalsely : Prop := txnSerialRow.holds Tryz.pinned (OpenSpec.ofChange txnSerialWrong)

/-- 'godwitlaw14.TxnOnce': WHATEVER THE INPUT: true; the input reads as it did. -/
def txnOnceSpec : ChangeSpec := { name := "txnOnce", fn := fun _ => fun
  | [d1, d2] => { results := [.lit (.bool true)], args := [d1, d2] }
  | _ => none }
def txnOnceRow : OpenClaim := { program := "ytkblaobhhoebaaagreat", sum := "f85192c618f0f9eea1430d1ffa61062a6f6a7645d287e64e7f728cee997dfe6b", func := "godwit/godwitlaw14.TxnOnce", spec := "txnOnce", inPlace := ["internal/bytealg.Compare", "slices.overlaps[godwit/api.Write]", "internal/reflectlite.TypeOf", "slices.overlaps[[]byte]", "slices.overlaps[godwit/chain.Chain]"], unfollowed := true, recurses := true, plainKeys := false, apart := false }
def TxnOnceSaid : Prop := txnOnceRow.holds Tryz.pinned (OpenSpec.ofChange txnOnceSpec)

/-- ITS FALSE NEIGHBOUR: 'it returns false'. Refute it at one input. -/
def txnOnceWrong : ChangeSpec := { name := "txnOnce", fn := fun _ => fun
  | [d1, d2] => { results := [.lit (.bool false)], args := [d1, d2] }
  | _ => none }
def TxnOnceWrongFalsely : Prop := txnOnceRow.holds Tryz.pinned (OpenSpec.ofChange txnOnceWrong)

/-- 'godwitlaw14.TxnStays': WHATEVER THE INPUT: true; the input reads as it did. -/
def txnStaysSpec : ChangeSpec := { name := "txnStays", fn := fun _ => fun
  | [d1, d2, d3] => { results := [.lit (.bool true)], args := [d1, d2, d3] }
  | _ => none }
def txnStaysRow : OpenClaim := { program := "ytkblaobhhoebaaagreat", sum := "f85192c618f0f9eea1430d1ffa61062a6f6a7645d287e64e7f728cee997dfe6b", func := "godwit/godwitlaw14.TxnStays", spec := "txnStays", inPlace := ["internal/bytealg.Compare", "slices.overlaps[godwit/api.Write]", "internal/reflectlite.TypeOf", "slices.overlaps[[]byte]", "slices.overlaps[godwit/chain.Chain]"], unfollowed := true, recurses := true, plainKeys := false, apart := false }
def TxnStaysSaid : Prop := txnStaysRow.holds Tryz.pinned (OpenSpec.ofChange txnStaysSpec)

/-- ITS FALSE NEIGHBOUR: 'it returns false'. Refute it at one input. -/
def txnStaysWrong : ChangeSpec := { name := "txnStays", fn := fun _ => fun
  | [d1, d2, d3] => { results := [.lit (.bool false)], args := [d1, d2, d3] }
  | _ => none }
def TxnStaysWrongFalsely : Prop := txnStaysRow.holds Tryz.pinned (OpenSpec.ofChange txnStaysWrong)

/-- 'godwitlaw14.TxnStill': WHATEVER THE INPUT: true; the input reads as it did. -/
def txnStillSpec : ChangeSpec := { name := "txnStill", fn := fun _ => fun
  | [d1, d2, d3] => { results := [.lit (.bool true)], args := [d1, d2, d3] }
  | _ => none }
def txnStillRow : OpenClaim := { program := "ytkblaobhhoebaaagreat", sum := "f85192c618f0f9eea1430d1ffa61062a6f6a7645d287e64e7f728cee997dfe6b", func := "godwit/godwitlaw14.TxnStill", spec := "txnStill", inPlace := ["internal/bytealg.Compare", "slices.overlaps[godwit/api.Write]", "internal/reflectlite.TypeOf", "slices.overlaps[[]byte]", "slices.overlaps[godwit/chain.Chain]"], unfollowed := true, recurses := true, plainKeys := false, apart := false }
def TxnStillSaid : Prop := txnStillRow.holds Tryz.pinned (OpenSpec.ofChange txnStillSpec)

/-- ITS FALSE NEIGHBOUR: 'it returns false'. Refute it at one input. -/
def txnStillWrong : ChangeSpec := { name := "txnStill", fn := fun _ => fun
  | [d1, d2, d3] => { results := [.lit (.bool false)], args := [d1, d2, d3] }
  | _ => none }
def TxnStillWrongFalsely : Prop := txnStillRow.holds Tryz.pinned (OpenSpec.ofChange txnStillWrong)

/-- 'godwitlaw14.TxnWrites': WHATEVER THE INPUT: true; the input reads as it did. -/
def txnWritesSpec : ChangeSpec := { name := "txnWrites", fn := fun _ => fun
  | [d1, d2, d3] => { results := [.lit (.bool true)], args := [d1, d2, d3] }
  | _ => none }
def txnWritesRow : OpenClaim := { program := "ytkblaobhhoebaaagreat", sum := "f85192c618f0f9eea1430d1ffa61062a6f6a7645d287e64e7f728cee997dfe6b", func := "godwit/godwitlaw14.TxnWrites", spec := "txnWrites", inPlace := ["internal/bytealg.Compare", "slices.overlaps[godwit/api.Write]", "internal/reflectlite.TypeOf", "slices.overlaps[[]byte]", "slices.overlaps[godwit/chain.Chain]"], unfollowed := true, recurses := true, plainKeys := false, apart := false }
def TxnWritesSaid : Prop := txnWritesRow.holds Tryz.pinned (OpenSpec.ofChange txnWritesSpec)

/-- ITS FALSE NEIGHBOUR: 'it returns false'. Refute it at one input. -/
def txnWritesWrong : ChangeSpec := { name := "txnWrites", fn := fun _ => fun
  | [d1, d2, d3] => { results := [.lit (.bool false)], args := [d1, d2, d3] }
  | _ => none }
def TxnWritesWrongFalsely : Prop := txnWritesRow.holds Tryz.pinned (OpenSpec.ofChange txnWritesWrong)

/- THE SECOND FORM. 'bulk': how many values and letters a reading holds, each counted each time it is reached (what is shared counts as often as it is met; a slice's spare places count too). A statement '..UptoSaid' is the law's where the arguments, and the package variables that the reading takes, are together of bulk at most 1048576: NARROWER than '..Said'. Prove '..Said' where nothing that the law and all that it calls make is longer than what came in: it says more and counts as full. Else prove '..UptoSaid'. A law counts once. -/
mutual
def uptoBulk {H : Type} : DataW H → Nat
  | .lit (.string bytes) => bytes.length + 1
  | .lit _ => 1
  | .nil => 1
  | .ptr d => uptoBulk d + 1
  | .slice elems spare => uptoBulkAll elems + uptoBulkAll spare + 1
  | .agg parts => uptoBulkAll parts + 1
  | .iface _ d => uptoBulk d + 1
  | .map entries => uptoBulkEntries entries + 1
  | .held _ => 1
def uptoBulkAll {H : Type} : List (DataW H) → Nat
  | [] => 0
  | d :: r => uptoBulk d + uptoBulkAll r
def uptoBulkEntries {H : Type} : List (Lit × DataW H) → Nat
  | [] => 0
  | x :: r => uptoBulkEntry x + uptoBulkEntries r
def uptoBulkEntry {H : Type} : Lit × DataW H → Nat
  | (.string bytes, d) => bytes.length + uptoBulk d + 1
  | (_, d) => uptoBulk d + 1
 end
def uptoSmall : (H : Type) → List (DataW H) → Bool := fun _ ds => decide (uptoBulkAll ds ≤ 1048576)
def OpenSpec.upto (s : _root_.Go.ChangeSpec) : _root_.Go.OpenSpec := { _root_.Go.OpenSpec.ofChange s with cond := some uptoSmall }

/-- 'godwitlaw14.TxnPlays', WHERE WHAT IT READS IS OF BULK AT MOST 1048576: true; the input reads as it did. -/
def txnPlaysUptoRow : OpenClaim := { program := "ytkblaobhhoebaaagreat", sum := "f85192c618f0f9eea1430d1ffa61062a6f6a7645d287e64e7f728cee997dfe6b", func := "godwit/godwitlaw14.TxnPlays", spec := "txnPlays", inPlace := ["internal/bytealg.Compare", "slices.overlaps[godwit/api.Write]", "internal/reflectlite.TypeOf", "slices.overlaps[[]byte]", "slices.overlaps[godwit/chain.Chain]"], unfollowed := true, recurses := true, plainKeys := false, apart := false, narrowed := true }
def TxnPlaysUptoSaid : Prop := txnPlaysUptoRow.holds Tryz.pinned (OpenSpec.upto txnPlaysSpec)

/-- 'godwitlaw14.TxnSerial', WHERE WHAT IT READS IS OF BULK AT MOST 1048576: true; the input reads as it did. -/
def txnSerialUptoRow : OpenClaim := { program := "ytkblaobhhoebaaagreat", sum := "f85192c618f0f9eea1430d1ffa61062a6f6a7645d287e64e7f728cee997dfe6b", func := "godwit/godwitlaw14.TxnSerial", spec := "txnSerial", inPlace := ["internal/bytealg.Compare", "slices.overlaps[godwit/api.Write]", "internal/reflectlite.TypeOf", "slices.overlaps[[]byte]", "slices.overlaps[godwit/chain.Chain]"], unfollowed := true, recurses := true, plainKeys := false, apart := false, narrowed := true }
def TxnSerialUptoSaid : Prop := txnSerialUptoRow.holds Tryz.pinned (OpenSpec.upto txnSerialSpec)

/-- 'godwitlaw14.TxnOnce', WHERE WHAT IT READS IS OF BULK AT MOST 1048576: true; the input reads as it did. -/
def txnOnceUptoRow : OpenClaim := { program := "ytkblaobhhoebaaagreat", sum := "f85192c618f0f9eea1430d1ffa61062a6f6a7645d287e64e7f728cee997dfe6b", func := "godwit/godwitlaw14.TxnOnce", spec := "txnOnce", inPlace := ["internal/bytealg.Compare", "slices.overlaps[godwit/api.Write]", "internal/reflectlite.TypeOf", "slices.overlaps[[]byte]", "slices.overlaps[godwit/chain.Chain]"], unfollowed := true, recurses := true, plainKeys := false, apart := false, narrowed := true }
def TxnOnceUptoSaid : Prop := txnOnceUptoRow.holds Tryz.pinned (OpenSpec.upto txnOnceSpec)

/-- 'godwitlaw14.TxnStays', WHERE WHAT IT READS IS OF BULK AT MOST 1048576: true; the input reads as it did. -/
def txnStaysUptoRow : OpenClaim := { program := "ytkblaobhhoebaaagreat", sum := "f85192c618f0f9eea1430d1ffa61062a6f6a7645d287e64e7f728cee997dfe6b", func := "godwit/godwitlaw14.TxnStays", spec := "txnStays", inPlace := ["internal/bytealg.Compare", "slices.overlaps[godwit/api.Write]", "internal/reflectlite.TypeOf", "slices.overlaps[[]byte]", "slices.overlaps[godwit/chain.Chain]"], unfollowed := true, recurses := true, plainKeys := false, apart := false, narrowed := true }
def TxnStaysUptoSaid : Prop := txnStaysUptoRow.holds Tryz.pinned (OpenSpec.upto txnStaysSpec)

/-- 'godwitlaw14.TxnStill', WHERE WHAT IT READS IS OF BULK AT MOST 1048576: true; the input reads as it did. -/
def txnStillUptoRow : OpenClaim := { program := "ytkblaobhhoebaaagreat", sum := "f85192c618f0f9eea1430d1ffa61062a6f6a7645d287e64e7f728cee997dfe6b", func := "godwit/godwitlaw14.TxnStill", spec := "txnStill", inPlace := ["internal/bytealg.Compare", "slices.overlaps[godwit/api.Write]", "internal/reflectlite.TypeOf", "slices.overlaps[[]byte]", "slices.overlaps[godwit/chain.Chain]"], unfollowed := true, recurses := true, plainKeys := false, apart := false, narrowed := true }
def TxnStillUptoSaid : Prop := txnStillUptoRow.holds Tryz.pinned (OpenSpec.upto txnStillSpec)

/-- 'godwitlaw14.TxnWrites', WHERE WHAT IT READS IS OF BULK AT MOST 1048576: true; the input reads as it did. -/
def txnWritesUptoRow : OpenClaim := { program := "ytkblaobhhoebaaagreat", sum := "f85192c618f0f9eea1430d1ffa61062a6f6a7645d287e64e7f728cee997dfe6b", func := "godwit/godwitlaw14.TxnWrites", spec := "txnWrites", inPlace := ["internal/bytealg.Compare", "slices.overlaps[godwit/api.Write]", "internal/reflectlite.TypeOf", "slices.overlaps[[]byte]", "slices.overlaps[godwit/chain.Chain]"], unfollowed := true, recurses := true, plainKeys := false, apart := false, narrowed := true }
def TxnWritesUptoSaid : Prop := txnWritesUptoRow.holds Tryz.pinned (OpenSpec.upto txnWritesSpec)

end Rows
end Go.Proofs.YtkblaobhhoebaaaGreat
