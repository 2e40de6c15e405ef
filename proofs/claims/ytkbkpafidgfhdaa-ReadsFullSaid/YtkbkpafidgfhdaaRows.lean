/-
  No cell of these rows narrows 'for every input' (looked for: loops, veiled, ifaces, maps, wideKeys, modest, calm, conditions, laid).
  DERIVED. THE GIVEN ROWS OF THIS SEAT. 5 by the template 'for every input the law returns true; each argument reads behind the call as it read before'; 0 by the template 'total and deterministic' (their statements: YtkbkpafidgfhdaaTotals.lean).
  GIVEN WITH THE SEED: the statements are not yours to turn. If you find one false, say at which input.
  Laid BY PROGRAM, IN A SANDBOX (cutbox-rows.mjs): the forced cells as the released guide's own fill.sh prints them over the translation d58a02ced415a02f… (all of the seat's roots in one cut). By AI agents, Wed Nov 11 2026. No macro, syntax, notation, axiom, sorry.
-/
import Derived.Test.YtkbkpafidgfhdaaChecked
import GoSem.Claim
import GoSem.ClaimJoined
import GoSem.ClaimMapViews
import Derived.JoinedTies
import Derived.KernelRfl
namespace Go.Proofs.Ytkbkpafidgfhdaa
/- THE CELL 'sum', in the pinned program and in every row, IS THE sha256 OF THE DUMP (.gsa) THAT YtkbkpafidgfhdaaProg.lean LOADS. Nothing in Lean hashes anything: it is a label: what it is worth is what the hold of that sum in a sandbox is worth. -/
noncomputable def Try.pinned : Pinned := { name := "ytkbkpafidgfhdaa", sum := "d58a02ced415a02fa2c541199205953b25179b7cfde0451d42cd278f8e6b95e9", checked := Try.checked }
namespace Rows
def none {H : Type} : Left H := { results := [], args := [] }

/-- 'godwitlaw10.ReadsIs': WHATEVER THE INPUT: true; the input reads as it did. -/
def readsIsSpec : ChangeSpec := { name := "readsIs", fn := fun _ => fun
  | [d1, d2, d3, d4, d5] => { results := [.lit (.bool true)], args := [d1, d2, d3, d4, d5] }
  | _ => none }
def readsIsRow : OpenClaim := { program := "ytkbkpafidgfhdaa", sum := "d58a02ced415a02fa2c541199205953b25179b7cfde0451d42cd278f8e6b95e9", func := "godwit/godwitlaw10.ReadsIs", spec := "readsIs", inPlace := ["internal/bytealg.Compare"], recurses := true, plainKeys := false, apart := false }
def ReadsIsSaid : Prop := readsIsRow.holds Try.pinned (OpenSpec.ofChange readsIsSpec)

/-- ITS FALSE NEIGHBOUR: 'it returns false'. Refute it at one input. -/
def readsIsWrong : ChangeSpec := { name := "readsIs", fn := fun _ => fun
  | [d1, d2, d3, d4, d5] => { results := [.lit (.bool false)], args := [d1, d2, d3, d4, d5] }
  | _ => none }
def ReadsIsWrongFalsely : Prop := readsIsRow.holds Try.pinned (OpenSpec.ofChange readsIsWrong)

/-- 'godwitlaw10.ReadsHit': WHATEVER THE INPUT: true; the input reads as it did. -/
def readsHitSpec : ChangeSpec := { name := "readsHit", fn := fun _ => fun
  | [d1, d2] => { results := [.lit (.bool true)], args := [d1, d2] }
  | _ => none }
def readsHitRow : OpenClaim := { program := "ytkbkpafidgfhdaa", sum := "d58a02ced415a02fa2c541199205953b25179b7cfde0451d42cd278f8e6b95e9", func := "godwit/godwitlaw10.ReadsHit", spec := "readsHit", inPlace := ["internal/bytealg.Compare"], recurses := true, plainKeys := false, apart := false }
def ReadsHitSaid : Prop := readsHitRow.holds Try.pinned (OpenSpec.ofChange readsHitSpec)

/-- ITS FALSE NEIGHBOUR: 'it returns false'. Refute it at one input. -/
def readsHitWrong : ChangeSpec := { name := "readsHit", fn := fun _ => fun
  | [d1, d2] => { results := [.lit (.bool false)], args := [d1, d2] }
  | _ => none }
def ReadsHitWrongFalsely : Prop := readsHitRow.holds Try.pinned (OpenSpec.ofChange readsHitWrong)

/-- 'godwitlaw10.ReadsGo': WHATEVER THE INPUT: true; the input reads as it did. -/
def readsGoSpec : ChangeSpec := { name := "readsGo", fn := fun _ => fun
  | [d1, d2, d3] => { results := [.lit (.bool true)], args := [d1, d2, d3] }
  | _ => none }
def readsGoRow : OpenClaim := { program := "ytkbkpafidgfhdaa", sum := "d58a02ced415a02fa2c541199205953b25179b7cfde0451d42cd278f8e6b95e9", func := "godwit/godwitlaw10.ReadsGo", spec := "readsGo", inPlace := ["internal/bytealg.Compare"], recurses := true, plainKeys := false, apart := false }
def ReadsGoSaid : Prop := readsGoRow.holds Try.pinned (OpenSpec.ofChange readsGoSpec)

/-- ITS FALSE NEIGHBOUR: 'it returns false'. Refute it at one input. -/
def readsGoWrong : ChangeSpec := { name := "readsGo", fn := fun _ => fun
  | [d1, d2, d3] => { results := [.lit (.bool false)], args := [d1, d2, d3] }
  | _ => none }
def ReadsGoWrongFalsely : Prop := readsGoRow.holds Try.pinned (OpenSpec.ofChange readsGoWrong)

/-- 'godwitlaw10.ReadsFull': WHATEVER THE INPUT: true; the input reads as it did. -/
def readsFullSpec : ChangeSpec := { name := "readsFull", fn := fun _ => fun
  | [d1, d2] => { results := [.lit (.bool true)], args := [d1, d2] }
  | _ => none }
def readsFullRow : OpenClaim := { program := "ytkbkpafidgfhdaa", sum := "d58a02ced415a02fa2c541199205953b25179b7cfde0451d42cd278f8e6b95e9", func := "godwit/godwitlaw10.ReadsFull", spec := "readsFull", inPlace := ["internal/bytealg.Compare"], recurses := true, plainKeys := false, apart := false }
def ReadsFullSaid : Prop := readsFullRow.holds Try.pinned (OpenSpec.ofChange readsFullSpec)

/-- ITS FALSE NEIGHBOUR: 'it returns false'. Refute it at one input. -/
def readsFullWrong : ChangeSpec := { name := "readsFull", fn := fun _ => fun
  | [d1, d2] => { results := [.lit (.bool false)], args := [d1, d2] }
  | _ => none }
def ReadsFullWrongFalsely : Prop := readsFullRow.holds Try.pinned (OpenSpec.ofChange readsFullWrong)

/-- 'godwitlaw10.ReadsOrder': WHATEVER THE INPUT: true; the input reads as it did. -/
def readsOrderSpec : ChangeSpec := { name := "readsOrder", fn := fun _ => fun
  | [d1, d2] => { results := [.lit (.bool true)], args := [d1, d2] }
  | _ => none }
def readsOrderRow : OpenClaim := { program := "ytkbkpafidgfhdaa", sum := "d58a02ced415a02fa2c541199205953b25179b7cfde0451d42cd278f8e6b95e9", func := "godwit/godwitlaw10.ReadsOrder", spec := "readsOrder", inPlace := ["internal/bytealg.Compare"], recurses := true, plainKeys := false, apart := false }
def ReadsOrderSaid : Prop := readsOrderRow.holds Try.pinned (OpenSpec.ofChange readsOrderSpec)

/-- ITS FALSE NEIGHBOUR: 'it returns false'. Refute it at one input. -/
def readsOrderWrong : ChangeSpec := { name := "readsOrder", fn := fun _ => fun
  | [d1, d2] => { results := [.lit (.bool false)], args := [d1, d2] }
  | _ => none }
def ReadsOrderWrongFalsely : Prop := readsOrderRow.holds Try.pinned (OpenSpec.ofChange readsOrderWrong)

/- THE SECOND FORM. 'bulk': how many values and letters a reading holds, each counted each time it is reached (what is shared counts as often as it is met; a slice's spare places count too). A statement '..UptoSaid' is the law's where the arguments, and the package variables that the reading takes, are together of bulk at most 1048576: NARROWER than '..Said'. Prove '..Said' where nothing that the law and all that it calls make is longer than what came in: it says more and counts as full. Else prove '..UptoSaid'. A law counts once. -/
mutual
def uptoBulk {H : Type} : DataW H → Nat
  | .lit (.string bytes) => bytes.length + 1
  | .lit _ => 1
  | .nil => 1
  | .ptr d => uptoBulk d + 1
  | .slice elems spare => uptoBulkAll elems + uptoBulkAll spare + 1
  | .agg parts => uptoBulkAll parts + 1
  | .iface _ d => uptoBulk d + 1
  | .map entries => uptoBulkEntries entries + 1
  | .held _ => 1
def uptoBulkAll {H : Type} : List (DataW H) → Nat
  | [] => 0
  | d :: r => uptoBulk d + uptoBulkAll r
def uptoBulkEntries {H : Type} : List (Lit × DataW H) → Nat
  | [] => 0
  | x :: r => uptoBulkEntry x + uptoBulkEntries r
def uptoBulkEntry {H : Type} : Lit × DataW H → Nat
  | (.string bytes, d) => bytes.length + uptoBulk d + 1
  | (_, d) => uptoBulk d + 1
 end
def uptoSmall : (H : Type) → List (DataW H) → Bool := fun _ ds => decide (uptoBulkAll ds ≤ 1048576)
def OpenSpec.upto (s : _root_.Go.ChangeSpec) : _root_.Go.OpenSpec := { _root_.Go.OpenSpec.ofChange s with cond := some uptoSmall }

/-- 'godwitlaw10.ReadsIs', WHERE WHAT IT READS IS OF BULK AT MOST 1048576: true; the input reads as it did. -/
def readsIsUptoRow : OpenClaim := { program := "ytkbkpafidgfhdaa", sum := "d58a02ced415a02fa2c541199205953b25179b7cfde0451d42cd278f8e6b95e9", func := "godwit/godwitlaw10.ReadsIs", spec := "readsIs", inPlace := ["internal/bytealg.Compare"], recurses := true, plainKeys := false, apart := false, narrowed := true }
def ReadsIsUptoSaid : Prop := readsIsUptoRow.holds Try.pinned (OpenSpec.upto readsIsSpec)

/-- 'godwitlaw10.ReadsHit', WHERE WHAT IT READS IS OF BULK AT MOST 1048576: true; the input reads as it did. -/
def readsHitUptoRow : OpenClaim := { program := "ytkbkpafidgfhdaa", sum := "d58a02ced415a02fa2c541199205953b25179b7cfde0451d42cd278f8e6b95e9", func := "godwit/godwitlaw10.ReadsHit", spec := "readsHit", inPlace := ["internal/bytealg.Compare"], recurses := true, plainKeys := false, apart := false, narrowed := true }
def ReadsHitUptoSaid : Prop := readsHitUptoRow.holds Try.pinned (OpenSpec.upto readsHitSpec)

/-- 'godwitlaw10.ReadsGo', WHERE WHAT IT READS IS OF BULK AT MOST 1048576: true; the input reads as it did. -/
def readsGoUptoRow : OpenClaim := { program := "ytkbkpafidgfhdaa", sum := "d58a02ced415a02fa2c541199205953b25179b7cfde0451d42cd278f8e6b95e9", func := "godwit/godwitlaw10.ReadsGo", spec := "readsGo", inPlace := ["internal/bytealg.Compare"], recurses := true, plainKeys := false, apart := false, narrowed := true }
def ReadsGoUptoSaid : Prop := readsGoUptoRow.holds Try.pinned (OpenSpec.upto readsGoSpec)

/-- 'godwitlaw10.ReadsFull', WHERE WHAT IT READS IS OF BULK AT MOST 1048576: true; the input reads as it did. -/
def readsFullUptoRow : OpenClaim := { program := "ytkbkpafidgfhdaa", sum := "d58a02ced415a02fa2c541199205953b25179b7cfde0451d42cd278f8e6b95e9", func := "godwit/godwitlaw10.ReadsFull", spec := "readsFull", inPlace := ["internal/bytealg.Compare"], recurses := true, plainKeys := false, apart := false, narrowed := true }
def ReadsFullUptoSaid : Prop := readsFullUptoRow.holds Try.pinned (OpenSpec.upto readsFullSpec)

/-- 'godwitlaw10.ReadsOrder', WHERE WHAT IT READS IS OF BULK AT MOST 1048576: true; the input reads as it did. -/
def readsOrderUptoRow : OpenClaim := { program := "ytkbkpafidgfhdaa", sum := "d58a02ced415a02fa2c541199205953b25179b7cfde0451d42cd278f8e6b95e9", func := "godwit/godwitlaw10.ReadsOrder", spec := "readsOrder", inPlace := ["internal/bytealg.Compare"], recurses := true, plainKeys := false, apart := false, narrowed := true }
def ReadsOrderUptoSaid : Prop := readsOrderUptoRow.holds Try.pinned (OpenSpec.upto readsOrderSpec)

end Rows
end Go.Proofs.Ytkbkpafidgfhdaa
