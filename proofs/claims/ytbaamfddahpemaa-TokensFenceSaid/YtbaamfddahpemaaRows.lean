/-
  No cell of these rows narrows 'for every input' (looked for: loops, veiled, ifaces, maps, wideKeys, modest, calm, conditions, laid).
  DERIVED. THE GIVEN ROWS OF THIS SEAT. 4 by the template 'for every input the law returns true; each argument reads behind the call as it read before'; 0 by the template 'total and deterministic' (their statements: YtbaamfddahpemaaTotals.lean).
  GIVEN WITH THE SEED: the statements are not yours to turn. If you find one false, say at which input.
  Laid BY PROGRAM, IN A SANDBOX (cutbox-rows.mjs): the forced cells as the released guide's own fill.sh prints them over the translation 8578e20b50da7cbb… (all of the seat's roots in one cut). By AI agents, Wed Nov 11 2026. No macro, syntax, notation, axiom, sorry.
-/
import Derived.Test.YtbaamfddahpemaaChecked
import GoSem.Claim
import GoSem.ClaimJoined
import GoSem.ClaimMapViews
import Derived.JoinedTies
import Derived.KernelRfl
namespace Go.Proofs.Ytbaamfddahpemaa
/- THE CELL 'sum', in the pinned program and in every row, IS THE sha256 OF THE DUMP (.gsa) THAT YtbaamfddahpemaaProg.lean LOADS. Nothing in Lean hashes anything: it is a label: what it is worth is what the hold of that sum in a sandbox is worth. -/
noncomputable def Try.pinned : Pinned := { name := "ytbaamfddahpemaa", sum := "8578e20b50da7cbb3fbedf775c6e3f729c8848571f16f1663826e2e987d2648c", checked := Try.checked }
namespace Rows
def none {H : Type} : Left H := { results := [], args := [] }

/-- 'godwitlaw12.TokensOnce': WHATEVER THE INPUT: true; the input reads as it did. -/
def tokensOnceSpec : ChangeSpec := { name := "tokensOnce", fn := fun _ => fun
  | [d1, d2] => { results := [.lit (.bool true)], args := [d1, d2] }
  | _ => none }
def tokensOnceRow : OpenClaim := { program := "ytbaamfddahpemaa", sum := "8578e20b50da7cbb3fbedf775c6e3f729c8848571f16f1663826e2e987d2648c", func := "godwit/godwitlaw12.TokensOnce", spec := "tokensOnce", apart := false }
def TokensOnceSaid : Prop := tokensOnceRow.holds Try.pinned (OpenSpec.ofChange tokensOnceSpec)

/-- ITS FALSE NEIGHBOUR: 'it returns false'. Refute it at one input. -/
def tokensOnceWrong : ChangeSpec := { name := "tokensOnce", fn := fun _ => fun
  | [d1, d2] => { results := [.lit (.bool false)], args := [d1, d2] }
  | _ => none }
def TokensOnceWrongFalsely : Prop := tokensOnceRow.holds Try.pinned (OpenSpec.ofChange tokensOnceWrong)

/-- 'godwitlaw12.TokensKeep': WHATEVER THE INPUT: true; the input reads as it did. -/
def tokensKeepSpec : ChangeSpec := { name := "tokensKeep", fn := fun _ => fun
  | [d1, d2, d3, d4] => { results := [.lit (.bool true)], args := [d1, d2, d3, d4] }
  | _ => none }
def tokensKeepRow : OpenClaim := { program := "ytbaamfddahpemaa", sum := "8578e20b50da7cbb3fbedf775c6e3f729c8848571f16f1663826e2e987d2648c", func := "godwit/godwitlaw12.TokensKeep", spec := "tokensKeep", apart := false }
def TokensKeepSaid : Prop := tokensKeepRow.holds Try.pinned (OpenSpec.ofChange tokensKeepSpec)

/-- ITS FALSE NEIGHBOUR: 'it returns false'. Refute it at one input. -/
def tokensKeepWrong : ChangeSpec := { name := "tokensKeep", fn := fun _ => fun
  | [d1, d2, d3, d4] => { results := [.lit (.bool false)], args := [d1, d2, d3, d4] }
  | _ => none }
def TokensKeepWrongFalsely : Prop := tokensKeepRow.holds Try.pinned (OpenSpec.ofChange tokensKeepWrong)

/-- 'godwitlaw12.TokensFull': WHATEVER THE INPUT: true; the input reads as it did. -/
def tokensFullSpec : ChangeSpec := { name := "tokensFull", fn := fun _ => fun
  | [d1, d2] => { results := [.lit (.bool true)], args := [d1, d2] }
  | _ => none }
def tokensFullRow : OpenClaim := { program := "ytbaamfddahpemaa", sum := "8578e20b50da7cbb3fbedf775c6e3f729c8848571f16f1663826e2e987d2648c", func := "godwit/godwitlaw12.TokensFull", spec := "tokensFull", apart := false }
def TokensFullSaid : Prop := tokensFullRow.holds Try.pinned (OpenSpec.ofChange tokensFullSpec)

/-- ITS FALSE NEIGHBOUR: 'it returns false'. Refute it at one input. -/
def tokensFullWrong : ChangeSpec := { name := "tokensFull", fn := fun _ => fun
  | [d1, d2] => { results := [.lit (.bool false)], args := [d1, d2] }
  | _ => none }
def TokensFullWrongFalsely : Prop := tokensFullRow.holds Try.pinned (OpenSpec.ofChange tokensFullWrong)

/-- 'godwitlaw12.TokensFence': WHATEVER THE INPUT: true; the input reads as it did. -/
def tokensFenceSpec : ChangeSpec := { name := "tokensFence", fn := fun _ => fun
  | [d1, d2, d3, d4] => { results := [.lit (.bool true)], args := [d1, d2, d3, d4] }
  | _ => none }
def tokensFenceRow : OpenClaim := { program := "ytbaamfddahpemaa", sum := "8578e20b50da7cbb3fbedf775c6e3f729c8848571f16f1663826e2e987d2648c", func := "godwit/godwitlaw12.TokensFence", spec := "tokensFence", apart := false }
def TokensFenceSaid : Prop := tokensFenceRow.holds Try.pinned (OpenSpec.ofChange tokensFenceSpec)

/-- ITS FALSE NEIGHBOUR: 'it returns false'. Refute it at one input. -/
def tokensFenceWrong : ChangeSpec := { name := "tokensFence", fn := fun _ => fun
  | [d1, d2, d3, d4] => { results := [.lit (.bool false)], args := [d1, d2, d3, d4] }
  | _ => none }
def TokensFenceWrongFalsely : Prop := tokensFenceRow.holds Try.pinned (OpenSpec.ofChange tokensFenceWrong)

/- THE SECOND FORM. 'bulk': how many values and letters a reading holds, each counted each time it is reached (what is shared counts as often as it is met; a slice's spare places count too). A statement '..UptoSaid' is the law's where the arguments, and the package variables that the reading takes, are together of bulk at most 1048576: NARROWER than '..Said'. Prove '..Said' where nothing that the law and all that it calls make is longer than what came in: it says more and counts as full. Else prove '..UptoSaid'. A law counts once. -/
mutual
def uptoBulk {H : Type} : DataW H → Nat
  | .lit (.string bytes) => bytes.length + 1
  | .lit _ => 1
  | .nil => 1
  | .ptr d => uptoBulk d + 1
  | .slice elems spare => uptoBulkAll elems + uptoBulkAll spare + 1
  | .agg parts => uptoBulkAll parts + 1
  | .iface _ d => uptoBulk d + 1
  | .map entries => uptoBulkEntries entries + 1
  | .held _ => 1
def uptoBulkAll {H : Type} : List (DataW H) → Nat
  | [] => 0
  | d :: r => uptoBulk d + uptoBulkAll r
def uptoBulkEntries {H : Type} : List (Lit × DataW H) → Nat
  | [] => 0
  | x :: r => uptoBulkEntry x + uptoBulkEntries r
def uptoBulkEntry {H : Type} : Lit × DataW H → Nat
  | (.string bytes, d) => bytes.length + uptoBulk d + 1
  | (_, d) => uptoBulk d + 1
 end
def uptoSmall : (H : Type) → List (DataW H) → Bool := fun _ ds => decide (uptoBulkAll ds ≤ 1048576)
def OpenSpec.upto (s : _root_.Go.ChangeSpec) : _root_.Go.OpenSpec := { _root_.Go.OpenSpec.ofChange s with cond := some uptoSmall }

/-- 'godwitlaw12.TokensOnce', WHERE WHAT IT READS IS OF BULK AT MOST 1048576: true; the input reads as it did. -/
def tokensOnceUptoRow : OpenClaim := { program := "ytbaamfddahpemaa", sum := "8578e20b50da7cbb3fbedf775c6e3f729c8848571f16f1663826e2e987d2648c", func := "godwit/godwitlaw12.TokensOnce", spec := "tokensOnce", apart := false, narrowed := true }
def TokensOnceUptoSaid : Prop := tokensOnceUptoRow.holds Try.pinned (OpenSpec.upto tokensOnceSpec)

/-- 'godwitlaw12.TokensKeep', WHERE WHAT IT READS IS OF BULK AT MOST 1048576: true; the input reads as it did. -/
def tokensKeepUptoRow : OpenClaim := { program := "ytbaamfddahpemaa", sum := "8578e20b50da7cbb3fbedf775c6e3f729c8848571f16f1663826e2e987d2648c", func := "godwit/godwitlaw12.TokensKeep", spec := "tokensKeep", apart := false, narrowed := true }
def TokensKeepUptoSaid : Prop := tokensKeepUptoRow.holds Try.pinned (OpenSpec.upto tokensKeepSpec)

/-- 'godwitlaw12.TokensFull', WHERE WHAT IT READS IS OF BULK AT MOST 1048576: true; the input reads as it did. -/
def tokensFullUptoRow : OpenClaim := { program := "ytbaamfddahpemaa", sum := "8578e20b50da7cbb3fbedf775c6e3f729c8848571f16f1663826e2e987d2648c", func := "godwit/godwitlaw12.TokensFull", spec := "tokensFull", apart := false, narrowed := true }
def TokensFullUptoSaid : Prop := tokensFullUptoRow.holds Try.pinned (OpenSpec.upto tokensFullSpec)

/-- 'godwitlaw12.TokensFence', WHERE WHAT IT READS IS OF BULK AT MOST 1048576: true; the input reads as it did. -/
def tokensFenceUptoRow : OpenClaim := { program := "ytbaamfddahpemaa", sum := "8578e20b50da7cbb3fbedf775c6e3f729c8848571f16f1663826e2e987d2648c", func := "godwit/godwitlaw12.TokensFence", spec := "tokensFence", apart := false, narrowed := true }
def TokensFenceUptoSaid : Prop := tokensFenceUptoRow.holds Try.pinned (OpenSpec.upto tokensFenceSpec)

end Rows
end Go.Proofs.Ytbaamfddahpemaa
