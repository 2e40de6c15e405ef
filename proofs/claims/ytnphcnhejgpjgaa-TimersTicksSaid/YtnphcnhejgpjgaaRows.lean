/-
  No cell of these rows narrows 'for every input' (looked for: loops, veiled, ifaces, maps, wideKeys, modest, calm, conditions, laid).
  DERIVED. THE GIVEN ROWS OF THIS SEAT. 4 by the template 'for every input the law returns true; each argument reads behind the call as it read before'; 0 by the template 'total and deterministic' (their statements: YtnphcnhejgpjgaaTotals.lean).
  GIVEN WITH THE SEED: the statements are not yours to turn. If you find one false, say at which input.
  Laid BY PROGRAM, IN A SANDBOX (cutbox-rows.mjs): the forced cells as the released guide's own fill.sh prints them over the translation b7bfdcba41f025d4… (all of the seat's roots in one cut). By AI agents, Wed Nov 11 2026. No macro, syntax, notation, axiom, sorry.
-/
import Derived.Test.YtnphcnhejgpjgaaChecked
import GoSem.Claim
import GoSem.ClaimJoined
import GoSem.ClaimMapViews
import Derived.JoinedTies
import Derived.KernelRfl
namespace Go.Proofs.Ytnphcnhejgpjgaa
/- THE CELL 'sum', in the pinned program and in every row, IS THE sha256 OF THE DUMP (.gsa) THAT YtnphcnhejgpjgaaProg.lean LOADS. Nothing in Lean hashes anything: it is a label: what it is worth is what the hold of that sum in a sandbox is worth. -/
noncomputable def Try.pinned : Pinned := { name := "ytnphcnhejgpjgaa", sum := "b7bfdcba41f025d4204850a6b61fee89a9b5bf8be6bd84497aecaaea0f835b4f", checked := Try.checked }
namespace Rows
def none {H : Type} : Left H := { results := [], args := [] }

/-- 'godwitlaw13.TimersIs': WHATEVER THE INPUT: true; the input reads as it did. -/
def timersIsSpec : ChangeSpec := { name := "timersIs", fn := fun _ => fun
  | [d1, d2, d3] => { results := [.lit (.bool true)], args := [d1, d2, d3] }
  | _ => none }
def timersIsRow : OpenClaim := { program := "ytnphcnhejgpjgaa", sum := "b7bfdcba41f025d4204850a6b61fee89a9b5bf8be6bd84497aecaaea0f835b4f", func := "godwit/godwitlaw13.TimersIs", spec := "timersIs", unfollowed := true, recurses := true, leaving := true, apart := false }
def TimersIsSaid : Prop := timersIsRow.holds Try.pinned (OpenSpec.ofChange timersIsSpec)

/-- ITS FALSE NEIGHBOUR: 'it returns false'. Refute it at one input. -/
def timersIsWrong : ChangeSpec := { name := "timersIs", fn := fun _ => fun
  | [d1, d2, d3] => { results := [.lit (.bool false)], args := [d1, d2, d3] }
  | _ => none }
def TimersIsWrongFalsely : Prop := timersIsRow.holds Try.pinned (OpenSpec.ofChange timersIsWrong)

/-- 'godwitlaw13.TimersTicks': WHATEVER THE INPUT: true; the input reads as it did. -/
def timersTicksSpec : ChangeSpec := { name := "timersTicks", fn := fun _ => fun
  | [d1, d2, d3] => { results := [.lit (.bool true)], args := [d1, d2, d3] }
  | _ => none }
def timersTicksRow : OpenClaim := { program := "ytnphcnhejgpjgaa", sum := "b7bfdcba41f025d4204850a6b61fee89a9b5bf8be6bd84497aecaaea0f835b4f", func := "godwit/godwitlaw13.TimersTicks", spec := "timersTicks", unfollowed := true, recurses := true, leaving := true, apart := false }
def TimersTicksSaid : Prop := timersTicksRow.holds Try.pinned (OpenSpec.ofChange timersTicksSpec)

/-- ITS FALSE NEIGHBOUR: 'it returns false'. Refute it at one input. -/
def timersTicksWrong : ChangeSpec := { name := "timersTicks", fn := fun _ => fun
  | [d1, d2, d3] => { results := [.lit (.bool false)], args := [d1, d2, d3] }
  | _ => none }
def TimersTicksWrongFalsely : Prop := timersTicksRow.holds Try.pinned (OpenSpec.ofChange timersTicksWrong)

/-- 'godwitlaw13.TimersNext': WHATEVER THE INPUT: true; the input reads as it did. -/
def timersNextSpec : ChangeSpec := { name := "timersNext", fn := fun _ => fun
  | [d1, d2] => { results := [.lit (.bool true)], args := [d1, d2] }
  | _ => none }
def timersNextRow : OpenClaim := { program := "ytnphcnhejgpjgaa", sum := "b7bfdcba41f025d4204850a6b61fee89a9b5bf8be6bd84497aecaaea0f835b4f", func := "godwit/godwitlaw13.TimersNext", spec := "timersNext", unfollowed := true, recurses := true, leaving := true, apart := false }
def TimersNextSaid : Prop := timersNextRow.holds Try.pinned (OpenSpec.ofChange timersNextSpec)

/-- ITS FALSE NEIGHBOUR: 'it returns false'. Refute it at one input. -/
def timersNextWrong : ChangeSpec := { name := "timersNext", fn := fun _ => fun
  | [d1, d2] => { results := [.lit (.bool false)], args := [d1, d2] }
  | _ => none }
def TimersNextWrongFalsely : Prop := timersNextRow.holds Try.pinned (OpenSpec.ofChange timersNextWrong)

/-- 'godwitlaw13.TimersLast': WHATEVER THE INPUT: true; the input reads as it did. -/
def timersLastSpec : ChangeSpec := { name := "timersLast", fn := fun _ => fun
  | [d1, d2, d3, d4, d5] => { results := [.lit (.bool true)], args := [d1, d2, d3, d4, d5] }
  | _ => none }
def timersLastRow : OpenClaim := { program := "ytnphcnhejgpjgaa", sum := "b7bfdcba41f025d4204850a6b61fee89a9b5bf8be6bd84497aecaaea0f835b4f", func := "godwit/godwitlaw13.TimersLast", spec := "timersLast", unfollowed := true, recurses := true, leaving := true, apart := false }
def TimersLastSaid : Prop := timersLastRow.holds Try.pinned (OpenSpec.ofChange timersLastSpec)

/-- ITS FALSE NEIGHBOUR: 'it returns false'. Refute it at one input. -/
def timersLastWrong : ChangeSpec := { name := "timersLast", fn := fun _ => fun
  | [d1, d2, d3, d4, d5] => { results := [.lit (.bool false)], args := [d1, d2, d3, d4, d5] }
  | _ => none }
def TimersLastWrongFalsely : Prop := timersLastRow.holds Try.pinned (OpenSpec.ofChange timersLastWrong)

/- THE SECOND FORM. 'bulk': how many values and letters a reading holds, each counted each time it is reached (what is shared counts as often as it is met; a slice's spare places count too). A statement '..UptoSaid' is the law's where the arguments, and the package variables that the reading takes, are together of bulk at most 1048576: NARROWER than '..Said'. Prove '..Said' where nothing that the law and all that it calls make is longer than what came in: it says more and counts as full. Else prove '..UptoSaid'. A law counts once. -/
mutual
def uptoBulk {H : Type} : DataW H → Nat
  | .lit (.string bytes) => bytes.length + 1
  | .lit _ => 1
  | .nil => 1
  | .ptr d => uptoBulk d + 1
  | .slice elems spare => uptoBulkAll elems + uptoBulkAll spare + 1
  | .agg parts => uptoBulkAll parts + 1
  | .iface _ d => uptoBulk d + 1
  | .map entries => uptoBulkEntries entries + 1
  | .held _ => 1
def uptoBulkAll {H : Type} : List (DataW H) → Nat
  | [] => 0
  | d :: r => uptoBulk d + uptoBulkAll r
def uptoBulkEntries {H : Type} : List (Lit × DataW H) → Nat
  | [] => 0
  | x :: r => uptoBulkEntry x + uptoBulkEntries r
def uptoBulkEntry {H : Type} : Lit × DataW H → Nat
  | (.string bytes, d) => bytes.length + uptoBulk d + 1
  | (_, d) => uptoBulk d + 1
 end
def uptoSmall : (H : Type) → List (DataW H) → Bool := fun _ ds => decide (uptoBulkAll ds ≤ 1048576)
def OpenSpec.upto (s : _root_.Go.ChangeSpec) : _root_.Go.OpenSpec := { _root_.Go.OpenSpec.ofChange s with cond := some uptoSmall }

/-- 'godwitlaw13.TimersIs', WHERE WHAT IT READS IS OF BULK AT MOST 1048576: true; the input reads as it did. -/
def timersIsUptoRow : OpenClaim := { program := "ytnphcnhejgpjgaa", sum := "b7bfdcba41f025d4204850a6b61fee89a9b5bf8be6bd84497aecaaea0f835b4f", func := "godwit/godwitlaw13.TimersIs", spec := "timersIs", unfollowed := true, recurses := true, leaving := true, apart := false, narrowed := true }
def TimersIsUptoSaid : Prop := timersIsUptoRow.holds Try.pinned (OpenSpec.upto timersIsSpec)

/-- 'godwitlaw13.TimersTicks', WHERE WHAT IT READS IS OF BULK AT MOST 1048576: true; the input reads as it did. -/
def timersTicksUptoRow : OpenClaim := { program := "ytnphcnhejgpjgaa", sum := "b7bfdcba41f025d4204850a6b61fee89a9b5bf8be6bd84497aecaaea0f835b4f", func := "godwit/godwitlaw13.TimersTicks", spec := "timersTicks", unfollowed := true, recurses := true, leaving := true, apart := false, narrowed := true }
def TimersTicksUptoSaid : Prop := timersTicksUptoRow.holds Try.pinned (OpenSpec.upto timersTicksSpec)

/-- 'godwitlaw13.TimersNext', WHERE WHAT IT READS IS OF BULK AT MOST 1048576: true; the input reads as it did. -/
def timersNextUptoRow : OpenClaim := { program := "ytnphcnhejgpjgaa", sum := "b7bfdcba41f025d4204850a6b61fee89a9b5bf8be6bd84497aecaaea0f835b4f", func := "godwit/godwitlaw13.TimersNext", spec := "timersNext", unfollowed := true, recurses := true, leaving := true, apart := false, narrowed := true }
def TimersNextUptoSaid : Prop := timersNextUptoRow.holds Try.pinned (OpenSpec.upto timersNextSpec)

/-- 'godwitlaw13.TimersLast', WHERE WHAT IT READS IS OF BULK AT MOST 1048576: true; the input reads as it did. -/
def timersLastUptoRow : OpenClaim := { program := "ytnphcnhejgpjgaa", sum := "b7bfdcba41f025d4204850a6b61fee89a9b5bf8be6bd84497aecaaea0f835b4f", func := "godwit/godwitlaw13.TimersLast", spec := "timersLast", unfollowed := true, recurses := true, leaving := true, apart := false, narrowed := true }
def TimersLastUptoSaid : Prop := timersLastUptoRow.holds Try.pinned (OpenSpec.upto timersLastSpec)

end Rows
end Go.Proofs.Ytnphcnhejgpjgaa
