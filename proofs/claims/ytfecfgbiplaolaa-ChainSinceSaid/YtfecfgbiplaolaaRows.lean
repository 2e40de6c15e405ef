/-
  No cell of these rows narrows 'for every input' (looked for: loops, veiled, ifaces, maps, wideKeys, modest, calm, conditions, laid).
  DERIVED. THE GIVEN ROWS OF THIS SEAT. 5 by the template 'for every input the law returns true; each argument reads behind the call as it read before'; 0 by the template 'total and deterministic' (their statements: YtfecfgbiplaolaaTotals.lean).
  GIVEN WITH THE SEED: the statements are not yours to turn. If you find one false, say at which input.
  Laid BY PROGRAM, IN A SANDBOX (cutbox-rows.mjs): the forced cells as the released guide's own fill.sh prints them over the translation 2f6034d9206437f6… (all of the seat's roots in one cut). By AI agents, Wed Nov 11 2026. No macro, syntax, notation, axiom, sorry.
-/
import Derived.Test.YtfecfgbiplaolaaChecked
import GoSem.Claim
import GoSem.ClaimJoined
import GoSem.ClaimMapViews
import Derived.JoinedTies
import Derived.KernelRfl
namespace Go.Proofs.Ytfecfgbiplaolaa
/- THE CELL 'sum', in the pinned program and in every row, IS THE sha256 OF THE DUMP (.gsa) THAT YtfecfgbiplaolaaProg.lean LOADS. Nothing in Lean hashes anything: it is a label: what it is worth is what the hold of that sum in a sandbox is worth. -/
noncomputable def Try.pinned : Pinned := { name := "ytfecfgbiplaolaa", sum := "2f6034d9206437f686535f23f5c3792e40797d57679cc7535d008d67ad5163e5", checked := Try.checked }
namespace Rows
def none {H : Type} : Left H := { results := [], args := [] }

/-- 'godwitlaw07.ChainIs': WHATEVER THE INPUT: true; the input reads as it did. -/
def chainIsSpec : ChangeSpec := { name := "chainIs", fn := fun _ => fun
  | [d1, d2, d3] => { results := [.lit (.bool true)], args := [d1, d2, d3] }
  | _ => none }
def chainIsRow : OpenClaim := { program := "ytfecfgbiplaolaa", sum := "2f6034d9206437f686535f23f5c3792e40797d57679cc7535d008d67ad5163e5", func := "godwit/godwitlaw07.ChainIs", spec := "chainIs", unfollowed := true, recurses := true, apart := false }
def ChainIsSaid : Prop := chainIsRow.holds Try.pinned (OpenSpec.ofChange chainIsSpec)

/-- ITS FALSE NEIGHBOUR: 'it returns false'. Refute it at one input. -/
def chainIsWrong : ChangeSpec := { name := "chainIs", fn := fun _ => fun
  | [d1, d2, d3] => { results := [.lit (.bool false)], args := [d1, d2, d3] }
  | _ => none }
def ChainIsWrongFalsely : Prop := chainIsRow.holds Try.pinned (OpenSpec.ofChange chainIsWrong)

/-- 'godwitlaw07.ChainVacuum': WHATEVER THE INPUT: true; the input reads as it did. -/
def chainVacuumSpec : ChangeSpec := { name := "chainVacuum", fn := fun _ => fun
  | [d1, d2, d3] => { results := [.lit (.bool true)], args := [d1, d2, d3] }
  | _ => none }
def chainVacuumRow : OpenClaim := { program := "ytfecfgbiplaolaa", sum := "2f6034d9206437f686535f23f5c3792e40797d57679cc7535d008d67ad5163e5", func := "godwit/godwitlaw07.ChainVacuum", spec := "chainVacuum", unfollowed := true, recurses := true, apart := false }
def ChainVacuumSaid : Prop := chainVacuumRow.holds Try.pinned (OpenSpec.ofChange chainVacuumSpec)

/-- ITS FALSE NEIGHBOUR: 'it returns false'. Refute it at one input. -/
def chainVacuumWrong : ChangeSpec := { name := "chainVacuum", fn := fun _ => fun
  | [d1, d2, d3] => { results := [.lit (.bool false)], args := [d1, d2, d3] }
  | _ => none }
def ChainVacuumWrongFalsely : Prop := chainVacuumRow.holds Try.pinned (OpenSpec.ofChange chainVacuumWrong)

/-- 'godwitlaw07.ChainSees': WHATEVER THE INPUT: true; the input reads as it did. -/
def chainSeesSpec : ChangeSpec := { name := "chainSees", fn := fun _ => fun
  | [d1, d2, d3] => { results := [.lit (.bool true)], args := [d1, d2, d3] }
  | _ => none }
def chainSeesRow : OpenClaim := { program := "ytfecfgbiplaolaa", sum := "2f6034d9206437f686535f23f5c3792e40797d57679cc7535d008d67ad5163e5", func := "godwit/godwitlaw07.ChainSees", spec := "chainSees", unfollowed := true, recurses := true, apart := false }
def ChainSeesSaid : Prop := chainSeesRow.holds Try.pinned (OpenSpec.ofChange chainSeesSpec)

/-- ITS FALSE NEIGHBOUR: 'it returns false'. Refute it at one input. -/
def chainSeesWrong : ChangeSpec := { name := "chainSees", fn := fun _ => fun
  | [d1, d2, d3] => { results := [.lit (.bool false)], args := [d1, d2, d3] }
  | _ => none }
def ChainSeesWrongFalsely : Prop := chainSeesRow.holds Try.pinned (OpenSpec.ofChange chainSeesWrong)

/-- 'godwitlaw07.ChainSince': WHATEVER THE INPUT: true; the input reads as it did. -/
def chainSinceSpec : ChangeSpec := { name := "chainSince", fn := fun _ => fun
  | [d1, d2] => { results := [.lit (.bool true)], args := [d1, d2] }
  | _ => none }
def chainSinceRow : OpenClaim := { program := "ytfecfgbiplaolaa", sum := "2f6034d9206437f686535f23f5c3792e40797d57679cc7535d008d67ad5163e5", func := "godwit/godwitlaw07.ChainSince", spec := "chainSince", unfollowed := true, recurses := true, apart := false }
def ChainSinceSaid : Prop := chainSinceRow.holds Try.pinned (OpenSpec.ofChange chainSinceSpec)

/-- ITS FALSE NEIGHBOUR: 'it returns false'. Refute it at one input. -/
def chainSinceWrong : ChangeSpec := { name := "chainSince", fn := fun _ => fun
  | [d1, d2] => { results := [.lit (.bool false)], args := [d1, d2] }
  | _ => none }
def ChainSinceWrongFalsely : Prop := chainSinceRow.holds Try.pinned (OpenSpec.ofChange chainSinceWrong)

/-- 'godwitlaw07.ChainTwice': WHATEVER THE INPUT: true; the input reads as it did. -/
def chainTwiceSpec : ChangeSpec := { name := "chainTwice", fn := fun _ => fun
  | [d1, d2, d3] => { results := [.lit (.bool true)], args := [d1, d2, d3] }
  | _ => none }
def chainTwiceRow : OpenClaim := { program := "ytfecfgbiplaolaa", sum := "2f6034d9206437f686535f23f5c3792e40797d57679cc7535d008d67ad5163e5", func := "godwit/godwitlaw07.ChainTwice", spec := "chainTwice", unfollowed := true, recurses := true, apart := false }
def ChainTwiceSaid : Prop := chainTwiceRow.holds Try.pinned (OpenSpec.ofChange chainTwiceSpec)

/-- ITS FALSE NEIGHBOUR: 'it returns false'. Refute it at one input. -/
def chainTwiceWrong : ChangeSpec := { name := "chainTwice", fn := fun _ => fun
  | [d1, d2, d3] => { results := [.lit (.bool false)], args := [d1, d2, d3] }
  | _ => none }
def ChainTwiceWrongFalsely : Prop := chainTwiceRow.holds Try.pinned (OpenSpec.ofChange chainTwiceWrong)

/- THE SECOND FORM. 'bulk': how many values and letters a reading holds, each counted each time it is reached (what is shared counts as often as it is met; a slice's spare places count too). A statement '..UptoSaid' is the law's where the arguments, and the package variables that the reading takes, are together of bulk at most 1048576: NARROWER than '..Said'. Prove '..Said' where nothing that the law and all that it calls make is longer than what came in: it says more and counts as full. Else prove '..UptoSaid'. A law counts once. -/
mutual
def uptoBulk {H : Type} : DataW H → Nat
  | .lit (.string bytes) => bytes.length + 1
  | .lit _ => 1
  | .nil => 1
  | .ptr d => uptoBulk d + 1
  | .slice elems spare => uptoBulkAll elems + uptoBulkAll spare + 1
  | .agg parts => uptoBulkAll parts + 1
  | .iface _ d => uptoBulk d + 1
  | .map entries => uptoBulkEntries entries + 1
  | .held _ => 1
def uptoBulkAll {H : Type} : List (DataW H) → Nat
  | [] => 0
  | d :: r => uptoBulk d + uptoBulkAll r
def uptoBulkEntries {H : Type} : List (Lit × DataW H) → Nat
  | [] => 0
  | x :: r => uptoBulkEntry x + uptoBulkEntries r
def uptoBulkEntry {H : Type} : Lit × DataW H → Nat
  | (.string bytes, d) => bytes.length + uptoBulk d + 1
  | (_, d) => uptoBulk d + 1
 end
def uptoSmall : (H : Type) → List (DataW H) → Bool := fun _ ds => decide (uptoBulkAll ds ≤ 1048576)
def OpenSpec.upto (s : _root_.Go.ChangeSpec) : _root_.Go.OpenSpec := { _root_.Go.OpenSpec.ofChange s with cond := some uptoSmall }

/-- 'godwitlaw07.ChainIs', WHERE WHAT IT READS IS OF BULK AT MOST 1048576: true; the input reads as it did. -/
def chainIsUptoRow : OpenClaim := { program := "ytfecfgbiplaolaa", sum := "2f6034d9206437f686535f23f5c3792e40797d57679cc7535d008d67ad5163e5", func := "godwit/godwitlaw07.ChainIs", spec := "chainIs", unfollowed := true, recurses := true, apart := false, narrowed := true }
def ChainIsUptoSaid : Prop := chainIsUptoRow.holds Try.pinned (OpenSpec.upto chainIsSpec)

/-- 'godwitlaw07.ChainVacuum', WHERE WHAT IT READS IS OF BULK AT MOST 1048576: true; the input reads as it did. -/
def chainVacuumUptoRow : OpenClaim := { program := "ytfecfgbiplaolaa", sum := "2f6034d9206437f686535f23f5c3792e40797d57679cc7535d008d67ad5163e5", func := "godwit/godwitlaw07.ChainVacuum", spec := "chainVacuum", unfollowed := true, recurses := true, apart := false, narrowed := true }
def ChainVacuumUptoSaid : Prop := chainVacuumUptoRow.holds Try.pinned (OpenSpec.upto chainVacuumSpec)

/-- 'godwitlaw07.ChainSees', WHERE WHAT IT READS IS OF BULK AT MOST 1048576: true; the input reads as it did. -/
def chainSeesUptoRow : OpenClaim := { program := "ytfecfgbiplaolaa", sum := "2f6034d9206437f686535f23f5c3792e40797d57679cc7535d008d67ad5163e5", func := "godwit/godwitlaw07.ChainSees", spec := "chainSees", unfollowed := true, recurses := true, apart := false, narrowed := true }
def ChainSeesUptoSaid : Prop := chainSeesUptoRow.holds Try.pinned (OpenSpec.upto chainSeesSpec)

/-- 'godwitlaw07.ChainSince', WHERE WHAT IT READS IS OF BULK AT MOST 1048576: true; the input reads as it did. -/
def chainSinceUptoRow : OpenClaim := { program := "ytfecfgbiplaolaa", sum := "2f6034d9206437f686535f23f5c3792e40797d57679cc7535d008d67ad5163e5", func := "godwit/godwitlaw07.ChainSince", spec := "chainSince", unfollowed := true, recurses := true, apart := false, narrowed := true }
def ChainSinceUptoSaid : Prop := chainSinceUptoRow.holds Try.pinned (OpenSpec.upto chainSinceSpec)

/-- 'godwitlaw07.ChainTwice', WHERE WHAT IT READS IS OF BULK AT MOST 1048576: true; the input reads as it did. -/
def chainTwiceUptoRow : OpenClaim := { program := "ytfecfgbiplaolaa", sum := "2f6034d9206437f686535f23f5c3792e40797d57679cc7535d008d67ad5163e5", func := "godwit/godwitlaw07.ChainTwice", spec := "chainTwice", unfollowed := true, recurses := true, apart := false, narrowed := true }
def ChainTwiceUptoSaid : Prop := chainTwiceUptoRow.holds Try.pinned (OpenSpec.upto chainTwiceSpec)

end Rows
end Go.Proofs.Ytfecfgbiplaolaa
