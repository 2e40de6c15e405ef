/-
  No cell of these rows narrows 'for every input' (looked for: loops, veiled, ifaces, maps, wideKeys, modest, calm, conditions, laid).
  DERIVED. THE GIVEN ROWS OF THIS SEAT. 5 by the template 'for every input the law returns true; each argument reads behind the call as it read before'; 0 by the template 'total and deterministic' (their statements: YthmibhmmbajcfaaTotals.lean).
  GIVEN WITH THE SEED: the statements are not yours to turn. If you find one false, say at which input.
  Laid BY PROGRAM, IN A SANDBOX (cutbox-rows.mjs): the forced cells as the released guide's own fill.sh prints them over the translation aef4ac680199d30d… (all of the seat's roots in one cut). By AI agents, Wed Nov 11 2026. No macro, syntax, notation, axiom, sorry.
-/
import Derived.Test.YthmibhmmbajcfaaChecked
import GoSem.Claim
import GoSem.ClaimJoined
import GoSem.ClaimMapViews
import Derived.JoinedTies
import Derived.KernelRfl
namespace Go.Proofs.Ythmibhmmbajcfaa
/- THE CELL 'sum', in the pinned program and in every row, IS THE sha256 OF THE DUMP (.gsa) THAT YthmibhmmbajcfaaProg.lean LOADS. Nothing in Lean hashes anything: it is a label: what it is worth is what the hold of that sum in a sandbox is worth. -/
noncomputable def Try.pinned : Pinned := { name := "ythmibhmmbajcfaa", sum := "aef4ac680199d30daa8ebe190ff7a6137bc4740a8cfe8056230ffc916b0c7a56", checked := Try.checked }
namespace Rows
def none {H : Type} : Left H := { results := [], args := [] }

/-- 'godwitlaw22.NetIs': WHATEVER THE INPUT: true; the input reads as it did. -/
def netIsSpec : ChangeSpec := { name := "netIs", fn := fun _ => fun
  | [d1, d2, d3, d4, d5, d6, d7] => { results := [.lit (.bool true)], args := [d1, d2, d3, d4, d5, d6, d7] }
  | _ => none }
def netIsRow : OpenClaim := { program := "ythmibhmmbajcfaa", sum := "aef4ac680199d30daa8ebe190ff7a6137bc4740a8cfe8056230ffc916b0c7a56", func := "godwit/godwitlaw22.NetIs", spec := "netIs", unfollowed := true, recurses := true, apart := false }
def NetIsSaid : Prop := netIsRow.holds Try.pinned (OpenSpec.ofChange netIsSpec)

/-- ITS FALSE NEIGHBOUR: 'it returns false'. Refute it at one input. -/
def netIsWrong : ChangeSpec := { name := "netIs", fn := fun _ => fun
  | [d1, d2, d3, d4, d5, d6, d7] => { results := [.lit (.bool false)], args := [d1, d2, d3, d4, d5, d6, d7] }
  | _ => none }
def NetIsWrongFalsely : Prop := netIsRow.holds Try.pinned (OpenSpec.ofChange netIsWrong)

/-- 'godwitlaw22.NetFlips': WHATEVER THE INPUT: true; the input reads as it did. -/
def netFlipsSpec : ChangeSpec := { name := "netFlips", fn := fun _ => fun
  | [d1, d2, d3] => { results := [.lit (.bool true)], args := [d1, d2, d3] }
  | _ => none }
def netFlipsRow : OpenClaim := { program := "ythmibhmmbajcfaa", sum := "aef4ac680199d30daa8ebe190ff7a6137bc4740a8cfe8056230ffc916b0c7a56", func := "godwit/godwitlaw22.NetFlips", spec := "netFlips", unfollowed := true, recurses := true, apart := false }
def NetFlipsSaid : Prop := netFlipsRow.holds Try.pinned (OpenSpec.ofChange netFlipsSpec)

/-- ITS FALSE NEIGHBOUR: 'it returns false'. Refute it at one input. -/
def netFlipsWrong : ChangeSpec := { name := "netFlips", fn := fun _ => fun
  | [d1, d2, d3] => { results := [.lit (.bool false)], args := [d1, d2, d3] }
  | _ => none }
def NetFlipsWrongFalsely : Prop := netFlipsRow.holds Try.pinned (OpenSpec.ofChange netFlipsWrong)

/-- 'godwitlaw22.NetTakes': WHATEVER THE INPUT: true; the input reads as it did. -/
def netTakesSpec : ChangeSpec := { name := "netTakes", fn := fun _ => fun
  | [d1, d2] => { results := [.lit (.bool true)], args := [d1, d2] }
  | _ => none }
def netTakesRow : OpenClaim := { program := "ythmibhmmbajcfaa", sum := "aef4ac680199d30daa8ebe190ff7a6137bc4740a8cfe8056230ffc916b0c7a56", func := "godwit/godwitlaw22.NetTakes", spec := "netTakes", unfollowed := true, recurses := true, apart := false }
def NetTakesSaid : Prop := netTakesRow.holds Try.pinned (OpenSpec.ofChange netTakesSpec)

/-- ITS FALSE NEIGHBOUR: 'it returns false'. Refute it at one input. -/
def netTakesWrong : ChangeSpec := { name := "netTakes", fn := fun _ => fun
  | [d1, d2] => { results := [.lit (.bool false)], args := [d1, d2] }
  | _ => none }
def NetTakesWrongFalsely : Prop := netTakesRow.holds Try.pinned (OpenSpec.ofChange netTakesWrong)

/-- 'godwitlaw22.NetLinks': WHATEVER THE INPUT: true; the input reads as it did. -/
def netLinksSpec : ChangeSpec := { name := "netLinks", fn := fun _ => fun
  | [d1, d2] => { results := [.lit (.bool true)], args := [d1, d2] }
  | _ => none }
def netLinksRow : OpenClaim := { program := "ythmibhmmbajcfaa", sum := "aef4ac680199d30daa8ebe190ff7a6137bc4740a8cfe8056230ffc916b0c7a56", func := "godwit/godwitlaw22.NetLinks", spec := "netLinks", unfollowed := true, recurses := true, apart := false }
def NetLinksSaid : Prop := netLinksRow.holds Try.pinned (OpenSpec.ofChange netLinksSpec)

/-- ITS FALSE NEIGHBOUR: 'it returns false'. Refute it at one input. -/
def netLinksWrong : ChangeSpec := { name := "netLinks", fn := fun _ => fun
  | [d1, d2] => { results := [.lit (.bool false)], args := [d1, d2] }
  | _ => none }
def NetLinksWrongFalsely : Prop := netLinksRow.holds Try.pinned (OpenSpec.ofChange netLinksWrong)

/-- 'godwitlaw22.NetDups': WHATEVER THE INPUT: true; the input reads as it did. -/
def netDupsSpec : ChangeSpec := { name := "netDups", fn := fun _ => fun
  | [d1, d2] => { results := [.lit (.bool true)], args := [d1, d2] }
  | _ => none }
def netDupsRow : OpenClaim := { program := "ythmibhmmbajcfaa", sum := "aef4ac680199d30daa8ebe190ff7a6137bc4740a8cfe8056230ffc916b0c7a56", func := "godwit/godwitlaw22.NetDups", spec := "netDups", unfollowed := true, recurses := true, apart := false }
def NetDupsSaid : Prop := netDupsRow.holds Try.pinned (OpenSpec.ofChange netDupsSpec)

/-- ITS FALSE NEIGHBOUR: 'it returns false'. Refute it at one input. -/
def netDupsWrong : ChangeSpec := { name := "netDups", fn := fun _ => fun
  | [d1, d2] => { results := [.lit (.bool false)], args := [d1, d2] }
  | _ => none }
def NetDupsWrongFalsely : Prop := netDupsRow.holds Try.pinned (OpenSpec.ofChange netDupsWrong)

/- THE SECOND FORM. 'bulk': how many values and letters a reading holds, each counted each time it is reached (what is shared counts as often as it is met; a slice's spare places count too). A statement '..UptoSaid' is the law's where the arguments, and the package variables that the reading takes, are together of bulk at most 1048576: NARROWER than '..Said'. Prove '..Said' where nothing that the law and all that it calls make is longer than what came in: it says more and counts as full. Else prove '..UptoSaid'. A law counts once. -/
mutual
def uptoBulk {H : Type} : DataW H → Nat
  | .lit (.string bytes) => bytes.length + 1
  | .lit _ => 1
  | .nil => 1
  | .ptr d => uptoBulk d + 1
  | .slice elems spare => uptoBulkAll elems + uptoBulkAll spare + 1
  | .agg parts => uptoBulkAll parts + 1
  | .iface _ d => uptoBulk d + 1
  | .map entries => uptoBulkEntries entries + 1
  | .held _ => 1
def uptoBulkAll {H : Type} : List (DataW H) → Nat
  | [] => 0
  | d :: r => uptoBulk d + uptoBulkAll r
def uptoBulkEntries {H : Type} : List (Lit × DataW H) → Nat
  | [] => 0
  | x :: r => uptoBulkEntry x + uptoBulkEntries r
def uptoBulkEntry {H : Type} : Lit × DataW H → Nat
  | (.string bytes, d) => bytes.length + uptoBulk d + 1
  | (_, d) => uptoBulk d + 1
 end
def uptoSmall : (H : Type) → List (DataW H) → Bool := fun _ ds => decide (uptoBulkAll ds ≤ 1048576)
def OpenSpec.upto (s : _root_.Go.ChangeSpec) : _root_.Go.OpenSpec := { _root_.Go.OpenSpec.ofChange s with cond := some uptoSmall }

/-- 'godwitlaw22.NetIs', WHERE WHAT IT READS IS OF BULK AT MOST 1048576: true; the input reads as it did. -/
def netIsUptoRow : OpenClaim := { program := "ythmibhmmbajcfaa", sum := "aef4ac680199d30daa8ebe190ff7a6137bc4740a8cfe8056230ffc916b0c7a56", func := "godwit/godwitlaw22.NetIs", spec := "netIs", unfollowed := true, recurses := true, apart := false, narrowed := true }
def NetIsUptoSaid : Prop := netIsUptoRow.holds Try.pinned (OpenSpec.upto netIsSpec)

/-- 'godwitlaw22.NetFlips', WHERE WHAT IT READS IS OF BULK AT MOST 1048576: true; the input reads as it did. -/
def netFlipsUptoRow : OpenClaim := { program := "ythmibhmmbajcfaa", sum := "aef4ac680199d30daa8ebe190ff7a6137bc4740a8cfe8056230ffc916b0c7a56", func := "godwit/godwitlaw22.NetFlips", spec := "netFlips", unfollowed := true, recurses := true, apart := false, narrowed := true }
def NetFlipsUptoSaid : Prop := netFlipsUptoRow.holds Try.pinned (OpenSpec.upto netFlipsSpec)

/-- 'godwitlaw22.NetTakes', WHERE WHAT IT READS IS OF BULK AT MOST 1048576: true; the input reads as it did. -/
def netTakesUptoRow : OpenClaim := { program := "ythmibhmmbajcfaa", sum := "aef4ac680199d30daa8ebe190ff7a6137bc4740a8cfe8056230ffc916b0c7a56", func := "godwit/godwitlaw22.NetTakes", spec := "netTakes", unfollowed := true, recurses := true, apart := false, narrowed := true }
def NetTakesUptoSaid : Prop := netTakesUptoRow.holds Try.pinned (OpenSpec.upto netTakesSpec)

/-- 'godwitlaw22.NetLinks', WHERE WHAT IT READS IS OF BULK AT MOST 1048576: true; the input reads as it did. -/
def netLinksUptoRow : OpenClaim := { program := "ythmibhmmbajcfaa", sum := "aef4ac680199d30daa8ebe190ff7a6137bc4740a8cfe8056230ffc916b0c7a56", func := "godwit/godwitlaw22.NetLinks", spec := "netLinks", unfollowed := true, recurses := true, apart := false, narrowed := true }
def NetLinksUptoSaid : Prop := netLinksUptoRow.holds Try.pinned (OpenSpec.upto netLinksSpec)

/-- 'godwitlaw22.NetDups', WHERE WHAT IT READS IS OF BULK AT MOST 1048576: true; the input reads as it did. -/
def netDupsUptoRow : OpenClaim := { program := "ythmibhmmbajcfaa", sum := "aef4ac680199d30daa8ebe190ff7a6137bc4740a8cfe8056230ffc916b0c7a56", func := "godwit/godwitlaw22.NetDups", spec := "netDups", unfollowed := true, recurses := true, apart := false, narrowed := true }
def NetDupsUptoSaid : Prop := netDupsUptoRow.holds Try.pinned (OpenSpec.upto netDupsSpec)

end Rows
end Go.Proofs.Ythmibhmmbajcfaa
