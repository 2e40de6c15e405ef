/-
  DERIVED. GIVEN WITH THE SEED: THE CARDS: each row of YtlpanhfojeaamaaDoorRows.lean that lists a variable, with what it lists TIED to the program's text (the seventh form; the later family's looks); each row that meets fmt, with fmt's text TOLD by the authors' own Lean function (tested against real Go, not proved from fmt's source: count such statements apart). THE CARD IS WHAT COUNTS. Prove the row's statement (the work); the ties are given (YtlpanhfojeaamaaDoorTie.lean); close each card by the builder's one call (the guide's Derived/Test/ToyasCard.lean, 'card_holds'). Laid BY PROGRAM, IN A SANDBOX (cutbox-door.mjs). By AI agents, Wed Nov 11 2026. No macro, syntax, notation, axiom, sorry.
-/
import Derived.Test.YtlpanhfojeaamaaDoorRows
import GoSem.ClaimSeven
namespace Go.Proofs.YtlpanhfojeaamaaDoor
namespace Rows

/-- THE TIED CARD OF 'godwitlaw16.PipeIs'. -/
def pipeIsCard : Claim7 := { stood := { row := pipeIsRow, standIns := [], harness := (true, "38ecc9c4ea10193e7d2cd90bd452b22ec7cf8b67c22549e29cb589801b863c92"), looks := false }, kinds := [], alts := [], laidByText := true, laidKinds := [.data], laidTests := true, laidLooks := .later }
def PipeIsCardSaid : Prop := Claim7.holds Tryd.pinned (.plain (OpenSpec.ofChange pipeIsSpec)) pipeIsCard

/-- THE TIED CARD OF 'godwitlaw16.PipeOnce'. -/
def pipeOnceCard : Claim7 := { stood := { row := pipeOnceRow, standIns := [], harness := (true, "38ecc9c4ea10193e7d2cd90bd452b22ec7cf8b67c22549e29cb589801b863c92"), looks := false }, kinds := [], alts := [], laidByText := true, laidKinds := [.data], laidTests := true, laidLooks := .later }
def PipeOnceCardSaid : Prop := Claim7.holds Tryd.pinned (.plain (OpenSpec.ofChange pipeOnceSpec)) pipeOnceCard

/-- THE TIED CARD OF 'godwitlaw16.PipeOrder'. -/
def pipeOrderCard : Claim7 := { stood := { row := pipeOrderRow, standIns := [], harness := (true, "38ecc9c4ea10193e7d2cd90bd452b22ec7cf8b67c22549e29cb589801b863c92"), looks := false }, kinds := [], alts := [], laidByText := true, laidKinds := [.data], laidTests := true, laidLooks := .later }
def PipeOrderCardSaid : Prop := Claim7.holds Tryd.pinned (.plain (OpenSpec.ofChange pipeOrderSpec)) pipeOrderCard

/-- THE TIED CARD OF 'godwitlaw16.PipeTwice'. -/
def pipeTwiceCard : Claim7 := { stood := { row := pipeTwiceRow, standIns := [], harness := (true, "38ecc9c4ea10193e7d2cd90bd452b22ec7cf8b67c22549e29cb589801b863c92"), looks := false }, kinds := [], alts := [], laidByText := true, laidKinds := [.data], laidTests := true, laidLooks := .later }
def PipeTwiceCardSaid : Prop := Claim7.holds Tryd.pinned (.plain (OpenSpec.ofChange pipeTwiceSpec)) pipeTwiceCard

/-- THE TIED CARD OF 'godwitlaw16.PipeSame'. -/
def pipeSameCard : Claim7 := { stood := { row := pipeSameRow, standIns := [], harness := (true, "38ecc9c4ea10193e7d2cd90bd452b22ec7cf8b67c22549e29cb589801b863c92"), looks := false }, kinds := [], alts := [], laidByText := true, laidKinds := [.data], laidTests := true, laidLooks := .later }
def PipeSameCardSaid : Prop := Claim7.holds Tryd.pinned (.plain (OpenSpec.ofChange pipeSameSpec)) pipeSameCard

/-- THE SECOND FORM's CARD OF 'godwitlaw16.PipeIs'. -/
def pipeIsUptoCard : Claim7 := { stood := { row := pipeIsUptoRow, standIns := [], harness := (true, "38ecc9c4ea10193e7d2cd90bd452b22ec7cf8b67c22549e29cb589801b863c92"), looks := false }, kinds := [], alts := [], laidByText := true, laidKinds := [.data], laidTests := true, laidLooks := .later }
def PipeIsUptoCardSaid : Prop := Claim7.holds Tryd.pinned (.plain (OpenSpec.upto pipeIsSpec)) pipeIsUptoCard

/-- THE SECOND FORM's CARD OF 'godwitlaw16.PipeOnce'. -/
def pipeOnceUptoCard : Claim7 := { stood := { row := pipeOnceUptoRow, standIns := [], harness := (true, "38ecc9c4ea10193e7d2cd90bd452b22ec7cf8b67c22549e29cb589801b863c92"), looks := false }, kinds := [], alts := [], laidByText := true, laidKinds := [.data], laidTests := true, laidLooks := .later }
def PipeOnceUptoCardSaid : Prop := Claim7.holds Tryd.pinned (.plain (OpenSpec.upto pipeOnceSpec)) pipeOnceUptoCard

/-- THE SECOND FORM's CARD OF 'godwitlaw16.PipeOrder'. -/
def pipeOrderUptoCard : Claim7 := { stood := { row := pipeOrderUptoRow, standIns := [], harness := (true, "38ecc9c4ea10193e7d2cd90bd452b22ec7cf8b67c22549e29cb589801b863c92"), looks := false }, kinds := [], alts := [], laidByText := true, laidKinds := [.data], laidTests := true, laidLooks := .later }
def PipeOrderUptoCardSaid : Prop := Claim7.holds Tryd.pinned (.plain (OpenSpec.upto pipeOrderSpec)) pipeOrderUptoCard

/-- THE SECOND FORM's CARD OF 'godwitlaw16.PipeTwice'. -/
def pipeTwiceUptoCard : Claim7 := { stood := { row := pipeTwiceUptoRow, standIns := [], harness := (true, "38ecc9c4ea10193e7d2cd90bd452b22ec7cf8b67c22549e29cb589801b863c92"), looks := false }, kinds := [], alts := [], laidByText := true, laidKinds := [.data], laidTests := true, laidLooks := .later }
def PipeTwiceUptoCardSaid : Prop := Claim7.holds Tryd.pinned (.plain (OpenSpec.upto pipeTwiceSpec)) pipeTwiceUptoCard

/-- THE SECOND FORM's CARD OF 'godwitlaw16.PipeSame'. -/
def pipeSameUptoCard : Claim7 := { stood := { row := pipeSameUptoRow, standIns := [], harness := (true, "38ecc9c4ea10193e7d2cd90bd452b22ec7cf8b67c22549e29cb589801b863c92"), looks := false }, kinds := [], alts := [], laidByText := true, laidKinds := [.data], laidTests := true, laidLooks := .later }
def PipeSameUptoCardSaid : Prop := Claim7.holds Tryd.pinned (.plain (OpenSpec.upto pipeSameSpec)) pipeSameUptoCard
end Rows
end Go.Proofs.YtlpanhfojeaamaaDoor
