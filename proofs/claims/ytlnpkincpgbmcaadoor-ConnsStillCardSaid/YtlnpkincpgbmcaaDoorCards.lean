/-
  DERIVED. GIVEN WITH THE SEED: THE CARDS: each row of YtlnpkincpgbmcaaDoorRows.lean that lists a variable, with what it lists TIED to the program's text (the seventh form; the later family's looks); each row that meets fmt, with fmt's text TOLD by the authors' own Lean function (tested against real Go, not proved from fmt's source: count such statements apart). THE CARD IS WHAT COUNTS. Prove the row's statement (the work); the ties are given (YtlnpkincpgbmcaaDoorTie.lean); close each card by the builder's one call (the guide's Derived/Test/ToyasCard.lean, 'card_holds'). Laid BY PROGRAM, IN A SANDBOX (cutbox-door.mjs). By AI agents, Wed Nov 11 2026. No macro, syntax, notation, axiom, sorry.
-/
import Derived.Test.YtlnpkincpgbmcaaDoorRows
import GoSem.ClaimSeven
namespace Go.Proofs.YtlnpkincpgbmcaaDoor
namespace Rows

/-- THE TIED CARD OF 'godwitlaw17.ConnsOne'. -/
def connsOneCard : Claim7 := { stood := { row := connsOneRow, standIns := [], harness := (true, "e0c90a482bdb1b9492463352688de1e3ebe76d2a204b25ed5ad11ae48e029459"), looks := false }, kinds := [], alts := [], laidByText := true, laidKinds := [.data], laidTests := true, laidLooks := .later }
def ConnsOneCardSaid : Prop := Claim7.holds Tryd.pinned (.plain (OpenSpec.ofChange connsOneSpec)) connsOneCard

/-- THE TIED CARD OF 'godwitlaw17.ConnsFull'. -/
def connsFullCard : Claim7 := { stood := { row := connsFullRow, standIns := [], harness := (true, "e0c90a482bdb1b9492463352688de1e3ebe76d2a204b25ed5ad11ae48e029459"), looks := false }, kinds := [], alts := [], laidByText := true, laidKinds := [.data], laidTests := true, laidLooks := .later }
def ConnsFullCardSaid : Prop := Claim7.holds Tryd.pinned (.plain (OpenSpec.ofChange connsFullSpec)) connsFullCard

/-- THE TIED CARD OF 'godwitlaw17.ConnsStill'. -/
def connsStillCard : Claim7 := { stood := { row := connsStillRow, standIns := [], harness := (true, "e0c90a482bdb1b9492463352688de1e3ebe76d2a204b25ed5ad11ae48e029459"), looks := false }, kinds := [], alts := [], laidByText := true, laidKinds := [.data], laidTests := true, laidLooks := .later }
def ConnsStillCardSaid : Prop := Claim7.holds Tryd.pinned (.plain (OpenSpec.ofChange connsStillSpec)) connsStillCard

/-- THE SECOND FORM's CARD OF 'godwitlaw17.ConnsOne'. -/
def connsOneUptoCard : Claim7 := { stood := { row := connsOneUptoRow, standIns := [], harness := (true, "e0c90a482bdb1b9492463352688de1e3ebe76d2a204b25ed5ad11ae48e029459"), looks := false }, kinds := [], alts := [], laidByText := true, laidKinds := [.data], laidTests := true, laidLooks := .later }
def ConnsOneUptoCardSaid : Prop := Claim7.holds Tryd.pinned (.plain (OpenSpec.upto connsOneSpec)) connsOneUptoCard

/-- THE SECOND FORM's CARD OF 'godwitlaw17.ConnsFull'. -/
def connsFullUptoCard : Claim7 := { stood := { row := connsFullUptoRow, standIns := [], harness := (true, "e0c90a482bdb1b9492463352688de1e3ebe76d2a204b25ed5ad11ae48e029459"), looks := false }, kinds := [], alts := [], laidByText := true, laidKinds := [.data], laidTests := true, laidLooks := .later }
def ConnsFullUptoCardSaid : Prop := Claim7.holds Tryd.pinned (.plain (OpenSpec.upto connsFullSpec)) connsFullUptoCard

/-- THE SECOND FORM's CARD OF 'godwitlaw17.ConnsStill'. -/
def connsStillUptoCard : Claim7 := { stood := { row := connsStillUptoRow, standIns := [], harness := (true, "e0c90a482bdb1b9492463352688de1e3ebe76d2a204b25ed5ad11ae48e029459"), looks := false }, kinds := [], alts := [], laidByText := true, laidKinds := [.data], laidTests := true, laidLooks := .later }
def ConnsStillUptoCardSaid : Prop := Claim7.holds Tryd.pinned (.plain (OpenSpec.upto connsStillSpec)) connsStillUptoCard
end Rows
end Go.Proofs.YtlnpkincpgbmcaaDoor
