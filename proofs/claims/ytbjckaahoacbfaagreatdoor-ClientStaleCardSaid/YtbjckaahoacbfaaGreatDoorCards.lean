/-
  DERIVED. GIVEN WITH THE SEED: THE CARDS: each row of YtbjckaahoacbfaaGreatDoorRows.lean that lists a variable, with what it lists TIED to the program's text (the seventh form; the later family's looks); each row that meets fmt, with fmt's text TOLD by the authors' own Lean function (tested against real Go, not proved from fmt's source: count such statements apart). THE CARD IS WHAT COUNTS. Prove the row's statement (the work); the ties are given (YtbjckaahoacbfaaGreatDoorTie.lean); close each card by the builder's one call (the guide's Derived/Test/ToyasCard.lean, 'card_holds'). Laid BY PROGRAM, IN A SANDBOX (cutbox-door.mjs). By AI agents, Wed Nov 11 2026. No macro, syntax, notation, axiom, sorry.
-/
import Derived.Test.YtbjckaahoacbfaaGreatDoorRows
import GoSem.ClaimSeven
namespace Go.Proofs.YtbjckaahoacbfaaGreatDoor
namespace Rows

/-- THE TIED CARD OF 'godwitlaw21.ClientOnce'. -/
def clientOnceCard : Claim7 := { stood := { row := clientOnceRow, standIns := [], harness := (true, "8625b1e21ed919bd2c347e0ab851547d01cfa493edb9ae7342f9b342558596f5"), looks := false }, kinds := [], alts := [], laidByText := true, laidKinds := [.data], laidTests := true, laidLooks := .later }
def ClientOnceCardSaid : Prop := Claim7.holds Tryz.pinned (.plain (OpenSpec.ofChange clientOnceSpec)) clientOnceCard

/-- THE TIED CARD OF 'godwitlaw21.ClientTries'. -/
def clientTriesCard : Claim7 := { stood := { row := clientTriesRow, standIns := [], harness := (true, "8625b1e21ed919bd2c347e0ab851547d01cfa493edb9ae7342f9b342558596f5"), looks := false }, kinds := [], alts := [], laidByText := true, laidKinds := [.data], laidTests := true, laidLooks := .later }
def ClientTriesCardSaid : Prop := Claim7.holds Tryz.pinned (.plain (OpenSpec.ofChange clientTriesSpec)) clientTriesCard

/-- THE TIED CARD OF 'godwitlaw21.ClientEnds'. -/
def clientEndsCard : Claim7 := { stood := { row := clientEndsRow, standIns := [], harness := (true, "8625b1e21ed919bd2c347e0ab851547d01cfa493edb9ae7342f9b342558596f5"), looks := false }, kinds := [], alts := [], laidByText := true, laidKinds := [.data], laidTests := true, laidLooks := .later }
def ClientEndsCardSaid : Prop := Claim7.holds Tryz.pinned (.plain (OpenSpec.ofChange clientEndsSpec)) clientEndsCard

/-- THE TIED CARD OF 'godwitlaw21.ClientStale'. -/
def clientStaleCard : Claim7 := { stood := { row := clientStaleRow, standIns := [], harness := (true, "8625b1e21ed919bd2c347e0ab851547d01cfa493edb9ae7342f9b342558596f5"), looks := false }, kinds := [], alts := [], laidByText := true, laidKinds := [.data], laidTests := true, laidLooks := .later }
def ClientStaleCardSaid : Prop := Claim7.holds Tryz.pinned (.plain (OpenSpec.ofChange clientStaleSpec)) clientStaleCard

/-- THE SECOND FORM's CARD OF 'godwitlaw21.ClientOnce'. -/
def clientOnceUptoCard : Claim7 := { stood := { row := clientOnceUptoRow, standIns := [], harness := (true, "8625b1e21ed919bd2c347e0ab851547d01cfa493edb9ae7342f9b342558596f5"), looks := false }, kinds := [], alts := [], laidByText := true, laidKinds := [.data], laidTests := true, laidLooks := .later }
def ClientOnceUptoCardSaid : Prop := Claim7.holds Tryz.pinned (.plain (OpenSpec.upto clientOnceSpec)) clientOnceUptoCard

/-- THE SECOND FORM's CARD OF 'godwitlaw21.ClientTries'. -/
def clientTriesUptoCard : Claim7 := { stood := { row := clientTriesUptoRow, standIns := [], harness := (true, "8625b1e21ed919bd2c347e0ab851547d01cfa493edb9ae7342f9b342558596f5"), looks := false }, kinds := [], alts := [], laidByText := true, laidKinds := [.data], laidTests := true, laidLooks := .later }
def ClientTriesUptoCardSaid : Prop := Claim7.holds Tryz.pinned (.plain (OpenSpec.upto clientTriesSpec)) clientTriesUptoCard

/-- THE SECOND FORM's CARD OF 'godwitlaw21.ClientEnds'. -/
def clientEndsUptoCard : Claim7 := { stood := { row := clientEndsUptoRow, standIns := [], harness := (true, "8625b1e21ed919bd2c347e0ab851547d01cfa493edb9ae7342f9b342558596f5"), looks := false }, kinds := [], alts := [], laidByText := true, laidKinds := [.data], laidTests := true, laidLooks := .later }
def ClientEndsUptoCardSaid : Prop := Claim7.holds Tryz.pinned (.plain (OpenSpec.upto clientEndsSpec)) clientEndsUptoCard

/-- THE SECOND FORM's CARD OF 'godwitlaw21.ClientStale'. -/
def clientStaleUptoCard : Claim7 := { stood := { row := clientStaleUptoRow, standIns := [], harness := (true, "8625b1e21ed919bd2c347e0ab851547d01cfa493edb9ae7342f9b342558596f5"), looks := false }, kinds := [], alts := [], laidByText := true, laidKinds := [.data], laidTests := true, laidLooks := .later }
def ClientStaleUptoCardSaid : Prop := Claim7.holds Tryz.pinned (.plain (OpenSpec.upto clientStaleSpec)) clientStaleUptoCard
end Rows
end Go.Proofs.YtbjckaahoacbfaaGreatDoor
