/-
  DERIVED. GIVEN WITH THE SEED: THE CARDS: each row of YtbjahdbmkcamoaaGreatDoorRows.lean that lists a variable, with what it lists TIED to the program's text (the seventh form; the later family's looks); each row that meets fmt, with fmt's text TOLD by the authors' own Lean function (tested against real Go, not proved from fmt's source: count such statements apart). THE CARD IS WHAT COUNTS. Prove the row's statement (the work); the ties are given (YtbjahdbmkcamoaaGreatDoorTie.lean); close each card by the builder's one call (the guide's Derived/Test/ToyasCard.lean, 'card_holds'). Laid BY PROGRAM, IN A SANDBOX (cutbox-door.mjs). By AI agents, Wed Nov 11 2026. No macro, syntax, notation, axiom, sorry.
-/
import Derived.Test.YtbjahdbmkcamoaaGreatDoorRows
import GoSem.ClaimSeven
namespace Go.Proofs.YtbjahdbmkcamoaaGreatDoor
namespace Rows

/-- THE TIED CARD OF 'ledgerlaw13.ClientForges'. -/
def clientForgesCard : Claim7 := { stood := { row := clientForgesRow, standIns := [], harness := (true, "4b8d99d9d83b92809c3070f7787b9b3665353f02df925e20ab2ff0f2ee7623e4"), looks := false }, kinds := [], alts := [], laidByText := true, laidKinds := [.data, .data, .data, .data], laidTests := true, laidLooks := .later }
def ClientForgesCardSaid : Prop := Claim7.holds Tryz.pinned (.plain (OpenSpec.ofChange clientForgesSpec)) clientForgesCard

/-- THE SECOND FORM's CARD OF 'ledgerlaw13.ClientForges'. -/
def clientForgesUptoCard : Claim7 := { stood := { row := clientForgesUptoRow, standIns := [], harness := (true, "4b8d99d9d83b92809c3070f7787b9b3665353f02df925e20ab2ff0f2ee7623e4"), looks := false }, kinds := [], alts := [], laidByText := true, laidKinds := [.data, .data, .data, .data], laidTests := true, laidLooks := .later }
def ClientForgesUptoCardSaid : Prop := Claim7.holds Tryz.pinned (.plain (OpenSpec.upto clientForgesSpec)) clientForgesUptoCard
end Rows
end Go.Proofs.YtbjahdbmkcamoaaGreatDoor
