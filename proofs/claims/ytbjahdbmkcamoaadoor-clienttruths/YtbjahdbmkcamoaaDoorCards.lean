/-
  DERIVED. GIVEN WITH THE SEED: THE CARDS: each row of YtbjahdbmkcamoaaDoorRows.lean that lists a variable, with what it lists TIED to the program's text (the seventh form; the later family's looks); each row that meets fmt, with fmt's text TOLD by the authors' own Lean function (tested against real Go, not proved from fmt's source: count such statements apart). THE CARD IS WHAT COUNTS. Prove the row's statement (the work); the ties are given (YtbjahdbmkcamoaaDoorTie.lean); close each card by the builder's one call (the guide's Derived/Test/ToyasCard.lean, 'card_holds'). Laid BY PROGRAM, IN A SANDBOX (cutbox-door.mjs). By AI agents, Wed Nov 11 2026. No macro, syntax, notation, axiom, sorry.
-/
import Derived.Test.YtbjahdbmkcamoaaDoorRows
import GoSem.ClaimSeven
namespace Go.Proofs.YtbjahdbmkcamoaaDoor
namespace Rows

/-- THE TIED CARD OF 'ledgerlaw13.ClientTruths'. -/
def clientTruthsCard : Claim7 := { stood := { row := clientTruthsRow, standIns := [], harness := (true, "18e161e6eac2da631fde0cfb30608dba8cfdfc7b1865bcc7092c0d665a6c170e"), looks := false }, kinds := [], alts := [], laidByText := true, laidKinds := [.data, .data, .data, .data], laidTests := true, laidLooks := .later }
def ClientTruthsCardSaid : Prop := Claim7.holds Tryd.pinned (.plain (OpenSpec.ofChange clientTruthsSpec)) clientTruthsCard

/-- THE SECOND FORM's CARD OF 'ledgerlaw13.ClientTruths'. -/
def clientTruthsUptoCard : Claim7 := { stood := { row := clientTruthsUptoRow, standIns := [], harness := (true, "18e161e6eac2da631fde0cfb30608dba8cfdfc7b1865bcc7092c0d665a6c170e"), looks := false }, kinds := [], alts := [], laidByText := true, laidKinds := [.data, .data, .data, .data], laidTests := true, laidLooks := .later }
def ClientTruthsUptoCardSaid : Prop := Claim7.holds Tryd.pinned (.plain (OpenSpec.upto clientTruthsSpec)) clientTruthsUptoCard
end Rows
end Go.Proofs.YtbjahdbmkcamoaaDoor
