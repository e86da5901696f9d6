/-
  DERIVED. GIVEN WITH THE SEED: THE CARDS: each row of YtfogohpmphgkkaaDoorRows.lean that lists a variable, with what it lists TIED to the program's text (the seventh form; the later family's looks); each row that meets fmt, with fmt's text TOLD by the authors' own Lean function (tested against real Go, not proved from fmt's source: count such statements apart). THE CARD IS WHAT COUNTS. Prove the row's statement (the work); the ties are given (YtfogohpmphgkkaaDoorTie.lean); close each card by the builder's one call (the guide's Derived/Test/ToyasCard.lean, 'card_holds'). Laid BY PROGRAM, IN A SANDBOX (cutbox-door.mjs). By AI agents, Wed Nov 11 2026. No macro, syntax, notation, axiom, sorry.
-/
import Derived.Test.YtfogohpmphgkkaaDoorRows
import GoSem.ClaimSeven
namespace Go.Proofs.YtfogohpmphgkkaaDoor
namespace Rows

/-- THE TIED CARD OF 'ledgerlaw16.LedgerNames'. -/
def ledgerNamesCard : Claim7 := { stood := { row := ledgerNamesRow, standIns := [], harness := (true, "da5027b3f5a3f4d722161f441aced992c5e54cff6f72ad597e16d69a67f78fff"), looks := true }, kinds := [], alts := [], laidByText := true, laidKinds := [.sentinel, .sentinel, .sentinel, .sentinel, .sentinel, .sentinel, .sentinel, .sentinel, .sentinel, .sentinel, .sentinel, .sentinel, .sentinel, .sentinel, .sentinel, .sentinel, .sentinel, .sentinel, .sentinel, .sentinel], laidTests := true, laidLooks := .later }
def LedgerNamesCardSaid : Prop := Claim7.holds Tryd.pinned (.plain (OpenSpec.ofChange ledgerNamesSpec)) ledgerNamesCard

/-- THE TIED CARD OF 'ledgerlaw16.LedgerCodes'. -/
def ledgerCodesCard : Claim7 := { stood := { row := ledgerCodesRow, standIns := [], harness := (true, "da5027b3f5a3f4d722161f441aced992c5e54cff6f72ad597e16d69a67f78fff"), looks := true }, kinds := [], alts := [], laidByText := true, laidKinds := [.sentinel, .sentinel, .sentinel, .sentinel, .sentinel, .sentinel, .sentinel, .sentinel, .sentinel, .sentinel, .sentinel, .sentinel, .sentinel, .sentinel, .sentinel, .sentinel, .sentinel, .sentinel, .sentinel, .sentinel], laidTests := true, laidLooks := .later }
def LedgerCodesCardSaid : Prop := Claim7.holds Tryd.pinned (.plain (OpenSpec.ofChange ledgerCodesSpec)) ledgerCodesCard

/-- THE TIED CARD OF 'ledgerlaw16.LedgerFaults'. -/
def ledgerFaultsCard : Claim7 := { stood := { row := ledgerFaultsRow, standIns := [], harness := (true, "da5027b3f5a3f4d722161f441aced992c5e54cff6f72ad597e16d69a67f78fff"), looks := true }, kinds := [], alts := [], laidByText := true, laidKinds := [.data, .data, .data, .sentinel, .sentinel, .sentinel, .sentinel, .sentinel, .sentinel, .sentinel, .sentinel, .sentinel, .sentinel, .sentinel, .sentinel, .sentinel, .sentinel, .sentinel, .sentinel, .sentinel, .sentinel, .sentinel, .sentinel], laidTests := true, laidLooks := .later }
def LedgerFaultsCardSaid : Prop := Claim7.holds Tryd.pinned (.plain (OpenSpec.ofChange ledgerFaultsSpec)) ledgerFaultsCard

/-- THE SECOND FORM's CARD OF 'ledgerlaw16.LedgerNames'. -/
def ledgerNamesUptoCard : Claim7 := { stood := { row := ledgerNamesUptoRow, standIns := [], harness := (true, "da5027b3f5a3f4d722161f441aced992c5e54cff6f72ad597e16d69a67f78fff"), looks := true }, kinds := [], alts := [], laidByText := true, laidKinds := [.sentinel, .sentinel, .sentinel, .sentinel, .sentinel, .sentinel, .sentinel, .sentinel, .sentinel, .sentinel, .sentinel, .sentinel, .sentinel, .sentinel, .sentinel, .sentinel, .sentinel, .sentinel, .sentinel, .sentinel], laidTests := true, laidLooks := .later }
def LedgerNamesUptoCardSaid : Prop := Claim7.holds Tryd.pinned (.plain (OpenSpec.upto ledgerNamesSpec)) ledgerNamesUptoCard

/-- THE SECOND FORM's CARD OF 'ledgerlaw16.LedgerCodes'. -/
def ledgerCodesUptoCard : Claim7 := { stood := { row := ledgerCodesUptoRow, standIns := [], harness := (true, "da5027b3f5a3f4d722161f441aced992c5e54cff6f72ad597e16d69a67f78fff"), looks := true }, kinds := [], alts := [], laidByText := true, laidKinds := [.sentinel, .sentinel, .sentinel, .sentinel, .sentinel, .sentinel, .sentinel, .sentinel, .sentinel, .sentinel, .sentinel, .sentinel, .sentinel, .sentinel, .sentinel, .sentinel, .sentinel, .sentinel, .sentinel, .sentinel], laidTests := true, laidLooks := .later }
def LedgerCodesUptoCardSaid : Prop := Claim7.holds Tryd.pinned (.plain (OpenSpec.upto ledgerCodesSpec)) ledgerCodesUptoCard

/-- THE SECOND FORM's CARD OF 'ledgerlaw16.LedgerFaults'. -/
def ledgerFaultsUptoCard : Claim7 := { stood := { row := ledgerFaultsUptoRow, standIns := [], harness := (true, "da5027b3f5a3f4d722161f441aced992c5e54cff6f72ad597e16d69a67f78fff"), looks := true }, kinds := [], alts := [], laidByText := true, laidKinds := [.data, .data, .data, .sentinel, .sentinel, .sentinel, .sentinel, .sentinel, .sentinel, .sentinel, .sentinel, .sentinel, .sentinel, .sentinel, .sentinel, .sentinel, .sentinel, .sentinel, .sentinel, .sentinel, .sentinel, .sentinel, .sentinel], laidTests := true, laidLooks := .later }
def LedgerFaultsUptoCardSaid : Prop := Claim7.holds Tryd.pinned (.plain (OpenSpec.upto ledgerFaultsSpec)) ledgerFaultsUptoCard
end Rows
end Go.Proofs.YtfogohpmphgkkaaDoor
