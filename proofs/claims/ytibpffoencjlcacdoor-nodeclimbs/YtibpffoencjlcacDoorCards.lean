/-
  DERIVED. GIVEN WITH THE SEED: THE CARDS: each row of YtibpffoencjlcacDoorRows.lean that lists a variable, with what it lists TIED to the program's text (the seventh form; the later family's looks); each row that meets fmt, with fmt's text TOLD by the authors' own Lean function (tested against real Go, not proved from fmt's source: count such statements apart). THE CARD IS WHAT COUNTS. Prove the row's statement (the work); the ties are given (YtibpffoencjlcacDoorTie.lean); close each card by the builder's one call (the guide's Derived/Test/ToyasCard.lean, 'card_holds'). Laid BY PROGRAM, IN A SANDBOX (cutbox-door.mjs). By AI agents, Wed Nov 11 2026. No macro, syntax, notation, axiom, sorry.
-/
import Derived.Test.YtibpffoencjlcacDoorRows
import GoSem.ClaimSeven
namespace Go.Proofs.YtibpffoencjlcacDoor
namespace Rows

/-- THE TIED CARD OF 'ledgerlaw9.NodeClimbs'. -/
def nodeClimbsCard : Claim7 := { stood := { row := nodeClimbsRow, standIns := [], harness := (true, "b8cb3e3b2eeb101bcb497cbdcf6721cec63047ed1bb4e5c51a74f4bad5596ea2"), looks := true }, kinds := [], alts := [], laidByText := true, laidKinds := [.data, .data, .data, .data], laidTests := true, laidLooks := .later }
def NodeClimbsCardSaid : Prop := Claim7.holds Tryd.pinned (.plain (OpenSpec.ofChange nodeClimbsSpec)) nodeClimbsCard

/-- THE TIED CARD OF 'ledgerlaw9.NodePlays'. -/
def nodePlaysCard : Claim7 := { stood := { row := nodePlaysRow, standIns := [], harness := (true, "b8cb3e3b2eeb101bcb497cbdcf6721cec63047ed1bb4e5c51a74f4bad5596ea2"), looks := true }, kinds := [], alts := [], laidByText := true, laidKinds := [.data, .data, .data, .data], laidTests := true, laidLooks := .later }
def NodePlaysCardSaid : Prop := Claim7.holds Tryd.pinned (.plain (OpenSpec.ofChange nodePlaysSpec)) nodePlaysCard

/-- THE SECOND FORM's CARD OF 'ledgerlaw9.NodeClimbs'. -/
def nodeClimbsUptoCard : Claim7 := { stood := { row := nodeClimbsUptoRow, standIns := [], harness := (true, "b8cb3e3b2eeb101bcb497cbdcf6721cec63047ed1bb4e5c51a74f4bad5596ea2"), looks := true }, kinds := [], alts := [], laidByText := true, laidKinds := [.data, .data, .data, .data], laidTests := true, laidLooks := .later }
def NodeClimbsUptoCardSaid : Prop := Claim7.holds Tryd.pinned (.plain (OpenSpec.upto nodeClimbsSpec)) nodeClimbsUptoCard

/-- THE SECOND FORM's CARD OF 'ledgerlaw9.NodePlays'. -/
def nodePlaysUptoCard : Claim7 := { stood := { row := nodePlaysUptoRow, standIns := [], harness := (true, "b8cb3e3b2eeb101bcb497cbdcf6721cec63047ed1bb4e5c51a74f4bad5596ea2"), looks := true }, kinds := [], alts := [], laidByText := true, laidKinds := [.data, .data, .data, .data], laidTests := true, laidLooks := .later }
def NodePlaysUptoCardSaid : Prop := Claim7.holds Tryd.pinned (.plain (OpenSpec.upto nodePlaysSpec)) nodePlaysUptoCard
end Rows
end Go.Proofs.YtibpffoencjlcacDoor
