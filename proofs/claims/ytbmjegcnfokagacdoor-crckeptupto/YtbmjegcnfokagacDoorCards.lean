/-
  DERIVED. GIVEN WITH THE SEED: THE CARDS: each row of YtbmjegcnfokagacDoorRows.lean that lists a variable, with what it lists TIED to the program's text (the seventh form; the later family's looks); each row that meets fmt, with fmt's text TOLD by the authors' own Lean function (tested against real Go, not proved from fmt's source: count such statements apart). THE CARD IS WHAT COUNTS. Prove the row's statement (the work); the ties are given (YtbmjegcnfokagacDoorTie.lean); close each card by the builder's one call (the guide's Derived/Test/ToyasCard.lean, 'card_holds'). Laid BY PROGRAM, IN A SANDBOX (cutbox-door.mjs). By AI agents, Wed Nov 11 2026. No macro, syntax, notation, axiom, sorry.
-/
import Derived.Test.YtbmjegcnfokagacDoorRows
import GoSem.ClaimSeven
namespace Go.Proofs.YtbmjegcnfokagacDoor
namespace Rows

/-- THE TIED CARD OF 'ledgerlaw2.CrcKept'. -/
def crcKeptCard : Claim7 := { stood := { row := crcKeptRow, standIns := [], harness := (true, "cc58e672d2f7f33fec3aadc789e6d0c3cf27cc20f1632d0adf8283e3e2a38516"), looks := false }, kinds := [], alts := [], laidByText := true, laidKinds := [.data], laidTests := true, laidLooks := .later }
def CrcKeptCardSaid : Prop := Claim7.holds Tryd.pinned (.plain (OpenSpec.ofChange crcKeptSpec)) crcKeptCard

/-- THE TIED CARD OF 'ledgerlaw2.CrcWholes'. -/
def crcWholesCard : Claim7 := { stood := { row := crcWholesRow, standIns := [], harness := (true, "cc58e672d2f7f33fec3aadc789e6d0c3cf27cc20f1632d0adf8283e3e2a38516"), looks := false }, kinds := [], alts := [], laidByText := true, laidKinds := [.data], laidTests := true, laidLooks := .later }
def CrcWholesCardSaid : Prop := Claim7.holds Tryd.pinned (.plain (OpenSpec.ofChange crcWholesSpec)) crcWholesCard

/-- THE SECOND FORM's CARD OF 'ledgerlaw2.CrcKept'. -/
def crcKeptUptoCard : Claim7 := { stood := { row := crcKeptUptoRow, standIns := [], harness := (true, "cc58e672d2f7f33fec3aadc789e6d0c3cf27cc20f1632d0adf8283e3e2a38516"), looks := false }, kinds := [], alts := [], laidByText := true, laidKinds := [.data], laidTests := true, laidLooks := .later }
def CrcKeptUptoCardSaid : Prop := Claim7.holds Tryd.pinned (.plain (OpenSpec.upto crcKeptSpec)) crcKeptUptoCard

/-- THE SECOND FORM's CARD OF 'ledgerlaw2.CrcWholes'. -/
def crcWholesUptoCard : Claim7 := { stood := { row := crcWholesUptoRow, standIns := [], harness := (true, "cc58e672d2f7f33fec3aadc789e6d0c3cf27cc20f1632d0adf8283e3e2a38516"), looks := false }, kinds := [], alts := [], laidByText := true, laidKinds := [.data], laidTests := true, laidLooks := .later }
def CrcWholesUptoCardSaid : Prop := Claim7.holds Tryd.pinned (.plain (OpenSpec.upto crcWholesSpec)) crcWholesUptoCard
end Rows
end Go.Proofs.YtbmjegcnfokagacDoor
