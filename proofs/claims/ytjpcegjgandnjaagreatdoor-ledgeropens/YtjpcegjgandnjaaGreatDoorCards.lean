/-
  DERIVED. GIVEN WITH THE SEED: THE CARDS: each row of YtjpcegjgandnjaaGreatDoorRows.lean that lists a variable, with what it lists TIED to the program's text (the seventh form; the later family's looks); each row that meets fmt, with fmt's text TOLD by the authors' own Lean function (tested against real Go, not proved from fmt's source: count such statements apart). THE CARD IS WHAT COUNTS. Prove the row's statement (the work); the ties are given (YtjpcegjgandnjaaGreatDoorTie.lean); close each card by the builder's one call (the guide's Derived/Test/ToyasCard.lean, 'card_holds'). Laid BY PROGRAM, IN A SANDBOX (cutbox-door.mjs). By AI agents, Wed Nov 11 2026. No macro, syntax, notation, axiom, sorry.
-/
import Derived.Test.YtjpcegjgandnjaaGreatDoorRows
import GoSem.ClaimSeven
namespace Go.Proofs.YtjpcegjgandnjaaGreatDoor
namespace Rows

/-- THE TIED CARD OF 'ledgerlaw16.LedgerOpens'. -/
def ledgerOpensCard : Claim7 := { stood := { row := ledgerOpensRow, standIns := [], harness := (true, "a41f5382edf5e9f14af0a5337f9188daeb6e8a4c31e0cb8f318315f7179689e4"), looks := true }, kinds := [], alts := [], laidByText := true, laidKinds := [.data, .data, .sentinel, .sentinel, .sentinel, .sentinel, .sentinel, .sentinel, .sentinel, .sentinel, .sentinel, .sentinel, .sentinel, .sentinel, .sentinel, .sentinel, .sentinel, .sentinel, .sentinel, .sentinel, .sentinel, .sentinel], laidTests := true, laidLooks := .later }
def LedgerOpensCardSaid : Prop := Claim7.holds Tryz.pinned (.plain (OpenSpec.ofChange ledgerOpensSpec)) ledgerOpensCard

/-- THE TIED CARD OF 'ledgerlaw16.LedgerKept'. -/
def ledgerKeptCard : Claim7 := { stood := { row := ledgerKeptRow, standIns := [], harness := (true, "a41f5382edf5e9f14af0a5337f9188daeb6e8a4c31e0cb8f318315f7179689e4"), looks := true }, kinds := [], alts := [], laidByText := true, laidKinds := [.data, .data, .sentinel, .sentinel, .sentinel, .sentinel, .sentinel, .sentinel, .sentinel, .sentinel, .sentinel, .sentinel, .sentinel, .sentinel, .sentinel, .sentinel, .sentinel, .sentinel, .sentinel, .sentinel, .sentinel, .sentinel], laidTests := true, laidLooks := .later }
def LedgerKeptCardSaid : Prop := Claim7.holds Tryz.pinned (.plain (OpenSpec.ofChange ledgerKeptSpec)) ledgerKeptCard

/-- THE SECOND FORM's CARD OF 'ledgerlaw16.LedgerOpens'. -/
def ledgerOpensUptoCard : Claim7 := { stood := { row := ledgerOpensUptoRow, standIns := [], harness := (true, "a41f5382edf5e9f14af0a5337f9188daeb6e8a4c31e0cb8f318315f7179689e4"), looks := true }, kinds := [], alts := [], laidByText := true, laidKinds := [.data, .data, .sentinel, .sentinel, .sentinel, .sentinel, .sentinel, .sentinel, .sentinel, .sentinel, .sentinel, .sentinel, .sentinel, .sentinel, .sentinel, .sentinel, .sentinel, .sentinel, .sentinel, .sentinel, .sentinel, .sentinel], laidTests := true, laidLooks := .later }
def LedgerOpensUptoCardSaid : Prop := Claim7.holds Tryz.pinned (.plain (OpenSpec.upto ledgerOpensSpec)) ledgerOpensUptoCard

/-- THE SECOND FORM's CARD OF 'ledgerlaw16.LedgerKept'. -/
def ledgerKeptUptoCard : Claim7 := { stood := { row := ledgerKeptUptoRow, standIns := [], harness := (true, "a41f5382edf5e9f14af0a5337f9188daeb6e8a4c31e0cb8f318315f7179689e4"), looks := true }, kinds := [], alts := [], laidByText := true, laidKinds := [.data, .data, .sentinel, .sentinel, .sentinel, .sentinel, .sentinel, .sentinel, .sentinel, .sentinel, .sentinel, .sentinel, .sentinel, .sentinel, .sentinel, .sentinel, .sentinel, .sentinel, .sentinel, .sentinel, .sentinel, .sentinel], laidTests := true, laidLooks := .later }
def LedgerKeptUptoCardSaid : Prop := Claim7.holds Tryz.pinned (.plain (OpenSpec.upto ledgerKeptSpec)) ledgerKeptUptoCard
end Rows
end Go.Proofs.YtjpcegjgandnjaaGreatDoor
