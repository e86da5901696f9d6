/-
  DERIVED. GIVEN WITH THE SEED: THE CARDS: each row of YtbnghhgeoodphaaGreatDoorRows.lean that lists a variable, with what it lists TIED to the program's text (the seventh form; the later family's looks); each row that meets fmt, with fmt's text TOLD by the authors' own Lean function (tested against real Go, not proved from fmt's source: count such statements apart). THE CARD IS WHAT COUNTS. Prove the row's statement (the work); the ties are given (YtbnghhgeoodphaaGreatDoorTie.lean); close each card by the builder's one call (the guide's Derived/Test/ToyasCard.lean, 'card_holds'). Laid BY PROGRAM, IN A SANDBOX (cutbox-door.mjs). By AI agents, Wed Nov 11 2026. No macro, syntax, notation, axiom, sorry.
-/
import Derived.Test.YtbnghhgeoodphaaGreatDoorRows
import GoSem.ClaimSeven
namespace Go.Proofs.YtbnghhgeoodphaaGreatDoor
namespace Rows

/-- THE TIED CARD OF 'ledgerlaw15.IndexHolds'. -/
def indexHoldsCard : Claim7 := { stood := { row := indexHoldsRow, standIns := [], harness := (true, "88387a526c98a5eae32647f116a3e86aefc23a772120764183c593f9b0d03e22"), looks := false }, kinds := [], alts := [], laidByText := true, laidKinds := [.data, .data], laidTests := true, laidLooks := .later }
def IndexHoldsCardSaid : Prop := Claim7.holds Tryz.pinned (.plain (OpenSpec.ofChange indexHoldsSpec)) indexHoldsCard

/-- THE TIED CARD OF 'ledgerlaw15.IndexBurst'. -/
def indexBurstCard : Claim7 := { stood := { row := indexBurstRow, standIns := [], harness := (true, "88387a526c98a5eae32647f116a3e86aefc23a772120764183c593f9b0d03e22"), looks := false }, kinds := [], alts := [], laidByText := true, laidKinds := [.data, .data], laidTests := true, laidLooks := .later }
def IndexBurstCardSaid : Prop := Claim7.holds Tryz.pinned (.plain (OpenSpec.ofChange indexBurstSpec)) indexBurstCard

/-- THE TIED CARD OF 'ledgerlaw15.IndexLasts'. -/
def indexLastsCard : Claim7 := { stood := { row := indexLastsRow, standIns := [], harness := (true, "88387a526c98a5eae32647f116a3e86aefc23a772120764183c593f9b0d03e22"), looks := false }, kinds := [], alts := [], laidByText := true, laidKinds := [.data, .data], laidTests := true, laidLooks := .later }
def IndexLastsCardSaid : Prop := Claim7.holds Tryz.pinned (.plain (OpenSpec.ofChange indexLastsSpec)) indexLastsCard

/-- THE SECOND FORM's CARD OF 'ledgerlaw15.IndexHolds'. -/
def indexHoldsUptoCard : Claim7 := { stood := { row := indexHoldsUptoRow, standIns := [], harness := (true, "88387a526c98a5eae32647f116a3e86aefc23a772120764183c593f9b0d03e22"), looks := false }, kinds := [], alts := [], laidByText := true, laidKinds := [.data, .data], laidTests := true, laidLooks := .later }
def IndexHoldsUptoCardSaid : Prop := Claim7.holds Tryz.pinned (.plain (OpenSpec.upto indexHoldsSpec)) indexHoldsUptoCard

/-- THE SECOND FORM's CARD OF 'ledgerlaw15.IndexBurst'. -/
def indexBurstUptoCard : Claim7 := { stood := { row := indexBurstUptoRow, standIns := [], harness := (true, "88387a526c98a5eae32647f116a3e86aefc23a772120764183c593f9b0d03e22"), looks := false }, kinds := [], alts := [], laidByText := true, laidKinds := [.data, .data], laidTests := true, laidLooks := .later }
def IndexBurstUptoCardSaid : Prop := Claim7.holds Tryz.pinned (.plain (OpenSpec.upto indexBurstSpec)) indexBurstUptoCard

/-- THE SECOND FORM's CARD OF 'ledgerlaw15.IndexLasts'. -/
def indexLastsUptoCard : Claim7 := { stood := { row := indexLastsUptoRow, standIns := [], harness := (true, "88387a526c98a5eae32647f116a3e86aefc23a772120764183c593f9b0d03e22"), looks := false }, kinds := [], alts := [], laidByText := true, laidKinds := [.data, .data], laidTests := true, laidLooks := .later }
def IndexLastsUptoCardSaid : Prop := Claim7.holds Tryz.pinned (.plain (OpenSpec.upto indexLastsSpec)) indexLastsUptoCard
end Rows
end Go.Proofs.YtbnghhgeoodphaaGreatDoor
