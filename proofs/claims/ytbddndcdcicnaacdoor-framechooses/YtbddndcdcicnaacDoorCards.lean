/-
  DERIVED. GIVEN WITH THE SEED: THE CARDS: each row of YtbddndcdcicnaacDoorRows.lean that lists a variable, with what it lists TIED to the program's text (the seventh form; the later family's looks); each row that meets fmt, with fmt's text TOLD by the authors' own Lean function (tested against real Go, not proved from fmt's source: count such statements apart). THE CARD IS WHAT COUNTS. Prove the row's statement (the work); the ties are given (YtbddndcdcicnaacDoorTie.lean); close each card by the builder's one call (the guide's Derived/Test/ToyasCard.lean, 'card_holds'). Laid BY PROGRAM, IN A SANDBOX (cutbox-door.mjs). By AI agents, Wed Nov 11 2026. No macro, syntax, notation, axiom, sorry.
-/
import Derived.Test.YtbddndcdcicnaacDoorRows
import GoSem.ClaimSeven
namespace Go.Proofs.YtbddndcdcicnaacDoor
namespace Rows

/-- THE TIED CARD OF 'ledgerlaw5.FrameChooses'. -/
def frameChoosesCard : Claim7 := { stood := { row := frameChoosesRow, standIns := [], harness := (true, "1f400131a3a776c5a8c611a42f1863058c09434b715829e9fbc5c5a5aba5e13a"), looks := false }, kinds := [], alts := [], laidByText := true, laidKinds := [.data], laidTests := true, laidLooks := .later }
def FrameChoosesCardSaid : Prop := Claim7.holds Tryd.pinned (.plain (OpenSpec.ofChange frameChoosesSpec)) frameChoosesCard

/-- THE TIED CARD OF 'ledgerlaw5.FrameKept'. -/
def frameKeptCard : Claim7 := { stood := { row := frameKeptRow, standIns := [], harness := (true, "1f400131a3a776c5a8c611a42f1863058c09434b715829e9fbc5c5a5aba5e13a"), looks := false }, kinds := [], alts := [], laidByText := true, laidKinds := [.data], laidTests := true, laidLooks := .later }
def FrameKeptCardSaid : Prop := Claim7.holds Tryd.pinned (.plain (OpenSpec.ofChange frameKeptSpec)) frameKeptCard

/-- THE SECOND FORM's CARD OF 'ledgerlaw5.FrameChooses'. -/
def frameChoosesUptoCard : Claim7 := { stood := { row := frameChoosesUptoRow, standIns := [], harness := (true, "1f400131a3a776c5a8c611a42f1863058c09434b715829e9fbc5c5a5aba5e13a"), looks := false }, kinds := [], alts := [], laidByText := true, laidKinds := [.data], laidTests := true, laidLooks := .later }
def FrameChoosesUptoCardSaid : Prop := Claim7.holds Tryd.pinned (.plain (OpenSpec.upto frameChoosesSpec)) frameChoosesUptoCard

/-- THE SECOND FORM's CARD OF 'ledgerlaw5.FrameKept'. -/
def frameKeptUptoCard : Claim7 := { stood := { row := frameKeptUptoRow, standIns := [], harness := (true, "1f400131a3a776c5a8c611a42f1863058c09434b715829e9fbc5c5a5aba5e13a"), looks := false }, kinds := [], alts := [], laidByText := true, laidKinds := [.data], laidTests := true, laidLooks := .later }
def FrameKeptUptoCardSaid : Prop := Claim7.holds Tryd.pinned (.plain (OpenSpec.upto frameKeptSpec)) frameKeptUptoCard
end Rows
end Go.Proofs.YtbddndcdcicnaacDoor
