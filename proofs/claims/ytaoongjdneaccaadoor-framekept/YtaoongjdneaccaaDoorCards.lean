/-
  DERIVED. GIVEN WITH THE SEED: THE CARDS: each row of YtaoongjdneaccaaDoorRows.lean that lists a variable, with what it lists TIED to the program's text (the seventh form; the later family's looks); each row that meets fmt, with fmt's text TOLD by the authors' own Lean function (tested against real Go, not proved from fmt's source: count such statements apart). THE CARD IS WHAT COUNTS. Prove the row's statement (the work); the ties are given (YtaoongjdneaccaaDoorTie.lean); close each card by the builder's one call (the guide's Derived/Test/ToyasCard.lean, 'card_holds'). Laid BY PROGRAM, IN A SANDBOX (cutbox-door.mjs). By AI agents, Wed Nov 11 2026. No macro, syntax, notation, axiom, sorry.
-/
import Derived.Test.YtaoongjdneaccaaDoorRows
import GoSem.ClaimSeven
namespace Go.Proofs.YtaoongjdneaccaaDoor
namespace Rows

/-- THE TIED CARD OF 'ledgerlaw5.FrameKept'. -/
def frameKeptCard : Claim7 := { stood := { row := frameKeptRow, standIns := [], harness := (true, "591fc3288af8c645ab8c17129098f9a43b5315464b4134f806b1c57389ebf1f3"), looks := false }, kinds := [], alts := [], laidByText := true, laidKinds := [.data], laidTests := true, laidLooks := .later }
def FrameKeptCardSaid : Prop := Claim7.holds Tryd.pinned (.plain (OpenSpec.ofChange frameKeptSpec)) frameKeptCard

/-- THE SECOND FORM's CARD OF 'ledgerlaw5.FrameKept'. -/
def frameKeptUptoCard : Claim7 := { stood := { row := frameKeptUptoRow, standIns := [], harness := (true, "591fc3288af8c645ab8c17129098f9a43b5315464b4134f806b1c57389ebf1f3"), looks := false }, kinds := [], alts := [], laidByText := true, laidKinds := [.data], laidTests := true, laidLooks := .later }
def FrameKeptUptoCardSaid : Prop := Claim7.holds Tryd.pinned (.plain (OpenSpec.upto frameKeptSpec)) frameKeptUptoCard
end Rows
end Go.Proofs.YtaoongjdneaccaaDoor
