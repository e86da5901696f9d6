/-
  DERIVED. GIVEN WITH THE SEED: THE CARDS: each row of YtaefjlbonflmdaaDoorRows.lean that lists a variable, with what it lists TIED to the program's text (the seventh form; the later family's looks); each row that meets fmt, with fmt's text TOLD by the authors' own Lean function (tested against real Go, not proved from fmt's source: count such statements apart). THE CARD IS WHAT COUNTS. Prove the row's statement (the work); the ties are given (YtaefjlbonflmdaaDoorTie.lean); close each card by the builder's one call (the guide's Derived/Test/ToyasCard.lean, 'card_holds'). Laid BY PROGRAM, IN A SANDBOX (cutbox-door.mjs). By AI agents, Wed Nov 11 2026. No macro, syntax, notation, axiom, sorry.
-/
import Derived.Test.YtaefjlbonflmdaaDoorRows
import GoSem.ClaimSeven
namespace Go.Proofs.YtaefjlbonflmdaaDoor
namespace Rows

/-- THE TIED CARD OF 'ledgerlaw8.StoreLays'. -/
def storeLaysCard : Claim7 := { stood := { row := storeLaysRow, standIns := [], harness := (true, "294ac15fda84de262b3b69cddbd28bdab6b7618d0d858fa88ffed8f5dfb833d7"), looks := false }, kinds := [], alts := [], laidByText := true, laidKinds := [.data], laidTests := true, laidLooks := .later }
def StoreLaysCardSaid : Prop := Claim7.holds Tryd.pinned (.plain (OpenSpec.ofChange storeLaysSpec)) storeLaysCard

/-- THE SECOND FORM's CARD OF 'ledgerlaw8.StoreLays'. -/
def storeLaysUptoCard : Claim7 := { stood := { row := storeLaysUptoRow, standIns := [], harness := (true, "294ac15fda84de262b3b69cddbd28bdab6b7618d0d858fa88ffed8f5dfb833d7"), looks := false }, kinds := [], alts := [], laidByText := true, laidKinds := [.data], laidTests := true, laidLooks := .later }
def StoreLaysUptoCardSaid : Prop := Claim7.holds Tryd.pinned (.plain (OpenSpec.upto storeLaysSpec)) storeLaysUptoCard
end Rows
end Go.Proofs.YtaefjlbonflmdaaDoor
