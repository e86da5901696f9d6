/-
  DERIVED. GIVEN WITH THE SEED: THE CARDS: each row of YtboijihlieadcaaGreatDoorRows.lean that lists a variable, with what it lists TIED to the program's text (the seventh form; the later family's looks); each row that meets fmt, with fmt's text TOLD by the authors' own Lean function (tested against real Go, not proved from fmt's source: count such statements apart). THE CARD IS WHAT COUNTS. Prove the row's statement (the work); the ties are given (YtboijihlieadcaaGreatDoorTie.lean); close each card by the builder's one call (the guide's Derived/Test/ToyasCard.lean, 'card_holds'). Laid BY PROGRAM, IN A SANDBOX (cutbox-door.mjs). By AI agents, Wed Nov 11 2026. No macro, syntax, notation, axiom, sorry.
-/
import Derived.Test.YtboijihlieadcaaGreatDoorRows
import GoSem.ClaimSeven
namespace Go.Proofs.YtboijihlieadcaaGreatDoor
namespace Rows

/-- THE TIED CARD OF 'ledgerlaw10.TreeNames'. -/
def treeNamesCard : Claim7 := { stood := { row := treeNamesRow, standIns := [], harness := (true, "62777258966f7b3568a4391edae5d977a7de9e1b2e601ed3809bb361acc15e3f"), looks := true }, kinds := [], alts := [], laidByText := true, laidKinds := [.data, .data], laidTests := true, laidLooks := .later }
def TreeNamesCardSaid : Prop := Claim7.holds Tryz.pinned (.plain (OpenSpec.ofChange treeNamesSpec)) treeNamesCard

/-- THE TIED CARD OF 'ledgerlaw10.TreeMerges'. -/
def treeMergesCard : Claim7 := { stood := { row := treeMergesRow, standIns := [], harness := (true, "62777258966f7b3568a4391edae5d977a7de9e1b2e601ed3809bb361acc15e3f"), looks := true }, kinds := [], alts := [], laidByText := true, laidKinds := [.data, .data], laidTests := true, laidLooks := .later }
def TreeMergesCardSaid : Prop := Claim7.holds Tryz.pinned (.plain (OpenSpec.ofChange treeMergesSpec)) treeMergesCard

/-- THE TIED CARD OF 'ledgerlaw10.TreeShares'. -/
def treeSharesCard : Claim7 := { stood := { row := treeSharesRow, standIns := [], harness := (true, "62777258966f7b3568a4391edae5d977a7de9e1b2e601ed3809bb361acc15e3f"), looks := true }, kinds := [], alts := [], laidByText := true, laidKinds := [.data, .data], laidTests := true, laidLooks := .later }
def TreeSharesCardSaid : Prop := Claim7.holds Tryz.pinned (.plain (OpenSpec.ofChange treeSharesSpec)) treeSharesCard

/-- THE TIED CARD OF 'ledgerlaw10.TreeGets'. -/
def treeGetsCard : Claim7 := { stood := { row := treeGetsRow, standIns := [], harness := (true, "62777258966f7b3568a4391edae5d977a7de9e1b2e601ed3809bb361acc15e3f"), looks := true }, kinds := [], alts := [], laidByText := true, laidKinds := [.data, .data], laidTests := true, laidLooks := .later }
def TreeGetsCardSaid : Prop := Claim7.holds Tryz.pinned (.plain (OpenSpec.ofChange treeGetsSpec)) treeGetsCard

/-- THE TIED CARD OF 'ledgerlaw10.TreeFits'. -/
def treeFitsCard : Claim7 := { stood := { row := treeFitsRow, standIns := [], harness := (true, "62777258966f7b3568a4391edae5d977a7de9e1b2e601ed3809bb361acc15e3f"), looks := true }, kinds := [], alts := [], laidByText := true, laidKinds := [.data, .data], laidTests := true, laidLooks := .later }
def TreeFitsCardSaid : Prop := Claim7.holds Tryz.pinned (.plain (OpenSpec.ofChange treeFitsSpec)) treeFitsCard

/-- THE TIED CARD OF 'ledgerlaw10.TreeForged'. -/
def treeForgedCard : Claim7 := { stood := { row := treeForgedRow, standIns := [], harness := (true, "62777258966f7b3568a4391edae5d977a7de9e1b2e601ed3809bb361acc15e3f"), looks := true }, kinds := [], alts := [], laidByText := true, laidKinds := [.data, .data, .data, .data], laidTests := true, laidLooks := .later }
def TreeForgedCardSaid : Prop := Claim7.holds Tryz.pinned (.plain (OpenSpec.ofChange treeForgedSpec)) treeForgedCard

/-- THE SECOND FORM's CARD OF 'ledgerlaw10.TreeNames'. -/
def treeNamesUptoCard : Claim7 := { stood := { row := treeNamesUptoRow, standIns := [], harness := (true, "62777258966f7b3568a4391edae5d977a7de9e1b2e601ed3809bb361acc15e3f"), looks := true }, kinds := [], alts := [], laidByText := true, laidKinds := [.data, .data], laidTests := true, laidLooks := .later }
def TreeNamesUptoCardSaid : Prop := Claim7.holds Tryz.pinned (.plain (OpenSpec.upto treeNamesSpec)) treeNamesUptoCard

/-- THE SECOND FORM's CARD OF 'ledgerlaw10.TreeMerges'. -/
def treeMergesUptoCard : Claim7 := { stood := { row := treeMergesUptoRow, standIns := [], harness := (true, "62777258966f7b3568a4391edae5d977a7de9e1b2e601ed3809bb361acc15e3f"), looks := true }, kinds := [], alts := [], laidByText := true, laidKinds := [.data, .data], laidTests := true, laidLooks := .later }
def TreeMergesUptoCardSaid : Prop := Claim7.holds Tryz.pinned (.plain (OpenSpec.upto treeMergesSpec)) treeMergesUptoCard

/-- THE SECOND FORM's CARD OF 'ledgerlaw10.TreeShares'. -/
def treeSharesUptoCard : Claim7 := { stood := { row := treeSharesUptoRow, standIns := [], harness := (true, "62777258966f7b3568a4391edae5d977a7de9e1b2e601ed3809bb361acc15e3f"), looks := true }, kinds := [], alts := [], laidByText := true, laidKinds := [.data, .data], laidTests := true, laidLooks := .later }
def TreeSharesUptoCardSaid : Prop := Claim7.holds Tryz.pinned (.plain (OpenSpec.upto treeSharesSpec)) treeSharesUptoCard

/-- THE SECOND FORM's CARD OF 'ledgerlaw10.TreeGets'. -/
def treeGetsUptoCard : Claim7 := { stood := { row := treeGetsUptoRow, standIns := [], harness := (true, "62777258966f7b3568a4391edae5d977a7de9e1b2e601ed3809bb361acc15e3f"), looks := true }, kinds := [], alts := [], laidByText := true, laidKinds := [.data, .data], laidTests := true, laidLooks := .later }
def TreeGetsUptoCardSaid : Prop := Claim7.holds Tryz.pinned (.plain (OpenSpec.upto treeGetsSpec)) treeGetsUptoCard

/-- THE SECOND FORM's CARD OF 'ledgerlaw10.TreeFits'. -/
def treeFitsUptoCard : Claim7 := { stood := { row := treeFitsUptoRow, standIns := [], harness := (true, "62777258966f7b3568a4391edae5d977a7de9e1b2e601ed3809bb361acc15e3f"), looks := true }, kinds := [], alts := [], laidByText := true, laidKinds := [.data, .data], laidTests := true, laidLooks := .later }
def TreeFitsUptoCardSaid : Prop := Claim7.holds Tryz.pinned (.plain (OpenSpec.upto treeFitsSpec)) treeFitsUptoCard

/-- THE SECOND FORM's CARD OF 'ledgerlaw10.TreeForged'. -/
def treeForgedUptoCard : Claim7 := { stood := { row := treeForgedUptoRow, standIns := [], harness := (true, "62777258966f7b3568a4391edae5d977a7de9e1b2e601ed3809bb361acc15e3f"), looks := true }, kinds := [], alts := [], laidByText := true, laidKinds := [.data, .data, .data, .data], laidTests := true, laidLooks := .later }
def TreeForgedUptoCardSaid : Prop := Claim7.holds Tryz.pinned (.plain (OpenSpec.upto treeForgedSpec)) treeForgedUptoCard
end Rows
end Go.Proofs.YtboijihlieadcaaGreatDoor
