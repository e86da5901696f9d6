/-
  DERIVED. GIVEN WITH THE SEED: THE CARDS: each row of YtibpffoencjlcabDoorRows.lean that lists a variable, with what it lists TIED to the program's text (the seventh form; the later family's looks); each row that meets fmt, with fmt's text TOLD by the authors' own Lean function (tested against real Go, not proved from fmt's source: count such statements apart). THE CARD IS WHAT COUNTS. Prove the row's statement (the work); the ties are given (YtibpffoencjlcabDoorTie.lean); close each card by the builder's one call (the guide's Derived/Test/ToyasCard.lean, 'card_holds'). Laid BY PROGRAM, IN A SANDBOX (cutbox-door.mjs). By AI agents, Wed Nov 11 2026. No macro, syntax, notation, axiom, sorry.
-/
import Derived.Test.YtibpffoencjlcabDoorRows
import GoSem.ClaimSeven
namespace Go.Proofs.YtibpffoencjlcabDoor
namespace Rows

/-- THE TIED CARD OF 'ledgerlaw9.NodeEncodes'. -/
def nodeEncodesCard : Claim7 := { stood := { row := nodeEncodesRow, standIns := [], harness := (true, "b7f200a6be52ba9b8270e11392de0cfeea5ada212b966f27b05010aa8be70ad2"), looks := true }, kinds := [], alts := [], laidByText := true, laidKinds := [.data, .data, .data, .data], laidTests := true, laidLooks := .later }
def NodeEncodesCardSaid : Prop := Claim7.holds Tryd.pinned (.plain (OpenSpec.ofChange nodeEncodesSpec)) nodeEncodesCard

/-- THE TIED CARD OF 'ledgerlaw9.NodeDecodes'. -/
def nodeDecodesCard : Claim7 := { stood := { row := nodeDecodesRow, standIns := [], harness := (true, "b7f200a6be52ba9b8270e11392de0cfeea5ada212b966f27b05010aa8be70ad2"), looks := true }, kinds := [], alts := [], laidByText := true, laidKinds := [.data, .data, .data, .data], laidTests := true, laidLooks := .later }
def NodeDecodesCardSaid : Prop := Claim7.holds Tryd.pinned (.plain (OpenSpec.ofChange nodeDecodesSpec)) nodeDecodesCard

/-- THE TIED CARD OF 'ledgerlaw9.NodeTexts'. -/
def nodeTextsCard : Claim7 := { stood := { row := nodeTextsRow, standIns := [], harness := (true, "b7f200a6be52ba9b8270e11392de0cfeea5ada212b966f27b05010aa8be70ad2"), looks := true }, kinds := [], alts := [], laidByText := true, laidKinds := [.data, .data, .data, .data], laidTests := true, laidLooks := .later }
def NodeTextsCardSaid : Prop := Claim7.holds Tryd.pinned (.plain (OpenSpec.ofChange nodeTextsSpec)) nodeTextsCard

/-- THE TIED CARD OF 'ledgerlaw9.NodeSums'. -/
def nodeSumsCard : Claim7 := { stood := { row := nodeSumsRow, standIns := [], harness := (true, "b7f200a6be52ba9b8270e11392de0cfeea5ada212b966f27b05010aa8be70ad2"), looks := true }, kinds := [], alts := [], laidByText := true, laidKinds := [.data, .data, .data, .data], laidTests := true, laidLooks := .later }
def NodeSumsCardSaid : Prop := Claim7.holds Tryd.pinned (.plain (OpenSpec.ofChange nodeSumsSpec)) nodeSumsCard

/-- THE TIED CARD OF 'ledgerlaw9.NodeEmpties'. -/
def nodeEmptiesCard : Claim7 := { stood := { row := nodeEmptiesRow, standIns := [], harness := (true, "b7f200a6be52ba9b8270e11392de0cfeea5ada212b966f27b05010aa8be70ad2"), looks := true }, kinds := [], alts := [], laidByText := true, laidKinds := [.data, .data, .data, .data], laidTests := true, laidLooks := .later }
def NodeEmptiesCardSaid : Prop := Claim7.holds Tryd.pinned (.plain (OpenSpec.ofChange nodeEmptiesSpec)) nodeEmptiesCard

/-- THE SECOND FORM's CARD OF 'ledgerlaw9.NodeEncodes'. -/
def nodeEncodesUptoCard : Claim7 := { stood := { row := nodeEncodesUptoRow, standIns := [], harness := (true, "b7f200a6be52ba9b8270e11392de0cfeea5ada212b966f27b05010aa8be70ad2"), looks := true }, kinds := [], alts := [], laidByText := true, laidKinds := [.data, .data, .data, .data], laidTests := true, laidLooks := .later }
def NodeEncodesUptoCardSaid : Prop := Claim7.holds Tryd.pinned (.plain (OpenSpec.upto nodeEncodesSpec)) nodeEncodesUptoCard

/-- THE SECOND FORM's CARD OF 'ledgerlaw9.NodeDecodes'. -/
def nodeDecodesUptoCard : Claim7 := { stood := { row := nodeDecodesUptoRow, standIns := [], harness := (true, "b7f200a6be52ba9b8270e11392de0cfeea5ada212b966f27b05010aa8be70ad2"), looks := true }, kinds := [], alts := [], laidByText := true, laidKinds := [.data, .data, .data, .data], laidTests := true, laidLooks := .later }
def NodeDecodesUptoCardSaid : Prop := Claim7.holds Tryd.pinned (.plain (OpenSpec.upto nodeDecodesSpec)) nodeDecodesUptoCard

/-- THE SECOND FORM's CARD OF 'ledgerlaw9.NodeTexts'. -/
def nodeTextsUptoCard : Claim7 := { stood := { row := nodeTextsUptoRow, standIns := [], harness := (true, "b7f200a6be52ba9b8270e11392de0cfeea5ada212b966f27b05010aa8be70ad2"), looks := true }, kinds := [], alts := [], laidByText := true, laidKinds := [.data, .data, .data, .data], laidTests := true, laidLooks := .later }
def NodeTextsUptoCardSaid : Prop := Claim7.holds Tryd.pinned (.plain (OpenSpec.upto nodeTextsSpec)) nodeTextsUptoCard

/-- THE SECOND FORM's CARD OF 'ledgerlaw9.NodeSums'. -/
def nodeSumsUptoCard : Claim7 := { stood := { row := nodeSumsUptoRow, standIns := [], harness := (true, "b7f200a6be52ba9b8270e11392de0cfeea5ada212b966f27b05010aa8be70ad2"), looks := true }, kinds := [], alts := [], laidByText := true, laidKinds := [.data, .data, .data, .data], laidTests := true, laidLooks := .later }
def NodeSumsUptoCardSaid : Prop := Claim7.holds Tryd.pinned (.plain (OpenSpec.upto nodeSumsSpec)) nodeSumsUptoCard

/-- THE SECOND FORM's CARD OF 'ledgerlaw9.NodeEmpties'. -/
def nodeEmptiesUptoCard : Claim7 := { stood := { row := nodeEmptiesUptoRow, standIns := [], harness := (true, "b7f200a6be52ba9b8270e11392de0cfeea5ada212b966f27b05010aa8be70ad2"), looks := true }, kinds := [], alts := [], laidByText := true, laidKinds := [.data, .data, .data, .data], laidTests := true, laidLooks := .later }
def NodeEmptiesUptoCardSaid : Prop := Claim7.holds Tryd.pinned (.plain (OpenSpec.upto nodeEmptiesSpec)) nodeEmptiesUptoCard
end Rows
end Go.Proofs.YtibpffoencjlcabDoor
