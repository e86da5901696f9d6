/-
  DERIVED. GIVEN WITH THE SEED: THE CARDS: each row of YtipbbmbkjcpjbaaDoorRows.lean that lists a variable, with what it lists TIED to the program's text (the seventh form; the later family's looks); each row that meets fmt, with fmt's text TOLD by the authors' own Lean function (tested against real Go, not proved from fmt's source: count such statements apart). THE CARD IS WHAT COUNTS. Prove the row's statement (the work); the ties are given (YtipbbmbkjcpjbaaDoorTie.lean); close each card by the builder's one call (the guide's Derived/Test/ToyasCard.lean, 'card_holds'). Laid BY PROGRAM, IN A SANDBOX (cutbox-door.mjs). By AI agents, Wed Nov 11 2026. No macro, syntax, notation, axiom, sorry.
-/
import Derived.Test.YtipbbmbkjcpjbaaDoorRows
import GoSem.ClaimSeven
namespace Go.Proofs.YtipbbmbkjcpjbaaDoor
namespace Rows

/-- THE TIED CARD OF 'ledgerlaw9.NodeEncodes'. -/
def nodeEncodesCard : Claim7 := { stood := { row := nodeEncodesRow, standIns := [], harness := (true, "aa216b6bf80aaa27db525beeb6be06e98c4c29c416c9f990bc803a072ebc4653"), looks := true }, kinds := [], alts := [], laidByText := true, laidKinds := [.data, .data, .data, .data], laidTests := true, laidLooks := .later }
def NodeEncodesCardSaid : Prop := Claim7.holds Tryd.pinned (.plain (OpenSpec.ofChange nodeEncodesSpec)) nodeEncodesCard

/-- THE TIED CARD OF 'ledgerlaw9.NodeDecodes'. -/
def nodeDecodesCard : Claim7 := { stood := { row := nodeDecodesRow, standIns := [], harness := (true, "aa216b6bf80aaa27db525beeb6be06e98c4c29c416c9f990bc803a072ebc4653"), looks := true }, kinds := [], alts := [], laidByText := true, laidKinds := [.data, .data, .data, .data], laidTests := true, laidLooks := .later }
def NodeDecodesCardSaid : Prop := Claim7.holds Tryd.pinned (.plain (OpenSpec.ofChange nodeDecodesSpec)) nodeDecodesCard

/-- THE TIED CARD OF 'ledgerlaw9.NodePlays'. -/
def nodePlaysCard : Claim7 := { stood := { row := nodePlaysRow, standIns := [], harness := (true, "aa216b6bf80aaa27db525beeb6be06e98c4c29c416c9f990bc803a072ebc4653"), looks := true }, kinds := [], alts := [], laidByText := true, laidKinds := [.data, .data, .data, .data], laidTests := true, laidLooks := .later }
def NodePlaysCardSaid : Prop := Claim7.holds Tryd.pinned (.plain (OpenSpec.ofChange nodePlaysSpec)) nodePlaysCard

/-- THE SECOND FORM's CARD OF 'ledgerlaw9.NodeEncodes'. -/
def nodeEncodesUptoCard : Claim7 := { stood := { row := nodeEncodesUptoRow, standIns := [], harness := (true, "aa216b6bf80aaa27db525beeb6be06e98c4c29c416c9f990bc803a072ebc4653"), looks := true }, kinds := [], alts := [], laidByText := true, laidKinds := [.data, .data, .data, .data], laidTests := true, laidLooks := .later }
def NodeEncodesUptoCardSaid : Prop := Claim7.holds Tryd.pinned (.plain (OpenSpec.upto nodeEncodesSpec)) nodeEncodesUptoCard

/-- THE SECOND FORM's CARD OF 'ledgerlaw9.NodeDecodes'. -/
def nodeDecodesUptoCard : Claim7 := { stood := { row := nodeDecodesUptoRow, standIns := [], harness := (true, "aa216b6bf80aaa27db525beeb6be06e98c4c29c416c9f990bc803a072ebc4653"), looks := true }, kinds := [], alts := [], laidByText := true, laidKinds := [.data, .data, .data, .data], laidTests := true, laidLooks := .later }
def NodeDecodesUptoCardSaid : Prop := Claim7.holds Tryd.pinned (.plain (OpenSpec.upto nodeDecodesSpec)) nodeDecodesUptoCard

/-- THE SECOND FORM's CARD OF 'ledgerlaw9.NodePlays'. -/
def nodePlaysUptoCard : Claim7 := { stood := { row := nodePlaysUptoRow, standIns := [], harness := (true, "aa216b6bf80aaa27db525beeb6be06e98c4c29c416c9f990bc803a072ebc4653"), looks := true }, kinds := [], alts := [], laidByText := true, laidKinds := [.data, .data, .data, .data], laidTests := true, laidLooks := .later }
def NodePlaysUptoCardSaid : Prop := Claim7.holds Tryd.pinned (.plain (OpenSpec.upto nodePlaysSpec)) nodePlaysUptoCard
end Rows
end Go.Proofs.YtipbbmbkjcpjbaaDoor
