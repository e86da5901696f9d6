/-
  DERIVED. GIVEN WITH THE SEED: THE CARDS: each row of YtjhocjjecfdphaaGreatDoorRows.lean that lists a variable, with what it lists TIED to the program's text (the seventh form; the later family's looks); each row that meets fmt, with fmt's text TOLD by the authors' own Lean function (tested against real Go, not proved from fmt's source: count such statements apart). THE CARD IS WHAT COUNTS. Prove the row's statement (the work); the ties are given (YtjhocjjecfdphaaGreatDoorTie.lean); close each card by the builder's one call (the guide's Derived/Test/ToyasCard.lean, 'card_holds'). Laid BY PROGRAM, IN A SANDBOX (cutbox-door.mjs). By AI agents, Wed Nov 11 2026. No macro, syntax, notation, axiom, sorry.
-/
import Derived.Test.YtjhocjjecfdphaaGreatDoorRows
import GoSem.ClaimSeven
namespace Go.Proofs.YtjhocjjecfdphaaGreatDoor
namespace Rows

/-- THE TIED CARD OF 'ledgerlaw6.FilePromotes'. -/
def filePromotesCard : Claim7 := { stood := { row := filePromotesRow, standIns := [], harness := (true, "14ed242979c42bfcfa066ae9a20806a8f72aa3a2e327ab1facfdfec5444716c4"), looks := false }, kinds := [], alts := [], laidByText := true, laidKinds := [.data], laidTests := true, laidLooks := .later }
def FilePromotesCardSaid : Prop := Claim7.holds Tryz.pinned (.plain (OpenSpec.ofChange filePromotesSpec)) filePromotesCard

/-- THE TIED CARD OF 'ledgerlaw6.FilePlays'. -/
def filePlaysCard : Claim7 := { stood := { row := filePlaysRow, standIns := [], harness := (true, "14ed242979c42bfcfa066ae9a20806a8f72aa3a2e327ab1facfdfec5444716c4"), looks := false }, kinds := [], alts := [], laidByText := true, laidKinds := [.data], laidTests := true, laidLooks := .later }
def FilePlaysCardSaid : Prop := Claim7.holds Tryz.pinned (.plain (OpenSpec.ofChange filePlaysSpec)) filePlaysCard

/-- THE SECOND FORM's CARD OF 'ledgerlaw6.FilePromotes'. -/
def filePromotesUptoCard : Claim7 := { stood := { row := filePromotesUptoRow, standIns := [], harness := (true, "14ed242979c42bfcfa066ae9a20806a8f72aa3a2e327ab1facfdfec5444716c4"), looks := false }, kinds := [], alts := [], laidByText := true, laidKinds := [.data], laidTests := true, laidLooks := .later }
def FilePromotesUptoCardSaid : Prop := Claim7.holds Tryz.pinned (.plain (OpenSpec.upto filePromotesSpec)) filePromotesUptoCard

/-- THE SECOND FORM's CARD OF 'ledgerlaw6.FilePlays'. -/
def filePlaysUptoCard : Claim7 := { stood := { row := filePlaysUptoRow, standIns := [], harness := (true, "14ed242979c42bfcfa066ae9a20806a8f72aa3a2e327ab1facfdfec5444716c4"), looks := false }, kinds := [], alts := [], laidByText := true, laidKinds := [.data], laidTests := true, laidLooks := .later }
def FilePlaysUptoCardSaid : Prop := Claim7.holds Tryz.pinned (.plain (OpenSpec.upto filePlaysSpec)) filePlaysUptoCard
end Rows
end Go.Proofs.YtjhocjjecfdphaaGreatDoor
