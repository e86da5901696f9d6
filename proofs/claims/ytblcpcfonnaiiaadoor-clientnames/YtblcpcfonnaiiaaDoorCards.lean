/-
  DERIVED. GIVEN WITH THE SEED: THE CARDS: each row of YtblcpcfonnaiiaaDoorRows.lean that lists a variable, with what it lists TIED to the program's text (the seventh form; the later family's looks); each row that meets fmt, with fmt's text TOLD by the authors' own Lean function (tested against real Go, not proved from fmt's source: count such statements apart). THE CARD IS WHAT COUNTS. Prove the row's statement (the work); the ties are given (YtblcpcfonnaiiaaDoorTie.lean); close each card by the builder's one call (the guide's Derived/Test/ToyasCard.lean, 'card_holds'). Laid BY PROGRAM, IN A SANDBOX (cutbox-door.mjs). By AI agents, Wed Nov 11 2026. No macro, syntax, notation, axiom, sorry.
-/
import Derived.Test.YtblcpcfonnaiiaaDoorRows
import GoSem.ClaimSeven
namespace Go.Proofs.YtblcpcfonnaiiaaDoor
namespace Rows

/-- THE TIED CARD OF 'ledgerlaw13.ClientNames'. -/
def clientNamesCard : Claim7 := { stood := { row := clientNamesRow, standIns := [], harness := (true, "960f8ffe2c50380adc1ba95efe6c31d83e1c1f783e2bb7bc8416ef6cb4c58c3f"), looks := false }, kinds := [], alts := [], laidByText := true, laidKinds := [.data, .data, .data, .data], laidTests := true, laidLooks := .later }
def ClientNamesCardSaid : Prop := Claim7.holds Tryd.pinned (.plain (OpenSpec.ofChange clientNamesSpec)) clientNamesCard

/-- THE TIED CARD OF 'ledgerlaw13.ClientBinds'. -/
def clientBindsCard : Claim7 := { stood := { row := clientBindsRow, standIns := [], harness := (true, "960f8ffe2c50380adc1ba95efe6c31d83e1c1f783e2bb7bc8416ef6cb4c58c3f"), looks := false }, kinds := [], alts := [], laidByText := true, laidKinds := [.data, .data, .data, .data], laidTests := true, laidLooks := .later }
def ClientBindsCardSaid : Prop := Claim7.holds Tryd.pinned (.plain (OpenSpec.ofChange clientBindsSpec)) clientBindsCard

/-- THE SECOND FORM's CARD OF 'ledgerlaw13.ClientNames'. -/
def clientNamesUptoCard : Claim7 := { stood := { row := clientNamesUptoRow, standIns := [], harness := (true, "960f8ffe2c50380adc1ba95efe6c31d83e1c1f783e2bb7bc8416ef6cb4c58c3f"), looks := false }, kinds := [], alts := [], laidByText := true, laidKinds := [.data, .data, .data, .data], laidTests := true, laidLooks := .later }
def ClientNamesUptoCardSaid : Prop := Claim7.holds Tryd.pinned (.plain (OpenSpec.upto clientNamesSpec)) clientNamesUptoCard

/-- THE SECOND FORM's CARD OF 'ledgerlaw13.ClientBinds'. -/
def clientBindsUptoCard : Claim7 := { stood := { row := clientBindsUptoRow, standIns := [], harness := (true, "960f8ffe2c50380adc1ba95efe6c31d83e1c1f783e2bb7bc8416ef6cb4c58c3f"), looks := false }, kinds := [], alts := [], laidByText := true, laidKinds := [.data, .data, .data, .data], laidTests := true, laidLooks := .later }
def ClientBindsUptoCardSaid : Prop := Claim7.holds Tryd.pinned (.plain (OpenSpec.upto clientBindsSpec)) clientBindsUptoCard
end Rows
end Go.Proofs.YtblcpcfonnaiiaaDoor
