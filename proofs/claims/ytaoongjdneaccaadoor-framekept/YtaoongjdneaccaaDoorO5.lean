import Derived.Test.YtaoongjdneaccaaDoorO4
namespace Go.Proofs.YtaoongjdneaccaaDoor
set_option linter.unusedVariables false
set_option linter.unusedSimpArgs false
open Go.RowKit
attribute [local go_sem ↓] Go.wp_at_zero Go.wp_at_succ

theorem In.bel {w w' : World} {g : Nat} {rest : List Value} {os : List Int} (h : In w g rest os) (hb : Below w.heap.size w w') : In w' g rest os := hbel hb h (hlt h)
end Go.Proofs.YtaoongjdneaccaaDoor
