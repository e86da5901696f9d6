import Derived.Test.YtblcpcfonnaiiaaDoorZc2
namespace Go.Proofs.YtblcpcfonnaiiaaDoor
set_option linter.unusedVariables false
set_option linter.unusedSimpArgs false
open Go.RowKit
attribute [local go_sem ↓] Go.wp_at_zero Go.wp_at_succ

theorem flat_take (ss : List (List Int)) (k : Nat) (h : k < ss.length) : (ss.take (k + 1)).flatten = (ss.take k).flatten ++ ss.getD k [] := by
  rw [List.take_succ_eq_append_getElem h, List.flatten_append, List.flatten_singleton, List.getD_eq_getElem?_getD, List.getElem?_eq_getElem h]; rfl
theorem flat_take_len (ss : List (List Int)) (k : Nat) (h : ∀ d ∈ ss, d.length = 32) : ((ss.take k).flatten).length ≤ 32 * ss.length := by
  rw [flat_len32 _ (fun d hd => h d (List.mem_of_mem_take hd)), List.length_take]; omega
end Go.Proofs.YtblcpcfonnaiiaaDoor
