import Derived.Test.YtbnghhgeoodphaaGreatDoorE4i
namespace Go.Proofs.YtbnghhgeoodphaaGreatDoor
set_option linter.unusedVariables false
set_option linter.unusedSimpArgs false
open Go.RowKit
attribute [local go_sem ↓] Go.wp_at_zero Go.wp_at_succ

theorem Bts.set {zs : List Int} (h : Bts zs) (j : Nat) {x : Int} (hx : 0 ≤ x ∧ x < 256) : Bts (zs.set j x) := fun y hy => by
  rcases List.mem_or_eq_of_mem_set hy with h1 | rfl
  · exact h y h1
  · exact hx
end Go.Proofs.YtbnghhgeoodphaaGreatDoor
