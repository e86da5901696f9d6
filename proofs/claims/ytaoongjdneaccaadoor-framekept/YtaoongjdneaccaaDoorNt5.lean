import Derived.Test.YtaoongjdneaccaaDoorO9
namespace Go.Proofs.YtaoongjdneaccaaDoor
set_option linter.unusedVariables false
set_option linter.unusedSimpArgs false
open Go.RowKit
attribute [local go_sem ↓] Go.wp_at_zero Go.wp_at_succ

theorem guardU : Tryd.prog.eqGuardType Tryd.prog.depth 31 = false := by kernel_rfl
theorem eqSup (s t : Sup) (w : World) : (Op.equalIn 10000 31 (.agg (supC s)) (.agg (supC t))).run Tryd.prog w = .ok (decide (s = t)) w := by
  obtain ⟨a, b, c, d, e⟩ := s
  obtain ⟨a', b', c', d', e'⟩ := t
  unfold supC
  go_simp
  repeat' split
  all_goals simp_all
end Go.Proofs.YtaoongjdneaccaaDoor
