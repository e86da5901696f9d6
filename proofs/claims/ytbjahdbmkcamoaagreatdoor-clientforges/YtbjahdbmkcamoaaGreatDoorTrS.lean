import Derived.Test.YtbjahdbmkcamoaaGreatDoorNh
namespace Go.Proofs.YtbjahdbmkcamoaaGreatDoor
set_option linter.unusedVariables false
set_option linter.unusedSimpArgs false
open Go.RowKit
attribute [local go_sem ↓] Go.wp_at_zero Go.wp_at_succ

set_option maxRecDepth 100000 in
set_option maxHeartbeats 4000000 in
theorem lwithin_32 (k : Int) (w : World) : Calls Tryz.prog 4 #[.int .i64 k, .int .i64 1, .int .i64 32] w fun e w' => ∃ r : Nat, 1 ≤ r ∧ r ≤ 32 ∧ e = .returned (.int .i64 r) ∧ w' = w := by
  have h2 : k.tmod 32 < 32 := Int.tmod_lt_of_pos k (by omega)
  have h3 : -32 < k.tmod 32 := by
    have h2 := Int.tmod_lt_of_pos (-k) (b := 32) (by omega)
    rw [Int.neg_tmod] at h2
    omega
  by_cases hn : k.tmod 32 < 0
  · go_enter Tryz.func4, Tryz.ntmps4
    go_wp2_with fail
    go_ret
    exact ⟨(k.tmod 32 + 33).toNat, by omega, by omega, by simp; omega, rfl⟩
  · go_enter Tryz.func4, Tryz.ntmps4
    go_wp2_with fail
    go_ret
    exact ⟨(1 + k.tmod 32).toNat, by omega, by omega, by simp; omega, rfl⟩
end Go.Proofs.YtbjahdbmkcamoaaGreatDoor
