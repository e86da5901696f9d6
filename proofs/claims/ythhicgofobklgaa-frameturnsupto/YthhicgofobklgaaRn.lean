import Derived.Test.YthhicgofobklgaaN5
namespace Go.Proofs.Ythhicgofobklgaa
set_option linter.unusedVariables false
set_option linter.unusedSimpArgs false
open Go.RowKit
attribute [local go_sem ↓] Go.wp_at_zero Go.wp_at_succ

set_option maxRecDepth 100000 in
theorem whole_num (w : World) (n lo hi : Int) (h0 : 0 ≤ lo) (h1 : lo ≤ hi) (h2 : hi ≤ 5000) (hn : -9223372036854775808 ≤ n ∧ n ≤ 9223372036854775807) :
    Calls Try.prog 4 #[.int .i64 n, .int .i64 lo, .int .i64 hi] w fun e w' => ∃ r, e = .returned (.int .i64 r) ∧ lo ≤ r ∧ r ≤ hi ∧ w' = w := by
  obtain ⟨M, hM⟩ : ∃ M, hi - lo + 1 = M := ⟨_, rfl⟩
  have m1 : 1 ≤ M := by omega
  have m2' : M ≤ 5001 := by omega
  obtain ⟨q, hq⟩ : ∃ q, n.tmod M = q := ⟨_, rfl⟩
  have q1 : -M < q := by
    rcases Int.lt_or_le n 0 with hn0 | hn0
    · have h := Int.tmod_lt_of_pos (-n) m1
      rw [Int.neg_tmod] at h
      omega
    · have h := Int.tmod_nonneg M hn0
      omega
  have q2 : q < M := by rw [← hq]; exact Int.tmod_lt_of_pos n m1
  by_cases hneg : q < 0
  · have HX := hid (show lo ≤ lo + (q + hi - lo + 1) ∧ lo + (q + hi - lo + 1) ≤ hi by omega)
    go_enter Try.func4, Try.ntmps4
    go_wp2
    go_ret
    exact ⟨_, rfl, HX.out.1, HX.out.2, rfl⟩
  · have HX := hid (show lo ≤ lo + q ∧ lo + q ≤ hi by omega)
    go_enter Try.func4, Try.ntmps4
    go_wp2
    go_ret
    exact ⟨_, rfl, HX.out.1, HX.out.2, rfl⟩
end Go.Proofs.Ythhicgofobklgaa
