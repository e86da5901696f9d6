import Derived.Test.YtbmjegcnfokagaaGc
namespace Go.Proofs.Ytbmjegcnfokagaa
set_option linter.unusedVariables false
set_option linter.unusedSimpArgs false
open Go.RowKit
attribute [local go_sem ↓] Go.wp_at_zero Go.wp_at_succ

set_option maxRecDepth 100000 in
set_option maxHeartbeats 1000000 in
theorem chains_out (w : World) (a b c : Nat) (n m : Int) (ha : a < 4294967296) (hb : b < 4294967296) (hc : c < 4294967296) (h : n < 0 ∨ m < 0 ∨ 2305843009213693952 < n ∨ 2305843009213693952 < m) :
    Calls Try.prog 3 #[.int .u32 a, .int .u32 b, .int .u32 c, .int .i64 n, .int .i64 m] w fun e w' => e = .returned (.bool true) ∧ Below w.heap.size w w' := by
  by_cases hn : n < 0
  · by_cases hm : m < 0
    · go_enter Try.func3, Try.ntmps3
      go_wp2_with fail
      refine (join1_any w).mono ?_
      rintro e w1 ⟨rfl, b1⟩
      go_wp2_with fail
      refine (join_neg w1 a b n hn).mono ?_
      rintro e w2 ⟨rfl, rfl⟩
      go_wp2_with fail
      refine (join_neg _ b c m hm).mono ?_
      rintro e w3 ⟨rfl, rfl⟩
      go_wp2
      go_ret
      exact ⟨rfl, b1⟩
    · have hm2 : (0 : Int) ≤ m := by omega
      go_enter Try.func3, Try.ntmps3
      go_wp2_with fail
      refine (join1_any w).mono ?_
      rintro e w1 ⟨rfl, b1⟩
      go_wp2_with fail
      refine (join_neg w1 a b n hn).mono ?_
      rintro e w2 ⟨rfl, rfl⟩
      go_wp2
      go_ret
      exact ⟨rfl, b1⟩
  · by_cases hm : m < 0
    · have hn2 : (0 : Int) ≤ n := by omega
      go_enter Try.func3, Try.ntmps3
      go_wp2_with fail
      refine (join1_any w).mono ?_
      rintro e w1 ⟨rfl, b1⟩
      go_wp2_with fail
      refine (join_neg _ b c m hm).mono ?_
      rintro e w3 ⟨rfl, rfl⟩
      go_wp2
      go_ret
      exact ⟨rfl, b1⟩
    · by_cases hN : 2305843009213693952 < n
      · have hn2 : (0 : Int) ≤ n := by omega
        have hm2 : (0 : Int) ≤ m := by omega
        go_enter Try.func3, Try.ntmps3
        go_wp2_with fail
        refine (join1_any w).mono ?_
        rintro e w1 ⟨rfl, b1⟩
        go_wp2
        go_ret
        exact ⟨rfl, b1⟩
      · have hn2 : (0 : Int) ≤ n := by omega
        have hm2 : (0 : Int) ≤ m := by omega
        have hM : 2305843009213693952 < m := by omega
        go_enter Try.func3, Try.ntmps3
        go_wp2_with fail
        refine (join1_any w).mono ?_
        rintro e w1 ⟨rfl, b1⟩
        go_wp2
        go_ret
        exact ⟨rfl, b1⟩

theorem chains_any (w : World) (a b c : Nat) (n m : Int) (ha : a < 4294967296) (hb : b < 4294967296) (hc : c < 4294967296) :
    Calls Try.prog 3 #[.int .u32 a, .int .u32 b, .int .u32 c, .int .i64 n, .int .i64 m] w fun e w' => e = .returned (.bool true) ∧ Below w.heap.size w w' := by
  by_cases h : n < 0 ∨ m < 0 ∨ 2305843009213693952 < n ∨ 2305843009213693952 < m
  · exact chains_out w a b c n m ha hb hc h
  · obtain ⟨n, rfl⟩ := Int.eq_ofNat_of_zero_le (show 0 ≤ n by omega)
    obtain ⟨m, rfl⟩ := Int.eq_ofNat_of_zero_le (show 0 ≤ m by omega)
    exact chains_in w a b c n m ha hb hc (by omega) (by omega)
end Go.Proofs.Ytbmjegcnfokagaa
