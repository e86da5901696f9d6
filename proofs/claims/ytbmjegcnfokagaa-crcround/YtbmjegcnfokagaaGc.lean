import Derived.Test.YtbmjegcnfokagaaGa
namespace Go.Proofs.Ytbmjegcnfokagaa
set_option linter.unusedVariables false
set_option linter.unusedSimpArgs false
open Go.RowKit
attribute [local go_sem ↓] Go.wp_at_zero Go.wp_at_succ

theorem join_101 : joinF 1 0 1 = 1996959894 := by decide +kernel
theorem join1_any (w : World) : Calls Try.prog 9 #[.int .u32 1, .int .u32 0, .int .i64 1] w fun e w' => e = .returned (.int .u32 1996959894) ∧ Below w.heap.size w w' := by
  have := join_any w 1 0 1 (by decide) (by decide) (by decide)
  rw [join_101] at this
  exact this
set_option maxRecDepth 100000 in
set_option maxHeartbeats 400000 in
theorem round_any (w : World) (a b : Nat) (n : Int) (ha : a < 4294967296) (hb : b < 4294967296) (hn : -9223372036854775808 ≤ n) (hn2 : n ≤ 9223372036854775807) :
    Calls Try.prog 4 #[.int .u32 a, .int .u32 b, .int .i64 n] w fun e w' => e = .returned (.bool true) ∧ Below w.heap.size w w' := by
  by_cases h : n < 0 ∨ 4611686018427387904 < n
  · have HJ := hid (joinF_round a b 5 ha)
    rcases h with h | h
    · go_enter Try.func4, Try.ntmps4
      go_wp2_with fail
      refine (join1_any w).mono ?_
      rintro e w1 ⟨rfl, b1⟩
      go_wp2_with fail
      refine (join_any w1 a b (5 + 4294967295) ha hb (by decide)).mono ?_
      rintro e w2 ⟨rfl, b2⟩
      rw [HJ.out]
      go_wp2_with fail
      refine (join_any w2 a b 5 ha hb (by decide)).mono ?_
      rintro e w3 ⟨rfl, b3⟩
      go_wp2
      go_ret
      exact ⟨rfl, (b1.trans (b2.mono b1.size)).trans (b3.mono (Nat.le_trans b1.size b2.size))⟩
    · have h0 : ¬ n < 0 := by omega
      go_enter Try.func4, Try.ntmps4
      go_wp2_with fail
      refine (join1_any w).mono ?_
      rintro e w1 ⟨rfl, b1⟩
      go_wp2_with fail
      refine (join_any w1 a b (5 + 4294967295) ha hb (by decide)).mono ?_
      rintro e w2 ⟨rfl, b2⟩
      rw [HJ.out]
      go_wp2_with fail
      refine (join_any w2 a b 5 ha hb (by decide)).mono ?_
      rintro e w3 ⟨rfl, b3⟩
      go_wp2
      go_ret
      exact ⟨rfl, (b1.trans (b2.mono b1.size)).trans (b3.mono (Nat.le_trans b1.size b2.size))⟩
  · have h0 : ¬ n < 0 := by omega
    have h1 : ¬ 4611686018427387904 < n := by omega
    obtain ⟨n, rfl⟩ := Int.eq_ofNat_of_zero_le (show 0 ≤ n by omega)
    have HJ := hid (joinF_round a b n ha)
    have i1 : (n : Int) ≤ 4611686018427387904 := by omega
    go_enter Try.func4, Try.ntmps4
    go_wp2_with fail
    refine (join1_any w).mono ?_
    rintro e w1 ⟨rfl, b1⟩
    go_wp2_with fail
    refine (join_any w1 a b (n + 4294967295) ha hb (by omega)).mono ?_
    rintro e w2 ⟨rfl, b2⟩
    rw [HJ.out]
    go_wp2_with fail
    refine (join_any w2 a b n ha hb (by omega)).mono ?_
    rintro e w3 ⟨rfl, b3⟩
    go_wp2
    go_ret
    exact ⟨rfl, (b1.trans (b2.mono b1.size)).trans (b3.mono (Nat.le_trans b1.size b2.size))⟩

set_option maxRecDepth 100000 in
set_option maxHeartbeats 400000 in
theorem chains_in (w : World) (a b c n m : Nat) (ha : a < 4294967296) (hb : b < 4294967296) (hc : c < 4294967296) (hn : n ≤ 2305843009213693952) (hm : m ≤ 2305843009213693952) :
    Calls Try.prog 3 #[.int .u32 a, .int .u32 b, .int .u32 c, .int .i64 n, .int .i64 m] w fun e w' => e = .returned (.bool true) ∧ Below w.heap.size w w' := by
  have i1 : ¬ (n : Int) < 0 := by omega
  have i2 : ¬ (m : Int) < 0 := by omega
  have i3 : ¬ 2305843009213693952 < (n : Int) := by omega
  have i4 : ¬ 2305843009213693952 < (m : Int) := by omega
  have i5 : (n : Int) ≤ 2305843009213693952 := by omega
  have i6 : (m : Int) ≤ 2305843009213693952 := by omega
  have HJ := hid (joinF_assoc a b c n m)
  go_enter Try.func3, Try.ntmps3
  go_wp2_with fail
  refine (join_any w a b n ha hb (by omega)).mono ?_
  rintro e w1 ⟨rfl, b1⟩
  go_wp2_with fail
  refine (join_any w1 b c m hb hc (by omega)).mono ?_
  rintro e w2 ⟨rfl, b2⟩
  have B2 := b1.trans (b2.mono b1.size)
  go_wp2_with fail
  refine (join1_any w2).mono ?_
  rintro e w3 ⟨rfl, b3⟩
  have B3 := B2.trans (b3.mono B2.size)
  go_wp2_with fail
  refine (join_any w3 _ c m (joinF_lt ha hb) hc (by omega)).mono ?_
  rintro e w4 ⟨rfl, b4⟩
  have B4 := B3.trans (b4.mono B3.size)
  rw [HJ.out]
  go_wp2_with fail
  refine (join_any w4 a _ (n + m) ha (joinF_lt hb hc) (by omega)).mono ?_
  rintro e w5 ⟨rfl, b5⟩
  have B5 := B4.trans (b5.mono B4.size)
  go_wp2
  go_ret
  exact ⟨rfl, B5⟩
end Go.Proofs.Ytbmjegcnfokagaa
