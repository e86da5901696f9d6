import Derived.Test.YtbmjegcnfokagaaFd
namespace Go.Proofs.Ytbmjegcnfokagaa
set_option linter.unusedVariables false
set_option linter.unusedSimpArgs false
open Go.RowKit
attribute [local go_sem ↓] Go.wp_at_zero Go.wp_at_succ

theorem timesTo_lt (a b : Nat) (ha : a < 4294967296) : ∀ i, timesTo a b i < 4294967296 := by
  intro i
  induction i with
  | zero => simp [timesTo]
  | succ i ih =>
    rw [timesTo]
    refine xor_lt (step_lt _ ih) ?_
    rcases Nat.mod_two_eq_zero_or_one (b >>> i) with e | e
    · rw [e, Nat.zero_mul]; decide
    · rw [e, Nat.one_mul]; exact ha
set_option maxRecDepth 100000 in
set_option maxHeartbeats 400000 in
theorem times_any (w : World) (a b : Nat) (ha : a < 4294967296) (hb : b < 4294967296) :
    Calls Try.prog 21 #[.int .u32 a, .int .u32 b] w fun e w' => e = .returned (.int .u32 (times a b)) ∧ w' = w := by
  go_enter Try.func21, Try.ntmps21
  go_wp2
  go_loopw [5, 6] (fun x i wr => ∃ m : Nat, m ≤ 32 ∧ i = .int .i64 m ∧ x = .int .u32 (timesTo a b m) ∧ wr = w) (fun _ i _ => 32 - (intOf i).toNat)
  case atStart => exact ⟨0, by omega, rfl, rfl, rfl⟩
  case round =>
    obtain ⟨m, hm, rfl, rfl, rfl⟩ := hrel
    by_cases hlt : m < 32
    · have i1 : (m : Int) < 32 := by omega
      have hpl := timesTo_lt a b ha m
      have HS := hid (show timesTo a b (m + 1) = step (timesTo a b m) ^^^ ((b >>> m % 2) * a) from rfl)
      have e1 := bit_u32 b m hb
      generalize timesTo a b m = p at *
      have e2 := and1_u32 p hpl
      have HT := hid (show step p = (p >>> 1) ^^^ ((p % 2) * poly) from rfl)
      have hs := step_lt p hpl
      obtain ⟨h, hh⟩ : ∃ h, h = p >>> 1 := ⟨_, rfl⟩
      have e3 : (p : Int) / 2 = (h : Int) := by rw [hh, Nat.shiftRight_eq_div_pow]; omega
      have hhl : h < 4294967296 := by omega
      rw [← hh] at HT
      have e4 : bits .xor .u32 (h : Int) 3988292384 = ((h ^^^ poly : Nat) : Int) := xor_u32 h poly hhl (by decide)
      have e5 := xor_u32 (step p) a hs ha
      clear hh
      have hb01 : b >>> m % 2 < 2 := m2 _
      generalize b >>> m % 2 = bt at *
      rcases Nat.mod_two_eq_zero_or_one p with e | e
      · rw [e, Nat.zero_mul, Nat.xor_zero] at HT
        rw [HT.out] at e5 HS
        rw [e] at e2
        rcases (show bt = 1 ∨ bt = 0 by omega) with rfl | rfl
        · rw [Nat.one_mul] at HS
          go_wp2
          go_roundw
          case rel => exact ⟨m + 1, by omega, by go_num, by rw [HS.out], trivial⟩
          case measure => simp [intOf]; omega
        · rw [Nat.zero_mul, Nat.xor_zero] at HS
          go_wp2
          go_roundw
          case rel => exact ⟨m + 1, by omega, by go_num, by rw [HS.out], trivial⟩
          case measure => simp [intOf]; omega
      · rw [e, Nat.one_mul] at HT
        rw [HT.out] at e5 HS
        rw [e] at e2
        generalize h ^^^ poly = h' at *
        rcases (show bt = 1 ∨ bt = 0 by omega) with rfl | rfl
        · rw [Nat.one_mul] at HS
          go_wp2
          go_roundw
          case rel => exact ⟨m + 1, by omega, by go_num, by rw [HS.out], trivial⟩
          case measure => simp [intOf]; omega
        · rw [Nat.zero_mul, Nat.xor_zero] at HS
          go_wp2
          go_roundw
          case rel => exact ⟨m + 1, by omega, by go_num, by rw [HS.out], trivial⟩
          case measure => simp [intOf]; omega
    · obtain rfl : m = 32 := by omega
      have HT := hid (show times a b = timesTo a b 32 from rfl)
      clear hlt
      go_wp2
      go_ret
      exact ⟨by rw [HT.out]; rfl, rfl⟩

set_option maxRecDepth 100000 in
set_option maxHeartbeats 400000 in
theorem rjoin_any (w : World) (a b n : Nat) (ha : a < 4294967296) (hb : b < 4294967296) (hn : n < 9223372036854775808) :
    Calls Try.prog 10 #[.int .u32 a, .int .u32 b, .int .i64 n] w fun e w' => e = .returned (.int .u32 (joinF a b n)) ∧ w' = w := by
  have i1 : ¬ ((n : Int) < 0) := by omega
  have HP := hid (show (8388608 : Nat) = stepN (8 * 1) 2147483648 by decide +kernel)
  have HJ := hid (show joinF a b n = stepN (8 * n) a ^^^ b from rfl)
  have HR := hid (show stepN (8 * n) a = stepN (8 * (1 * n)) a by rw [Nat.one_mul])
  go_enter Try.func10, Try.ntmps10
  go_wp2
  go_loopw [0, 2, 7] (fun x i pv wr => ∃ y m p q : Nat, i = .int .i64 m ∧ m < 9223372036854775808 ∧ x = .int .u32 y ∧ y < 4294967296 ∧ pv = .int .u32 q ∧ q = stepN (8 * p) 2147483648 ∧ stepN (8 * (p * m)) y = stepN (8 * n) a ∧ wr = w) (fun _ i _ _ => (intOf i).toNat)
  case atStart => exact ⟨a, n, 1, 8388608, rfl, hn, rfl, ha, rfl, HP.out, HR.out.symm, rfl⟩
  case round =>
    clear HR HP
    obtain ⟨y, m, p, q, rfl, hm, rfl, hy, rfl, HQ, hE, rfl⟩ := hrel
    replace hE := hid hE
    replace HQ := hid HQ
    have hpl : q < 4294967296 := by rw [HQ.out]; exact stepN_lt (8 * p) 2147483648 (by decide)
    by_cases hp : 0 < m
    · have i1 : (0 : Int) < m := by omega
      have i2 : (m : Int) < 9223372036854775808 := by omega
      have e2 : (m : Int) / 2 = ((m / 2 : Nat) : Int) := by omega
      have HM : m / 2 < m := by omega
      have HT := hid (show times q q = stepN (8 * (2 * p)) 2147483648 by
        rw [HQ.out, times_stepN _ (stepN_lt (8 * p) 2147483648 (by decide)), ← stepN_add]; congr 1; omega)
      have htl : times q q < 4294967296 := timesTo_lt _ _ hpl 32
      rcases (show m % 2 = 1 ∨ m % 2 = 0 by omega) with e | e
      · have e1 : (m : Int) % 2 = 1 := by omega
        have hE2 := hid (half_eq1 p m e)
        clear e
        generalize m / 2 = m' at *
        go_wp2_with fail
        refine (times_any wr y q hy hpl).mono ?_
        rintro e w3 ⟨rfl, rfl⟩
        have HY := hid (show times y q = stepN (8 * p) y by rw [HQ.out, times_stepN _ hy])
        go_wp2_with fail
        refine (times_any w3 q q hpl hpl).mono ?_
        rintro e w4 ⟨rfl, rfl⟩
        go_wp2
        go_roundw
        case rel => exact ⟨stepN (8 * p) y, m', 2 * p, times q q, rfl, by omega, by rw [HY.out], stepN_lt _ _ hy, rfl, HT.out, by rw [← hE.out, ← stepN_add, hE2.out, Nat.mul_add], trivial⟩
        case measure => simp [intOf]; omega
      · have e1 : (m : Int) % 2 = 0 := by omega
        have hE2 := hid (half_eq p m e)
        clear e
        generalize m / 2 = m' at *
        go_wp2_with fail
        refine (times_any wr q q hpl hpl).mono ?_
        rintro e w4 ⟨rfl, rfl⟩
        go_wp2
        go_roundw
        case rel => exact ⟨y, m', 2 * p, times q q, rfl, by omega, rfl, hy, rfl, HT.out, by rw [← hE.out, hE2.out], trivial⟩
        case measure => simp [intOf]; omega
    · obtain rfl : m = 0 := by omega
      have HE := hid (show stepN (8 * n) a = y by rw [← hE.out, Nat.mul_zero]; rfl)
      rw [HE.out] at HJ
      have e1 := xor_u32 y b hy hb
      go_wp2
      go_ret
      exact ⟨by rw [HJ.out]; rfl, rfl⟩
set_option maxRecDepth 100000 in
set_option maxHeartbeats 400000 in
theorem rjoin_neg (w : World) (a b n : Int) (hn : n < 0) :
    Calls Try.prog 10 #[.int .u32 a, .int .u32 b, .int .i64 n] w fun e w' => e = .returned (.int .u32 0) ∧ w' = w := by
  go_enter Try.func10, Try.ntmps10
  go_wp2
  go_ret
  exact ⟨rfl, rfl⟩
end Go.Proofs.Ytbmjegcnfokagaa
