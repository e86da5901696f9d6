import Derived.Test.YtibpffoencjlcacDoorXc9
namespace Go.Proofs.YtibpffoencjlcacDoor
set_option linter.unusedVariables false
set_option linter.unusedSimpArgs false
open Go.RowKit
attribute [local go_sem ↓] Go.wp_at_zero Go.wp_at_succ

set_option maxRecDepth 100000 in
set_option maxHeartbeats 1000000 in
theorem xbit_any (w : World) (k : List Int) (hk : k.length = 32) (hb : Byts k) (i : Nat) (hi : i < 256) :
    Calls Tryd.prog 57 #[.agg (ints .u8 k).toArray, .int .i64 i] w fun e w' => e = .returned (.int .i64 (bitK k i)) ∧ Below w.heap.size w w' := by
  have i1 : (i : Int) < 256 := by omega
  have hx := hb.get (i / 8)
  have c0 : (w.alloc (.cells (ints .u8 k).toArray 26)).cell? ⟨w.heap.size, i / 8, none⟩ = some (.int .u8 (k.getD (i / 8) 0)) := cell_ints (hnew w _) (i / 8) (by omega)
  have hB := (Below.refl w.heap.size w).alloc (Nat.le_refl _) (.cells (ints .u8 k).toArray 26)
  have HK := hid (show bitK k i = k.getD (i / 8) 0 / 2 ^ (7 - i % 8) % 2 from rfl)
  rw [HK.out]
  clear HK
  generalize k.getD (i / 8) 0 = x at *
  obtain ⟨x, rfl⟩ := Int.eq_ofNat_of_zero_le hx.1
  have i2 : (x : Int) ≤ 255 := by omega
  go_enter Tryd.func57, Tryd.ntmps57
  go_wp2
  generalize w.alloc (.cells (ints .u8 k).toArray 26) = w1 at *
  go_loopw [5, 6] (fun v jv wr => w1 = wr ∧ ∃ t : Nat, i % 8 + t ≤ 7 ∧ v = .int .i64 ((x / 2 ^ t : Nat) : Int) ∧ jv = .int .i64 ((i % 8 + t : Nat) : Int)) (fun _ jv _ => 7 - (intOf jv).toNat)
  case atStart => exact ⟨rfl, 0, by omega, by simp, by simp⟩
  case round =>
    obtain ⟨rfl, t, ht, rfl, rfl⟩ := hrel
    have hle : x / 2 ^ t ≤ 255 := Nat.le_trans (Nat.div_le_self _ _) (by omega)
    by_cases hlt' : i % 8 + t < 7
    · have HT := hid (show x / 2 ^ (t + 1) = x / 2 ^ t / 2 by rw [Nat.pow_succ, Nat.div_div_eq_div_mul])
      generalize hy : x / 2 ^ t = y at *
      generalize hq : i % 8 + t = q at *
      have HY := hid hy
      have HQ := hid hq
      clear hy hq
      have i3 : (q : Int) < 7 := by omega
      have i4 : (y : Int) ≤ 255 := by omega
      clear c0 i1 hi
      go_wp2
      go_roundw
      case rel => exact ⟨trivial, t + 1, by have := HQ.out; omega, by rw [HT.out]; simp, by have := HQ.out; rw [show i % 8 + (t + 1) = q + 1 by omega]; go_num⟩
      case measure => simp [intOf]; omega
    · have e7 : 7 - i % 8 = t := by omega
      rw [show x / 2 ^ t = x / 2 ^ (7 - i % 8) by rw [e7]]
      have HR := hid (show ((x : Int) / 2 ^ (7 - i % 8) % 2) = (((x / 2 ^ (7 - i % 8)) % 2 : Nat) : Int) by simp)
      rw [e7] at HR ⊢
      generalize hy : x / 2 ^ t = y at *
      generalize hq : i % 8 + t = q at *
      have i3 : ¬ ((q : Int) < 7) := by omega
      have i4 : (y : Int) ≤ 255 := by omega
      clear c0 i1 hi hy hq hlt'
      go_wp2
      go_ret
      exact ⟨by rw [HR.out]; simp, hB⟩
end Go.Proofs.YtibpffoencjlcacDoor
