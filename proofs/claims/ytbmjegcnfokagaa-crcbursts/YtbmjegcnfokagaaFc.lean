import Derived.Test.YtbmjegcnfokagaaFb
namespace Go.Proofs.Ytbmjegcnfokagaa
set_option linter.unusedVariables false
set_option linter.unusedSimpArgs false
open Go.RowKit
attribute [local go_sem ↓] Go.wp_at_zero Go.wp_at_succ

/-- What n zero bytes make of each bit. -/
def imgs (n : Nat) : List Int := (List.range 32).map fun i => ((stepN (8 * n) (2 ^ i) : Nat) : Int)
theorem imgs_len (n : Nat) : (imgs n).length = 32 := by simp [imgs]
theorem imgs_get (n i : Nat) (h : i < 32) : (imgs n).getD i 0 = ((stepN (8 * n) (2 ^ i) : Nat) : Int) := by
  simp [imgs, h]
theorem and1_u32 (a : Nat) (ha : a < 4294967296) : bits .and .u32 (a : Int) 1 = ((a % 2 : Nat) : Int) := by
  have := bits_mask .u32 32 (by decide) wraps_u32 1 (by decide) (a : Int) (by omega) (by omega)
  simpa using this
theorem shrn (a m : Nat) : (a : Int) / (2 : Int) ^ m = ((a >>> m : Nat) : Int) := by rw [Nat.shiftRight_eq_div_pow]; simp
theorem bit_u32 (a m : Nat) (ha : a < 4294967296) : bits .and .u32 ((a : Int) / (2 : Int) ^ m) 1 = ((a >>> m % 2 : Nat) : Int) := by
  rw [shrn, and1_u32 _ (by rw [Nat.shiftRight_eq_div_pow]; exact Nat.lt_of_le_of_lt (Nat.div_le_self _ _) ha)]
theorem two_pow_lt {i : Nat} (h : i < 32) : 2 ^ i < 4294967296 := (Nat.pow_lt_pow_iff_right (a := 2) (n := i) (m := 32) (by decide)).2 h

theorem passTo_lt (f : Nat → Nat) (hf : ∀ i, i < 32 → f i < 4294967296) (r : Nat) : ∀ m, m ≤ 32 → passTo f r m < 4294967296 := by
  intro m
  induction m with
  | zero => intro _; simp [passTo]
  | succ m ih =>
    intro h
    rw [passTo]
    refine xor_lt (ih (by omega)) ?_
    rcases Nat.mod_two_eq_zero_or_one (r >>> m) with e | e
    · rw [e, Nat.zero_mul]; decide
    · rw [e, Nat.one_mul]; exact hf m (by omega)

set_option maxRecDepth 100000 in
set_option maxHeartbeats 400000 in
theorem pass_any (w : World) (n r : Nat) (hr : r < 4294967296) :
    Calls Try.prog 25 #[.agg (ints .u32 (imgs n)).toArray, .int .u32 r] w fun e w' => e = .returned (.int .u32 (stepN (8 * n) r)) ∧ Below w.heap.size w w' := by
  have hI := imgs_get n
  have hL := hid (imgs_len n)
  have hP := hid (passTo_lin (stepN (8 * n)) (stepN_xor _) r 32)
  rw [show r % 2 ^ 32 = r from Nat.mod_eq_of_lt hr] at hP
  have hf : ∀ i, i < 32 → stepN (8 * n) (2 ^ i) < 4294967296 := fun i hi => stepN_lt _ _ (two_pow_lt hi)
  have hPl := passTo_lt (fun i => stepN (8 * n) (2 ^ i)) hf r
  generalize imgs n = im at *
  generalize stepN (8 * n) r = res at *
  generalize hg : (fun i => stepN (8 * n) (2 ^ i)) = f at *
  replace hI : ∀ i, i < 32 → im.getD i 0 = ((f i : Nat) : Int) := fun i hi => by rw [hI i hi, ← hg]
  replace hf : ∀ i, i < 32 → f i < 4294967296 := fun i hi => by rw [← hg]; exact hf i hi
  clear hg
  go_enter Try.func25, Try.ntmps25
  go_wp2
  go_loopw [5, 7] (fun x i wr => ∃ m : Nat, m ≤ 32 ∧ i = .int .i64 m ∧ x = .int .u32 (passTo f r m) ∧ wr.heap[w.heap.size]? = some (Obj.cells (ints .u32 im).toArray 44) ∧ Below w.heap.size w wr) (fun _ i _ => 32 - (intOf i).toNat)
  case atStart => exact ⟨0, by omega, rfl, rfl, hnew w _, (Below.refl _ _).alloc (Nat.le_refl _) _⟩
  case round =>
    obtain ⟨m, hm, rfl, rfl, hh, hB⟩ := hrel
    by_cases hlt : m < 32
    · have i1 : (m : Int) < 32 := by omega
      have hpl := hPl m hm
      have hfm := hf m hlt
      have HS := hid (show passTo f r (m + 1) = passTo f r m ^^^ ((r >>> m % 2) * f m) from rfl)
      have e1 := bit_u32 r m hr
      generalize passTo f r m = p at *
      have c1 : wr.cell? ⟨w.heap.size, m, none⟩ = some (.int .u32 (f m : Int)) := by rw [cell_ints hh m (by rw [hL.out]; omega), hI m hlt]
      have e2 := xor_u32 p (f m) hpl hfm
      clear hPl hf hI
      generalize f m = fm at *
      have hb01 : r >>> m % 2 < 2 := m2 _
      generalize r >>> m % 2 = bt at *
      rcases (show bt = 1 ∨ bt = 0 by omega) with rfl | rfl
      · rw [Nat.one_mul] at HS
        go_wp2
        go_roundw
        case rel => exact ⟨m + 1, by omega, by go_num, by rw [HS.out], hh, hB⟩
        case measure => simp [intOf]; omega
      · rw [Nat.zero_mul, Nat.xor_zero] at HS
        go_wp2
        go_roundw
        case rel => exact ⟨m + 1, by omega, by go_num, by rw [HS.out], hh, hB⟩
        case measure => simp [intOf]; omega
    · obtain rfl : m = 32 := by omega
      rw [hP.out]
      clear hlt
      go_wp2
      go_ret
      exact ⟨rfl, hB⟩
end Go.Proofs.Ytbmjegcnfokagaa
