import Derived.Test.YtaoongjdneaccaaDoorDa5
namespace Go.Proofs.YtaoongjdneaccaaDoor
set_option linter.unusedVariables false
set_option linter.unusedSimpArgs false
open Go.RowKit
attribute [local go_sem ↓] Go.wp_at_zero Go.wp_at_succ

/-- The register, bit by bit. -/
def rg (s : Nat) (F : Nat → Nat) : Nat → Nat
  | 0 => s
  | i + 1 => step (rg s F i ^^^ F i)
theorem rg_lt (s : Nat) (F : Nat → Nat) (hs : s < 4294967296) (hF : ∀ i, F i < 2) : ∀ i, rg s F i < 4294967296 := by
  intro i
  induction i with
  | zero => exact hs
  | succ i ih => exact step_lt _ (xor_lt ih (by have := hF i; omega))
theorem two_stepD : ∀ i, i < 32 → stepN i (2 ^ i) = 1 := by decide +kernel
theorem bit_two (x i : Nat) (hi : i < 32) (hx : x < 2) : stepN i (x * 2 ^ i) = x := by
  rcases (show x = 0 ∨ x = 1 by omega) with rfl | rfl
  · rw [Nat.zero_mul, stepN_zero]
  · rw [Nat.one_mul, two_stepD i hi]
theorem rg_byte (s : Nat) (F : Nat → Nat) (n b : Nat) (hF : ∀ j, j < 8 → F (8 * n + j) = b >>> j % 2) : ∀ j, j ≤ 8 → rg s F (8 * n + j) = stepN j (rg s F (8 * n) ^^^ (b % 2 ^ j)) := by
  intro j
  induction j with
  | zero => intro _; simp [Nat.mod_one, stepN]
  | succ j ih =>
    intro hj
    rw [← Nat.add_assoc, rg, ih (by omega), hF j (by omega), stepN_succ', mod_pow_succ_xor]
    congr 1
    conv => lhs; rw [← bit_two (b >>> j % 2) j (by omega) (m2 _)]
    rw [← stepN_xor, Nat.xor_assoc]
theorem rg_feed (zs : List Int) (h8 : Byts zs) (s : Nat) : ∀ n, n ≤ zs.length → rg s (bt zs) (8 * n) = feed s (zs.take n) := by
  intro n
  induction n with
  | zero => intro _; rfl
  | succ n ih =>
    intro hn
    have hlt : n < zs.length := by omega
    have hb := getD_byte h8 n
    have := rg_byte s (bt zs) n (zs.getD n 0).toNat (fun j hj => by unfold bt; rw [show (8 * n + j) / 8 = n by omega, show (8 * n + j) % 8 = j by omega]) 8 (Nat.le_refl _)
    rw [show 8 * (n + 1) = 8 * n + 8 by omega, this, ih (by omega), List.take_succ_eq_append_getElem hlt, feed_snoc]
    rw [show (zs.getD n 0).toNat % 2 ^ 8 = (zs.getD n 0).toNat from Nat.mod_eq_of_lt (by omega)]
    rw [List.getD_eq_getElem?_getD, List.getElem?_eq_getElem hlt]
    rfl
theorem rg_all (zs : List Int) (h8 : Byts zs) (s : Nat) : rg s (bt zs) (8 * zs.length) = feed s zs := by
  rw [rg_feed zs h8 s zs.length (Nat.le_refl _), List.take_length]
/-- The polynomial's digits, the highest power first. -/
def dvI : List Int := [1, 0, 0, 0, 0, 0, 1, 0, 0, 1, 1, 0, 0, 0, 0, 0, 1, 0, 0, 0, 1, 1, 1, 0, 1, 1, 0, 1, 1, 0, 1, 1, 1]
def dv (j : Nat) : Nat := (dvI.getD j 0).toNat
theorem dv_poly : ∀ j, j < 32 → dv (j + 1) = poly >>> j % 2 := by decide
theorem dv_zero : dv 0 = 1 := by decide
theorem dvI_eq : ∀ j, j < 33 → dvI.getD j 0 = (dv j : Int) := by decide
theorem dv_lt : ∀ j, j < 33 → dv j < 2 := by decide
theorem shr_step0 (x s : Nat) (h : x % 2 = 0) : step x >>> s % 2 = x >>> (s + 1) % 2 := by
  unfold step; rw [h, Nat.zero_mul, Nat.xor_zero, ← Nat.shiftRight_add, Nat.add_comm]
theorem shr_step1 (x s : Nat) (h : x % 2 = 1) : step x >>> s % 2 = (x >>> (s + 1) % 2) ^^^ (poly >>> s % 2) := by
  unfold step; rw [h, Nat.one_mul, Nat.shiftRight_xor_distrib, mod2_xor, ← Nat.shiftRight_add, Nat.add_comm]
theorem shr_low (R f s : Nat) (hf : f < 2) : (R ^^^ f) >>> (s + 1) % 2 = R >>> (s + 1) % 2 := by
  rw [Nat.shiftRight_xor_distrib, mod2_xor, show f >>> (s + 1) = 0 by rw [Nat.shiftRight_eq_div_pow]; exact Nat.div_eq_of_lt (Nat.lt_of_lt_of_le hf (by rw [Nat.pow_succ]; have := Nat.two_pow_pos s; omega))]
  simp
theorem shr_big (R s : Nat) (h : R < 4294967296) (hs : 32 ≤ s) : R >>> s % 2 = 0 := by
  rw [Nat.shiftRight_eq_div_pow, Nat.div_eq_of_lt]
  exact Nat.lt_of_lt_of_le h (Nat.pow_le_pow_right (n := 2) (by decide) hs)
theorem poly_big (s : Nat) (hs : 32 ≤ s) : poly >>> s % 2 = 0 := shr_big poly s (by decide) hs
/-- What stands at place t when i bits have been divided. -/
def cellAt (F : Nat → Nat) (R i t : Nat) : Nat := F t ^^^ (R >>> (t - i) % 2)
theorem cellAt_lt (F : Nat → Nat) (hF : ∀ i, F i < 2) (R i t : Nat) : cellAt F R i t < 2 := Nat.xor_lt_two_pow (n := 1) (hF t) (m2 _)
theorem cellAt_here (F : Nat → Nat) (hF : ∀ i, F i < 2) (R i : Nat) : cellAt F R i i = (R ^^^ F i) % 2 := by
  unfold cellAt
  rw [Nat.sub_self, Nat.shiftRight_zero, mod2_xor, Nat.mod_eq_of_lt (hF i), Nat.xor_comm]
theorem cellAt_next0 (F : Nat → Nat) (hF : ∀ i, F i < 2) (R i t : Nat) (h : cellAt F R i i = 0) (ht : i + 1 ≤ t) : cellAt F (step (R ^^^ F i)) (i + 1) t = cellAt F R i t := by
  rw [cellAt_here F hF] at h
  unfold cellAt
  rw [shr_step0 _ _ h, shr_low _ _ _ (hF i), show t - (i + 1) + 1 = t - i by omega]
theorem cellAt_next1 (F : Nat → Nat) (hF : ∀ i, F i < 2) (R i t : Nat) (h : cellAt F R i i = 1) (ht : i + 1 ≤ t) : cellAt F (step (R ^^^ F i)) (i + 1) t = if t < i + 33 then cellAt F R i t ^^^ dv (t - i) else cellAt F R i t := by
  rw [cellAt_here F hF] at h
  unfold cellAt
  rw [shr_step1 _ _ h, shr_low _ _ _ (hF i), show t - (i + 1) + 1 = t - i by omega]
  split
  · rw [show t - i = (t - (i + 1)) + 1 by omega, dv_poly _ (by omega), Nat.xor_assoc]
  · rw [poly_big _ (by omega), Nat.xor_zero]
end Go.Proofs.YtaoongjdneaccaaDoor
