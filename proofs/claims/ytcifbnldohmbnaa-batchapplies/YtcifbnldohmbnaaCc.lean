import Derived.Test.YtcifbnldohmbnaaCb
namespace Go.Proofs.Ytcifbnldohmbnaa
set_option linter.unusedVariables false
set_option linter.unusedSimpArgs false
open Go.RowKit
attribute [local go_sem ↓] Go.wp_at_zero Go.wp_at_succ

/-- The bit i of a key. -/
def bitK (k : List Int) (i : Nat) : Int := k.getD (i / 8) 0 / 2 ^ (7 - i % 8) % 2
def Byts (zs : List Int) : Prop := ∀ x ∈ zs, 0 ≤ x ∧ x < 256
theorem Byts.get {zs : List Int} (h : Byts zs) (j : Nat) : 0 ≤ zs.getD j 0 ∧ zs.getD j 0 < 256 := by
  by_cases hj : j < zs.length
  · rw [List.getD_eq_getElem?_getD, List.getElem?_eq_getElem hj]; exact h _ (List.getElem_mem hj)
  · rw [List.getD_eq_getElem?_getD, List.getElem?_eq_none (by omega)]; simp
theorem and_one_nat : ∀ n, n < 256 → bits .and .i64 (wrap64 ((n : Nat) : Int)) 1 = ((n % 2 : Nat) : Int) := by decide +kernel
theorem and_one {x : Int} (h0 : 0 ≤ x) (h1 : x < 256) : bits .and .i64 (wrap64 x) 1 = x % 2 := by
  obtain ⟨n, rfl⟩ := Int.eq_ofNat_of_zero_le h0
  rw [and_one_nat n (by omega)]; rfl
theorem shr_bd {x : Int} (h0 : 0 ≤ x) (h1 : x < 256) (p : Nat) : 0 ≤ x / 2 ^ p ∧ x / 2 ^ p < 256 := by
  have hp : (0 : Int) < 2 ^ p := Int.pow_pos (by decide)
  refine ⟨Int.ediv_nonneg h0 (by omega), Int.lt_of_le_of_lt (Int.ediv_le_self _ h0) h1⟩
theorem bitK_01 (k : List Int) (i : Nat) : bitK k i = 0 ∨ bitK k i = 1 := by unfold bitK; omega
set_option maxRecDepth 100000 in
set_option maxHeartbeats 400000 in
theorem Bit_in (w : World) (k : List Int) (hk : k.length = 32) (hb : Byts k) (i : Nat) (hi : i < 256) :
    Calls Try.prog 10 #[.agg (ints .u8 k).toArray, .int .i64 i] w fun e w' => e = .returned (.int .i64 (bitK k i)) ∧ Below w.heap.size w w' := by
  have i1 : (i : Int) < 256 := by omega
  have hx := hb.get (i / 8)
  go_enter Try.func10, Try.ntmps10
  have c0 : (w.alloc (.cells (ints .u8 k).toArray 24)).cell? ⟨w.heap.size, i / 8, none⟩ = some (.int .u8 (k.getD (i / 8) 0)) := cell_ints (hnew w _) (i / 8) (by omega)
  go_wp2
  go_ret
  refine ⟨?_, (Below.refl _ _).alloc (Nat.le_refl _) _⟩
  simp only [List.getD_eq_getElem?_getD] at hx
  have hs := shr_bd hx.1 hx.2 (7 - i % 8)
  have := and_one hs.1 hs.2
  simp only [Array.getD]
  exact congrArg (fun z => Ending.returned (Value.int .i64 z)) (by rw [this]; simp [bitK])
set_option maxRecDepth 100000 in
set_option maxHeartbeats 400000 in
theorem Bit_out (w : World) (k : List Int) (hk : k.length = 32) (i : Int) (hi : i < 0 ∨ 256 ≤ i) :
    Calls Try.prog 10 #[.agg (ints .u8 k).toArray, .int .i64 i] w fun e w' => e = .returned (.int .i64 0) ∧ Below w.heap.size w w' := by
  rcases hi with hi | hi
  · go_enter Try.func10, Try.ntmps10
    go_wp2
    go_ret
    exact ⟨rfl, (Below.refl _ _).alloc (Nat.le_refl _) _⟩
  · have hi2 : ¬ i < 0 := by omega
    go_enter Try.func10, Try.ntmps10
    go_wp2
    go_ret
    exact ⟨rfl, (Below.refl _ _).alloc (Nat.le_refl _) _⟩
/-! The bits of two bytes. -/
def lz8 (z : Nat) : Nat := if z = 0 then 8 else 7 - z.log2
theorem lz8_one : ∀ z, z < 256 → z ≠ 0 → lz8 z < 8 ∧ z.testBit (7 - lz8 z) = true ∧ ∀ p, p < lz8 z → z.testBit (7 - p) = false := by decide +kernel
theorem bit_mod (x m : Nat) : x / 2 ^ m % 2 = (x.testBit m).toNat := (Nat.toNat_testBit x m).symm
theorem lt_of_bit {x y : Nat} (m : Nat) (hx : x.testBit m = false) (hy : y.testBit m = true) (h : ∀ j, m < j → x.testBit j = y.testBit j) : x < y := by
  have e : x / 2 ^ (m + 1) = y / 2 ^ (m + 1) := Nat.eq_of_testBit_eq fun i => by
    rw [Nat.testBit_div_two_pow, Nat.testBit_div_two_pow]; exact h _ (by omega)
  have bx := bit_mod x m
  have by' := bit_mod y m
  rw [hx] at bx
  rw [hy] at by'
  rw [Nat.pow_succ, ← Nat.div_div_eq_div_mul, ← Nat.div_div_eq_div_mul] at e
  simp at bx by'
  refine Nat.lt_of_not_le fun hle => ?_
  have := Nat.div_le_div_right (c := 2 ^ m) hle
  omega
theorem lz8_two {x y : Nat} (hx : x < 256) (hy : y < 256) (hne : x ≠ y) : lz8 (x ^^^ y) < 8 ∧ x.testBit (7 - lz8 (x ^^^ y)) ≠ y.testBit (7 - lz8 (x ^^^ y)) ∧ (∀ p, p < lz8 (x ^^^ y) → x.testBit (7 - p) = y.testBit (7 - p)) ∧ (x < y ↔ x.testBit (7 - lz8 (x ^^^ y)) = false) := by
  have hz : x ^^^ y < 256 := Nat.xor_lt_two_pow (n := 8) hx hy
  have hz0 : x ^^^ y ≠ 0 := fun h => hne (by
    have : (x ^^^ y) ^^^ y = x := by rw [Nat.xor_assoc, Nat.xor_self, Nat.xor_zero]
    rw [h, Nat.zero_xor] at this; exact this.symm)
  obtain ⟨h1, h2, h3⟩ := lz8_one _ hz hz0
  generalize hl : lz8 (x ^^^ y) = l at *
  have h2' : x.testBit (7 - l) ≠ y.testBit (7 - l) := by rw [Nat.testBit_xor] at h2; simpa using h2
  have h3' : ∀ p, p < l → x.testBit (7 - p) = y.testBit (7 - p) := fun p hp => by have := h3 p hp; rw [Nat.testBit_xor] at this; simpa using this
  have big : ∀ {x : Nat}, x < 256 → ∀ j, 8 ≤ j → x.testBit j = false := fun hx j hj => Nat.testBit_lt_two_pow (Nat.lt_of_lt_of_le hx (Nat.pow_le_pow_right (n := 2) (i := 8) (by decide) hj))
  have up : ∀ j, 7 - l < j → x.testBit j = y.testBit j := fun j hj => by
    by_cases h8 : j < 8
    · have := h3' (7 - j) (by omega); rwa [show 7 - (7 - j) = j by omega] at this
    · rw [big hx j (by omega), big hy j (by omega)]
  refine ⟨h1, h2', h3', ?_, ?_⟩
  · intro hlt
    cases hb : x.testBit (7 - l) with
    | false => rfl
    | true =>
      have hy' : y.testBit (7 - l) = false := by cases h : y.testBit (7 - l) with | false => rfl | true => rw [hb, h] at h2'; exact absurd rfl h2'
      have := lt_of_bit (7 - l) hy' hb (fun j hj => (up j hj).symm)
      omega
  · intro hb
    have hy' : y.testBit (7 - l) = true := by cases h : y.testBit (7 - l) with | true => rfl | false => rw [hb, h] at h2'; exact absurd rfl h2'
    exact lt_of_bit (7 - l) hb hy' up
set_option maxRecDepth 100000 in
set_option maxHeartbeats 400000 in
theorem lz8_any (w : World) (x : Nat) (hx : x < 256) :
    Calls Try.prog 35 #[.int .u8 x] w fun e w' => e = .returned (.int .i64 (lz8 x)) ∧ w' = w := by
  go_enter Try.func35, Try.ntmps35
  go_wp2
  go_ret
  refine ⟨congrArg (fun z => Ending.returned (Value.int .i64 z)) ?_, rfl⟩
  clear w
  revert x
  decide +kernel
end Go.Proofs.Ytcifbnldohmbnaa
