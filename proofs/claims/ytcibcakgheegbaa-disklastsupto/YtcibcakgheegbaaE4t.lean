import Derived.Test.YtcibcakgheegbaaE4s
namespace Go.Proofs.Ytcibcakgheegbaa
set_option linter.unusedVariables false
set_option linter.unusedSimpArgs false
open Go.RowKit

/-! Single bits of a list of bytes. -/
def bitAt (img : List Int) (n : Nat) : Bool := ((img.getD (n / 8) 0).toNat).testBit (n % 8)
theorem byte_nat {zs : List Int} (h : Bts zs) (j : Nat) : ∃ a : Nat, zs.getD j 0 = (a : Int) ∧ a < 256 := ⟨(zs.getD j 0).toNat, by have := h.get j; omega, by have := h.get j; omega⟩
theorem bits_ext {a b : List Int} (ha : Bts a) (hb : Bts b) (hl : a.length = b.length) (h : ∀ n, bitAt a n = bitAt b n) : a = b := by
  apply list_ext0 hl
  intro j _
  obtain ⟨x, hx, x8⟩ := byte_nat ha j
  obtain ⟨y, hy, y8⟩ := byte_nat hb j
  rw [hx, hy]
  have e : x = y := by
    apply Nat.eq_of_testBit_eq
    intro i
    by_cases hi : i < 8
    · have := h (8 * j + i)
      unfold bitAt at this
      rw [show (8 * j + i) / 8 = j by omega, show (8 * j + i) % 8 = i by omega, hx, hy] at this
      simpa using this
    · rw [Nat.testBit_lt_two_pow (Nat.lt_of_lt_of_le x8 (Nat.pow_le_pow_right (n := 2) (by decide) (show 8 ≤ i by omega))), Nat.testBit_lt_two_pow (Nat.lt_of_lt_of_le y8 (Nat.pow_le_pow_right (n := 2) (by decide) (show 8 ≤ i by omega)))]
  rw [e]
theorem flipTo_bit {img : List Int} (h : Bts img) (q bit pat : Nat) (i : Nat) (hl : q * 2048 + bit + i ≤ 8 * img.length) (n : Nat) : bitAt (flipTo img q bit pat i) n = (bitAt img n ^^ (decide (q * 2048 + bit ≤ n ∧ n < q * 2048 + bit + i) && pat.testBit (n - (q * 2048 + bit)))) := by
  induction i with
  | zero =>
    have : ¬ (q * 2048 + bit ≤ n ∧ n < q * 2048 + bit + 0) := by omega
    rw [decide_eq_false this]; simp [flipTo]
  | succ i ih =>
    replace ih := ih (by omega)
    have hB := flipTo_bts h q bit pat i
    have hlen := flipTo_len img q bit pat i
    unfold flipTo
    split
    · rename_i hp
      obtain ⟨a, ha, a8⟩ := byte_nat hB (q * 256 + (bit + i) / 8)
      have r8 : (bit + i) % 8 < 8 := Nat.mod_lt _ (by decide)
      have p8 : 2 ^ ((bit + i) % 8) < 256 := Nat.lt_of_lt_of_le (Nat.pow_lt_pow_right (a := 2) (by decide) r8) (by decide)
      rw [ha, xor_u8 a _ a8 p8]
      unfold bitAt
      rw [getD_set0 _ _ _ _ (by rw [hlen]; omega)]
      by_cases e : n / 8 = q * 256 + (bit + i) / 8
      · rw [if_pos e, Int.toNat_natCast, Nat.testBit_xor, Nat.testBit_two_pow]
        unfold bitAt at ih
        rw [e, ha, Int.toNat_natCast] at ih
        rw [ih]
        by_cases e2 : (bit + i) % 8 = n % 8
        · have hn : n = q * 2048 + bit + i := by omega
          have c1 : ¬ (q * 2048 + bit ≤ n ∧ n < q * 2048 + bit + i) := by omega
          have c2 : q * 2048 + bit ≤ n ∧ n < q * 2048 + bit + (i + 1) := by omega
          rw [decide_eq_false c1, decide_eq_true c2, decide_eq_true e2, show n - (q * 2048 + bit) = i by omega, hp, e]
          cases Nat.testBit (img.getD (q * 256 + (bit + i) / 8) 0).toNat (n % 8) <;> rfl
        · have hn : n ≠ q * 2048 + bit + i := by omega
          have c : (q * 2048 + bit ≤ n ∧ n < q * 2048 + bit + i) ↔ (q * 2048 + bit ≤ n ∧ n < q * 2048 + bit + (i + 1)) := by omega
          have dc : decide (q * 2048 + bit ≤ n ∧ n < q * 2048 + bit + i) = decide (q * 2048 + bit ≤ n ∧ n < q * 2048 + bit + (i + 1)) := decide_eq_decide.2 c
          rw [decide_eq_false e2, dc, e, Bool.xor_false]
      · rw [if_neg e]
        have hn : n ≠ q * 2048 + bit + i := by omega
        have c : (q * 2048 + bit ≤ n ∧ n < q * 2048 + bit + i) ↔ (q * 2048 + bit ≤ n ∧ n < q * 2048 + bit + (i + 1)) := by omega
        unfold bitAt at ih
        rw [ih, decide_eq_decide.2 c]
    · rename_i hp
      rw [ih]
      by_cases hn : n = q * 2048 + bit + i
      · have c1 : ¬ (q * 2048 + bit ≤ n ∧ n < q * 2048 + bit + i) := by omega
        rw [decide_eq_false c1, show n - (q * 2048 + bit) = i by omega]
        simp at hp
        rw [hp]; simp
      · have c : (q * 2048 + bit ≤ n ∧ n < q * 2048 + bit + i) ↔ (q * 2048 + bit ≤ n ∧ n < q * 2048 + bit + (i + 1)) := by omega
        rw [decide_eq_decide.2 c]
theorem flip_twice {img : List Int} (h : Bts img) (q bit pat m : Nat) (hl : q * 2048 + bit + m ≤ 8 * img.length) : flipTo (flipTo img q bit pat m) q bit pat m = img := by
  apply bits_ext (flipTo_bts (flipTo_bts h _ _ _ _) _ _ _ _) h (by rw [flipTo_len, flipTo_len])
  intro n
  rw [flipTo_bit (flipTo_bts h _ _ _ _) _ _ _ _ (by rw [flipTo_len]; exact hl), flipTo_bit h _ _ _ _ hl]
  rw [Bool.xor_assoc, Bool.xor_self, Bool.xor_false]
/-! Counting. -/
def cnt (p : Nat → Bool) : Nat → Nat
  | 0 => 0
  | n + 1 => cnt p n + (if p n then 1 else 0)
theorem cnt_le (p : Nat → Bool) : ∀ n, cnt p n ≤ n
  | 0 => Nat.le_refl _
  | n + 1 => by have := cnt_le p n; unfold cnt; split <;> omega
theorem cnt_congr {p q : Nat → Bool} : ∀ n, (∀ k, k < n → p k = q k) → cnt p n = cnt q n
  | 0, _ => rfl
  | n + 1, h => by rw [cnt, cnt, cnt_congr n (fun k hk => h k (by omega)), h n (by omega)]
theorem cnt_none {p : Nat → Bool} : ∀ n, (∀ k, k < n → p k = false) → cnt p n = 0
  | 0, _ => rfl
  | n + 1, h => by rw [cnt, cnt_none n (fun k hk => h k (by omega)), h n (by omega)]; rfl
theorem cnt_add (p : Nat → Bool) (a : Nat) : ∀ b, cnt p (a + b) = cnt p a + cnt (fun k => p (a + k)) b
  | 0 => rfl
  | b + 1 => by rw [← Nat.add_assoc, cnt, cnt_add p a b, cnt]; omega
theorem cnt_window (q : Nat → Bool) (lo m N : Nat) (h : lo + m ≤ N) : cnt (fun n => decide (lo ≤ n ∧ n < lo + m) && q (n - lo)) N = cnt q m := by
  obtain ⟨r, rfl⟩ : ∃ r, N = lo + (m + r) := ⟨N - lo - m, by omega⟩
  rw [cnt_add, cnt_none lo (fun k hk => by rw [decide_eq_false (by omega)]; rfl), cnt_add, cnt_none r (fun k hk => by rw [decide_eq_false (by omega)]; rfl), cnt_congr (q := q) m (fun k hk => by rw [decide_eq_true (by omega), show lo + k - lo = k by omega, Bool.true_and])]
  omega
/-- How many bits a byte has. -/
def pc (x : Nat) : Nat := cnt (fun s => x.testBit s) 8
theorem pc_step : ∀ x, x < 256 → 0 < x → pc x = pc (x &&& (x - 1)) + 1 ∧ x &&& (x - 1) < x := by decide +kernel
theorem pc_zero : pc 0 = 0 := by decide
theorem and_u8 (a b : Nat) (ha : a < 256) (hb : b < 256) : bits .and .u8 (a : Int) (b : Int) = ((a &&& b : Nat) : Int) := by
  have hx : a &&& b < 2 ^ 8 := Nat.and_lt_two_pow _ (by omega)
  have h1 : (BitVec.ofInt 8 (a : Int)).toNat = a := by
    rw [BitVec.ofInt_natCast, BitVec.toNat_ofNat]; exact Nat.mod_eq_of_lt (by omega)
  have h2 : (BitVec.ofInt 8 (b : Int)).toNat = b := by
    rw [BitVec.ofInt_natCast, BitVec.toNat_ofNat]; exact Nat.mod_eq_of_lt (by omega)
  show IntKind.u8.wrap ((BitVec.ofInt 8 (a : Int) &&& BitVec.ofInt 8 (b : Int)).toNat : Int) = _
  rw [BitVec.toNat_and, h1, h2, IntKind.wrap_u8]
  omega
/-- How many bits of the first n bytes differ. -/
def dif (a b : List Int) (n : Nat) : Nat := cnt (fun k => bitAt a k != bitAt b k) (8 * n)
def xorAt (a b : List Int) (j : Nat) : Nat := (a.getD j 0).toNat ^^^ (b.getD j 0).toNat
theorem dif_succ (a b : List Int) (n : Nat) : dif a b (n + 1) = dif a b n + pc (xorAt a b n) := by
  unfold dif pc
  rw [show 8 * (n + 1) = 8 * n + 8 by omega, cnt_add]
  congr 1
  apply cnt_congr
  intro s hs
  unfold bitAt xorAt
  rw [show (8 * n + s) / 8 = n by omega, show (8 * n + s) % 8 = s by omega, Nat.testBit_xor]
theorem dif_le (a b : List Int) (n : Nat) : dif a b n ≤ 8 * n := cnt_le _ _
theorem xorAt_lt {a b : List Int} (ha : Bts a) (hb : Bts b) (j : Nat) : xorAt a b j < 256 := by
  have h1 := ha.get j
  have h2 := hb.get j
  exact Nat.xor_lt_two_pow (n := 8) (by omega) (by omega)
theorem dif_flip {img : List Int} (h : Bts img) (q bit pat m : Nat) (hl : q * 2048 + bit + m ≤ 8 * img.length) : dif (flipTo img q bit pat m) img img.length = cnt (fun i => pat.testBit i) m := by
  unfold dif
  rw [← cnt_window (fun i => pat.testBit i) (q * 2048 + bit) m (8 * img.length) hl]
  apply cnt_congr
  intro k _
  rw [flipTo_bit h _ _ _ _ hl]
  cases bitAt img k <;> simp
/-- A bit that the pattern names is turned. -/
theorem flip_turns {img : List Int} (h : Bts img) (q bit pat m : Nat) (hl : q * 2048 + bit + m ≤ 8 * img.length) (i : Nat) (hi : i < m) (hp : pat.testBit i = true) : (xorAt (flipTo img q bit pat m) img ((2048 * q + bit + i) / 8)).testBit ((2048 * q + bit + i) % 8) = true := by
  have := flipTo_bit h q bit pat m hl (2048 * q + bit + i)
  rw [decide_eq_true (by omega), show 2048 * q + bit + i - (q * 2048 + bit) = i by omega, hp] at this
  unfold bitAt at this
  unfold xorAt
  rw [Nat.testBit_xor, this]
  cases Nat.testBit (img.getD ((2048 * q + bit + i) / 8) 0).toNat ((2048 * q + bit + i) % 8) <;> rfl
end Go.Proofs.Ytcibcakgheegbaa
