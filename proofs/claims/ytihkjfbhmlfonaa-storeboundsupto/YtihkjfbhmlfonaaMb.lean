import Derived.Test.YtihkjfbhmlfonaaMa
namespace Go.Proofs.Ytihkjfbhmlfonaa
set_option linter.unusedVariables false
set_option linter.unusedSimpArgs false

/-! A text of four bytes at the end. -/
theorem split256 (r : Nat) : r = (256 * (r >>> 8)) ^^^ (r % 256) := by
  apply Nat.eq_of_testBit_eq
  intro i
  have e : 256 * (r >>> 8) = 2 ^ 8 * (r >>> 8) := by omega
  have e2 := Nat.testBit_mod_two_pow r 8 i
  rw [show (2 : Nat) ^ 8 = 256 by decide] at e2
  rw [e, Nat.testBit_xor, Nat.testBit_two_pow_mul, e2, Nat.testBit_shiftRight]
  by_cases h : i < 8
  · have h2 : ¬ i ≥ 8 := by omega
    simp [h, h2]
  · have h2 : i ≥ 8 := by omega
    simp [h, h2, show 8 + (i - 8) = i by omega]
theorem step8_256 (m : Nat) : stepN 8 (256 * m) = m := by
  rw [show 256 * m = 2 * (2 * (2 * (2 * (2 * (2 * (2 * (2 * m))))))) by omega]
  simp [stepN, step_even]
/-- The number that bytes make, the lowest first. -/
def le : List Int → Nat
  | [] => 0
  | y :: l => y.toNat + 256 * le l
theorem feed_le (l : List Int) : ∀ (h : Byts l) r, feed r l = stepN (8 * l.length) (r ^^^ le l) := by
  induction l with
  | nil => intro _ r; simp [feed, le, stepN]
  | cons y l ih =>
    intro h r
    have hy := h y (by simp)
    rw [feed, ih (fun x hx => h x (by simp [hx])), le]
    have e : y.toNat + 256 * le l = 256 * le l ^^^ y.toNat := by
      have := split256 (y.toNat + 256 * le l)
      rw [Nat.shiftRight_eq_div_pow, show (y.toNat + 256 * le l) / 2 ^ 8 = le l by omega, show (y.toNat + 256 * le l) % 256 = y.toNat by omega] at this
      exact this
    rw [e, show 8 * (y :: l).length = 8 + 8 * l.length by simp; omega, stepN_add]
    congr 1
    conv => lhs; rw [← step8_256 (le l)]
    rw [← stepN_xor]
    congr 1
    rw [Nat.xor_assoc, Nat.xor_comm y.toNat]
def CR : Nat := stepN 32 ones
theorem ones_lt : ones < 4294967296 := Nat.lt_succ_self _
theorem xor_ones {a b c : Nat} : a ^^^ b = c ↔ c ^^^ a = b := by
  constructor
  · intro h; rw [← h, Nat.xor_comm a b, Nat.xor_assoc, Nat.xor_self, Nat.xor_zero]
  · intro h; rw [← h, Nat.xor_comm, Nat.xor_assoc, Nat.xor_self, Nat.xor_zero]
theorem xz (o : Nat) : o ^^^ 0 = o := Nat.xor_zero o
theorem inv_zero : inv 0 = ones := by rw [inv, xz]
theorem sumF_feed (l : List Int) : sumF l = ones ^^^ feed ones l := by
  rw [sumF, updF, inv_zero, inv]
theorem whole_iff (xs : List Int) (y0 y1 y2 y3 : Int) (hx : Byts xs) (hy : Byts [y0, y1, y2, y3]) :
    feed ones (xs ++ [y0, y1, y2, y3]) = CR ↔ sumF xs = le [y0, y1, y2, y3] := by
  have h0 := hy y0 (by simp)
  have h1 := hy y1 (by simp)
  have h2 := hy y2 (by simp)
  have h3 := hy y3 (by simp)
  have hl : le [y0, y1, y2, y3] < 4294967296 := by simp only [le]; omega
  rw [feed_append, feed_le _ hy, sumF_feed]
  have hf := feed_lt xs hx ones ones_lt
  generalize feed ones xs = R at *
  generalize le [y0, y1, y2, y3] = V at *
  rw [show 8 * [y0, y1, y2, y3].length = 32 by rfl]
  rw [← xor_ones]
  constructor
  · intro h; exact stepN_inj 32 _ _ (xor_lt hf hl) ones_lt h
  · intro h; rw [h]; rfl

/-! One bit turned. -/
theorem one_bit : ∀ j, j < 8 → stepN 8 (2 ^ j) = stepN (8 - j) 1 := by decide
theorem feed_turn (pre post : List Int) (b c : Int) (j : Nat) (hj : j < 8) (hc : c.toNat = b.toNat ^^^ 2 ^ j) (r : Nat) :
    feed r (pre ++ c :: post) = feed r (pre ++ b :: post) ^^^ stepN (8 * (pre ++ b :: post).length - (8 * pre.length + j)) 1 := by
  rw [feed_append, feed_append, feed, feed, hc, ← Nat.xor_assoc, stepN_xor, Nat.xor_comm (stepN 8 (feed r pre ^^^ b.toNat)), feed_zeros, Nat.xor_comm]
  congr 1
  rw [one_bit j hj, ← stepN_add]
  congr 1
  simp
  omega
/-- Bit k of a text, turned. -/
def turnB (l : List Int) (k : Nat) : List Int := l.set (k / 8) (((l.getD (k / 8) 0).toNat ^^^ 2 ^ (k % 8) : Nat) : Int)
theorem turnB_len (l : List Int) (k : Nat) : (turnB l k).length = l.length := by simp [turnB]
theorem pow8_lt {j : Nat} (h : j < 8) : 2 ^ j < 256 := (Nat.pow_lt_pow_iff_right (a := 2) (n := j) (m := 8) (by decide)).2 h
theorem turnB_byts {l : List Int} (h : Byts l) (k : Nat) : Byts (turnB l k) := fun x hx => by
  unfold turnB at hx
  by_cases hk : k / 8 < l.length
  · rcases List.mem_or_eq_of_mem_set hx with h1 | h1
    · exact h x h1
    · have hb : 0 ≤ l.getD (k / 8) 0 ∧ l.getD (k / 8) 0 < 256 := by
        rw [List.getD_eq_getElem?_getD, List.getElem?_eq_getElem hk]; exact h _ (List.getElem_mem hk)
      have : (l.getD (k / 8) 0).toNat ^^^ 2 ^ (k % 8) < 256 := Nat.xor_lt_two_pow (n := 8) (by omega) (pow8_lt (by omega))
      rw [h1]; omega
  · rw [List.set_eq_of_length_le (by omega)] at hx; exact h x hx
theorem feed_turnB (l : List Int) (k : Nat) (hk : k < 8 * l.length) (r : Nat) : feed r (turnB l k) = feed r l ^^^ stepN (8 * l.length - k) 1 := by
  have hi : k / 8 < l.length := by omega
  have e1 : l = l.take (k / 8) ++ l[k / 8] :: l.drop (k / 8 + 1) := by
    rw [← List.drop_eq_getElem_cons hi, List.take_append_drop]
  have e2 : turnB l k = l.take (k / 8) ++ (((l.getD (k / 8) 0).toNat ^^^ 2 ^ (k % 8) : Nat) : Int) :: l.drop (k / 8 + 1) := by
    unfold turnB; rw [List.set_eq_take_append_cons_drop, if_pos hi]
  have hg : l.getD (k / 8) 0 = l[k / 8] := by rw [List.getD_eq_getElem?_getD, List.getElem?_eq_getElem hi]; rfl
  rw [e2]
  have := feed_turn (l.take (k / 8)) (l.drop (k / 8 + 1)) l[k / 8] (((l.getD (k / 8) 0).toNat ^^^ 2 ^ (k % 8) : Nat) : Int) (k % 8) (by omega) (by rw [Int.toNat_natCast, hg]) r
  rw [this, ← e1]
  congr 2
  rw [List.length_take, Nat.min_eq_left (by omega)]
  omega
theorem turnB_turnB {l : List Int} (h : Byts l) (k : Nat) : turnB (turnB l k) k = l := by
  by_cases hi : k / 8 < l.length
  · unfold turnB
    rw [List.set_set]
    have hb : 0 ≤ l.getD (k / 8) 0 ∧ l.getD (k / 8) 0 < 256 := by
      rw [List.getD_eq_getElem?_getD, List.getElem?_eq_getElem hi]; exact h _ (List.getElem_mem hi)
    have : (l.set (k / 8) (((l.getD (k / 8) 0).toNat ^^^ 2 ^ (k % 8) : Nat) : Int)).getD (k / 8) 0 = (((l.getD (k / 8) 0).toNat ^^^ 2 ^ (k % 8) : Nat) : Int) := by
      rw [List.getD_eq_getElem?_getD, List.getElem?_set_self hi]; rfl
    rw [this, Int.toNat_natCast, Nat.xor_assoc, Nat.xor_self, Nat.xor_zero, Int.toNat_of_nonneg hb.1]
    rw [List.getD_eq_getElem?_getD, List.getElem?_eq_getElem hi]
    exact List.set_getElem_self hi
  · unfold turnB
    rw [List.set_eq_of_length_le (by simp; omega), List.set_eq_of_length_le (by omega)]
theorem turnB_comm (l : List Int) (j k : Nat) : turnB (turnB l j) k = turnB (turnB l k) j := by
  by_cases hjk : j / 8 = k / 8
  · unfold turnB
    rw [hjk, List.set_set, List.set_set]
    by_cases hi : k / 8 < l.length
    · rw [List.getD_eq_getElem?_getD, List.getElem?_set_self hi, List.getD_eq_getElem?_getD (l := l.set _ _), List.getElem?_set_self hi]
      simp only [Option.getD_some, Int.toNat_natCast]
      rw [Nat.xor_assoc, Nat.xor_assoc, Nat.xor_comm (2 ^ (j % 8))]
    · rw [List.set_eq_of_length_le (by omega), List.set_eq_of_length_le (by omega)]
  · unfold turnB
    rw [List.getD_eq_getElem?_getD (l := l.set _ _), List.getElem?_set_ne hjk, List.getD_eq_getElem?_getD (l := l.set (k / 8) _), List.getElem?_set_ne (Ne.symm hjk), ← List.getD_eq_getElem?_getD, ← List.getD_eq_getElem?_getD]
    exact List.set_comm _ _ hjk
/-- A register with one bit, n bits ago. -/
def vb (n : Nat) : Nat := stepN n 1
theorem vb_lt (n : Nat) : vb n < 4294967296 := stepN_lt _ _ (by decide)
theorem vb_ne (n : Nat) : vb n ≠ 0 := fun h => absurd (stepN_eq_zero n 1 (by decide) h) (by decide)

/-! The order of x. -/
theorem per_mod (m n : Nat) (hm : stepN m 2147483648 = 2147483648) (hn : stepN n 2147483648 = 2147483648) : stepN (m % n) 2147483648 = 2147483648 := by
  have hq : ∀ q, stepN (n * q) 2147483648 = 2147483648 := by
    intro q
    induction q with
    | zero => rfl
    | succ q ih => rw [Nat.mul_succ, stepN_add, ih, hn]
  have := hm
  rw [← Nat.div_add_mod m n, stepN_add, hq] at this
  exact this
theorem per_gcd (m n : Nat) : stepN m 2147483648 = 2147483648 → stepN n 2147483648 = 2147483648 → stepN (Nat.gcd m n) 2147483648 = 2147483648 := by
  induction m, n using Nat.gcd.induction with
  | H0 n => intro _ h; rw [Nat.gcd_zero_left]; exact h
  | H1 m n hm ih => intro h1 h2; rw [Nat.gcd_rec]; exact ih (per_mod n m h2 h1) h1
theorem pr (q : Nat) (h : ∀ x, x < 257 → 1 < x → x * x ≤ q → q % x ≠ 0) (hq : q < 66049) (x : Nat) (hx : x ∣ q) (h0 : 0 < q) : x = 1 ∨ x = q := by
  obtain ⟨y, rfl⟩ := hx
  by_cases h1 : x = 1
  · exact Or.inl h1
  by_cases h2 : y = 1
  · right; rw [h2, Nat.mul_one]
  exfalso
  have hx0 : 0 < x := Nat.pos_of_mul_pos_right h0
  have hy0 : 0 < y := Nat.pos_of_mul_pos_left h0
  rcases Nat.le_total x y with hxy | hxy
  · have hs : x * x ≤ x * y := Nat.mul_le_mul_left x hxy
    have : x < 257 := by
      rcases Nat.lt_or_ge x 257 with h | h
      · exact h
      · exfalso; have := Nat.mul_le_mul h h; omega
    exact h x this (by omega) hs (Nat.mul_mod_right x y)
  · have hs : y * y ≤ x * y := Nat.mul_le_mul_right y hxy
    have : y < 257 := by
      rcases Nat.lt_or_ge y 257 with h | h
      · exact h
      · exfalso; have := Nat.mul_le_mul h h; omega
    exact h y this (by omega) hs (Nat.mul_mod_left x y)
theorem cop (q h : Nat) (hp : ∀ x, x ∣ q → x = 1 ∨ x = q) (hd : ¬ q ∣ h) : Nat.Coprime h q := by
  rcases hp (Nat.gcd h q) (Nat.gcd_dvd_right h q) with e | e
  · exact e
  · exact absurd (e ▸ Nat.gcd_dvd_left h q) hd
theorem chkP (q : Nat) (h : ((List.range 257).all fun x => !(decide (1 < x) && decide (x * x ≤ q) && decide (q % x = 0))) = true) : ∀ x, x < 257 → 1 < x → x * x ≤ q → q % x ≠ 0 := fun x hx h1 h2 h3 => by
  have := List.all_eq_true.1 h x (List.mem_range.2 hx)
  simp [h1, h2, h3] at this
theorem some_q (h : Nat) (h1 : h ≠ 1) (hd : h ∣ 4294967295) : 3 ∣ h ∨ 5 ∣ h ∨ 17 ∣ h ∨ 257 ∣ h ∨ 65537 ∣ h := by
  by_cases c3 : 3 ∣ h
  · exact Or.inl c3
  by_cases c5 : 5 ∣ h
  · exact Or.inr (Or.inl c5)
  by_cases c17 : 17 ∣ h
  · exact Or.inr (Or.inr (Or.inl c17))
  by_cases c257 : 257 ∣ h
  · exact Or.inr (Or.inr (Or.inr (Or.inl c257)))
  by_cases c65537 : 65537 ∣ h
  · exact Or.inr (Or.inr (Or.inr (Or.inr c65537)))
  exfalso
  have k3 := cop 3 h (fun x hx => pr 3 (chkP 3 (by decide +kernel)) (by decide) x hx (by decide)) c3
  have k5 := cop 5 h (fun x hx => pr 5 (chkP 5 (by decide +kernel)) (by decide) x hx (by decide)) c5
  have k17 := cop 17 h (fun x hx => pr 17 (chkP 17 (by decide +kernel)) (by decide) x hx (by decide)) c17
  have k257 := cop 257 h (fun x hx => pr 257 (chkP 257 (by decide +kernel)) (by decide) x hx (by decide)) c257
  have k65537 := cop 65537 h (fun x hx => pr 65537 (chkP 65537 (by decide +kernel)) (by decide) x hx (by decide)) c65537
  rw [show 4294967295 = 3 * 5 * 17 * 257 * 65537 by decide] at hd
  have d1 := Nat.Coprime.dvd_of_dvd_mul_right k65537 hd
  have d2 := Nat.Coprime.dvd_of_dvd_mul_right k257 d1
  have d3 := Nat.Coprime.dvd_of_dvd_mul_right k17 d2
  have d4 := Nat.Coprime.dvd_of_dvd_mul_right k5 d3
  have d5 : h ∣ 1 := Nat.Coprime.dvd_of_dvd_mul_right k3 (by simpa using d4)
  exact h1 (Nat.dvd_one.1 d5)
theorem stepN_pow2' (k r : Nat) (hr : r < 4294967296) : stepN (2 ^ k) r = times r (pw k) := by rw [pw_eq, times_stepN r hr]
/-- A power, by the binary digits of n. -/
def stepB (r : Nat) : List Nat → Nat
  | [] => r
  | k :: ks => stepB (times r (pw k)) ks
def sumB : List Nat → Nat
  | [] => 0
  | k :: ks => 2 ^ k + sumB ks
theorem stepB_eq (ks : List Nat) : ∀ r, r < 4294967296 → stepN (sumB ks) r = stepB r ks := by
  induction ks with
  | nil => intro r _; rfl
  | cons k ks ih =>
    intro r hr
    rw [sumB, stepN_add, stepN_pow2' k r hr, stepB]
    exact ih _ (by rw [← stepN_pow2' k r hr]; exact stepN_lt _ _ hr)
def digs (n : Nat) : List Nat := (List.range 32).filter fun k => n >>> k % 2 == 1
theorem not_per (n : Nat) (h : sumB (digs n) = n) (h2 : stepB 2147483648 (digs n) ≠ 2147483648) : stepN n 2147483648 ≠ 2147483648 := by
  rw [← stepB_eq (digs n) _ (by decide), h] at h2
  exact h2
theorem prim (m : Nat) (h0 : 0 < m) (hm : m < 4294967295) : stepN m 2147483648 ≠ 2147483648 := by
  intro hp
  have hg := per_gcd m 4294967295 hp (round1 _ (by decide))
  have hgm : Nat.gcd m 4294967295 ≤ m := Nat.gcd_le_left _ h0
  obtain ⟨h, hh⟩ := Nat.gcd_dvd_right m 4294967295
  generalize Nat.gcd m 4294967295 = g at *
  have hper : ∀ k, stepN (g * k) 2147483648 = 2147483648 := by
    intro k
    induction k with
    | zero => rfl
    | succ k ih => rw [Nat.mul_succ, stepN_add, ih, hg]
  have h1 : h ≠ 1 := by rintro rfl; omega
  rcases some_q h h1 ⟨g, by rw [hh, Nat.mul_comm]⟩ with ⟨c, rfl⟩ | ⟨c, rfl⟩ | ⟨c, rfl⟩ | ⟨c, rfl⟩ | ⟨c, rfl⟩
  · have e : g * c = 1431655765 := by
      have : 3 * (g * c) = 4294967295 := by rw [hh, Nat.mul_left_comm]
      omega
    exact not_per 1431655765 (by decide +kernel) (by decide +kernel) (e ▸ hper c)
  · have e : g * c = 858993459 := by
      have : 5 * (g * c) = 4294967295 := by rw [hh, Nat.mul_left_comm]
      omega
    exact not_per 858993459 (by decide +kernel) (by decide +kernel) (e ▸ hper c)
  · have e : g * c = 252645135 := by
      have : 17 * (g * c) = 4294967295 := by rw [hh, Nat.mul_left_comm]
      omega
    exact not_per 252645135 (by decide +kernel) (by decide +kernel) (e ▸ hper c)
  · have e : g * c = 16711935 := by
      have : 257 * (g * c) = 4294967295 := by rw [hh, Nat.mul_left_comm]
      omega
    exact not_per 16711935 (by decide +kernel) (by decide +kernel) (e ▸ hper c)
  · have e : g * c = 65535 := by
      have : 65537 * (g * c) = 4294967295 := by rw [hh, Nat.mul_left_comm]
      omega
    exact not_per 65535 (by decide +kernel) (by decide +kernel) (e ▸ hper c)
theorem one31 : (1 : Nat) = stepN 31 2147483648 := by decide +kernel
theorem vb_eq (n : Nat) : vb n = stepN (31 + n) 2147483648 := by rw [vb, one31, ← stepN_add]
theorem pow_inj (a b : Nat) (h : stepN a 2147483648 = stepN b 2147483648) (ha : a < b) (hb : b < a + 4294967295) : False := by
  have : stepN a (stepN (b - a) 2147483648) = stepN a 2147483648 := by
    rw [← stepN_add, h]; congr 1; omega
  exact prim (b - a) (by omega) (by omega) (stepN_inj a _ _ (stepN_lt _ _ (by decide)) (by decide) this)
theorem vb_inj (a b : Nat) (ha : a < 4294967295) (hb : b < 4294967295) (h : vb a = vb b) : a = b := by
  rw [vb_eq, vb_eq] at h
  rcases Nat.lt_trichotomy a b with c | c | c
  · exact (pow_inj _ _ h (by omega) (by omega)).elim
  · exact c
  · exact (pow_inj _ _ h.symm (by omega) (by omega)).elim
end Go.Proofs.Ytihkjfbhmlfonaa
