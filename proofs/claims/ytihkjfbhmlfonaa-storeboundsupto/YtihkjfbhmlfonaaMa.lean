import Derived.Test.YtihkjfbhmlfonaaRows
namespace Go.Proofs.Ytihkjfbhmlfonaa
set_option linter.unusedVariables false
set_option linter.unusedSimpArgs false

/-- The polynomial without its highest power, bit 0 the power 31. -/
def poly : Nat := 3988292384
/-- One bit 0 is fed to a register. -/
def step (r : Nat) : Nat := (r >>> 1) ^^^ ((r % 2) * poly)
def stepN : Nat → Nat → Nat
  | 0, r => r
  | n + 1, r => stepN n (step r)

theorem mod2_xor (a b : Nat) : (a ^^^ b) % 2 = (a % 2) ^^^ (b % 2) := by
  have := Nat.xor_mod_two_pow (a := a) (b := b) (n := 1)
  simpa using this
theorem mul_poly_xor (a b : Nat) (ha : a < 2) (hb : b < 2) : (a ^^^ b) * poly = (a * poly) ^^^ (b * poly) := by
  rcases Nat.lt_or_ge a 1 with h | h
  · obtain rfl : a = 0 := by omega
    simp
  · obtain rfl : a = 1 := by omega
    rcases Nat.lt_or_ge b 1 with h | h
    · obtain rfl : b = 0 := by omega
      simp
    · obtain rfl : b = 1 := by omega
      simp
theorem xor4 (a b c d : Nat) : (a ^^^ b) ^^^ (c ^^^ d) = (a ^^^ c) ^^^ (b ^^^ d) := by
  rw [Nat.xor_assoc, Nat.xor_assoc, ← Nat.xor_assoc b c d, Nat.xor_comm b c, Nat.xor_assoc c b d]
theorem step_xor (a b : Nat) : step (a ^^^ b) = step a ^^^ step b := by
  unfold step
  rw [Nat.shiftRight_xor_distrib, mod2_xor, mul_poly_xor _ _ (Nat.mod_lt _ (by decide)) (Nat.mod_lt _ (by decide)), xor4]
theorem stepN_xor (n : Nat) : ∀ a b, stepN n (a ^^^ b) = stepN n a ^^^ stepN n b := by
  induction n with
  | zero => intros; rfl
  | succ n ih => intro a b; rw [stepN, step_xor, ih]; rfl
theorem step_zero : step 0 = 0 := by decide
theorem stepN_zero (n : Nat) : stepN n 0 = 0 := by
  induction n with
  | zero => rfl
  | succ n ih => rw [stepN, step_zero, ih]
theorem stepN_add (n : Nat) : ∀ m a, stepN (n + m) a = stepN m (stepN n a) := by
  induction n with
  | zero => intro m a; rw [Nat.zero_add]; rfl
  | succ n ih => intro m a; rw [Nat.succ_add, stepN, ih]; rfl
theorem stepN_succ' (n a : Nat) : stepN (n + 1) a = step (stepN n a) := by rw [stepN_add]; rfl
theorem stepN_comm (n m a : Nat) : stepN n (stepN m a) = stepN m (stepN n a) := by rw [← stepN_add, ← stepN_add, Nat.add_comm]
theorem step_lt (r : Nat) (h : r < 4294967296) : step r < 4294967296 := by
  unfold step
  refine Nat.xor_lt_two_pow (n := 32) ?_ ?_
  · rw [Nat.shiftRight_eq_div_pow]; omega
  · have : r % 2 < 2 := Nat.mod_lt _ (by decide)
    unfold poly; omega
theorem stepN_lt (n : Nat) : ∀ r, r < 4294967296 → stepN n r < 4294967296 := by
  induction n with
  | zero => intro r h; exact h
  | succ n ih => intro r h; exact ih _ (step_lt r h)
theorem step_eq_zero (r : Nat) (h : r < 4294967296) (h0 : step r = 0) : r = 0 := by
  have hb : (step r).testBit 31 = false := by rw [h0]; simp
  unfold step at hb h0
  rw [Nat.testBit_xor, Nat.testBit_shiftRight, Nat.testBit_lt_two_pow (i := 1 + 31) (by omega), Bool.false_xor] at hb
  have h2 : r % 2 = 0 := by
    rcases Nat.mod_two_eq_zero_or_one r with e | e
    · exact e
    · rw [e] at hb; exact absurd hb (by decide)
  rw [h2, Nat.zero_mul, Nat.xor_zero, Nat.shiftRight_eq_div_pow] at h0
  omega
theorem stepN_eq_zero (n : Nat) : ∀ r, r < 4294967296 → stepN n r = 0 → r = 0 := by
  induction n with
  | zero => intro r _ h; exact h
  | succ n ih => intro r h h0; exact step_eq_zero r h (ih _ (step_lt r h) h0)
theorem xor_eq_zero {a b : Nat} (h : a ^^^ b = 0) : a = b := by
  have : a ^^^ b ^^^ b = b := by rw [h, Nat.zero_xor]
  rw [Nat.xor_assoc, Nat.xor_self, Nat.xor_zero] at this
  exact this
theorem xor_lt {a b : Nat} (ha : a < 4294967296) (hb : b < 4294967296) : a ^^^ b < 4294967296 := Nat.xor_lt_two_pow (n := 32) ha hb
theorem stepN_inj (n a b : Nat) (ha : a < 4294967296) (hb : b < 4294967296) (h : stepN n a = stepN n b) : a = b :=
  xor_eq_zero (stepN_eq_zero n _ (xor_lt ha hb) (by rw [stepN_xor, h, Nat.xor_self]))

/-- The sum of f over the bits of r below m. -/
def passTo (f : Nat → Nat) (r : Nat) : Nat → Nat
  | 0 => 0
  | m + 1 => passTo f r m ^^^ ((r >>> m % 2) * f m)
theorem mod_pow_succ_xor (r m : Nat) : r % 2 ^ (m + 1) = (r % 2 ^ m) ^^^ ((r >>> m % 2) * 2 ^ m) := by
  apply Nat.eq_of_testBit_eq
  intro i
  rw [Nat.testBit_xor, Nat.testBit_mod_two_pow, Nat.testBit_mod_two_pow, Nat.mul_comm, Nat.testBit_two_pow_mul]
  rcases Nat.lt_trichotomy i m with h | h | h
  · have h1 : i < m + 1 := by omega
    have h2 : ¬ i ≥ m := by omega
    simp [h, h1, h2]
  · subst h
    have : (r >>> i % 2).testBit 0 = r.testBit i := by
      have e : (r >>> i % 2).testBit 0 = (r >>> i).testBit 0 := by
        have := Nat.testBit_mod_two_pow (r >>> i) 1 0
        simp
      rw [e, Nat.testBit_shiftRight, Nat.add_zero]
    simp [this]
  · have h1 : ¬ i < m + 1 := by omega
    have h2 : ¬ i < m := by omega
    have h3 : i ≥ m := by omega
    have h4 : (r >>> m % 2).testBit (i - m) = false := by
      have := Nat.testBit_mod_two_pow (r >>> m) 1 (i - m)
      have h5 : ¬ i - m < 1 := by omega
      simpa [h5] using this
    simp [h1, h2, h3, h4]
/-- A sum-keeping function is known by its values at the powers of two. -/
theorem passTo_lin (f : Nat → Nat) (hx : ∀ a b, f (a ^^^ b) = f a ^^^ f b) (r : Nat) : ∀ m, passTo (fun i => f (2 ^ i)) r m = f (r % 2 ^ m) := by
  have h0 : f 0 = 0 := by have := hx 0 0; rw [Nat.xor_self] at this; rw [Nat.xor_self] at this; exact this
  intro m
  induction m with
  | zero => rw [passTo, Nat.pow_zero, Nat.mod_one, h0]
  | succ m ih =>
    rw [passTo, ih, mod_pow_succ_xor, hx]
    congr 1
    rcases Nat.mod_two_eq_zero_or_one (r >>> m) with e | e
    · rw [e, Nat.zero_mul, Nat.zero_mul, h0]
    · rw [e, Nat.one_mul, Nat.one_mul]
theorem passTo_congr {f g : Nat → Nat} (r : Nat) : ∀ m, (∀ i, i < m → f i = g i) → passTo f r m = passTo g r m := by
  intro m
  induction m with
  | zero => intro _; rfl
  | succ m ih => intro h; rw [passTo, passTo, ih (fun i hi => h i (by omega)), h m (by omega)]
theorem lin_ext (f g : Nat → Nat) (hf : ∀ a b, f (a ^^^ b) = f a ^^^ f b) (hg : ∀ a b, g (a ^^^ b) = g a ^^^ g b)
    (h : ∀ i, i < 32 → f (2 ^ i) = g (2 ^ i)) (r : Nat) (hr : r < 4294967296) : f r = g r := by
  have e1 := passTo_lin f hf r 32
  have e2 := passTo_lin g hg r 32
  rw [show r % 2 ^ 32 = r from Nat.mod_eq_of_lt hr] at e1 e2
  rw [← e1, ← e2]
  exact passTo_congr r 32 h

/-- Half a byte by the table. -/
def hTab : List Nat := [0, 0x1DB71064, 0x3B6E20C8, 0x26D930AC, 0x76DC4190, 0x6B6B51F4, 0x4DB26158, 0x5005713C, 0xEDB88320, 0xF00F9344, 0xD6D6A3E8, 0xCB61B38C, 0x9B64C2B0, 0x86D3D2D4, 0xA00AE278, 0xBDBDF21C]
theorem hTab_lt : ∀ j, j < 16 → hTab.getD j 0 < 4294967296 := by decide
theorem hTab_step : ∀ j, j < 16 → hTab.getD j 0 = stepN 4 j := by decide
theorem step_even (m : Nat) : step (2 * m) = m := by
  unfold step
  rw [Nat.mul_mod_right, Nat.zero_mul, Nat.xor_zero, Nat.shiftRight_eq_div_pow]
  omega
theorem split16 (r : Nat) : r = (2 * (2 * (2 * (2 * (r >>> 4))))) ^^^ (r % 16) := by
  apply Nat.eq_of_testBit_eq
  intro i
  have e : 2 * (2 * (2 * (2 * (r >>> 4)))) = 2 ^ 4 * (r >>> 4) := by omega
  have e2 := Nat.testBit_mod_two_pow r 4 i
  rw [show (2 : Nat) ^ 4 = 16 by decide] at e2
  rw [e, Nat.testBit_xor, Nat.testBit_two_pow_mul, e2, Nat.testBit_shiftRight]
  by_cases h : i < 4
  · have h2 : ¬ i ≥ 4 := by omega
    simp [h, h2]
  · have h2 : i ≥ 4 := by omega
    simp [h, h2, show 4 + (i - 4) = i by omega]
theorem half_step (r : Nat) : (r >>> 4) ^^^ hTab.getD (r % 16) 0 = stepN 4 r := by
  conv => rhs; rw [split16 r, stepN_xor]
  rw [hTab_step _ (Nat.mod_lt _ (by decide))]
  congr 1
  simp [stepN, step_even]

/-- A register is fed a text. -/
def feed (r : Nat) : List Int → Nat
  | [] => r
  | b :: l => feed (stepN 8 (r ^^^ b.toNat)) l
theorem feed_append (l m : List Int) : ∀ r, feed r (l ++ m) = feed (feed r l) m := by
  induction l with
  | nil => intro r; rfl
  | cons b l ih => intro r; exact ih _
/-- A text of bytes. -/
def Byts (l : List Int) : Prop := ∀ x ∈ l, 0 ≤ x ∧ x < 256
theorem feed_lt (l : List Int) (hl : Byts l) : ∀ r, r < 4294967296 → feed r l < 4294967296 := by
  induction l with
  | nil => intro r h; exact h
  | cons b l ih =>
    intro r h
    have hb := hl b (by simp)
    exact ih (fun x hx => hl x (by simp [hx])) _ (stepN_lt _ _ (xor_lt h (by omega)))
theorem feed_snoc (l : List Int) (b : Int) (r : Nat) : feed r (l ++ [b]) = stepN 8 (feed r l ^^^ b.toNat) := by rw [feed_append]; rfl
/-- What stands in a register at the beginning goes its own way. -/
theorem feed_zeros (l : List Int) : ∀ r s, feed (r ^^^ s) l = stepN (8 * l.length) r ^^^ feed s l := by
  induction l with
  | nil => intro r s; rfl
  | cons b l ih =>
    intro r s
    rw [feed, Nat.xor_assoc, stepN_xor, ih, ← stepN_add]
    rw [show 8 + 8 * l.length = 8 * (b :: l).length by simp; omega]
    rfl
theorem xxc (a b : Nat) : a ^^^ (a ^^^ b) = b := by rw [← Nat.xor_assoc, Nat.xor_self, Nat.zero_xor]
theorem inv0 (a c : Nat) : a ^^^ c = c ^^^ (a ^^^ 0) := by rw [Nat.xor_zero, Nat.xor_comm]
theorem xass (a b c : Nat) : a ^^^ (b ^^^ c) = b ^^^ (a ^^^ c) := by rw [← Nat.xor_assoc, ← Nat.xor_assoc, Nat.xor_comm a b]
def ones : Nat := 4294967295
def inv (r : Nat) : Nat := ones ^^^ r
theorem inv_lt {r : Nat} (h : r < 4294967296) : inv r < 4294967296 := xor_lt (by unfold ones; omega) h
theorem inv_inv (r : Nat) : inv (inv r) = r := by rw [inv, inv, xxc]
/-- The checksum with a text behind. -/
def updF (c : Nat) (l : List Int) : Nat := inv (feed (inv c) l)
def sumF (l : List Int) : Nat := updF 0 l
theorem updF_lt {c : Nat} (hc : c < 4294967296) {l : List Int} (hl : Byts l) : updF c l < 4294967296 := inv_lt (feed_lt l hl _ (inv_lt hc))
theorem sumF_lt {l : List Int} (hl : Byts l) : sumF l < 4294967296 := updF_lt (by decide) hl
theorem updF_append (c : Nat) (l m : List Int) : updF c (l ++ m) = updF (updF c l) m := by
  unfold updF; rw [feed_append, inv_inv]
/-- The checksum of x with y behind it, by those of both. -/
def joinF (a b n : Nat) : Nat := stepN (8 * n) a ^^^ b
theorem joinF_lt {a b n : Nat} (ha : a < 4294967296) (hb : b < 4294967296) : joinF a b n < 4294967296 := xor_lt (stepN_lt _ _ ha) hb
theorem updF_join (c : Nat) (m : List Int) : updF c m = joinF c (sumF m) m.length := by
  unfold sumF updF joinF
  rw [show inv c = c ^^^ inv 0 from inv0 ones c, feed_zeros]
  exact xass _ _ _
theorem joinF_sums (l m : List Int) : joinF (sumF l) (sumF m) m.length = sumF (l ++ m) := by
  rw [← updF_join]; unfold sumF; rw [updF_append]
theorem joinF_assoc (a b c n m : Nat) : joinF (joinF a b n) c m = joinF a (joinF b c m) (n + m) := by
  unfold joinF
  rw [stepN_xor, ← stepN_add, ← Nat.mul_add, Nat.xor_assoc]

/-- The product of two remainders, i bits of the second. -/
def timesTo (a b : Nat) : Nat → Nat
  | 0 => 0
  | i + 1 => step (timesTo a b i) ^^^ ((b >>> i % 2) * a)
def times (a b : Nat) : Nat := timesTo a b 32
theorem bit_mul_xor (x y a : Nat) (hx : x < 2) (hy : y < 2) : (x ^^^ y) * a = (x * a) ^^^ (y * a) := by
  rcases Nat.lt_or_ge x 1 with h | h
  · obtain rfl : x = 0 := by omega
    simp
  · obtain rfl : x = 1 := by omega
    rcases Nat.lt_or_ge y 1 with h | h
    · obtain rfl : y = 0 := by omega
      simp
    · obtain rfl : y = 1 := by omega
      simp
theorem bit_mul_xor2 (x a b : Nat) (hx : x < 2) : x * (a ^^^ b) = (x * a) ^^^ (x * b) := by
  rcases Nat.lt_or_ge x 1 with h | h
  · obtain rfl : x = 0 := by omega
    simp
  · obtain rfl : x = 1 := by omega
    simp
theorem step_bit (x a : Nat) (hx : x < 2) : step (x * a) = x * step a := by
  rcases Nat.lt_or_ge x 1 with h | h
  · obtain rfl : x = 0 := by omega
    simp [step_zero]
  · obtain rfl : x = 1 := by omega
    simp
theorem m2 (a : Nat) : a % 2 < 2 := Nat.mod_lt _ (by decide)
theorem timesTo_xor_l (a b c : Nat) : ∀ i, timesTo (a ^^^ b) c i = timesTo a c i ^^^ timesTo b c i := by
  intro i
  induction i with
  | zero => simp [timesTo]
  | succ i ih => rw [timesTo, ih, step_xor, bit_mul_xor2 _ _ _ (m2 _), xor4]; rfl
theorem timesTo_xor_r (a b c : Nat) : ∀ i, timesTo a (b ^^^ c) i = timesTo a b i ^^^ timesTo a c i := by
  intro i
  induction i with
  | zero => simp [timesTo]
  | succ i ih => rw [timesTo, ih, step_xor, Nat.shiftRight_xor_distrib, mod2_xor, bit_mul_xor _ _ _ (m2 _) (m2 _), xor4]; rfl
theorem timesTo_shift (a b : Nat) : ∀ i, timesTo a b (i + 1) = timesTo a (b >>> 1) i ^^^ ((b % 2) * stepN i a) := by
  intro i
  induction i with
  | zero => rw [timesTo, timesTo, timesTo, step_zero, Nat.shiftRight_zero]; rfl
  | succ i ih =>
    rw [timesTo, ih, step_xor, step_bit _ _ (m2 _), timesTo, ← stepN_succ', Nat.xor_assoc, Nat.xor_assoc, Nat.xor_comm (b % 2 * _)]
    rw [← Nat.shiftRight_add, Nat.add_comm 1 i]
theorem times_poly (a : Nat) (ha : a < 4294967296) : times a poly = stepN 32 a :=
  lin_ext (fun a => times a poly) (stepN 32) (fun a b => timesTo_xor_l a b poly 32) (stepN_xor 32) (by decide +kernel) a ha
theorem times_one (a : Nat) (ha : a < 4294967296) : times a 2147483648 = a :=
  lin_ext (fun a => times a 2147483648) (fun a => a) (fun a b => timesTo_xor_l a b _ 32) (fun _ _ => rfl) (by decide +kernel) a ha
theorem times_bit (x a : Nat) (b : Nat) (hx : x < 2) : times a (x * b) = x * times a b := by
  rcases Nat.lt_or_ge x 1 with h | h
  · obtain rfl : x = 0 := by omega
    rw [Nat.zero_mul, Nat.zero_mul]
    have := timesTo_xor_r a 0 0 32
    rw [Nat.xor_self, Nat.xor_self] at this
    exact this
  · obtain rfl : x = 1 := by omega
    simp
theorem times_step (a b : Nat) (ha : a < 4294967296) (hb : b < 4294967296) : times a (step b) = step (times a b) := by
  have h1 := timesTo_shift a b 32
  rw [timesTo, show b >>> 32 = 0 by rw [Nat.shiftRight_eq_div_pow]; omega, Nat.zero_mod, Nat.zero_mul, Nat.xor_zero] at h1
  have h2 : times a (step b) = timesTo a (b >>> 1) 32 ^^^ times a (b % 2 * poly) := timesTo_xor_r a _ _ 32
  rw [h2, times_bit _ _ _ (m2 _), times_poly a ha]
  exact h1.symm
theorem times_stepN (a : Nat) (ha : a < 4294967296) : ∀ m, times a (stepN m 2147483648) = stepN m a := by
  intro m
  induction m with
  | zero => exact times_one a ha
  | succ m ih => rw [stepN_succ', times_step a _ ha (stepN_lt _ _ (by decide)), ih, stepN_succ']

def pw : Nat → Nat
  | 0 => 1073741824
  | k + 1 => times (pw k) (pw k)
theorem pw_eq : ∀ k, pw k = stepN (2 ^ k) 2147483648 := by
  intro k
  induction k with
  | zero => rw [pw, show (2 : Nat) ^ 0 = 1 from rfl, stepN, stepN]; decide +kernel
  | succ k ih =>
    rw [pw, ih, times_stepN _ (stepN_lt _ _ (by decide)), ← stepN_add]
    congr 1
    rw [Nat.pow_succ]; omega
theorem pw32 : pw 32 = 1073741824 := by decide +kernel
theorem pow32 (a : Nat) (ha : a < 4294967296) : stepN (2 ^ 32) a = step a := by
  rw [← times_stepN a ha, ← pw_eq, pw32, show (1073741824 : Nat) = step 2147483648 by decide +kernel, times_step a _ ha (by decide), times_one a ha]
theorem round1 (a : Nat) (ha : a < 4294967296) : stepN 4294967295 a = a := by
  refine stepN_inj 1 _ _ (stepN_lt _ _ ha) ha ?_
  rw [← stepN_add]
  exact pow32 a ha
theorem roundN (a : Nat) (ha : a < 4294967296) : ∀ k, stepN (4294967295 * k) a = a := by
  intro k
  induction k with
  | zero => rfl
  | succ k ih => rw [Nat.mul_succ, stepN_add, ih, round1 a ha]
theorem joinF_round (a b k : Nat) (ha : a < 4294967296) : joinF a b (k + 4294967295) = joinF a b k := by
  unfold joinF
  rw [Nat.mul_add, stepN_add, Nat.mul_comm 8 4294967295, roundN _ (stepN_lt _ _ ha)]
end Go.Proofs.Ytihkjfbhmlfonaa
