import Derived.Test.YtbnghhgeoodphaaGreatDoorRows
namespace Go.Proofs.YtbnghhgeoodphaaGreatDoor
set_option maxRecDepth 100000
set_option maxHeartbeats 40000000
set_option linter.unusedVariables false
set_option linter.unusedSimpArgs false
def poly : Nat := 3988292384
def step (r : Nat) : Nat := (r >>> 1) ^^^ ((r % 2) * poly)
def stepN : Nat -> Nat -> Nat
 | 0, r => r
 | n + 1, r => stepN n (step r)
theorem mod2_xor (a b : Nat) : (a ^^^ b) % 2 = (a % 2) ^^^ (b % 2) := by
 have := Nat.xor_mod_two_pow (a := a) (b := b) (n := 1)
 simpa using this
theorem mul_poly_xor (a b : Nat) (ha : a < 2) (hb : b < 2) : (a ^^^ b) * poly = (a * poly) ^^^ (b * poly) := by
 rcases Nat.lt_or_ge a 1 with h | h
 · obtain rfl : a = 0 := by omega
   simp
 · obtain rfl : a = 1 := by omega
   rcases Nat.lt_or_ge b 1 with h | h
   · obtain rfl : b = 0 := by omega
     simp
   · obtain rfl : b = 1 := by omega
     simp
theorem xor4 (a b c d : Nat) : (a ^^^ b) ^^^ (c ^^^ d) = (a ^^^ c) ^^^ (b ^^^ d) := by
 rw [Nat.xor_assoc, Nat.xor_assoc, <- Nat.xor_assoc b c d, Nat.xor_comm b c, Nat.xor_assoc c b d]
theorem step_xor (a b : Nat) : step (a ^^^ b) = step a ^^^ step b := by
 unfold step
 rw [Nat.shiftRight_xor_distrib, mod2_xor, mul_poly_xor _ _ (Nat.mod_lt _ (by decide)) (Nat.mod_lt _ (by decide)), xor4]
theorem stepN_xor (n : Nat) : ∀ a b, stepN n (a ^^^ b) = stepN n a ^^^ stepN n b := by
 induction n with
 | zero => intros; rfl
 | succ n ih => intro a b; rw [stepN, step_xor, ih]; rfl
theorem stepN_add (n : Nat) : ∀ m a, stepN (n + m) a = stepN m (stepN n a) := by
 induction n with
 | zero => intro m a; rw [Nat.zero_add]; rfl
 | succ n ih => intro m a; rw [Nat.succ_add, stepN, ih]; rfl
theorem step_lt (r : Nat) (h : r < 4294967296) : step r < 4294967296 := by
 unfold step
 refine Nat.xor_lt_two_pow (n := 32) ?_ ?_
 · rw [Nat.shiftRight_eq_div_pow]; omega
 · have : r % 2 < 2 := Nat.mod_lt _ (by decide)
   unfold poly; omega
theorem stepN_lt (n : Nat) : ∀ r, r < 4294967296 -> stepN n r < 4294967296 := by
 induction n with
 | zero => intro r h; exact h
 | succ n ih => intro r h; exact ih _ (step_lt r h)
theorem step_eq_zero (r : Nat) (h : r < 4294967296) (h0 : step r = 0) : r = 0 := by
 have hb : (step r).testBit 31 = false := by rw [h0]; simp
 unfold step at hb h0
 rw [Nat.testBit_xor, Nat.testBit_shiftRight, Nat.testBit_lt_two_pow (i := 1 + 31) (by omega), Bool.false_xor] at hb
 have h2 : r % 2 = 0 := by
   rcases Nat.mod_two_eq_zero_or_one r with e | e
   · exact e
   · rw [e] at hb; exact absurd hb (by decide)
 rw [h2, Nat.zero_mul, Nat.xor_zero, Nat.shiftRight_eq_div_pow] at h0
 omega
theorem stepN_eq_zero (n : Nat) : ∀ r, r < 4294967296 -> stepN n r = 0 -> r = 0 := by
 induction n with
 | zero => intro r _ h; exact h
 | succ n ih => intro r h h0; exact step_eq_zero r h (ih _ (step_lt r h) h0)
theorem xor_eq_zero {a b : Nat} (h : a ^^^ b = 0) : a = b := by
 have : a ^^^ b ^^^ b = b := by rw [h, Nat.zero_xor]
 rw [Nat.xor_assoc, Nat.xor_self, Nat.xor_zero] at this
 exact this
theorem xor_lt {a b : Nat} (ha : a < 4294967296) (hb : b < 4294967296) : a ^^^ b < 4294967296 := Nat.xor_lt_two_pow (n := 32) ha hb
theorem stepN_inj (n a b : Nat) (ha : a < 4294967296) (hb : b < 4294967296) (h : stepN n a = stepN n b) : a = b :=
 xor_eq_zero (stepN_eq_zero n _ (xor_lt ha hb) (by rw [stepN_xor, h, Nat.xor_self]))
def hTab : List Nat := [0, 0x1DB71064, 0x3B6E20C8, 0x26D930AC, 0x76DC4190, 0x6B6B51F4, 0x4DB26158, 0x5005713C, 0xEDB88320, 0xF00F9344, 0xD6D6A3E8, 0xCB61B38C, 0x9B64C2B0, 0x86D3D2D4, 0xA00AE278, 0xBDBDF21C]
theorem hTab_lt : ∀ j, j < 16 -> hTab.getD j 0 < 4294967296 := by decide
theorem hTab_step : ∀ j, j < 16 -> hTab.getD j 0 = stepN 4 j := by decide
theorem step_even (m : Nat) : step (2 * m) = m := by
 unfold step
 rw [Nat.mul_mod_right, Nat.zero_mul, Nat.xor_zero, Nat.shiftRight_eq_div_pow]
 omega
theorem split16 (r : Nat) : r = (2 * (2 * (2 * (2 * (r >>> 4))))) ^^^ (r % 16) := by
 apply Nat.eq_of_testBit_eq
 intro i
 have e : 2 * (2 * (2 * (2 * (r >>> 4)))) = 2 ^ 4 * (r >>> 4) := by omega
 have e2 := Nat.testBit_mod_two_pow r 4 i
 rw [show (2 : Nat) ^ 4 = 16 by decide] at e2
 rw [e, Nat.testBit_xor, Nat.testBit_two_pow_mul, e2, Nat.testBit_shiftRight]
 by_cases h : i < 4
 · have h2 : ¬ i >= 4 := by omega
   simp [h, h2]
 · have h2 : i >= 4 := by omega
   simp [h, h2, show 4 + (i - 4) = i by omega]
theorem half_step (r : Nat) : (r >>> 4) ^^^ hTab.getD (r % 16) 0 = stepN 4 r := by
 conv => rhs; rw [split16 r, stepN_xor]
 rw [hTab_step _ (Nat.mod_lt _ (by decide))]
 congr 1
 simp [stepN, step_even]
def feed (r : Nat) : List Int -> Nat
 | [] => r
 | b :: l => feed (stepN 8 (r ^^^ b.toNat)) l
theorem feed_append (l m : List Int) : ∀ r, feed r (l ++ m) = feed (feed r l) m := by
 induction l with
 | nil => intro r; rfl
 | cons b l ih => intro r; exact ih _
def Byts (l : List Int) : Prop := ∀ x ∈ l, 0 <= x /\ x < 256
theorem feed_lt (l : List Int) (hl : Byts l) : ∀ r, r < 4294967296 -> feed r l < 4294967296 := by
 induction l with
 | nil => intro r h; exact h
 | cons b l ih =>
   intro r h
   have hb := hl b (by simp)
   exact ih (fun x hx => hl x (by simp [hx])) _ (stepN_lt _ _ (xor_lt h (by omega)))
theorem feed_snoc (l : List Int) (b : Int) (r : Nat) : feed r (l ++ [b]) = stepN 8 (feed r l ^^^ b.toNat) := by rw [feed_append]; rfl
def ones : Nat := 4294967295
def inv (r : Nat) : Nat := ones ^^^ r
theorem inv_lt {r : Nat} (h : r < 4294967296) : inv r < 4294967296 := xor_lt (by unfold ones; omega) h
def updF (c : Nat) (l : List Int) : Nat := inv (feed (inv c) l)
def sumF (l : List Int) : Nat := updF 0 l
theorem updF_lt {c : Nat} (hc : c < 4294967296) {l : List Int} (hl : Byts l) : updF c l < 4294967296 := inv_lt (feed_lt l hl _ (inv_lt hc))
theorem sumF_lt {l : List Int} (hl : Byts l) : sumF l < 4294967296 := updF_lt (by decide) hl
def timesTo (a b : Nat) : Nat -> Nat
 | 0 => 0
 | i + 1 => step (timesTo a b i) ^^^ ((b >>> i % 2) * a)
def times (a b : Nat) : Nat := timesTo a b 32
theorem m2 (a : Nat) : a % 2 < 2 := Nat.mod_lt _ (by decide)
def pw : Nat -> Nat
 | 0 => 1073741824
 | k + 1 => times (pw k) (pw k)
theorem split256 (r : Nat) : r = (256 * (r >>> 8)) ^^^ (r % 256) := by
 apply Nat.eq_of_testBit_eq
 intro i
 have e : 256 * (r >>> 8) = 2 ^ 8 * (r >>> 8) := by omega
 have e2 := Nat.testBit_mod_two_pow r 8 i
 rw [show (2 : Nat) ^ 8 = 256 by decide] at e2
 rw [e, Nat.testBit_xor, Nat.testBit_two_pow_mul, e2, Nat.testBit_shiftRight]
 by_cases h : i < 8
 · have h2 : ¬ i >= 8 := by omega
   simp [h, h2]
 · have h2 : i >= 8 := by omega
   simp [h, h2, show 8 + (i - 8) = i by omega]
theorem step8_256 (m : Nat) : stepN 8 (256 * m) = m := by
 rw [show 256 * m = 2 * (2 * (2 * (2 * (2 * (2 * (2 * (2 * m))))))) by omega]
 simp [stepN, step_even]
def le : List Int -> Nat
 | [] => 0
 | y :: l => y.toNat + 256 * le l
theorem feed_le (l : List Int) : ∀ (h : Byts l) r, feed r l = stepN (8 * l.length) (r ^^^ le l) := by
 induction l with
 | nil => intro _ r; simp [feed, le, stepN]
 | cons y l ih =>
   intro h r
   have hy := h y (by simp)
   rw [feed, ih (fun x hx => h x (by simp [hx])), le]
   have e : y.toNat + 256 * le l = 256 * le l ^^^ y.toNat := by
     have := split256 (y.toNat + 256 * le l)
     rw [Nat.shiftRight_eq_div_pow, show (y.toNat + 256 * le l) / 2 ^ 8 = le l by omega, show (y.toNat + 256 * le l) % 256 = y.toNat by omega] at this
     exact this
   rw [e, show 8 * (y :: l).length = 8 + 8 * l.length by simp; omega, stepN_add]
   congr 1
   conv => lhs; rw [<- step8_256 (le l)]
   rw [<- stepN_xor]
   congr 1
   rw [Nat.xor_assoc, Nat.xor_comm y.toNat]
def CR : Nat := stepN 32 ones
theorem ones_lt : ones < 4294967296 := Nat.lt_succ_self _
theorem xor_ones {a b c : Nat} : a ^^^ b = c ↔ c ^^^ a = b := by
 constructor
 · intro h; rw [<- h, Nat.xor_comm a b, Nat.xor_assoc, Nat.xor_self, Nat.xor_zero]
 · intro h; rw [<- h, Nat.xor_comm, Nat.xor_assoc, Nat.xor_self, Nat.xor_zero]
theorem xz (o : Nat) : o ^^^ 0 = o := Nat.xor_zero o
theorem inv_zero : inv 0 = ones := by rw [inv, xz]
theorem sumF_feed (l : List Int) : sumF l = ones ^^^ feed ones l := by
 rw [sumF, updF, inv_zero, inv]
theorem whole_iff (xs : List Int) (y0 y1 y2 y3 : Int) (hx : Byts xs) (hy : Byts [y0, y1, y2, y3]) :
   feed ones (xs ++ [y0, y1, y2, y3]) = CR ↔ sumF xs = le [y0, y1, y2, y3] := by
 have h0 := hy y0 (by simp)
 have h1 := hy y1 (by simp)
 have h2 := hy y2 (by simp)
 have h3 := hy y3 (by simp)
 have hl : le [y0, y1, y2, y3] < 4294967296 := by simp only [le]; omega
 rw [feed_append, feed_le _ hy, sumF_feed]
 have hf := feed_lt xs hx ones ones_lt
 generalize feed ones xs = R at *
 generalize le [y0, y1, y2, y3] = V at *
 rw [show 8 * [y0, y1, y2, y3].length = 32 by rfl]
 rw [<- xor_ones]
 constructor
 · intro h; exact stepN_inj 32 _ _ (xor_lt hf hl) ones_lt h
 · intro h; rw [h]; rfl
def vb (n : Nat) : Nat := stepN n 1
end Go.Proofs.YtbnghhgeoodphaaGreatDoor
