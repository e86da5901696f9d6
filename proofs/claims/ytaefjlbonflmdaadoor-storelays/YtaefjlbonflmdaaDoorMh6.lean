import Derived.Test.YtaefjlbonflmdaaDoorNq
import Derived.Laws.BitsLemmas
import Derived.RegionTactic
namespace Go.Proofs.YtaefjlbonflmdaaDoor
set_option linter.unusedVariables false
set_option linter.unusedSimpArgs false
open Go.RowKit
attribute [local go_sem ↓] Go.wp_at_zero Go.wp_at_succ

theorem xor_u8d (a b : Nat) (ha : a < 256) (hb : b < 256) : bits .xor .u8 (a : Int) (b : Int) = ((a ^^^ b : Nat) : Int) := by
  have hx : a ^^^ b < 2 ^ 8 := Nat.xor_lt_two_pow (by omega) (by omega)
  have h1 : (BitVec.ofInt 8 (a : Int)).toNat = a := by
    rw [BitVec.ofInt_natCast, BitVec.toNat_ofNat]; exact Nat.mod_eq_of_lt (by omega)
  have h2 : (BitVec.ofInt 8 (b : Int)).toNat = b := by
    rw [BitVec.ofInt_natCast, BitVec.toNat_ofNat]; exact Nat.mod_eq_of_lt (by omega)
  show IntKind.u8.wrap ((BitVec.ofInt 8 (a : Int) ^^^ BitVec.ofInt 8 (b : Int)).toNat : Int) = _
  rw [BitVec.toNat_xor, h1, h2, IntKind.wrap_u8]
  omega

/-- The first k of a list that is told place by place. -/
def tab (f : Nat → Int) (k : Nat) : List Int := (List.range k).map f
theorem tab_succ (f : Nat → Int) (k : Nat) : tab f (k + 1) = tab f k ++ [f k] := by simp [tab, List.range_succ]
theorem tab_len (f : Nat → Int) (k : Nat) : (tab f k).length = k := by simp [tab]
theorem tab_get (f : Nat → Int) (k t : Nat) (h : t < k) : (tab f k).getD t 0 = f t := by simp [tab, h]
theorem getD_byte {xs : List Int} (h : Byts xs) (i : Nat) : 0 ≤ xs.getD i 0 ∧ xs.getD i 0 < 256 := by
  by_cases hi : i < xs.length
  · rw [List.getD_eq_getElem?_getD, List.getElem?_eq_getElem hi]; exact h _ (List.getElem_mem hi)
  · rw [List.getD_eq_getElem?_getD, List.getElem?_eq_none (by omega)]; simp
/-- Bit t of a text. -/
def bt (zs : List Int) (t : Nat) : Nat := (zs.getD (t / 8) 0).toNat >>> (t % 8) % 2
theorem bt_lt (zs : List Int) (t : Nat) : bt zs t < 2 := m2 _
theorem bt_past (zs : List Int) (t : Nat) (h : 8 * zs.length ≤ t) : bt zs t = 0 := by
  unfold bt
  rw [List.getD_eq_getElem?_getD, List.getElem?_eq_none (by omega)]
  simp
def btI (zs : List Int) (t : Nat) : Int := (bt zs t : Int)
theorem bit_u8d (a m : Nat) (ha : a < 256) : bits .and .u8 ((a : Int) / (2 : Int) ^ m) 1 = ((a >>> m % 2 : Nat) : Int) := by
  have e : (a : Int) / (2 : Int) ^ m = ((a >>> m : Nat) : Int) := by rw [Nat.shiftRight_eq_div_pow]; simp
  have hl : a >>> m < 256 := by rw [Nat.shiftRight_eq_div_pow]; exact Nat.lt_of_le_of_lt (Nat.div_le_self _ _) ha
  rw [e]
  have := bits_mask .u8 8 (by decide) wraps_u8 1 (by decide) ((a >>> m : Nat) : Int) (Int.natCast_nonneg _) (by have : (((a >>> m : Nat)) : Int) < ((256 : Nat) : Int) := Int.ofNat_lt.2 hl; simpa using this)
  simpa using this

set_option maxRecDepth 100000 in
set_option maxHeartbeats 400000 in
theorem rbits_any (w : World) (zs : List Int) (h8 : Byts zs) (sp : Option Addr) (cap : Nat) (hS : Src w sp cap zs) (hlen : zs.length ≤ 1048576) :
    Calls Tryd.prog 86 #[.slice sp zs.length cap] w fun e w' => ∃ v, e = .returned v ∧ Own w' w.heap.size v (tab (btI zs) (8 * zs.length)) ∧ Below w.heap.size w w' := by
  obtain ⟨hc, hm, b, o, hb, hsp, hsrc⟩ := hS
  have hO := Own.nil w w.heap.size
  have i0 : (zs.length : Int) ≤ 1048576 := by omega
  go_enter Tryd.func86, Tryd.ntmps86
  go_wp2
  go_loopw [3, 4, 5] (fun v i _ wr => ∃ n : Nat, n ≤ zs.length ∧ i = .int .i64 n ∧ Own wr w.heap.size v (tab (btI zs) (8 * n)) ∧ Below w.heap.size w wr) (fun _ i _ _ => zs.length - (intOf i).toNat)
  case atStart => exact ⟨0, by omega, rfl, hO, Below.refl _ _⟩
  case round =>
    clear hO
    obtain ⟨n, hn, rfl, hO, hB⟩ := hrel
    by_cases hlt : n < zs.length
    · have i1 : (n : Int) < (zs.length : Int) := by omega
      obtain rfl := hsp (by omega)
      go_wp2
      go_loopw [3, 5] (fun v j wr => ∃ m : Nat, m ≤ 8 ∧ j = .int .i64 m ∧ Own wr w.heap.size v (tab (btI zs) (8 * n + m)) ∧ Below w.heap.size w wr) (fun _ j _ => 8 - (intOf j).toNat)
      case atStart => exact ⟨0, by omega, rfl, hO, hB⟩
      case round =>
        clear hO hB
        obtain ⟨m, hm8, rfl, hO, hB⟩ := hrel
        by_cases hl8 : m < 8
        · have i2 : (m : Int) < 8 := by omega
          have c0 := (hB.cell (p := ⟨b, o + n, none⟩) (hb (by omega))).trans (hsrc n hlt)
          have hbn := getD_byte h8 n
          have HT := hid (tab_succ (btI zs) (8 * n + m))
          have KL := hid (show (tab (btI zs) (8 * n + m)).length + 1 ≤ 140737488355328 by rw [tab_len]; omega)
          have hbt : btI zs (8 * n + m) = (((zs.getD n 0).toNat >>> m % 2 : Nat) : Int) := by
            unfold btI bt; rw [show (8 * n + m) / 8 = n by omega, show (8 * n + m) % 8 = m by omega]
          rw [hbt] at HT
          clear hbt
          obtain ⟨x, hx⟩ := Int.eq_ofNat_of_zero_le hbn.1
          rw [hx] at c0 HT hbn
          rw [Int.toNat_natCast] at HT
          have e1 := bit_u8d x m (by omega)
          generalize x >>> m % 2 = y at *
          generalize tab (btI zs) (8 * n + m) = tb at *
          go_wp2_with (first | (at_builtin; refine wpList_push_any rfl (.tmp 16) (.tmp 25) rfl w.heap.size _ _ (y : Int) rfl hO rfl KL.out hB.size _ _ ?_; intro v2 w2 hO2 hB2))
          go_roundw
          case rel => exact ⟨m + 1, by omega, by go_num, (by rw [← Nat.add_assoc, HT.out]; exact hO2), hB.trans hB2⟩
          case measure => simp [intOf]; omega
        · obtain rfl : m = 8 := by omega
          clear hl8
          go_wp2
          go_roundw
          case rel => exact ⟨n + 1, by omega, by go_num, (by rw [show 8 * (n + 1) = 8 * n + 8 by omega]; exact hO), hB⟩
          case measure => simp [intOf]; omega
    · obtain rfl : n = zs.length := by omega
      clear hlt
      go_wp2
      go_ret
      exact ⟨_, rfl, hO, hB⟩
end Go.Proofs.YtaefjlbonflmdaaDoor
namespace Go.Proofs.YtaefjlbonflmdaaDoor
set_option linter.unusedVariables false
set_option linter.unusedSimpArgs false
open Go.RowKit
attribute [local go_sem ↓] Go.wp_at_zero Go.wp_at_succ

/-- The register, bit by bit. -/
def rg (s : Nat) (F : Nat → Nat) : Nat → Nat
  | 0 => s
  | i + 1 => step (rg s F i ^^^ F i)
theorem rg_lt (s : Nat) (F : Nat → Nat) (hs : s < 4294967296) (hF : ∀ i, F i < 2) : ∀ i, rg s F i < 4294967296 := by
  intro i
  induction i with
  | zero => exact hs
  | succ i ih => exact step_lt _ (xor_lt ih (by have := hF i; omega))
theorem two_stepD : ∀ i, i < 32 → stepN i (2 ^ i) = 1 := by decide +kernel
theorem bit_two (x i : Nat) (hi : i < 32) (hx : x < 2) : stepN i (x * 2 ^ i) = x := by
  rcases (show x = 0 ∨ x = 1 by omega) with rfl | rfl
  · rw [Nat.zero_mul, stepN_zero]
  · rw [Nat.one_mul, two_stepD i hi]
theorem rg_byte (s : Nat) (F : Nat → Nat) (n b : Nat) (hF : ∀ j, j < 8 → F (8 * n + j) = b >>> j % 2) : ∀ j, j ≤ 8 → rg s F (8 * n + j) = stepN j (rg s F (8 * n) ^^^ (b % 2 ^ j)) := by
  intro j
  induction j with
  | zero => intro _; simp [Nat.mod_one, stepN]
  | succ j ih =>
    intro hj
    rw [← Nat.add_assoc, rg, ih (by omega), hF j (by omega), stepN_succ', mod_pow_succ_xor]
    congr 1
    conv => lhs; rw [← bit_two (b >>> j % 2) j (by omega) (m2 _)]
    rw [← stepN_xor, Nat.xor_assoc]
theorem rg_feed (zs : List Int) (h8 : Byts zs) (s : Nat) : ∀ n, n ≤ zs.length → rg s (bt zs) (8 * n) = feed s (zs.take n) := by
  intro n
  induction n with
  | zero => intro _; rfl
  | succ n ih =>
    intro hn
    have hlt : n < zs.length := by omega
    have hb := getD_byte h8 n
    have := rg_byte s (bt zs) n (zs.getD n 0).toNat (fun j hj => by unfold bt; rw [show (8 * n + j) / 8 = n by omega, show (8 * n + j) % 8 = j by omega]) 8 (Nat.le_refl _)
    rw [show 8 * (n + 1) = 8 * n + 8 by omega, this, ih (by omega), List.take_succ_eq_append_getElem hlt, feed_snoc]
    rw [show (zs.getD n 0).toNat % 2 ^ 8 = (zs.getD n 0).toNat from Nat.mod_eq_of_lt (by omega)]
    rw [List.getD_eq_getElem?_getD, List.getElem?_eq_getElem hlt]
    rfl
theorem rg_all (zs : List Int) (h8 : Byts zs) (s : Nat) : rg s (bt zs) (8 * zs.length) = feed s zs := by
  rw [rg_feed zs h8 s zs.length (Nat.le_refl _), List.take_length]
/-- The polynomial's digits, the highest power first. -/
def dvI : List Int := [1, 0, 0, 0, 0, 0, 1, 0, 0, 1, 1, 0, 0, 0, 0, 0, 1, 0, 0, 0, 1, 1, 1, 0, 1, 1, 0, 1, 1, 0, 1, 1, 1]
def dv (j : Nat) : Nat := (dvI.getD j 0).toNat
theorem dv_poly : ∀ j, j < 32 → dv (j + 1) = poly >>> j % 2 := by decide
theorem dv_zero : dv 0 = 1 := by decide
theorem dvI_eq : ∀ j, j < 33 → dvI.getD j 0 = (dv j : Int) := by decide
theorem dv_lt : ∀ j, j < 33 → dv j < 2 := by decide
theorem shr_step0 (x s : Nat) (h : x % 2 = 0) : step x >>> s % 2 = x >>> (s + 1) % 2 := by
  unfold step; rw [h, Nat.zero_mul, Nat.xor_zero, ← Nat.shiftRight_add, Nat.add_comm]
theorem shr_step1 (x s : Nat) (h : x % 2 = 1) : step x >>> s % 2 = (x >>> (s + 1) % 2) ^^^ (poly >>> s % 2) := by
  unfold step; rw [h, Nat.one_mul, Nat.shiftRight_xor_distrib, mod2_xor, ← Nat.shiftRight_add, Nat.add_comm]
theorem shr_low (R f s : Nat) (hf : f < 2) : (R ^^^ f) >>> (s + 1) % 2 = R >>> (s + 1) % 2 := by
  rw [Nat.shiftRight_xor_distrib, mod2_xor, show f >>> (s + 1) = 0 by rw [Nat.shiftRight_eq_div_pow]; exact Nat.div_eq_of_lt (Nat.lt_of_lt_of_le hf (by rw [Nat.pow_succ]; have := Nat.two_pow_pos s; omega))]
  simp
theorem shr_big (R s : Nat) (h : R < 4294967296) (hs : 32 ≤ s) : R >>> s % 2 = 0 := by
  rw [Nat.shiftRight_eq_div_pow, Nat.div_eq_of_lt]
  exact Nat.lt_of_lt_of_le h (Nat.pow_le_pow_right (n := 2) (by decide) hs)
theorem poly_big (s : Nat) (hs : 32 ≤ s) : poly >>> s % 2 = 0 := shr_big poly s (by decide) hs
/-- What stands at place t when i bits have been divided. -/
def cellAt (F : Nat → Nat) (R i t : Nat) : Nat := F t ^^^ (R >>> (t - i) % 2)
theorem cellAt_lt (F : Nat → Nat) (hF : ∀ i, F i < 2) (R i t : Nat) : cellAt F R i t < 2 := Nat.xor_lt_two_pow (n := 1) (hF t) (m2 _)
theorem cellAt_here (F : Nat → Nat) (hF : ∀ i, F i < 2) (R i : Nat) : cellAt F R i i = (R ^^^ F i) % 2 := by
  unfold cellAt
  rw [Nat.sub_self, Nat.shiftRight_zero, mod2_xor, Nat.mod_eq_of_lt (hF i), Nat.xor_comm]
theorem cellAt_next0 (F : Nat → Nat) (hF : ∀ i, F i < 2) (R i t : Nat) (h : cellAt F R i i = 0) (ht : i + 1 ≤ t) : cellAt F (step (R ^^^ F i)) (i + 1) t = cellAt F R i t := by
  rw [cellAt_here F hF] at h
  unfold cellAt
  rw [shr_step0 _ _ h, shr_low _ _ _ (hF i), show t - (i + 1) + 1 = t - i by omega]
theorem cellAt_next1 (F : Nat → Nat) (hF : ∀ i, F i < 2) (R i t : Nat) (h : cellAt F R i i = 1) (ht : i + 1 ≤ t) : cellAt F (step (R ^^^ F i)) (i + 1) t = if t < i + 33 then cellAt F R i t ^^^ dv (t - i) else cellAt F R i t := by
  rw [cellAt_here F hF] at h
  unfold cellAt
  rw [shr_step1 _ _ h, shr_low _ _ _ (hF i), show t - (i + 1) + 1 = t - i by omega]
  split
  · rw [show t - i = (t - (i + 1)) + 1 by omega, dv_poly _ (by omega), Nat.xor_assoc]
  · rw [poly_big _ (by omega), Nat.xor_zero]
end Go.Proofs.YtaefjlbonflmdaaDoor
namespace Go.Proofs.YtaefjlbonflmdaaDoor
set_option linter.unusedVariables false
set_option linter.unusedSimpArgs false
open Go.RowKit
attribute [local go_sem ↓] Go.wp_at_zero Go.wp_at_succ

/-- The divisor lies in memory. -/
def Gl (w : World) : Prop := 0 < w.heap.size ∧ ∀ j, j < 33 → w.cell? ⟨0, j, none⟩ = some (.int .u8 (dvI.getD j 0))
theorem Gl.below {w w1 : World} {B : Nat} (h : Gl w) (hb : Below B w w1) (hB : 0 < B) : Gl w1 := ⟨Nat.lt_of_lt_of_le h.1 hb.size, fun j hj => (hb.cell (p := ⟨0, j, none⟩) hB).trans (h.2 j hj)⟩
theorem getD_set (os : List Int) (j t : Nat) (x : Int) (hj : j < os.length) : (os.set j x).getD t 0 = if t = j then x else os.getD t 0 := by
  by_cases h : t = j
  · subst h; rw [if_pos rfl, List.getD_eq_getElem?_getD, List.getElem?_set_self hj]; rfl
  · rw [if_neg h, List.getD_eq_getElem?_getD, List.getElem?_set_ne (Ne.symm h), ← List.getD_eq_getElem?_getD]
theorem wrap8_bit (b : Nat) (h : b < 2) : IntKind.u8.wrap (b : Int) = (b : Int) := by rw [IntKind.wrap_u8]; omega
theorem mod_or (R m : Nat) : (R % 2 ^ m) ||| ((R >>> m % 2) * 2 ^ m) = R % 2 ^ (m + 1) := by
  rw [mod_pow_succ_xor]
  apply Nat.eq_of_testBit_eq
  intro i
  rw [Nat.testBit_or, Nat.testBit_xor, Nat.testBit_mod_two_pow, Nat.mul_comm, Nat.testBit_two_pow_mul]
  by_cases h : i < m
  · have : ¬ i ≥ m := by omega
    simp [h, this]
  · simp [h]
theorem or_u32 (a b : Nat) (ha : a < 4294967296) (hb : b < 4294967296) : bits .or .u32 (a : Int) (b : Int) = ((a ||| b : Nat) : Int) := (bits_nat .u32 32 (by decide) wraps_u32 a b ha hb).2
theorem and1_u32d (a : Nat) (ha : a < 4294967296) : bits .and .u32 (a : Int) 1 = ((a % 2 : Nat) : Int) := by
  have := bits_mask .u32 32 (by decide) wraps_u32 1 (by decide) (a : Int) (by omega) (by omega)
  simpa using this
theorem bit_u32d (a m : Nat) (ha : a < 4294967296) : bits .and .u32 ((a : Int) / (2 : Int) ^ m) 1 = ((a >>> m % 2 : Nat) : Int) := by
  have e : (a : Int) / (2 : Int) ^ m = ((a >>> m : Nat) : Int) := by rw [Nat.shiftRight_eq_div_pow]; simp
  rw [e, and1_u32d _ (by rw [Nat.shiftRight_eq_div_pow]; exact Nat.lt_of_le_of_lt (Nat.div_le_self _ _) ha)]
set_option maxRecDepth 100000 in
set_option maxHeartbeats 4000000 in
theorem divide_any (w : World) (hG : Gl w) (s : Nat) (hs : s < 4294967296) (zs : List Int) (h8 : Byts zs) (sp : Option Addr) (cap : Nat) (hS : Src w sp cap zs) (hlen : zs.length ≤ 1048576) :
    Calls Tryd.prog 66 #[.int .u32 s, .slice sp zs.length cap] w fun e w' => e = .returned (.int .u32 (feed s zs)) ∧ Below w.heap.size w w' := by
  have hF := bt_lt zs
  have HP := hid (bt_past zs)
  have HR := hid (rg_all zs h8 s)
  have HRl := hid (rg_lt s (bt zs) hs hF)
  have hw0 := hG.1
  go_enter Tryd.func66, Tryd.ntmps66
  go_wp2_with fail
  refine (rbits_any w zs h8 sp cap hS hlen).mono ?_
  rintro e w1 ⟨v, rfl, hO1, b1⟩
  obtain ⟨k, hk⟩ : ∃ k, k = 8 * zs.length := ⟨_, rfl⟩
  rw [← hk] at hO1 HR
  have hkl : k ≤ 8388608 := by omega
  have Hk := hid hk
  have HP' := hid (fun t (h : k ≤ t) => HP.out t (by have := Hk.out; omega))
  clear hk HP
  have i0 : (k : Int) ≤ 8388608 := by omega
  obtain ⟨tp, tc, rfl, _, _⟩ := hO1.form
  have HTL := hid (tab_len (btI zs) k)
  rw [HTL.out]
  rw [HTL.out] at hO1
  go_wp2
  go_loopw [5, 7] (fun v i wr => ∃ m : Nat, m ≤ 32 ∧ i = .int .i64 m ∧ Own wr w.heap.size v (tab (btI zs) (k + m)) ∧ Below w.heap.size w wr) (fun _ i _ => 32 - (intOf i).toNat)
  case atStart => exact ⟨0, by omega, rfl, hO1, b1⟩
  case round =>
    clear hO1 b1
    obtain ⟨m, hm, rfl, hO, hB⟩ := hrel
    by_cases hlt : m < 32
    · have i1 : (m : Int) < 32 := by omega
      have HT := hid (show tab (btI zs) (k + (m + 1)) = tab (btI zs) (k + m) ++ [0] by rw [← Nat.add_assoc, tab_succ]; congr 2; show ((bt zs (k + m) : Nat) : Int) = 0; rw [HP'.out (k + m) (by omega)]; rfl)
      have KL := hid (show (tab (btI zs) (k + m)).length + 1 ≤ 140737488355328 by rw [tab_len]; omega)
      generalize tab (btI zs) (k + m) = tb at *
      go_wp2_with (first | (at_builtin; refine wpList_push_any rfl (.tmp 21) (.tmp 22) rfl w.heap.size _ _ 0 rfl hO rfl KL.out hB.size _ _ ?_; intro v2 w2 hO2 hB2))
      go_roundw
      case rel => exact ⟨m + 1, by omega, by go_num, (by rw [HT.out]; exact hO2), hB.trans hB2⟩
      case measure => simp [intOf]; omega
    · obtain rfl : m = 32 := by omega
      clear hlt
      have hlen32 : (tab (btI zs) (k + 32)).length = k + 32 := tab_len _ _
      obtain ⟨up, uc, g, rest, rfl, _, huc, hum, hgg, hot⟩ := hO.ot
      obtain ⟨rfl, hI0⟩ := hot (by omega)
      have hI4 : In wr g rest (tab (btI zs) (k + 32)) := hI0
      rw [hlen32]
      have hg0 : ∀ t, t < k + 32 → (tab (btI zs) (k + 32)).getD t 0 = ((bt zs t ^^^ (if t < 0 then s >>> t % 2 else 0) : Nat) : Int) := fun t ht => by
        rw [tab_get _ _ _ ht, if_neg (by omega), Nat.xor_zero]; rfl
      have G0 := hid (show ∃ os : List Int, In wr g rest os ∧ os.length = k + 32 ∧ ∀ t, t < k + 32 → os.getD t 0 = ((bt zs t ^^^ (if t < 0 then s >>> t % 2 else 0) : Nat) : Int) from ⟨_, hI4, hlen32, hg0⟩)
      generalize bt zs = F at *
      clear hO hot hI0 hI4 hlen32 hg0
      go_wp2
      go_loopw [8] (fun i wr => ∃ m : Nat, m ≤ 32 ∧ i = .int .i64 m ∧ Below w.heap.size w wr ∧ ∃ os : List Int, In wr g rest os ∧ os.length = k + 32 ∧ ∀ t, t < k + 32 → os.getD t 0 = ((F t ^^^ (if t < m then s >>> t % 2 else 0) : Nat) : Int)) (fun i _ => 32 - (intOf i).toNat)
      case atStart => exact ⟨0, by omega, rfl, hB, G0.out⟩
      case round =>
        clear hB G0
        obtain ⟨m, hm, rfl, hB, os, hI, hl, hg⟩ := hrel
        replace hl := hid hl
        replace hg := hid hg
        by_cases hlt : m < 32
        · have i1 : (m : Int) < 32 := by omega
          have i2 : (m : Int) < (k : Int) + 32 := by omega
          have c0 := hI.cell m (by rw [hl.out]; omega)
          rw [hg.out m (by omega), if_neg (by omega), Nat.xor_zero] at c0
          have f0 : wr.frozen? ⟨g, m, none⟩ = false := frozen_of_row _ _ _ _ _ hI
          have hset := fun x => hI.set m x (by rw [hl.out]; omega)
          have e1 := bit_u32d s m hs
          have hbt : s >>> m % 2 < 2 := m2 _
          have HX := hid (fun t => show (if t < m + 1 then s >>> t % 2 else 0) = (if t = m then s >>> m % 2 else if t < m then s >>> t % 2 else 0) by
            by_cases h1 : t = m
            · subst h1; rw [if_pos (by omega), if_pos rfl]
            · by_cases h2 : t < m
              · rw [if_pos (by omega), if_neg h1, if_pos h2]
              · rw [if_neg (by omega), if_neg h1, if_neg h2])
          have e2 := wrap8_bit _ hbt
          have hFm := hF m
          have e3 := xor_u8d (F m) (s >>> m % 2) (by omega) (by omega)
          generalize hbm : s >>> m % 2 = bm at *
          have HBm := hid hbm
          clear hbm
          have j1 : (bm : Int) < 2 := by omega
          go_wp2
          go_roundw
          case rel =>
            refine ⟨m + 1, by omega, by go_num, hB.setCell (by show w.heap.size ≤ g; omega) _, os.set m ((F m ^^^ bm : Nat) : Int), hset _, by rw [List.length_set]; exact hl.out, fun t ht => ?_⟩
            rw [getD_set _ _ _ _ (by rw [hl.out]; omega), HX.out t]
            by_cases h1 : t = m
            · subst h1; rw [if_pos rfl, if_pos rfl]
            · rw [if_neg h1, if_neg h1]; exact hg.out t ht
          case measure => simp [intOf]; omega
        · obtain rfl : m = 32 := by omega
          clear hlt
          have G0 := hid (show ∃ os : List Int, In wr g rest os ∧ os.length = k + 32 ∧ ∀ t, 0 ≤ t → t < k + 32 → os.getD t 0 = ((cellAt F (rg s F 0) 0 t : Nat) : Int) from ⟨os, hI, hl.out, fun t _ ht => by
            rw [hg.out t ht, cellAt, Nat.sub_zero]
            congr 2
            by_cases h : t < 32
            · rw [if_pos h]; rfl
            · rw [if_neg h]; exact (shr_big s t hs (by omega)).symm⟩)
          clear hI hl hg
          go_wp2
          go_loopw [9, 10] (fun i _ wr => ∃ n : Nat, n ≤ k ∧ i = .int .i64 n ∧ Below w.heap.size w wr ∧ ∃ os : List Int, In wr g rest os ∧ os.length = k + 32 ∧ ∀ t, n ≤ t → t < k + 32 → os.getD t 0 = ((cellAt F (rg s F n) n t : Nat) : Int)) (fun i _ _ => k - (intOf i).toNat)
          case atStart => exact ⟨0, by omega, rfl, hB, G0.out⟩
          case round =>
            clear hB G0
            obtain ⟨n, hn, rfl, hB, os, hI, hl, hg⟩ := hrel
            replace hl := hid hl
            replace hg := hid hg
            by_cases hlt : n < k
            · have i1 : (n : Int) < (k : Int) := by omega
              have i2 : (n : Int) < (k : Int) + 32 := by omega
              have c0 := hI.cell n (by rw [hl.out]; omega)
              rw [hg.out n (by omega) (by omega)] at c0
              have HRn := hid (HRl.out n)
              have HN0 := hid (fun (h : cellAt F (rg s F n) n n = 0) t ht => cellAt_next0 F hF (rg s F n) n t h ht)
              have HN1 := hid (fun (h : cellAt F (rg s F n) n n = 1) t ht => cellAt_next1 F hF (rg s F n) n t h ht)
              have HRs := hid (show rg s F (n + 1) = step (rg s F n ^^^ F n) from rfl)
              have hc2 := cellAt_lt F hF (rg s F n) n n
              rcases (show cellAt F (rg s F n) n n = 1 ∨ cellAt F (rg s F n) n n = 0 by omega) with h1 | h1
              · rw [h1] at c0
                replace HN1 := hid (HN1.out h1)
                have G1 := hid (show ∃ os' : List Int, In wr g rest os' ∧ os'.length = k + 32 ∧ ∀ t, t < k + 32 → os'.getD t 0 = if n ≤ t ∧ t < n + 0 then bits .xor .u8 (os.getD t 0) (dvI.getD (t - n) 0) else os.getD t 0 from ⟨os, hI, hl.out, fun t _ => by rw [if_neg (by omega)]⟩)
                clear HN0 h1 hc2
                go_wp2
                go_loopw [10] (fun j wr => ∃ m : Nat, m ≤ 33 ∧ j = .int .i64 m ∧ Below w.heap.size w wr ∧ ∃ os' : List Int, In wr g rest os' ∧ os'.length = k + 32 ∧ ∀ t, t < k + 32 → os'.getD t 0 = if n ≤ t ∧ t < n + m then bits .xor .u8 (os.getD t 0) (dvI.getD (t - n) 0) else os.getD t 0) (fun j _ => 33 - (intOf j).toNat)
                case atStart => exact ⟨0, by omega, rfl, hB, G1.out⟩
                case round =>
                  clear hB G1 hI c0
                  obtain ⟨m, hm, rfl, hB, ot, hI, hl2, hg2⟩ := hrel
                  replace hl2 := hid hl2
                  replace hg2 := hid hg2
                  by_cases hltm : m < 33
                  · have j1 : (m : Int) < 33 := by omega
                    have j2 : (n : Int) + (m : Int) < (k : Int) + 32 := by omega
                    have j3 : (0 : Int) ≤ (n : Int) + (m : Int) := by omega
                    have j4 : IntKind.i64.wrap ((n : Int) + (m : Int)) = (n : Int) + (m : Int) := wrap_i64_id _ (by omega) (by omega)
                    have j5 : ((n : Int) + (m : Int)).toNat = n + m := by omega
                    have c0 := hI.cell (n + m) (by rw [hl2.out]; omega)
                    rw [hg2.out (n + m) (by omega), if_neg (by omega)] at c0
                    have c1 := (hB.cell (p := ⟨0, m, none⟩) hw0).trans (hG.2 m (by omega))
                    have f0 : wr.frozen? ⟨g, n + m, none⟩ = false := frozen_of_row _ _ _ _ _ hI
                    have hset := fun x => hI.set (n + m) x (by rw [hl2.out]; omega)
                    have HSt := hid (fun t => show (n ≤ t ∧ t < n + (m + 1)) ↔ (t = n + m ∨ (n ≤ t ∧ t < n + m)) by omega)
                    have HD := hid (show dvI.getD (n + m - n) 0 = dvI.getD m 0 by congr 1; omega)
                    generalize hxx : os.getD (n + m) 0 = xx at *
                    generalize hyy : dvI.getD m 0 = yy at *
                    have HXX := hid hxx
                    have HYY := hid hyy
                    clear hxx hyy
                    have c0' : wr.cell? ⟨g, ((n : Int) + (m : Int)).toNat, none⟩ = some (.int .u8 xx) := by rw [j5]; exact c0
                    have hne : g ≠ 0 := by omega
                    go_wp2
                    refine wp_region_noPanic ?_
                    go_region
                    all_goals refine NoPanic.normal ?_
                    all_goals go_wp2
                    all_goals go_roundw
                    case rel =>
                      refine ⟨m + 1, by omega, by go_num, (hB.setCell (by show w.heap.size ≤ g; omega) _).drew, ot.set (n + m) (bits .xor .u8 xx yy), hset _, by rw [List.length_set]; exact hl2.out, fun t ht => ?_⟩
                      rw [getD_set _ _ _ _ (by rw [hl2.out]; omega)]
                      by_cases h1 : t = n + m
                      · subst h1; rw [if_pos rfl, if_pos ((HSt.out _).2 (Or.inl rfl)), HXX.out, HD.out]
                      · rw [if_neg h1, hg2.out t ht]
                        by_cases h2 : n ≤ t ∧ t < n + m
                        · rw [if_pos h2, if_pos ((HSt.out _).2 (Or.inr h2))]
                        · rw [if_neg h2, if_neg (fun h => by rcases (HSt.out _).1 h with h | h; exact h1 h; exact h2 h)]
                    case measure => simp [intOf]; omega
                  · obtain rfl : m = 33 := by omega
                    clear hltm
                    have HI2 := hid (show ∀ t, n + 1 ≤ t → t < k + 32 → ot.getD t 0 = ((cellAt F (rg s F (n + 1)) (n + 1) t : Nat) : Int) from fun t h1 h2 => by
                      rw [HRs.out, HN1.out t h1, hg2.out t h2, hg.out t (by omega) h2]
                      by_cases h3 : t < n + 33
                      · rw [if_pos ⟨by omega, h3⟩, if_pos h3, dvI_eq (t - n) (by omega)]
                        have a1 := cellAt_lt F hF (rg s F n) n t
                        have a2 := dv_lt (t - n) (by omega)
                        exact xor_u8d _ _ (by omega) (by omega)
                      · rw [if_neg (by omega), if_neg h3])
                    go_wp2
                    go_roundw
                    case rel => exact ⟨n + 1, by omega, by go_num, hB, ot, hI, hl2.out, HI2.out⟩
                    case measure => simp [intOf]; omega
              · rw [h1] at c0
                have HI2 := hid (show ∀ t, n + 1 ≤ t → t < k + 32 → os.getD t 0 = ((cellAt F (rg s F (n + 1)) (n + 1) t : Nat) : Int) from fun t h1' h2 => by
                  rw [HRs.out, HN0.out h1 t h1', hg.out t (by omega) h2])
                clear HN0 HN1 h1 hc2
                go_wp2
                go_roundw
                case rel => exact ⟨n + 1, by omega, by go_num, hB, os, hI, hl.out, HI2.out⟩
                case measure => simp [intOf]; omega
            · obtain rfl : n = k := by omega
              clear hlt
              have HRk := hid HR.out
              have hRl := HRl.out n
              have hg5 := hid (fun m (h : m < 32) => show os.getD (n + m) 0 = ((rg s F n >>> m % 2 : Nat) : Int) by
                rw [hg.out (n + m) (by omega) (by omega), cellAt, HP'.out (n + m) (by omega), Nat.zero_xor, show n + m - n = m by omega])
              generalize rg s F n = R at *
              clear hg
              go_wp2
              go_loopw [11, 12] (fun x i wr => ∃ m : Nat, m ≤ 32 ∧ i = .int .i64 m ∧ x = .int .u32 ((R % 2 ^ m : Nat) : Int) ∧ In wr g rest os ∧ Below w.heap.size w wr) (fun _ i _ => 32 - (intOf i).toNat)
              case atStart => exact ⟨0, by omega, rfl, by simp [Nat.mod_one], hI, hB⟩
              case round =>
                clear hI hB
                obtain ⟨m, hm, rfl, rfl, hI, hB⟩ := hrel
                by_cases hlt : m < 32
                · have i1 : (m : Int) < 32 := by omega
                  have i2 : (n : Int) + (m : Int) < (n : Int) + 32 := by omega
                  have i3 : (0 : Int) ≤ (n : Int) + (m : Int) := by omega
                  have i4 : IntKind.i64.wrap ((n : Int) + (m : Int)) = (n : Int) + (m : Int) := wrap_i64_id _ (by omega) (by omega)
                  have i5 : ((n : Int) + (m : Int)).toNat = n + m := by omega
                  have c0 := hI.cell (n + m) (by rw [hl.out]; omega)
                  rw [hg5.out m hlt] at c0
                  have hbt : R >>> m % 2 < 2 := m2 _
                  have hml : R % 2 ^ m < 4294967296 := Nat.lt_of_le_of_lt (Nat.mod_le _ _) hRl
                  have HO := hid (mod_or R m)
                  have hp2 : 2 ^ m < 4294967296 := (Nat.pow_lt_pow_iff_right (a := 2) (n := m) (m := 32) (by decide)).2 hlt
                  have e0 : (2 : Int) ^ m = ((2 ^ m : Nat) : Int) := by push_cast; rfl
                  generalize R % 2 ^ m = q at *
                  generalize R >>> m % 2 = bm at *
                  have hbl : bm * 2 ^ m < 4294967296 := by
                    rcases (show bm = 0 ∨ bm = 1 by omega) with rfl | rfl
                    · simp
                    · rw [Nat.one_mul]; exact hp2
                  have e1 : (bm : Int) * (2 : Int) ^ m = ((bm * 2 ^ m : Nat) : Int) := by push_cast; rfl
                  have e2 : IntKind.u32.wrap ((bm : Int) * (2 : Int) ^ m) = ((bm * 2 ^ m : Nat) : Int) := by rw [e1, IntKind.wrap_u32]; exact Int.emod_eq_of_lt (Int.natCast_nonneg _) (by have : ((bm * 2 ^ m : Nat) : Int) < ((4294967296 : Nat) : Int) := Int.ofNat_lt.2 hbl; simpa using this)
                  have e3 : (bm : Int) * (2 : Int) ^ m % 4294967296 = ((bm * 2 ^ m : Nat) : Int) := by rw [IntKind.wrap_u32] at e2; exact e2
                  have e4 := or_u32 q (bm * 2 ^ m) hml hbl
                  generalize bm * 2 ^ m = z at *
                  have j1 : (bm : Int) < 2 := by omega
                  clear e1 e0
                  go_wp2
                  go_roundw
                  case rel => exact ⟨m + 1, by omega, by go_num, by rw [← HO.out], hI, hB⟩
                  case measure => simp [intOf]; omega
                · obtain rfl : m = 32 := by omega
                  clear hlt
                  have HM := hid (show R % 2 ^ 32 = R from Nat.mod_eq_of_lt hRl)
                  rw [HM.out, HRk.out]
                  go_wp2
                  go_ret
                  exact ⟨rfl, hB⟩

theorem not_u32c (a : Nat) (ha : a < 4294967296) : bits .xor .u32 4294967295 (a : Int) = ((inv a : Nat) : Int) := not_u32 a ha
set_option maxRecDepth 100000 in
set_option maxHeartbeats 400000 in
theorem rsum_any (w : World) (hG : Gl w) (zs : List Int) (h8 : Byts zs) (sp : Option Addr) (cap : Nat) (hS : Src w sp cap zs) (hlen : zs.length ≤ 1048576) :
    Calls Tryd.prog 44 #[.slice sp zs.length cap] w fun e w' => e = .returned (.int .u32 (sumF zs)) ∧ Below w.heap.size w w' := by
  have hl : (4294967295 : Nat) < 4294967296 := by decide
  have e1 := not_u32 _ (feed_lt zs h8 4294967295 hl)
  have e2 := not_u32m _ (feed_lt zs h8 4294967295 hl)
  have hsg : IntKind.u32.signed = false := rfl
  have HS := hid (show sumF zs = inv (feed 4294967295 zs) by rw [sumF, updF, show inv 0 = 4294967295 by decide +kernel])
  go_enter Tryd.func44, Tryd.ntmps44
  go_wp2_with fail
  refine (divide_any w hG 4294967295 hl zs h8 sp cap hS hlen).mono ?_
  rintro e w' ⟨rfl, hB⟩
  generalize feed 4294967295 zs = f at *
  go_wp2
  go_ret
  exact ⟨by rw [HS.out]; rfl, hB⟩
end Go.Proofs.YtaefjlbonflmdaaDoor
namespace Go.Proofs.YtaefjlbonflmdaaDoor
set_option linter.unusedVariables false
set_option linter.unusedSimpArgs false
open Go.RowKit
attribute [local go_sem ↓] Go.wp_at_zero Go.wp_at_succ

theorem sbF_getS : ∀ (s m : Nat), m < 4 → (sbF s).getD m 0 = (s : Int) / (2 : Int) ^ (8 * m) % 256 := by
  intro s m hm
  match m, hm with
  | 0, _ => simp [sbF]
  | 1, _ => simp [sbF]
  | 2, _ => simp [sbF]
  | 3, _ => simp [sbF]
theorem take_snocD (l : List Int) (k : Nat) (h : k < l.length) : l.take (k + 1) = l.take k ++ [l.getD k 0] := by
  rw [List.take_succ_eq_append_getElem h, List.getD_eq_getElem?_getD, List.getElem?_eq_getElem h]; rfl
set_option maxRecDepth 100000 in
set_option maxHeartbeats 400000 in
theorem rseal_any (w : World) (hG : Gl w) (zs : List Int) (h8 : Byts zs) (sp : Option Addr) (cap : Nat) (hS : Src w sp cap zs) (hlen : zs.length ≤ 1048576) :
    Calls Tryd.prog 23 #[.slice sp zs.length cap] w fun e w' => ∃ v, e = .returned v ∧ Own w' w.heap.size v (sealF zs) ∧ Below w.heap.size w w' := by
  have i0 : (zs.length : Int) ≤ 1048576 := by omega
  go_enter Tryd.func23, Tryd.ntmps23
  go_wp2_with fail
  refine (rsum_any w hG zs h8 sp cap hS hlen).mono ?_
  rintro e w1 ⟨rfl, b1⟩
  obtain ⟨hc, hm, b, o, hb, hsp, hsrc⟩ := hS
  have hO : Own w1 w.heap.size (.slice none 0 0) [] := Own.nil _ _
  have hsl := hid (sbF_len (sumF zs))
  have HS := hid (show sealF zs = zs ++ sbF (sumF zs) from rfl)
  have hsg := hid (sbF_getS (sumF zs))
  go_wp2
  go_loopw [4, 5] (fun v i wr => ∃ k : Nat, k ≤ zs.length ∧ i = .int .i64 k ∧ Own wr w.heap.size v (zs.take k) ∧ Below w.heap.size w wr) (fun _ i _ => zs.length - (intOf i).toNat)
  case atStart => exact ⟨0, by omega, rfl, hO, b1⟩
  case round =>
    clear hO b1
    obtain ⟨k, hk, rfl, hO, hB⟩ := hrel
    by_cases hlt : k < zs.length
    · have i1 : (k : Int) < (zs.length : Int) := by omega
      obtain rfl := hsp (by omega)
      have c0 := (hB.cell (p := ⟨b, o + k, none⟩) (hb (by omega))).trans (hsrc k hlt)
      have HT := hid (take_snocD zs k hlt)
      have KL := hid (show (zs.take k).length + 1 ≤ 140737488355328 by rw [List.length_take]; omega)
      generalize zs.getD k 0 = x at *
      generalize zs.take k = zk at *
      go_wp2_with (first | (at_builtin; refine wpList_push_any rfl (.tmp 15) (.tmp 20) rfl w.heap.size _ _ x rfl hO rfl KL.out hB.size _ _ ?_; intro v2 w2 hO2 hB2))
      go_roundw
      case rel => exact ⟨k + 1, by omega, by go_num, (by rw [HT.out]; exact hO2), hB.trans hB2⟩
      case measure => simp [intOf]; omega
    · obtain rfl : k = zs.length := by omega
      clear hlt
      rw [List.take_length] at hO
      go_wp2
      go_loopw [4, 6] (fun v i wr => ∃ m : Nat, m ≤ 4 ∧ i = .int .i64 m ∧ Own wr w.heap.size v (zs ++ (sbF (sumF zs)).take m) ∧ Below w.heap.size w wr) (fun _ i _ => 4 - (intOf i).toNat)
      case atStart => exact ⟨0, by omega, rfl, by rw [List.take_zero, List.append_nil]; exact hO, hB⟩
      case round =>
        clear hO hB
        obtain ⟨m, hm4, rfl, hO, hB⟩ := hrel
        by_cases hlt : m < 4
        · have j1 : (m : Int) < 4 := by omega
          obtain ⟨z, hz⟩ : ∃ z, z = (sbF (sumF zs)).getD m 0 := ⟨_, rfl⟩
          have e1 : ((sumF zs : Nat) : Int) / (2 : Int) ^ (8 * m) % 256 = z := by rw [hz, hsg.out m hlt]
          have HT := hid (show zs ++ (sbF (sumF zs)).take (m + 1) = zs ++ (sbF (sumF zs)).take m ++ [z] by rw [take_snocD _ m (by rw [hsl.out]; exact hlt), ← hz, List.append_assoc])
          have KL := hid (show (zs ++ (sbF (sumF zs)).take m).length + 1 ≤ 140737488355328 by rw [List.length_append, List.length_take]; omega)
          clear hz
          generalize zs ++ (sbF (sumF zs)).take m = tb at *
          go_wp2_with (first | (at_builtin; refine wpList_push_any rfl (.tmp 26) (.tmp 33) rfl w.heap.size _ _ z rfl hO rfl KL.out hB.size _ _ ?_; intro v2 w2 hO2 hB2))
          go_roundw
          case rel => exact ⟨m + 1, by omega, by go_num, (by rw [HT.out]; exact hO2), hB.trans hB2⟩
          case measure => simp [intOf]; omega
        · obtain rfl : m = 4 := by omega
          clear hlt
          rw [List.take_of_length_le (by rw [hsl.out]; exact Nat.le_refl _), ← HS.out] at hO
          go_wp2
          go_ret
          exact ⟨_, rfl, hO, hB⟩
end Go.Proofs.YtaefjlbonflmdaaDoor
namespace Go.Proofs.YtaefjlbonflmdaaDoor
set_option linter.unusedVariables false
set_option linter.unusedSimpArgs false
open Go.RowKit
attribute [local go_sem ↓] Go.wp_at_zero Go.wp_at_succ

theorem sbF_get : ∀ (s m : Nat), m < 4 → (sbF s).getD m 0 = (s : Int) / (2 : Int) ^ (8 * m) % 256 := by
  intro s m hm
  match m, hm with
  | 0, _ => simp [sbF]
  | 1, _ => simp [sbF]
  | 2, _ => simp [sbF]
  | 3, _ => simp [sbF]
end Go.Proofs.YtaefjlbonflmdaaDoor
