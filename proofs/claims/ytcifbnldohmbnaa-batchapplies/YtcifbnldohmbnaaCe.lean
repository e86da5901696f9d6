import Derived.Test.YtcifbnldohmbnaaCd
namespace Go.Proofs.Ytcifbnldohmbnaa
set_option linter.unusedVariables false
set_option linter.unusedSimpArgs false
open Go.RowKit
attribute [local go_sem ↓] Go.wp_at_zero Go.wp_at_succ

/-- How many first bits two keys share. -/
structure ComK (z y : List Int) (n : Nat) : Prop where
  le : n ≤ 256
  same : ∀ h, h < n → bitK z h = bitK y h
  split : n < 256 → bitK z n ≠ bitK y n
  all : n = 256 → z = y
  order : n < 256 → cmpK z y = bitK z n - bitK y n
theorem ComK.unique {z y : List Int} {n m : Nat} (h : ComK z y n) (k : ComK z y m) : n = m := by
  have h1 := h.le
  have k1 := k.le
  rcases Nat.lt_trichotomy n m with hlt | rfl | hlt
  · exact absurd (k.same n hlt) (h.split (by omega))
  · rfl
  · exact absurd (h.same m hlt) (k.split (by omega))
theorem bitK_bit {k : List Int} {x : Nat} {j p : Nat} (hx : k.getD j 0 = (x : Int)) (hp : p < 8) : bitK k (8 * j + p) = ((x.testBit (7 - p)).toNat : Int) := by
  unfold bitK
  rw [show (8 * j + p) / 8 = j by omega, show (8 * j + p) % 8 = p by omega, hx, ← bit_mod]
  simp
theorem toNat_inj {a b : Bool} (h : (a.toNat : Int) = b.toNat) : a = b := by cases a <;> cases b <;> simp at h ⊢
theorem comK_at {z y : List Int} (hz : Byts z) (hy : Byts y) (lz : z.length = 32) (ly : y.length = 32) {j : Nat} (hj : j < 32) (h : ∀ i, i < j → z.getD i 0 = y.getD i 0) (hne : z.getD j 0 ≠ y.getD j 0) {a b : Nat} (ha : z.getD j 0 = (a : Int)) (hb : y.getD j 0 = (b : Int)) : ComK z y (8 * j + lz8 (a ^^^ b)) := by
  have ra := hz.get j
  have rb := hy.get j
  obtain ⟨l1, l2, l3, l4⟩ := lz8_two (x := a) (y := b) (by omega) (by omega) (by rintro rfl; exact hne (ha.trans hb.symm))
  generalize lz8 (a ^^^ b) = l at *
  refine ⟨by omega, fun q hq => ?_, fun _ => ?_, fun h => by omega, fun _ => ?_⟩
  · by_cases hq8 : q < 8 * j
    · unfold bitK; rw [h (q / 8) (by omega)]
    · have e : q = 8 * j + (q - 8 * j) := by omega
      rw [e, bitK_bit ha (by omega), bitK_bit hb (by omega), l3 _ (by omega)]
  · rw [bitK_bit ha l1, bitK_bit hb l1]
    exact fun e => l2 (toNat_inj e)
  · rw [bitK_bit ha l1, bitK_bit hb l1, cmpK_at j z y (by omega) (by omega) h hne, ha, hb]
    cases hx : a.testBit (7 - l) with
    | false =>
      have hlt := l4.2 hx
      have hy' : b.testBit (7 - l) = true := by cases hh : b.testBit (7 - l) with | true => rfl | false => rw [hx, hh] at l2; exact absurd rfl l2
      rw [hy', if_pos (by omega)]; rfl
    | true =>
      have hlt : ¬ a < b := fun hh => by have := l4.1 hh; rw [hx] at this; cases this
      have hy' : b.testBit (7 - l) = false := by cases hh : b.testBit (7 - l) with | false => rfl | true => rw [hx, hh] at l2; exact absurd rfl l2
      rw [hy', if_neg (by omega)]; rfl
theorem comK_all {z : List Int} : ComK z z 256 := ⟨by omega, fun _ _ => rfl, fun h => by omega, fun _ => rfl, fun h => by omega⟩
theorem xor_u8 (a b : Nat) (ha : a < 256) (hb : b < 256) : bits .xor .u8 (a : Int) (b : Int) = ((a ^^^ b : Nat) : Int) := by
  have hx : a ^^^ b < 2 ^ 8 := Nat.xor_lt_two_pow (by omega) (by omega)
  have h1 : (BitVec.ofInt 8 (a : Int)).toNat = a := by
    rw [BitVec.ofInt_natCast, BitVec.toNat_ofNat]; exact Nat.mod_eq_of_lt (by omega)
  have h2 : (BitVec.ofInt 8 (b : Int)).toNat = b := by
    rw [BitVec.ofInt_natCast, BitVec.toNat_ofNat]; exact Nat.mod_eq_of_lt (by omega)
  show IntKind.u8.wrap ((BitVec.ofInt 8 (a : Int) ^^^ BitVec.ofInt 8 (b : Int)).toNat : Int) = _
  rw [BitVec.toNat_xor, h1, h2, IntKind.wrap_u8]
  omega
set_option maxRecDepth 100000 in
set_option maxHeartbeats 400000 in
theorem Common_any (w : World) (z y : List Int) (hz : Byts z) (hy : Byts y) (lz : z.length = 32) (ly : y.length = 32) :
    Calls Try.prog 11 #[.agg (ints .u8 z).toArray, .agg (ints .u8 y).toArray] w fun e w' => ∃ n : Nat, e = .returned (.int .i64 n) ∧ ComK z y n ∧ Below w.heap.size w w' := by
  have c1 : ∀ j, j < 32 → ((w.alloc (.cells (ints .u8 z).toArray 24)).alloc (.cells (ints .u8 y).toArray 24)).cell? ⟨w.heap.size, j, none⟩ = some (.int .u8 (z.getD j 0)) := fun j hj => cell_ints (hold (hnew w _)) j (by omega)
  have c2 : ∀ j, j < 32 → ((w.alloc (.cells (ints .u8 z).toArray 24)).alloc (.cells (ints .u8 y).toArray 24)).cell? ⟨w.heap.size + 1, j, none⟩ = some (.int .u8 (y.getD j 0)) := fun j hj => cell_ints (by have := hnew (w.alloc (.cells (ints .u8 z).toArray 24)) (.cells (ints .u8 y).toArray 24); simpa using this) j (by omega)
  have hB : Below w.heap.size w ((w.alloc (.cells (ints .u8 z).toArray 24)).alloc (.cells (ints .u8 y).toArray 24)) := ((Below.refl _ _).alloc (Nat.le_refl _) _).alloc (by simp) _
  have hs : ((w.alloc (.cells (ints .u8 z).toArray 24)).alloc (.cells (ints .u8 y).toArray 24)).heap.size = w.heap.size + 1 + 1 := by simp
  go_enter Try.func11, Try.ntmps11
  go_wp2
  generalize ((w.alloc (.cells (ints .u8 z).toArray 24)).alloc (.cells (ints .u8 y).toArray 24)) = w0 at *
  generalize (ints .u8 z).toArray = Z at *
  generalize (ints .u8 y).toArray = Y at *
  go_loopw [6] (fun i wr => ∃ j : Nat, j ≤ 32 ∧ i = .int .i64 j ∧ (∀ i, i < j → z.getD i 0 = y.getD i 0) ∧ Below w0.heap.size w0 wr) (fun i _ => 32 - (intOf i).toNat)
  case atStart => exact ⟨0, by omega, rfl, fun i hi => by omega, Below.refl _ _⟩
  case round =>
    obtain ⟨j, hj, rfl, hsame, hBr⟩ := hrel
    by_cases hlt : j < 32
    · have i1 : (j : Int) < 32 := by omega
      have d1 := (hBr.cell (p := ⟨w.heap.size, j, none⟩) (by show w.heap.size < w0.heap.size; omega)).trans (c1 j hlt)
      have d2 := (hBr.cell (p := ⟨w.heap.size + 1, j, none⟩) (by show w.heap.size + 1 < w0.heap.size; omega)).trans (c2 j hlt)
      have ra := hz.get j
      have rb := hy.get j
      obtain ⟨a, ha⟩ := Int.eq_ofNat_of_zero_le ra.1
      obtain ⟨b, hb⟩ := Int.eq_ofNat_of_zero_le rb.1
      have hB2 := hB.trans (hBr.mono hB.size)
      by_cases hne : z.getD j 0 = y.getD j 0
      · have hab : a = b := by omega
        subst hab
        rw [ha] at d1
        rw [hb] at d2
        clear c1 c2 ra rb hs
        go_wp2
        go_quiet (fail)
        go_wp2
        go_roundw
        case rel => exact ⟨j + 1, by omega, by go_num, (fun i hi => by rcases Nat.lt_succ_iff_lt_or_eq.1 hi with h | rfl; exact hsame i h; exact hne), below_drewN hBr _⟩
        case measure => simp [intOf]; omega
      · have hcom := comK_at hz hy lz ly hlt hsame hne ha hb
        have hab : ¬ ((a : Int) = (b : Int)) := by omega
        have hx := xor_u8 a b (by omega) (by omega)
        have hl8 := (lz8_two (x := a) (y := b) (by omega) (by omega) (by omega)).1
        have hxl : a ^^^ b < 256 := Nat.xor_lt_two_pow (n := 8) (by omega) (by omega)
        have KC := hid (fun w => lz8_any w (a ^^^ b) hxl)
        rw [ha] at d1
        rw [hb] at d2
        clear c1 c2 ra rb hs hsame hne ha hb
        generalize a ^^^ b = x at *
        generalize lz8 x = l at *
        have i2 : (l : Int) < 8 := by omega
        go_wp2
        go_quiet (fail)
        go_wp2
        go_quiet (first | (go_at_call 35; exact (KC.out _).mono (fun _ _ ⟨he, hm⟩ => ⟨he, _, hm⟩)))
        go_wp2
        go_ret
        refine ⟨8 * j + l, ?_, hcom, below_drewN (below_drewN hB2 _) _⟩
        simp
    · obtain rfl : j = 32 := by omega
      have e : z = y := cmpK_all (by omega) fun i hi => hsame i (by omega)
      clear hlt c1 c2
      go_wp2
      go_ret
      exact ⟨256, rfl, (by rw [e]; exact comK_all), hB.trans (hBr.mono hB.size)⟩
theorem wp_at {P : Program} {c : Code} {Q : Exit → Act → World → Prop} {a : Act} {w : World} (w0 : World) (h : w0 = w) (k : Code.wp P c Q a w0) : Code.wp P c Q a w := h ▸ k
theorem hlt_ {w : World} {x : Obj} {i : Nat} (hx : w.heap[i]? = some x) : i < w.heap.size := hlt hx
theorem keySize : (Try.prog.info? 24).map (·.size) = some 32 := by kernel_rfl
theorem heapKey3 (w : World) (A B C : Obj) : (((w.alloc A).alloc B).alloc C).heap.size = w.heap.size + 1 + 1 + 1 := by simp
theorem hnew2 (w : World) (A B : Obj) : ((w.alloc A).alloc B).heap[w.heap.size + 1]? = some B := by have := hnew (w.alloc A) B; simpa using this
theorem hold2 (w : World) (A B : Obj) : ((w.alloc A).alloc B).heap[w.heap.size]? = some A := hold (hnew w A)
theorem setRow_alloc2 (w : World) (A : Obj) (cs ds : Array Value) (t : TypeId) (fr : Nat × Nat) : ((w.alloc A).alloc (.cells cs t fr)).setRow (w.heap.size + 1) ds = (w.alloc A).alloc (.cells ds t fr) := by
  have := setRow_alloc (w.alloc A) cs ds t fr; simpa using this
theorem keyGuard : Try.prog.eqGuardType Try.prog.depth 24 = false := by kernel_rfl
theorem key_eq (k y : List Int) (hk : k.length = 32) (hy : y.length = 32) (w : World) : (Op.equalIn 10000 24 (.agg (ints .u8 k).toArray) (.agg (ints .u8 y).toArray)).run Try.prog w = .ok (decide (k = y)) w :=
  equalIn_ints Try.underlying24 Try.underlying5 Try.size5 .u8 k y hk hy w
end Go.Proofs.Ytcifbnldohmbnaa
