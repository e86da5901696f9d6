import Derived.Test.YtcifbnldohmbnabCe
namespace Go.Proofs.Ytcifbnldohmbnab
set_option linter.unusedVariables false
set_option linter.unusedSimpArgs false
open Go.RowKit
attribute [local go_sem ↓] Go.wp_at_zero Go.wp_at_succ

theorem half' (x : Int) (m : Nat) : x / 2 ^ m / 2 = x / 2 ^ (m + 1) := by
  have : (0 : Int) < 2 ^ m := Int.pow_pos (by decide)
  rw [Int.pow_succ, Int.ediv_ediv, if_neg (fun h => by omega), Int.sub_zero]
set_option maxRecDepth 100000 in
set_option maxHeartbeats 400000 in
theorem rBit_in (w : World) (k : List Int) (hk : k.length = 32) (hb : Byts k) (i : Nat) (hi : i < 256) :
    Calls Try.prog 15 #[.agg (ints .u8 k).toArray, .int .i64 i] w fun e w' => e = .returned (.int .i64 (bitK k i)) ∧ Below w.heap.size w w' := by
  have i1 : (i : Int) < 256 := by omega
  have hx := hb.get (i / 8)
  go_enter Try.func15, Try.ntmps15
  have c0 : (w.alloc (.cells (ints .u8 k).toArray 26)).cell? ⟨w.heap.size, i / 8, none⟩ = some (.int .u8 (k.getD (i / 8) 0)) := cell_ints (hnew w _) (i / 8) (by omega)
  have hB : Below w.heap.size w (w.alloc (.cells (ints .u8 k).toArray 26)) := (Below.refl _ _).alloc (Nat.le_refl _) _
  have HB := hid (show bitK k i = k.getD (i / 8) 0 / 2 ^ (7 - i % 8) % 2 from rfl)
  generalize bitK k i = bt at *
  generalize k.getD (i / 8) 0 = x at *
  generalize (ints .u8 k).toArray = Z at *
  have i2 : x < 256 := hx.2
  have i3 : 0 ≤ x := hx.1
  go_wp2
  generalize w.alloc (.cells Z 26) = w0 at *
  go_loopw [5, 6] (fun v j wr => ∃ t : Nat, t ≤ 7 - i % 8 ∧ v = .int .i64 (x / 2 ^ t) ∧ j = .int .i64 ((i % 8 + t : Nat) : Int) ∧ wr = w0) (fun _ j _ => 7 - (intOf j).toNat)
  case atStart => exact ⟨0, by omega, by simp [wrap64], by simp, rfl⟩
  case round =>
    obtain ⟨t, ht, rfl, rfl, rfl⟩ := hrel
    have hs := shr_bd i3 i2 t
    have HH := hid (half' x t)
    by_cases hlt : t < 7 - i % 8
    · have j1 : ((i % 8 + t : Nat) : Int) < 7 := by omega
      generalize x / 2 ^ t = y at *
      generalize hp : i % 8 + t = p at *
      have j2 : 0 ≤ y := hs.1
      have j3 : y < 256 := hs.2
      go_wp2
      go_roundw
      case rel => exact ⟨t + 1, by omega, (by rw [← HH.out]), by rw [← Nat.add_assoc, hp]; simp, trivial⟩
      case measure => simp [intOf]; omega
    · obtain rfl : t = 7 - i % 8 := by omega
      have j1 : ¬ ((i % 8 + (7 - i % 8) : Nat) : Int) < 7 := by omega
      have HB' := hid HB.out
      generalize x / 2 ^ (7 - i % 8) = y at *
      generalize i % 8 + (7 - i % 8) = p at *
      have j2 : 0 ≤ y := hs.1
      have j3 : y < 256 := hs.2
      go_wp2
      go_ret
      exact ⟨by rw [HB'.out]; rfl, hB⟩
set_option maxRecDepth 100000 in
set_option maxHeartbeats 400000 in
theorem rBit_out (w : World) (k : List Int) (hk : k.length = 32) (i : Int) (hi : i < 0 ∨ 256 ≤ i) :
    Calls Try.prog 15 #[.agg (ints .u8 k).toArray, .int .i64 i] w fun e w' => e = .returned (.int .i64 0) ∧ Below w.heap.size w w' := by
  rcases hi with hi | hi
  · go_enter Try.func15, Try.ntmps15
    go_wp2
    go_ret
    exact ⟨rfl, (Below.refl _ _).alloc (Nat.le_refl _) _⟩
  · have hi2 : ¬ i < 0 := by omega
    have hi3 : 255 < i := by omega
    go_enter Try.func15, Try.ntmps15
    go_wp2
    go_ret
    exact ⟨rfl, (Below.refl _ _).alloc (Nat.le_refl _) _⟩
set_option maxRecDepth 100000 in
set_option maxHeartbeats 400000 in
theorem rCompare_any (w : World) (z y : List Int) (hz : Byts z) (hy : Byts y) (lz : z.length = 32) (ly : y.length = 32) :
    Calls Try.prog 19 #[.agg (ints .u8 z).toArray, .agg (ints .u8 y).toArray] w fun e w' => e = .returned (.int .i64 (cmpK z y)) ∧ Below w.heap.size w w' := by
  have c1 : ∀ j, j < 32 → ((w.alloc (.cells (ints .u8 z).toArray 26)).alloc (.cells (ints .u8 y).toArray 26)).cell? ⟨w.heap.size, j, none⟩ = some (.int .u8 (z.getD j 0)) := fun j hj => cell_ints (hold (hnew w _)) j (by omega)
  have c2 : ∀ j, j < 32 → ((w.alloc (.cells (ints .u8 z).toArray 26)).alloc (.cells (ints .u8 y).toArray 26)).cell? ⟨w.heap.size + 1, j, none⟩ = some (.int .u8 (y.getD j 0)) := fun j hj => cell_ints (hnew2 w _ _) j (by omega)
  have hB : Below w.heap.size w ((w.alloc (.cells (ints .u8 z).toArray 26)).alloc (.cells (ints .u8 y).toArray 26)) := ((Below.refl _ _).alloc (Nat.le_refl _) _).alloc (by simp) _
  have hs : ((w.alloc (.cells (ints .u8 z).toArray 26)).alloc (.cells (ints .u8 y).toArray 26)).heap.size = w.heap.size + 1 + 1 := by simp
  go_enter Try.func19, Try.ntmps19
  go_wp2
  generalize ((w.alloc (.cells (ints .u8 z).toArray 26)).alloc (.cells (ints .u8 y).toArray 26)) = w0 at *
  generalize (ints .u8 z).toArray = Z at *
  generalize (ints .u8 y).toArray = Y at *
  go_loopw [5] (fun i wr => ∃ j : Nat, j ≤ 32 ∧ i = .int .i64 j ∧ (∀ i, i < j → z.getD i 0 = y.getD i 0) ∧ Below w0.heap.size w0 wr) (fun i _ => 32 - (intOf i).toNat)
  case atStart => exact ⟨0, by omega, rfl, fun i hi => by omega, Below.refl _ _⟩
  case round =>
    obtain ⟨j, hj, rfl, hsame, hBr⟩ := hrel
    by_cases hlt : j < 32
    · have i1 : (j : Int) < 32 := by omega
      have d1 := (hBr.cell (p := ⟨w.heap.size, j, none⟩) (by show w.heap.size < w0.heap.size; omega)).trans (c1 j hlt)
      have d2 := (hBr.cell (p := ⟨w.heap.size + 1, j, none⟩) (by show w.heap.size + 1 < w0.heap.size; omega)).trans (c2 j hlt)
      have hB2 := hB.trans (hBr.mono hB.size)
      by_cases hne : z.getD j 0 = y.getD j 0
      · have HS := hid (show ∀ i, i < j + 1 → z.getD i 0 = y.getD i 0 from fun i hi => by rcases Nat.lt_succ_iff_lt_or_eq.1 hi with h | rfl; exact hsame i h; exact hne)
        rw [hne] at d1
        clear c1 c2 hs hsame hne
        generalize y.getD j 0 = x at *
        go_wp2
        go_quiet (fail)
        go_wp2
        go_roundw
        case rel => exact ⟨j + 1, by omega, by go_num, HS.out, below_drewN hBr _⟩
        case measure => simp [intOf]; omega
      · have HC := hid (cmpK_at j z y (by omega) (by omega) hsame hne)
        clear c1 c2 hs hsame
        generalize y.getD j 0 = x at *
        generalize z.getD j 0 = x' at *
        by_cases hl : x' < x
        · go_wp2
          go_quiet (fail)
          go_wp2
          go_quiet (fail)
          go_wp2
          go_ret
          exact ⟨by rw [HC.out, if_pos hl]; rfl, below_drewN (below_drewN hB2 _) _⟩
        · go_wp2
          go_quiet (fail)
          go_wp2
          go_quiet (fail)
          go_wp2
          go_ret
          exact ⟨by rw [HC.out, if_neg (by omega)]; rfl, below_drewN (below_drewN hB2 _) _⟩
    · obtain rfl : j = 32 := by omega
      have e : z = y := cmpK_all (by omega) fun i hi => hsame i (by omega)
      have HC := hid (show cmpK z y = 0 by rw [e, cmpK_self])
      clear hlt c1 c2 e
      go_wp2
      go_ret
      exact ⟨by rw [HC.out]; rfl, hB.trans (hBr.mono hB.size)⟩
set_option maxRecDepth 100000 in
set_option maxHeartbeats 400000 in
theorem rCommon_any (w : World) (z y : List Int) (hz : Byts z) (hy : Byts y) (lz : z.length = 32) (ly : y.length = 32) (n : Nat) (hC : ComK z y n) :
    Calls Try.prog 17 #[.agg (ints .u8 z).toArray, .agg (ints .u8 y).toArray] w fun e w' => e = .returned (.int .i64 n) ∧ Below w.heap.size w w' := by
  have hB : Below w.heap.size w ((w.alloc (.cells (ints .u8 z).toArray 26)).alloc (.cells (ints .u8 y).toArray 26)) := ((Below.refl _ _).alloc (Nat.le_refl _) _).alloc (by simp) _
  have g1 := hold2 w (.cells (ints .u8 z).toArray 26) (.cells (ints .u8 y).toArray 26)
  have g2 := hnew2 w (.cells (ints .u8 z).toArray 26) (.cells (ints .u8 y).toArray 26)
  have SZ := hid (show (ints .u8 z).toArray.size = 32 by simp [lz, ints])
  have SY := hid (show (ints .u8 y).toArray.size = 32 by simp [ly, ints])
  have hn := hC.le
  go_enter Try.func17, Try.ntmps17
  go_wp2
  generalize ((w.alloc (.cells (ints .u8 z).toArray 26)).alloc (.cells (ints .u8 y).toArray 26)) = w0 at *
  generalize hN : w.heap.size = N at *
  go_loopw [5] (fun i wr => ∃ j : Nat, j ≤ n ∧ i = .int .i64 j ∧ wr.heap[N]? = some (.cells (ints .u8 z).toArray 26) ∧ wr.heap[N + 1]? = some (.cells (ints .u8 y).toArray 26) ∧ Below N w wr) (fun i _ => 256 - (intOf i).toNat)
  case atStart => exact ⟨0, by omega, rfl, g1, g2, hB⟩
  case round =>
    clear g1 g2 hB
    obtain ⟨j, hj, rfl, g1, g2, hB⟩ := hrel
    by_cases hlt : j < 256
    · have i1 : (j : Int) < 256 := by omega
      have KA := hid (fun w => rBit_in w z lz hz j hlt)
      have KB := hid (fun w => rBit_in w y ly hy j hlt)
      have HD := hid (show (bitK z j = bitK y j ∧ j < n) ∨ (bitK z j ≠ bitK y j ∧ j = n) by
        by_cases h : j < n
        · exact Or.inl ⟨hC.same j h, h⟩
        · obtain rfl : j = n := by omega
          exact Or.inr ⟨hC.split hlt, rfl⟩)
      generalize bitK z j = bz at *
      generalize bitK y j = bY at *
      go_wp2_with (first | refine wpList_load_row rfl 26 _ rfl _ rfl 26 _ _ _ (by exact g1) Try.underlying26 rfl (by rw [keySize, SZ.out]) ?_)
      refine (KA.out _).mono ?_
      rintro e w1 ⟨rfl, hB1⟩
      have f1 := hbel hB1 g1 (hlt_ g1)
      have f2 := hbel hB1 g2 (hlt_ g2)
      have f3 : Below N w w1 := hB.trans (hB1.mono (by have := hlt_ g1; omega))
      clear g1 g2 hB hB1 KA
      go_wp2_with (first | refine wpList_load_row rfl 26 _ rfl _ rfl 26 _ _ _ (by exact f2) Try.underlying26 rfl (by rw [keySize, SY.out]) ?_)
      refine (KB.out _).mono ?_
      rintro e w2 ⟨rfl, hB1⟩
      have g1 := hbel hB1 f1 (hlt_ f1)
      have g2 := hbel hB1 f2 (hlt_ f2)
      have g3 : Below N w w2 := f3.trans (hB1.mono (by have := hlt_ f1; omega))
      clear f1 f2 f3 hB1 KB
      rcases HD.out with ⟨h1, h2⟩ | ⟨h1, h2⟩
      · subst h1
        clear HD
        go_wp2
        go_roundw
        case rel => exact ⟨j + 1, by omega, by go_num, g1, g2, g3⟩
        case measure => simp [intOf]; omega
      · clear HD
        subst h2
        go_wp2
        go_ret
        exact ⟨rfl, by rw [hN]; exact g3⟩
    · obtain rfl : j = 256 := by omega
      obtain rfl : n = 256 := by omega
      clear hlt
      go_wp2
      go_ret
      exact ⟨rfl, by rw [hN]; exact hB⟩
end Go.Proofs.Ytcifbnldohmbnab
