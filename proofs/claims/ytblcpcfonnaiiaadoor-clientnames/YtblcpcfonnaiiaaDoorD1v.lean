import Derived.Test.YtblcpcfonnaiiaaDoorD1k
namespace Go.Proofs.YtblcpcfonnaiiaaDoor
set_option linter.unusedVariables false
set_option linter.unusedSimpArgs false
open Go.RowKit
attribute [local go_sem ↓] Go.wp_at_zero Go.wp_at_succ

theorem bits_or_comm (x y : Int) : bits .or .u32 x y = bits .or .u32 y x := by
  simp only [bits]; rw [BitVec.or_comm]
set_option maxRecDepth 100000 in
set_option maxHeartbeats 400000 in
theorem rturn_any (x : Int) (n : Nat) (hx : 0 ≤ x) (hx2 : x ≤ 4294967295) (hn : 1 ≤ n) (hn2 : n ≤ 31) (w : World) :
    Calls Tryd.prog 59 #[.int .u32 x, .int .u64 n] w fun e w' => e = .returned (.int .u32 (ror x n)) ∧ w' = w := by
  have i1 : (1 : Int) ≤ n := by omega
  have i2 : (n : Int) ≤ 31 := by omega
  go_enter Tryd.func59, Tryd.ntmps59
  go_wp2
  go_ret
  exact ⟨by rw [ror, bits_or_comm]; rfl, rfl⟩

theorem rturnI_any (x k : Int) (hx : 0 ≤ x) (hx2 : x ≤ 4294967295) (hk : 1 ≤ k) (hk2 : k ≤ 31) (w : World) :
    Calls Tryd.prog 59 #[.int .u32 x, .int .u64 k] w fun e w' => e = .returned (.int .u32 (ror x k.toNat)) ∧ w' = w := by
  obtain ⟨n, rfl⟩ := Int.eq_ofNat_of_zero_le (by omega : 0 ≤ k)
  exact rturn_any x n hx hx2 (by omega) (by omega) w
/-- The bytes of a block of a list. -/
def blk (l : List Int) (at_ : Nat) : List Int := (l.drop at_).take 64
theorem blk_len (l : List Int) (a : Nat) (h : a + 64 ≤ l.length) : (blk l a).length = 64 := by simp [blk]; omega
theorem blk_get (l : List Int) (a j : Nat) (hj : j < 64) : (blk l a)[j]?.getD 0 = l.getD (a + j) 0 := by
  simp [blk, List.getElem?_take, hj]

set_option maxRecDepth 100000 in
set_option maxHeartbeats 1000000 in
theorem words_any (w : World) (l : List Int) (sp : Option Addr) (cap : Nat) (hS : Src w sp cap l) (a : Nat) (ha : a + 64 ≤ l.length) :
    Calls Tryd.prog 48 #[.slice sp l.length cap, .int .i64 a] w fun e w' => e = .returned (.agg (ints .u32 (sched (blk l a))).toArray) ∧ Below w.heap.size w w' := by
  obtain ⟨hc, hm, b, o, hb0, hsp, hsrc⟩ := hS
  have hb := hb0 (by omega)
  clear hb0
  unfold maxLen at hm
  obtain rfl := hsp (by omega)
  have i0 : (l.length : Int) ≤ 9223372036854775807 := by omega
  have i00 : (a : Int) + 64 ≤ (l.length : Int) := by omega
  go_enter Tryd.func48, Tryd.ntmps48
  go_wp2
  go_loopw [6, 7] (fun i _ wr => ∃ n : Nat, n ≤ 16 ∧ i = .int .i64 n ∧ wr.heap[w.heap.size]? = some (Obj.cells (ints .u32 (padz [] 64)).toArray 85) ∧ wr.heap[w.heap.size + 1]? = some (Obj.cells (ints .u32 (padz (w16 (blk l a) n) 64)).toArray 85) ∧ Below w.heap.size w wr) (fun i _ _ => 16 - (intOf i).toNat)
  case atStart => exact ⟨0, by omega, rfl, heap_alloc2_old w _ _, heap_alloc2_new w _ _, ((Below.refl _ _).alloc (Nat.le_refl _) _).alloc (by simp) _⟩
  case round =>
    obtain ⟨n, hn, rfl, h2, h3, hB⟩ := hrel
    by_cases hnl : n < 16
    · have i1 : (n : Int) < 16 := by omega
      have cb : ∀ j : Nat, j < 4 → wr.cell? ⟨b, o + ((a : Int) + 4 * (n : Int) + (j : Int)).toNat, none⟩ = some (.int .u8 ((blk l a)[(4 * n + j : Nat)]?.getD 0)) := fun j hj => by
        rw [show ((a : Int) + 4 * (n : Int) + (j : Int)).toNat = a + (4 * n + j) by omega, blk_get l a (4 * n + j) (by omega)]
        exact (hB.cell (p := ⟨b, o + (a + (4 * n + j)), none⟩) hb).trans (hsrc _ (by omega))
      have c0 := cb 0 (by omega)
      have c1 : wr.cell? ⟨b, o + ((a : Int) + 4 * (n : Int) + 1).toNat, none⟩ = some (.int .u8 ((blk l a)[(4 * n + 1 : Nat)]?.getD 0)) := cb 1 (by omega)
      have c2 : wr.cell? ⟨b, o + ((a : Int) + 4 * (n : Int) + 2).toNat, none⟩ = some (.int .u8 ((blk l a)[(4 * n + 2 : Nat)]?.getD 0)) := cb 2 (by omega)
      have c3 : wr.cell? ⟨b, o + ((a : Int) + 4 * (n : Int) + 3).toNat, none⟩ = some (.int .u8 ((blk l a)[(4 * n + 3 : Nat)]?.getD 0)) := cb 3 (by omega)
      simp only [Int.natCast_zero, Int.add_zero, Nat.add_zero] at c0
      clear cb
      have c4 := cell_ints h3 n (by rw [padz_len _ _ (by rw [w16_len]; omega)]; omega)
      have f4 : wr.frozen? ⟨w.heap.size + 1, n, none⟩ = false := frozen_of_row _ _ _ _ _ h3
      have j0 : (0 : Int) ≤ (a : Int) + 4 * (n : Int) := by omega
      have j1 : (0 : Int) ≤ (a : Int) + 4 * (n : Int) + 1 := by omega
      have j2 : (0 : Int) ≤ (a : Int) + 4 * (n : Int) + 2 := by omega
      have j3 : (0 : Int) ≤ (a : Int) + 4 * (n : Int) + 3 := by omega
      have k0 : (a : Int) + 4 * (n : Int) < (l.length : Int) := by omega
      have k1 : (a : Int) + 4 * (n : Int) + 1 < (l.length : Int) := by omega
      have k2 : (a : Int) + 4 * (n : Int) + 2 < (l.length : Int) := by omega
      have k3 : (a : Int) + 4 * (n : Int) + 3 < (l.length : Int) := by omega
      have k4 : (n : Int) < 64 := by omega
      have r1 : IntKind.i64.wrap ((a : Int) + 4 * (n : Int) + 1) = (a : Int) + 4 * (n : Int) + 1 := wrap_i64_id _ (by omega) (by omega)
      have r2 : IntKind.i64.wrap ((a : Int) + 4 * (n : Int) + 2) = (a : Int) + 4 * (n : Int) + 2 := wrap_i64_id _ (by omega) (by omega)
      have r3 : IntKind.i64.wrap ((a : Int) + 4 * (n : Int) + 3) = (a : Int) + 4 * (n : Int) + 3 := wrap_i64_id _ (by omega) (by omega)
      have hne : w.heap.size + 1 ≠ b := by omega
      go_wp2
      go_region_held3 (fun w' => w'.cell? ⟨b, o + ((a : Int) + 4 * (n : Int)).toNat, none⟩ = some (.int .u8 ((blk l a)[(4 * n : Nat)]?.getD 0)) ∧ w'.cell? ⟨b, o + ((a : Int) + 4 * (n : Int) + 1).toNat, none⟩ = some (.int .u8 ((blk l a)[(4 * n + 1 : Nat)]?.getD 0)) ∧ w'.cell? ⟨b, o + ((a : Int) + 4 * (n : Int) + 2).toNat, none⟩ = some (.int .u8 ((blk l a)[(4 * n + 2 : Nat)]?.getD 0)) ∧ w'.cell? ⟨b, o + ((a : Int) + 4 * (n : Int) + 3).toNat, none⟩ = some (.int .u8 ((blk l a)[(4 * n + 3 : Nat)]?.getD 0))) (go_keep) (fail)
      go_wp2
      go_roundw
      case rel => exact ⟨n + 1, by omega, by go_num, heap_set_far h2 _ _ (by show w.heap.size ≠ w.heap.size + 1; omega), (by have := heap_set_ints h3 n (word4 ((blk l a)[(4 * n : Nat)]?.getD 0) ((blk l a)[(4 * n + 1 : Nat)]?.getD 0) ((blk l a)[(4 * n + 2 : Nat)]?.getD 0) ((blk l a)[(4 * n + 3 : Nat)]?.getD 0)); rw [w16_succ, ← padz_set _ _ _ (by rw [w16_len]; omega), w16_len]; exact this), (hB.setCell (by simp) _).drew⟩
      case measure => simp [intOf]; omega
    · obtain rfl : n = 16 := by omega
      clear hnl hsrc
      go_wp2
      obtain ⟨wo, ho⟩ : ∃ wo : World, wo = wr := ⟨_, rfl⟩
      clear ho
      go_loopw [8, 9, 10] (fun i _ _ wr => ∃ n : Nat, n ≤ 48 ∧ i = .int .i64 (16 + n : Nat) ∧ wr.heap[w.heap.size]? = some (Obj.cells (ints .u32 (padz [] 64)).toArray 85) ∧ wr.heap[w.heap.size + 1]? = some (Obj.cells (ints .u32 (padz (schedTo (blk l a) n) 64)).toArray 85) ∧ Below w.heap.size w wr) (fun i _ _ _ => 64 - (intOf i).toNat)
      case atStart => exact ⟨0, by omega, rfl, h2, h3, hB⟩
      case round =>
        clear h2 h3 hB
        obtain ⟨n, hn, rfl, h2, h3, hB⟩ := hrel
        have hlen := schedTo_len (blk l a) n
        have hbd := schedTo_bd (blk l a) n
        by_cases hnl : n < 48
        · have HN := hid (show schedTo (blk l a) (n + 1) = schedTo (blk l a) n ++ [nextW (schedTo (blk l a) n) (16 + n)] from rfl)
          generalize schedTo (blk l a) n = v at *
          obtain ⟨t, ht⟩ : ∃ t : Nat, t = 16 + n := ⟨_, rfl⟩
          rw [← ht] at hlen HN ⊢
          have t1 : 16 ≤ t := by omega
          have t2 : t < 64 := by omega
          have HT := hid ht
          clear ht
          have i1 : (16 : Int) ≤ t := by omega
          have i2 : (t : Int) < 64 := by omega
          have c2 : wr.cell? ⟨w.heap.size + 1, ((t : Int) - 2).toNat, none⟩ = some (.int .u32 (v[t - 2]?.getD 0)) := by rw [show ((t : Int) - 2).toNat = t - 2 by omega]; exact cell_padz h3 (by omega) (t - 2) (by omega)
          have c7 : wr.cell? ⟨w.heap.size + 1, ((t : Int) - 7).toNat, none⟩ = some (.int .u32 (v[t - 7]?.getD 0)) := by rw [show ((t : Int) - 7).toNat = t - 7 by omega]; exact cell_padz h3 (by omega) (t - 7) (by omega)
          have c15 : wr.cell? ⟨w.heap.size + 1, ((t : Int) - 15).toNat, none⟩ = some (.int .u32 (v[t - 15]?.getD 0)) := by rw [show ((t : Int) - 15).toNat = t - 15 by omega]; exact cell_padz h3 (by omega) (t - 15) (by omega)
          have c16 : wr.cell? ⟨w.heap.size + 1, ((t : Int) - 16).toNat, none⟩ = some (.int .u32 (v[t - 16]?.getD 0)) := by rw [show ((t : Int) - 16).toNat = t - 16 by omega]; exact cell_padz h3 (by omega) (t - 16) (by omega)
          have cT := cell_ints h3 t (by rw [padz_len _ _ (by omega)]; omega)
          have fT : wr.frozen? ⟨w.heap.size + 1, t, none⟩ = false := frozen_of_row _ _ _ _ _ h3
          have j2 : (2 : Int) ≤ (t : Int) := by omega
          have j7 : (7 : Int) ≤ (t : Int) := by omega
          have j15 : (15 : Int) ≤ (t : Int) := by omega
          have k2 : (t : Int) - 2 < 64 := by omega
          have k7 : (t : Int) - 7 < 64 := by omega
          have k15 : (t : Int) - 15 < 64 := by omega
          have k16 : (t : Int) - 16 < 64 := by omega
          have r2 : IntKind.i64.wrap ((t : Int) - 2) = (t : Int) - 2 := wrap_i64_id _ (by omega) (by omega)
          have r7 : IntKind.i64.wrap ((t : Int) - 7) = (t : Int) - 7 := wrap_i64_id _ (by omega) (by omega)
          have r15 : IntKind.i64.wrap ((t : Int) - 15) = (t : Int) - 15 := wrap_i64_id _ (by omega) (by omega)
          have r16 : IntKind.i64.wrap ((t : Int) - 16) = (t : Int) - 16 := wrap_i64_id _ (by omega) (by omega)
          have b2 := hbd (t - 2)
          have b15 := hbd (t - 15)
          obtain ⟨b20, b21⟩ := b2
          obtain ⟨b150, b151⟩ := b15
          clear hbd
          go_wp2
          go_region_held3 (fun w' => w'.cell? ⟨w.heap.size + 1, ((t : Int) - 2).toNat, none⟩ = some (.int .u32 (v[t - 2]?.getD 0))) (first | (simp [*]; done))
            (first | (go_at_call 59; refine (rturnI_any _ _ b20 b21 (by decide) (by decide) _).mono ?_; rintro e w' ⟨rfl, rfl⟩))
          go_wp2
          go_region_held3 (fun w' => w'.cell? ⟨w.heap.size + 1, ((t : Int) - 15).toNat, none⟩ = some (.int .u32 (v[t - 15]?.getD 0))) (first | (simp [*]; done))
            (first | (go_at_call 59; refine (rturnI_any _ _ b150 b151 (by decide) (by decide) _).mono ?_; rintro e w' ⟨rfl, rfl⟩))
          go_wp2
          go_region_held3 (fun w' => w'.cell? ⟨w.heap.size + 1, ((t : Int) - 7).toNat, none⟩ = some (.int .u32 (v[t - 7]?.getD 0)) ∧ w'.cell? ⟨w.heap.size + 1, ((t : Int) - 16).toNat, none⟩ = some (.int .u32 (v[t - 16]?.getD 0)))
            (first | (simp [*]; done) | (refine ⟨?_, ?_⟩ <;> (show World.cell? (World.setCell _ _ _) _ = _; rw [World.cell?_setCell_other _ _ _ _ (by intro h; injection h; omega)]; assumption))) (fail)
          go_wp2
          go_roundw
          case rel => first | exact ⟨n + 1, by omega, by rw [show 16 + (n + 1) = t + 1 by have := HT.out; omega]; go_num, heap_set_far h2 _ _ (by show w.heap.size ≠ w.heap.size + 1; omega), (by have := heap_set_ints h3 t (nextW v t); rw [HN.out, ← padz_set _ _ _ (by omega), hlen]; exact this), (hB.setCell (by simp) _).drew.drew.drew⟩ | ((repeat apply Exists.intro); exact ⟨⟨n + 1, by omega, by rw [show 16 + (n + 1) = t + 1 by have := HT.out; omega]; go_num, heap_set_far h2 _ _ (by show w.heap.size ≠ w.heap.size + 1; omega), (by have := heap_set_ints h3 t (nextW v t); rw [HN.out, ← padz_set _ _ _ (by omega), hlen]; exact this), (hB.setCell (by simp) _).drew.drew.drew⟩, rfl⟩)
          case measure => simp [intOf]; omega
        · obtain rfl : n = 48 := by omega
          rw [padz_full _ _ hlen] at h3
          have hsc : schedTo (blk l a) 48 = sched (blk l a) := rfl
          rw [hsc] at h3 hlen
          clear hsc hnl hbd
          have ho := all_oneCell_toArray (ints_one .u32 (sched (blk l a)))
          have hZ : (padz [] 64).length = 64 := padz_len [] 64 (by simp)
          generalize padz [] 64 = Z at *
          go_wp2_with (first | refine wpList_load_row rfl 85 _ rfl _ rfl 85 _ _ _ h3 Tryd.underlying85 rfl (by rw [Tryd.size85, ints_size, hlen]) ?_ | refine wpList_store_row rfl 85 _ _ rfl _ _ rfl rfl 85 _ h2 (by rw [Tryd.size85, ints_size, hlen]) (by rw [ints_size, ints_size, hlen, hZ]) ho ?_)
          exact bodyPost_ret (v := .agg (ints .u32 (sched (blk l a))).toArray) (results_cell_row Tryd.results48 _ _ w.heap.size 85 _ _ _ rfl (setRow_heap _ _ _ _ _ _ h2) Tryd.underlying85 rfl (by rw [Tryd.size85, ints_size, hlen])) rfl ⟨rfl, below_setRow hB (Nat.le_refl _) _⟩
end Go.Proofs.YtblcpcfonnaiiaaDoor
