import Derived.Test.YtbjahdbmkcamoaaGreatDoorNb
import Derived.Test.YtbjahdbmkcamoaaGreatDoorVa9
namespace Go.Proofs.YtbjahdbmkcamoaaGreatDoor
set_option linter.unusedVariables false
set_option linter.unusedSimpArgs false
open Go.RowKit
attribute [local go_sem ↓] Go.wp_at_zero Go.wp_at_succ

theorem bits_or_comm (x y : Int) : bits .or .u32 x y = bits .or .u32 y x := by
  simp only [bits]; rw [BitVec.or_comm]
set_option maxRecDepth 100000 in
set_option maxHeartbeats 400000 in
theorem rturn_any (x : Int) (n : Nat) (hx : 0 ≤ x) (hx2 : x ≤ 4294967295) (hn : 1 ≤ n) (hn2 : n ≤ 31) (w : World) :
    Calls Tryz.prog 93 #[.int .u32 x, .int .u64 n] w fun e w' => e = .returned (.int .u32 (ror x n)) ∧ w' = w := by
  have i1 : (1 : Int) ≤ n := by omega
  have i2 : (n : Int) ≤ 31 := by omega
  go_enter Tryz.func93, Tryz.ntmps93
  go_wp2
  go_ret
  exact ⟨by rw [ror, bits_or_comm]; rfl, rfl⟩

theorem rturnI_any (x k : Int) (hx : 0 ≤ x) (hx2 : x ≤ 4294967295) (hk : 1 ≤ k) (hk2 : k ≤ 31) (w : World) :
    Calls Tryz.prog 93 #[.int .u32 x, .int .u64 k] w fun e w' => e = .returned (.int .u32 (ror x k.toNat)) ∧ w' = w := by
  obtain ⟨n, rfl⟩ := Int.eq_ofNat_of_zero_le (by omega : 0 ≤ k)
  exact rturn_any x n hx hx2 (by omega) (by omega) w
/-- The bytes of a block of a list. -/
def blk (l : List Int) (at_ : Nat) : List Int := (l.drop at_).take 64
theorem blk_len (l : List Int) (a : Nat) (h : a + 64 ≤ l.length) : (blk l a).length = 64 := by simp [blk]; omega
theorem blk_get (l : List Int) (a j : Nat) (hj : j < 64) : (blk l a)[j]?.getD 0 = l.getD (a + j) 0 := by
  simp [blk, List.getElem?_take, hj]

set_option maxRecDepth 100000 in
set_option maxHeartbeats 1000000 in
theorem words_any (w : World) (l : List Int) (sp : Option Addr) (cap : Nat) (hS : Src w sp cap l) (a : Nat) (ha : a + 64 ≤ l.length) :
    Calls Tryz.prog 80 #[.slice sp l.length cap, .int .i64 a] w fun e w' => e = .returned (.agg (ints .u32 (sched (blk l a))).toArray) ∧ Below w.heap.size w w' := by
  obtain ⟨hc, hm, b, o, hb0, hsp, hsrc⟩ := hS
  have hb := hb0 (by omega)
  clear hb0
  unfold maxLen at hm
  obtain rfl := hsp (by omega)
  have i0 : (l.length : Int) ≤ 9223372036854775807 := by omega
  have i00 : (a : Int) + 64 ≤ (l.length : Int) := by omega
  go_enter Tryz.func80, Tryz.ntmps80
  go_wp2
  go_loopw [6, 7] (fun i _ wr => ∃ n : Nat, n ≤ 16 ∧ i = .int .i64 n ∧ wr.heap[w.heap.size]? = some (Obj.cells (ints .u32 (padz [] 64)).toArray 120) ∧ wr.heap[w.heap.size + 1]? = some (Obj.cells (ints .u32 (padz (w16 (blk l a) n) 64)).toArray 120) ∧ Below w.heap.size w wr) (fun i _ _ => 16 - (intOf i).toNat)
  case atStart => exact ⟨0, by omega, rfl, heap_alloc2_old w _ _, heap_alloc2_new w _ _, ((Below.refl _ _).alloc (Nat.le_refl _) _).alloc (by simp) _⟩
  case round =>
    obtain ⟨n, hn, rfl, h2, h3, hB⟩ := hrel
    by_cases hnl : n < 16
    · have i1 : (n : Int) < 16 := by omega
      have cb : ∀ j : Nat, j < 4 → wr.cell? ⟨b, o + ((a : Int) + 4 * (n : Int) + (j : Int)).toNat, none⟩ = some (.int .u8 ((blk l a)[(4 * n + j : Nat)]?.getD 0)) := fun j hj => by
        rw [show ((a : Int) + 4 * (n : Int) + (j : Int)).toNat = a + (4 * n + j) by omega, blk_get l a (4 * n + j) (by omega)]
        exact (hB.cell (p := ⟨b, o + (a + (4 * n + j)), none⟩) hb).trans (hsrc _ (by omega))
      have c0 := cb 0 (by omega)
      have c1 : wr.cell? ⟨b, o + ((a : Int) + 4 * (n : Int) + 1).toNat, none⟩ = some (.int .u8 ((blk l a)[(4 * n + 1 : Nat)]?.getD 0)) := cb 1 (by omega)
      have c2 : wr.cell? ⟨b, o + ((a : Int) + 4 * (n : Int) + 2).toNat, none⟩ = some (.int .u8 ((blk l a)[(4 * n + 2 : Nat)]?.getD 0)) := cb 2 (by omega)
      have c3 : wr.cell? ⟨b, o + ((a : Int) + 4 * (n : Int) + 3).toNat, none⟩ = some (.int .u8 ((blk l a)[(4 * n + 3 : Nat)]?.getD 0)) := cb 3 (by omega)
      simp only [Int.natCast_zero, Int.add_zero, Nat.add_zero] at c0
      clear cb
      have c4 := cell_ints h3 n (by rw [padz_len _ _ (by rw [w16_len]; omega)]; omega)
      have f4 : wr.frozen? ⟨w.heap.size + 1, n, none⟩ = false := frozen_of_row _ _ _ _ _ h3
      have j0 : (0 : Int) ≤ (a : Int) + 4 * (n : Int) := by omega
      have j1 : (0 : Int) ≤ (a : Int) + 4 * (n : Int) + 1 := by omega
      have j2 : (0 : Int) ≤ (a : Int) + 4 * (n : Int) + 2 := by omega
      have j3 : (0 : Int) ≤ (a : Int) + 4 * (n : Int) + 3 := by omega
      have k0 : (a : Int) + 4 * (n : Int) < (l.length : Int) := by omega
      have k1 : (a : Int) + 4 * (n : Int) + 1 < (l.length : Int) := by omega
      have k2 : (a : Int) + 4 * (n : Int) + 2 < (l.length : Int) := by omega
      have k3 : (a : Int) + 4 * (n : Int) + 3 < (l.length : Int) := by omega
      have k4 : (n : Int) < 64 := by omega
      have r1 : IntKind.i64.wrap ((a : Int) + 4 * (n : Int) + 1) = (a : Int) + 4 * (n : Int) + 1 := wrap_i64_id _ (by omega) (by omega)
      have r2 : IntKind.i64.wrap ((a : Int) + 4 * (n : Int) + 2) = (a : Int) + 4 * (n : Int) + 2 := wrap_i64_id _ (by omega) (by omega)
      have r3 : IntKind.i64.wrap ((a : Int) + 4 * (n : Int) + 3) = (a : Int) + 4 * (n : Int) + 3 := wrap_i64_id _ (by omega) (by omega)
      have hne : w.heap.size + 1 ≠ b := by omega
      go_wp2
      go_region_held3 (fun w' => w'.cell? ⟨b, o + ((a : Int) + 4 * (n : Int)).toNat, none⟩ = some (.int .u8 ((blk l a)[(4 * n : Nat)]?.getD 0)) ∧ w'.cell? ⟨b, o + ((a : Int) + 4 * (n : Int) + 1).toNat, none⟩ = some (.int .u8 ((blk l a)[(4 * n + 1 : Nat)]?.getD 0)) ∧ w'.cell? ⟨b, o + ((a : Int) + 4 * (n : Int) + 2).toNat, none⟩ = some (.int .u8 ((blk l a)[(4 * n + 2 : Nat)]?.getD 0)) ∧ w'.cell? ⟨b, o + ((a : Int) + 4 * (n : Int) + 3).toNat, none⟩ = some (.int .u8 ((blk l a)[(4 * n + 3 : Nat)]?.getD 0))) (go_keep) (fail)
      go_wp2
      go_roundw
      case rel => exact ⟨n + 1, by omega, by go_num, heap_set_far h2 _ _ (by show w.heap.size ≠ w.heap.size + 1; omega), (by have := heap_set_ints h3 n (word4 ((blk l a)[(4 * n : Nat)]?.getD 0) ((blk l a)[(4 * n + 1 : Nat)]?.getD 0) ((blk l a)[(4 * n + 2 : Nat)]?.getD 0) ((blk l a)[(4 * n + 3 : Nat)]?.getD 0)); rw [w16_succ, ← padz_set _ _ _ (by rw [w16_len]; omega), w16_len]; exact this), (hB.setCell (by simp) _).drew⟩
      case measure => simp [intOf]; omega
    · obtain rfl : n = 16 := by omega
      clear hnl hsrc
      go_wp2
      obtain ⟨wo, ho⟩ : ∃ wo : World, wo = wr := ⟨_, rfl⟩
      clear ho
      go_loopw [8, 9, 10] (fun i _ _ wr => ∃ n : Nat, n ≤ 48 ∧ i = .int .i64 (16 + n : Nat) ∧ wr.heap[w.heap.size]? = some (Obj.cells (ints .u32 (padz [] 64)).toArray 120) ∧ wr.heap[w.heap.size + 1]? = some (Obj.cells (ints .u32 (padz (schedTo (blk l a) n) 64)).toArray 120) ∧ Below w.heap.size w wr) (fun i _ _ _ => 64 - (intOf i).toNat)
      case atStart => exact ⟨0, by omega, rfl, h2, h3, hB⟩
      case round =>
        clear h2 h3 hB
        obtain ⟨n, hn, rfl, h2, h3, hB⟩ := hrel
        have hlen := schedTo_len (blk l a) n
        have hbd := schedTo_bd (blk l a) n
        by_cases hnl : n < 48
        · have HN := hid (show schedTo (blk l a) (n + 1) = schedTo (blk l a) n ++ [nextW (schedTo (blk l a) n) (16 + n)] from rfl)
          generalize schedTo (blk l a) n = v at *
          obtain ⟨t, ht⟩ : ∃ t : Nat, t = 16 + n := ⟨_, rfl⟩
          rw [← ht] at hlen HN ⊢
          have t1 : 16 ≤ t := by omega
          have t2 : t < 64 := by omega
          have HT := hid ht
          clear ht
          have i1 : (16 : Int) ≤ t := by omega
          have i2 : (t : Int) < 64 := by omega
          have c2 : wr.cell? ⟨w.heap.size + 1, ((t : Int) - 2).toNat, none⟩ = some (.int .u32 (v[t - 2]?.getD 0)) := by rw [show ((t : Int) - 2).toNat = t - 2 by omega]; exact cell_padz h3 (by omega) (t - 2) (by omega)
          have c7 : wr.cell? ⟨w.heap.size + 1, ((t : Int) - 7).toNat, none⟩ = some (.int .u32 (v[t - 7]?.getD 0)) := by rw [show ((t : Int) - 7).toNat = t - 7 by omega]; exact cell_padz h3 (by omega) (t - 7) (by omega)
          have c15 : wr.cell? ⟨w.heap.size + 1, ((t : Int) - 15).toNat, none⟩ = some (.int .u32 (v[t - 15]?.getD 0)) := by rw [show ((t : Int) - 15).toNat = t - 15 by omega]; exact cell_padz h3 (by omega) (t - 15) (by omega)
          have c16 : wr.cell? ⟨w.heap.size + 1, ((t : Int) - 16).toNat, none⟩ = some (.int .u32 (v[t - 16]?.getD 0)) := by rw [show ((t : Int) - 16).toNat = t - 16 by omega]; exact cell_padz h3 (by omega) (t - 16) (by omega)
          have cT := cell_ints h3 t (by rw [padz_len _ _ (by omega)]; omega)
          have fT : wr.frozen? ⟨w.heap.size + 1, t, none⟩ = false := frozen_of_row _ _ _ _ _ h3
          have j2 : (2 : Int) ≤ (t : Int) := by omega
          have j7 : (7 : Int) ≤ (t : Int) := by omega
          have j15 : (15 : Int) ≤ (t : Int) := by omega
          have k2 : (t : Int) - 2 < 64 := by omega
          have k7 : (t : Int) - 7 < 64 := by omega
          have k15 : (t : Int) - 15 < 64 := by omega
          have k16 : (t : Int) - 16 < 64 := by omega
          have r2 : IntKind.i64.wrap ((t : Int) - 2) = (t : Int) - 2 := wrap_i64_id _ (by omega) (by omega)
          have r7 : IntKind.i64.wrap ((t : Int) - 7) = (t : Int) - 7 := wrap_i64_id _ (by omega) (by omega)
          have r15 : IntKind.i64.wrap ((t : Int) - 15) = (t : Int) - 15 := wrap_i64_id _ (by omega) (by omega)
          have r16 : IntKind.i64.wrap ((t : Int) - 16) = (t : Int) - 16 := wrap_i64_id _ (by omega) (by omega)
          have b2 := hbd (t - 2)
          have b15 := hbd (t - 15)
          obtain ⟨b20, b21⟩ := b2
          obtain ⟨b150, b151⟩ := b15
          clear hbd
          go_wp2
          go_region_held3 (fun w' => w'.cell? ⟨w.heap.size + 1, ((t : Int) - 2).toNat, none⟩ = some (.int .u32 (v[t - 2]?.getD 0))) (first | (simp [*]; done))
            (first | (go_at_call 93; refine (rturnI_any _ _ b20 b21 (by decide) (by decide) _).mono ?_; rintro e w' ⟨rfl, rfl⟩))
          go_wp2
          go_region_held3 (fun w' => w'.cell? ⟨w.heap.size + 1, ((t : Int) - 15).toNat, none⟩ = some (.int .u32 (v[t - 15]?.getD 0))) (first | (simp [*]; done))
            (first | (go_at_call 93; refine (rturnI_any _ _ b150 b151 (by decide) (by decide) _).mono ?_; rintro e w' ⟨rfl, rfl⟩))
          go_wp2
          go_region_held3 (fun w' => w'.cell? ⟨w.heap.size + 1, ((t : Int) - 7).toNat, none⟩ = some (.int .u32 (v[t - 7]?.getD 0)) ∧ w'.cell? ⟨w.heap.size + 1, ((t : Int) - 16).toNat, none⟩ = some (.int .u32 (v[t - 16]?.getD 0)))
            (first | (simp [*]; done) | (refine ⟨?_, ?_⟩ <;> (show World.cell? (World.setCell _ _ _) _ = _; rw [World.cell?_setCell_other _ _ _ _ (by intro h; injection h; omega)]; assumption))) (fail)
          go_wp2
          go_roundw
          case rel => first | exact ⟨n + 1, by omega, by rw [show 16 + (n + 1) = t + 1 by have := HT.out; omega]; go_num, heap_set_far h2 _ _ (by show w.heap.size ≠ w.heap.size + 1; omega), (by have := heap_set_ints h3 t (nextW v t); rw [HN.out, ← padz_set _ _ _ (by omega), hlen]; exact this), (hB.setCell (by simp) _).drew.drew.drew⟩ | ((repeat apply Exists.intro); exact ⟨⟨n + 1, by omega, by rw [show 16 + (n + 1) = t + 1 by have := HT.out; omega]; go_num, heap_set_far h2 _ _ (by show w.heap.size ≠ w.heap.size + 1; omega), (by have := heap_set_ints h3 t (nextW v t); rw [HN.out, ← padz_set _ _ _ (by omega), hlen]; exact this), (hB.setCell (by simp) _).drew.drew.drew⟩, rfl⟩)
          case measure => simp [intOf]; omega
        · obtain rfl : n = 48 := by omega
          rw [padz_full _ _ hlen] at h3
          have hsc : schedTo (blk l a) 48 = sched (blk l a) := rfl
          rw [hsc] at h3 hlen
          clear hsc hnl hbd
          have ho := all_oneCell_toArray (ints_one .u32 (sched (blk l a)))
          have hZ : (padz [] 64).length = 64 := padz_len [] 64 (by simp)
          generalize padz [] 64 = Z at *
          go_wp2_with (first | refine wpList_load_row rfl 120 _ rfl _ rfl 120 _ _ _ h3 Tryz.underlying120 rfl (by rw [Tryz.size120, ints_size, hlen]) ?_ | refine wpList_store_row rfl 120 _ _ rfl _ _ rfl rfl 120 _ h2 (by rw [Tryz.size120, ints_size, hlen]) (by rw [ints_size, ints_size, hlen, hZ]) ho ?_)
          exact bodyPost_ret (v := .agg (ints .u32 (sched (blk l a))).toArray) (results_cell_row Tryz.results80 _ _ w.heap.size 120 _ _ _ rfl (setRow_heap _ _ _ _ _ _ h2) Tryz.underlying120 rfl (by rw [Tryz.size120, ints_size, hlen])) rfl ⟨rfl, below_setRow hB (Nat.le_refl _) _⟩
end Go.Proofs.YtbjahdbmkcamoaaGreatDoor
namespace Go.Proofs.YtbjahdbmkcamoaaGreatDoor
set_option linter.unusedVariables false
set_option linter.unusedSimpArgs false
open Go.RowKit
attribute [local go_sem ↓] Go.wp_at_zero Go.wp_at_succ

/-- The document's own two tables lie in memory. -/
def GlobR (w : World) : Prop := w.rangeAt 3 0 (ints .u32 kTab) ∧ w.rangeAt 1 0 (ints .u32 fTab)
theorem GlobR.below {w w1 : World} {B : Nat} (h : GlobR w) (hb : Below B w w1) (hB : 4 ≤ B) : GlobR w1 := ⟨rng_below h.1 hb (by omega), rng_below h.2 hb (by omega)⟩
theorem GlobR.k {w : World} (h : GlobR w) : ∀ j, j < 64 → w.cell? ⟨3, j, none⟩ = some (.int .u32 (kTab[j]?.getD 0)) := fun j hj => by
  have := h.1 j (.int .u32 (kTab[j]?.getD 0)) (by have := ints_get .u32 kTab j (by rw [kTab_len]; exact hj); simpa using this)
  rwa [Nat.zero_add] at this
theorem wrap_assoc (x y z : Int) : IntKind.u32.wrap (IntKind.u32.wrap (x + y) + z) = IntKind.u32.wrap (x + IntKind.u32.wrap (y + z)) := by
  simp only [IntKind.wrap_u32]; omega
theorem heap4_3 (w : World) (A B C D : Obj) : ((((w.alloc A).alloc B).alloc C).alloc D).heap[w.heap.size + 1 + 1 + 1]? = some D := by
  have := hnew (((w.alloc A).alloc B).alloc C) D
  simpa using this

/-- Three blocks as they were, the fourth holds a list. -/
def Q4 (w : World) (N : Nat) (q0 q1 q2 : Obj) (zs : List Int) (wr : World) : Prop := wr.heap[N]? = some q0 ∧ wr.heap[N + 1]? = some q1 ∧ wr.heap[N + 1 + 1]? = some q2 ∧ wr.heap[N + 1 + 1 + 1]? = some (Obj.cells (ints .u32 zs).toArray 97) ∧ Below N w wr
theorem Q4.set {w : World} {N : Nat} {q0 q1 q2 : Obj} {zs : List Int} {wr : World} (h : Q4 w N q0 q1 q2 zs wr) (j : Nat) (x : Int) : Q4 w N q0 q1 q2 (zs.set j x) (wr.setCell ⟨N + 1 + 1 + 1, j, none⟩ (.int .u32 x)) :=
  ⟨heap_set_far h.1 _ _ (by show N ≠ N + 1 + 1 + 1; omega), heap_set_far h.2.1 _ _ (by show N + 1 ≠ N + 1 + 1 + 1; omega), heap_set_far h.2.2.1 _ _ (by show N + 1 + 1 ≠ N + 1 + 1 + 1; omega), heap_set_ints h.2.2.2.1 j x, h.2.2.2.2.setCell (by show N ≤ N + 1 + 1 + 1; omega) _⟩
theorem Q4.drew {w : World} {N : Nat} {q0 q1 q2 : Obj} {zs : List Int} {wr : World} (h : Q4 w N q0 q1 q2 zs wr) : Q4 w N q0 q1 q2 zs wr.drew := ⟨h.1, h.2.1, h.2.2.1, h.2.2.2.1, h.2.2.2.2.drew⟩

set_option maxRecDepth 100000 in
set_option maxHeartbeats 1000000 in
theorem behind_any (st ws : List Int) (hst : st.length = 8) (hws : ws.length = 64) (hbd : Bd8 st) (w : World) (hsz : 4 ≤ w.heap.size) (hG : GlobR w) :
    Calls Tryz.prog 81 #[.agg (ints .u32 st).toArray, .agg (ints .u32 ws).toArray] w fun e w' => e = .returned (.agg (ints .u32 (List.zipWith (fun x y => IntKind.u32.wrap (x + y)) st (roundsTo st ws 64))).toArray) ∧ Below w.heap.size w w' := by
  have hR := roundsTo_ok st ws hst hbd
  have HE := hid (show List.zipWith (fun x y => IntKind.u32.wrap (x + y)) st (roundsTo st ws 64) = List.zipWith (fun x y => IntKind.u32.wrap (x + y)) st (roundsTo st ws 64) from rfl)
  obtain ⟨s0, s1, s2, s3, s4, s5, s6, s7, rfl⟩ := list8 st hst
  have ho8 := all_oneCell_toArray (ints_one .u32 [s0, s1, s2, s3, s4, s5, s6, s7])
  have H43 := heap4_3 w (Obj.cells (ints .u32 [s0, s1, s2, s3, s4, s5, s6, s7]).toArray 97) (Obj.cells (ints .u32 ws).toArray 120) (Obj.cells (ints .u32 [0, 0, 0, 0, 0, 0, 0, 0]).toArray 97) (Obj.cells (ints .u32 [0, 0, 0, 0, 0, 0, 0, 0]).toArray 97)
  have H30 := heap3_old w (Obj.cells (ints .u32 [s0, s1, s2, s3, s4, s5, s6, s7]).toArray 97) (Obj.cells (ints .u32 ws).toArray 120) (Obj.cells (ints .u32 [0, 0, 0, 0, 0, 0, 0, 0]).toArray 97)
  have L1 : (Tryz.prog.info? 97).map (·.size) = some (ints .u32 [s0, s1, s2, s3, s4, s5, s6, s7]).toArray.size := by rw [Tryz.size97, ints_size]; rfl
  have L2 : (ints .u32 [0, 0, 0, 0, 0, 0, 0, 0]).toArray.size = (ints .u32 [s0, s1, s2, s3, s4, s5, s6, s7]).toArray.size := by rw [ints_size, ints_size]; rfl
  have K43 := hid H43
  have K30 := hid H30
  have KL1 := hid L1
  have KL2 := hid L2
  clear H43 H30 L1 L2
  go_enter Tryz.func81, Tryz.ntmps81
  go_wp2_with (first | refine wpList_load_row rfl 97 _ rfl w.heap.size rfl 97 _ _ _ K30.out Tryz.underlying97 rfl KL1.out ?_ | refine wpList_store_row rfl 97 _ _ rfl (w.heap.size + 1 + 1 + 1) _ rfl rfl 97 _ K43.out KL1.out KL2.out ho8 ?_)
  try simp only [Act.put, List.setIfInBounds_toArray, List.set_cons_zero, List.set_cons_succ]
  go_wp2
  obtain ⟨w0, e0, e1, e2, e3, hB0, hw0⟩ : ∃ w0 : World, w0.heap[w.heap.size]? = some (Obj.cells (ints .u32 [s0, s1, s2, s3, s4, s5, s6, s7]).toArray 97) ∧ w0.heap[w.heap.size + 1]? = some (Obj.cells (ints .u32 ws).toArray 120) ∧ w0.heap[w.heap.size + 1 + 1]? = some (Obj.cells (ints .u32 [0, 0, 0, 0, 0, 0, 0, 0]).toArray 97) ∧ w0.heap[w.heap.size + 1 + 1 + 1]? = some (Obj.cells (ints .u32 [s0, s1, s2, s3, s4, s5, s6, s7]).toArray 97) ∧ Below w.heap.size w w0 ∧ w0 = ((((w.alloc (Obj.cells (ints .u32 [s0, s1, s2, s3, s4, s5, s6, s7]).toArray 97)).alloc (Obj.cells (ints .u32 ws).toArray 120)).alloc (Obj.cells (ints .u32 [0, 0, 0, 0, 0, 0, 0, 0]).toArray 97)).alloc (Obj.cells (ints .u32 [0, 0, 0, 0, 0, 0, 0, 0]).toArray 97)).setRow (w.heap.size + 1 + 1 + 1) (ints .u32 [s0, s1, s2, s3, s4, s5, s6, s7]).toArray :=
    ⟨_, (setRow_other _ _ _ _ (by omega)).trans (hold (heap3_old w _ _ _)), (setRow_other _ _ _ _ (by omega)).trans (hold (heap3_mid w _ _ _)), (setRow_other _ _ _ _ (by omega)).trans (hold (heap3_new w _ _ _)), setRow_heap _ _ _ _ _ _ (heap4_3 w _ _ _ _), below_setRow ((below3 w _ _ _).alloc (by simp; omega) _) (by omega) _, rfl⟩
  show Code.wp _ _ _ _ (((((w.alloc (Obj.cells (ints .u32 [s0, s1, s2, s3, s4, s5, s6, s7]).toArray 97)).alloc (Obj.cells (ints .u32 ws).toArray 120)).alloc (Obj.cells (ints .u32 [0, 0, 0, 0, 0, 0, 0, 0]).toArray 97)).alloc (Obj.cells (ints .u32 [0, 0, 0, 0, 0, 0, 0, 0]).toArray 97)).setRow (w.heap.size + 1 + 1 + 1) (ints .u32 [s0, s1, s2, s3, s4, s5, s6, s7]).toArray)
  rw [← hw0]
  clear hw0
  go_loopw [6, 7, 8, 9, 10, 11] (fun i _ _ _ _ _ wr => ∃ (n : Nat) (xa xb xc xd xe xf xg xh : Int), n ≤ 64 ∧ i = .int .i64 n ∧ Hid (roundsTo [s0, s1, s2, s3, s4, s5, s6, s7] ws n = [xa, xb, xc, xd, xe, xf, xg, xh]) ∧ wr.heap[w.heap.size]? = some (Obj.cells (ints .u32 [s0, s1, s2, s3, s4, s5, s6, s7]).toArray 97) ∧ wr.heap[w.heap.size + 1]? = some (Obj.cells (ints .u32 ws).toArray 120) ∧ wr.heap[w.heap.size + 1 + 1]? = some (Obj.cells (ints .u32 [0, 0, 0, 0, 0, 0, 0, 0]).toArray 97) ∧ wr.heap[w.heap.size + 1 + 1 + 1]? = some (Obj.cells (ints .u32 [xa, xb, xc, xd, xe, xf, xg, xh]).toArray 97) ∧ Below w.heap.size w wr) (fun i _ _ _ _ _ _ => 64 - (intOf i).toNat)
  case atStart => exact ⟨0, s0, s1, s2, s3, s4, s5, s6, s7, by omega, rfl, rfl, e0, e1, e2, e3, hB0⟩
  case round =>
    clear e0 e1 e2 e3 hB0
    obtain ⟨n, xa, xb, xc, xd, xe, xf, xg, xh, hn, rfl, HR, e0, e1, e2, e3, hB⟩ := hrel
    by_cases hnl : n < 64
    · have hr := (hR n).1
      rw [HR.out] at hr
      obtain ⟨ba0, ba1⟩ := hr xa (by simp)
      obtain ⟨be0, be1⟩ := hr xe (by simp)
      clear hr
      have i1 : (n : Int) < 64 := by omega
      have cK : wr.cell? ⟨3, n, none⟩ = some (.int .u32 (kTab[n]?.getD 0)) := (hB.cell (p := ⟨3, n, none⟩) (by show 3 < w.heap.size; omega)).trans (hG.k n hnl)
      have cW : wr.cell? ⟨w.heap.size + 1, n, none⟩ = some (.int .u32 (ws[n]?.getD 0)) := by rw [cell_ints e1 n (by omega)]; simp
      have c0 : wr.cell? ⟨w.heap.size + 1 + 1 + 1, 0, none⟩ = some (.int .u32 xa) := cell_ints e3 0 (by simp)
      have c1 : wr.cell? ⟨w.heap.size + 1 + 1 + 1, 1, none⟩ = some (.int .u32 xb) := cell_ints e3 1 (by simp)
      have c2 : wr.cell? ⟨w.heap.size + 1 + 1 + 1, 2, none⟩ = some (.int .u32 xc) := cell_ints e3 2 (by simp)
      have c3 : wr.cell? ⟨w.heap.size + 1 + 1 + 1, 3, none⟩ = some (.int .u32 xd) := cell_ints e3 3 (by simp)
      have c4 : wr.cell? ⟨w.heap.size + 1 + 1 + 1, 4, none⟩ = some (.int .u32 xe) := cell_ints e3 4 (by simp)
      have c5 : wr.cell? ⟨w.heap.size + 1 + 1 + 1, 5, none⟩ = some (.int .u32 xf) := cell_ints e3 5 (by simp)
      have c6 : wr.cell? ⟨w.heap.size + 1 + 1 + 1, 6, none⟩ = some (.int .u32 xg) := cell_ints e3 6 (by simp)
      have c7 : wr.cell? ⟨w.heap.size + 1 + 1 + 1, 7, none⟩ = some (.int .u32 xh) := cell_ints e3 7 (by simp)
      have hsg : IntKind.u32.signed = false := rfl
      have HS := hid (show roundsTo [s0, s1, s2, s3, s4, s5, s6, s7] ws (n + 1) = step1 (kTab[n]?.getD 0) (ws[n]?.getD 0) [xa, xb, xc, xd, xe, xf, xg, xh] by rw [roundsTo, HR.out])
      generalize kTab[n]?.getD 0 = kn at *
      generalize ws[n]?.getD 0 = wn at *
      clear hR HE
      go_wp2
      go_region_held3 (fun w' => w'.cell? ⟨w.heap.size + 1 + 1 + 1, 4, none⟩ = some (.int .u32 xe)) (exact c4) (first | (go_at_call 93; refine (rturnI_any _ _ be0 be1 (by decide) (by decide) _).mono ?_; rintro e w' ⟨rfl, rfl⟩))
      go_wp2
      go_region_held3 (fun w' => w'.cell? ⟨w.heap.size + 1 + 1 + 1, 7, none⟩ = some (.int .u32 xh) ∧ w'.cell? ⟨3, n, none⟩ = some (.int .u32 kn) ∧ w'.cell? ⟨w.heap.size + 1, n, none⟩ = some (.int .u32 wn)) (exact ⟨c7, cK, cW⟩) (fail)
      go_wp2
      go_region_held3 (fun w' => w'.cell? ⟨w.heap.size + 1 + 1 + 1, 0, none⟩ = some (.int .u32 xa)) (exact c0) (first | (go_at_call 93; refine (rturnI_any _ _ ba0 ba1 (by decide) (by decide) _).mono ?_; rintro e w' ⟨rfl, rfl⟩))
      have f0 : wr.frozen? ⟨w.heap.size + 1 + 1 + 1, 0, none⟩ = false := frozen_of_row _ _ _ _ _ e3
      have f1 : wr.frozen? ⟨w.heap.size + 1 + 1 + 1, 1, none⟩ = false := frozen_of_row _ _ _ _ _ e3
      have f2 : wr.frozen? ⟨w.heap.size + 1 + 1 + 1, 2, none⟩ = false := frozen_of_row _ _ _ _ _ e3
      have f3 : wr.frozen? ⟨w.heap.size + 1 + 1 + 1, 3, none⟩ = false := frozen_of_row _ _ _ _ _ e3
      have f4 : wr.frozen? ⟨w.heap.size + 1 + 1 + 1, 4, none⟩ = false := frozen_of_row _ _ _ _ _ e3
      have f5 : wr.frozen? ⟨w.heap.size + 1 + 1 + 1, 5, none⟩ = false := frozen_of_row _ _ _ _ _ e3
      have f6 : wr.frozen? ⟨w.heap.size + 1 + 1 + 1, 6, none⟩ = false := frozen_of_row _ _ _ _ _ e3
      have f7 : wr.frozen? ⟨w.heap.size + 1 + 1 + 1, 7, none⟩ = false := frozen_of_row _ _ _ _ _ e3
      have HN : step1 kn wn [xa, xb, xc, xd, xe, xf, xg, xh] = [(xh + high1F xe + pickF xe xf xg + kn + wn + high0F xa + mostF xa xb xc) % 4294967296, xa, xb, xc, (xd + (xh + high1F xe + pickF xe xf xg + kn + wn)) % 4294967296, xe, xf, xg] := by
        simp only [step1, IntKind.wrap_u32]
        congr 1
        · omega
        · congr 4; omega
      simp only [high1F, pickF, high0F, mostF] at HN
      have KN := hid (HS.out.trans HN)
      clear HN HS
      go_wp2
      go_roundw
      case rel =>
        refine ⟨n + 1, _, _, _, _, _, _, _, _, by omega, by go_num, KN, ?_⟩
        have q : Q4 w w.heap.size _ _ _ _ wr := ⟨e0, e1, e2, e3, hB⟩
        show Q4 w w.heap.size (Obj.cells (ints .u32 [s0, s1, s2, s3, s4, s5, s6, s7]).toArray 97) (Obj.cells (ints .u32 ws).toArray 120) (Obj.cells (ints .u32 [0, 0, 0, 0, 0, 0, 0, 0]).toArray 97) [_, xa, xb, xc, _, xe, xf, xg] _
        exact ((((((((q.set 0 _).set 1 xa).set 2 xb).set 3 xc).set 4 _).set 5 xe).set 6 xf).set 7 xg).drew.drew.drew
      case measure => simp [intOf]; omega
    · obtain rfl : n = 64 := by omega
      clear hnl
      have HZ := hid (show List.zipWith (fun x y => IntKind.u32.wrap (x + y)) [xa, xb, xc, xd, xe, xf, xg, xh] [s0, s1, s2, s3, s4, s5, s6, s7] = List.zipWith (fun x y => IntKind.u32.wrap (x + y)) [s0, s1, s2, s3, s4, s5, s6, s7] (roundsTo [s0, s1, s2, s3, s4, s5, s6, s7] ws 64) by
        rw [HR.out, List.zipWith_comm]; congr 1; funext x y; rw [Int.add_comm])
      clear HR HE hR
      go_wp2
      go_loopw [12] (fun i wr => ∃ n : Nat, n ≤ 8 ∧ i = .int .i64 n ∧ Q4 w w.heap.size (Obj.cells (ints .u32 [s0, s1, s2, s3, s4, s5, s6, s7]).toArray 97) (Obj.cells (ints .u32 ws).toArray 120) (Obj.cells (ints .u32 [0, 0, 0, 0, 0, 0, 0, 0]).toArray 97) (addTo [xa, xb, xc, xd, xe, xf, xg, xh] [s0, s1, s2, s3, s4, s5, s6, s7] n) wr) (fun i _ => 8 - (intOf i).toNat)
      case atStart => exact ⟨0, by omega, rfl, e0, e1, e2, e3, hB⟩
      case round =>
        clear e0 e1 e2 e3 hB
        obtain ⟨n, hn, rfl, hq⟩ := hrel
        by_cases hlt : n < 8
        · have i1 : (n : Int) < 8 := by omega
          have cS : wr.cell? ⟨w.heap.size, n, none⟩ = some (.int .u32 ([s0, s1, s2, s3, s4, s5, s6, s7][n]?.getD 0)) := by rw [cell_ints hq.1 n (by simpa using hlt)]; simp
          have cV : wr.cell? ⟨w.heap.size + 1 + 1 + 1, n, none⟩ = some (.int .u32 ([xa, xb, xc, xd, xe, xf, xg, xh][n]?.getD 0)) := by
            rw [cell_ints hq.2.2.2.1 n (by rw [addTo_len _ _ _ rfl rfl hn]; exact hlt), addTo_get _ _ _ rfl rfl hlt]
          have fV : wr.frozen? ⟨w.heap.size + 1 + 1 + 1, n, none⟩ = false := frozen_of_row _ _ _ _ _ hq.2.2.2.1
          have HS := hid (addTo_set [xa, xb, xc, xd, xe, xf, xg, xh] [s0, s1, s2, s3, s4, s5, s6, s7] n rfl rfl hlt)
          generalize [xa, xb, xc, xd, xe, xf, xg, xh][n]?.getD 0 = xn at *
          generalize [s0, s1, s2, s3, s4, s5, s6, s7][n]?.getD 0 = sn at *
          go_wp2
          go_region
          go_wp2
          go_roundw
          case rel => exact ⟨n + 1, by omega, by go_num, (by have := (hq.set n (IntKind.u32.wrap (xn + sn))).drew; rw [HS.out] at this; exact this)⟩
          case measure => simp [intOf]; omega
        · obtain rfl : n = 8 := by omega
          rw [addTo_end _ _ rfl rfl, HZ.out] at hq
          have hz : (List.zipWith (fun x y => IntKind.u32.wrap (x + y)) [s0, s1, s2, s3, s4, s5, s6, s7] (roundsTo [s0, s1, s2, s3, s4, s5, s6, s7] ws 64)).length = 8 := by rw [← HZ.out]; rfl
          clear hlt HZ
          generalize hr : (List.zipWith (fun x y => IntKind.u32.wrap (x + y)) [s0, s1, s2, s3, s4, s5, s6, s7] (roundsTo [s0, s1, s2, s3, s4, s5, s6, s7] ws 64)) = r at *
          obtain ⟨e0, e1, e2, e3, hB⟩ := hq
          have ho := all_oneCell_toArray (ints_one .u32 r)
          have L1 : (Tryz.prog.info? 97).map (·.size) = some (ints .u32 r).toArray.size := by rw [Tryz.size97, ints_size, hz]
          have L2 : (ints .u32 [0, 0, 0, 0, 0, 0, 0, 0]).toArray.size = (ints .u32 r).toArray.size := by rw [ints_size, ints_size, hz]; rfl
          go_wp2_with (first | refine wpList_load_row rfl 97 _ rfl _ rfl 97 _ _ _ e3 Tryz.underlying97 rfl L1 ?_ | refine wpList_store_row rfl 97 _ _ rfl _ _ rfl rfl 97 _ e2 L1 L2 ho ?_)
          exact bodyPost_ret (v := .agg (ints .u32 r).toArray) (results_cell_row Tryz.results81 _ _ (w.heap.size + 1 + 1) 97 _ _ _ rfl (setRow_heap _ _ _ _ _ _ e2) Tryz.underlying97 rfl L1) rfl ⟨by rw [hr], below_setRow hB (by omega) _⟩
end Go.Proofs.YtbjahdbmkcamoaaGreatDoor
namespace Go.Proofs.YtbjahdbmkcamoaaGreatDoor
set_option linter.unusedVariables false
set_option linter.unusedSimpArgs false
open Go.RowKit
attribute [local go_sem ↓] Go.wp_at_zero Go.wp_at_succ

/-- The length's bytes, the highest first. -/
def lenBy (L : Int) : List Int := [lb L 7, lb L 6, lb L 5, lb L 4, lb L 3, lb L 2, lb L 1, lb L 0]
/-- How many zeros come behind. -/
def zrs (m : List Int) : Nat := (119 - m.length % 64) % 64
def filledF (m : List Int) : List Int := m ++ [128] ++ List.replicate (zrs m) 0 ++ lenBy (lenBits m.length)
theorem lenBy_succ (L : Int) (n : Nat) (hn : n < 8) : (lenBy L).take (n + 1) = (lenBy L).take n ++ [L / 2 ^ (56 - 8 * n) % 256] := by
  have h : ∀ i : Nat, lb L i = L / 2 ^ (8 * i) % 256 := fun i => by
    rw [lb, IntKind.wrap_u8]; congr 2
  match n, hn with
  | 0, _ => simp [lenBy, h]
  | 1, _ => simp [lenBy, h]
  | 2, _ => simp [lenBy, h]
  | 3, _ => simp [lenBy, h]
  | 4, _ => simp [lenBy, h]
  | 5, _ => simp [lenBy, h]
  | 6, _ => simp [lenBy, h]
  | 7, _ => simp [lenBy, h]

set_option maxRecDepth 100000 in
set_option maxHeartbeats 1000000 in
theorem rfilled_any (w : World) (zs : List Int) (sp : Option Addr) (cap : Nat) (hS : Src w sp cap zs) (hnil : sp = none → cap = 0) (hlen : zs.length ≤ 140737488354000) (h0 : 0 < w.heap.size) :
    Calls Tryz.prog 79 #[.slice sp zs.length cap] w fun e w' => ∃ v, e = .returned v ∧ Own w' w.heap.size v (filledF zs) ∧ Below w.heap.size w w' := by
  have hO := Own.nil w w.heap.size
  have hln : ([] : List Int).length + zs.length ≤ 140737488355328 := by simp; omega
  have KL := hid hln
  clear hln
  go_enter Tryz.func79, Tryz.ntmps79
  have KL2 := hid (show ([] ++ zs).length + 1 ≤ 140737488355328 by simp; omega)
  go_wp2_with (first | (at_builtin; refine wpList_append_most rfl (.tmp 6) (.tmp 7) rfl w.heap.size (.slice none 0 0) [] zs rfl hO sp cap rfl hnil hS KL.out (Nat.le_refl _) ?_; intro v1 w1 hO1 hg1 _; have hB1 := grown_keeps hg1 (fun k hk => by simp [Value.ownBlock] at hk) (Nat.le_refl w.heap.size); clear hg1) | (at_builtin; refine wpList_push_any rfl (.tmp 9) (.tmp 10) rfl w.heap.size _ _ 128 rfl hO1 rfl KL2.out hB1.size _ _ ?_; intro v2 w2 hO2 hB2))
  rw [List.nil_append] at hO2
  have hB3 := hB1.trans hB2
  go_loopw [3] (fun v wr => ∃ n : Nat, n ≤ zrs zs ∧ Own wr w.heap.size v (zs ++ [128] ++ List.replicate n 0) ∧ Below w.heap.size w wr) (fun v _ => zrs zs + zs.length + 1 - slen v)
  case atStart => exact ⟨0, by omega, by rw [List.replicate_zero, List.append_nil]; exact hO2, hB3⟩
  case round =>
    clear hO1 hB1 hO2 hB2 hB3 KL KL2
    obtain ⟨n, hn, hOn, hBn⟩ := hrel
    have hl := hid (show (zs ++ [128] ++ List.replicate n 0).length = zs.length + 1 + n by simp; omega)
    have hz : zrs zs < 64 := Nat.mod_lt _ (by omega)
    have KL2 := hid (show (zs ++ [128] ++ List.replicate n 0).length + 1 ≤ 140737488355328 by rw [hl.out]; omega)
    obtain ⟨sp1, cap1, rfl, hS1, hn1⟩ := hOn.form
    by_cases hlt : n < zrs zs
    · have hne : ¬ (((zs ++ [128] ++ List.replicate n 0).length : Int) % 64 = 56) := by
        rw [hl.out]; unfold zrs at hlt; omega
      replace hne : (((zs ++ [128] ++ List.replicate n 0).length : Int) % 64 != 56) = true := by simpa using hne
      have HF := hid (show zs ++ [128] ++ List.replicate n 0 ++ [0] = zs ++ [128] ++ List.replicate (n + 1) 0 by rw [List.replicate_succ', ← List.append_assoc])
      generalize zs ++ [128] ++ List.replicate n 0 = fz at *
      go_wp2_with (first | (at_builtin; refine wpList_push_any rfl (.tmp 16) (.tmp 17) rfl w.heap.size _ _ 0 rfl hOn rfl KL2.out hBn.size _ _ ?_; intro v2 w2 hO2 hB2))
      go_roundw
      case rel => exact ⟨n + 1, by omega, (by rw [← HF.out]; exact hO2), hBn.trans hB2⟩
      case measure =>
        obtain ⟨sp2, cap2, rfl, _, _⟩ := hO2.form
        simp only [slen, List.length_append, hl.out, List.length_cons, List.length_nil]; omega
    · obtain rfl : n = zrs zs := by omega
      have hne : ((zs ++ [128] ++ List.replicate (zrs zs) 0).length : Int) % 64 = 56 := by
        rw [hl.out]; unfold zrs; omega
      have hL := lenBits_bd zs.length
      have HL := hid (show IntKind.u64.wrap ((zs.length : Int) * 8) = lenBits zs.length from rfl)
      have i1 : (zs.length : Int) ≤ 140737488354000 := by omega
      have KF := hid (show filledF zs = zs ++ [128] ++ List.replicate (zrs zs) 0 ++ lenBy (lenBits zs.length) from rfl)
      have hL2 := hid (show lenBits zs.length = (zs.length : Int) * 8 by rw [lenBits, IntKind.wrap_u64]; omega)
      generalize zs ++ [128] ++ List.replicate (zrs zs) 0 = fz at *
      generalize lenBits zs.length = L at *
      go_wp2
      go_loopw [3, 5] (fun v i wr => ∃ n : Nat, n ≤ 8 ∧ i = .int .i64 n ∧ Own wr w.heap.size v (fz ++ (lenBy L).take n) ∧ Below w.heap.size w wr) (fun _ i _ => 8 - (intOf i).toNat)
      case atStart => exact ⟨0, by omega, rfl, by rw [List.take_zero, List.append_nil]; exact hOn, hBn⟩
      case round =>
        clear hOn hBn hne
        obtain ⟨n, hn, rfl, hOn, hBn⟩ := hrel
        by_cases hlt : n < 8
        · have i1 : (n : Int) < 8 := by omega
          have KS := hid (lenBy_succ L n hlt)
          have KL3 := hid (show (fz ++ (lenBy L).take n).length + 1 ≤ 140737488355328 by rw [List.length_append, hl.out, List.length_take]; omega)
          go_wp2_with (first | (at_builtin; refine wpList_push_any rfl (.tmp 27) (.tmp 35) rfl w.heap.size _ _ _ rfl hOn rfl KL3.out hBn.size _ _ ?_; intro v2 w2 hO2 hB2))
          rw [← hL2.out, List.append_assoc, ← KS.out] at hO2
          go_roundw
          case rel => exact ⟨n + 1, by omega, by go_num, hO2, hBn.trans hB2⟩
          case measure => simp [intOf]; omega
        · obtain rfl : n = 8 := by omega
          clear hlt
          rw [show (lenBy L).take 8 = lenBy L from rfl, ← KF.out] at hOn
          go_wp2
          go_ret
          exact ⟨_, rfl, hOn, hBn⟩

theorem lenTo8 (A : List Int) (b0 b1 b2 b3 b4 b5 b6 b7 L : Int) (h : A.length = 56) : lenTo (A ++ [b0, b1, b2, b3, b4, b5, b6, b7]) L 8 = A ++ lenBy L := by
  simp [lenTo, lenBy, List.set_append_right, h]
theorem stOf_filled (m : List Int) : stOf (filledF m) = padS (stOf m) (padz (restOf m) 64) m.length := by
  have hr := restOf_len m
  have h64 : m.length % 64 < 64 := Nat.mod_lt _ (by omega)
  have et : ((m.length : Int) % 64).toNat = (restOf m).length := by rw [hr]; omega
  have es : (padz (restOf m) 64).set (restOf m).length 128 = restOf m ++ 128 :: List.replicate (63 - (restOf m).length) 0 := by
    rw [padz, List.set_append_right _ _ (Nat.le_refl _), Nat.sub_self, show 64 - (restOf m).length = (63 - (restOf m).length) + 1 by omega, List.replicate_succ, List.set_cons_zero]
  unfold padS
  rw [et, es]
  by_cases c : (m.length : Int) % 64 < 56
  · rw [if_pos c]
    have e1 : restOf m ++ 128 :: List.replicate (63 - (restOf m).length) 0 = (restOf m ++ 128 :: List.replicate (55 - (restOf m).length) 0) ++ [0, 0, 0, 0, 0, 0, 0, 0] := by
      rw [show 63 - (restOf m).length = (55 - (restOf m).length) + 8 by omega, ← List.replicate_append_replicate, List.append_assoc]; rfl
    rw [e1, lenTo8 _ _ _ _ _ _ _ _ _ _ (by simp; omega)]
    have e2 : filledF m = m ++ (128 :: List.replicate (55 - (restOf m).length) 0 ++ lenBy (lenBits m.length)) := by
      rw [filledF, show zrs m = 55 - (restOf m).length by unfold zrs; omega]; simp
    rw [e2, (text_full m _ (by simp [lenBy]; omega)).1, List.append_assoc]
  · rw [if_neg c]
    have e1 : z64 = List.replicate 56 0 ++ [0, 0, 0, 0, 0, 0, 0, 0] := rfl
    rw [e1, lenTo8 _ _ _ _ _ _ _ _ _ _ (by simp)]
    have e2 : filledF m = (m ++ 128 :: List.replicate (63 - (restOf m).length) 0) ++ (List.replicate 56 0 ++ lenBy (lenBits m.length)) := by
      rw [filledF, show zrs m = (63 - (restOf m).length) + 56 by unfold zrs; omega, ← List.replicate_append_replicate]; simp
    have t := text_full m (128 :: List.replicate (63 - (restOf m).length) 0) (by simp; omega)
    rw [e2, (text_full _ (List.replicate 56 0 ++ lenBy (lenBits m.length)) (by rw [t.2]; simp [lenBy])).1, t.1, t.2, List.nil_append]
theorem filledF_len (m : List Int) : (filledF m).length % 64 = 0 ∧ m.length + 9 ≤ (filledF m).length ∧ (filledF m).length ≤ m.length + 72 := by
  have : (filledF m).length = m.length + 1 + zrs m + 8 := by simp [filledF, lenBy]; omega
  rw [this]; unfold zrs; omega
end Go.Proofs.YtbjahdbmkcamoaaGreatDoor
namespace Go.Proofs.YtbjahdbmkcamoaaGreatDoor
set_option linter.unusedVariables false
set_option linter.unusedSimpArgs false
open Go.RowKit
attribute [local go_sem ↓] Go.wp_at_zero Go.wp_at_succ

theorem GlobR.f {w : World} (h : GlobR w) : w.rangeAt 1 0 (ints .u32 fTab) := h.2
theorem stBytes_get : ∀ (st : List Int), (∀ x ∈ st, 0 ≤ x ∧ x ≤ 4294967295) → ∀ i, i < 4 * st.length → (stBytes st)[i]?.getD 0 = (st[i / 4]?.getD 0) / 2 ^ (24 - 8 * (i % 4)) % 256
  | [], _, i, hi => by simp at hi
  | x :: st, hb, i, hi => by
    have hx := hb x (by simp)
    match i with
    | 0 => simp [stBytes, wb]; omega
    | 1 => simp [stBytes, wb]
    | 2 => simp [stBytes, wb]
    | 3 => simp [stBytes, wb]
    | i + 4 =>
      have := stBytes_get st (fun y hy => hb y (by simp [hy])) i (by simp at hi; omega)
      rw [show (i + 4) / 4 = i / 4 + 1 by omega, show (i + 4) % 4 = i % 4 by omega, List.getElem?_cons_succ, ← this]
      simp [stBytes, wb]

set_option maxRecDepth 100000 in
set_option maxHeartbeats 1000000 in
theorem rsum_any (w : World) (zs : List Int) (sp : Option Addr) (cap : Nat) (hS : Src w sp cap zs) (hnil : sp = none → cap = 0) (hlen : zs.length ≤ 140737488354000) (h0 : 4 ≤ w.heap.size) (hG : GlobR w) :
    Calls Tryz.prog 56 #[.slice sp zs.length cap] w fun e w' => e = .returned (.agg (ints .u8 (sha zs)).toArray) ∧ Below w.heap.size w w' := by
  have hB1 : Below w.heap.size w (w.alloc (Obj.cells (ints .u8 z32).toArray 28)) := (Below.refl _ _).alloc (Nat.le_refl _) _
  have d0 := hnew w (Obj.cells (ints .u8 z32).toArray 28)
  have hsz : (w.alloc (Obj.cells (ints .u8 z32).toArray 28)).heap.size = w.heap.size + 1 := by simp
  have hS1 := hS.below hB1 (Nat.le_refl _)
  have HE := hid (show sha zs = stBytes (stOf (filledF zs)) by rw [stOf_filled]; rfl)
  obtain ⟨hf1, hf2, hf3⟩ := filledF_len zs
  have hso : ∀ n, (stN (filledF zs) n).length = 8 ∧ Bd8 (stN (filledF zs) n) := stN_ok _
  have hss : stOf (filledF zs) = stN (filledF zs) ((filledF zs).length / 64) := rfl
  go_enter Tryz.func56, Tryz.ntmps56
  go_wp2_with fail
  show Calls Tryz.prog 79 _ (w.alloc (Obj.cells (ints .u8 z32).toArray 28)) _
  generalize w.alloc (Obj.cells (ints .u8 z32).toArray 28) = w1 at *
  refine (rfilled_any w1 zs sp cap hS1 hnil hlen (by omega)).mono ?_
  rintro e w2 ⟨v, rfl, hO2, hB2⟩
  have hB3 : Below w.heap.size w w2 := hB1.trans (hB2.mono (by omega))
  have d2 : w2.heap[w.heap.size]? = some (Obj.cells (ints .u8 z32).toArray 28) := hbel hB2 d0 (by omega)
  have hg2 := hG.below hB3 h0
  have hs2 := hB2.size
  obtain ⟨sp1, cap1, rfl, hS2, hn1⟩ := hO2.form
  have hz2 : w.heap.size < w2.heap.size := by omega
  clear hO2 hB1 hB2 d0 hS1 hsz
  have hgf := hid hg2.f
  have hof := all_oneCell_toArray (ints_one .u32 fTab)
  have hss2 := hid hss
  have KL1 := hid (show (Tryz.prog.info? 97).map (·.size) = some (ints .u32 fTab).length by rw [Tryz.size97, ints_len]; rfl)
  have KL2 := hid (show (Tryz.prog.info? 97).map (·.size) = some (ints .u32 fTab).toArray.size by rw [Tryz.size97, ints_size]; rfl)
  clear hss
  go_wp2_with (first | refine wpList_load_mid rfl 97 _ rfl 1 0 rfl (ints .u32 fTab) _ hgf.out Tryz.underlying97 rfl KL1.out ?_ | (refine wpList_store_row rfl 97 _ _ rfl _ _ rfl rfl 97 _ (by exact hnew _ _) KL2.out (by rfl) hof ?_; rw [setRow_alloc]))
  have e0 := hold (o := Obj.cells (ints .u32 fTab).toArray 97) d2
  have e1 := hnew w2 (Obj.cells (ints .u32 fTab).toArray 97)
  have hB4 : Below w.heap.size w (w2.alloc (Obj.cells (ints .u32 fTab).toArray 97)) := hB3.alloc (by omega) _
  have hBG := (Below.refl w2.heap.size w2).alloc (Nat.le_refl _) (Obj.cells (ints .u32 fTab).toArray 97)
  generalize w2.alloc (Obj.cells (ints .u32 fTab).toArray 97) = w3 at *
  generalize hGe : w2.heap.size = G at *
  replace hGe := hid hGe
  generalize filledF zs = l at *
  clear d2 hB3 hg2 hgf
  obtain ⟨K, hK⟩ : ∃ K, l.length = 64 * K := ⟨l.length / 64, by omega⟩
  have hKd : l.length / 64 = K := by omega
  rw [hKd] at hss2
  have KB := hid hso
  clear hso hKd KL1 KL2 hof
  go_loopw [5, 6] (fun i _ wr => ∃ n a : Nat, a = 64 * n ∧ n ≤ K ∧ i = .int .i64 a ∧ wr.heap[w.heap.size]? = some (Obj.cells (ints .u8 z32).toArray 28) ∧ wr.heap[G]? = some (Obj.cells (ints .u32 (stN l n)).toArray 97) ∧ Below G w2 wr ∧ Below w.heap.size w wr) (fun i _ _ => 64 * K - (intOf i).toNat)
  case atStart => exact ⟨0, 0, rfl, by omega, rfl, e0, e1, hBG, hB4⟩
  case round =>
    clear e0 e1 hBG hB4
    obtain ⟨n, a, ha, hn, rfl, e0, e1, hBG, hB4⟩ := hrel
    replace ha := hid ha
    have ha' := ha.out
    have hS4 := hS2.below hBG (by rw [hGe.out]; exact Nat.le_refl _)
    have hGr := hG.below hB4 h0
    have hlG := hlt e1
    obtain ⟨hbl, hbb⟩ := KB.out n
    by_cases hnl : n < K
    · have i1 : (a : Int) < (l.length : Int) := by omega
      have i2 : (a : Int) ≤ 140737488354072 := by omega
      have KW := hid (words_any wr l sp1 cap1 hS4 a (by omega))
      have KS := hid (show stN l (n + 1) = mixF (stN l n) (blk l a) by rw [ha.out]; rfl)
      have KM := hid (show mixF (stN l n) (blk l a) = List.zipWith (fun x y => IntKind.u32.wrap (x + y)) (stN l n) (roundsTo (stN l n) (sched (blk l a)) 64) from rfl)
      have hsl := sched_len (blk l a)
      have ho58 := all_oneCell_toArray (ints_one .u32 (sched (blk l a)))
      have hsn := hid (KB.out (n + 1))
      rw [KS.out] at hsn
      have hoS := all_oneCell_toArray (ints_one .u32 (mixF (stN l n) (blk l a)))
      have HB := hid hbb
      clear hbb
      have k1 : (Tryz.prog.info? 120).map (·.size) = some (ints .u32 (sched (blk l a))).toArray.size := by rw [Tryz.size120, ints_size, hsl]
      have k2 : (Tryz.prog.info? 97).map (·.size) = some (ints .u32 (stN l n)).toArray.size := by rw [Tryz.size97, ints_size, hbl]
      have k3 : (Tryz.prog.info? 97).map (·.size) = some (ints .u32 (mixF (stN l n) (blk l a))).toArray.size := by rw [Tryz.size97, ints_size, hsn.out.1]
      have k4 : (ints .u32 (stN l n)).toArray.size = (ints .u32 (mixF (stN l n) (blk l a))).toArray.size := by rw [ints_size, ints_size, hsn.out.1, hbl]
      generalize sched (blk l a) = ws at *
      generalize mixF (stN l n) (blk l a) = S2 at *
      generalize stN l n = S1 at *
      clear ha'
      replace hK := hid hK
      have k5 : ∀ cs : List Int, cs.length = 64 → (ints .u32 cs).toArray.size = (ints .u32 ws).toArray.size := fun cs h => by rw [ints_size, ints_size, hsl, h]
      have K5 := hid k5
      clear k5
      go_wp2_with (first
        | (go_at_call 80; refine KW.out.mono ?_; rintro e w4 ⟨rfl, hB5⟩; have f0 := hbel hB5 e0 (hlt e0); have f1 := hbel hB5 e1 hlG; have hBG5 := hBG.trans (hB5.mono (Nat.le_of_lt hlG)); have hB6 := hB4.trans (hB5.mono hB4.size); have hz4 := hB5.size; clear hB5)
        | (refine wpList_store_row rfl 120 _ _ rfl _ _ rfl rfl 120 _ (by exact hnew _ _) k1 (by exact K5.out (padz [] 64) rfl) ho58 ?_; rw [setRow_alloc]; have g0 := hold (o := Obj.cells (ints .u32 ws).toArray 120) f0; have g1 := hold (o := Obj.cells (ints .u32 ws).toArray 120) f1; have g2 := hnew w4 (Obj.cells (ints .u32 ws).toArray 120); have hB7 : Below w.heap.size w (w4.alloc (Obj.cells (ints .u32 ws).toArray 120)) := hB6.alloc (Nat.le_trans hB4.size hz4) _; have hBG7 : Below G w2 (w4.alloc (Obj.cells (ints .u32 ws).toArray 120)) := hBG5.alloc (Nat.le_of_lt (Nat.lt_of_lt_of_le hlG hz4)) _; generalize w4.alloc (Obj.cells (ints .u32 ws).toArray 120) = w5 at *)
        | refine wpList_load_row rfl 97 _ rfl G rfl 97 _ _ _ g1 Tryz.underlying97 rfl k2 ?_
        | refine wpList_load_row rfl 120 _ rfl w4.heap.size rfl 120 _ _ _ g2 Tryz.underlying120 rfl k1 ?_
        | (go_at_call 81; refine (behind_any S1 ws hbl hsl HB.out w5 (Nat.le_trans h0 hB7.size) (hG.below hB7 h0)).mono ?_; rintro e w6 ⟨rfl, hB8⟩; rw [← KM.out]; have q0 := hbel hB8 g0 (hlt g0); have q1 := hbel hB8 g1 (hlt g1); have hBG8 := hBG7.trans (hB8.mono (Nat.le_of_lt (hlt g1))); have hB9 := hB7.trans (hB8.mono hB7.size))
        | refine wpList_store_row rfl 97 _ _ rfl G _ rfl rfl 97 _ q1 k3 k4 hoS ?_)
      go_roundw
      case rel => exact ⟨n + 1, a + 64, (by have := ha.out; omega), by omega, by go_num, (setRow_other _ _ _ _ (by omega)).trans q0, (by rw [KS.out]; exact setRow_heap _ _ _ _ _ _ q1), below_setRow hBG8 (Nat.le_refl _) _, below_setRow hB9 (by omega) _⟩
      case measure => have := ha.out; have := hK.out; simp [intOf]; omega
    · obtain rfl : n = K := by omega
      have i1 : ¬ ((a : Int) < (l.length : Int)) := by omega
      rw [← hss2.out] at e1 hbl hbb
      have HB := hid hbb
      have hby := stBytes_get _ hbb
      rw [hbl] at hby
      replace hK := hid hK
      have HT := hid (stBytes_len (stOf l))
      rw [hbl] at HT
      clear hbb hnl ha' KB hss2
      generalize stOf l = S1 at *
      go_wp2
      have f0 := hold (o := Obj.cells (ints .u8 z32).toArray 28) e0
      have f1 := hold (o := Obj.cells (ints .u8 z32).toArray 28) e1
      have f2 := hnew wr (Obj.cells (ints .u8 z32).toArray 28)
      have hB5 : Below w.heap.size w (wr.alloc (Obj.cells (ints .u8 z32).toArray 28)) := hB4.alloc hB4.size _
      show Code.wp _ _ _ _ (wr.alloc (Obj.cells (ints .u8 z32).toArray 28))
      generalize wr.alloc (Obj.cells (ints .u8 z32).toArray 28) = w4 at *
      generalize wr.heap.size = D at *
      have hDG : w.heap.size < D := by omega
      clear e0 e1 hBG hB4 hS4 hGr
      generalize stBytes S1 = B at *
      go_loopw [8] (fun i wr => ∃ n : Nat, n ≤ 32 ∧ i = .int .i64 n ∧ wr.heap[w.heap.size]? = some (Obj.cells (ints .u8 z32).toArray 28) ∧ wr.heap[G]? = some (Obj.cells (ints .u32 S1).toArray 97) ∧ wr.heap[D]? = some (Obj.cells (ints .u8 (padz (B.take n) 32)).toArray 28) ∧ Below w.heap.size w wr) (fun i _ => 32 - (intOf i).toNat)
      case atStart => exact ⟨0, by omega, rfl, f0, f1, f2, hB5⟩
      case round =>
        clear f0 f1 f2 hB5
        obtain ⟨n, hn, rfl, f0, f1, f2, hB5⟩ := hrel
        have htl : (B.take n).length = n := by rw [List.length_take, HT.out]; omega
        by_cases hlt : n < 32
        · have i1 : (n : Int) < 32 := by omega
          have i2 : (n : Int) / 4 < 8 := by omega
          have c1 : wr.cell? ⟨G, n / 4, none⟩ = some (.int .u32 (S1[n / 4]?.getD 0)) := by rw [cell_ints f1 (n / 4) (by omega)]; simp
          have c2 := cell_ints f2 n (by rw [padz_len _ _ (by omega)]; omega)
          have fz : wr.frozen? ⟨D, n, none⟩ = false := frozen_of_row _ _ _ _ _ f2
          go_wp2
          have hv : B[n]?.getD 0 = S1[n / 4]?.getD 0 / 2 ^ (24 - 8 * (n % 4)) % 256 := hby n (by omega)
          have ht : (padz (B.take n) 32).set n (S1[n / 4]?.getD 0 / 2 ^ (24 - 8 * (n % 4)) % 256) = padz (B.take (n + 1)) 32 := by
            have := padz_set (B.take n) 32 (B[n]?.getD 0) (by omega)
            rw [htl] at this
            rw [← hv, this, List.take_succ_eq_append_getElem (by rw [HT.out]; omega), List.getElem?_eq_getElem (by rw [HT.out]; omega)]; rfl
          go_roundw
          case rel => exact ⟨n + 1, by omega, by go_num, heap_set_far f0 _ _ (by show w.heap.size ≠ D; omega), heap_set_far f1 _ _ (by show G ≠ D; omega), (by rw [← ht]; exact heap_set_ints f2 n _), hB5.setCell (by show w.heap.size ≤ D; omega) _⟩
          case measure => simp [intOf]; omega
        · obtain rfl : n = 32 := by omega
          rw [List.take_of_length_le (by rw [HT.out]; omega)] at f2 htl
          rw [padz_full _ _ htl] at f2
          have ho := all_oneCell_toArray (ints_one .u8 B)
          have k1 : (Tryz.prog.info? 28).map (·.size) = some (ints .u8 B).toArray.size := by rw [Tryz.size28, ints_size, htl]
          have k2 : (ints .u8 z32).toArray.size = (ints .u8 B).toArray.size := by rw [ints_size, ints_size, htl]; rfl
          clear hby hlt hn
          go_wp2_with (first | refine wpList_load_row rfl 28 _ rfl D rfl 28 _ _ _ f2 Tryz.underlying28 rfl k1 ?_ | refine wpList_store_row rfl 28 _ _ rfl w.heap.size _ rfl rfl 28 _ f0 k1 k2 ho ?_)
          exact bodyPost_ret (v := .agg (ints .u8 B).toArray) (results_cell_row Tryz.results56 _ _ w.heap.size 28 _ _ _ rfl (setRow_heap _ _ _ _ _ _ f0) Tryz.underlying28 rfl k1) rfl ⟨by rw [HE.out], below_setRow hB5 (Nat.le_refl _) _⟩
end Go.Proofs.YtbjahdbmkcamoaaGreatDoor
namespace Go.Proofs.YtbjahdbmkcamoaaGreatDoor
open Go.RowKit
attribute [local go_sem ↓] Go.wp_at_zero Go.wp_at_succ

/-- The document's own Cut behind i rounds. -/
def refV (cs : List Value) (k : Int) (i : Nat) : List Value := cs.mapIdx fun j v => if j < i ∧ k ≤ (j : Int) then .int .u8 0 else v
theorem refV_len (cs : List Value) (k : Int) (i : Nat) : (refV cs k i).length = cs.length := by simp [refV]
theorem refV_zero (cs : List Value) (k : Int) : refV cs k 0 = cs := by
  apply List.ext_getElem? ; intro j; simp [refV]
theorem refV_skip (cs : List Value) (k : Int) (i : Nat) (h : (i : Int) < k) : refV cs k (i + 1) = refV cs k i := by
  apply List.ext_getElem?; intro j; simp only [refV, List.getElem?_mapIdx]
  congr 1; funext v
  by_cases e : j = i
  · subst e; rw [if_neg (by omega), if_neg (by omega)]
  · by_cases c : j < i ∧ k ≤ (j : Int)
    · rw [if_pos c, if_pos (by omega)]
    · rw [if_neg c, if_neg (by omega)]
theorem refV_set (cs : List Value) (k : Int) (i : Nat) (h : k ≤ (i : Int)) : (refV cs k i).set i (.int .u8 0) = refV cs k (i + 1) := by
  apply List.ext_getElem?; intro j; simp only [refV, List.getElem?_mapIdx, List.getElem?_set, List.length_mapIdx]
  by_cases e : i = j
  · subst e
    rw [if_pos rfl]
    by_cases hj : i < cs.length
    · rw [if_pos hj, List.getElem?_eq_getElem hj]; simp; intro h2; omega
    · rw [if_neg hj, List.getElem?_eq_none (by omega)]; rfl
  · rw [if_neg e]
    congr 1; funext v
    by_cases c : j < i ∧ k ≤ (j : Int)
    · rw [if_pos c, if_pos (by omega)]
    · rw [if_neg c, if_neg (by omega)]
theorem refV_one (cs : List Value) (k : Int) (i : Nat) (h1 : ∀ v ∈ cs, v.oneCell' = true) : ∀ v ∈ refV cs k i, v.oneCell' = true := by
  intro v hv
  obtain ⟨j, hj, rfl⟩ := List.mem_iff_getElem.1 hv
  simp only [refV, List.getElem_mapIdx]
  split
  · rfl
  · exact h1 _ (List.getElem_mem _)
theorem refV_end (cs : List Value) (hl : cs.length = 32) (k : Int) : refV cs k 32 = cutV cs (kept k) := by
  apply List.ext_getElem?; intro j
  by_cases hj : j < 32
  · simp only [refV, List.getElem?_mapIdx, List.getElem?_eq_getElem (hl ▸ hj : j < cs.length), Option.map_some, cutV, splice, List.take_zero, List.nil_append, Nat.zero_add, List.length_take]
    have hk := kept_le k
    by_cases c : k ≤ (j : Int)
    · rw [if_pos ⟨hj, c⟩, List.getElem?_append_right (by simp; unfold kept; omega)]
      have hj2 : kept k ≤ j := by unfold kept; omega
      rw [zero32, List.getElem?_drop, List.getElem?_replicate, List.length_take, hl, if_pos (by omega)]
    · rw [if_neg (by omega), List.getElem?_append_left (by simp [hl]; unfold kept; omega), List.getElem?_take, if_pos (by unfold kept; omega), List.getElem?_eq_getElem (hl ▸ hj)]
  · rw [List.getElem?_eq_none (by rw [refV_len]; omega), List.getElem?_eq_none (by rw [cutV_len cs _ hl]; omega)]

set_option maxRecDepth 100000 in
set_option maxHeartbeats 400000 in
theorem ref_any (cs : List Value) (hl : cs.length = 32) (h1 : ∀ v ∈ cs, v.oneCell' = true) (k : Int) (w : World) :
    Calls Tryz.prog 57 #[.agg cs.toArray, .int .i64 k] w fun e w' => e = .returned (.agg (cutV cs (kept k)).toArray) ∧ Below w.heap.size w w' := by
  rw [← refV_end cs hl k]
  go_enter Tryz.func57, Tryz.ntmps57
  go_wp2
  go_loopw [5] (fun i wr => ∃ n : Nat, n ≤ 32 ∧ i = .int .i64 n ∧ wr.heap[w.heap.size]? = some (Obj.cells (refV cs k n).toArray 28) ∧ wr.heap[w.heap.size + 1]? = some (Obj.cells zero32.toArray 28) ∧ Below w.heap.size w wr) (fun i _ => 32 - (intOf i).toNat)
  case atStart => exact ⟨0, by omega, rfl, by rw [refV_zero]; exact heap_alloc2_old w _ _, heap_alloc2_new w _ _, ((Below.refl _ _).alloc (Nat.le_refl _) _).alloc (by simp) _⟩
  case round =>
    obtain ⟨n, hn, rfl, hc, hr, hb⟩ := hrel
    have hz : (refV cs k n).length = 32 := by rw [refV_len, hl]
    by_cases hlt : n < 32
    · have i1 : (n : Int) < 32 := by omega
      have hcell : wr.cell? ⟨w.heap.size, n, none⟩ = some ((refV cs k n)[n]'(by omega)) := by rw [cell_of_row _ _ _ _ _ _ hc]; simp [hz, hlt]
      have hfr : wr.frozen? ⟨w.heap.size, n, none⟩ = false := frozen_of_row _ _ _ _ _ hc
      by_cases hk : k ≤ (n : Int)
      · go_wp2
        go_roundw
        case rel => exact ⟨n + 1, by omega, by go_num, by rw [heap_setCell_same _ _ _ _ _ _ hc, ← refV_set cs k n hk]; simp, by rw [heap_setCell_other _ _ _ _ (by simp)]; exact hr, hb.setCell (by simp) _⟩
        case measure => simp [intOf]; omega
      · go_wp2
        go_roundw
        case rel => exact ⟨n + 1, by omega, by go_num, by rw [refV_skip cs k n (by omega)]; exact hc, hr, hb⟩
        case measure => simp [intOf]; omega
    · obtain rfl : n = 32 := by omega
      have ho := all_oneCell_toArray (refV_one cs k 32 h1)
      go_wp2_with (first | refine wpList_load_row rfl 28 _ rfl _ rfl 28 _ _ _ hc Tryz.underlying28 rfl (by rw [Tryz.size28]; simp [hz]) ?_ | refine wpList_store_row rfl 28 _ _ rfl _ _ rfl rfl 28 _ hr (by rw [Tryz.size28]; simp [hz]) (by simp [hz, zero32_len]) ho ?_)
      exact bodyPost_ret (v := .agg (refV cs k 32).toArray) (results_cell_row Tryz.results57 _ _ (w.heap.size + 1) 28 _ _ _ rfl (setRow_heap _ _ _ _ _ _ hr) Tryz.underlying28 rfl (by rw [Tryz.size28]; simp [hz])) rfl ⟨rfl, below_setRow hb (by omega) _⟩
end Go.Proofs.YtbjahdbmkcamoaaGreatDoor
