import Derived.Test.YtblcpcfonnaiiaaDoorD1a
namespace Go.Proofs.YtblcpcfonnaiiaaDoor
set_option linter.unusedVariables false
set_option linter.unusedSimpArgs false
open Go.RowKit
attribute [local go_sem ↓] Go.wp_at_zero Go.wp_at_succ

theorem Tryd.size72 : (Tryd.prog.info? 72).map (·.size) = some 1 := by kernel_rfl
theorem Tryd.size73 : (Tryd.prog.info? 73).map (·.size) = some 8 := by kernel_rfl
theorem Tryd.size74 : (Tryd.prog.info? 74).map (·.size) = some 64 := by kernel_rfl
theorem Tryd.size85 : (Tryd.prog.info? 85).map (·.size) = some 64 := by kernel_rfl
theorem Tryd.size29 : (Tryd.prog.info? 29).map (·.size) = some 32 := by kernel_rfl
theorem Tryd.size77 : (Tryd.prog.info? 77).map (·.size) = some 73 := by kernel_rfl

def word4 (a b c d : Int) : Int := bits .or .u32 (bits .or .u32 (bits .or .u32 (IntKind.u32.wrap (IntKind.u32.wrap a * 16777216)) (IntKind.u32.wrap (IntKind.u32.wrap b * 65536))) (IntKind.u32.wrap (IntKind.u32.wrap c * 256))) (IntKind.u32.wrap d)
def w16 (bs : List Int) (n : Nat) : List Int := (List.range n).map fun t => word4 (bs[4 * t]?.getD 0) (bs[4 * t + 1]?.getD 0) (bs[4 * t + 2]?.getD 0) (bs[4 * t + 3]?.getD 0)
theorem w16_len (bs : List Int) (n : Nat) : (w16 bs n).length = n := by simp [w16]
theorem w16_succ (bs : List Int) (n : Nat) : w16 bs (n + 1) = w16 bs n ++ [word4 (bs[4 * n]?.getD 0) (bs[4 * n + 1]?.getD 0) (bs[4 * n + 2]?.getD 0) (bs[4 * n + 3]?.getD 0)] := by
  simp [w16, List.range_succ]
/-- Every element fits 32 bits. -/
def Bd32 (v : List Int) : Prop := ∀ j : Nat, 0 ≤ v[j]?.getD 0 ∧ v[j]?.getD 0 ≤ 4294967295
theorem bd32_nil : Bd32 [] := fun j => by simp
theorem bd32_snoc {v : List Int} (h : Bd32 v) {x : Int} (hx : 0 ≤ x ∧ x ≤ 4294967295) : Bd32 (v ++ [x]) := fun j => by
  by_cases c : j < v.length
  · rw [List.getElem?_append_left c]; exact h j
  · rw [List.getElem?_append_right (by omega)]
    by_cases d : j - v.length = 0
    · rw [d]; simpa using hx
    · rw [List.getElem?_eq_none (by simp; omega)]; simp
theorem w16_bd (bs : List Int) : ∀ n, Bd32 (w16 bs n)
  | 0 => bd32_nil
  | n + 1 => by rw [w16_succ]; exact bd32_snoc (w16_bd bs n) (bits_bd _ _ _)
def nextW (v : List Int) (t : Nat) : Int := IntKind.u32.wrap (IntKind.u32.wrap (IntKind.u32.wrap (low1F (v[t - 2]?.getD 0) + v[t - 7]?.getD 0) + low0F (v[t - 15]?.getD 0)) + v[t - 16]?.getD 0)
def schedTo (bs : List Int) : Nat → List Int
  | 0 => w16 bs 16
  | n + 1 => schedTo bs n ++ [nextW (schedTo bs n) (16 + n)]
theorem schedTo_len (bs : List Int) : ∀ n, (schedTo bs n).length = 16 + n
  | 0 => by simp [schedTo, w16_len]
  | n + 1 => by simp [schedTo, schedTo_len bs n]; omega
theorem schedTo_bd (bs : List Int) : ∀ n, Bd32 (schedTo bs n)
  | 0 => w16_bd bs 16
  | n + 1 => bd32_snoc (schedTo_bd bs n) (wrap_bd _)
def sched (bs : List Int) : List Int := schedTo bs 48
theorem sched_len (bs : List Int) : (sched bs).length = 64 := schedTo_len bs 48
set_option maxRecDepth 100000 in
set_option maxHeartbeats 1000000 in
theorem schedule_any (bs : List Int) (hl : bs.length = 64) (w : World) :
    Calls Tryd.prog 61 #[.agg (ints .u8 bs).toArray] w fun e w' => e = .returned (.agg (ints .u32 (sched bs)).toArray) ∧ Below w.heap.size w w' := by
  go_enter Tryd.func61, Tryd.ntmps61
  go_wp2
  go_loopw [4, 5, 7] (fun _ _ i wr => ∃ n : Nat, n ≤ 16 ∧ i = .int .i64 n ∧ wr.heap[w.heap.size]? = some (Obj.cells (ints .u8 bs).toArray 74) ∧ wr.heap[w.heap.size + 1]? = some (Obj.cells (ints .u32 (padz [] 64)).toArray 85) ∧ wr.heap[w.heap.size + 1 + 1]? = some (Obj.cells (ints .u32 (padz (w16 bs n) 64)).toArray 85) ∧ Below w.heap.size w wr) (fun _ _ i _ => 16 - (intOf i).toNat)
  case atStart => exact ⟨0, by omega, rfl, heap3_old w _ _ _, heap3_mid w _ _ _, heap3_new w _ _ _, below3 w _ _ _⟩
  case round =>
    obtain ⟨n, hn, rfl, h1, h2, h3, hB⟩ := hrel
    by_cases hlt : n < 16
    · have i1 : (n : Int) < 16 := by omega
      have c0 : wr.cell? ⟨w.heap.size, (4 * (n : Int)).toNat, none⟩ = some (.int .u8 (bs.getD (4 * n) 0)) := by rw [show (4 * (n : Int)).toNat = 4 * n by omega]; exact cell_ints h1 (4 * n) (by omega)
      have c1 : wr.cell? ⟨w.heap.size, (4 * (n : Int) + 1).toNat, none⟩ = some (.int .u8 (bs.getD (4 * n + 1) 0)) := by rw [show (4 * (n : Int) + 1).toNat = 4 * n + 1 by omega]; exact cell_ints h1 (4 * n + 1) (by omega)
      have c2 : wr.cell? ⟨w.heap.size, (4 * (n : Int) + 2).toNat, none⟩ = some (.int .u8 (bs.getD (4 * n + 2) 0)) := by rw [show (4 * (n : Int) + 2).toNat = 4 * n + 2 by omega]; exact cell_ints h1 (4 * n + 2) (by omega)
      have c3 : wr.cell? ⟨w.heap.size, (4 * (n : Int) + 3).toNat, none⟩ = some (.int .u8 (bs.getD (4 * n + 3) 0)) := by rw [show (4 * (n : Int) + 3).toNat = 4 * n + 3 by omega]; exact cell_ints h1 (4 * n + 3) (by omega)
      have c4 := cell_ints h3 n (by rw [padz_len _ _ (by rw [w16_len]; omega)]; omega)
      have f4 : wr.frozen? ⟨w.heap.size + 1 + 1, n, none⟩ = false := frozen_of_row _ _ _ _ _ h3
      have j0 : (0 : Int) ≤ 4 * (n : Int) := by omega
      have j1 : (0 : Int) ≤ 4 * (n : Int) + 1 := by omega
      have j2 : (0 : Int) ≤ 4 * (n : Int) + 2 := by omega
      have j3 : (0 : Int) ≤ 4 * (n : Int) + 3 := by omega
      have k0 : 4 * (n : Int) < 64 := by omega
      have k1 : 4 * (n : Int) + 1 < 64 := by omega
      have k2 : 4 * (n : Int) + 2 < 64 := by omega
      have k3 : 4 * (n : Int) + 3 < 64 := by omega
      have k4 : (n : Int) < 64 := by omega
      have r1 : IntKind.i64.wrap (4 * (n : Int) + 1) = 4 * (n : Int) + 1 := wrap_i64_id _ (by omega) (by omega)
      have r2 : IntKind.i64.wrap (4 * (n : Int) + 2) = 4 * (n : Int) + 2 := wrap_i64_id _ (by omega) (by omega)
      have r3 : IntKind.i64.wrap (4 * (n : Int) + 3) = 4 * (n : Int) + 3 := wrap_i64_id _ (by omega) (by omega)
      have hne : w.heap.size + 1 + 1 ≠ w.heap.size := by omega
      go_wp2
      go_region_held3 (fun w' => w'.cell? ⟨w.heap.size, (4 * (n : Int)).toNat, none⟩ = some (.int .u8 (bs.getD (4 * n) 0)) ∧ w'.cell? ⟨w.heap.size, (4 * (n : Int) + 1).toNat, none⟩ = some (.int .u8 (bs.getD (4 * n + 1) 0)) ∧ w'.cell? ⟨w.heap.size, (4 * (n : Int) + 2).toNat, none⟩ = some (.int .u8 (bs.getD (4 * n + 2) 0)) ∧ w'.cell? ⟨w.heap.size, (4 * (n : Int) + 3).toNat, none⟩ = some (.int .u8 (bs.getD (4 * n + 3) 0))) (go_keep) (fail)
      go_wp2
      go_roundw
      case rel => exact ⟨n + 1, by omega, by go_num, heap_set_far h1 _ _ (by show w.heap.size ≠ w.heap.size + 1 + 1; omega), heap_set_far h2 _ _ (by show w.heap.size + 1 ≠ w.heap.size + 1 + 1; omega), (by have := heap_set_ints h3 n (word4 (bs[4 * n]?.getD 0) (bs[4 * n + 1]?.getD 0) (bs[4 * n + 2]?.getD 0) (bs[4 * n + 3]?.getD 0)); rw [w16_succ, ← padz_set _ _ _ (by rw [w16_len]; omega), w16_len]; exact this), (hB.setCell (by simp; omega) _).drew⟩
      case measure => simp [intOf]; omega
    · obtain rfl : n = 16 := by omega
      clear hlt
      go_wp2
      obtain ⟨wo, ho⟩ : ∃ wo : World, wo = wr := ⟨_, rfl⟩
      go_loopw [6] (fun i wr => ∃ n : Nat, n ≤ 48 ∧ i = .int .i64 (16 + n : Nat) ∧ wr.heap[w.heap.size + 1]? = some (Obj.cells (ints .u32 (padz [] 64)).toArray 85) ∧ wr.heap[w.heap.size + 1 + 1]? = some (Obj.cells (ints .u32 (padz (schedTo bs n) 64)).toArray 85) ∧ Below w.heap.size w wr) (fun i _ => 64 - (intOf i).toNat)
      case atStart => exact ⟨0, by omega, rfl, h2, h3, hB⟩
      case round =>
        clear h1 h2 h3 hB ho
        obtain ⟨n, hn, rfl, h2, h3, hB⟩ := hrel
        have hlen := schedTo_len bs n
        have hbd := schedTo_bd bs n
        by_cases hlt : n < 48
        · have hnx : schedTo bs (n + 1) = schedTo bs n ++ [nextW (schedTo bs n) (16 + n)] := rfl
          have HN := hid hnx
          clear hnx
          generalize schedTo bs n = v at *
          obtain ⟨t, ht⟩ : ∃ t : Nat, t = 16 + n := ⟨_, rfl⟩
          rw [← ht] at hlen HN ⊢
          have t1 : 16 ≤ t := by omega
          have t2 : t < 64 := by omega
          have HT := hid ht
          clear ht
          have i1 : (16 : Int) ≤ t := by omega
          have i2 : (t : Int) < 64 := by omega
          have c2 : wr.cell? ⟨w.heap.size + 1 + 1, ((t : Int) - 2).toNat, none⟩ = some (.int .u32 (v[t - 2]?.getD 0)) := by rw [show ((t : Int) - 2).toNat = t - 2 by omega]; exact cell_padz h3 (by omega) (t - 2) (by omega)
          have c7 : wr.cell? ⟨w.heap.size + 1 + 1, ((t : Int) - 7).toNat, none⟩ = some (.int .u32 (v[t - 7]?.getD 0)) := by rw [show ((t : Int) - 7).toNat = t - 7 by omega]; exact cell_padz h3 (by omega) (t - 7) (by omega)
          have c15 : wr.cell? ⟨w.heap.size + 1 + 1, ((t : Int) - 15).toNat, none⟩ = some (.int .u32 (v[t - 15]?.getD 0)) := by rw [show ((t : Int) - 15).toNat = t - 15 by omega]; exact cell_padz h3 (by omega) (t - 15) (by omega)
          have c16 : wr.cell? ⟨w.heap.size + 1 + 1, ((t : Int) - 16).toNat, none⟩ = some (.int .u32 (v[t - 16]?.getD 0)) := by rw [show ((t : Int) - 16).toNat = t - 16 by omega]; exact cell_padz h3 (by omega) (t - 16) (by omega)
          have cT := cell_ints h3 t (by rw [padz_len _ _ (by omega)]; omega)
          have fT : wr.frozen? ⟨w.heap.size + 1 + 1, t, none⟩ = false := frozen_of_row _ _ _ _ _ h3
          have j2 : (2 : Int) ≤ (t : Int) := by omega
          have j7 : (7 : Int) ≤ (t : Int) := by omega
          have j15 : (15 : Int) ≤ (t : Int) := by omega
          have j16 : (16 : Int) ≤ (t : Int) := by omega
          have k2 : (t : Int) - 2 < 64 := by omega
          have k7 : (t : Int) - 7 < 64 := by omega
          have k15 : (t : Int) - 15 < 64 := by omega
          have k16 : (t : Int) - 16 < 64 := by omega
          have r2 : IntKind.i64.wrap ((t : Int) - 2) = (t : Int) - 2 := wrap_i64_id _ (by omega) (by omega)
          have r7 : IntKind.i64.wrap ((t : Int) - 7) = (t : Int) - 7 := wrap_i64_id _ (by omega) (by omega)
          have r15 : IntKind.i64.wrap ((t : Int) - 15) = (t : Int) - 15 := wrap_i64_id _ (by omega) (by omega)
          have r16 : IntKind.i64.wrap ((t : Int) - 16) = (t : Int) - 16 := wrap_i64_id _ (by omega) (by omega)
          have b2 := hbd (t - 2)
          have b15 := hbd (t - 15)
          have KL1 := hid (fun w => low1_any (v[t - 2]?.getD 0) b2.1 b2.2 w)
          have KL0 := hid (fun w => low0_any (v[t - 15]?.getD 0) b15.1 b15.2 w)
          clear b2 b15 hbd
          go_wp2
          go_region_held3 (fun w' => w'.cell? ⟨w.heap.size + 1 + 1, ((t : Int) - 2).toNat, none⟩ = some (.int .u32 (v[t - 2]?.getD 0)) ∧ w'.cell? ⟨w.heap.size + 1 + 1, ((t : Int) - 7).toNat, none⟩ = some (.int .u32 (v[t - 7]?.getD 0)) ∧ w'.cell? ⟨w.heap.size + 1 + 1, ((t : Int) - 15).toNat, none⟩ = some (.int .u32 (v[t - 15]?.getD 0)) ∧ w'.cell? ⟨w.heap.size + 1 + 1, ((t : Int) - 16).toNat, none⟩ = some (.int .u32 (v[t - 16]?.getD 0)))
            (first | (simp [*]; done) | (refine ⟨?_, ?_, ?_, ?_⟩ <;> (show World.cell? (World.setCell _ _ _) _ = _; rw [World.cell?_setCell_other _ _ _ _ (by intro h; injection h; omega)]; assumption)))
            (first | (go_at_call 70; refine (KL1.out _).mono ?_; rintro e w' ⟨rfl, rfl⟩) | (go_at_call 71; refine (KL0.out _).mono ?_; rintro e w' ⟨rfl, rfl⟩))
          go_wp2
          go_roundw
          case rel => (repeat apply Exists.intro); exact ⟨⟨n + 1, by omega, by rw [show 16 + (n + 1) = t + 1 by have := HT.out; omega]; go_num, heap_set_far h2 _ _ (by show w.heap.size + 1 ≠ w.heap.size + 1 + 1; omega), (by have := heap_set_ints h3 t (nextW v t); rw [HN.out, ← padz_set _ _ _ (by omega), hlen]; exact this), (hB.setCell (by simp; omega) _).drew⟩, rfl⟩
          case measure => simp [intOf]; omega
        · obtain rfl : n = 48 := by omega
          rw [padz_full _ _ hlen] at h3
          have hsc : schedTo bs 48 = sched bs := rfl
          rw [hsc] at h3 hlen
          clear hsc hlt hbd
          have ho := all_oneCell_toArray (ints_one .u32 (sched bs))
          have hZ : (padz [] 64).length = 64 := padz_len [] 64 (by simp)
          generalize padz [] 64 = Z at *
          go_wp2_with (first | refine wpList_load_row rfl 85 _ rfl _ rfl 85 _ _ _ h3 Tryd.underlying85 rfl (by rw [Tryd.size85, ints_size, hlen]) ?_ | refine wpList_store_row rfl 85 _ _ rfl _ _ rfl rfl 85 _ h2 (by rw [Tryd.size85, ints_size, hlen]) (by rw [ints_size, ints_size, hlen, hZ]) ho ?_)
          exact bodyPost_ret (v := .agg (ints .u32 (sched bs)).toArray) (results_cell_row Tryd.results61 _ _ (w.heap.size + 1) 85 _ _ _ rfl (setRow_heap _ _ _ _ _ _ h2) Tryd.underlying85 rfl (by rw [Tryd.size85, ints_size, hlen])) rfl ⟨rfl, below_setRow hB (by omega) _⟩
end Go.Proofs.YtblcpcfonnaiiaaDoor
