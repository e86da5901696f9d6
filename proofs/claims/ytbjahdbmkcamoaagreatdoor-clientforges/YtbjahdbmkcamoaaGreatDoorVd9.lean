import Derived.Test.YtbjahdbmkcamoaaGreatDoorVc9
namespace Go.Proofs.YtbjahdbmkcamoaaGreatDoor
set_option linter.unusedVariables false
set_option linter.unusedSimpArgs false
open Go.RowKit
attribute [local go_sem ↓] Go.wp_at_zero Go.wp_at_succ

theorem branch_to (w : World) (hG : Glob w) (k : Int) (ls rs D : List Int) (hl : ls.length = 32) (hr : rs.length = 32) (hD : branchD k ls rs = D) :
    Calls Tryz.prog 68 #[.int .i64 k, .agg (ints .u8 ls).toArray, .agg (ints .u8 rs).toArray] w fun e w' => e = .returned (.agg (ints .u8 D).toArray) ∧ Below w.heap.size w w' := by
  rw [← hD]; exact branch_any w hG k ls rs hl hr
/-- A block of a digest, filled anew. -/
theorem dig_set {w : World} {g t : Nat} {D E : List Int} (h : w.heap[g]? = some (.cells (ints .u8 D).toArray t (0, 0))) : (w.setRow g (ints .u8 E).toArray).heap[g]? = some (.cells (ints .u8 E).toArray t (0, 0)) := setRow_heap _ _ _ _ _ _ h

set_option maxRecDepth 100000 in
set_option maxHeartbeats 1000000 in
theorem empty_any (w : World) (hG : Glob w) (k h : Int) :
    Calls Tryz.prog 67 #[.int .i64 k, .int .i64 h] w fun e w' => e = .returned (.agg (ints .u8 (emptyD k (hgt h))).toArray) ∧ Below w.heap.size w w' := by
  have hz32 : z32.length = 32 := rfl
  have KW := hid (within_any h)
  have hn := hgt_le h
  generalize hgt h = n at *
  have hB1 := ((Below.refl w.heap.size w).alloc (Nat.le_refl _) (.cells (ints .u8 z32).toArray 28)).alloc (by simp) (.cells #[.int .u8 2] 5)
  have g0 : ((w.alloc (.cells (ints .u8 z32).toArray 28)).alloc (.cells #[.int .u8 2] 5)).heap[w.heap.size]? = some (.cells (ints .u8 z32).toArray 28) := hold (hnew w _)
  have g1 : ((w.alloc (.cells (ints .u8 z32).toArray 28)).alloc (.cells #[.int .u8 2] 5)).heap[w.heap.size + 1]? = some (.cells (ints .u8 ([2] ++ [])).toArray 5) := by
    have h := hnew (w.alloc (.cells (ints .u8 z32).toArray 28)) (.cells #[.int .u8 2] 5)
    rw [show (w.alloc (.cells (ints .u8 z32).toArray 28)).heap.size = w.heap.size + 1 by simp] at h
    exact h
  go_enter Tryz.func67, Tryz.ntmps67
  go_wp2_with fail
  show Calls Tryz.prog 13 _ ((w.alloc (.cells (ints .u8 z32).toArray 28)).alloc (.cells #[.int .u8 2] 5)) _
  generalize ((w.alloc (.cells (ints .u8 z32).toArray 28)).alloc (.cells #[.int .u8 2] 5)) = w1 at *
  have hS1 : Src w1 (some ⟨w.heap.size + 1, 0, none⟩) 1 [2] := src_row g1 1 (by simp) (by simp [maxLen])
  refine (dsum_any w1 [2] _ 1 hS1 (hG.below hB1 hG.1) (by simp)).mono ?_
  rintro e w2 ⟨rfl, hB2⟩
  have q2 := hbel hB2 g0 (hlt g0)
  have hB2' := hB1.trans (hB2.mono hB1.size)
  have hsl := sha_len [2]
  have HE := hid (show cutZ (sha [2]) (kept k) = emptyD k 0 from rfl)
  generalize sha [2] = S at *
  clear hS1 g0 g1 hB2 hB1
  go_wp2_with fail
  refine (cutD_any S hsl k w2).mono ?_
  rintro e w3 ⟨rfl, hB3⟩
  have q3 := hold (o := .cells (ints .u8 z32).toArray 28) (hbel hB3 q2 (hlt q2))
  have r3 := hnew w3 (.cells (ints .u8 z32).toArray 28)
  have hB3' := (hB2'.trans (hB3.mono hB2'.size))
  have hE3 : w.heap.size < w3.heap.size := Nat.lt_of_lt_of_le (hlt q2) hB3.size
  have hB4' := hB3'.alloc (by omega) (.cells (ints .u8 z32).toArray 28)
  rw [HE.out]
  clear hB3 hB2' q2 HE hB3'
  have hcl := emptyD_len k 0
  have ho := all_oneCell_toArray (ints_one .u8 (emptyD k 0))
  go_wp2_with (first | refine wpList_store_row rfl 28 _ _ rfl _ _ rfl rfl 28 _ r3 (by rw [Tryz.size28, ints_size, hcl]) (by rw [ints_size, ints_size, hcl, hz32]) ho ?_ | (go_at_call 83; refine (KW.out _).mono ?_; rintro e w5 ⟨rfl, rfl⟩))
  have hbs := below_setRow hB4' (Nat.le_of_lt hE3) (ints .u8 (emptyD k 0)).toArray
  have q5 := (setRow_other (w3.alloc (.cells (ints .u8 z32).toArray 28)) w3.heap.size w.heap.size (ints .u8 (emptyD k 0)).toArray (by omega)).trans q3
  have r5 := dig_set (E := emptyD k 0) r3
  generalize w3.heap.size = E at *
  clear q3 r3 hB4' ho hcl
  go_loopw [12] (fun i wr => ∃ j : Nat, j ≤ n ∧ i = .int .i64 j ∧ wr.heap[w.heap.size]? = some (.cells (ints .u8 z32).toArray 28) ∧ wr.heap[E]? = some (.cells (ints .u8 (emptyD k j)).toArray 28) ∧ Below w.heap.size w wr) (fun i _ => n - (intOf i).toNat)
  case atStart => exact ⟨0, by omega, rfl, q5, r5, hbs⟩
  case round =>
    clear q5 r5 hbs
    obtain ⟨j, hj, rfl, q, r, hB⟩ := hrel
    have hcl := emptyD_len k j
    by_cases hlt' : j < n
    · have i1 : (j : Int) < (n : Int) := by omega
      have i2 : (n : Int) ≤ 256 := by omega
      have hGr := hG.below hB hG.1
      have hcl2 := emptyD_len k (j + 1)
      have KB := hid (branch_to wr hGr k (emptyD k j) (emptyD k j) (emptyD k (j + 1)) hcl hcl rfl)
      generalize hD2 : emptyD k (j + 1) = D2 at *
      have HD2 := hid hD2
      clear hD2
      generalize emptyD k j = D1 at *
      go_wp2_with (first | refine wpList_load_row rfl 28 _ rfl _ rfl 28 _ _ _ r Tryz.underlying28 rfl (by rw [ints_size, hcl]; rfl) ?_)
      refine KB.out.mono ?_
      rintro e w7 ⟨rfl, hB7⟩
      have q7 := hbel hB7 q (hlt q)
      have r7 := hbel hB7 r (hlt r)
      have hB7' := hB.trans (hB7.mono hB.size)
      have ho := all_oneCell_toArray (ints_one .u8 D2)
      clear KB hB7 q r
      go_wp2_with (first | refine wpList_store_row rfl 28 _ _ rfl _ _ rfl rfl 28 _ r7 (by rw [Tryz.size28, ints_size, hcl2]) (by rw [ints_size, ints_size, hcl2, hcl]) ho ?_)
      go_roundw
      case rel => exact ⟨j + 1, by omega, by go_num, (setRow_other _ _ _ _ (by omega)).trans q7, (by rw [HD2.out]; exact dig_set r7), below_setRow hB7' (by omega) _⟩
      case measure => simp [intOf]; omega
    · obtain rfl : j = n := by omega
      clear hlt'
      generalize hD1 : emptyD k j = D1 at *
      have HD1 := hid hD1
      clear hD1
      have ho := all_oneCell_toArray (ints_one .u8 D1)
      go_wp2_with (first | refine wpList_load_row rfl 28 _ rfl _ rfl 28 _ _ _ r Tryz.underlying28 rfl (by rw [ints_size, hcl]; rfl) ?_ | refine wpList_store_row rfl 28 _ _ rfl _ _ rfl rfl 28 _ q (by rw [Tryz.size28, ints_size, hcl]) (by rw [ints_size, ints_size, hcl, hz32]) ho ?_)
      exact bodyPost_ret (v := .agg (ints .u8 D1).toArray) (results_cell_row Tryz.results67 _ _ w.heap.size 28 _ _ _ rfl (setRow_heap _ _ _ _ _ _ q) Tryz.underlying28 rfl (by rw [Tryz.size28, ints_size, hcl])) rfl ⟨by rw [HD1.out], below_setRow hB (by omega) _⟩
end Go.Proofs.YtbjahdbmkcamoaaGreatDoor
