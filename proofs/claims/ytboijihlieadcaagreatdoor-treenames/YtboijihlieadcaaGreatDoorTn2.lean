import Derived.Test.YtboijihlieadcaaGreatDoorTn1
namespace Go.Proofs.YtboijihlieadcaaGreatDoor
set_option linter.unusedVariables false
set_option linter.unusedSimpArgs false
open Go.RowKit
attribute [local go_sem ↓] Go.wp_at_zero Go.wp_at_succ

theorem Tryz.infoChg : ∃ i z, Tryz.prog.info? 43 = some i ∧ i.zero = some z ∧ i.size = 34 ∧ i.bytes ≤ 1000 := by
  have h : (Tryz.prog.info? 43).map (fun i => (i.zero.isSome, i.size, decide (i.bytes ≤ 1000))) = some (true, 34, true) := by kernel_rfl
  obtain ⟨i, hi, e⟩ := Option.map_eq_some_iff.1 h
  simp only [Prod.mk.injEq, decide_eq_true_eq] at e
  obtain ⟨z, hz⟩ := Option.isSome_iff_exists.1 e.1
  exact ⟨i, z, hi, hz, e.2.1, e.2.2⟩
theorem keyB : Tryz.prog.built 27 [] = some (ints .u8 (padz [] 32)).toArray := by kernel_rfl
set_option maxRecDepth 100000 in
set_option maxHeartbeats 2000000 in
theorem treeNames_any (w : World) : Calls Tryz.prog 3 #[] w fun e w' => e = .returned (.bool true) ∧ Below w.heap.size w w' := by
  obtain ⟨ic, zc, hi, hz, hs, hy⟩ := Tryz.infoChg
  have HI := hid hi
  have K1 := hid (show ic.bytes * 5000 ≤ 281474976710656 by have : ic.bytes * 5000 ≤ 1000 * 5000 := Nat.mul_le_mul_right _ hy; omega)
  have AD := hid dig0
  have BKy := hid keyB
  have LZ := hid (show (ints .u8 (padz [] 32)).length = 32 from rfl)
  have OZ := hid (ints_one .u8 (padz [] 32))
  generalize ints .u8 (padz [] 32) = Z at *
  clear hi hy
  go_enter Tryz.func3, Tryz.ntmps3
  go_wp2_with (first | refine wpList_built (by rfl) 27 _ rfl _ rfl _ BKy.out ?_)
  refine (get_nil _ _ _).mono ?_
  rintro e w1 ⟨rfl, hb1⟩
  go_wp2_with fail
  refine (sum_nil _ _).mono ?_
  rintro e w2 ⟨⟨Y, LY, OY, rfl⟩, hb2⟩
  have LY := hid LY
  have OY := hid OY
  have SY := hid (show (Tryz.prog.info? 28).map (·.size) = some Y.toArray.size by rw [Tryz.sizeDg, List.size_toArray, LY.out])
  have EY := hid (show Z.toArray.size = Y.toArray.size by rw [List.size_toArray, List.size_toArray, LY.out, LZ.out])
  have B2 : Below w.heap.size w w2 := hb1.trans (hb2.mono hb1.size)
  go_wp2_with (first
    | refine wpList_allocV AD.out rfl rfl ?_
    | (refine wpList_store_row rfl 28 _ _ rfl w2.heap.size Y.toArray rfl rfl 28 _ (hnew w2 _) SY.out EY.out (all_oneCell_toArray OY.out) ?_; rw [setRow_alloc]))
  have B3 : Below w.heap.size w (w2.alloc (.cells Y.toArray 28)) := B2.alloc B2.size _
  generalize w2.alloc (.cells Y.toArray 28) = w3 at *
  refine (count_nil _ _).mono ?_
  rintro e w4 ⟨rfl, hb4⟩
  have B4 : Below w.heap.size w w4 := B3.trans (hb4.mono B3.size)
  go_wp2_with (first
    | (refine wpList_make_full _ rfl _ _ 34 rfl w4.heap.size 43 ic zc 34 Tryz.underlying34 HI.out hz hs .i64 .i64 _ _ 5000 rfl rfl rfl rfl K1.out (by simp [maxLen]) (Nat.le_refl _) ?_; intro w5 hO5 hg5; have hB5 := hid (grown_keeps hg5 (fun k hk => by cases hk) (Nat.le_refl w4.heap.size)); clear hO5 hg5))
  have B5 : Below w.heap.size w w5 := B4.trans (hB5.out.mono B4.size)
  refine (cost_nil _ _ _).mono ?_
  rintro e w6 ⟨rfl, hb6⟩
  have B6 : Below w.heap.size w w6 := B5.trans (hb6.mono B5.size)
  go_wp2_with fail
  refine (update_nil _ _ _).mono ?_
  rintro e w7 ⟨rfl, hb7⟩
  have B7 : Below w.heap.size w w7 := B6.trans (hb7.mono B6.size)
  go_wp2
  go_ret
  exact ⟨rfl, B7⟩
end Go.Proofs.YtboijihlieadcaaGreatDoor
