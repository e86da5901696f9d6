import Derived.Test.YtcifbnldohmbnaaCe
namespace Go.Proofs.Ytcifbnldohmbnaa
set_option linter.unusedVariables false
set_option linter.unusedSimpArgs false
open Go.RowKit
attribute [local go_sem ↓] Go.wp_at_zero Go.wp_at_succ

/-- What the first i bits of a key make. -/
def preK (k : List Int) (i : Nat) : List Int := (List.range 32).map fun j => k.getD j 0 / 2 ^ (8 - (i - 8 * j))
theorem preK_len (k : List Int) (i : Nat) : (preK k i).length = 32 := by simp [preK]
theorem preK_get (k : List Int) (i j : Nat) (hj : j < 32) : (preK k i).getD j 0 = k.getD j 0 / 2 ^ (8 - (i - 8 * j)) := by simp [preK, hj]
theorem preK_zero {k : List Int} (hb : Byts k) : preK k 0 = List.replicate 32 0 := by
  apply List.ext_getElem (by simp [preK])
  intro j h1 h2
  have := hb.get j
  simp only [preK, List.getElem_map, List.getElem_range, List.getElem_replicate]
  rw [show 8 - (0 - 8 * j) = 8 by omega]
  omega
theorem preK_all {k : List Int} (hk : k.length = 32) : preK k 256 = k := by
  apply List.ext_getElem (by simp [preK, hk])
  intro j h1 h2
  simp only [preK, List.getElem_map, List.getElem_range]
  have : j < 32 := by rw [preK_len] at h1; exact h1
  rw [show 8 - (256 - 8 * j) = 0 by omega, List.getD_eq_getElem?_getD, List.getElem?_eq_getElem h2]
  simp
theorem half (x : Int) (m : Nat) : x / (2 ^ m * 2) = x / 2 ^ m / 2 := by
  have : (0 : Int) < 2 ^ m := Int.pow_pos (by decide)
  rw [Int.ediv_ediv, if_neg (fun h => by omega), Int.sub_zero]
theorem preK_step {k : List Int} (hb : Byts k) {i : Nat} (hi : i < 256) : (preK k i).set (i / 8) (2 * (preK k i).getD (i / 8) 0 + bitK k i) = preK k (i + 1) := by
  apply List.ext_getElem (by simp [preK])
  intro j h1 h2
  rw [List.getElem_set]
  have hj : j < 32 := by rw [preK_len] at h2; exact h2
  by_cases e : i / 8 = j
  · rw [if_pos e, e, preK_get k i j hj]
    subst e
    simp only [preK, List.getElem_map, List.getElem_range, bitK]
    have x0 := hb.get (i / 8)
    generalize k.getD (i / 8) 0 = x at *
    rw [show 8 - (i - 8 * (i / 8)) = (7 - i % 8) + 1 by omega, show 8 - (i + 1 - 8 * (i / 8)) = 7 - i % 8 by omega]
    rw [Int.pow_succ, half]
    generalize x / 2 ^ (7 - i % 8) = y
    omega
  · rw [if_neg e]
    simp only [preK, List.getElem_map, List.getElem_range]
    congr 2
    omega
theorem preK_bd {k : List Int} (hb : Byts k) (i j : Nat) (hj : j < 32) (hij : i < 8 * j + 8) : 0 ≤ (preK k i).getD j 0 ∧ (preK k i).getD j 0 < 128 := by
  rw [preK_get k i j hj]
  have x0 := hb.get j
  generalize k.getD j 0 = x at *
  have h1 := shr_bd x0.1 x0.2 (8 - (i - 8 * j))
  refine ⟨h1.1, ?_⟩
  rw [show 8 - (i - 8 * j) = (7 - (i - 8 * j)) + 1 by omega, Int.pow_succ, half]
  have h2 := shr_bd x0.1 x0.2 (7 - (i - 8 * j))
  omega
set_option maxRecDepth 100000 in
set_option maxHeartbeats 1000000 in
theorem rebuilt_any (w : World) (k : List Int) (hk : k.length = 32) (hb : Byts k) :
    Calls Try.prog 9 #[.agg (ints .u8 k).toArray] w fun e w' => e = .returned (.agg (ints .u8 k).toArray) ∧ Below w.heap.size w w' := by
  go_enter Try.func9, Try.ntmps9
  go_wp2
  refine wp_at (((w.alloc (.cells (ints .u8 k).toArray 24)).alloc (.cells (ints .u8 (List.replicate 32 0)).toArray 24)).alloc (.cells (ints .u8 (List.replicate 32 0)).toArray 24)) rfl ?_
  have g1 := heap3_old w (.cells (ints .u8 k).toArray 24) (.cells (ints .u8 (List.replicate 32 0)).toArray 24) (.cells (ints .u8 (List.replicate 32 0)).toArray 24)
  have g2 := heap3_mid w (.cells (ints .u8 k).toArray 24) (.cells (ints .u8 (List.replicate 32 0)).toArray 24) (.cells (ints .u8 (List.replicate 32 0)).toArray 24)
  have g3 := heap3_new w (.cells (ints .u8 k).toArray 24) (.cells (ints .u8 (List.replicate 32 0)).toArray 24) (.cells (ints .u8 (List.replicate 32 0)).toArray 24)
  have g4 := below3 w (.cells (ints .u8 k).toArray 24) (.cells (ints .u8 (List.replicate 32 0)).toArray 24) (.cells (ints .u8 (List.replicate 32 0)).toArray 24)
  generalize (((w.alloc (.cells (ints .u8 k).toArray 24)).alloc (.cells (ints .u8 (List.replicate 32 0)).toArray 24)).alloc (.cells (ints .u8 (List.replicate 32 0)).toArray 24)) = w0 at *
  generalize hN : w.heap.size = N at *
  rw [← preK_zero hb] at g3
  go_loopw [4] (fun i wr => ∃ j : Nat, j ≤ 256 ∧ i = .int .i64 j ∧ wr.heap[N]? = some (.cells (ints .u8 k).toArray 24) ∧ wr.heap[N + 1]? = some (.cells (ints .u8 (List.replicate 32 0)).toArray 24) ∧ wr.heap[N + 1 + 1]? = some (.cells (ints .u8 (preK k j)).toArray 24) ∧ Below N w wr) (fun i _ => 256 - (intOf i).toNat)
  case atStart => exact ⟨0, by omega, rfl, g1, g2, g3, g4⟩
  case round =>
    clear g1 g2 g3 g4
    obtain ⟨j, hj, rfl, g1, g2, g3, g4⟩ := hrel
    by_cases hlt : j < 256
    · have i1 : (j : Int) < 256 := by omega
      have hs := hlt_ g3
      have KC := hid (fun w => Bit_in w k hk hb j hlt)
      have hb01 := bitK_01 k j
      have hst := hid (preK_step hb hlt)
      have hbd := preK_bd hb j (j / 8) (by omega) (by omega)
      have c0 := cell_ints g3 (j / 8) (by rw [preK_len]; omega)
      generalize bitK k j = bt at *
      generalize (preK k j).getD (j / 8) 0 = x at *
      go_wp2_with (first | refine wpList_load_row rfl 24 _ rfl _ rfl 24 _ _ _ (by exact g1) Try.underlying24 rfl (by rw [keySize]; simp [hk, ints]) ?_)
      refine (KC.out _).mono ?_
      rintro e w1 ⟨rfl, hB1⟩
      have f1 := hbel hB1 g1 (hlt_ g1)
      have f2 := hbel hB1 g2 (hlt_ g2)
      have f3 := hbel hB1 g3 (hlt_ g3)
      have f4 : Below N w w1 := g4.trans (hB1.mono (by omega))
      have c1 := (hB1.cell (p := ⟨N + 1 + 1, j / 8, none⟩) hs).trans c0
      clear c0 g1 g2 g3 g4 KC hB1
      have i2 : x < 128 := hbd.2
      have i3 : 0 ≤ x := hbd.1
      have fin : ∀ y : Int, y = 2 * x + bt → Below N w (w1.setCell ⟨N + 1 + 1, j / 8, none⟩ (.int .u8 y)) ∧ (w1.setCell ⟨N + 1 + 1, j / 8, none⟩ (.int .u8 y)).heap[N]? = some (.cells (ints .u8 k).toArray 24) ∧ (w1.setCell ⟨N + 1 + 1, j / 8, none⟩ (.int .u8 y)).heap[N + 1]? = some (.cells (ints .u8 (List.replicate 32 0)).toArray 24) ∧ (w1.setCell ⟨N + 1 + 1, j / 8, none⟩ (.int .u8 y)).heap[N + 1 + 1]? = some (.cells (ints .u8 (preK k (j + 1))).toArray 24) := by
        rintro y rfl
        refine ⟨f4.setCell (by simp; omega) _, heap_set_far f1 _ _ (by simp; omega), heap_set_far f2 _ _ (by simp), ?_⟩
        rw [heap_set_ints f3, hst.out]
      have fz := frozen_of_row _ _ (j / 8) _ _ f3
      have FIN := hid fin
      clear fin f1 f2 f3 hst
      rcases hb01 with rfl | rfl
      · go_wp2
        go_roundw
        case rel =>
          obtain ⟨q1, q2, q3, q4⟩ := FIN.out (2 * x) (by omega)
          exact ⟨j + 1, by omega, by go_num, q2, q3, q4, q1⟩
        case measure => simp [intOf]; omega
      · go_wp2
        go_roundw
        case rel =>
          obtain ⟨q1, q2, q3, q4⟩ := FIN.out (2 * x + 1) rfl
          exact ⟨j + 1, by omega, by go_num, q2, q3, q4, q1⟩
        case measure => simp [intOf]; omega
    · obtain rfl : j = 256 := by omega
      rw [preK_all hk] at g3
      clear hlt
      go_wp2_with (first | refine wpList_load_row rfl 24 _ rfl _ rfl 24 _ _ _ (by exact g3) Try.underlying24 rfl (by rw [keySize]; simp [hk, ints]) ?_ | refine wpList_store_row rfl 24 _ _ rfl _ _ rfl rfl 24 _ (by exact g2) (by rw [keySize]; simp [hk, ints]) (by simp [hk, ints]) (all_oneCell_toArray (ints_one _ _)) ?_)
      exact bodyPost_ret (v := .agg (ints .u8 k).toArray) (results_cell_row Try.results9 _ _ (N + 1) 24 _ _ _ rfl (setRow_heap _ _ _ _ _ _ g2) Try.underlying24 rfl (by rw [keySize]; simp [hk, ints])) rfl ⟨rfl, by rw [hN]; exact below_setRow g4 (by omega) _⟩
end Go.Proofs.Ytcifbnldohmbnaa
