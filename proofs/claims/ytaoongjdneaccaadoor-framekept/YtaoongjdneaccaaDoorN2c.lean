import Derived.Test.YtaoongjdneaccaaDoorNt5
namespace Go.Proofs.YtaoongjdneaccaaDoor
set_option linter.unusedVariables false
set_option linter.unusedSimpArgs false
open Go.RowKit
attribute [local go_sem ↓] Go.wp_at_zero Go.wp_at_succ

theorem supN (s : Sup) : (Tryd.prog.info? 31).map (·.size) = some (supC s).size := by rw [size_super]; rfl
theorem supO (s : Sup) : (supC s).all (·.oneCell') = true := by simp [supC, Value.oneCell']
theorem supZ (s : Sup) : (#[.int .i64 0, .int .i64 0, .int .i64 0, .int .i64 0, .int .i64 0] : Array Value).size = (supC s).size := rfl
theorem setRow3 (w : World) (A B : Obj) (cs ds : Array Value) (t : TypeId) (fr : Nat × Nat) : (((w.alloc A).alloc B).alloc (.cells cs t fr)).setRow (w.heap.size + 1 + 1) ds = ((w.alloc A).alloc B).alloc (.cells ds t fr) := by
  have h := setRow_alloc ((w.alloc A).alloc B) cs ds t fr
  rw [World.size_alloc, World.size_alloc] at h
  exact h
def mkN (n o : Sup) (M : Int) : Sup := { o with ge := o.ge + 1, ma := M, hd := n.hd }
theorem fin3 {w w3 : World} {n o : Sup} (r1 : w3.heap[w.heap.size]? = some (.cells (supC n) 31 (0, 0))) (r3 : w3.heap[w.heap.size + 1 + 1]? = some (.cells (supC o) 31 (0, 0))) (b3 : Below w.heap.size w w3) (M : Int) :
    (((w3.setCell ⟨w.heap.size + 1 + 1, 1, none⟩ (.int .i64 (o.ge + 1))).setCell ⟨w.heap.size + 1 + 1, 2, none⟩ (.int .i64 M)).setCell ⟨w.heap.size + 1 + 1, 3, none⟩ (.int .i64 n.hd)).heap[w.heap.size]? = some (.cells (supC n) 31 (0, 0))
    ∧ (((w3.setCell ⟨w.heap.size + 1 + 1, 1, none⟩ (.int .i64 (o.ge + 1))).setCell ⟨w.heap.size + 1 + 1, 2, none⟩ (.int .i64 M)).setCell ⟨w.heap.size + 1 + 1, 3, none⟩ (.int .i64 n.hd)).heap[w.heap.size + 1 + 1]? = some (.cells (supC (mkN n o M)) 31 (0, 0))
    ∧ Below w.heap.size w (((w3.setCell ⟨w.heap.size + 1 + 1, 1, none⟩ (.int .i64 (o.ge + 1))).setCell ⟨w.heap.size + 1 + 1, 2, none⟩ (.int .i64 M)).setCell ⟨w.heap.size + 1 + 1, 3, none⟩ (.int .i64 n.hd)) := by
  have S1 := heap_setCell_same w3 _ 1 _ _ (.int .i64 (o.ge + 1)) r3
  have S2 := heap_setCell_same _ _ 2 _ _ (.int .i64 M) S1
  have S3 := heap_setCell_same _ _ 3 _ _ (.int .i64 n.hd) S2
  refine ⟨heap_set_far (heap_set_far (heap_set_far r1 ⟨w.heap.size + 1 + 1, 1, none⟩ _ (by simp; omega)) ⟨w.heap.size + 1 + 1, 2, none⟩ _ (by simp; omega)) ⟨w.heap.size + 1 + 1, 3, none⟩ _ (by simp; omega), S3, ((b3.setCell (by simp; omega) _).setCell (by simp; omega) _).setCell (by simp; omega) _⟩
theorem foll_gt (n o : Sup) (h : o.ma < n.ma) : follF n o = decide (n = mkN n o n.ma) := by
  unfold follF mkN; rw [show max o.ma n.ma = n.ma by omega]
theorem foll_le (n o : Sup) (h : ¬ o.ma < n.ma) : follF n o = decide (n = mkN n o o.ma) := by
  unfold follF mkN; rw [show max o.ma n.ma = o.ma by omega]
set_option maxRecDepth 100000 in
set_option maxHeartbeats 1000000 in
theorem follows_any (w : World) (n o : Sup) (hb : -9223372036854775808 ≤ o.ge ∧ o.ge < 9223372036854775807) :
    Calls Tryd.prog 53 #[.agg (supC n), .agg (supC o)] w fun ed w' => ed = .returned (.bool (follF n o)) ∧ Below w.heap.size w w' := by
  obtain ⟨h1, h2⟩ := hb
  have h3 : o.ge + 1 ≤ 9223372036854775807 := by omega
  have KQ := fun (M : Int) => eqSup n (mkN n o M)
  have KG := guardU
  have r1 := heap3_old w (.cells (supC n) 31) (.cells (supC o) 31) (.cells (supC o) 31)
  have r2 := heap3_mid w (.cells (supC n) 31) (.cells (supC o) 31) (.cells (supC o) 31)
  have r3 := heap3_new w (.cells (supC n) 31) (.cells (supC o) 31) (.cells (supC o) 31)
  have b3 := below3 w (.cells (supC n) 31) (.cells (supC o) 31) (.cells (supC o) 31)
  have z3 := heap3_new w (.cells (supC n) 31) (.cells (supC o) 31) (.cells #[.int .i64 0, .int .i64 0, .int .i64 0, .int .i64 0, .int .i64 0] 31)
  have HSR := hid (setRow3 w (.cells (supC n) 31) (.cells (supC o) 31) #[.int .i64 0, .int .i64 0, .int .i64 0, .int .i64 0, .int .i64 0] (supC o) 31 (0, 0))
  have q3 := hnew (w.alloc (.cells (supC n) 31)) (.cells (supC o) 31)
  rw [World.size_alloc] at q3
  by_cases hm : o.ma < n.ma
  · have HF := hid (foll_gt n o hm)
    go_enter Tryd.func53, Tryd.ntmps53
    go_wp2_with (first
      | (refine wpList_load_row_w rfl 31 (.tmp 3) rfl (w.heap.size + 1) rfl 31 (supC o) (0, 0) _ q3 Tryd.underlying31 rfl (supN o) ?_)
      | (refine wpList_load_row_w (by rfl) 31 (.tmp 2) (by rfl) w.heap.size (by rfl) 31 (supC n) (0, 0) _ (by exact (fin3 r1 r3 b3 _).1) Tryd.underlying31 rfl (supN n) ?_)
      | (refine wpList_load_row_w (by rfl) 31 (.tmp 5) (by rfl) (w.heap.size + 1 + 1) (by rfl) 31 (supC (mkN n o n.ma)) (0, 0) _ (by exact (fin3 r1 r3 b3 n.ma).2.1) Tryd.underlying31 rfl (supN _) ?_; have B9 := (fin3 r1 r3 b3 n.ma).2.2)
      | (refine wpList_store_row rfl 31 _ _ rfl _ (supC o) rfl rfl 31 _ z3 (supN o) (supZ o) (supO o) ?_; rw [HSR.out]; clear HSR z3 q3; generalize ((w.alloc (.cells (supC n) 31)).alloc (.cells (supC o) 31)).alloc (.cells (supC o) 31) = w3 at *; have c1 : w3.cell? ⟨w.heap.size + 1 + 1, 1, none⟩ = some (.int .i64 o.ge) := cell_of_row w3 _ 1 _ _ _ r3; have c2 : w3.cell? ⟨w.heap.size + 1 + 1, 2, none⟩ = some (.int .i64 o.ma) := cell_of_row w3 _ 2 _ _ _ r3; have c3 : w3.cell? ⟨w.heap.size + 1 + 1, 3, none⟩ = some (.int .i64 o.hd) := cell_of_row w3 _ 3 _ _ _ r3; have c4 : w3.cell? ⟨w.heap.size + 1, 2, none⟩ = some (.int .i64 o.ma) := cell_of_row w3 _ 2 _ _ _ r2; have c5 : w3.cell? ⟨w.heap.size, 2, none⟩ = some (.int .i64 n.ma) := cell_of_row w3 _ 2 _ _ _ r1; have c6 : w3.cell? ⟨w.heap.size, 3, none⟩ = some (.int .i64 n.hd) := cell_of_row w3 _ 3 _ _ _ r1; have f1 : w3.frozen? ⟨w.heap.size + 1 + 1, 1, none⟩ = false := frozen_of_row _ _ _ _ _ r3; have f2 : w3.frozen? ⟨w.heap.size + 1 + 1, 2, none⟩ = false := frozen_of_row _ _ _ _ _ r3; have f3 : w3.frozen? ⟨w.heap.size + 1 + 1, 3, none⟩ = false := frozen_of_row _ _ _ _ _ r3))
    go_ret
    exact ⟨by rw [HF.out]; rfl, B9⟩
  · have HF := hid (foll_le n o hm)
    go_enter Tryd.func53, Tryd.ntmps53
    go_wp2_with (first
      | (refine wpList_load_row_w rfl 31 (.tmp 3) rfl (w.heap.size + 1) rfl 31 (supC o) (0, 0) _ q3 Tryd.underlying31 rfl (supN o) ?_)
      | (refine wpList_load_row_w (by rfl) 31 (.tmp 2) (by rfl) w.heap.size (by rfl) 31 (supC n) (0, 0) _ (by exact (fin3 r1 r3 b3 _).1) Tryd.underlying31 rfl (supN n) ?_)
      | (refine wpList_load_row_w (by rfl) 31 (.tmp 5) (by rfl) (w.heap.size + 1 + 1) (by rfl) 31 (supC (mkN n o o.ma)) (0, 0) _ (by exact (fin3 r1 r3 b3 o.ma).2.1) Tryd.underlying31 rfl (supN _) ?_; have B9 := (fin3 r1 r3 b3 o.ma).2.2)
      | (refine wpList_store_row rfl 31 _ _ rfl _ (supC o) rfl rfl 31 _ z3 (supN o) (supZ o) (supO o) ?_; rw [HSR.out]; clear HSR z3 q3; generalize ((w.alloc (.cells (supC n) 31)).alloc (.cells (supC o) 31)).alloc (.cells (supC o) 31) = w3 at *; have c1 : w3.cell? ⟨w.heap.size + 1 + 1, 1, none⟩ = some (.int .i64 o.ge) := cell_of_row w3 _ 1 _ _ _ r3; have c2 : w3.cell? ⟨w.heap.size + 1 + 1, 2, none⟩ = some (.int .i64 o.ma) := cell_of_row w3 _ 2 _ _ _ r3; have c3 : w3.cell? ⟨w.heap.size + 1 + 1, 3, none⟩ = some (.int .i64 o.hd) := cell_of_row w3 _ 3 _ _ _ r3; have c4 : w3.cell? ⟨w.heap.size + 1, 2, none⟩ = some (.int .i64 o.ma) := cell_of_row w3 _ 2 _ _ _ r2; have c5 : w3.cell? ⟨w.heap.size, 2, none⟩ = some (.int .i64 n.ma) := cell_of_row w3 _ 2 _ _ _ r1; have c6 : w3.cell? ⟨w.heap.size, 3, none⟩ = some (.int .i64 n.hd) := cell_of_row w3 _ 3 _ _ _ r1; have f1 : w3.frozen? ⟨w.heap.size + 1 + 1, 1, none⟩ = false := frozen_of_row _ _ _ _ _ r3; have f2 : w3.frozen? ⟨w.heap.size + 1 + 1, 2, none⟩ = false := frozen_of_row _ _ _ _ _ r3; have f3 : w3.frozen? ⟨w.heap.size + 1 + 1, 3, none⟩ = false := frozen_of_row _ _ _ _ _ r3))
    go_ret
    exact ⟨by rw [HF.out]; rfl, B9⟩
end Go.Proofs.YtaoongjdneaccaaDoor
