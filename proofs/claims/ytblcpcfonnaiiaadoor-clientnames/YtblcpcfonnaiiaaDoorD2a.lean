import Derived.Test.YtblcpcfonnaiiaaDoorD1k
namespace Go.Proofs.YtblcpcfonnaiiaaDoor
open Go.RowKit
attribute [local go_sem ↓] Go.wp_at_zero Go.wp_at_succ

def zero32 : List Value := List.replicate 32 (.int .u8 0)
def cutV (cs : List Value) (n : Nat) : List Value := splice zero32 0 (cs.take n)


theorem zero32_len : zero32.length = 32 := by simp [zero32]
theorem cutV_len (cs : List Value) (n : Nat) (hl : cs.length = 32) : (cutV cs n).length = 32 := by
  unfold cutV; rw [length_splice _ _ _ (by rw [zero32_len]; simp; omega), zero32_len]
theorem cutV_one (cs : List Value) (n : Nat) (h1 : ∀ v ∈ cs, v.oneCell' = true) : ∀ v ∈ cutV cs n, v.oneCell' = true := by
  intro v hv
  simp only [cutV, splice, List.take_zero, List.nil_append, List.mem_append] at hv
  rcases hv with hv | hv
  · exact h1 v (List.mem_of_mem_take hv)
  · have := List.mem_of_mem_drop hv
    simp [zero32] at this; subst this; rfl

/-- How many bytes Cut keeps. -/
def kept (k : Int) : Nat := (min (max k 0) 32).toNat
theorem kept_le (k : Int) : kept k ≤ 32 := by unfold kept; omega

set_option maxRecDepth 100000 in
set_option maxHeartbeats 400000 in
theorem cut_mid (cs : List Value) (hl : cs.length = 32) (h1 : ∀ v ∈ cs, v.oneCell' = true) (n : Nat) (hn : n ≤ 32) (w : World) :
    Calls Tryd.prog 9 #[.agg cs.toArray, .int .i64 n] w fun e w' => e = .returned (.agg (cutV cs n).toArray) ∧ Below w.heap.size w w' := by
  have i0 : (0 : Int) ≤ n := by omega
  have i1 : (n : Int) ≤ 32 := by omega
  go_enter Tryd.func9, Tryd.ntmps9
  go_wp2
  go_region_held3 (fun w' => True) (trivial) ((refine step_copy_splice (by rfl) _ _ _ _ (by rfl) 5 Tryd.underlying22 Tryd.size5 _ _ _ _ _ _ (by rfl) (by rfl) (w.heap.size + 1 + 1) 0 zero32 29 (by exact heap3_new w _ _ _) (cs.take n) (by rw [List.length_take, hl]) (by exact fun _ => ⟨rfl, _, rfl, fun j v hv => by rw [Addr.add_mid, Nat.zero_add]; simp [cell_of_row _ _ _ _ _ _ (heap3_old w _ _ _), List.getElem?_take] at hv ⊢; exact hv.2⟩) (by rw [zero32_len]; simp; omega) (by exact fun v hv => h1 v (List.mem_of_mem_take hv)) (w.heap.size + 1 + 1) _ (by exact Below.refl _ _) (by omega) ?_; intro w1 hg1 hb1))
  have hc : w1.heap[w.heap.size + 1 + 1]? = some (Obj.cells (cutV cs n).toArray 29) := hg1
  have hr : w1.heap[w.heap.size + 1]? = some (Obj.cells zero32.toArray 29) := (hb1.block _ (by omega)).trans (heap3_mid w _ _ _)
  have hb : Below w.heap.size w w1 := (below3 w _ _ _).drew.trans (hb1.mono (by omega))
  have hs : w.heap.size + 1 + 1 < w1.heap.size := (Array.getElem?_eq_some_iff.1 hc).1
  clear hg1 hb1
  have hz : (cutV cs n).length = 32 := cutV_len cs n hl
  have ho := all_oneCell_toArray (cutV_one cs n h1)
  go_wp2_with (first | refine wpList_load_row rfl 29 _ rfl _ rfl 29 _ _ _ hc Tryd.underlying29 rfl (by rw [Tryd.size29]; simp [hz]) ?_ | refine wpList_store_row rfl 29 _ _ rfl _ _ rfl rfl 29 _ hr (by rw [Tryd.size29]; simp [hz]) (by simp [hz, zero32_len]) ho ?_)
  exact bodyPost_ret (v := .agg (cutV cs n).toArray) (results_cell_row Tryd.results9 _ _ (w.heap.size + 1) 29 _ _ _ rfl (setRow_heap _ _ _ _ _ _ hr) Tryd.underlying29 rfl (by rw [Tryd.size29]; simp [hz])) rfl ⟨rfl, below_setRow hb (by omega) _⟩

set_option maxRecDepth 100000 in
set_option maxHeartbeats 400000 in
theorem cut_low (cs : List Value) (hl : cs.length = 32) (h1 : ∀ v ∈ cs, v.oneCell' = true) (k : Int) (hk : k < 0) (w : World) :
    Calls Tryd.prog 9 #[.agg cs.toArray, .int .i64 k] w fun e w' => e = .returned (.agg (cutV cs 0).toArray) ∧ Below w.heap.size w w' := by
  go_enter Tryd.func9, Tryd.ntmps9
  go_wp2
  go_region_held3 (fun w' => True) (trivial) ((refine step_copy_splice (by rfl) _ _ _ _ (by rfl) 5 Tryd.underlying22 Tryd.size5 _ _ _ _ _ _ (by rfl) (by rfl) (w.heap.size + 1 + 1) 0 zero32 29 (by exact heap3_new w _ _ _) (cs.take 0) (by rw [List.length_take, hl]) (by exact fun hp => absurd hp (by simp)) (by simp) (by exact fun v hv => h1 v (List.mem_of_mem_take hv)) (w.heap.size + 1 + 1) _ (by exact Below.refl _ _) (by omega) ?_; intro w1 hg1 hb1))
  have hc : w1.heap[w.heap.size + 1 + 1]? = some (Obj.cells (cutV cs 0).toArray 29) := hg1
  have hr : w1.heap[w.heap.size + 1]? = some (Obj.cells zero32.toArray 29) := (hb1.block _ (by omega)).trans (heap3_mid w _ _ _)
  have hb : Below w.heap.size w w1 := (below3 w _ _ _).drew.trans (hb1.mono (by omega))
  have hs : w.heap.size + 1 + 1 < w1.heap.size := (Array.getElem?_eq_some_iff.1 hc).1
  clear hg1 hb1
  have hz : (cutV cs 0).length = 32 := cutV_len cs 0 hl
  have ho := all_oneCell_toArray (cutV_one cs 0 h1)
  go_wp2_with (first | refine wpList_load_row rfl 29 _ rfl _ rfl 29 _ _ _ hc Tryd.underlying29 rfl (by rw [Tryd.size29]; simp [hz]) ?_ | refine wpList_store_row rfl 29 _ _ rfl _ _ rfl rfl 29 _ hr (by rw [Tryd.size29]; simp [hz]) (by simp [hz, zero32_len]) ho ?_)
  exact bodyPost_ret (v := .agg (cutV cs 0).toArray) (results_cell_row Tryd.results9 _ _ (w.heap.size + 1) 29 _ _ _ rfl (setRow_heap _ _ _ _ _ _ hr) Tryd.underlying29 rfl (by rw [Tryd.size29]; simp [hz])) rfl ⟨rfl, below_setRow hb (by omega) _⟩

set_option maxRecDepth 100000 in
set_option maxHeartbeats 400000 in
theorem cut_high (cs : List Value) (hl : cs.length = 32) (h1 : ∀ v ∈ cs, v.oneCell' = true) (k : Int) (hk : 32 < k) (w : World) :
    Calls Tryd.prog 9 #[.agg cs.toArray, .int .i64 k] w fun e w' => e = .returned (.agg (cutV cs 32).toArray) ∧ Below w.heap.size w w' := by
  have i0 : (0 : Int) < k := by omega
  go_enter Tryd.func9, Tryd.ntmps9
  go_wp2
  go_region_held3 (fun w' => True) (trivial) ((refine step_copy_splice (by rfl) _ _ _ _ (by rfl) 5 Tryd.underlying22 Tryd.size5 _ _ _ _ _ _ (by rfl) (by rfl) (w.heap.size + 1 + 1) 0 zero32 29 (by exact heap3_new w _ _ _) (cs.take 32) (by rw [List.length_take, hl]) (by exact fun _ => ⟨rfl, _, rfl, fun j v hv => by rw [Addr.add_mid, Nat.zero_add]; simp [cell_of_row _ _ _ _ _ _ (heap3_old w _ _ _), List.getElem?_take] at hv ⊢; exact hv.2⟩) (by rw [zero32_len]; simp; omega) (by exact fun v hv => h1 v (List.mem_of_mem_take hv)) (w.heap.size + 1 + 1) _ (by exact Below.refl _ _) (by omega) ?_; intro w1 hg1 hb1))
  have hc : w1.heap[w.heap.size + 1 + 1]? = some (Obj.cells (cutV cs 32).toArray 29) := hg1
  have hr : w1.heap[w.heap.size + 1]? = some (Obj.cells zero32.toArray 29) := (hb1.block _ (by omega)).trans (heap3_mid w _ _ _)
  have hb : Below w.heap.size w w1 := (below3 w _ _ _).drew.trans (hb1.mono (by omega))
  have hs : w.heap.size + 1 + 1 < w1.heap.size := (Array.getElem?_eq_some_iff.1 hc).1
  clear hg1 hb1
  have hz : (cutV cs 32).length = 32 := cutV_len cs 32 hl
  have ho := all_oneCell_toArray (cutV_one cs 32 h1)
  go_wp2_with (first | refine wpList_load_row rfl 29 _ rfl _ rfl 29 _ _ _ hc Tryd.underlying29 rfl (by rw [Tryd.size29]; simp [hz]) ?_ | refine wpList_store_row rfl 29 _ _ rfl _ _ rfl rfl 29 _ hr (by rw [Tryd.size29]; simp [hz]) (by simp [hz, zero32_len]) ho ?_)
  exact bodyPost_ret (v := .agg (cutV cs 32).toArray) (results_cell_row Tryd.results9 _ _ (w.heap.size + 1) 29 _ _ _ rfl (setRow_heap _ _ _ _ _ _ hr) Tryd.underlying29 rfl (by rw [Tryd.size29]; simp [hz])) rfl ⟨rfl, below_setRow hb (by omega) _⟩

theorem cut_any (cs : List Value) (hl : cs.length = 32) (h1 : ∀ v ∈ cs, v.oneCell' = true) (k : Int) (w : World) :
    Calls Tryd.prog 9 #[.agg cs.toArray, .int .i64 k] w fun e w' => e = .returned (.agg (cutV cs (kept k)).toArray) ∧ Below w.heap.size w w' := by
  by_cases a : k < 0
  · rw [show kept k = 0 by unfold kept; omega]; exact cut_low cs hl h1 k a w
  · by_cases b : 32 < k
    · rw [show kept k = 32 by unfold kept; omega]; exact cut_high cs hl h1 k b w
    · obtain ⟨n, rfl⟩ := Int.eq_ofNat_of_zero_le (by omega : 0 ≤ k)
      rw [show kept (n : Int) = n by unfold kept; omega]; exact cut_mid cs hl h1 n (by omega) w
end Go.Proofs.YtblcpcfonnaiiaaDoor
