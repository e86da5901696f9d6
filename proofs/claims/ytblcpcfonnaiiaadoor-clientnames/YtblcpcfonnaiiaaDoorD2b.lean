import Derived.Test.YtblcpcfonnaiiaaDoorD2a
namespace Go.Proofs.YtblcpcfonnaiiaaDoor
open Go.RowKit
attribute [local go_sem ↓] Go.wp_at_zero Go.wp_at_succ

/-- The document's own Cut behind i rounds. -/
def refV (cs : List Value) (k : Int) (i : Nat) : List Value := cs.mapIdx fun j v => if j < i ∧ k ≤ (j : Int) then .int .u8 0 else v
theorem refV_len (cs : List Value) (k : Int) (i : Nat) : (refV cs k i).length = cs.length := by simp [refV]
theorem refV_zero (cs : List Value) (k : Int) : refV cs k 0 = cs := by
  apply List.ext_getElem? ; intro j; simp [refV]
theorem refV_skip (cs : List Value) (k : Int) (i : Nat) (h : (i : Int) < k) : refV cs k (i + 1) = refV cs k i := by
  apply List.ext_getElem?; intro j; simp only [refV, List.getElem?_mapIdx]
  congr 1; funext v
  by_cases e : j = i
  · subst e; rw [if_neg (by omega), if_neg (by omega)]
  · by_cases c : j < i ∧ k ≤ (j : Int)
    · rw [if_pos c, if_pos (by omega)]
    · rw [if_neg c, if_neg (by omega)]
theorem refV_set (cs : List Value) (k : Int) (i : Nat) (h : k ≤ (i : Int)) : (refV cs k i).set i (.int .u8 0) = refV cs k (i + 1) := by
  apply List.ext_getElem?; intro j; simp only [refV, List.getElem?_mapIdx, List.getElem?_set, List.length_mapIdx]
  by_cases e : i = j
  · subst e
    rw [if_pos rfl]
    by_cases hj : i < cs.length
    · rw [if_pos hj, List.getElem?_eq_getElem hj]; simp; intro h2; omega
    · rw [if_neg hj, List.getElem?_eq_none (by omega)]; rfl
  · rw [if_neg e]
    congr 1; funext v
    by_cases c : j < i ∧ k ≤ (j : Int)
    · rw [if_pos c, if_pos (by omega)]
    · rw [if_neg c, if_neg (by omega)]
theorem refV_one (cs : List Value) (k : Int) (i : Nat) (h1 : ∀ v ∈ cs, v.oneCell' = true) : ∀ v ∈ refV cs k i, v.oneCell' = true := by
  intro v hv
  obtain ⟨j, hj, rfl⟩ := List.mem_iff_getElem.1 hv
  simp only [refV, List.getElem_mapIdx]
  split
  · rfl
  · exact h1 _ (List.getElem_mem _)
theorem refV_end (cs : List Value) (hl : cs.length = 32) (k : Int) : refV cs k 32 = cutV cs (kept k) := by
  apply List.ext_getElem?; intro j
  by_cases hj : j < 32
  · simp only [refV, List.getElem?_mapIdx, List.getElem?_eq_getElem (hl ▸ hj : j < cs.length), Option.map_some, cutV, splice, List.take_zero, List.nil_append, Nat.zero_add, List.length_take]
    have hk := kept_le k
    by_cases c : k ≤ (j : Int)
    · rw [if_pos ⟨hj, c⟩, List.getElem?_append_right (by simp; unfold kept; omega)]
      have hj2 : kept k ≤ j := by unfold kept; omega
      rw [zero32, List.getElem?_drop, List.getElem?_replicate, List.length_take, hl, if_pos (by omega)]
    · rw [if_neg (by omega), List.getElem?_append_left (by simp [hl]; unfold kept; omega), List.getElem?_take, if_pos (by unfold kept; omega), List.getElem?_eq_getElem (hl ▸ hj)]
  · rw [List.getElem?_eq_none (by rw [refV_len]; omega), List.getElem?_eq_none (by rw [cutV_len cs _ hl]; omega)]

set_option maxRecDepth 100000 in
set_option maxHeartbeats 400000 in
theorem ref_any (cs : List Value) (hl : cs.length = 32) (h1 : ∀ v ∈ cs, v.oneCell' = true) (k : Int) (w : World) :
    Calls Tryd.prog 29 #[.agg cs.toArray, .int .i64 k] w fun e w' => e = .returned (.agg (cutV cs (kept k)).toArray) ∧ Below w.heap.size w w' := by
  rw [← refV_end cs hl k]
  go_enter Tryd.func29, Tryd.ntmps29
  go_wp2
  go_loopw [5] (fun i wr => ∃ n : Nat, n ≤ 32 ∧ i = .int .i64 n ∧ wr.heap[w.heap.size]? = some (Obj.cells (refV cs k n).toArray 29) ∧ wr.heap[w.heap.size + 1]? = some (Obj.cells zero32.toArray 29) ∧ Below w.heap.size w wr) (fun i _ => 32 - (intOf i).toNat)
  case atStart => exact ⟨0, by omega, rfl, by rw [refV_zero]; exact heap_alloc2_old w _ _, heap_alloc2_new w _ _, ((Below.refl _ _).alloc (Nat.le_refl _) _).alloc (by simp) _⟩
  case round =>
    obtain ⟨n, hn, rfl, hc, hr, hb⟩ := hrel
    have hz : (refV cs k n).length = 32 := by rw [refV_len, hl]
    by_cases hlt : n < 32
    · have i1 : (n : Int) < 32 := by omega
      have hcell : wr.cell? ⟨w.heap.size, n, none⟩ = some ((refV cs k n)[n]'(by omega)) := by rw [cell_of_row _ _ _ _ _ _ hc]; simp [hz, hlt]
      have hfr : wr.frozen? ⟨w.heap.size, n, none⟩ = false := frozen_of_row _ _ _ _ _ hc
      by_cases hk : k ≤ (n : Int)
      · go_wp2
        go_roundw
        case rel => exact ⟨n + 1, by omega, by go_num, by rw [heap_setCell_same _ _ _ _ _ _ hc, ← refV_set cs k n hk]; simp, by rw [heap_setCell_other _ _ _ _ (by simp)]; exact hr, hb.setCell (by simp) _⟩
        case measure => simp [intOf]; omega
      · go_wp2
        go_roundw
        case rel => exact ⟨n + 1, by omega, by go_num, by rw [refV_skip cs k n (by omega)]; exact hc, hr, hb⟩
        case measure => simp [intOf]; omega
    · obtain rfl : n = 32 := by omega
      have ho := all_oneCell_toArray (refV_one cs k 32 h1)
      go_wp2_with (first | refine wpList_load_row rfl 29 _ rfl _ rfl 29 _ _ _ hc Tryd.underlying29 rfl (by rw [Tryd.size29]; simp [hz]) ?_ | refine wpList_store_row rfl 29 _ _ rfl _ _ rfl rfl 29 _ hr (by rw [Tryd.size29]; simp [hz]) (by simp [hz, zero32_len]) ho ?_)
      exact bodyPost_ret (v := .agg (refV cs k 32).toArray) (results_cell_row Tryd.results29 _ _ (w.heap.size + 1) 29 _ _ _ rfl (setRow_heap _ _ _ _ _ _ hr) Tryd.underlying29 rfl (by rw [Tryd.size29]; simp [hz])) rfl ⟨rfl, below_setRow hb (by omega) _⟩
end Go.Proofs.YtblcpcfonnaiiaaDoor
