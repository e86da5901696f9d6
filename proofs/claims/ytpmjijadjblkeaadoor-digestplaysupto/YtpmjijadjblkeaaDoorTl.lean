import Derived.Test.YtpmjijadjblkeaaDoorTk
namespace Go.Proofs.YtpmjijadjblkeaaDoor
set_option linter.unusedVariables false
set_option linter.unusedSimpArgs false
open Go.RowKit
attribute [local go_sem ↓] Go.wp_at_zero Go.wp_at_succ

def hexF (c : Int) : Int := if 97 ≤ c then IntKind.u8.wrap (IntKind.u8.wrap (c - 97) + 10) else IntKind.u8.wrap (c - 48)
set_option maxRecDepth 100000 in
set_option maxHeartbeats 400000 in
theorem hex_any (c : Int) (w : World) :
    Calls Tryd.prog 21 #[.int .u8 c] w fun e w' => e = .returned (.int .u8 (hexF c)) ∧ w' = w := by
  unfold hexF
  by_cases h : 97 ≤ c
  · rw [if_pos h]
    go_enter Tryd.func21, Tryd.ntmps21
    go_wp2
    go_ret
    exact ⟨rfl, rfl⟩
  · rw [if_neg h]
    go_enter Tryd.func21, Tryd.ntmps21
    go_wp2
    go_ret
    exact ⟨rfl, rfl⟩

theorem index_str (s : ByteArray) (i : Int) (j : Nat) (hij : i = j) (h : j < s.size) (w : World) : (Instr.index 9 (.string s) (.int .i64 i)).run Tryd.prog w = .ok (.int .u8 ((s.data.toList.getD j 0).toNat : Int)) w := by
  subst hij
  rw [run_index_string w 9 s .i64 _ Tryd.underlying9, dif_pos (by omega)]
  congr 3
  simp only [Int.toNat_natCast, ByteArray.getElem_eq_getElem_data]
  simp [h]
/-- The j-th byte of a text. -/
def strAt (s : ByteArray) (j : Nat) : Int := ((s.data.toList.getD j 0).toNat : Int)
def wrt (s : ByteArray) (n : Nat) : List Int := (List.range n).map fun i => IntKind.u8.wrap (IntKind.u8.wrap (16 * hexF (strAt s (2 * i))) + hexF (strAt s (2 * i + 1)))
theorem wrt_len (s : ByteArray) (n : Nat) : (wrt s n).length = n := by simp [wrt]
theorem wrt_succ (s : ByteArray) (n : Nat) : wrt s (n + 1) = wrt s n ++ [IntKind.u8.wrap (IntKind.u8.wrap (16 * hexF (strAt s (2 * n))) + hexF (strAt s (2 * n + 1)))] := by
  simp [wrt, List.range_succ]

set_option maxRecDepth 100000 in
set_option maxHeartbeats 1000000 in
theorem written_any (s : ByteArray) (hs : s.size = 64) (w : World) :
    Calls Tryd.prog 9 #[.string s] w fun e w' => e = .returned (.agg (ints .u8 (wrt s 32)).toArray) ∧ Below w.heap.size w w' := by
  go_enter Tryd.func9, Tryd.ntmps9
  go_wp2
  go_loopw [4] (fun i wr => ∃ n : Nat, n ≤ 32 ∧ i = .int .i64 n ∧ wr.heap[w.heap.size]? = some (Obj.cells (ints .u8 z32).toArray 23) ∧ wr.heap[w.heap.size + 1]? = some (Obj.cells (ints .u8 (padz (wrt s n) 32)).toArray 23) ∧ Below w.heap.size w wr) (fun i _ => 32 - (intOf i).toNat)
  case atStart => exact ⟨0, by omega, rfl, heap_alloc2_old w _ _, heap_alloc2_new w _ _, ((Below.refl _ _).alloc (Nat.le_refl _) _).alloc (by simp) _⟩
  case round =>
    obtain ⟨n, hn, rfl, h0, h1, hB⟩ := hrel
    have hlen := wrt_len s n
    by_cases hlt : n < 32
    · have i1 : (n : Int) < 32 := by omega
      have i2 : 2 * (n : Int) + 1 < 64 := by omega
      have i3 : 2 * (n : Int) < 64 := by omega
      have hsI : (s.size : Int) = 64 := by omega
      have r0 : IntKind.i64.wrap (2 * (n : Int)) = 2 * (n : Int) := wrap_i64_id _ (by omega) (by omega)
      have r1 : IntKind.i64.wrap (2 * (n : Int) + 1) = 2 * (n : Int) + 1 := wrap_i64_id _ (by omega) (by omega)
      have x0 : ∀ w, (Instr.index 9 (.string s) (.int .i64 (2 * (n : Int)))).run Tryd.prog w = .ok (.int .u8 (strAt s (2 * n))) w := index_str s _ (2 * n) (by omega) (by omega)
      have x1 : ∀ w, (Instr.index 9 (.string s) (.int .i64 (2 * (n : Int) + 1))).run Tryd.prog w = .ok (.int .u8 (strAt s (2 * n + 1))) w := index_str s _ (2 * n + 1) (by omega) (by omega)
      have c1 := cell_ints h1 n (by rw [padz_len _ _ (by omega)]; exact hlt)
      have f1 : wr.frozen? ⟨w.heap.size + 1, n, none⟩ = false := frozen_of_row _ _ _ _ _ h1
      have HW := hid (wrt_succ s n)
      go_wp2
      go_region_held3 (fun w' => True) (trivial) (first | (go_at_call 21; refine (hex_any _ _).mono ?_; rintro e w' ⟨rfl, rfl⟩))
      all_goals
        go_wp2
        go_roundw
        case rel => exact ⟨n + 1, by omega, by go_num, heap_set_far h0 _ _ (by show w.heap.size ≠ w.heap.size + 1; omega), (by have := heap_set_ints h1 n (IntKind.u8.wrap (IntKind.u8.wrap (16 * hexF (strAt s (2 * n))) + hexF (strAt s (2 * n + 1)))); rw [HW.out, ← padz_set _ _ _ (by omega), hlen]; exact this), (hB.setCell (by simp) _).drew⟩
        case measure => simp [intOf]; omega
    · obtain rfl : n = 32 := by omega
      rw [padz_full _ _ hlen] at h1
      have ho := all_oneCell_toArray (ints_one .u8 (wrt s 32))
      have hz32 : z32.length = 32 := rfl
      go_wp2_with (first | refine wpList_load_row rfl 23 _ rfl _ rfl 23 _ _ _ h1 Tryd.underlying23 rfl (by rw [Tryd.size23, ints_size, hlen]) ?_ | refine wpList_store_row rfl 23 _ _ rfl _ _ rfl rfl 23 _ h0 (by rw [Tryd.size23, ints_size, hlen]) (by rw [ints_size, ints_size, hlen, hz32]) ho ?_)
      exact bodyPost_ret (v := .agg (ints .u8 (wrt s 32)).toArray) (results_cell_row Tryd.results9 _ _ w.heap.size 23 _ _ _ rfl (setRow_heap _ _ _ _ _ _ h0) Tryd.underlying23 rfl (by rw [Tryd.size23, ints_size, hlen])) rfl ⟨rfl, below_setRow hB (Nat.le_refl _) _⟩
end Go.Proofs.YtpmjijadjblkeaaDoor
