import Derived.Test.YtblcpcfonnaiiaaDoorD1c
namespace Go.Proofs.YtblcpcfonnaiiaaDoor
set_option linter.unusedVariables false
set_option linter.unusedSimpArgs false
open Go.RowKit
attribute [local go_sem ↓] Go.wp_at_zero Go.wp_at_succ

def wb (x : Int) : List Int := [x / 16777216, x / 65536 % 256, x / 256 % 256, x % 256]
def stBytes (st : List Int) : List Int := st.flatMap wb
theorem stBytes_len : ∀ st : List Int, (stBytes st).length = 4 * st.length
  | [] => rfl
  | x :: st => by have := stBytes_len st; simp only [stBytes, List.flatMap_cons, List.length_append, wb, List.length_cons, List.length_nil] at this ⊢; omega
theorem stBytes_take (st : List Int) (n : Nat) (h : n < st.length) : stBytes (st.take (n + 1)) = stBytes (st.take n) ++ wb (st[n]?.getD 0) := by
  rw [List.take_succ_eq_append_getElem h, stBytes, List.flatMap_append, List.getElem?_eq_getElem h]; simp [stBytes]
theorem padz_set4 (v : List Int) (n k : Nat) (a b c d : Int) (hk : v.length = k) (h : k + 4 ≤ n) : ((((padz v n).set k a).set (k + 1) b).set (k + 2) c).set (k + 3) d = padz (v ++ [a, b, c, d]) n := by
  have e0 := padz_set v n a (by omega)
  have e1 := padz_set (v ++ [a]) n b (by simp; omega)
  have e2 := padz_set (v ++ [a] ++ [b]) n c (by simp; omega)
  have e3 := padz_set (v ++ [a] ++ [b] ++ [c]) n d (by simp; omega)
  simp only [List.length_append, List.length_cons, List.length_nil, hk] at e0 e1 e2 e3
  rw [e0, e1, e2, e3]; simp

set_option maxRecDepth 100000 in
set_option maxHeartbeats 1000000 in
theorem stateBytes_any (st : List Int) (hst : st.length = 8) (hbd : Bd8 st) (w : World) :
    Calls Tryd.prog 40 #[.agg (ints .u32 st).toArray] w fun e w' => e = .returned (.agg (ints .u8 (stBytes st)).toArray) ∧ Below w.heap.size w w' := by
  go_enter Tryd.func40, Tryd.ntmps40
  go_wp2_with (first | refine wpList_load_row rfl 73 _ rfl _ rfl 73 _ _ _ (by exact heap3_old w _ _ _) Tryd.underlying73 rfl (by rw [Tryd.size73, ints_size, hst]) ?_)
  go_loopw [4, 5, 6, 8] (fun _ _ _ i wr => ∃ n : Nat, n ≤ 8 ∧ i = .int .i64 n ∧ wr.heap[w.heap.size + 1]? = some (Obj.cells (ints .u8 (padz [] 32)).toArray 29) ∧ wr.heap[w.heap.size + 1 + 1]? = some (Obj.cells (ints .u8 (padz (stBytes (st.take n)) 32)).toArray 29) ∧ Below w.heap.size w wr) (fun _ _ _ i _ => 8 - (intOf i).toNat)
  case atStart => exact ⟨0, by omega, rfl, heap3_mid w _ _ _, heap3_new w _ _ _, below3 w _ _ _⟩
  case round =>
    obtain ⟨n, hn, rfl, h2, h3, hB⟩ := hrel
    have hlen : (stBytes (st.take n)).length = 4 * n := by rw [stBytes_len, List.length_take]; omega
    by_cases hlt : n < 8
    · have hix : ∀ w, (Instr.index 73 (.agg (ints .u32 st).toArray) (.int .i64 n)).run Tryd.prog w = .ok (.int .u32 (st[n]?.getD 0)) w := fun w => run_index_arr Tryd.underlying73 Tryd.underlying72 Tryd.size72 (ints .u32 st).toArray n hlt _ (by have := ints_get .u32 st n (by omega); simpa using this) w
      have hxb : 0 ≤ st[n]?.getD 0 ∧ st[n]?.getD 0 ≤ 4294967295 := by
        rw [List.getElem?_eq_getElem (by omega)]; exact hbd _ (List.getElem_mem _)
      have HT := hid (stBytes_take st n (by omega))
      have HS := hid (fun a b c d => padz_set4 (stBytes (st.take n)) 32 (4 * n) a b c d hlen (by omega))
      generalize st[n]?.getD 0 = x at *
      have fz : ∀ j, wr.frozen? ⟨w.heap.size + 1 + 1, j, none⟩ = false := fun j => frozen_of_row _ _ _ _ _ h3
      have cz : ∀ j, j < 32 → wr.cell? ⟨w.heap.size + 1 + 1, j, none⟩ = some (.int .u8 ((padz (stBytes (st.take n)) 32).getD j 0)) := fun j hj => cell_ints h3 j (by rw [padz_len _ _ (by omega)]; exact hj)
      have c0 := cz (4 * n) (by omega)
      have c1 := cz (4 * n + 1) (by omega)
      have c2 := cz (4 * n + 2) (by omega)
      have c3 := cz (4 * n + 3) (by omega)
      have i1 : (n : Int) < 8 := by omega
      go_wp2
      go_roundw
      case rel => exact ⟨n + 1, by omega, by go_num, heap_set_far (heap_set_far (heap_set_far (heap_set_far h2 _ _ (by show w.heap.size + 1 ≠ w.heap.size + 1 + 1; omega)) _ _ (by show w.heap.size + 1 ≠ w.heap.size + 1 + 1; omega)) _ _ (by show w.heap.size + 1 ≠ w.heap.size + 1 + 1; omega)) _ _ (by show w.heap.size + 1 ≠ w.heap.size + 1 + 1; omega), (by have := heap_set_ints (heap_set_ints (heap_set_ints (heap_set_ints h3 (4 * n) (x / 16777216)) (4 * n + 1) (x / 65536 % 256)) (4 * n + 2) (x / 256 % 256)) (4 * n + 3) (x % 256); rw [HS.out, show [x / 16777216, x / 65536 % 256, x / 256 % 256, x % 256] = wb x from rfl, ← HT.out] at this; exact this), (((hB.setCell (by simp; omega) _).setCell (by simp; omega) _).setCell (by simp; omega) _).setCell (by simp; omega) _⟩
      case measure => simp [intOf]; omega
    · obtain rfl : n = 8 := by omega
      rw [show st.take 8 = st from List.take_of_length_le (by omega)] at h3 hlen
      rw [padz_full _ _ hlen] at h3
      have ho := all_oneCell_toArray (ints_one .u8 (stBytes st))
      have hZ : (padz [] 32).length = 32 := padz_len [] 32 (by simp)
      generalize padz [] 32 = Z at *
      clear hlt hn
      go_wp2_with (first | refine wpList_load_row rfl 29 _ rfl _ rfl 29 _ _ _ h3 Tryd.underlying29 rfl (by rw [Tryd.size29, ints_size, hlen]) ?_ | refine wpList_store_row rfl 29 _ _ rfl _ _ rfl rfl 29 _ h2 (by rw [Tryd.size29, ints_size, hlen]) (by rw [ints_size, ints_size, hlen, hZ]) ho ?_)
      exact bodyPost_ret (v := .agg (ints .u8 (stBytes st)).toArray) (results_cell_row Tryd.results40 _ _ (w.heap.size + 1) 29 _ _ _ rfl (setRow_heap _ _ _ _ _ _ h2) Tryd.underlying29 rfl (by rw [Tryd.size29, ints_size, hlen])) rfl ⟨rfl, below_setRow hB (by omega) _⟩
end Go.Proofs.YtblcpcfonnaiiaaDoor
