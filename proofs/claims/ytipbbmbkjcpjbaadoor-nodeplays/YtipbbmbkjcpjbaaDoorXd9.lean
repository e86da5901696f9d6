import Derived.Test.YtipbbmbkjcpjbaaDoorXc9
namespace Go.Proofs.YtipbbmbkjcpjbaaDoor
set_option linter.unusedVariables false
set_option linter.unusedSimpArgs false
open Go.RowKit
attribute [local go_sem ↓] Go.wp_at_zero Go.wp_at_succ

def zOp : NOp := ⟨0, 0, 0, 0, z32, z32, z32, .slice none 0 0, [.int .i64 0, .int .i64 0, .int .i64 0, .int .i64 0, .int .i64 0] ++ (ints .u8 z32 ++ (ints .u8 z32 ++ (ints .u8 z32 ++ [.slice none 0 0])))⟩
theorem zOp_ok : NOk zOp where
  k := rfl
  d := rfl
  e := rfl
  nd := rfl
  yk := by intro x hx; have : x = 0 := by simp [zOp, z32, padz] at hx; exact hx
           subst this; decide
  v1 := rfl
  n1 := fun x hx => by
    simp only [zOp, List.mem_append, List.mem_cons, List.not_mem_nil, or_false] at hx
    rcases hx with (rfl | rfl | rfl | rfl | rfl) | hx | hx | hx | rfl
    · rfl
    · rfl
    · rfl
    · rfl
    · rfl
    · exact ints_one _ _ x hx
    · exact ints_one _ _ x hx
    · exact ints_one _ _ x hx
    · rfl
theorem run_allocO (a : Act) (o : Oper) (ho : o.op = .alloc 32) (w : World) : (execOp a.eval o).run Tryd.prog w = .ok (.value (.pointer (some ⟨w.heap.size, 0, none⟩))) (w.alloc (.cells (opC zOp).toArray 32)) := by
  unfold execOp
  rw [ho]
  kernel_rfl
theorem wpList_allocO {w : World} {ops : Array Oper} {rest : List Oper} {o : Oper} {a : Act} {Q : Exit → Act → World → Prop} (hg : o.guard = none) (ho : o.op = .alloc 32) (z : NOp) (hz : z = zOp)
    (h : wpList Tryd.prog ops Q rest (a.put o.dst (.pointer (some ⟨w.heap.size, 0, none⟩))) (w.alloc (.cells (opC z).toArray 32))) : wpList Tryd.prog ops Q (o :: rest) a w := by
  subst hz
  refine wpList_plain hg fun K hK => ?_
  unfold Oper.wp
  rw [run_allocO a o ho w]
  exact hK _ _ h
theorem mid_set (A B C : List Value) (j : Nat) (v : Value) (hj : j < B.length) : (A ++ (B ++ C)).set (A.length + j) v = A ++ (B.set j v ++ C) := by
  rw [List.set_append_right _ _ (by omega), show A.length + j - A.length = j by omega, List.set_append_left _ _ hj]
theorem opC_setk {o : NOp} (h : NOk o) (j : Nat) (y : Int) (hj : j < 32) : (opC o).set (4 + j) (.int .u8 y) = opC { o with k := o.k.set j y } := by
  have := mid_set [.int .i64 o.kd, .int .i64 o.wd, .int .i64 o.n, .int .i64 o.m] (ints .u8 o.k) (ints .u8 o.d ++ (ints .u8 o.e ++ (o.v :: o.nd))) j (.int .u8 y) (by rw [ints_len, h.k]; exact hj)
  rw [show (ints .u8 o.k).set j (.int .u8 y) = ints .u8 (o.k.set j y) by simp [ints, List.map_set]] at this
  exact this
theorem opC_setd {o : NOp} (h : NOk o) (j : Nat) (y : Int) (hj : j < 32) : (opC o).set (36 + j) (.int .u8 y) = opC { o with d := o.d.set j y } := by
  have := mid_set ([.int .i64 o.kd, .int .i64 o.wd, .int .i64 o.n, .int .i64 o.m] ++ ints .u8 o.k) (ints .u8 o.d) (ints .u8 o.e ++ (o.v :: o.nd)) j (.int .u8 y) (by rw [ints_len, h.d]; exact hj)
  rw [show (ints .u8 o.d).set j (.int .u8 y) = ints .u8 (o.d.set j y) by simp [ints, List.map_set], List.append_assoc, List.append_assoc, show ([.int .i64 o.kd, .int .i64 o.wd, .int .i64 o.n, .int .i64 o.m] ++ ints .u8 o.k : List Value).length = 36 by simp [ints_len, h.k]] at this
  exact this
theorem opC_sete {o : NOp} (h : NOk o) (j : Nat) (y : Int) (hj : j < 32) : (opC o).set (68 + j) (.int .u8 y) = opC { o with e := o.e.set j y } := by
  have := mid_set ([.int .i64 o.kd, .int .i64 o.wd, .int .i64 o.n, .int .i64 o.m] ++ (ints .u8 o.k ++ ints .u8 o.d)) (ints .u8 o.e) (o.v :: o.nd) j (.int .u8 y) (by rw [ints_len, h.e]; exact hj)
  rw [show (ints .u8 o.e).set j (.int .u8 y) = ints .u8 (o.e.set j y) by simp [ints, List.map_set], List.append_assoc, List.append_assoc, List.append_assoc, List.append_assoc, show ([.int .i64 o.kd, .int .i64 o.wd, .int .i64 o.n, .int .i64 o.m] ++ (ints .u8 o.k ++ ints .u8 o.d) : List Value).length = 68 by simp [ints_len, h.k, h.d]] at this
  exact this
def flip1 (l : List Int) : List Int := l.set 31 (bits .xor .u8 (l.getD 31 0) 1)
def nearD (o : NOp) : Nat → NOp
  | 1 => { o with k := flip1 o.k }
  | 2 => { o with d := flip1 o.d }
  | 3 => { o with e := flip1 o.e }
  | _ => o
theorem nearD_ok {o : NOp} (h : NOk o) (i : Nat) : NOk (nearD o i) := by
  unfold nearD; split
  · refine ⟨by simp [flip1, h.k], h.d, h.e, h.nd, fun x hx => ?_, h.v1, h.n1⟩
    rcases List.mem_or_eq_of_mem_set hx with hx | rfl
    · exact h.yk x hx
    · have := bounds_u8 (wf_bits .xor .u8 (o.k.getD 31 0) 1); omega
  · exact ⟨h.k, by simp [flip1, h.d], h.e, h.nd, h.yk, h.v1, h.n1⟩
  · exact ⟨h.k, h.d, by simp [flip1, h.e], h.nd, h.yk, h.v1, h.n1⟩
  · exact h
theorem nearD_kd (o : NOp) (i : Nat) : (nearD o i).kd = o.kd := by unfold nearD; split <;> rfl
/-- One cell of a step written over. -/
theorem NR.setC {w : World} {g : Nat} {o o' : NOp} (h : w.heap[g]? = some (.cells (opC o).toArray 32 (0, 0))) (j : Nat) (v : Value) (he : (opC o).set j v = opC o') : (w.setCell ⟨g, j, none⟩ v).heap[g]? = some (.cells (opC o').toArray 32 (0, 0)) := by
  rw [heap_setCell_same _ _ _ _ _ _ h, ← he]; simp
set_option maxRecDepth 100000 in
set_option maxHeartbeats 1000000 in
theorem nearly_0 (w : World) (o : NOp) (ok : NOk o) :
    Calls Tryd.prog 12 #[.agg (opC o).toArray, .int .i64 0] w fun e w' => e = .returned (.agg (opC (nearD o 0)).toArray) ∧ Below w.heap.size w w' := by
  obtain ⟨z, hz⟩ : ∃ z, z = zOp := ⟨_, rfl⟩
  have HZ := hid hz
  have zok : NOk z := by rw [hz]; exact zOp_ok
  clear hz
  have ok2 := nearD_ok ok 0
  have g0 : ((w.alloc (.cells (opC o).toArray 32)).alloc (.cells (opC z).toArray 32)).heap[w.heap.size]? = some (.cells (opC o).toArray 32) := hold (hnew w _)
  have g1 : ((w.alloc (.cells (opC o).toArray 32)).alloc (.cells (opC z).toArray 32)).heap[w.heap.size + 1]? = some (.cells (opC z).toArray 32) := by
    have h := hnew (w.alloc (.cells (opC o).toArray 32)) (.cells (opC z).toArray 32)
    rwa [show (w.alloc (.cells (opC o).toArray 32)).heap.size = w.heap.size + 1 by simp] at h
  have hB := ((Below.refl w.heap.size w).alloc (Nat.le_refl _) (.cells (opC o).toArray 32)).alloc (by simp) (.cells (opC z).toArray 32)
  go_enter Tryd.func12, Tryd.ntmps12
  go_wp2_with (first | refine wpList_allocO rfl rfl z HZ.out ?_ | refine wpList_load_row rfl 32 _ rfl _ rfl 32 _ _ _ g0 Tryd.underlying32 rfl (by rw [Tryd.sizeOp, opC_size ok]) ?_ | refine wpList_store_row rfl 32 _ _ rfl _ _ rfl rfl 32 _ g1 (by rw [Tryd.sizeOp, opC_size ok]) (by rw [opC_size ok, opC_size zok]) (all_oneCell_toArray (opC_one ok)) ?_)
  exact bodyPost_ret (v := .agg (opC o).toArray) (results_cell_row Tryd.results12 _ _ (w.heap.size + 1) 32 _ _ _ rfl (setRow_heap _ _ _ _ _ _ g1) Tryd.underlying32 rfl (by rw [Tryd.sizeOp, opC_size ok])) rfl ⟨rfl, below_setRow hB (by omega) _⟩
set_option maxRecDepth 100000 in
set_option maxHeartbeats 1000000 in
theorem nearly_1 (w : World) (o : NOp) (ok : NOk o) :
    Calls Tryd.prog 12 #[.agg (opC o).toArray, .int .i64 1] w fun e w' => e = .returned (.agg (opC (nearD o 1)).toArray) ∧ Below w.heap.size w w' := by
  obtain ⟨z, hz⟩ : ∃ z, z = zOp := ⟨_, rfl⟩
  have HZ := hid hz
  have zok : NOk z := by rw [hz]; exact zOp_ok
  clear hz
  have ok2 := nearD_ok ok 1
  have g0 : ((w.alloc (.cells (opC o).toArray 32)).alloc (.cells (opC z).toArray 32)).heap[w.heap.size]? = some (.cells (opC o).toArray 32) := hold (hnew w _)
  have g1 : ((w.alloc (.cells (opC o).toArray 32)).alloc (.cells (opC z).toArray 32)).heap[w.heap.size + 1]? = some (.cells (opC z).toArray 32) := by
    have h := hnew (w.alloc (.cells (opC o).toArray 32)) (.cells (opC z).toArray 32)
    rwa [show (w.alloc (.cells (opC o).toArray 32)).heap.size = w.heap.size + 1 by simp] at h
  have hB := ((Below.refl w.heap.size w).alloc (Nat.le_refl _) (.cells (opC o).toArray 32)).alloc (by simp) (.cells (opC z).toArray 32)
  have c0 : ((w.alloc (.cells (opC o).toArray 32)).alloc (.cells (opC z).toArray 32)).cell? ⟨w.heap.size, 35, none⟩ = some (.int .u8 (o.k.getD 31 0)) := by
    rw [cell_of_row _ _ _ _ _ _ g0]
    have := opC_k ok 31 (.int .u8 (o.k.getD 31 0)) (ints_get .u8 o.k 31 (by rw [ok.k]; decide))
    simpa using this
  have f0 : ((w.alloc (.cells (opC o).toArray 32)).alloc (.cells (opC z).toArray 32)).frozen? ⟨w.heap.size, 35, none⟩ = false := frozen_of_row _ _ _ _ _ g0
  have HN := hid (show opC (nearD o 1) = (opC o).set 35 (.int .u8 (bits .xor .u8 (o.k.getD 31 0) 1)) from (opC_setk ok 31 (bits .xor .u8 (o.k.getD 31 0) 1) (by decide)).symm)
  have s2 := opC_size ok2
  have o2 := opC_one ok2
  rw [HN.out] at o2 s2 ⊢
  clear HN
  generalize o.k.getD 31 0 = x at *
  have p0 : ((w.alloc (.cells ((opC o).set 35 (.int .u8 (bits .xor .u8 x 1))).toArray 32)).alloc (.cells (opC z).toArray 32)).heap[w.heap.size]? = some (.cells ((opC o).set 35 (.int .u8 (bits .xor .u8 x 1))).toArray 32) := hold (hnew w _)
  have p1 : ((w.alloc (.cells ((opC o).set 35 (.int .u8 (bits .xor .u8 x 1))).toArray 32)).alloc (.cells (opC z).toArray 32)).heap[w.heap.size + 1]? = some (.cells (opC z).toArray 32) := by
    have h := hnew (w.alloc (.cells ((opC o).set 35 (.int .u8 (bits .xor .u8 x 1))).toArray 32)) (.cells (opC z).toArray 32)
    rwa [show (w.alloc (.cells ((opC o).set 35 (.int .u8 (bits .xor .u8 x 1))).toArray 32)).heap.size = w.heap.size + 1 by simp] at h
  have pB := ((Below.refl w.heap.size w).alloc (Nat.le_refl _) (.cells ((opC o).set 35 (.int .u8 (bits .xor .u8 x 1))).toArray 32)).alloc (by simp) (.cells (opC z).toArray 32)
  go_enter Tryd.func12, Tryd.ntmps12
  go_wp2_with (first | refine wpList_allocO rfl rfl z HZ.out ?_ | refine wpList_load_row rfl 32 _ rfl _ rfl 32 _ _ _ p0 Tryd.underlying32 rfl (by rw [Tryd.sizeOp, s2]) ?_ | refine wpList_store_row rfl 32 _ _ rfl _ _ rfl rfl 32 _ p1 (by rw [Tryd.sizeOp, s2]) (by rw [s2, opC_size zok]) (all_oneCell_toArray o2) ?_)
  exact bodyPost_ret (v := .agg ((opC o).set 35 (.int .u8 (bits .xor .u8 x 1))).toArray) (results_cell_row Tryd.results12 _ _ (w.heap.size + 1) 32 _ _ _ rfl (setRow_heap _ _ _ _ _ _ p1) Tryd.underlying32 rfl (by rw [Tryd.sizeOp, s2])) rfl ⟨rfl, below_setRow pB (by omega) _⟩
set_option maxRecDepth 100000 in
set_option maxHeartbeats 1000000 in
theorem nearly_2 (w : World) (o : NOp) (ok : NOk o) :
    Calls Tryd.prog 12 #[.agg (opC o).toArray, .int .i64 2] w fun e w' => e = .returned (.agg (opC (nearD o 2)).toArray) ∧ Below w.heap.size w w' := by
  obtain ⟨z, hz⟩ : ∃ z, z = zOp := ⟨_, rfl⟩
  have HZ := hid hz
  have zok : NOk z := by rw [hz]; exact zOp_ok
  clear hz
  have ok2 := nearD_ok ok 2
  have g0 : ((w.alloc (.cells (opC o).toArray 32)).alloc (.cells (opC z).toArray 32)).heap[w.heap.size]? = some (.cells (opC o).toArray 32) := hold (hnew w _)
  have g1 : ((w.alloc (.cells (opC o).toArray 32)).alloc (.cells (opC z).toArray 32)).heap[w.heap.size + 1]? = some (.cells (opC z).toArray 32) := by
    have h := hnew (w.alloc (.cells (opC o).toArray 32)) (.cells (opC z).toArray 32)
    rwa [show (w.alloc (.cells (opC o).toArray 32)).heap.size = w.heap.size + 1 by simp] at h
  have hB := ((Below.refl w.heap.size w).alloc (Nat.le_refl _) (.cells (opC o).toArray 32)).alloc (by simp) (.cells (opC z).toArray 32)
  have c0 : ((w.alloc (.cells (opC o).toArray 32)).alloc (.cells (opC z).toArray 32)).cell? ⟨w.heap.size, 67, none⟩ = some (.int .u8 (o.d.getD 31 0)) := by
    rw [cell_of_row _ _ _ _ _ _ g0]
    have := opC_d ok 31 (.int .u8 (o.d.getD 31 0)) (ints_get .u8 o.d 31 (by rw [ok.d]; decide))
    simpa using this
  have f0 : ((w.alloc (.cells (opC o).toArray 32)).alloc (.cells (opC z).toArray 32)).frozen? ⟨w.heap.size, 67, none⟩ = false := frozen_of_row _ _ _ _ _ g0
  have HN := hid (show opC (nearD o 2) = (opC o).set 67 (.int .u8 (bits .xor .u8 (o.d.getD 31 0) 1)) from (opC_setd ok 31 (bits .xor .u8 (o.d.getD 31 0) 1) (by decide)).symm)
  have s2 := opC_size ok2
  have o2 := opC_one ok2
  rw [HN.out] at o2 s2 ⊢
  clear HN
  generalize o.d.getD 31 0 = x at *
  have p0 : ((w.alloc (.cells ((opC o).set 67 (.int .u8 (bits .xor .u8 x 1))).toArray 32)).alloc (.cells (opC z).toArray 32)).heap[w.heap.size]? = some (.cells ((opC o).set 67 (.int .u8 (bits .xor .u8 x 1))).toArray 32) := hold (hnew w _)
  have p1 : ((w.alloc (.cells ((opC o).set 67 (.int .u8 (bits .xor .u8 x 1))).toArray 32)).alloc (.cells (opC z).toArray 32)).heap[w.heap.size + 1]? = some (.cells (opC z).toArray 32) := by
    have h := hnew (w.alloc (.cells ((opC o).set 67 (.int .u8 (bits .xor .u8 x 1))).toArray 32)) (.cells (opC z).toArray 32)
    rwa [show (w.alloc (.cells ((opC o).set 67 (.int .u8 (bits .xor .u8 x 1))).toArray 32)).heap.size = w.heap.size + 1 by simp] at h
  have pB := ((Below.refl w.heap.size w).alloc (Nat.le_refl _) (.cells ((opC o).set 67 (.int .u8 (bits .xor .u8 x 1))).toArray 32)).alloc (by simp) (.cells (opC z).toArray 32)
  go_enter Tryd.func12, Tryd.ntmps12
  go_wp2_with (first | refine wpList_allocO rfl rfl z HZ.out ?_ | refine wpList_load_row rfl 32 _ rfl _ rfl 32 _ _ _ p0 Tryd.underlying32 rfl (by rw [Tryd.sizeOp, s2]) ?_ | refine wpList_store_row rfl 32 _ _ rfl _ _ rfl rfl 32 _ p1 (by rw [Tryd.sizeOp, s2]) (by rw [s2, opC_size zok]) (all_oneCell_toArray o2) ?_)
  exact bodyPost_ret (v := .agg ((opC o).set 67 (.int .u8 (bits .xor .u8 x 1))).toArray) (results_cell_row Tryd.results12 _ _ (w.heap.size + 1) 32 _ _ _ rfl (setRow_heap _ _ _ _ _ _ p1) Tryd.underlying32 rfl (by rw [Tryd.sizeOp, s2])) rfl ⟨rfl, below_setRow pB (by omega) _⟩
set_option maxRecDepth 100000 in
set_option maxHeartbeats 1000000 in
theorem nearly_3 (w : World) (o : NOp) (ok : NOk o) :
    Calls Tryd.prog 12 #[.agg (opC o).toArray, .int .i64 3] w fun e w' => e = .returned (.agg (opC (nearD o 3)).toArray) ∧ Below w.heap.size w w' := by
  obtain ⟨z, hz⟩ : ∃ z, z = zOp := ⟨_, rfl⟩
  have HZ := hid hz
  have zok : NOk z := by rw [hz]; exact zOp_ok
  clear hz
  have ok2 := nearD_ok ok 3
  have g0 : ((w.alloc (.cells (opC o).toArray 32)).alloc (.cells (opC z).toArray 32)).heap[w.heap.size]? = some (.cells (opC o).toArray 32) := hold (hnew w _)
  have g1 : ((w.alloc (.cells (opC o).toArray 32)).alloc (.cells (opC z).toArray 32)).heap[w.heap.size + 1]? = some (.cells (opC z).toArray 32) := by
    have h := hnew (w.alloc (.cells (opC o).toArray 32)) (.cells (opC z).toArray 32)
    rwa [show (w.alloc (.cells (opC o).toArray 32)).heap.size = w.heap.size + 1 by simp] at h
  have hB := ((Below.refl w.heap.size w).alloc (Nat.le_refl _) (.cells (opC o).toArray 32)).alloc (by simp) (.cells (opC z).toArray 32)
  have c0 : ((w.alloc (.cells (opC o).toArray 32)).alloc (.cells (opC z).toArray 32)).cell? ⟨w.heap.size, 99, none⟩ = some (.int .u8 (o.e.getD 31 0)) := by
    rw [cell_of_row _ _ _ _ _ _ g0]
    have := opC_e ok 31 (.int .u8 (o.e.getD 31 0)) (ints_get .u8 o.e 31 (by rw [ok.e]; decide))
    simpa using this
  have f0 : ((w.alloc (.cells (opC o).toArray 32)).alloc (.cells (opC z).toArray 32)).frozen? ⟨w.heap.size, 99, none⟩ = false := frozen_of_row _ _ _ _ _ g0
  have HN := hid (show opC (nearD o 3) = (opC o).set 99 (.int .u8 (bits .xor .u8 (o.e.getD 31 0) 1)) from (opC_sete ok 31 (bits .xor .u8 (o.e.getD 31 0) 1) (by decide)).symm)
  have s2 := opC_size ok2
  have o2 := opC_one ok2
  rw [HN.out] at o2 s2 ⊢
  clear HN
  generalize o.e.getD 31 0 = x at *
  have p0 : ((w.alloc (.cells ((opC o).set 99 (.int .u8 (bits .xor .u8 x 1))).toArray 32)).alloc (.cells (opC z).toArray 32)).heap[w.heap.size]? = some (.cells ((opC o).set 99 (.int .u8 (bits .xor .u8 x 1))).toArray 32) := hold (hnew w _)
  have p1 : ((w.alloc (.cells ((opC o).set 99 (.int .u8 (bits .xor .u8 x 1))).toArray 32)).alloc (.cells (opC z).toArray 32)).heap[w.heap.size + 1]? = some (.cells (opC z).toArray 32) := by
    have h := hnew (w.alloc (.cells ((opC o).set 99 (.int .u8 (bits .xor .u8 x 1))).toArray 32)) (.cells (opC z).toArray 32)
    rwa [show (w.alloc (.cells ((opC o).set 99 (.int .u8 (bits .xor .u8 x 1))).toArray 32)).heap.size = w.heap.size + 1 by simp] at h
  have pB := ((Below.refl w.heap.size w).alloc (Nat.le_refl _) (.cells ((opC o).set 99 (.int .u8 (bits .xor .u8 x 1))).toArray 32)).alloc (by simp) (.cells (opC z).toArray 32)
  go_enter Tryd.func12, Tryd.ntmps12
  go_wp2_with (first | refine wpList_allocO rfl rfl z HZ.out ?_ | refine wpList_load_row rfl 32 _ rfl _ rfl 32 _ _ _ p0 Tryd.underlying32 rfl (by rw [Tryd.sizeOp, s2]) ?_ | refine wpList_store_row rfl 32 _ _ rfl _ _ rfl rfl 32 _ p1 (by rw [Tryd.sizeOp, s2]) (by rw [s2, opC_size zok]) (all_oneCell_toArray o2) ?_)
  exact bodyPost_ret (v := .agg ((opC o).set 99 (.int .u8 (bits .xor .u8 x 1))).toArray) (results_cell_row Tryd.results12 _ _ (w.heap.size + 1) 32 _ _ _ rfl (setRow_heap _ _ _ _ _ _ p1) Tryd.underlying32 rfl (by rw [Tryd.sizeOp, s2])) rfl ⟨rfl, below_setRow pB (by omega) _⟩
end Go.Proofs.YtipbbmbkjcpjbaaDoor
