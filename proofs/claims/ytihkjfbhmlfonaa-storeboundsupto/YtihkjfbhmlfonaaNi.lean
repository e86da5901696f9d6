import Derived.Test.YtihkjfbhmlfonaaYa3
namespace Go.Proofs.Ytihkjfbhmlfonaa
set_option linter.unusedVariables false
set_option linter.unusedSimpArgs false
open Go.RowKit
attribute [local go_sem ↓] Go.wp_at_zero Go.wp_at_succ

theorem run_alloc64 (a : Act) (o : Oper) (ho : o.op = .alloc 133) (w : World) : (execOp a.eval o).run Try.prog w = .ok (.value (.pointer (some ⟨w.heap.size, 0, none⟩))) (w.alloc (.cells (ints .u8 (zz 64)).toArray 133)) := by
  unfold execOp
  rw [ho]
  kernel_rfl
theorem wpList_alloc64 {w : World} {ops : Array Oper} {rest : List Oper} {o : Oper} {a : Act} {Q : Exit → Act → World → Prop} (hg : o.guard = none) (ho : o.op = .alloc 133)
    (h : wpList Try.prog ops Q rest (a.put o.dst (.pointer (some ⟨w.heap.size, 0, none⟩))) (w.alloc (.cells (ints .u8 (zz 64)).toArray 133))) : wpList Try.prog ops Q (o :: rest) a w := by
  refine wpList_plain hg fun K hK => ?_
  unfold Oper.wp
  rw [run_alloc64 a o ho w]
  exact hK _ _ h
theorem run_alloc60 (a : Act) (o : Oper) (ho : o.op = .alloc 143) (w : World) : (execOp a.eval o).run Try.prog w = .ok (.value (.pointer (some ⟨w.heap.size, 0, none⟩))) (w.alloc (.cells (ints .u8 (zz 60)).toArray 143)) := by
  unfold execOp
  rw [ho]
  kernel_rfl
theorem wpList_alloc60 {w : World} {ops : Array Oper} {rest : List Oper} {o : Oper} {a : Act} {Q : Exit → Act → World → Prop} (hg : o.guard = none) (ho : o.op = .alloc 143)
    (h : wpList Try.prog ops Q rest (a.put o.dst (.pointer (some ⟨w.heap.size, 0, none⟩))) (w.alloc (.cells (ints .u8 (zz 60)).toArray 143))) : wpList Try.prog ops Q (o :: rest) a w := by
  refine wpList_plain hg fun K hK => ?_
  unfold Oper.wp
  rw [run_alloc60 a o ho w]
  exact hK _ _ h
/-- copy(list, text): the text fits. -/
theorem wpList_copy_str {w : World} {ops : Array Oper} {rest : List Oper} {o : Oper} {a : Act} {Q : Exit → Act → World → Prop} (hgd : o.guard = none) (d x : Operand) (dT sT : TypeId)
    (ho : o.op = .call { callee := .builtin .copy, args := #[d, x], argTypes := #[dT, sT] }) (elem : TypeId) (hu : Try.prog.underlying dT = some (.slice elem)) (hz : ∀ w, (Go.sizeOf elem).run Try.prog w = .ok 1 w)
    (g n c : Nat) (hd : a.eval d = .slice (some ⟨g, 0, none⟩) n c) (t : ByteArray) (hx : a.eval x = .string t) (hle : t.size ≤ n) (cur : List Value) (ty : TypeId) (hg : w.heap[g]? = some (.cells cur.toArray ty (0, 0))) (hn : n ≤ cur.length)
    (vs : List Value) (hvs : (t.data.toList.map fun x => Value.int .u8 (x.toNat : Int)) = vs)
    (h : wpList Try.prog ops Q rest (a.put o.dst (goInt t.size)) (w.setRow g (vs ++ cur.drop vs.length).toArray)) : wpList Try.prog ops Q (o :: rest) a w := by
  have hl : vs.length = t.size := by rw [← hvs, List.length_map, ← Lib.size_eq]
  have hrun := run_copy_string (P := Try.prog) w dT sT o.type elem g 0 n c t hu hz hle (fun j hj => by rw [Nat.zero_add, cell_of_row _ _ _ _ _ _ hg, List.getElem?_toArray, List.getElem?_eq_getElem (by omega)]; rfl) (fun j hj => frozen_of_row _ _ _ _ _ hg)
  rw [hvs, setCells_row hg (by omega) (by rw [← hvs]; intro v hv; obtain ⟨x, _, rfl⟩ := List.mem_map.1 hv; rfl)] at hrun
  rw [List.take_zero, List.nil_append, Nat.zero_add] at hrun
  refine wpList_plain hgd fun K hK => ?_
  unfold Oper.wp
  simp [execOp, ho, resolve, invoke, builtin, hd, hx, hrun, Result.andThen]
  exact hK _ _ h
theorem lay_next (l : List Int) (n m k : Nat) (ys : List Int) (hl : l.length = n) (hy : ys.length = m) : laidAt (l ++ zz (m + k)) n ys = l ++ ys ++ zz k := by
  unfold laidAt
  rw [hy, List.take_left' hl, ← List.drop_drop, List.drop_left' hl]
  unfold zz
  rw [List.drop_replicate, Nat.add_sub_cancel_left]
/-- Where laySuper is: the superblock, the answer's place, the text so far. -/
structure LS (w w' : World) (s : Sup) (os : List Int) : Prop where
  r1 : w'.heap[w.heap.size]? = some (.cells #[.int .i64 s.wd, .int .i64 s.ge, .int .i64 s.ma, .int .i64 s.hd, .int .i64 s.pg] 56 (0, 0))
  r2 : w'.heap[w.heap.size + 1]? = some (.cells (ints .u8 (zz 64)).toArray 133 (0, 0))
  r3 : w'.heap[w.heap.size + 1 + 1]? = some (.cells (ints .u8 os).toArray 143 (0, 0))
  bl : Below w.heap.size w w'
theorem LS.start (w : World) (s : Sup) : LS w (((w.alloc (.cells #[.int .i64 s.wd, .int .i64 s.ge, .int .i64 s.ma, .int .i64 s.hd, .int .i64 s.pg] 56)).alloc (.cells (ints .u8 (zz 64)).toArray 133)).alloc (.cells (ints .u8 (zz 60)).toArray 143)) s (zz 60) :=
  ⟨heap3_old _ _ _ _, heap3_mid _ _ _ _, heap3_new _ _ _ _, below3 _ _ _ _⟩
theorem LS.setRow {w w' : World} {s : Sup} {os : List Int} (h : LS w w' s os) (ys : List Int) : LS w (w'.setRow (w.heap.size + 1 + 1) (ints .u8 ys).toArray) s ys :=
  ⟨(setRow_other w' _ _ _ (by omega)).trans h.r1, (setRow_other w' _ _ _ (by omega)).trans h.r2, setRow_heap w' _ _ _ _ _ h.r3, below_setRow h.bl (by omega) _⟩
theorem LS.set {w w' : World} {s : Sup} {os : List Int} (h : LS w w' s os) (j : Nat) (x : Int) : LS w (w'.setCell ⟨w.heap.size + 1 + 1, j, none⟩ (.int .u8 x)) s (os.set j x) :=
  ⟨heap_set_far h.r1 _ _ (by simp; omega), heap_set_far h.r2 _ _ (by simp), heap_set_ints h.r3 j x, h.bl.setCell (by simp; omega) _⟩
theorem LS.drew {w w' : World} {s : Sup} {os : List Int} (h : LS w w' s os) : LS w w'.drew s os := ⟨h.r1, h.r2, h.r3, h.bl.drew⟩
theorem LS.keeps {w w' w2 : World} {s : Sup} {os ys : List Int} (h : LS w w' s os) (hk : Keeps (w.heap.size + 1 + 1) w' w2) (hr : w2.heap[w.heap.size + 1 + 1]? = some (.cells (ints .u8 ys).toArray 143 (0, 0))) : LS w w2 s ys :=
  ⟨hk.heap h.r1 (by omega), hk.heap h.r2 (by omega), hr, h.bl.trans (hk.below_g (by omega) h.bl.size)⟩
theorem LS.cell {w w' : World} {s : Sup} {os : List Int} (h : LS w w' s os) : w'.cell? ⟨w.heap.size, 0, none⟩ = some (.int .i64 s.wd) ∧ w'.cell? ⟨w.heap.size, 1, none⟩ = some (.int .i64 s.ge) ∧ w'.cell? ⟨w.heap.size, 2, none⟩ = some (.int .i64 s.ma) ∧ w'.cell? ⟨w.heap.size, 3, none⟩ = some (.int .i64 s.hd) ∧ w'.cell? ⟨w.heap.size, 4, none⟩ = some (.int .i64 s.pg) :=
  ⟨cell_of_row _ _ _ _ _ _ h.r1, cell_of_row _ _ _ _ _ _ h.r1, cell_of_row _ _ _ _ _ _ h.r1, cell_of_row _ _ _ _ _ _ h.r1, cell_of_row _ _ _ _ _ _ h.r1⟩
theorem size_sector : (Try.prog.info? 133).map (·.size) = some 64 := by kernel_rfl
theorem size_super : (Try.prog.info? 56).map (·.size) = some 5 := by kernel_rfl
theorem lay_letters : ints .u8 [76, 68, 71, 49] ++ (ints .u8 (zz 60)).drop (ints .u8 [76, 68, 71, 49]).length = ints .u8 ([76, 68, 71, 49] ++ zz 56) := by
  rw [show zz 60 = zz 4 ++ zz 56 from rfl]; rfl
theorem lay_width (x : Int) : ([76, 68, 71, 49] ++ zz 56).set 4 x = [76, 68, 71, 49, x, 0, 0, 0] ++ zz (8 + 44) := by
  rw [show zz 56 = [0, 0, 0, 0] ++ zz 52 from rfl]; rfl
set_option maxRecDepth 100000 in
set_option maxHeartbeats 1000000 in
theorem laySuper_any (w : World) (s : Sup) (hv : validS s = true) :
    Calls Try.prog 80 #[.agg (supC s)] w fun e w' => e = .returned (.agg (ints .u8 (secS s)).toArray) ∧ Below w.heap.size w w' := by
  have hv' := (validS_iff s).1 hv
  have HV := hid hv
  clear hv
  obtain ⟨wd, ge, ma, hd, pg⟩ := s
  simp only at hv'
  obtain ⟨v1, v2, v3, v4, v5, v6, v7, v8, v9⟩ := hv'
  have v10 : 0 ≤ hd ∧ hd < 9223372036854775808 := by omega
  have v11 : 0 ≤ ge ∧ ge < 9223372036854775808 := by omega
  have v12 : 0 ≤ ma ∧ ma < 9223372036854775808 := by omega
  have v13 : 0 ≤ pg ∧ pg < 9223372036854775808 := by omega
  replace v9 := hid v9
  have hz5 : ∀ w, (Go.sizeOf 5).run Try.prog w = .ok 1 w := fun w => by kernel_rfl
  have HZ5 := hid hz5
  clear hz5
  unfold supC
  go_enter Try.func80, Try.ntmps80
  have L0 := LS.start w ⟨wd, ge, ma, hd, pg⟩
  simp only at L0
  have KV := hid (show ((ints .u8 (zz 60)).length = 60) by rw [ints_len, zz_len])
  go_wp2_with (first
    | (refine wpList_alloc64 rfl rfl ?_)
    | (refine wpList_alloc60 rfl rfl ?_; generalize ((w.alloc (.cells #[.int .i64 wd, .int .i64 ge, .int .i64 ma, .int .i64 hd, .int .i64 pg] 56)).alloc (.cells (ints .u8 (zz 64)).toArray 133)).alloc (.cells (ints .u8 (zz 60)).toArray 143) = w3 at *)
    | (refine wpList_copy_str rfl (.tmp 4) (.const (.string ⟨#[76, 68, 71, 49]⟩)) 36 9 rfl 5 Try.underlying36 HZ5.out (w.heap.size + 1 + 1) 60 60 rfl _ rfl (by decide) _ 143 L0.r3 (Nat.le_of_eq KV.out.symm) (ints .u8 [76, 68, 71, 49]) rfl ?_; rw [lay_letters]; have L1 := L0.setRow ([76, 68, 71, 49] ++ zz 56); clear L0; generalize w3.setRow (w.heap.size + 1 + 1) (ints .u8 ([76, 68, 71, 49] ++ zz 56)).toArray = w4 at *; have c0 := L1.cell.1; have c4 := cell_ints L1.r3 4 (by decide); have f4 : w4.frozen? ⟨w.heap.size + 1 + 1, 4, none⟩ = false := frozen_of_row _ _ _ _ _ L1.r3))
  have L2 := L1.set 4 wd
  rw [lay_width] at L2
  clear L1 c0 c4 f4
  generalize w4.setCell ⟨w.heap.size + 1 + 1, 4, none⟩ (.int .u8 wd) = w5 at *
  have D4 := L2.drew
  have c4 := D4.cell
  simp only at c4
  refine wp_region_noPanic ?_
  refine wp_region_held_drew (S := fun w' => w'.cell? ⟨w.heap.size, 1, none⟩ = some (.int .i64 ge)) (by kernel_rfl) c4.2.1 (fun hHeld => ?_)
  refine wpAnyH_take (i := 0) (oi := { dst := some 10, op := Op.slice 143 (Operand.tmp 3) (some (Operand.const (Value.int IntKind.i64 8))) (some (Operand.const (Value.int IntKind.i64 16))) none, type := 36, pos := "super.go:109", after := #[], guard := none }) (v := .slice (some ⟨w.heap.size + 1 + 1, 8, none⟩) 8 52) rfl (by kernel_rfl) (by kernel_rfl) (by kernel_rfl) (fun _ _ _ h => h) (Or.inl ⟨by rfl, by intro w hS; go_simp⟩) hHeld ?_
  try simp only [Act.put, List.setIfInBounds_toArray, List.set_cons_zero, List.set_cons_succ]
  refine wpAnyH_take (i := 1) (oi := { dst := some 11, op := Op.fieldAddr 56 (Operand.tmp 1) 1, type := 0, pos := "super.go:109", after := #[], guard := none }) (v := .pointer (some ⟨w.heap.size, 1, none⟩)) rfl (by kernel_rfl) (by kernel_rfl) (by kernel_rfl) (fun _ _ _ h => h) (Or.inl ⟨by rfl, by intro w hS; go_simp⟩) hHeld ?_
  try simp only [Act.put, List.setIfInBounds_toArray, List.set_cons_zero, List.set_cons_succ]
  refine wpAnyH_take (i := 2) (oi := { dst := some 12, op := Op.load 3 (Operand.tmp 11), type := 3, pos := "super.go:109", after := #[{ on := 1, ground := Ground.data }], guard := none }) (v := .int .i64 ge) rfl (by kernel_rfl) (by kernel_rfl) (by kernel_rfl) (fun _ _ _ h => h) (Or.inl ⟨by rfl, by intro w hS; have hc := hS; go_simp⟩) hHeld ?_
  try simp only [Act.put, List.setIfInBounds_toArray, List.set_cons_zero, List.set_cons_succ]
  refine wpAnyH_ready (rs := [3]) (by kernel_rfl) (by simp) ?_
  refine (AllReadyH.cons (o := { dst := some 13, op := Op.call { callee := Callee.value (Operand.func 94), args := #[Operand.tmp 10, Operand.tmp 12], argTypes := #[36, 3] }, type := 0, pos := "super.go:109", after := #[{ on := 0, ground := Ground.data }, { on := 2, ground := Ground.data }], guard := none }) rfl (fun K hK => ?_) AllReadyH.nil)
  go_simp
  go_at_call 94
  refine (lay_any _ (w.heap.size + 1 + 1) 8 8 52 143 _ ge v11.1 v11.2 (by omega) D4.r3 (by simp [zz_len, num_len])).mono ?_
  rintro e w6 ⟨rfl, hr, hk⟩
  rw [lay_next [76, 68, 71, 49, wd, 0, 0, 0] 8 8 44 (num ge 8) (by simp [num_len]) (num_len _ _)] at hr
  have L3 := D4.keeps hk hr
  clear hr hk
  go_wp2_with fail
  refine hK.out _ _ (L3.cell.2.1) (fun hHeld2 => ?_)
  clear hK K hHeld
  have hHeld := hHeld2
  clear hHeld2
  try simp only [Act.put, List.setIfInBounds_toArray, List.set_cons_zero, List.set_cons_succ]
  refine wpAnyH_done (by kernel_rfl) ?_ _
  refine NoPanic.normal ?_
  clear hHeld D4 c4 L2
  have D5 := L3.drew
  have c5 := D5.cell
  simp only at c5
  go_wp2_with fail
  refine wp_region_noPanic ?_
  refine wp_region_held_drew (S := fun w' => w'.cell? ⟨w.heap.size, 2, none⟩ = some (.int .i64 ma)) (by kernel_rfl) c5.2.2.1 (fun hHeld => ?_)
  refine wpAnyH_take (i := 0) (oi := { dst := some 14, op := Op.slice 143 (Operand.tmp 3) (some (Operand.const (Value.int IntKind.i64 16))) (some (Operand.const (Value.int IntKind.i64 20))) none, type := 36, pos := "super.go:110", after := #[], guard := none }) (v := .slice (some ⟨w.heap.size + 1 + 1, 16, none⟩) 4 44) rfl (by kernel_rfl) (by kernel_rfl) (by kernel_rfl) (fun _ _ _ h => h) (Or.inl ⟨by rfl, by intro w hS; go_simp⟩) hHeld ?_
  try simp only [Act.put, List.setIfInBounds_toArray, List.set_cons_zero, List.set_cons_succ]
  refine wpAnyH_take (i := 1) (oi := { dst := some 15, op := Op.fieldAddr 56 (Operand.tmp 1) 2, type := 0, pos := "super.go:110", after := #[], guard := none }) (v := .pointer (some ⟨w.heap.size, 2, none⟩)) rfl (by kernel_rfl) (by kernel_rfl) (by kernel_rfl) (fun _ _ _ h => h) (Or.inl ⟨by rfl, by intro w hS; go_simp⟩) hHeld ?_
  try simp only [Act.put, List.setIfInBounds_toArray, List.set_cons_zero, List.set_cons_succ]
  refine wpAnyH_take (i := 2) (oi := { dst := some 16, op := Op.load 3 (Operand.tmp 15), type := 3, pos := "super.go:110", after := #[{ on := 1, ground := Ground.data }], guard := none }) (v := .int .i64 ma) rfl (by kernel_rfl) (by kernel_rfl) (by kernel_rfl) (fun _ _ _ h => h) (Or.inl ⟨by rfl, by intro w hS; have hc := hS; go_simp⟩) hHeld ?_
  try simp only [Act.put, List.setIfInBounds_toArray, List.set_cons_zero, List.set_cons_succ]
  refine wpAnyH_ready (rs := [3]) (by kernel_rfl) (by simp) ?_
  refine (AllReadyH.cons (o := { dst := some 17, op := Op.call { callee := Callee.value (Operand.func 94), args := #[Operand.tmp 14, Operand.tmp 16], argTypes := #[36, 3] }, type := 0, pos := "super.go:110", after := #[{ on := 0, ground := Ground.data }, { on := 2, ground := Ground.data }], guard := none }) rfl (fun K hK => ?_) AllReadyH.nil)
  go_simp
  go_at_call 94
  refine (lay_any _ (w.heap.size + 1 + 1) 16 4 44 143 _ ma v12.1 v12.2 (by omega) D5.r3 (by simp [zz_len, num_len])).mono ?_
  rintro e w7 ⟨rfl, hr, hk⟩
  rw [lay_next ([76, 68, 71, 49, wd, 0, 0, 0] ++ num ge 8) 16 4 40 (num ma 4) (by simp [num_len]) (num_len _ _)] at hr
  have L4 := D5.keeps hk hr
  clear hr hk
  go_wp2_with fail
  refine hK.out _ _ (L4.cell.2.2.1) (fun hHeld2 => ?_)
  clear hK K hHeld
  have hHeld := hHeld2
  clear hHeld2
  try simp only [Act.put, List.setIfInBounds_toArray, List.set_cons_zero, List.set_cons_succ]
  refine wpAnyH_done (by kernel_rfl) ?_ _
  refine NoPanic.normal ?_
  clear hHeld D5 c5 L3
  have D6 := L4.drew
  have c6 := D6.cell
  simp only at c6
  go_wp2_with fail
  refine wp_region_noPanic ?_
  refine wp_region_held_drew (S := fun w' => w'.cell? ⟨w.heap.size, 3, none⟩ = some (.int .i64 hd)) (by kernel_rfl) c6.2.2.2.1 (fun hHeld => ?_)
  refine wpAnyH_take (i := 0) (oi := { dst := some 18, op := Op.slice 143 (Operand.tmp 3) (some (Operand.const (Value.int IntKind.i64 20))) (some (Operand.const (Value.int IntKind.i64 24))) none, type := 36, pos := "super.go:111", after := #[], guard := none }) (v := .slice (some ⟨w.heap.size + 1 + 1, 20, none⟩) 4 40) rfl (by kernel_rfl) (by kernel_rfl) (by kernel_rfl) (fun _ _ _ h => h) (Or.inl ⟨by rfl, by intro w hS; go_simp⟩) hHeld ?_
  try simp only [Act.put, List.setIfInBounds_toArray, List.set_cons_zero, List.set_cons_succ]
  refine wpAnyH_take (i := 1) (oi := { dst := some 19, op := Op.fieldAddr 56 (Operand.tmp 1) 3, type := 0, pos := "super.go:111", after := #[], guard := none }) (v := .pointer (some ⟨w.heap.size, 3, none⟩)) rfl (by kernel_rfl) (by kernel_rfl) (by kernel_rfl) (fun _ _ _ h => h) (Or.inl ⟨by rfl, by intro w hS; go_simp⟩) hHeld ?_
  try simp only [Act.put, List.setIfInBounds_toArray, List.set_cons_zero, List.set_cons_succ]
  refine wpAnyH_take (i := 2) (oi := { dst := some 20, op := Op.load 3 (Operand.tmp 19), type := 3, pos := "super.go:111", after := #[{ on := 1, ground := Ground.data }], guard := none }) (v := .int .i64 hd) rfl (by kernel_rfl) (by kernel_rfl) (by kernel_rfl) (fun _ _ _ h => h) (Or.inl ⟨by rfl, by intro w hS; have hc := hS; go_simp⟩) hHeld ?_
  try simp only [Act.put, List.setIfInBounds_toArray, List.set_cons_zero, List.set_cons_succ]
  refine wpAnyH_ready (rs := [3]) (by kernel_rfl) (by simp) ?_
  refine (AllReadyH.cons (o := { dst := some 21, op := Op.call { callee := Callee.value (Operand.func 94), args := #[Operand.tmp 18, Operand.tmp 20], argTypes := #[36, 3] }, type := 0, pos := "super.go:111", after := #[{ on := 0, ground := Ground.data }, { on := 2, ground := Ground.data }], guard := none }) rfl (fun K hK => ?_) AllReadyH.nil)
  go_simp
  go_at_call 94
  refine (lay_any _ (w.heap.size + 1 + 1) 20 4 40 143 _ hd v10.1 v10.2 (by omega) D6.r3 (by simp [zz_len, num_len])).mono ?_
  rintro e w8 ⟨rfl, hr, hk⟩
  rw [lay_next ([76, 68, 71, 49, wd, 0, 0, 0] ++ num ge 8 ++ num ma 4) 20 4 36 (num hd 4) (by simp [num_len]) (num_len _ _)] at hr
  have L5 := D6.keeps hk hr
  clear hr hk
  go_wp2_with fail
  refine hK.out _ _ (L5.cell.2.2.2.1) (fun hHeld2 => ?_)
  clear hK K hHeld
  have hHeld := hHeld2
  clear hHeld2
  try simp only [Act.put, List.setIfInBounds_toArray, List.set_cons_zero, List.set_cons_succ]
  refine wpAnyH_done (by kernel_rfl) ?_ _
  refine NoPanic.normal ?_
  clear hHeld D6 c6 L4
  have D7 := L5.drew
  have c7 := D7.cell
  simp only at c7
  go_wp2_with fail
  refine wp_region_noPanic ?_
  refine wp_region_held_drew (S := fun w' => w'.cell? ⟨w.heap.size, 4, none⟩ = some (.int .i64 pg)) (by kernel_rfl) c7.2.2.2.2 (fun hHeld => ?_)
  refine wpAnyH_take (i := 0) (oi := { dst := some 22, op := Op.slice 143 (Operand.tmp 3) (some (Operand.const (Value.int IntKind.i64 24))) (some (Operand.const (Value.int IntKind.i64 28))) none, type := 36, pos := "super.go:112", after := #[], guard := none }) (v := .slice (some ⟨w.heap.size + 1 + 1, 24, none⟩) 4 36) rfl (by kernel_rfl) (by kernel_rfl) (by kernel_rfl) (fun _ _ _ h => h) (Or.inl ⟨by rfl, by intro w hS; go_simp⟩) hHeld ?_
  try simp only [Act.put, List.setIfInBounds_toArray, List.set_cons_zero, List.set_cons_succ]
  refine wpAnyH_take (i := 1) (oi := { dst := some 23, op := Op.fieldAddr 56 (Operand.tmp 1) 4, type := 0, pos := "super.go:112", after := #[], guard := none }) (v := .pointer (some ⟨w.heap.size, 4, none⟩)) rfl (by kernel_rfl) (by kernel_rfl) (by kernel_rfl) (fun _ _ _ h => h) (Or.inl ⟨by rfl, by intro w hS; go_simp⟩) hHeld ?_
  try simp only [Act.put, List.setIfInBounds_toArray, List.set_cons_zero, List.set_cons_succ]
  refine wpAnyH_take (i := 2) (oi := { dst := some 24, op := Op.load 3 (Operand.tmp 23), type := 3, pos := "super.go:112", after := #[{ on := 1, ground := Ground.data }], guard := none }) (v := .int .i64 pg) rfl (by kernel_rfl) (by kernel_rfl) (by kernel_rfl) (fun _ _ _ h => h) (Or.inl ⟨by rfl, by intro w hS; have hc := hS; go_simp⟩) hHeld ?_
  try simp only [Act.put, List.setIfInBounds_toArray, List.set_cons_zero, List.set_cons_succ]
  refine wpAnyH_ready (rs := [3]) (by kernel_rfl) (by simp) ?_
  refine (AllReadyH.cons (o := { dst := some 25, op := Op.call { callee := Callee.value (Operand.func 94), args := #[Operand.tmp 22, Operand.tmp 24], argTypes := #[36, 3] }, type := 0, pos := "super.go:112", after := #[{ on := 0, ground := Ground.data }, { on := 2, ground := Ground.data }], guard := none }) rfl (fun K hK => ?_) AllReadyH.nil)
  go_simp
  go_at_call 94
  refine (lay_any _ (w.heap.size + 1 + 1) 24 4 36 143 _ pg v13.1 v13.2 (by omega) D7.r3 (by simp [zz_len, num_len])).mono ?_
  rintro e w9 ⟨rfl, hr, hk⟩
  rw [lay_next ([76, 68, 71, 49, wd, 0, 0, 0] ++ num ge 8 ++ num ma 4 ++ num hd 4) 24 4 32 (num pg 4) (by simp [num_len]) (num_len _ _)] at hr
  have L6 := D7.keeps hk hr
  clear hr hk
  go_wp2_with fail
  refine hK.out _ _ (L6.cell.2.2.2.2) (fun hHeld2 => ?_)
  clear hK K hHeld
  have hHeld := hHeld2
  clear hHeld2
  try simp only [Act.put, List.setIfInBounds_toArray, List.set_cons_zero, List.set_cons_succ]
  refine wpAnyH_done (by kernel_rfl) ?_ _
  refine NoPanic.normal ?_
  clear hHeld D7 c7 L5
  rw [show ([76, 68, 71, 49, wd, 0, 0, 0] ++ num ge 8 ++ num ma 4 ++ num hd 4 ++ num pg 4 ++ zz 32 : List Int) = bodyS ⟨wd, ge, ma, hd, pg⟩ from rfl] at L6
  have hbl := bodyS_len ⟨wd, ge, ma, hd, pg⟩
  have hb8 := bodyS_byts _ HV.out
  have hs := seal_any w9 (bodyS ⟨wd, ge, ma, hd, pg⟩) hb8 (some ⟨w.heap.size + 1 + 1, 0, none⟩) 60 (src_rowf L6.r3 60 (by omega) (by decide)) (by omega)
  rw [hbl] at hs
  go_wp2_with fail
  refine hs.mono ?_
  rintro e w10 ⟨rfl, hr, hB⟩
  have R2 := hbel hB L6.r2 (hlt L6.r2)
  have BL := L6.bl.trans (hB.mono L6.bl.size)
  have hne : w9.heap.size ≠ w.heap.size + 1 := by have := hlt L6.r2; omega
  clear hs hB L6 hbl hb8
  have hr' : w10.heap[w9.heap.size]? = some (.cells (ints .u8 (secS ⟨wd, ge, ma, hd, pg⟩)).toArray 5 (0, 0)) := hr
  clear hr
  have hsl := secS_len ⟨wd, ge, ma, hd, pg⟩
  generalize hsec : secS ⟨wd, ge, ma, hd, pg⟩ = sec at *
  replace hsec := hid hsec
  have K3 := hid (show (Try.prog.info? 133).map (·.size) = some (ints .u8 sec).toArray.size by rw [size_sector, ints_size, hsl])
  have K4 := hid (show (ints .u8 (zz 64)).toArray.size = (ints .u8 sec).toArray.size by rw [ints_size, ints_size, hsl, zz_len])
  have ho := hid (all_oneCell_toArray (ints_one .u8 sec))
  have hat : ∀ w, (Instr.arrayAt 133 (.slice (some ⟨w9.heap.size, 0, none⟩) 64 64)).run Try.prog w = .ok (.pointer (some ⟨w9.heap.size, 0, none⟩)) w := fun w => run_arrayAt w 133 _ 64 _ 64 64 Try.underlying133 (Nat.le_refl _)
  replace hsl := hid hsl
  go_wp2_with (first
    | (refine wpList_load_row_w rfl 133 (.tmp 28) rfl w9.heap.size rfl 5 (ints .u8 sec).toArray (0, 0) _ hr' Try.underlying133 rfl K3.out ?_)
    | (refine wpList_store_row rfl 133 (.tmp 2) (.tmp 29) rfl (w.heap.size + 1) (ints .u8 sec).toArray rfl rfl 133 _ R2 K3.out K4.out ho.out ?_; have R3 := setRow_heap w10 _ _ (ints .u8 sec).toArray _ _ R2; have BF := below_setRow BL (show w.heap.size ≤ w.heap.size + 1 by omega) (ints .u8 sec).toArray))
  exact bodyPost_ret (v := .agg (ints .u8 sec).toArray) (results_cell_row Try.results80 _ _ (w.heap.size + 1) 133 _ _ _ rfl R3 Try.underlying133 rfl K3.out) rfl ⟨by rw [hsec.out], BF⟩
end Go.Proofs.Ytihkjfbhmlfonaa
