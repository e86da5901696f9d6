import Derived.Test.YtjpcegjgandnjaaGreatDoorQ03
namespace Go.Proofs.YtjpcegjgandnjaaGreatDoor
set_option linter.unusedVariables false
set_option linter.unusedSimpArgs false
open Go.RowKit
attribute [local go_sem ↓] Go.wp_at_zero Go.wp_at_succ

theorem run_alloc64 (a : Act) (o : Oper) (ho : o.op = .alloc 273) (w : World) : (execOp a.eval o).run Tryz.prog w = .ok (.value (.pointer (some ⟨w.heap.size, 0, none⟩))) (w.alloc (.cells (ints .u8 (zz 64)).toArray 273)) := by
  unfold execOp
  rw [ho]
  kernel_rfl
theorem wpList_alloc64 {w : World} {ops : Array Oper} {rest : List Oper} {o : Oper} {a : Act} {Q : Exit → Act → World → Prop} (hg : o.guard = none) (ho : o.op = .alloc 273)
    (h : wpList Tryz.prog ops Q rest (a.put o.dst (.pointer (some ⟨w.heap.size, 0, none⟩))) (w.alloc (.cells (ints .u8 (zz 64)).toArray 273))) : wpList Tryz.prog ops Q (o :: rest) a w := by
  refine wpList_plain hg fun K hK => ?_
  unfold Oper.wp
  rw [run_alloc64 a o ho w]
  exact hK _ _ h
theorem run_alloc60 (a : Act) (o : Oper) (ho : o.op = .alloc 301) (w : World) : (execOp a.eval o).run Tryz.prog w = .ok (.value (.pointer (some ⟨w.heap.size, 0, none⟩))) (w.alloc (.cells (ints .u8 (zz 60)).toArray 301)) := by
  unfold execOp
  rw [ho]
  kernel_rfl
theorem wpList_alloc60 {w : World} {ops : Array Oper} {rest : List Oper} {o : Oper} {a : Act} {Q : Exit → Act → World → Prop} (hg : o.guard = none) (ho : o.op = .alloc 301)
    (h : wpList Tryz.prog ops Q rest (a.put o.dst (.pointer (some ⟨w.heap.size, 0, none⟩))) (w.alloc (.cells (ints .u8 (zz 60)).toArray 301))) : wpList Tryz.prog ops Q (o :: rest) a w := by
  refine wpList_plain hg fun K hK => ?_
  unfold Oper.wp
  rw [run_alloc60 a o ho w]
  exact hK _ _ h
/-- copy(list, text): the text fits. -/
theorem wpList_copy_str {w : World} {ops : Array Oper} {rest : List Oper} {o : Oper} {a : Act} {Q : Exit → Act → World → Prop} (hgd : o.guard = none) (d x : Operand) (dT sT : TypeId)
    (ho : o.op = .call { callee := .builtin .copy, args := #[d, x], argTypes := #[dT, sT] }) (elem : TypeId) (hu : Tryz.prog.underlying dT = some (.slice elem)) (hz : ∀ w, (Go.sizeOf elem).run Tryz.prog w = .ok 1 w)
    (g n c : Nat) (hd : a.eval d = .slice (some ⟨g, 0, none⟩) n c) (t : ByteArray) (hx : a.eval x = .string t) (hle : t.size ≤ n) (cur : List Value) (ty : TypeId) (hg : w.heap[g]? = some (.cells cur.toArray ty (0, 0))) (hn : n ≤ cur.length)
    (vs : List Value) (hvs : (t.data.toList.map fun x => Value.int .u8 (x.toNat : Int)) = vs)
    (h : wpList Tryz.prog ops Q rest (a.put o.dst (goInt t.size)) (w.setRow g (vs ++ cur.drop vs.length).toArray)) : wpList Tryz.prog ops Q (o :: rest) a w := by
  have hl : vs.length = t.size := by rw [← hvs, List.length_map, ← Lib.size_eq]
  have hrun := run_copy_string (P := Tryz.prog) w dT sT o.type elem g 0 n c t hu hz hle (fun j hj => by rw [Nat.zero_add, cell_of_row _ _ _ _ _ _ hg, List.getElem?_toArray, List.getElem?_eq_getElem (by omega)]; rfl) (fun j hj => frozen_of_row _ _ _ _ _ hg)
  rw [hvs, setCells_row hg (by omega) (by rw [← hvs]; intro v hv; obtain ⟨x, _, rfl⟩ := List.mem_map.1 hv; rfl)] at hrun
  rw [List.take_zero, List.nil_append, Nat.zero_add] at hrun
  refine wpList_plain hgd fun K hK => ?_
  unfold Oper.wp
  simp [execOp, ho, resolve, invoke, builtin, hd, hx, hrun, Result.andThen]
  exact hK _ _ h
theorem lay_next (l : List Int) (n m k : Nat) (ys : List Int) (hl : l.length = n) (hy : ys.length = m) : laidAt (l ++ zz (m + k)) n ys = l ++ ys ++ zz k := by
  unfold laidAt
  rw [hy, List.take_left' hl, ← List.drop_drop, List.drop_left' hl]
  unfold zz
  rw [List.drop_replicate, Nat.add_sub_cancel_left]
/-- Where laySuper is: the superblock, the answer's place, the text so far. -/
structure LS (w w' : World) (s : Sup) (os : List Int) : Prop where
  r1 : w'.heap[w.heap.size]? = some (.cells #[.int .i64 s.wd, .int .i64 s.ge, .int .i64 s.ma, .int .i64 s.hd, .int .i64 s.pg] 99 (0, 0))
  r2 : w'.heap[w.heap.size + 1]? = some (.cells (ints .u8 (zz 64)).toArray 273 (0, 0))
  r3 : w'.heap[w.heap.size + 1 + 1]? = some (.cells (ints .u8 os).toArray 301 (0, 0))
  bl : Below w.heap.size w w'
theorem LS.start (w : World) (s : Sup) : LS w (((w.alloc (.cells #[.int .i64 s.wd, .int .i64 s.ge, .int .i64 s.ma, .int .i64 s.hd, .int .i64 s.pg] 99)).alloc (.cells (ints .u8 (zz 64)).toArray 273)).alloc (.cells (ints .u8 (zz 60)).toArray 301)) s (zz 60) :=
  ⟨heap3_old _ _ _ _, heap3_mid _ _ _ _, heap3_new _ _ _ _, below3 _ _ _ _⟩
theorem LS.setRow {w w' : World} {s : Sup} {os : List Int} (h : LS w w' s os) (ys : List Int) : LS w (w'.setRow (w.heap.size + 1 + 1) (ints .u8 ys).toArray) s ys :=
  ⟨(setRow_other w' _ _ _ (by omega)).trans h.r1, (setRow_other w' _ _ _ (by omega)).trans h.r2, setRow_heap w' _ _ _ _ _ h.r3, below_setRow h.bl (by omega) _⟩
theorem LS.set {w w' : World} {s : Sup} {os : List Int} (h : LS w w' s os) (j : Nat) (x : Int) : LS w (w'.setCell ⟨w.heap.size + 1 + 1, j, none⟩ (.int .u8 x)) s (os.set j x) :=
  ⟨heap_set_far h.r1 _ _ (by simp; omega), heap_set_far h.r2 _ _ (by simp), heap_set_ints h.r3 j x, h.bl.setCell (by simp; omega) _⟩
theorem LS.drew {w w' : World} {s : Sup} {os : List Int} (h : LS w w' s os) : LS w w'.drew s os := ⟨h.r1, h.r2, h.r3, h.bl.drew⟩
theorem LS.keeps {w w' w2 : World} {s : Sup} {os ys : List Int} (h : LS w w' s os) (hk : Keeps (w.heap.size + 1 + 1) w' w2) (hr : w2.heap[w.heap.size + 1 + 1]? = some (.cells (ints .u8 ys).toArray 301 (0, 0))) : LS w w2 s ys :=
  ⟨hk.heap h.r1 (by omega), hk.heap h.r2 (by omega), hr, h.bl.trans (hk.below_g (by omega) h.bl.size)⟩
theorem LS.cell {w w' : World} {s : Sup} {os : List Int} (h : LS w w' s os) : w'.cell? ⟨w.heap.size, 0, none⟩ = some (.int .i64 s.wd) ∧ w'.cell? ⟨w.heap.size, 1, none⟩ = some (.int .i64 s.ge) ∧ w'.cell? ⟨w.heap.size, 2, none⟩ = some (.int .i64 s.ma) ∧ w'.cell? ⟨w.heap.size, 3, none⟩ = some (.int .i64 s.hd) ∧ w'.cell? ⟨w.heap.size, 4, none⟩ = some (.int .i64 s.pg) :=
  ⟨cell_of_row _ _ _ _ _ _ h.r1, cell_of_row _ _ _ _ _ _ h.r1, cell_of_row _ _ _ _ _ _ h.r1, cell_of_row _ _ _ _ _ _ h.r1, cell_of_row _ _ _ _ _ _ h.r1⟩
theorem size_sector : (Tryz.prog.info? 273).map (·.size) = some 64 := by kernel_rfl
theorem size_super : (Tryz.prog.info? 99).map (·.size) = some 5 := by kernel_rfl
theorem lay_letters : ints .u8 [76, 68, 71, 49] ++ (ints .u8 (zz 60)).drop (ints .u8 [76, 68, 71, 49]).length = ints .u8 ([76, 68, 71, 49] ++ zz 56) := by
  rw [show zz 60 = zz 4 ++ zz 56 from rfl]; rfl
theorem lay_width (x : Int) : ([76, 68, 71, 49] ++ zz 56).set 4 x = [76, 68, 71, 49, x, 0, 0, 0] ++ zz (8 + 44) := by
  rw [show zz 56 = [0, 0, 0, 0] ++ zz 52 from rfl]; rfl
set_option maxRecDepth 100000 in
set_option maxHeartbeats 1000000 in
theorem laySuper_any (w : World) (s : Sup) (hv : validS s = true) :
    Calls Tryz.prog 145 #[.agg (supC s)] w fun e w' => e = .returned (.agg (ints .u8 (secS s)).toArray) ∧ Below w.heap.size w w' := by
  have hv' := (validS_iff s).1 hv
  have HV := hid hv
  clear hv
  obtain ⟨wd, ge, ma, hd, pg⟩ := s
  simp only at hv'
  obtain ⟨v1, v2, v3, v4, v5, v6, v7, v8, v9⟩ := hv'
  have v10 : 0 ≤ hd ∧ hd < 9223372036854775808 := by omega
  have v11 : 0 ≤ ge ∧ ge < 9223372036854775808 := by omega
  have v12 : 0 ≤ ma ∧ ma < 9223372036854775808 := by omega
  have v13 : 0 ≤ pg ∧ pg < 9223372036854775808 := by omega
  replace v9 := hid v9
  have hz5 : ∀ w, (Go.sizeOf 5).run Tryz.prog w = .ok 1 w := fun w => by kernel_rfl
  have HZ5 := hid hz5
  clear hz5
  unfold supC
  go_enter Tryz.func145, Tryz.ntmps145
  have L0 := LS.start w ⟨wd, ge, ma, hd, pg⟩
  simp only at L0
  have KV := hid (show ((ints .u8 (zz 60)).length = 60) by rw [ints_len, zz_len])
  go_wp2_with (first
    | (refine wpList_alloc64 rfl rfl ?_)
    | (refine wpList_alloc60 rfl rfl ?_; generalize ((w.alloc (.cells #[.int .i64 wd, .int .i64 ge, .int .i64 ma, .int .i64 hd, .int .i64 pg] 99)).alloc (.cells (ints .u8 (zz 64)).toArray 273)).alloc (.cells (ints .u8 (zz 60)).toArray 301) = w3 at *)
    | (refine wpList_copy_str rfl (.tmp 4) (.const (.string ⟨#[76, 68, 71, 49]⟩)) 45 9 rfl 5 Tryz.underlying45 HZ5.out (w.heap.size + 1 + 1) 60 60 rfl _ rfl (by decide) _ 301 L0.r3 (Nat.le_of_eq KV.out.symm) (ints .u8 [76, 68, 71, 49]) rfl ?_; rw [lay_letters]; have L1 := L0.setRow ([76, 68, 71, 49] ++ zz 56); clear L0; generalize w3.setRow (w.heap.size + 1 + 1) (ints .u8 ([76, 68, 71, 49] ++ zz 56)).toArray = w4 at *; have c0 := L1.cell.1; have c4 := cell_ints L1.r3 4 (by decide); have f4 : w4.frozen? ⟨w.heap.size + 1 + 1, 4, none⟩ = false := frozen_of_row _ _ _ _ _ L1.r3))
  have L2 := L1.set 4 wd
  rw [lay_width] at L2
  clear L1 c0 c4 f4
  generalize w4.setCell ⟨w.heap.size + 1 + 1, 4, none⟩ (.int .u8 wd) = w5 at *
  have D4 := L2.drew
  have c4 := D4.cell
  simp only at c4
  refine wp_region_noPanic ?_
  refine wp_region_held_drew (S := fun w' => w'.cell? ⟨w.heap.size, 1, none⟩ = some (.int .i64 ge)) (by kernel_rfl) c4.2.1 (fun hHeld => ?_)
  refine wpAnyH_take (i := 0) (oi := { dst := some 10, op := Op.slice 301 (Operand.tmp 3) (some (Operand.const (Value.int IntKind.i64 8))) (some (Operand.const (Value.int IntKind.i64 16))) none, type := 45, pos := "super.go:109", after := #[], guard := none }) (v := .slice (some ⟨w.heap.size + 1 + 1, 8, none⟩) 8 52) rfl (by kernel_rfl) (by kernel_rfl) (by kernel_rfl) (fun _ _ _ h => h) (Or.inl ⟨by rfl, by intro w hS; go_simp⟩) hHeld ?_
  try simp only [Act.put, List.setIfInBounds_toArray, List.set_cons_zero, List.set_cons_succ]
  refine wpAnyH_take (i := 1) (oi := { dst := some 11, op := Op.fieldAddr 99 (Operand.tmp 1) 1, type := 0, pos := "super.go:109", after := #[], guard := none }) (v := .pointer (some ⟨w.heap.size, 1, none⟩)) rfl (by kernel_rfl) (by kernel_rfl) (by kernel_rfl) (fun _ _ _ h => h) (Or.inl ⟨by rfl, by intro w hS; go_simp⟩) hHeld ?_
  try simp only [Act.put, List.setIfInBounds_toArray, List.set_cons_zero, List.set_cons_succ]
  refine wpAnyH_take (i := 2) (oi := { dst := some 12, op := Op.load 3 (Operand.tmp 11), type := 3, pos := "super.go:109", after := #[{ on := 1, ground := Ground.data }], guard := none }) (v := .int .i64 ge) rfl (by kernel_rfl) (by kernel_rfl) (by kernel_rfl) (fun _ _ _ h => h) (Or.inl ⟨by rfl, by intro w hS; have hc := hS; go_simp⟩) hHeld ?_
  try simp only [Act.put, List.setIfInBounds_toArray, List.set_cons_zero, List.set_cons_succ]
  refine wpAnyH_ready (rs := [3]) (by kernel_rfl) (by simp) ?_
  refine (AllReadyH.cons (o := { dst := some 13, op := Op.call { callee := Callee.value (Operand.func 178), args := #[Operand.tmp 10, Operand.tmp 12], argTypes := #[45, 3] }, type := 0, pos := "super.go:109", after := #[{ on := 0, ground := Ground.data }, { on := 2, ground := Ground.data }], guard := none }) rfl (fun K hK => ?_) AllReadyH.nil)
  go_simp
  go_at_call 178
  refine (lay_any _ (w.heap.size + 1 + 1) 8 8 52 301 _ ge v11.1 v11.2 (by omega) D4.r3 (by simp [zz_len, num_len])).mono ?_
  rintro e w6 ⟨rfl, hr, hk⟩
  rw [lay_next [76, 68, 71, 49, wd, 0, 0, 0] 8 8 44 (num ge 8) (by simp [num_len]) (num_len _ _)] at hr
  have L3 := D4.keeps hk hr
  clear hr hk
  go_wp2_with fail
  refine hK.out _ _ (L3.cell.2.1) (fun hHeld2 => ?_)
  clear hK K hHeld
  have hHeld := hHeld2
  clear hHeld2
  try simp only [Act.put, List.setIfInBounds_toArray, List.set_cons_zero, List.set_cons_succ]
  refine wpAnyH_done (by kernel_rfl) ?_ _
  refine NoPanic.normal ?_
  clear hHeld D4 c4 L2
  have D5 := L3.drew
  have c5 := D5.cell
  simp only at c5
  go_wp2_with fail
  refine wp_region_noPanic ?_
  refine wp_region_held_drew (S := fun w' => w'.cell? ⟨w.heap.size, 2, none⟩ = some (.int .i64 ma)) (by kernel_rfl) c5.2.2.1 (fun hHeld => ?_)
  refine wpAnyH_take (i := 0) (oi := { dst := some 14, op := Op.slice 301 (Operand.tmp 3) (some (Operand.const (Value.int IntKind.i64 16))) (some (Operand.const (Value.int IntKind.i64 20))) none, type := 45, pos := "super.go:110", after := #[], guard := none }) (v := .slice (some ⟨w.heap.size + 1 + 1, 16, none⟩) 4 44) rfl (by kernel_rfl) (by kernel_rfl) (by kernel_rfl) (fun _ _ _ h => h) (Or.inl ⟨by rfl, by intro w hS; go_simp⟩) hHeld ?_
  try simp only [Act.put, List.setIfInBounds_toArray, List.set_cons_zero, List.set_cons_succ]
  refine wpAnyH_take (i := 1) (oi := { dst := some 15, op := Op.fieldAddr 99 (Operand.tmp 1) 2, type := 0, pos := "super.go:110", after := #[], guard := none }) (v := .pointer (some ⟨w.heap.size, 2, none⟩)) rfl (by kernel_rfl) (by kernel_rfl) (by kernel_rfl) (fun _ _ _ h => h) (Or.inl ⟨by rfl, by intro w hS; go_simp⟩) hHeld ?_
  try simp only [Act.put, List.setIfInBounds_toArray, List.set_cons_zero, List.set_cons_succ]
  refine wpAnyH_take (i := 2) (oi := { dst := some 16, op := Op.load 3 (Operand.tmp 15), type := 3, pos := "super.go:110", after := #[{ on := 1, ground := Ground.data }], guard := none }) (v := .int .i64 ma) rfl (by kernel_rfl) (by kernel_rfl) (by kernel_rfl) (fun _ _ _ h => h) (Or.inl ⟨by rfl, by intro w hS; have hc := hS; go_simp⟩) hHeld ?_
  try simp only [Act.put, List.setIfInBounds_toArray, List.set_cons_zero, List.set_cons_succ]
  refine wpAnyH_ready (rs := [3]) (by kernel_rfl) (by simp) ?_
  refine (AllReadyH.cons (o := { dst := some 17, op := Op.call { callee := Callee.value (Operand.func 178), args := #[Operand.tmp 14, Operand.tmp 16], argTypes := #[45, 3] }, type := 0, pos := "super.go:110", after := #[{ on := 0, ground := Ground.data }, { on := 2, ground := Ground.data }], guard := none }) rfl (fun K hK => ?_) AllReadyH.nil)
  go_simp
  go_at_call 178
  refine (lay_any _ (w.heap.size + 1 + 1) 16 4 44 301 _ ma v12.1 v12.2 (by omega) D5.r3 (by simp [zz_len, num_len])).mono ?_
  rintro e w7 ⟨rfl, hr, hk⟩
  rw [lay_next ([76, 68, 71, 49, wd, 0, 0, 0] ++ num ge 8) 16 4 40 (num ma 4) (by simp [num_len]) (num_len _ _)] at hr
  have L4 := D5.keeps hk hr
  clear hr hk
  go_wp2_with fail
  refine hK.out _ _ (L4.cell.2.2.1) (fun hHeld2 => ?_)
  clear hK K hHeld
  have hHeld := hHeld2
  clear hHeld2
  try simp only [Act.put, List.setIfInBounds_toArray, List.set_cons_zero, List.set_cons_succ]
  refine wpAnyH_done (by kernel_rfl) ?_ _
  refine NoPanic.normal ?_
  clear hHeld D5 c5 L3
  have D6 := L4.drew
  have c6 := D6.cell
  simp only at c6
  go_wp2_with fail
  refine wp_region_noPanic ?_
  refine wp_region_held_drew (S := fun w' => w'.cell? ⟨w.heap.size, 3, none⟩ = some (.int .i64 hd)) (by kernel_rfl) c6.2.2.2.1 (fun hHeld => ?_)
  refine wpAnyH_take (i := 0) (oi := { dst := some 18, op := Op.slice 301 (Operand.tmp 3) (some (Operand.const (Value.int IntKind.i64 20))) (some (Operand.const (Value.int IntKind.i64 24))) none, type := 45, pos := "super.go:111", after := #[], guard := none }) (v := .slice (some ⟨w.heap.size + 1 + 1, 20, none⟩) 4 40) rfl (by kernel_rfl) (by kernel_rfl) (by kernel_rfl) (fun _ _ _ h => h) (Or.inl ⟨by rfl, by intro w hS; go_simp⟩) hHeld ?_
  try simp only [Act.put, List.setIfInBounds_toArray, List.set_cons_zero, List.set_cons_succ]
  refine wpAnyH_take (i := 1) (oi := { dst := some 19, op := Op.fieldAddr 99 (Operand.tmp 1) 3, type := 0, pos := "super.go:111", after := #[], guard := none }) (v := .pointer (some ⟨w.heap.size, 3, none⟩)) rfl (by kernel_rfl) (by kernel_rfl) (by kernel_rfl) (fun _ _ _ h => h) (Or.inl ⟨by rfl, by intro w hS; go_simp⟩) hHeld ?_
  try simp only [Act.put, List.setIfInBounds_toArray, List.set_cons_zero, List.set_cons_succ]
  refine wpAnyH_take (i := 2) (oi := { dst := some 20, op := Op.load 3 (Operand.tmp 19), type := 3, pos := "super.go:111", after := #[{ on := 1, ground := Ground.data }], guard := none }) (v := .int .i64 hd) rfl (by kernel_rfl) (by kernel_rfl) (by kernel_rfl) (fun _ _ _ h => h) (Or.inl ⟨by rfl, by intro w hS; have hc := hS; go_simp⟩) hHeld ?_
  try simp only [Act.put, List.setIfInBounds_toArray, List.set_cons_zero, List.set_cons_succ]
  refine wpAnyH_ready (rs := [3]) (by kernel_rfl) (by simp) ?_
  refine (AllReadyH.cons (o := { dst := some 21, op := Op.call { callee := Callee.value (Operand.func 178), args := #[Operand.tmp 18, Operand.tmp 20], argTypes := #[45, 3] }, type := 0, pos := "super.go:111", after := #[{ on := 0, ground := Ground.data }, { on := 2, ground := Ground.data }], guard := none }) rfl (fun K hK => ?_) AllReadyH.nil)
  go_simp
  go_at_call 178
  refine (lay_any _ (w.heap.size + 1 + 1) 20 4 40 301 _ hd v10.1 v10.2 (by omega) D6.r3 (by simp [zz_len, num_len])).mono ?_
  rintro e w8 ⟨rfl, hr, hk⟩
  rw [lay_next ([76, 68, 71, 49, wd, 0, 0, 0] ++ num ge 8 ++ num ma 4) 20 4 36 (num hd 4) (by simp [num_len]) (num_len _ _)] at hr
  have L5 := D6.keeps hk hr
  clear hr hk
  go_wp2_with fail
  refine hK.out _ _ (L5.cell.2.2.2.1) (fun hHeld2 => ?_)
  clear hK K hHeld
  have hHeld := hHeld2
  clear hHeld2
  try simp only [Act.put, List.setIfInBounds_toArray, List.set_cons_zero, List.set_cons_succ]
  refine wpAnyH_done (by kernel_rfl) ?_ _
  refine NoPanic.normal ?_
  clear hHeld D6 c6 L4
  have D7 := L5.drew
  have c7 := D7.cell
  simp only at c7
  go_wp2_with fail
  refine wp_region_noPanic ?_
  refine wp_region_held_drew (S := fun w' => w'.cell? ⟨w.heap.size, 4, none⟩ = some (.int .i64 pg)) (by kernel_rfl) c7.2.2.2.2 (fun hHeld => ?_)
  refine wpAnyH_take (i := 0) (oi := { dst := some 22, op := Op.slice 301 (Operand.tmp 3) (some (Operand.const (Value.int IntKind.i64 24))) (some (Operand.const (Value.int IntKind.i64 28))) none, type := 45, pos := "super.go:112", after := #[], guard := none }) (v := .slice (some ⟨w.heap.size + 1 + 1, 24, none⟩) 4 36) rfl (by kernel_rfl) (by kernel_rfl) (by kernel_rfl) (fun _ _ _ h => h) (Or.inl ⟨by rfl, by intro w hS; go_simp⟩) hHeld ?_
  try simp only [Act.put, List.setIfInBounds_toArray, List.set_cons_zero, List.set_cons_succ]
  refine wpAnyH_take (i := 1) (oi := { dst := some 23, op := Op.fieldAddr 99 (Operand.tmp 1) 4, type := 0, pos := "super.go:112", after := #[], guard := none }) (v := .pointer (some ⟨w.heap.size, 4, none⟩)) rfl (by kernel_rfl) (by kernel_rfl) (by kernel_rfl) (fun _ _ _ h => h) (Or.inl ⟨by rfl, by intro w hS; go_simp⟩) hHeld ?_
  try simp only [Act.put, List.setIfInBounds_toArray, List.set_cons_zero, List.set_cons_succ]
  refine wpAnyH_take (i := 2) (oi := { dst := some 24, op := Op.load 3 (Operand.tmp 23), type := 3, pos := "super.go:112", after := #[{ on := 1, ground := Ground.data }], guard := none }) (v := .int .i64 pg) rfl (by kernel_rfl) (by kernel_rfl) (by kernel_rfl) (fun _ _ _ h => h) (Or.inl ⟨by rfl, by intro w hS; have hc := hS; go_simp⟩) hHeld ?_
  try simp only [Act.put, List.setIfInBounds_toArray, List.set_cons_zero, List.set_cons_succ]
  refine wpAnyH_ready (rs := [3]) (by kernel_rfl) (by simp) ?_
  refine (AllReadyH.cons (o := { dst := some 25, op := Op.call { callee := Callee.value (Operand.func 178), args := #[Operand.tmp 22, Operand.tmp 24], argTypes := #[45, 3] }, type := 0, pos := "super.go:112", after := #[{ on := 0, ground := Ground.data }, { on := 2, ground := Ground.data }], guard := none }) rfl (fun K hK => ?_) AllReadyH.nil)
  go_simp
  go_at_call 178
  refine (lay_any _ (w.heap.size + 1 + 1) 24 4 36 301 _ pg v13.1 v13.2 (by omega) D7.r3 (by simp [zz_len, num_len])).mono ?_
  rintro e w9 ⟨rfl, hr, hk⟩
  rw [lay_next ([76, 68, 71, 49, wd, 0, 0, 0] ++ num ge 8 ++ num ma 4 ++ num hd 4) 24 4 32 (num pg 4) (by simp [num_len]) (num_len _ _)] at hr
  have L6 := D7.keeps hk hr
  clear hr hk
  go_wp2_with fail
  refine hK.out _ _ (L6.cell.2.2.2.2) (fun hHeld2 => ?_)
  clear hK K hHeld
  have hHeld := hHeld2
  clear hHeld2
  try simp only [Act.put, List.setIfInBounds_toArray, List.set_cons_zero, List.set_cons_succ]
  refine wpAnyH_done (by kernel_rfl) ?_ _
  refine NoPanic.normal ?_
  clear hHeld D7 c7 L5
  rw [show ([76, 68, 71, 49, wd, 0, 0, 0] ++ num ge 8 ++ num ma 4 ++ num hd 4 ++ num pg 4 ++ zz 32 : List Int) = bodyS ⟨wd, ge, ma, hd, pg⟩ from rfl] at L6
  have hbl := bodyS_len ⟨wd, ge, ma, hd, pg⟩
  have hb8 := bodyS_byts _ HV.out
  have hs := seal_any w9 (bodyS ⟨wd, ge, ma, hd, pg⟩) hb8 (some ⟨w.heap.size + 1 + 1, 0, none⟩) 60 (src_rowf L6.r3 60 (by omega) (by decide)) (by omega)
  rw [hbl] at hs
  go_wp2_with fail
  refine hs.mono ?_
  rintro e w10 ⟨rfl, hr, hB⟩
  have R2 := hbel hB L6.r2 (hlt L6.r2)
  have BL := L6.bl.trans (hB.mono L6.bl.size)
  have hne : w9.heap.size ≠ w.heap.size + 1 := by have := hlt L6.r2; omega
  clear hs hB L6 hbl hb8
  have hr' : w10.heap[w9.heap.size]? = some (.cells (ints .u8 (secS ⟨wd, ge, ma, hd, pg⟩)).toArray 5 (0, 0)) := hr
  clear hr
  have hsl := secS_len ⟨wd, ge, ma, hd, pg⟩
  generalize hsec : secS ⟨wd, ge, ma, hd, pg⟩ = sec at *
  replace hsec := hid hsec
  have K3 := hid (show (Tryz.prog.info? 273).map (·.size) = some (ints .u8 sec).toArray.size by rw [size_sector, ints_size, hsl])
  have K4 := hid (show (ints .u8 (zz 64)).toArray.size = (ints .u8 sec).toArray.size by rw [ints_size, ints_size, hsl, zz_len])
  have ho := hid (all_oneCell_toArray (ints_one .u8 sec))
  have hat : ∀ w, (Instr.arrayAt 273 (.slice (some ⟨w9.heap.size, 0, none⟩) 64 64)).run Tryz.prog w = .ok (.pointer (some ⟨w9.heap.size, 0, none⟩)) w := fun w => run_arrayAt w 273 _ 64 _ 64 64 Tryz.underlying273 (Nat.le_refl _)
  replace hsl := hid hsl
  go_wp2_with (first
    | (refine wpList_load_row_w rfl 273 (.tmp 28) rfl w9.heap.size rfl 5 (ints .u8 sec).toArray (0, 0) _ hr' Tryz.underlying273 rfl K3.out ?_)
    | (refine wpList_store_row rfl 273 (.tmp 2) (.tmp 29) rfl (w.heap.size + 1) (ints .u8 sec).toArray rfl rfl 273 _ R2 K3.out K4.out ho.out ?_; have R3 := setRow_heap w10 _ _ (ints .u8 sec).toArray _ _ R2; have BF := below_setRow BL (show w.heap.size ≤ w.heap.size + 1 by omega) (ints .u8 sec).toArray))
  exact bodyPost_ret (v := .agg (ints .u8 sec).toArray) (results_cell_row Tryz.results145 _ _ (w.heap.size + 1) 273 _ _ _ rfl R3 Tryz.underlying273 rfl K3.out) rfl ⟨by rw [hsec.out], BF⟩
end Go.Proofs.YtjpcegjgandnjaaGreatDoor
namespace Go.Proofs.YtjpcegjgandnjaaGreatDoor
set_option linter.unusedVariables false
set_option linter.unusedSimpArgs false
open Go.RowKit
attribute [local go_sem ↓] Go.wp_at_zero Go.wp_at_succ

theorem step_store {P : Program} {ops : Array Oper} {o : Oper} {a : Act} {w : World} {K : Act → World → Prop} {Q : Exit → Act → World → Prop} {E : Prop} (hw : Region.wanted o (yielded ops a.tmps) = true) (ty : TypeId) (x y : Operand) (ho : o.op = .store ty x y)
    (g : Nat) (cells : Array Value) (hx : a.eval x = .pointer (some ⟨g, 0, none⟩)) (hy : a.eval y = .agg cells)
    (t : TypeId) (old : Array Value) (hg : w.heap[g]? = some (.cells old t (0, 0))) (hi : (P.info? ty).map (·.size) = some cells.size)
    (hold : old.size = cells.size) (h1 : cells.all (·.oneCell') = true)
    (h : K (a.put o.dst undef) (w.setRow g cells)) : if Region.wanted o (yielded ops a.tmps) = true then Oper.wp P o a w K Q else E := by
  rw [if_pos hw]
  exact wp_store_row ty x y ho g cells hx hy t old hg hi hold h1 h
theorem Src.range {w : World} {b o cap : Nat} {r : List Int} (h : Src w (some ⟨b, o, none⟩) cap r) (n : Nat) (hn : n ≤ r.length) (hp : 0 < n) : b < w.heap.size ∧ w.rangeAt b o (ints .u8 (r.take n)) := by
  obtain ⟨h1, h2, b', o', h3, h4, h5⟩ := h
  have he := h4 (by omega)
  cases he
  refine ⟨h3 (by omega), fun j v hv => ?_⟩
  have hj : j < n := by have := (List.getElem?_eq_some_iff.1 hv).1; rw [ints_len, List.length_take] at this; omega
  rw [ints_get _ _ j (by rw [List.length_take]; omega)] at hv
  cases hv
  rw [h5 j (by omega), List.getD_eq_getElem?_getD, List.getD_eq_getElem?_getD, List.getElem?_take, if_pos hj]
set_option maxRecDepth 100000 in
set_option maxHeartbeats 1000000 in
theorem firstSector_any (w : World) (r : List Int) (n cap : Nat) (sp : Option Addr) (hn : 64 ≤ n) (hl : n = r.length) (hS : Src w sp cap r) :
    Calls Tryz.prog 175 #[.slice sp n cap] w fun e w' => e = .returned (.agg (ints .u8 (r.take 64)).toArray) ∧ Below w.heap.size w w' := by
  have hS' := hS
  obtain ⟨hc, hm, b, o, hb, hsp, hsrc⟩ := hS
  obtain rfl := hsp (by omega)
  obtain ⟨hb, hrg⟩ := hS'.range 64 (by omega) (by omega)
  have i1 : (64 : Int) ≤ (cap : Int) := by omega
  have i2 : 64 ≤ cap := by omega
  have hlen : (r.take 64).length = 64 := by rw [List.length_take]; omega
  clear hsrc hsp hl
  generalize hsec : r.take 64 = sec at *
  replace hsec := hid hsec
  have K3 := hid (show (Tryz.prog.info? 273).map (·.size) = some (ints .u8 sec).toArray.size by rw [size_sector, ints_size, hlen])
  have K3' := hid (show (Tryz.prog.info? 273).map (·.size) = some (ints .u8 sec).length by rw [size_sector, ints_len, hlen])
  have K4 := hid (show (ints .u8 (zz 64)).toArray.size = (ints .u8 sec).toArray.size by rw [ints_size, ints_size, hlen, zz_len])
  have ho := hid (all_oneCell_toArray (ints_one .u8 sec))
  have hat : ∀ w, (Instr.arrayAt 273 (.slice (some ⟨b, o, none⟩) 64 cap)).run Tryz.prog w = .ok (.pointer (some ⟨b, o, none⟩)) w := fun w => run_arrayAt w 273 _ 64 _ 64 cap Tryz.underlying273 (Nat.le_refl _)
  have r1 := hnew w (.cells (ints .u8 (zz 64)).toArray 273)
  have b1 := below_new w (.cells (ints .u8 (zz 64)).toArray 273)
  have HR := hid (rng_below hrg b1 hb)
  replace hlen := hid hlen
  clear hrg
  go_enter Tryz.func175, Tryz.ntmps175
  go_wp2_with (first
    | (refine wpList_alloc64 rfl rfl ?_; generalize w.alloc (.cells (ints .u8 (zz 64)).toArray 273) = w1 at *)
    | (refine wpList_load_mid_w rfl 273 (.tmp 5) rfl b o rfl (ints .u8 sec) _ HR.out Tryz.underlying273 rfl K3'.out ?_)
    | (refine wpList_store_row rfl 273 (.tmp 2) (.tmp 6) rfl w.heap.size (ints .u8 sec).toArray rfl rfl 273 _ r1 K3.out K4.out ho.out ?_; have R3 := setRow_heap w1 _ _ (ints .u8 sec).toArray _ _ r1; have BF := below_setRow b1 (Nat.le_refl _) (ints .u8 sec).toArray))
  exact bodyPost_ret (v := .agg (ints .u8 sec).toArray) (results_cell_row Tryz.results175 _ _ w.heap.size 273 _ _ _ rfl R3 Tryz.underlying273 rfl K3.out) rfl ⟨by first | rfl | rw [hsec.out], BF⟩
theorem rd_part (w : World) (sec : List Int) (h8 : Byts sec) (hl : sec.length = 64) (at' n : Nat) (ha : at' + n ≤ 64) (hn : n ≤ 8) (w1 : World) (hr : w1.heap[w.heap.size]? = some (.cells (ints .u8 sec).toArray 273 (0, 0))) :
    ∀ w', Below w1.heap.size w1 w' → Calls Tryz.prog 149 #[.slice (some ⟨w.heap.size, at', none⟩) n (64 - at')] w' fun e w'' => e = .returned (.int .i64 (IntKind.i64.wrap (le ((sec.drop at').take n)))) ∧ Below w'.heap.size w' w'' := by
  intro w' hB
  have hr' := hbel hB hr (hlt hr)
  have hs := src_rowf hr' 64 (by omega) (by decide)
  have hm := hs.mid at' n (by omega) (hlt hr') (64 - at') (by omega) (by simp [maxLen]; omega)
  rw [Nat.zero_add] at hm
  have := read_any w' ((sec.drop at').take n) ((h8.drop at').take n) (by rw [List.length_take]; omega) _ _ hm
  rwa [show ((sec.drop at').take n).length = n by simp; omega] at this
set_option maxRecDepth 100000 in
set_option maxHeartbeats 1000000 in
theorem readSuper_any (w : World) (sec : List Int) (h8 : Byts sec) (hl : sec.length = 64) :
    Calls Tryz.prog 176 #[.agg (ints .u8 sec).toArray] w fun e w' => e = .returned (.agg (supC (readS sec))) ∧ Below w.heap.size w w' := by
  have r1 := hnew w (.cells (ints .u8 sec).toArray 273)
  obtain ⟨x4, hx4⟩ : ∃ x, x = sec.getD 4 0 := ⟨_, rfl⟩
  obtain ⟨n0, hn0⟩ : ∃ x, x = IntKind.i64.wrap (le ((sec.drop 8).take 8)) := ⟨_, rfl⟩
  obtain ⟨n1, hn1⟩ : ∃ x, x = IntKind.i64.wrap (le ((sec.drop 16).take 4)) := ⟨_, rfl⟩
  obtain ⟨n2, hn2⟩ : ∃ x, x = IntKind.i64.wrap (le ((sec.drop 20).take 4)) := ⟨_, rfl⟩
  obtain ⟨n3, hn3⟩ : ∃ x, x = IntKind.i64.wrap (le ((sec.drop 24).take 4)) := ⟨_, rfl⟩
  have w4 : ∀ k, k + 4 ≤ 64 → IntKind.i64.wrap (le ((sec.drop k).take 4)) = (le ((sec.drop k).take 4) : Int) := fun k hk => by
    have h := le_lt ((sec.drop k).take 4) ((h8.drop k).take 4)
    rw [show ((sec.drop k).take 4).length = 4 by simp; omega] at h
    exact wrap_i64_id _ (by omega) (by omega)
  have HE := hid (show (Ending.returned (.agg #[.int .i64 x4, .int .i64 n0, .int .i64 n1, .int .i64 n2, .int .i64 n3])) = .returned (.agg (supC (readS sec))) by
    rw [hx4, hn0, hn1, hn2, hn3, w4 16 (by omega), w4 20 (by omega), w4 24 (by omega)]; rfl)
  obtain ⟨w2, hw2⟩ : ∃ w2, (w.alloc (.cells (ints .u8 sec).toArray 273)).alloc (.cells #[.int .i64 0, .int .i64 0, .int .i64 0, .int .i64 0, .int .i64 0] 99) = w2 := ⟨_, rfl⟩
  have q1 : w2.heap[w.heap.size]? = some (.cells (ints .u8 sec).toArray 273 (0, 0)) := by rw [← hw2]; exact hold r1
  have q2 : w2.heap[w.heap.size + 1]? = some (.cells #[.int .i64 0, .int .i64 0, .int .i64 0, .int .i64 0, .int .i64 0] 99 (0, 0)) := by rw [← hw2]; exact (by simpa using hnew (w.alloc (.cells (ints .u8 sec).toArray 273)) (.cells #[.int .i64 0, .int .i64 0, .int .i64 0, .int .i64 0, .int .i64 0] 99))
  have B2 : Below w.heap.size w w2 := by rw [← hw2]; exact (below_new w _).alloc (by simp) _
  have R0 := hid (rd_part w sec h8 hl 8 8 (by omega) (by omega) w2 q1)
  have R1 := hid (rd_part w sec h8 hl 16 4 (by omega) (by omega) w2 q1)
  have R2 := hid (rd_part w sec h8 hl 20 4 (by omega) (by omega) w2 q1)
  have R3 := hid (rd_part w sec h8 hl 24 4 (by omega) (by omega) w2 q1)
  rw [← hn0] at R0
  rw [← hn1] at R1
  rw [← hn2] at R2
  rw [← hn3] at R3
  have hs2 : w2.heap.size = w.heap.size + 2 := by rw [← hw2]; simp
  have HS2 := hid (show w.heap.size + 1 ≤ w2.heap.size by omega)
  have HC := hid (fun (w' : World) (hB : Below w2.heap.size w2 w') => show w'.cell? ⟨w.heap.size, 4, none⟩ = some (.int .u8 x4) by
    rw [hx4]; exact cell_ints (hbel hB q1 (by omega)) 4 (by omega))
  have HC7 := hid (fun (w' : World) (hB : Below (w.heap.size + 1) w2 w') => show w'.cell? ⟨w.heap.size, 4, none⟩ = some (.int .u8 x4) by
    rw [hx4]; exact cell_ints (hbel hB q1 (by omega)) 4 (by omega))
  have HR := hid (fun (w' : World) (hB : Below w2.heap.size w2 w') => show w'.heap[w.heap.size + 1]? = some (.cells #[.int .i64 0, .int .i64 0, .int .i64 0, .int .i64 0, .int .i64 0] 99 (0, 0)) from hbel hB q2 (by omega))
  have HB := hid (fun (w' : World) (hB : Below (w.heap.size + 1) w2 w') => show Below w.heap.size w w' from B2.trans (hB.mono (by omega)))
  have hx : 0 ≤ x4 ∧ x4 < 256 := by
    rw [hx4, List.getD_eq_getElem?_getD, List.getElem?_eq_getElem (by omega)]; exact h8 _ (List.getElem_mem _)
  clear hx4 hn0 hn1 hn2 hn3 w4 r1 q1 q2 B2 hs2
  have b2 : Below w2.heap.size w2 w2.drew := (Below.refl _ _).drew
  go_enter Tryz.func176, Tryz.ntmps176
  go_wp2_with fail
  try rw [hw2]
  refine wp_region_noPanic ?_
  refine wp_region_held_drew (S := fun w' => w'.cell? ⟨w.heap.size, 4, none⟩ = some (.int .u8 x4)) (by kernel_rfl) (HC.out _ b2) (fun hHeld => ?_)
  refine wpAnyH_take (i := 0) (oi := { dst := some 3, op := Op.indexAddr 273 (Operand.tmp 1) (Operand.const (Value.int IntKind.i64 4)), type := 0, pos := "super.go:118", after := #[], guard := none }) (v := .pointer (some ⟨w.heap.size, 4, none⟩)) rfl (by kernel_rfl) (by kernel_rfl) (by kernel_rfl) (fun _ _ _ h => h) (Or.inl ⟨by rfl, by intro w hS; go_simp⟩) hHeld ?_
  try simp only [Act.put, List.setIfInBounds_toArray, List.set_cons_zero, List.set_cons_succ]
  refine wpAnyH_take (i := 3) (oi := { dst := some 6, op := Op.slice 273 (Operand.tmp 1) (some (Operand.const (Value.int IntKind.i64 8))) (some (Operand.const (Value.int IntKind.i64 16))) none, type := 45, pos := "super.go:118", after := #[], guard := none }) (v := .slice (some ⟨w.heap.size, 8, none⟩) 8 56) rfl (by kernel_rfl) (by kernel_rfl) (by kernel_rfl) (fun _ _ _ h => h) (Or.inl ⟨by rfl, by intro w hS; go_simp⟩) hHeld ?_
  try simp only [Act.put, List.setIfInBounds_toArray, List.set_cons_zero, List.set_cons_succ]
  refine wpAnyH_take (i := 5) (oi := { dst := some 8, op := Op.slice 273 (Operand.tmp 1) (some (Operand.const (Value.int IntKind.i64 16))) (some (Operand.const (Value.int IntKind.i64 20))) none, type := 45, pos := "super.go:118", after := #[], guard := none }) (v := .slice (some ⟨w.heap.size, 16, none⟩) 4 48) rfl (by kernel_rfl) (by kernel_rfl) (by kernel_rfl) (fun _ _ _ h => h) (Or.inl ⟨by rfl, by intro w hS; go_simp⟩) hHeld ?_
  try simp only [Act.put, List.setIfInBounds_toArray, List.set_cons_zero, List.set_cons_succ]
  refine wpAnyH_take (i := 7) (oi := { dst := some 10, op := Op.slice 273 (Operand.tmp 1) (some (Operand.const (Value.int IntKind.i64 20))) (some (Operand.const (Value.int IntKind.i64 24))) none, type := 45, pos := "super.go:118", after := #[], guard := none }) (v := .slice (some ⟨w.heap.size, 20, none⟩) 4 44) rfl (by kernel_rfl) (by kernel_rfl) (by kernel_rfl) (fun _ _ _ h => h) (Or.inl ⟨by rfl, by intro w hS; go_simp⟩) hHeld ?_
  try simp only [Act.put, List.setIfInBounds_toArray, List.set_cons_zero, List.set_cons_succ]
  refine wpAnyH_take (i := 9) (oi := { dst := some 12, op := Op.slice 273 (Operand.tmp 1) (some (Operand.const (Value.int IntKind.i64 24))) (some (Operand.const (Value.int IntKind.i64 28))) none, type := 45, pos := "super.go:118", after := #[], guard := none }) (v := .slice (some ⟨w.heap.size, 24, none⟩) 4 40) rfl (by kernel_rfl) (by kernel_rfl) (by kernel_rfl) (fun _ _ _ h => h) (Or.inl ⟨by rfl, by intro w hS; go_simp⟩) hHeld ?_
  try simp only [Act.put, List.setIfInBounds_toArray, List.set_cons_zero, List.set_cons_succ]
  refine wpAnyH_take (i := 1) (oi := { dst := some 4, op := Op.load 5 (Operand.tmp 3), type := 5, pos := "super.go:118", after := #[{ on := 0, ground := Ground.data }], guard := none }) (v := .int .u8 x4) rfl (by kernel_rfl) (by kernel_rfl) (by kernel_rfl) (fun _ _ _ h => h) (Or.inl ⟨by rfl, by intro w hS; have hc := hS; go_simp⟩) hHeld ?_
  try simp only [Act.put, List.setIfInBounds_toArray, List.set_cons_zero, List.set_cons_succ]
  refine wpAnyH_take (i := 2) (oi := { dst := some 5, op := Op.convert 5 3 (Operand.tmp 4), type := 3, pos := "super.go:118", after := #[{ on := 1, ground := Ground.data }], guard := none }) (v := .int .i64 x4) rfl (by kernel_rfl) (by kernel_rfl) (by kernel_rfl) (fun _ _ _ h => h) (Or.inl ⟨by rfl, by intro w hS; go_simp; exact wrap_i64_id x4 (by omega) (by omega)⟩) hHeld ?_
  try simp only [Act.put, List.setIfInBounds_toArray, List.set_cons_zero, List.set_cons_succ]
  refine wpAnyH_ready (rs := [4]) (by kernel_rfl) (by simp) ?_
  refine (AllReadyH.cons (o := { dst := some 7, op := Op.call { callee := Callee.value (Operand.func 149), args := #[Operand.tmp 6], argTypes := #[45] }, type := 3, pos := "super.go:120", after := #[{ on := 3, ground := Ground.data }], guard := none }) rfl (fun K hK => ?_) AllReadyH.nil)
  go_simp
  go_at_call 149
  refine (R0.out _ b2).mono ?_
  rintro e w3 ⟨rfl, bb3⟩
  have b3 := b2.trans (bb3.mono b2.size)
  go_wp2_with fail
  refine hK.out _ _ (HC.out _ b3) (fun hHeld2 => ?_)
  clear hK K hHeld
  have hHeld := hHeld2
  clear hHeld2
  try simp only [Act.put, List.setIfInBounds_toArray, List.set_cons_zero, List.set_cons_succ]
  refine wpAnyH_ready (rs := [6]) (by kernel_rfl) (by simp) ?_
  refine (AllReadyH.cons (o := { dst := some 9, op := Op.call { callee := Callee.value (Operand.func 149), args := #[Operand.tmp 8], argTypes := #[45] }, type := 3, pos := "super.go:121", after := #[{ on := 5, ground := Ground.data }, { on := 4, ground := Ground.chain }], guard := none }) rfl (fun K hK => ?_) AllReadyH.nil)
  go_simp
  go_at_call 149
  refine (R1.out _ b3).mono ?_
  rintro e w4 ⟨rfl, bb4⟩
  have b4 := b3.trans (bb4.mono b3.size)
  go_wp2_with fail
  refine hK.out _ _ (HC.out _ b4) (fun hHeld2 => ?_)
  clear hK K hHeld
  have hHeld := hHeld2
  clear hHeld2
  try simp only [Act.put, List.setIfInBounds_toArray, List.set_cons_zero, List.set_cons_succ]
  refine wpAnyH_ready (rs := [8]) (by kernel_rfl) (by simp) ?_
  refine (AllReadyH.cons (o := { dst := some 11, op := Op.call { callee := Callee.value (Operand.func 149), args := #[Operand.tmp 10], argTypes := #[45] }, type := 3, pos := "super.go:122", after := #[{ on := 7, ground := Ground.data }, { on := 6, ground := Ground.chain }], guard := none }) rfl (fun K hK => ?_) AllReadyH.nil)
  go_simp
  go_at_call 149
  refine (R2.out _ b4).mono ?_
  rintro e w5 ⟨rfl, bb5⟩
  have b5 := b4.trans (bb5.mono b4.size)
  go_wp2_with fail
  refine hK.out _ _ (HC.out _ b5) (fun hHeld2 => ?_)
  clear hK K hHeld
  have hHeld := hHeld2
  clear hHeld2
  try simp only [Act.put, List.setIfInBounds_toArray, List.set_cons_zero, List.set_cons_succ]
  refine wpAnyH_ready (rs := [10]) (by kernel_rfl) (by simp) ?_
  refine (AllReadyH.cons (o := { dst := some 13, op := Op.call { callee := Callee.value (Operand.func 149), args := #[Operand.tmp 12], argTypes := #[45] }, type := 3, pos := "super.go:123", after := #[{ on := 9, ground := Ground.data }, { on := 8, ground := Ground.chain }], guard := none }) rfl (fun K hK => ?_) AllReadyH.nil)
  go_simp
  go_at_call 149
  refine (R3.out _ b5).mono ?_
  rintro e w6 ⟨rfl, bb6⟩
  have b6 := b5.trans (bb6.mono b5.size)
  go_wp2_with fail
  refine hK.out _ _ (HC.out _ b6) (fun hHeld2 => ?_)
  clear hK K hHeld
  have hHeld := hHeld2
  clear hHeld2
  try simp only [Act.put, List.setIfInBounds_toArray, List.set_cons_zero, List.set_cons_succ]
  refine wpAnyH_take (i := 11) (oi := { dst := some 14, op := Op.build 99 #[(0, Operand.tmp 5), (1, Operand.tmp 7), (2, Operand.tmp 9), (3, Operand.tmp 11), (4, Operand.tmp 13)], type := 99, pos := "super.go:118", after := #[{ on := 2, ground := Ground.data }, { on := 4, ground := Ground.data }, { on := 6, ground := Ground.data }, { on := 8, ground := Ground.data }, { on := 10, ground := Ground.data }], guard := none }) (v := .agg #[.int .i64 x4, .int .i64 n0, .int .i64 n1, .int .i64 n2, .int .i64 n3]) rfl (by kernel_rfl) (by kernel_rfl) (by kernel_rfl) (fun _ _ _ h => h) (Or.inl ⟨by rfl, by intro w hS; go_simp⟩) hHeld ?_
  try simp only [Act.put, List.setIfInBounds_toArray, List.set_cons_zero, List.set_cons_succ]
  refine wpAnyH_ready (rs := [12]) (by kernel_rfl) (by simp) ?_
  refine (AllReadyH.cons (o := { dst := none, op := Op.store 99 (Operand.tmp 2) (Operand.tmp 14), type := 0, pos := "super.go:118", after := #[{ on := 11, ground := Ground.data }, { on := 10, ground := Ground.chain }, { on := 0, ground := Ground.phase }, { on := 1, ground := Ground.phase }, { on := 2, ground := Ground.phase }, { on := 3, ground := Ground.phase }, { on := 4, ground := Ground.phase }, { on := 5, ground := Ground.phase }, { on := 6, ground := Ground.phase }, { on := 7, ground := Ground.phase }, { on := 8, ground := Ground.phase }, { on := 9, ground := Ground.phase }, { on := 10, ground := Ground.phase }, { on := 11, ground := Ground.phase }], guard := none }) rfl (fun K hK => ?_) AllReadyH.nil)
  refine step_store (by rfl) 99 (.tmp 2) (.tmp 14) rfl (w.heap.size + 1) _ rfl rfl 99 _ (HR.out _ b6) (by rw [size_super]; rfl) rfl (by simp [Value.oneCell']) ?_
  have b7 := below_setRow (b6.mono HS2.out) (Nat.le_refl _) #[.int .i64 x4, .int .i64 n0, .int .i64 n1, .int .i64 n2, .int .i64 n3]
  have r7 := setRow_heap w6 _ _ #[.int .i64 x4, .int .i64 n0, .int .i64 n1, .int .i64 n2, .int .i64 n3] _ _ (HR.out _ b6)
  refine hK.out _ _ (HC7.out _ b7) (fun hHeld2 => ?_)
  clear hK K hHeld
  have hHeld := hHeld2
  clear hHeld2
  try simp only [Act.put, List.setIfInBounds_toArray, List.set_cons_zero, List.set_cons_succ]
  refine wpAnyH_done (by kernel_rfl) ?_ _
  refine NoPanic.normal ?_
  clear hHeld
  go_wp2_with fail
  exact bodyPost_ret (v := .agg #[.int .i64 x4, .int .i64 n0, .int .i64 n1, .int .i64 n2, .int .i64 n3]) (results_cell_row Tryz.results176 _ _ (w.heap.size + 1) 99 _ _ _ rfl r7 Tryz.underlying99 rfl (by rw [size_super]; rfl)) rfl ⟨HE.out, HB.out _ b7⟩
end Go.Proofs.YtjpcegjgandnjaaGreatDoor
