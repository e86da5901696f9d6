import Derived.Test.YtbjahdbmkcamoaaGreatDoorClB
namespace Go.Proofs.YtbjahdbmkcamoaaGreatDoor
set_option linter.unusedVariables false
set_option linter.unusedSimpArgs false
open Go.RowKit
attribute [local go_sem ↓] Go.wp_at_zero Go.wp_at_succ

theorem Tryz.sizeTm : (Tryz.prog.info? 57).map (·.size) = some 34 := by kernel_rfl
theorem Tryz.sizeCk : (Tryz.prog.info? 64).map (·.size) = some 103 := by kernel_rfl
theorem BK.setO {w0 w : World} {L : List (Nat × List Value × Nat)} (h : BK w0 w L) {b : Nat} (hb : w0.heap.size ≤ b) (hL : ∀ x, x ∈ L → x.1 ≠ b) (ys : Array Value) : BK w0 (w.setRow b ys) L :=
  ⟨below_setRow h.1 hb _, fun x hx => (setRow_other _ _ _ _ (hL x hx)).trans (h.2 x hx)⟩
/-! Terms: 34 cells; a check: 103. -/
def tmC (k : Int) (root : List Int) (e : Value) : List Value := [.int .i64 k] ++ (ints .u8 root ++ [e])
theorem tmC_len {k : Int} {root : List Int} {e : Value} (h : root.length = 32) : (tmC k root e).length = 34 := by simp [tmC, ints_len, h]
theorem tmC_one {k : Int} {root : List Int} {e : Value} (he : e.oneCell' = true) : ∀ v ∈ tmC k root e, v.oneCell' = true := fun v hv => by
  simp only [tmC, List.mem_append, List.mem_cons, List.not_mem_nil, or_false] at hv
  rcases hv with rfl | hv | rfl
  · rfl
  · exact ints_one _ _ v hv
  · exact he
theorem tmC_root {k : Int} {root : List Int} {e : Value} (j : Nat) (x : Value) (hx : (ints .u8 root)[j]? = some x) : (tmC k root e)[1 + j]? = some x := mid_at _ _ _ 1 j rfl x hx
theorem tmC_e {k : Int} {root : List Int} {e : Value} (h : root.length = 32) : (tmC k root e)[33]? = some e := by
  have := mid_at ([.int .i64 k] ++ ints .u8 root) [e] [] 33 0 (by simp [ints_len, h]) e rfl
  rw [List.append_nil, List.append_assoc] at this; exact this
def ckA (k : Int) (root ks : List Int) (e r : Value) : List Value := tmC k root e ++ (ints .u8 ks ++ [r])
theorem ckA_len {k : Int} {root ks : List Int} {e r : Value} (h : root.length = 32) (hk : ks.length = 32) : (ckA k root ks e r).length = 67 := by simp [ckA, tmC_len h, ints_len, hk]
def ckC (k : Int) (root ks : List Int) (e r : Value) (pc : List Value) (b : Value) : List Value := ckA k root ks e r ++ (pc ++ [b])
theorem ckC_len {k : Int} {root ks : List Int} {e r b : Value} {pc : List Value} (h : root.length = 32) (hk : ks.length = 32) (hp : pc.length = 35) : (ckC k root ks e r pc b).length = 103 := by simp [ckC, ckA_len h hk, hp]
theorem ckC_tm {k : Int} {root ks : List Int} {e r b : Value} {pc : List Value} (j : Nat) (x : Value) (hx : (tmC k root e)[j]? = some x) : (ckC k root ks e r pc b)[0 + j]? = some x := by
  have hj := (List.getElem?_eq_some_iff.1 hx).1
  unfold ckC ckA
  rw [Nat.zero_add, List.append_assoc, List.getElem?_append_left hj]; exact hx
theorem ckC_k {k : Int} {root ks : List Int} {e r b : Value} {pc : List Value} : (ckC k root ks e r pc b)[0]? = some (.int .i64 k) := ckC_tm 0 _ rfl
theorem ckC_root {k : Int} {root ks : List Int} {e r b : Value} {pc : List Value} (j : Nat) (x : Value) (hx : (ints .u8 root)[j]? = some x) : (ckC k root ks e r pc b)[1 + j]? = some x := by
  have := ckC_tm (k := k) (root := root) (ks := ks) (e := e) (r := r) (b := b) (pc := pc) (1 + j) x (tmC_root j x hx)
  rwa [Nat.zero_add] at this
theorem ckC_e {k : Int} {root ks : List Int} {e r b : Value} {pc : List Value} (h : root.length = 32) : (ckC k root ks e r pc b)[33]? = some e := ckC_tm 33 _ (tmC_e h)
theorem ckC_key {k : Int} {root ks : List Int} {e r b : Value} {pc : List Value} (h : root.length = 32) (j : Nat) (x : Value) (hx : (ints .u8 ks)[j]? = some x) : (ckC k root ks e r pc b)[34 + j]? = some x := by
  unfold ckC ckA
  rw [List.append_assoc, List.append_assoc]
  exact mid_at _ _ _ 34 j (tmC_len h) x hx
theorem ckC_r {k : Int} {root ks : List Int} {e r b : Value} {pc : List Value} (h : root.length = 32) (hk : ks.length = 32) : (ckC k root ks e r pc b)[66]? = some r := by
  have := mid_at (tmC k root e ++ ints .u8 ks) [r] (pc ++ [b]) 66 0 (by simp [tmC_len h, ints_len, hk]) r rfl
  unfold ckC ckA
  rw [List.append_assoc, List.append_assoc]
  rwa [List.append_assoc] at this
theorem ckC_p {k : Int} {root ks : List Int} {e r b : Value} {pc : List Value} (h : root.length = 32) (hk : ks.length = 32) (j : Nat) (x : Value) (hx : pc[j]? = some x) : (ckC k root ks e r pc b)[67 + j]? = some x := mid_at _ _ _ 67 j (ckA_len h hk) x hx
theorem ckC_b {k : Int} {root ks : List Int} {e r b : Value} {pc : List Value} (h : root.length = 32) (hk : ks.length = 32) (hp : pc.length = 35) : (ckC k root ks e r pc b)[102]? = some b := by
  have := mid_at (ckA k root ks e r ++ pc) [b] [] 102 0 (by simp [ckA_len h hk, hp]) b rfl
  unfold ckC
  rwa [List.append_nil, List.append_assoc] at this
theorem ckC_one {k : Int} {root ks : List Int} {e r b : Value} {pc : List Value} (he : e.oneCell' = true) (hr : r.oneCell' = true) (hb : b.oneCell' = true) (hp : ∀ v ∈ pc, v.oneCell' = true) : ∀ v ∈ ckC k root ks e r pc b, v.oneCell' = true := fun v hv => by
  simp only [ckC, ckA, List.mem_append, List.mem_cons, List.not_mem_nil, or_false] at hv
  rcases hv with (hv | hv | rfl) | hv | rfl
  · exact tmC_one he v hv
  · exact ints_one _ _ v hv
  · exact hr
  · exact hp v hv
  · exact hb
theorem ckC_setp {k : Int} {root ks : List Int} {e r b : Value} {pc qc : List Value} (h : root.length = 32) (hk : ks.length = 32) (hp : pc.length = 35) (hq : qc.length = 35) : (ckC k root ks e r pc b).take 67 ++ qc ++ (ckC k root ks e r pc b).drop (67 + qc.length) = ckC k root ks e r qc b := by
  have hA := ckA_len (k := k) (e := e) (r := r) h hk
  unfold ckC
  rw [List.take_append_of_le_length (by omega), List.take_of_length_le (by omega), List.drop_append, List.drop_of_length_le (by omega), hA, hq, show 67 + 35 - 67 = 35 by omega, List.nil_append, List.drop_append_of_le_length (by omega), List.drop_of_length_le (by omega), List.nil_append, List.append_assoc]
theorem ckC_setb {k : Int} {root ks : List Int} {e r b c : Value} {pc : List Value} (h : root.length = 32) (hk : ks.length = 32) (hp : pc.length = 35) : (ckC k root ks e r pc b).set 102 c = ckC k root ks e r pc c := by
  have hA := ckA_len (k := k) (e := e) (r := r) h hk
  unfold ckC
  rw [List.set_append_right _ _ (by omega), hA, List.set_append_right _ _ (by omega), hp]
  rfl
theorem list32c {l : List Value} (h : l.length = 32) : ∃ x0 x1 x2 x3 x4 x5 x6 x7 x8 x9 x10 x11 x12 x13 x14 x15 x16 x17 x18 x19 x20 x21 x22 x23 x24 x25 x26 x27 x28 x29 x30 x31, l = [x0, x1, x2, x3, x4, x5, x6, x7, x8, x9, x10, x11, x12, x13, x14, x15, x16, x17, x18, x19, x20, x21, x22, x23, x24, x25, x26, x27, x28, x29, x30, x31] := list32b h
theorem built_tm' (k : Int) (ks : List Value) (hk : ks.length = 32) (s : Option Addr) (n c : Nat) : Tryz.prog.built 57 [(0, .int .i64 k), (1, .agg ks.toArray), (2, .slice s n c)] = some ([Value.int .i64 k] ++ (ks ++ [Value.slice s n c])).toArray := by
  obtain ⟨x0, x1, x2, x3, x4, x5, x6, x7, x8, x9, x10, x11, x12, x13, x14, x15, x16, x17, x18, x19, x20, x21, x22, x23, x24, x25, x26, x27, x28, x29, x30, x31, rfl⟩ := list32b hk
  kernel_rfl
theorem built_tm (k : Int) (root : List Int) (h : root.length = 32) (s : Option Addr) (n c : Nat) : Tryz.prog.built 57 [(0, .int .i64 k), (1, .agg (ints .u8 root).toArray), (2, .slice s n c)] = some (tmC k root (.slice s n c)).toArray := built_tm' k _ (by rw [ints_len, h]) s n c
theorem built_tm0 : Tryz.prog.built 57 [] = some (tmC 0 zB (.slice none 0 0)).toArray := by kernel_rfl
theorem allocTm (a : Act) (o : Oper) (w : World) (ho : o.op = .alloc 57) : (execOp a.eval o).run Tryz.prog w = .ok (.value (.pointer (some ⟨w.heap.size, 0, none⟩))) (w.alloc (.cells (tmC 0 zB (.slice none 0 0)).toArray 57)) := by
  unfold execOp
  rw [ho]
  kernel_rfl
set_option maxRecDepth 100000 in
set_option maxHeartbeats 4000000 in
theorem termsOf_bad (w : World) (k : Int) (root : List Int) (hr : root.length = 32) (hk : k < 1 ∨ 32 < k) :
    Calls Tryz.prog 20 #[.int .i64 k, .agg (ints .u8 root).toArray] w fun e w' => e = .returned (.tuple #[.agg (tmC 0 zB (.slice none 0 0)).toArray, .int .i64 1]) ∧ Below w.heap.size w w' := by
  have AT := hid allocTm
  have BT := hid built_tm0
  have d0 := ((BK.nil w).alloc (ints .u8 root) 28).alloc (tmC 0 zB (.slice none 0 0)) 57
  rw [show (w.alloc (.cells (ints .u8 root).toArray 28)).heap.size = w.heap.size + 1 by simp] at d0
  have r0 := d0.row (.head _)
  have LT := hid (show (tmC 0 zB (.slice none 0 0)).length = 34 from rfl)
  have OT := hid (tmC_one (k := 0) (root := zB) (e := .slice none 0 0) rfl)
  generalize tmC 0 zB (.slice none 0 0) = Z at *
  by_cases h1 : k < 1
  · go_enter Tryz.func20, Tryz.ntmps20
    go_wp2_with (first
      | refine wpList_allocV AT.out rfl rfl ?_
      | refine wpList_built (by rfl) 57 _ (by rfl) _ (by rfl) _ BT.out ?_
      | refine wpList_store_row rfl 57 _ _ (by rfl) (w.heap.size + 1) Z.toArray (by rfl) (by rfl) 57 _ r0 (by rw [Tryz.sizeTm, List.size_toArray, LT.out]) (by rfl) (all_oneCell_toArray OT.out) ?_)
    exact bodyPost_ret (v := .tuple #[.agg Z.toArray, .int .i64 1]) (results_c2 Tryz.results20 _ _ (w.heap.size + 1) 57 _ _ _ rfl (setRow_heap _ _ _ _ _ _ r0) Tryz.underlying57 rfl (by rw [Tryz.sizeTm, List.size_toArray, LT.out])) rfl ⟨rfl, below_setRow d0.1 (by omega) _⟩
  · have h2 : 32 < k := by omega
    go_enter Tryz.func20, Tryz.ntmps20
    go_wp2_with (first
      | refine wpList_allocV AT.out rfl rfl ?_
      | refine wpList_built (by rfl) 57 _ (by rfl) _ (by rfl) _ BT.out ?_
      | refine wpList_store_row rfl 57 _ _ (by rfl) (w.heap.size + 1) Z.toArray (by rfl) (by rfl) 57 _ r0 (by rw [Tryz.sizeTm, List.size_toArray, LT.out]) (by rfl) (all_oneCell_toArray OT.out) ?_)
    exact bodyPost_ret (v := .tuple #[.agg Z.toArray, .int .i64 1]) (results_c2 Tryz.results20 _ _ (w.heap.size + 1) 57 _ _ _ rfl (setRow_heap _ _ _ _ _ _ r0) Tryz.underlying57 rfl (by rw [Tryz.sizeTm, List.size_toArray, LT.out])) rfl ⟨rfl, below_setRow d0.1 (by omega) _⟩
set_option maxRecDepth 100000 in
set_option maxHeartbeats 4000000 in
theorem termsOf_ok (w : World) (hG : Glob w) (k : Int) (root : List Int) (hr : root.length = 32) (h1 : 1 ≤ k) (h2 : k ≤ 32) :
    Calls Tryz.prog 20 #[.int .i64 k, .agg (ints .u8 root).toArray] w fun e w' => ∃ g, e = .returned (.tuple #[.agg (tmC k root (.slice (some ⟨g, 0, none⟩) 256 256)).toArray, .int .i64 0]) ∧ w.heap.size ≤ g ∧ w'.heap[g]? = some (.cells (ints .u8 (emps k 256).flatten).toArray 28 (0, 0)) ∧ Below w.heap.size w w' := by
  have AT := hid allocTm
  have BT := hid (fun s n c => built_tm k root hr s n c)
  have d0 := ((BK.nil w).alloc (ints .u8 root) 28).alloc (tmC 0 zB (.slice none 0 0)) 57
  rw [show (w.alloc (.cells (ints .u8 root).toArray 28)).heap.size = w.heap.size + 1 by simp] at d0
  have r0 := d0.row (.head _)
  have hlt1 := d0.lt (.head _)
  have LZ := hid (show (tmC 0 zB (.slice none 0 0)).length = 34 from rfl)
  have LT := hid (fun e => tmC_len (k := k) (e := e) hr)
  have OT := hid (fun s n c => tmC_one (k := k) (root := root) (e := .slice s n c) rfl)
  have LS := hid (show (Tryz.prog.info? 28).map (·.size) = some (ints .u8 root).length by rw [Tryz.sizeD, ints_len, hr])
  have d1 : BK w _ [(w.heap.size, ints .u8 root, 28)] := d0.sub (fun x hx => .tail _ hx)
  have KE := hid (fun w1 (h : Glob w1) => empties_any w1 h k)
  generalize emps k 256 = EM at *
  generalize tmC 0 zB (.slice none 0 0) = Z at *
  generalize tmC k root = TM at *
  generalize ints .u8 root = IR at *
  clear d0
  go_enter Tryz.func20, Tryz.ntmps20
  go_wp2_with (first | refine wpList_allocV AT.out rfl rfl ?_)
  generalize (w.alloc (.cells IR.toArray 28)).alloc (.cells Z.toArray 57) = w1 at *
  refine wp_region_noPanic ?_
  refine wp_region_held_drew (S := (fun w' => BK w w' [(w.heap.size, IR, 28)])) (by kernel_rfl) d1.drew (fun hHeld => ?_)
  refine wpAnyH_take (i := 0) (oi := { dst := some 13, op := Op.move (Operand.tmp 0), type := 3, pos := "check.go:35", after := #[], guard := none }) (v := .int .i64 k) rfl (by kernel_rfl) (by kernel_rfl) (by kernel_rfl) (fun _ _ _ h => h) (Or.inl ⟨by rfl, by intro w hS; go_simp⟩) hHeld ?_
  try simp only [Act.put, List.setIfInBounds_toArray, List.set_cons_zero, List.set_cons_succ]
  refine wpAnyH_take (i := 1) (oi := { dst := some 14, op := Op.load 28 (Operand.tmp 3), type := 28, pos := "check.go:35", after := #[], guard := none }) (v := .agg (IR).toArray) rfl (by kernel_rfl) (by kernel_rfl) (by kernel_rfl) (fun _ _ _ h => h) (yieldsIf_load_mid (by rfl) 28 _ rfl w.heap.size (0) rfl (IR) _ (fun w hS => hS.rng (.head _) (fun j x hx => by rw [Nat.zero_add]; exact hx)) Tryz.underlying28 rfl LS.out) hHeld ?_
  try simp only [Act.put, List.setIfInBounds_toArray, List.set_cons_zero, List.set_cons_succ]
  refine wpAnyH_take (i := 2) (oi := { dst := some 15, op := Op.move (Operand.tmp 0), type := 3, pos := "check.go:35", after := #[], guard := none }) (v := .int .i64 k) rfl (by kernel_rfl) (by kernel_rfl) (by kernel_rfl) (fun _ _ _ h => h) (Or.inl ⟨by rfl, by intro w hS; go_simp⟩) hHeld ?_
  try simp only [Act.put, List.setIfInBounds_toArray, List.set_cons_zero, List.set_cons_succ]
  refine wpAnyH_ready (rs := [3]) (by kernel_rfl) (by simp) ?_
  refine (AllReadyH.cons (o := { dst := some 16, op := Op.call { callee := Callee.value (Operand.func 38), args := #[Operand.tmp 15], argTypes := #[3] }, type := 48, pos := "check.go:35", after := #[{ on := 2, ground := Ground.data }], guard := none }) rfl (fun K hK => ?_) AllReadyH.nil)
  go_simp
  go_at_call 38
  refine (KE.out _ (hG.below hHeld.1 hG.1)).mono ?_
  rintro e w4 ⟨g, rfl, hg4, r4, hb4⟩
  have q4 := hbel (hb4) (show w1.drew.heap[w.heap.size + 1]? = _ from r0) hlt1
  have hgg : w.heap.size + 1 < g := Nat.lt_of_lt_of_le hlt1 hg4
  go_wp2_with fail
  refine hK.out _ _ (hHeld.call hb4) (fun hHeld2 => ?_)
  clear hK K hHeld
  have hHeld := hHeld2
  clear hHeld2
  try simp only [Act.put, List.setIfInBounds_toArray, List.set_cons_zero, List.set_cons_succ]
  refine wpAnyH_take (i := 4) (oi := { dst := some 17, op := Op.build 57 #[(0, Operand.tmp 13), (1, Operand.tmp 14), (2, Operand.tmp 16)], type := 57, pos := "check.go:35", after := #[{ on := 0, ground := Ground.data }, { on := 1, ground := Ground.data }, { on := 3, ground := Ground.data }], guard := none }) (v := .agg (TM (.slice (some ⟨g, 0, none⟩) 256 256)).toArray) rfl (by kernel_rfl) (by kernel_rfl) (by kernel_rfl) (fun _ _ _ h => h) (yieldsIf_built (by rfl) 57 #[(0, Operand.tmp 13), (1, Operand.tmp 14), (2, Operand.tmp 16)] rfl _ rfl _ (BT.out _ _ _)) hHeld ?_
  try simp only [Act.put, List.setIfInBounds_toArray, List.set_cons_zero, List.set_cons_succ]
  refine wpAnyH_ready (rs := [5]) (by kernel_rfl) (by simp) ?_
  refine (AllReadyH.cons (o := { dst := none, op := Op.store 57 (Operand.tmp 4) (Operand.tmp 17), type := 0, pos := "check.go:35", after := #[{ on := 4, ground := Ground.data }, { on := 3, ground := Ground.chain }, { on := 0, ground := Ground.phase }, { on := 1, ground := Ground.phase }, { on := 2, ground := Ground.phase }, { on := 3, ground := Ground.phase }, { on := 4, ground := Ground.phase }], guard := none }) rfl (fun K hK => ?_) AllReadyH.nil)
  rw [if_pos (by rfl)]
  refine wp_store_row 57 _ _ rfl (w.heap.size + 1) (TM (.slice (some ⟨g, 0, none⟩) 256 256)).toArray rfl rfl 57 _ q4 (by rw [Tryz.sizeTm, List.size_toArray, LT.out]) (by rw [List.size_toArray, List.size_toArray, LT.out, LZ.out]) (all_oneCell_toArray (OT.out _ _ _)) ?_
  have hb5 := below_setRow (hHeld.1) (show w.heap.size ≤ w.heap.size + 1 by omega) (TM (.slice (some ⟨g, 0, none⟩) 256 256)).toArray
  have r5 := (setRow_other _ (w.heap.size + 1) g (TM (.slice (some ⟨g, 0, none⟩) 256 256)).toArray (by omega)).trans r4
  refine hK.out _ _ (hHeld.setO (by omega) (by intro x hx; simp only [List.mem_cons, List.not_mem_nil, or_false] at hx; subst hx; simp) _) (fun hHeld2 => ?_)
  clear hK K hHeld
  have hHeld := hHeld2
  clear hHeld2
  try simp only [Act.put, List.setIfInBounds_toArray, List.set_cons_zero, List.set_cons_succ]
  refine wpAnyH_take (i := 6) (oi := { dst := some 5, op := Op.assign (Operand.const (Value.int IntKind.i64 0)), type := 34, pos := "check.go:35", after := #[{ on := 5, ground := Ground.chain }, { on := 0, ground := Ground.phase }, { on := 1, ground := Ground.phase }, { on := 2, ground := Ground.phase }, { on := 3, ground := Ground.phase }, { on := 4, ground := Ground.phase }, { on := 5, ground := Ground.phase }], guard := none }) (v := .int IntKind.i64 0) rfl (by kernel_rfl) (by kernel_rfl) (by kernel_rfl) (fun _ _ _ h => h) (Or.inl ⟨by rfl, by intro w hS; go_simp⟩) hHeld ?_
  try simp only [Act.put, List.setIfInBounds_toArray, List.set_cons_zero, List.set_cons_succ]
  refine wpAnyH_done (by kernel_rfl) ?_ _
  refine NoPanic.normal ?_
  go_wp2
  exact bodyPost_ret (v := .tuple #[.agg (TM (.slice (some ⟨g, 0, none⟩) 256 256)).toArray, .int .i64 0]) (results_c2 Tryz.results20 _ _ (w.heap.size + 1) 57 _ _ _ rfl (setRow_heap _ _ _ _ _ _ q4) Tryz.underlying57 rfl (by rw [Tryz.sizeTm, List.size_toArray, LT.out])) rfl ⟨g, rfl, by omega, r5, hb5⟩
end Go.Proofs.YtbjahdbmkcamoaaGreatDoor
namespace Go.Proofs.YtbjahdbmkcamoaaGreatDoor
set_option linter.unusedVariables false
set_option linter.unusedSimpArgs false
open Go.RowKit
attribute [local go_sem ↓] Go.wp_at_zero Go.wp_at_succ

theorem built_ck' (k : Int) (rs ks : List Value) (hr : rs.length = 32) (hk : ks.length = 32) (s s2 : Option Addr) (n c n2 c2 : Nat) : Tryz.prog.built 64 [(0, .agg ([Value.int .i64 k] ++ (rs ++ [Value.slice s n c])).toArray), (1, .agg ks.toArray), (2, .slice s2 n2 c2)] = some (([Value.int .i64 k] ++ (rs ++ [Value.slice s n c])) ++ (ks ++ [Value.slice s2 n2 c2]) ++ (pfC pf0 (.slice none 0 0) (.slice none 0 0) ++ [Value.slice none 0 0])).toArray := by
  obtain ⟨x0, x1, x2, x3, x4, x5, x6, x7, x8, x9, x10, x11, x12, x13, x14, x15, x16, x17, x18, x19, x20, x21, x22, x23, x24, x25, x26, x27, x28, x29, x30, x31, rfl⟩ := list32b hk
  obtain ⟨y0, y1, y2, y3, y4, y5, y6, y7, y8, y9, y10, y11, y12, y13, y14, y15, y16, y17, y18, y19, y20, y21, y22, y23, y24, y25, y26, y27, y28, y29, y30, y31, rfl⟩ := list32b hr
  kernel_rfl
theorem built_ck (k : Int) (root ks : List Int) (hr : root.length = 32) (hk : ks.length = 32) (s s2 : Option Addr) (n c n2 c2 : Nat) : Tryz.prog.built 64 [(0, .agg (tmC k root (.slice s n c)).toArray), (1, .agg (ints .u8 ks).toArray), (2, .slice s2 n2 c2)] = some (ckC k root ks (.slice s n c) (.slice s2 n2 c2) (pfC pf0 (.slice none 0 0) (.slice none 0 0)) (.slice none 0 0)).toArray := built_ck' k _ _ (by rw [ints_len, hr]) (by rw [ints_len, hk]) s s2 n c n2 c2
theorem Tryz.sizeKy : (Tryz.prog.info? 24).map (·.size) = some 32 := by kernel_rfl
set_option maxRecDepth 100000 in
set_option maxHeartbeats 4000000 in
theorem taken_any (w : World) (k : Int) (root ks : List Int) (hr : root.length = 32) (hk : ks.length = 32) (s s2 : Option Addr) (n c n2 c2 : Nat) :
    Calls Tryz.prog 39 #[.agg (tmC k root (.slice s n c)).toArray, .agg (ints .u8 ks).toArray, .slice s2 n2 c2] w fun e w' => ∃ g, e = .returned (.pointer (some ⟨g, 0, none⟩)) ∧ w.heap.size ≤ g ∧ w'.heap[g]? = some (.cells (ckC k root ks (.slice s n c) (.slice s2 n2 c2) (pfC pf0 (.slice none 0 0) (.slice none 0 0)) (.slice none 0 0)).toArray 64 (0, 0)) ∧ Below w.heap.size w w' := by
  have BC := hid (built_ck k root ks hr hk s s2 n c n2 c2)
  have d0 := ((BK.nil w).alloc (tmC k root (.slice s n c)) 57).alloc (ints .u8 ks) 24
  rw [show (w.alloc (.cells (tmC k root (.slice s n c)).toArray 57)).heap.size = w.heap.size + 1 by simp] at d0
  have LT := hid (show (Tryz.prog.info? 57).map (·.size) = some (tmC k root (.slice s n c)).toArray.size by rw [Tryz.sizeTm, List.size_toArray, tmC_len hr])
  have LK := hid (show (Tryz.prog.info? 24).map (·.size) = some (ints .u8 ks).toArray.size by rw [Tryz.sizeKy, List.size_toArray, ints_len, hk])
  have LC := hid (show (Tryz.prog.info? 64).map (·.size) = some (ckC k root ks (.slice s n c) (.slice s2 n2 c2) (pfC pf0 (.slice none 0 0) (.slice none 0 0)) (.slice none 0 0)).toArray.size by rw [Tryz.sizeCk, List.size_toArray, ckC_len hr hk rfl])
  have r1 := d0.row (.head _)
  have r0 := d0.row (.tail _ (.head _))
  generalize ckC k root ks (.slice s n c) (.slice s2 n2 c2) (pfC pf0 (.slice none 0 0) (.slice none 0 0)) (.slice none 0 0) = C at *
  generalize tmC k root (.slice s n c) = TM at *
  generalize ints .u8 ks = IK at *
  go_enter Tryz.func39, Tryz.ntmps39
  go_wp2_with (first
    | refine wpList_load_row rfl 57 _ rfl _ rfl 57 _ _ _ r0 Tryz.underlying57 rfl LT.out ?_
    | refine wpList_load_row rfl 24 _ rfl _ rfl 24 _ _ _ r1 Tryz.underlying24 rfl LK.out ?_
    | refine wpList_built (by rfl) 64 _ (by rfl) _ (by rfl) _ BC.out ?_)
  go_ret
  have hs : ((w.alloc (.cells TM.toArray 57)).alloc (.cells IK.toArray 24)).heap.size = w.heap.size + 1 + 1 := by simp
  have hn := hnew ((w.alloc (.cells TM.toArray 57)).alloc (.cells IK.toArray 24)) (.cells C.toArray 64)
  rw [hs] at hn
  exact ⟨_, rfl, by omega, hn, d0.1.alloc d0.1.size _⟩
set_option maxRecDepth 100000 in
set_option maxHeartbeats 4000000 in
theorem form_any (w : World) (cb : Nat) (k : Int) (root ks t : List Int) (hr : root.length = 32) (hk : ks.length = 32) (e : Value) (sp : Option Addr) (cap : Nat) (hy : Bys t) (hS : Src w sp cap t)
    (hc : w.heap[cb]? = some (.cells (ckC k root ks e (.slice sp t.length cap) (pfC pf0 (.slice none 0 0) (.slice none 0 0)) (.slice none 0 0)).toArray 64 (0, 0))) :
    Calls Tryz.prog 41 #[.pointer (some ⟨cb, 0, none⟩)] w fun en w' => ∃ s1 c1 s2 c2, en = .returned (.int .i64 (decE t)) ∧
      w'.heap[cb]? = some (.cells (ckC k root ks e (.slice sp t.length cap) (pfC (decV t) (.slice s1 (decV t).vs.length c1) (.slice s2 (decV t).ss.length c2)) (.slice none 0 0)).toArray 64 (0, 0)) ∧
      Own w' w.heap.size (.slice s1 (decV t).vs.length c1) (decV t).vs ∧ OwnD w' w.heap.size (.slice s2 (decV t).ss.length c2) (decV t).ss ∧ Keeps cb w w' := by
  have hok : PfOk (decV t) := by
    unfold decV
    cases hd : decP t with
    | none => exact pf0_ok
    | some p => exact (dec_some hy hd).1
  have KD := hid (fun w1 (h : Src w1 sp cap t) => decode_any w1 t hy sp cap h)
  unfold DecP at KD
  have AP := hid allocPf
  have LZ := hid (show (pfC pf0 (.slice none 0 0) (.slice none 0 0)).length = 35 from rfl)
  have LP := hid (fun v s => pfC_len hok v s)
  have OP := hid (fun s1 s2 n1 c1 n2 c2 => pfC_one (decV t) (.slice s1 n1 c1) (.slice s2 n2 c2) rfl rfl)
  have c66 : w.cell? ⟨cb, 66, none⟩ = some (.slice sp t.length cap) := by rw [cell_of_row _ _ _ _ _ _ hc, List.getElem?_toArray]; exact ckC_r hr hk
  have ST := hid (fun (qc : List Value) (hq : qc.length = 35) => ckC_setp (k := k) (e := e) (r := .slice sp t.length cap) (b := .slice none 0 0) (pc := pfC pf0 (.slice none 0 0) (.slice none 0 0)) hr hk rfl hq)
  have LC := hid (ckC_len (k := k) (e := e) (r := .slice sp t.length cap) (b := .slice none 0 0) (pc := pfC pf0 (.slice none 0 0) (.slice none 0 0)) hr hk rfl)
  generalize ckC k root ks e (.slice sp t.length cap) = CC at *
  generalize decV t = p at *
  generalize decE t = er at *
  generalize pfC pf0 (.slice none 0 0) (.slice none 0 0) = P0 at *
  have hcb := hlt hc
  go_enter Tryz.func41, Tryz.ntmps41
  go_wp2_with fail
  refine (KD.out _ hS).mono ?_
  rintro en w2 ⟨s1, c1, s2, c2, rfl, hO1, hO2, hB2⟩
  have hc2 := hbel hB2 hc hcb
  have LP2 := hid (LP.out (.slice s1 p.vs.length c1) (.slice s2 p.ss.length c2))
  have OP2 := hid (OP.out s1 s2 p.vs.length c1 p.ss.length c2)
  clear LP OP
  generalize hPC : pfC p (.slice s1 p.vs.length c1) (.slice s2 p.ss.length c2) = PC at *
  have HPC := hid hPC
  clear hPC
  go_wp2_with (first
    | (refine wpList_new AP.out LZ.out Tryz.sizeP rfl rfl rfl _ _ rfl rfl PC rfl rfl LP2.out OP2.out ?_; refine Hid.out ?_))
  refine hid ?_
  have r3 := hnew w2 (.cells PC.toArray 52)
  have hB3 : Below w2.heap.size w2 (w2.alloc (.cells PC.toArray 52)) := (Below.refl _ _).alloc (Nat.le_refl _) _
  have hc3 := hbel hB3 hc2 (hlt hc2)
  have hO1' := hO1.below hB3 (Nat.le_refl _)
  have hO2' := hO2.below hB3 (Nat.le_refl _)
  have hK : Keeps cb w (w2.alloc (.cells PC.toArray 52)) := (Keeps.of_below hB2).trans (Keeps.of_below hB3)
  clear hB3 hO1 hO2
  have LQ := hid (show (Tryz.prog.info? 52).map (·.size) = some PC.toArray.size by rw [Tryz.sizeP, List.size_toArray, LP2.out])
  generalize w2.alloc (.cells PC.toArray 52) = w3 at *
  generalize w2.heap.size = G at *
  go_wp2_with (first
    | refine wpList_load_row rfl 52 _ rfl _ rfl 52 _ _ _ r3 Tryz.underlying52 rfl LQ.out ?_
    | (refine wpList_store_mid rfl 52 _ _ rfl cb 67 PC.toArray rfl rfl (by rw [List.size_toArray, LP2.out]; intro i hi; exact ⟨by rw [cell_of_row _ _ _ _ _ _ hc3, List.getElem?_toArray, List.getElem?_eq_getElem (by rw [LC.out]; omega)]; rfl, frozen_of_row _ _ _ _ _ hc3⟩) (by rw [Tryz.sizeP, List.size_toArray, LP2.out]) (all_oneCell_toArray OP2.out) ?_; rw [setCells_row hc3 (by rw [LC.out, List.toList_toArray, LP2.out]; decide) (by rw [List.toList_toArray]; exact OP2.out), List.toList_toArray, ST.out PC LP2.out]))
  go_ret
  refine ⟨s1, c1, s2, c2, rfl, (by rw [HPC.out]; exact setRow_heap _ _ _ _ _ _ hc3), hO1'.of_heap (fun j hj => setRow_other _ cb j _ (by have := (hO1'.block j hj).1; omega)), hO2'.of_heap (fun j hj => setRow_other _ cb j _ (by have := (hO2'.block j hj).1; omega)), hK.setRow _⟩
theorem arrD_l (w : World) (N l : Nat) (h2 : l < 32) : (Instr.sliceAt 28 (.pointer (some ⟨N, 0, none⟩)) (some (.int .i64 (l : Nat))) none none).run Tryz.prog w = .ok (.slice (some ⟨N, l, none⟩) (32 - l) (32 - l)) w := by
  have hl : Tryz.prog.arrayLen 28 = 32 := by kernel_rfl
  have hz : (sizeOf (Tryz.prog.elem 28)).run Tryz.prog w = .ok 1 w := by kernel_rfl
  rw [run_sliceAt_array_l w 28 ⟨N, 0, none⟩ (by kernel_rfl) .i64 l (by omega) (by rw [hl]; omega), hz, hl]
  simp only [Result.andThen_ok, slicedAt, Int.toNat_natCast, Nat.mul_one, if_neg (show ¬ 32 = l by omega), Addr.add_mid, Nat.zero_add]
theorem arrD_32 (w : World) (N : Nat) : (Instr.sliceAt 28 (.pointer (some ⟨N, 0, none⟩)) (some (.int .i64 32)) none none).run Tryz.prog w = .ok (.slice (some ⟨N, 0, none⟩) 0 0) w := by kernel_rfl
theorem fit_none {n : Nat} {d : List Int} (h : ∀ i, n + i < d.length → d.getD (n + i) 0 = 0) : fitB n d = true := by
  refine List.all_eq_true.2 fun x hx => ?_
  rw [List.mem_drop_iff_getElem] at hx
  obtain ⟨i, hi, rfl⟩ := hx
  have := h i (by omega)
  rw [List.getD_eq_getElem?_getD, List.getElem?_eq_getElem (by omega)] at this
  simpa using this
theorem fit_not {n : Nat} {d : List Int} (i : Nat) (hi : n + i < d.length) (h : d.getD (n + i) 0 ≠ 0) : fitB n d = false := by
  cases e : fitB n d with
  | false => rfl
  | true =>
    have := List.all_eq_true.1 e (d[n + i]'hi) (by rw [List.mem_drop_iff_getElem]; exact ⟨i, by omega, rfl⟩)
    rw [List.getD_eq_getElem?_getD, List.getElem?_eq_getElem hi] at h
    exact absurd (by simpa using this) h
set_option maxRecDepth 100000 in
set_option maxHeartbeats 4000000 in
theorem fits_any (w : World) (n : Nat) (hn : n ≤ 32) (root d : List Int) (hr : root.length = 32) (hd : d.length = 32) (e : Value) :
    Calls Tryz.prog 71 #[.agg (tmC n root e).toArray, .agg (ints .u8 d).toArray] w fun en w' => en = .returned (.bool (fitB n d)) ∧ Below w.heap.size w w' := by
  have d0 := ((BK.nil w).alloc (tmC n root e) 57).alloc (ints .u8 d) 28
  rw [show (w.alloc (.cells (tmC n root e).toArray 57)).heap.size = w.heap.size + 1 by simp] at d0
  have c0 := d0.cell (.tail _ (.head _)) (v := .int .i64 n) (j := 0) rfl
  have FN := hid (fit_none (n := n) (d := d))
  have FT := hid (fun i hi h => fit_not (n := n) (d := d) i hi h)
  have CE := hid (fun j (hj : j < 32) => d0.cell (.head _) (ints_get .u8 d j (by omega)))
  generalize tmC n root e = TM at *
  generalize ints .u8 d = ID at *
  by_cases h32 : n = 32
  · subst h32
    rw [FN.out (fun i hi => by omega)]
    rw [show ((32 : Nat) : Int) = 32 from rfl] at c0
    have sl := fun w1 => arrD_32 w1 (w.heap.size + 1)
    go_enter Tryz.func71, Tryz.ntmps71
    go_wp2
    generalize (w.alloc (.cells TM.toArray 57)).alloc (.cells ID.toArray 28) = w1 at *
    go_loopw [6, 11] (fun _ iv wr => iv = .int .i64 0 ∧ wr = w1) (fun _ iv _ => 0)
    case atStart => exact ⟨rfl, rfl⟩
    case round =>
      obtain ⟨rfl, rfl⟩ := hrel
      go_wp2
      go_ret
      exact ⟨rfl, d0.1⟩
  · have hlt : n < 32 := by omega
    have sl := fun w1 => arrD_l w1 (w.heap.size + 1) n hlt
    have hm : 32 - n ≤ 32 := by omega
    obtain ⟨m, hM⟩ : ∃ m, 32 - n = m := ⟨_, rfl⟩
    rw [hM] at sl
    have i2 : (m : Int) ≤ 32 := by omega
    go_enter Tryz.func71, Tryz.ntmps71
    go_wp2
    generalize (w.alloc (.cells TM.toArray 57)).alloc (.cells ID.toArray 28) = w1 at *
    go_loopw [6, 11] (fun _ iv wr => ∃ j : Nat, j ≤ m ∧ iv = .int .i64 j ∧ wr = w1 ∧ ∀ i, i < j → d.getD (n + i) 0 = 0) (fun _ iv _ => m - (intOf iv).toNat)
    case atStart => exact ⟨0, by omega, rfl, rfl, fun i hi => by omega⟩
    case round =>
      obtain ⟨j, hj, rfl, rfl, hz⟩ := hrel
      by_cases hj2 : j < m
      · have i1 : (j : Int) < (m : Int) := by omega
        have cj := CE.out (n + j) (by omega)
        have HZ := hid hz
        have HJ := hid (FT.out j (by omega))
        clear hz FT CE FN
        generalize hXx : d.getD (n + j) 0 = x at *
        have HX := hid hXx
        clear hXx
        by_cases hx : x = 0
        · subst hx
          go_wp2
          go_roundw
          case rel => exact ⟨j + 1, by omega, by go_num, (by first | rfl | trivial), fun i hi => by
            by_cases e : i = j
            · subst e; exact HX.out
            · exact HZ.out i (by omega)⟩
          case measure => simp [intOf]; omega
        · have i3 : (x != 0) = true := by simpa using hx
          go_wp2
          go_ret
          exact ⟨by rw [HJ.out hx]; rfl, d0.1⟩
      · obtain rfl : j = m := by omega
        have HF := hid (FN.out (fun i hi => hz i (by omega)))
        clear FN FT CE hz
        go_wp2
        go_ret
        exact ⟨by rw [HF.out]; rfl, d0.1⟩
end Go.Proofs.YtbjahdbmkcamoaaGreatDoor
namespace Go.Proofs.YtbjahdbmkcamoaaGreatDoor
set_option linter.unusedVariables false
set_option linter.unusedSimpArgs false
open Go.RowKit
attribute [local go_sem ↓] Go.wp_at_zero Go.wp_at_succ

theorem and_one_nat8 : ∀ n, n < 256 → bits .and .u8 ((n : Nat) : Int) 1 = ((n % 2 : Nat) : Int) := by decide +kernel
theorem and_one8 {x : Int} (h0 : 0 ≤ x) (h1 : x < 256) : bits .and .u8 x 1 = x % 2 := by
  obtain ⟨n, rfl⟩ := Int.eq_ofNat_of_zero_le h0
  rw [and_one_nat8 n (by omega)]; simp
theorem run_storeVar_c {P : Program} (w : World) (b o : Nat) (ty : TypeId) (v : Value) (cs : List Value) (t : TypeId) (hrow : w.heap[b]? = some (.cells cs.toArray t (0, 0))) (hj : o < cs.length) (hi : (P.info? ty).map (·.size) = some 1) (hv : v.cells = #[v]) (h1 : v.oneCell' = true) :
    (storeVar ty ⟨b, o, none⟩ v).run P w = .ok () (w.setRow b (cs.set o v).toArray) := by
  have := run_storeCells_cells (P := P) b o [v] 0 w (fun j hj2 => by
      have hj3 : j = 0 := by simp only [List.length_singleton] at hj2; omega
      subst hj3
      rw [cell_of_row _ _ _ _ _ _ hrow, List.getElem?_toArray, List.getElem?_eq_getElem (by omega)]; rfl) (fun j _ => frozen_of_row _ _ _ _ _ hrow)
    (fun u hu => by rw [List.mem_singleton.1 hu]; exact h1)
  have e := setCells_row (vs := [v]) (o := o) hrow (by rw [List.length_singleton]; omega) (fun u hu => by rw [List.mem_singleton.1 hu]; exact h1)
  have e2 : cs.take o ++ [v] ++ cs.drop (o + [v].length) = cs.set o v := by
    rw [List.set_eq_take_append_cons_drop, if_pos hj, List.append_assoc]; rfl
  rw [e2] at e
  cases hq : P.info? ty with
  | none => simp [hq] at hi
  | some i =>
    have hs : i.size = 1 := by simpa [hq] using hi
    simp only [Nat.add_zero] at this
    simp [storeVar, sizeOf, typeInfo, hq, hv, hs, this, e]
theorem wpList_storeC {P : Program} {ops : Array Oper} {rest : List Oper} {op : Oper} {a : Act} {w : World} {Q : Exit → Act → World → Prop} (hgd : op.guard = none) (ty : TypeId) (x y : Operand) (ho : op.op = .store ty x y)
    (b o : Nat) (v : Value) (hx : a.eval x = .pointer (some ⟨b, o, none⟩)) (hy : a.eval y = v) (cs : List Value) (t : TypeId) (hrow : w.heap[b]? = some (.cells cs.toArray t (0, 0))) (hj : o < cs.length) (hi : (P.info? ty).map (·.size) = some 1) (hv : v.cells = #[v]) (h1 : v.oneCell' = true)
    (h : wpList P ops Q rest (a.put op.dst undef) (w.setRow b (cs.set o v).toArray)) : wpList P ops Q (op :: rest) a w :=
  wpList_plain hgd fun _ hK => by
    unfold Oper.wp execOp
    simp only [ho, hx, hy, Instr.storeAt, Instr.sureAddr, Sem.run_bind, Sem.run_pure, Result.andThen_ok, run_storeVar_c w b o ty v cs t hrow hj hi hv h1]
    exact hK _ _ h
theorem wp_storeC {P : Program} {op : Oper} {a : Act} {w : World} {K : Act → World → Prop} {Q : Exit → Act → World → Prop} (ty : TypeId) (x y : Operand) (ho : op.op = .store ty x y)
    (b o : Nat) (v : Value) (hx : a.eval x = .pointer (some ⟨b, o, none⟩)) (hy : a.eval y = v) (cs : List Value) (t : TypeId) (hrow : w.heap[b]? = some (.cells cs.toArray t (0, 0))) (hj : o < cs.length) (hi : (P.info? ty).map (·.size) = some 1) (hv : v.cells = #[v]) (h1 : v.oneCell' = true)
    (h : K (a.put op.dst undef) (w.setRow b (cs.set o v).toArray)) : op.wp P a w K Q := by
  unfold Oper.wp execOp
  simp only [ho, hx, hy, Instr.storeAt, Instr.sureAddr, Sem.run_bind, Sem.run_pure, Result.andThen_ok, run_storeVar_c w b o ty v cs t hrow hj hi hv h1]
  exact h
theorem Tryz.sizeDs : (Tryz.prog.info? 48).map (·.size) = some 1 := by kernel_rfl
theorem Tryz.sizeBB : (Tryz.prog.info? 70).map (·.size) = some 1 := by kernel_rfl
theorem kept_nat (n : Nat) (h : n ≤ 32) : kept (n : Int) = n := by unfold kept; omega
theorem ownD_empty (w : World) : OwnD (w.alloc (.cells #[] 28)) w.heap.size (.slice (some ⟨w.heap.size, 0, none⟩) 0 0) [] :=
  ⟨(fun d h => by cases h), rfl, Or.inr ⟨w.heap.size, 0, #[], rfl, Nat.le_refl _, hnew w _, Nat.le_refl _, by simp [maxLen], rfl, rfl⟩⟩
/-- append(own list of digests, others...). -/
theorem wpList_appD {w : World} {ops : Array Oper} {rest : List Oper} {o : Oper} {a : Act} {Q : Exit → Act → World → Prop} (hgd : o.guard = none) (s x : Operand)
    (ho : o.op = .call { callee := .builtin .append, args := #[s, x], argTypes := #[48, 48] })
    (base : Nat) (v : Value) (ss rs : List (List Int)) (hs : a.eval s = v) (hown : OwnD w base v ss) (g c : Nat) (hx : a.eval x = .slice (some ⟨g, 0, none⟩) rs.length c) (hr : ∀ d ∈ rs, d.length = 32) (hrow : w.heap[g]? = some (.cells (ints .u8 rs.flatten).toArray 28 (0, 0)))
    (hlen : ss.length + rs.length ≤ 4398046511104) (hbase : base ≤ w.heap.size)
    (h : ∀ v' w', OwnD w' base v' (ss ++ rs) → w.grownBy w' v.ownBlock → wpList Tryz.prog ops Q rest (a.put o.dst v') w') :
    wpList Tryz.prog ops Q (o :: rest) a w := by
  obtain ⟨i5, z, hi5, hz5, hc5, hs5, hy5⟩ := infoD
  refine wpList_append_own_at _ hgd s x 48 ho base 28 i5 z 32 32 Tryz.underlying48 hi5 hz5 hs5 hy5 hc5 (by decide) v ss.length _ hs hown.2 ⟨g, 0, none⟩ rs.length c (ints .u8 rs.flatten) hx (by rw [ints_len, flat_len32 rs hr]; omega) ?_ (ints_one _ _) (by unfold maxLen; omega) (by omega) hbase ?_
  · intro j u hu
    rw [Addr.add_mid, Nat.zero_add, cell_of_row _ _ _ _ _ _ hrow]
    simpa using hu
  · intro v' w' q1 q2 _ q4
    refine h v' w' ⟨fun x hx => ?_, ?_⟩ q2
    · rcases List.mem_append.1 hx with hx | hx
      · exact hown.1 x hx
      · exact hr x hx
    · rw [List.length_append, List.flatten_append, show ints .u8 (ss.flatten ++ rs.flatten) = ints .u8 ss.flatten ++ ints .u8 rs.flatten by simp [ints]]
      exact q1
set_option maxRecDepth 100000 in
set_option maxHeartbeats 4000000 in
theorem cloneD_any (w : World) (rs : List (List Int)) (hr : ∀ d ∈ rs, d.length = 32) (g c : Nat) (hrow : w.heap[g]? = some (.cells (ints .u8 rs.flatten).toArray 28 (0, 0))) (hlen : rs.length ≤ 4398046511104) :
    Calls Tryz.prog 70 #[.slice (some ⟨g, 0, none⟩) rs.length c] w fun e w' => ∃ v, e = .returned v ∧ OwnD w' w.heap.size v rs ∧ Below w.heap.size w w' := by
  have q22 : ∀ (w : World) (a : Option Addr) (n c n' c' : Nat), (binOp .eql 48 (.slice a n c) (.slice none n' c')).run Tryz.prog w = .ok (.bool a.isNone) w := fun w a n c n' c' => Lib.run_eql_slice_nil w _ _ a n c n' c' Tryz.underlying48
  have hE := ownD_empty w
  have hr1 := hold (o := .cells #[] 28) hrow
  have hb : ∀ w1 : World, (Instr.buildSlice 48 0 #[]).run Tryz.prog w1 = .ok (.slice (some ⟨w1.heap.size, 0, none⟩) 0 0) (w1.alloc (.cells #[] 28)) := fun w1 => by kernel_rfl
  have HR := hid hrow
  clear hrow
  go_enter Tryz.func70, Tryz.ntmps70
  go_wp2_with (first | (at_builtin; refine wpList_appD rfl (.tmp 5) (.tmp 6) rfl w.heap.size _ [] rs rfl hE g c rfl hr hr1 (by simpa using hlen) (by simp) ?_; intro v2 w2 hO2 hg2))
  go_ret
  exact ⟨_, rfl, hO2, ((Below.refl _ w).alloc (Nat.le_refl _) _).trans (grown_keeps hg2 (fun k e => (hE.block k e).1) (by simp))⟩
theorem take_mid (A vs : List Value) (o N : Nat) (h1 : o + vs.length ≤ N) (h2 : N ≤ A.length) : (A.take o ++ vs ++ A.drop (o + vs.length)).take N = (A.take N).take o ++ vs ++ (A.take N).drop (o + vs.length) := by
  have e1 : (A.take o).length = o := by rw [List.length_take]; omega
  rw [List.take_append, List.take_of_length_le (by rw [List.length_append, e1]; omega), List.length_append, e1, List.take_take, Nat.min_eq_left (by omega), List.drop_take, List.append_assoc]
/-- One digest of an own list written. -/
theorem OwnD.store {w : World} {base g n cap : Nat} {D : List (List Int)} (h : OwnD w base (.slice (some ⟨g, 0, none⟩) n cap) D) (j : Nat) (hj : j < D.length) (d : List Int) (hd : d.length = 32) :
    w.there g (j * 32) 32 ∧ OwnD (w.setCells g (j * 32) (ints .u8 d)) base (.slice (some ⟨g, 0, none⟩) n cap) (D.set j d) ∧ Keeps g w (w.setCells g (j * 32) (ints .u8 d)) ∧ base ≤ g := by
  obtain ⟨h0, h1, ⟨hv, _⟩ | ⟨g', cap', cur, hv, hg, hh, hc, hm, hs, ht⟩⟩ := h
  · cases hv
  · simp only [Value.slice.injEq, Option.some.injEq, Addr.mk.injEq] at hv
    obtain ⟨⟨rfl, -, -⟩, rfl, rfl⟩ := hv
    have hl := flat_len' h0
    have hcl : cur.toList.length = cap * 32 := by rw [Array.length_toList, hs]
    have hh' : w.heap[g]? = some (.cells cur.toList.toArray 28 (0, 0)) := by rw [hh]
    have hdl : (ints .u8 d).length = 32 := by rw [ints_len, hd]
    have e := setCells_row (vs := ints .u8 d) hh' (o := j * 32) (by rw [hdl, hcl]; omega) (ints_one _ _)
    refine ⟨fun i hi => ⟨by rw [cell_of_row _ _ _ _ _ _ hh', List.getElem?_toArray, List.getElem?_eq_getElem (by omega)]; rfl, frozen_of_row _ _ _ _ _ hh'⟩, ?_, by rw [e]; exact (Keeps.refl g w).setRow _, hg⟩
    rw [e]
    refine ⟨fun x hx => ?_, by rw [← flat_set D j d h0 hj hd]; simp only [List.length_append, List.length_take, List.length_drop, hl, hdl, List.length_set]; omega, Or.inr ⟨g, cap, (cur.toList.take (j * 32) ++ ints .u8 d ++ cur.toList.drop (j * 32 + (ints .u8 d).length)).toArray, by rw [List.length_set], hg, setRow_heap _ _ _ _ _ _ hh', by rw [List.length_set]; exact hc, hm, ?_, ?_⟩⟩
    · rcases List.mem_or_eq_of_mem_set hx with h3 | rfl
      · exact h0 x h3
      · exact hd
    · rw [List.size_toArray]; simp only [List.length_append, List.length_take, List.length_drop, hcl, hdl]; omega
    · rw [List.toList_toArray, List.length_set, take_mid _ _ _ _ (by rw [hdl]; omega) (by rw [hcl]; omega), ht, hdl, flat_set D j d h0 hj hd]
/-- A list of digests without its first. -/
theorem slD (w : World) (sp : Option Addr) (n cap : Nat) (hc : n + 1 ≤ cap) : (Instr.slice 48 (.slice sp (n + 1) cap) (some (.int .i64 1)) none none).run Tryz.prog w = .ok (.slice (if cap = 1 then sp else sp.map (·.add 32)) n (cap - 1)) w := by
  have hz : (sizeOf (Tryz.prog.elem 48)).run Tryz.prog w = .ok 32 w := by kernel_rfl
  rw [run_slice_l w 48 _ _ _ (by kernel_rfl) .i64 1 (by omega) (by omega), hz]
  rfl
theorem SrcD.tail {w : World} {sp : Option Addr} {cap : Nat} {d : List Int} {ss : List (List Int)} (h : SrcD w sp cap (d :: ss)) : SrcD w (if cap = 1 then sp else sp.map (·.add 32)) (cap - 1) ss := by
  obtain ⟨h1, h2, h0, b, o, h3, h4, h5⟩ := h
  rw [List.length_cons] at h1 h3 h4 h5
  refine ⟨by omega, by omega, fun x hx => h0 x (.tail _ hx), b, o + 32, fun hl => h3 (by omega), fun hl => ?_, fun j hj => ?_⟩
  · rw [if_neg (by omega), h4 (by omega)]; rfl
  · have := h5 (j + 1) (by omega)
    rwa [List.getD_cons_succ, show o + (j + 1) * 32 = o + 32 + j * 32 by omega] at this
/-! The neighbours, as far as they are known. -/
def besH (k : Int) (p : Pf) (h : Nat) : List (List Int) := (List.range 256).map fun j => if j < h then nbr k p j else emptyD k j
def nears (k : Int) (p : Pf) : List (List Int) := (List.range 256).map (nbr k p)
theorem besH_len (k : Int) (p : Pf) (h : Nat) : (besH k p h).length = 256 := by simp [besH]
theorem besH_zero (k : Int) (p : Pf) : besH k p 0 = emps k 256 := by
  unfold besH emps
  exact List.map_congr_left fun j _ => if_neg (Nat.not_lt_zero j)
theorem besH_full (k : Int) (p : Pf) : besH k p 256 = nears k p := by
  unfold besH nears
  exact List.map_congr_left fun j hj => if_pos (List.mem_range.1 hj)
theorem besH_set (k : Int) (p : Pf) (h : Nat) (hh : h < 256) : (besH k p h).set h (nbr k p h) = besH k p (h + 1) := by
  refine List.ext_getElem (by simp [besH]) fun i h1 h2 => ?_
  rw [List.getElem_set]
  simp only [besH, List.getElem_map, List.getElem_range]
  split
  · rename_i e; subst e; rw [if_pos (by omega)]
  · by_cases hi : i < h
    · rw [if_pos hi, if_pos (by omega)]
    · rw [if_neg hi, if_neg (by omega)]
theorem besH_same (k : Int) (p : Pf) (h : Nat) (hb : bitB p.bs h = 0) : besH k p (h + 1) = besH k p h := by
  unfold besH
  refine List.map_congr_left fun j _ => ?_
  by_cases e : j = h
  · subst e
    rw [if_pos (by omega), if_neg (by omega)]
    unfold nbr
    rw [if_neg (by omega)]
  · by_cases hj : j < h
    · rw [if_pos hj, if_pos (by omega)]
    · rw [if_neg hj, if_neg (by omega)]
theorem digE_s0 {k : Int} {p : Pf} {h : Nat} (h0 : digE k p h = 0) (hb : bitB p.bs h = 0) : digE k p (h + 1) = 0 := by
  simp only [digE]; rw [if_pos h0, if_neg (by omega)]
theorem digE_s1 {k : Int} {p : Pf} {h : Nat} (h0 : digE k p h = 0) (hb : bitB p.bs h = 1) (hf : fitB (kept k) (p.ss.getD (lft p.bs h) []) = false) : digE k p (h + 1) = 120 := by
  simp only [digE]; rw [if_pos h0, if_pos hb, if_neg (by rw [hf]; decide)]
theorem digE_s2 {k : Int} {p : Pf} {h : Nat} (h0 : digE k p h = 0) (hb : bitB p.bs h = 1) (hf : fitB (kept k) (p.ss.getD (lft p.bs h) []) = true) (he : p.ss.getD (lft p.bs h) [] = emptyD k h) : digE k p (h + 1) = 130 := by
  simp only [digE]; rw [if_pos h0, if_pos hb, if_pos hf, if_pos he]
theorem digE_s3 {k : Int} {p : Pf} {h : Nat} (h0 : digE k p h = 0) (hb : bitB p.bs h = 1) (hf : fitB (kept k) (p.ss.getD (lft p.bs h) []) = true) (he : p.ss.getD (lft p.bs h) [] ≠ emptyD k h) : digE k p (h + 1) = 0 := by
  simp only [digE]; rw [if_pos h0, if_pos hb, if_pos hf, if_neg he]
theorem digE_end {k : Int} {p : Pf} {h : Nat} {e : Int} (hh : h < 256) (he : e ≠ 0) (h1 : digE k p (h + 1) = e) : digE k p 256 = e := by
  have := digE_stays k p e he (256 - (h + 1)) (h + 1) h1
  rwa [show h + 1 + (256 - (h + 1)) = 256 by omega] at this
theorem lft_s0 {bs : List Int} {h : Nat} (hb : bitB bs h = 0) : lft bs (h + 1) = lft bs h := by show lft bs h + (bitB bs h).toNat = _; rw [hb]; rfl
theorem lft_s1 {bs : List Int} {h : Nat} (hb : bitB bs h = 1) : lft bs (h + 1) = lft bs h + 1 := by show lft bs h + (bitB bs h).toNat = _; rw [hb]; rfl
theorem shr8_bd {x : Int} (h0 : 0 ≤ x) (h1 : x < 256) (p : Nat) : 0 ≤ x / 2 ^ p ∧ x / 2 ^ p < 256 := by
  have hp : (0 : Int) < 2 ^ p := Int.pow_pos (by decide)
  refine ⟨Int.ediv_nonneg h0 (by omega), Int.lt_of_le_of_lt (Int.ediv_le_self _ h0) h1⟩
theorem rng_keeps {w w1 : World} {g b o : Nat} {cs : List Value} (h : w.rangeAt b o cs) (hk : Keeps g w w1) (hb : b < w.heap.size) (hne : b ≠ g) : w1.rangeAt b o cs := fun j v hv => by
  rw [World.cell?_of_block (w := w) (hk.block b hb hne)]; exact h j v hv
/-- A slice of digests that does not lie in block g. -/
def SrcX (g : Nat) (w : World) (sp : Option Addr) (cap : Nat) (ss : List (List Int)) : Prop := SrcD w sp cap ss ∧ ∀ b o, sp = some ⟨b, o, none⟩ → 0 < ss.length → b ≠ g
theorem SrcX.tail {g : Nat} {w : World} {sp : Option Addr} {cap : Nat} {d : List Int} {ss : List (List Int)} (h : SrcX g w sp cap (d :: ss)) : SrcX g w (if cap = 1 then sp else sp.map (·.add 32)) (cap - 1) ss := by
  refine ⟨h.1.tail, fun b o e hl => ?_⟩
  obtain ⟨h1, h2, h0, b', o', h3, h4, h5⟩ := h.1
  rw [List.length_cons] at h1 h4
  have e2 := h4 (by omega)
  rw [if_neg (by omega), e2] at e
  have e3 : (some (⟨b', o' + 32, none⟩ : Addr)) = some ⟨b, o, none⟩ := e
  simp only [Option.some.injEq, Addr.mk.injEq] at e3
  obtain ⟨rfl, -, -⟩ := e3
  exact h.2 _ _ e2 (by simp)
theorem SrcX.keeps {g : Nat} {w w1 : World} {sp : Option Addr} {cap : Nat} {ss : List (List Int)} (h : SrcX g w sp cap ss) (hk : Keeps g w w1) : SrcX g w1 sp cap ss := by
  refine ⟨?_, h.2⟩
  obtain ⟨h1, h2, h0, b, o, h3, h4, h5⟩ := h.1
  exact ⟨h1, h2, h0, b, o, fun hl => Nat.lt_of_lt_of_le (h3 hl) hk.size, h4, fun j hj => rng_keeps (h5 j hj) hk (h3 (by omega)) (h.2 b o (h4 (by omega)) (by omega))⟩
theorem SrcX.first {g : Nat} {w : World} {sp : Option Addr} {cap : Nat} {d : List Int} {ss : List (List Int)} (h : SrcX g w sp cap (d :: ss)) : ∃ b o, sp = some ⟨b, o, none⟩ ∧ b < w.heap.size ∧ b ≠ g ∧ w.rangeAt b o (ints .u8 d) := by
  obtain ⟨b, o, e, hb, hr⟩ := h.1.at (by simp)
  have := hr 0 (by simp)
  rw [Nat.zero_mul, Nat.add_zero] at this
  exact ⟨b, o, e, hb, h.2 b o e (by simp), this⟩
theorem ss_cut (ss : List (List Int)) (l : Nat) (h : l < ss.length) : ss.drop l = ss.getD l [] :: ss.drop (l + 1) := by
  rw [List.drop_eq_getElem_cons h, List.getD_eq_getElem?_getD, List.getElem?_eq_getElem h]; rfl
end Go.Proofs.YtbjahdbmkcamoaaGreatDoor
