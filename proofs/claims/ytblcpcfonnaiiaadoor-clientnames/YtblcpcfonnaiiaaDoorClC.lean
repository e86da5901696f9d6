import Derived.Test.YtblcpcfonnaiiaaDoorClB
namespace Go.Proofs.YtblcpcfonnaiiaaDoor
set_option linter.unusedVariables false
set_option linter.unusedSimpArgs false
open Go.RowKit
attribute [local go_sem ↓] Go.wp_at_zero Go.wp_at_succ

theorem Tryd.sizeTm : (Tryd.prog.info? 41).map (·.size) = some 34 := by kernel_rfl
theorem Tryd.sizeCk : (Tryd.prog.info? 50).map (·.size) = some 103 := by kernel_rfl
theorem BK.setO {w0 w : World} {L : List (Nat × List Value × Nat)} (h : BK w0 w L) {b : Nat} (hb : w0.heap.size ≤ b) (hL : ∀ x, x ∈ L → x.1 ≠ b) (ys : Array Value) : BK w0 (w.setRow b ys) L :=
  ⟨below_setRow h.1 hb _, fun x hx => (setRow_other _ _ _ _ (hL x hx)).trans (h.2 x hx)⟩
/-! Terms: 34 cells; a check: 103. -/
def tmC (k : Int) (root : List Int) (e : Value) : List Value := [.int .i64 k] ++ (ints .u8 root ++ [e])
theorem tmC_len {k : Int} {root : List Int} {e : Value} (h : root.length = 32) : (tmC k root e).length = 34 := by simp [tmC, ints_len, h]
theorem tmC_one {k : Int} {root : List Int} {e : Value} (he : e.oneCell' = true) : ∀ v ∈ tmC k root e, v.oneCell' = true := fun v hv => by
  simp only [tmC, List.mem_append, List.mem_cons, List.not_mem_nil, or_false] at hv
  rcases hv with rfl | hv | rfl
  · rfl
  · exact ints_one _ _ v hv
  · exact he
theorem tmC_root {k : Int} {root : List Int} {e : Value} (j : Nat) (x : Value) (hx : (ints .u8 root)[j]? = some x) : (tmC k root e)[1 + j]? = some x := mid_at _ _ _ 1 j rfl x hx
theorem tmC_e {k : Int} {root : List Int} {e : Value} (h : root.length = 32) : (tmC k root e)[33]? = some e := by
  have := mid_at ([.int .i64 k] ++ ints .u8 root) [e] [] 33 0 (by simp [ints_len, h]) e rfl
  rw [List.append_nil, List.append_assoc] at this; exact this
def ckA (k : Int) (root ks : List Int) (e r : Value) : List Value := tmC k root e ++ (ints .u8 ks ++ [r])
theorem ckA_len {k : Int} {root ks : List Int} {e r : Value} (h : root.length = 32) (hk : ks.length = 32) : (ckA k root ks e r).length = 67 := by simp [ckA, tmC_len h, ints_len, hk]
def ckC (k : Int) (root ks : List Int) (e r : Value) (pc : List Value) (b : Value) : List Value := ckA k root ks e r ++ (pc ++ [b])
theorem ckC_len {k : Int} {root ks : List Int} {e r b : Value} {pc : List Value} (h : root.length = 32) (hk : ks.length = 32) (hp : pc.length = 35) : (ckC k root ks e r pc b).length = 103 := by simp [ckC, ckA_len h hk, hp]
theorem ckC_tm {k : Int} {root ks : List Int} {e r b : Value} {pc : List Value} (j : Nat) (x : Value) (hx : (tmC k root e)[j]? = some x) : (ckC k root ks e r pc b)[0 + j]? = some x := by
  have hj := (List.getElem?_eq_some_iff.1 hx).1
  unfold ckC ckA
  rw [Nat.zero_add, List.append_assoc, List.getElem?_append_left hj]; exact hx
theorem ckC_k {k : Int} {root ks : List Int} {e r b : Value} {pc : List Value} : (ckC k root ks e r pc b)[0]? = some (.int .i64 k) := ckC_tm 0 _ rfl
theorem ckC_root {k : Int} {root ks : List Int} {e r b : Value} {pc : List Value} (j : Nat) (x : Value) (hx : (ints .u8 root)[j]? = some x) : (ckC k root ks e r pc b)[1 + j]? = some x := by
  have := ckC_tm (k := k) (root := root) (ks := ks) (e := e) (r := r) (b := b) (pc := pc) (1 + j) x (tmC_root j x hx)
  rwa [Nat.zero_add] at this
theorem ckC_e {k : Int} {root ks : List Int} {e r b : Value} {pc : List Value} (h : root.length = 32) : (ckC k root ks e r pc b)[33]? = some e := ckC_tm 33 _ (tmC_e h)
theorem ckC_key {k : Int} {root ks : List Int} {e r b : Value} {pc : List Value} (h : root.length = 32) (j : Nat) (x : Value) (hx : (ints .u8 ks)[j]? = some x) : (ckC k root ks e r pc b)[34 + j]? = some x := by
  unfold ckC ckA
  rw [List.append_assoc, List.append_assoc]
  exact mid_at _ _ _ 34 j (tmC_len h) x hx
theorem ckC_r {k : Int} {root ks : List Int} {e r b : Value} {pc : List Value} (h : root.length = 32) (hk : ks.length = 32) : (ckC k root ks e r pc b)[66]? = some r := by
  have := mid_at (tmC k root e ++ ints .u8 ks) [r] (pc ++ [b]) 66 0 (by simp [tmC_len h, ints_len, hk]) r rfl
  unfold ckC ckA
  rw [List.append_assoc, List.append_assoc]
  rwa [List.append_assoc] at this
theorem ckC_p {k : Int} {root ks : List Int} {e r b : Value} {pc : List Value} (h : root.length = 32) (hk : ks.length = 32) (j : Nat) (x : Value) (hx : pc[j]? = some x) : (ckC k root ks e r pc b)[67 + j]? = some x := mid_at _ _ _ 67 j (ckA_len h hk) x hx
theorem ckC_b {k : Int} {root ks : List Int} {e r b : Value} {pc : List Value} (h : root.length = 32) (hk : ks.length = 32) (hp : pc.length = 35) : (ckC k root ks e r pc b)[102]? = some b := by
  have := mid_at (ckA k root ks e r ++ pc) [b] [] 102 0 (by simp [ckA_len h hk, hp]) b rfl
  unfold ckC
  rwa [List.append_nil, List.append_assoc] at this
theorem ckC_one {k : Int} {root ks : List Int} {e r b : Value} {pc : List Value} (he : e.oneCell' = true) (hr : r.oneCell' = true) (hb : b.oneCell' = true) (hp : ∀ v ∈ pc, v.oneCell' = true) : ∀ v ∈ ckC k root ks e r pc b, v.oneCell' = true := fun v hv => by
  simp only [ckC, ckA, List.mem_append, List.mem_cons, List.not_mem_nil, or_false] at hv
  rcases hv with (hv | hv | rfl) | hv | rfl
  · exact tmC_one he v hv
  · exact ints_one _ _ v hv
  · exact hr
  · exact hp v hv
  · exact hb
theorem ckC_setp {k : Int} {root ks : List Int} {e r b : Value} {pc qc : List Value} (h : root.length = 32) (hk : ks.length = 32) (hp : pc.length = 35) (hq : qc.length = 35) : (ckC k root ks e r pc b).take 67 ++ qc ++ (ckC k root ks e r pc b).drop (67 + qc.length) = ckC k root ks e r qc b := by
  have hA := ckA_len (k := k) (e := e) (r := r) h hk
  unfold ckC
  rw [List.take_append_of_le_length (by omega), List.take_of_length_le (by omega), List.drop_append, List.drop_of_length_le (by omega), hA, hq, show 67 + 35 - 67 = 35 by omega, List.nil_append, List.drop_append_of_le_length (by omega), List.drop_of_length_le (by omega), List.nil_append, List.append_assoc]
theorem ckC_setb {k : Int} {root ks : List Int} {e r b c : Value} {pc : List Value} (h : root.length = 32) (hk : ks.length = 32) (hp : pc.length = 35) : (ckC k root ks e r pc b).set 102 c = ckC k root ks e r pc c := by
  have hA := ckA_len (k := k) (e := e) (r := r) h hk
  unfold ckC
  rw [List.set_append_right _ _ (by omega), hA, List.set_append_right _ _ (by omega), hp]
  rfl
theorem list32c {l : List Value} (h : l.length = 32) : ∃ x0 x1 x2 x3 x4 x5 x6 x7 x8 x9 x10 x11 x12 x13 x14 x15 x16 x17 x18 x19 x20 x21 x22 x23 x24 x25 x26 x27 x28 x29 x30 x31, l = [x0, x1, x2, x3, x4, x5, x6, x7, x8, x9, x10, x11, x12, x13, x14, x15, x16, x17, x18, x19, x20, x21, x22, x23, x24, x25, x26, x27, x28, x29, x30, x31] := list32b h
theorem built_tm' (k : Int) (ks : List Value) (hk : ks.length = 32) (s : Option Addr) (n c : Nat) : Tryd.prog.built 41 [(0, .int .i64 k), (1, .agg ks.toArray), (2, .slice s n c)] = some ([Value.int .i64 k] ++ (ks ++ [Value.slice s n c])).toArray := by
  obtain ⟨x0, x1, x2, x3, x4, x5, x6, x7, x8, x9, x10, x11, x12, x13, x14, x15, x16, x17, x18, x19, x20, x21, x22, x23, x24, x25, x26, x27, x28, x29, x30, x31, rfl⟩ := list32b hk
  kernel_rfl
theorem built_tm (k : Int) (root : List Int) (h : root.length = 32) (s : Option Addr) (n c : Nat) : Tryd.prog.built 41 [(0, .int .i64 k), (1, .agg (ints .u8 root).toArray), (2, .slice s n c)] = some (tmC k root (.slice s n c)).toArray := built_tm' k _ (by rw [ints_len, h]) s n c
theorem built_tm0 : Tryd.prog.built 41 [] = some (tmC 0 zB (.slice none 0 0)).toArray := by kernel_rfl
theorem allocTm (a : Act) (o : Oper) (w : World) (ho : o.op = .alloc 41) : (execOp a.eval o).run Tryd.prog w = .ok (.value (.pointer (some ⟨w.heap.size, 0, none⟩))) (w.alloc (.cells (tmC 0 zB (.slice none 0 0)).toArray 41)) := by
  unfold execOp
  rw [ho]
  kernel_rfl
set_option maxRecDepth 100000 in
set_option maxHeartbeats 4000000 in
theorem termsOf_bad (w : World) (k : Int) (root : List Int) (hr : root.length = 32) (hk : k < 1 ∨ 32 < k) :
    Calls Tryd.prog 11 #[.int .i64 k, .agg (ints .u8 root).toArray] w fun e w' => e = .returned (.tuple #[.agg (tmC 0 zB (.slice none 0 0)).toArray, .int .i64 1]) ∧ Below w.heap.size w w' := by
  have AT := hid allocTm
  have BT := hid built_tm0
  have d0 := ((BK.nil w).alloc (ints .u8 root) 29).alloc (tmC 0 zB (.slice none 0 0)) 41
  rw [show (w.alloc (.cells (ints .u8 root).toArray 29)).heap.size = w.heap.size + 1 by simp] at d0
  have r0 := d0.row (.head _)
  have LT := hid (show (tmC 0 zB (.slice none 0 0)).length = 34 from rfl)
  have OT := hid (tmC_one (k := 0) (root := zB) (e := .slice none 0 0) rfl)
  generalize tmC 0 zB (.slice none 0 0) = Z at *
  by_cases h1 : k < 1
  · go_enter Tryd.func11, Tryd.ntmps11
    go_wp2_with (first
      | refine wpList_allocV AT.out rfl rfl ?_
      | refine wpList_built (by rfl) 41 _ (by rfl) _ (by rfl) _ BT.out ?_
      | refine wpList_store_row rfl 41 _ _ (by rfl) (w.heap.size + 1) Z.toArray (by rfl) (by rfl) 41 _ r0 (by rw [Tryd.sizeTm, List.size_toArray, LT.out]) (by rfl) (all_oneCell_toArray OT.out) ?_)
    exact bodyPost_ret (v := .tuple #[.agg Z.toArray, .int .i64 1]) (results_c2 Tryd.results11 _ _ (w.heap.size + 1) 41 _ _ _ rfl (setRow_heap _ _ _ _ _ _ r0) Tryd.underlying41 rfl (by rw [Tryd.sizeTm, List.size_toArray, LT.out])) rfl ⟨rfl, below_setRow d0.1 (by omega) _⟩
  · have h2 : 32 < k := by omega
    go_enter Tryd.func11, Tryd.ntmps11
    go_wp2_with (first
      | refine wpList_allocV AT.out rfl rfl ?_
      | refine wpList_built (by rfl) 41 _ (by rfl) _ (by rfl) _ BT.out ?_
      | refine wpList_store_row rfl 41 _ _ (by rfl) (w.heap.size + 1) Z.toArray (by rfl) (by rfl) 41 _ r0 (by rw [Tryd.sizeTm, List.size_toArray, LT.out]) (by rfl) (all_oneCell_toArray OT.out) ?_)
    exact bodyPost_ret (v := .tuple #[.agg Z.toArray, .int .i64 1]) (results_c2 Tryd.results11 _ _ (w.heap.size + 1) 41 _ _ _ rfl (setRow_heap _ _ _ _ _ _ r0) Tryd.underlying41 rfl (by rw [Tryd.sizeTm, List.size_toArray, LT.out])) rfl ⟨rfl, below_setRow d0.1 (by omega) _⟩
set_option maxRecDepth 100000 in
set_option maxHeartbeats 4000000 in
theorem termsOf_ok (w : World) (hG : Glob w) (k : Int) (root : List Int) (hr : root.length = 32) (h1 : 1 ≤ k) (h2 : k ≤ 32) :
    Calls Tryd.prog 11 #[.int .i64 k, .agg (ints .u8 root).toArray] w fun e w' => ∃ g, e = .returned (.tuple #[.agg (tmC k root (.slice (some ⟨g, 0, none⟩) 256 256)).toArray, .int .i64 0]) ∧ w.heap.size ≤ g ∧ w'.heap[g]? = some (.cells (ints .u8 (emps k 256).flatten).toArray 29 (0, 0)) ∧ Below w.heap.size w w' := by
  have AT := hid allocTm
  have BT := hid (fun s n c => built_tm k root hr s n c)
  have d0 := ((BK.nil w).alloc (ints .u8 root) 29).alloc (tmC 0 zB (.slice none 0 0)) 41
  rw [show (w.alloc (.cells (ints .u8 root).toArray 29)).heap.size = w.heap.size + 1 by simp] at d0
  have r0 := d0.row (.head _)
  have hlt1 := d0.lt (.head _)
  have LZ := hid (show (tmC 0 zB (.slice none 0 0)).length = 34 from rfl)
  have LT := hid (fun e => tmC_len (k := k) (e := e) hr)
  have OT := hid (fun s n c => tmC_one (k := k) (root := root) (e := .slice s n c) rfl)
  have LS := hid (show (Tryd.prog.info? 29).map (·.size) = some (ints .u8 root).length by rw [Tryd.sizeD, ints_len, hr])
  have d1 : BK w _ [(w.heap.size, ints .u8 root, 29)] := d0.sub (fun x hx => .tail _ hx)
  have KE := hid (fun w1 (h : Glob w1) => empties_any w1 h k)
  generalize emps k 256 = EM at *
  generalize tmC 0 zB (.slice none 0 0) = Z at *
  generalize tmC k root = TM at *
  generalize ints .u8 root = IR at *
  clear d0
  go_enter Tryd.func11, Tryd.ntmps11
  go_wp2_with (first | refine wpList_allocV AT.out rfl rfl ?_)
  generalize (w.alloc (.cells IR.toArray 29)).alloc (.cells Z.toArray 41) = w1 at *
  refine wp_region_noPanic ?_
  refine wp_region_held_drew (S := (fun w' => BK w w' [(w.heap.size, IR, 29)])) (by kernel_rfl) d1.drew (fun hHeld => ?_)
  refine wpAnyH_take (i := 0) (oi := { dst := some 13, op := Op.move (Operand.tmp 0), type := 3, pos := "check.go:35", after := #[], guard := none }) (v := .int .i64 k) rfl (by kernel_rfl) (by kernel_rfl) (by kernel_rfl) (fun _ _ _ h => h) (Or.inl ⟨by rfl, by intro w hS; go_simp⟩) hHeld ?_
  try simp only [Act.put, List.setIfInBounds_toArray, List.set_cons_zero, List.set_cons_succ]
  refine wpAnyH_take (i := 1) (oi := { dst := some 14, op := Op.load 29 (Operand.tmp 3), type := 29, pos := "check.go:35", after := #[], guard := none }) (v := .agg (IR).toArray) rfl (by kernel_rfl) (by kernel_rfl) (by kernel_rfl) (fun _ _ _ h => h) (yieldsIf_load_mid (by rfl) 29 _ rfl w.heap.size (0) rfl (IR) _ (fun w hS => hS.rng (.head _) (fun j x hx => by rw [Nat.zero_add]; exact hx)) Tryd.underlying29 rfl LS.out) hHeld ?_
  try simp only [Act.put, List.setIfInBounds_toArray, List.set_cons_zero, List.set_cons_succ]
  refine wpAnyH_take (i := 2) (oi := { dst := some 15, op := Op.move (Operand.tmp 0), type := 3, pos := "check.go:35", after := #[], guard := none }) (v := .int .i64 k) rfl (by kernel_rfl) (by kernel_rfl) (by kernel_rfl) (fun _ _ _ h => h) (Or.inl ⟨by rfl, by intro w hS; go_simp⟩) hHeld ?_
  try simp only [Act.put, List.setIfInBounds_toArray, List.set_cons_zero, List.set_cons_succ]
  refine wpAnyH_ready (rs := [3]) (by kernel_rfl) (by simp) ?_
  refine (AllReadyH.cons (o := { dst := some 16, op := Op.call { callee := Callee.value (Operand.func 22), args := #[Operand.tmp 15], argTypes := #[3] }, type := 39, pos := "check.go:35", after := #[{ on := 2, ground := Ground.data }], guard := none }) rfl (fun K hK => ?_) AllReadyH.nil)
  go_simp
  go_at_call 22
  refine (KE.out _ (hG.below hHeld.1 hG.1)).mono ?_
  rintro e w4 ⟨g, rfl, hg4, r4, hb4⟩
  have q4 := hbel (hb4) (show w1.drew.heap[w.heap.size + 1]? = _ from r0) hlt1
  have hgg : w.heap.size + 1 < g := Nat.lt_of_lt_of_le hlt1 hg4
  go_wp2_with fail
  refine hK.out _ _ (hHeld.call hb4) (fun hHeld2 => ?_)
  clear hK K hHeld
  have hHeld := hHeld2
  clear hHeld2
  try simp only [Act.put, List.setIfInBounds_toArray, List.set_cons_zero, List.set_cons_succ]
  refine wpAnyH_take (i := 4) (oi := { dst := some 17, op := Op.build 41 #[(0, Operand.tmp 13), (1, Operand.tmp 14), (2, Operand.tmp 16)], type := 41, pos := "check.go:35", after := #[{ on := 0, ground := Ground.data }, { on := 1, ground := Ground.data }, { on := 3, ground := Ground.data }], guard := none }) (v := .agg (TM (.slice (some ⟨g, 0, none⟩) 256 256)).toArray) rfl (by kernel_rfl) (by kernel_rfl) (by kernel_rfl) (fun _ _ _ h => h) (yieldsIf_built (by rfl) 41 #[(0, Operand.tmp 13), (1, Operand.tmp 14), (2, Operand.tmp 16)] rfl _ rfl _ (BT.out _ _ _)) hHeld ?_
  try simp only [Act.put, List.setIfInBounds_toArray, List.set_cons_zero, List.set_cons_succ]
  refine wpAnyH_ready (rs := [5]) (by kernel_rfl) (by simp) ?_
  refine (AllReadyH.cons (o := { dst := none, op := Op.store 41 (Operand.tmp 4) (Operand.tmp 17), type := 0, pos := "check.go:35", after := #[{ on := 4, ground := Ground.data }, { on := 3, ground := Ground.chain }, { on := 0, ground := Ground.phase }, { on := 1, ground := Ground.phase }, { on := 2, ground := Ground.phase }, { on := 3, ground := Ground.phase }, { on := 4, ground := Ground.phase }], guard := none }) rfl (fun K hK => ?_) AllReadyH.nil)
  rw [if_pos (by rfl)]
  refine wp_store_row 41 _ _ rfl (w.heap.size + 1) (TM (.slice (some ⟨g, 0, none⟩) 256 256)).toArray rfl rfl 41 _ q4 (by rw [Tryd.sizeTm, List.size_toArray, LT.out]) (by rw [List.size_toArray, List.size_toArray, LT.out, LZ.out]) (all_oneCell_toArray (OT.out _ _ _)) ?_
  have hb5 := below_setRow (hHeld.1) (show w.heap.size ≤ w.heap.size + 1 by omega) (TM (.slice (some ⟨g, 0, none⟩) 256 256)).toArray
  have r5 := (setRow_other _ (w.heap.size + 1) g (TM (.slice (some ⟨g, 0, none⟩) 256 256)).toArray (by omega)).trans r4
  refine hK.out _ _ (hHeld.setO (by omega) (by intro x hx; simp only [List.mem_cons, List.not_mem_nil, or_false] at hx; subst hx; simp) _) (fun hHeld2 => ?_)
  clear hK K hHeld
  have hHeld := hHeld2
  clear hHeld2
  try simp only [Act.put, List.setIfInBounds_toArray, List.set_cons_zero, List.set_cons_succ]
  refine wpAnyH_take (i := 6) (oi := { dst := some 5, op := Op.assign (Operand.const (Value.int IntKind.i64 0)), type := 25, pos := "check.go:35", after := #[{ on := 5, ground := Ground.chain }, { on := 0, ground := Ground.phase }, { on := 1, ground := Ground.phase }, { on := 2, ground := Ground.phase }, { on := 3, ground := Ground.phase }, { on := 4, ground := Ground.phase }, { on := 5, ground := Ground.phase }], guard := none }) (v := .int IntKind.i64 0) rfl (by kernel_rfl) (by kernel_rfl) (by kernel_rfl) (fun _ _ _ h => h) (Or.inl ⟨by rfl, by intro w hS; go_simp⟩) hHeld ?_
  try simp only [Act.put, List.setIfInBounds_toArray, List.set_cons_zero, List.set_cons_succ]
  refine wpAnyH_done (by kernel_rfl) ?_ _
  refine NoPanic.normal ?_
  go_wp2
  exact bodyPost_ret (v := .tuple #[.agg (TM (.slice (some ⟨g, 0, none⟩) 256 256)).toArray, .int .i64 0]) (results_c2 Tryd.results11 _ _ (w.heap.size + 1) 41 _ _ _ rfl (setRow_heap _ _ _ _ _ _ q4) Tryd.underlying41 rfl (by rw [Tryd.sizeTm, List.size_toArray, LT.out])) rfl ⟨g, rfl, by omega, r5, hb5⟩
end Go.Proofs.YtblcpcfonnaiiaaDoor
