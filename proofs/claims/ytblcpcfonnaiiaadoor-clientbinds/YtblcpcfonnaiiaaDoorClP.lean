import Derived.Test.YtblcpcfonnaiiaaDoorClO
namespace Go.Proofs.YtblcpcfonnaiiaaDoor
set_option linter.unusedVariables false
set_option linter.unusedSimpArgs false
open Go.RowKit
attribute [local go_sem ↓] Go.wp_at_zero Go.wp_at_succ

theorem z33_of {w0 w : World} {L : List (Nat × List Value × Nat)} (h : BK w0 w L) : Src (w.alloc (.cells (ints .u8 z33).toArray 5)) (some ⟨w.heap.size, 0, none⟩) 33 z33 :=
  src_row (tl := []) (by rw [List.append_nil]; exact hnew w _) 33 (by decide) (by simp [maxLen])
theorem an_of {w0 w : World} {L : List (Nat × List Value × Nat)} (h : BK w0 w L) : (w.alloc (.cells (ansC false (.slice none 0 0)).toArray 24)).heap[w.heap.size]? = some (.cells (ansC false (.slice none 0 0)).toArray 24 (0, 0)) := hnew w _
theorem an_lt {w0 w : World} {b t b2 t2 : Nat} {zs ys : List Value} (h : BK w0 w [(b, zs, t), (b2, ys, t2)]) : b < w.heap.size ∧ b2 < w.heap.size := ⟨h.lt (.head _), h.lt (.tail _ (.head _))⟩
theorem sz_al (w : World) (o : Obj) : (w.alloc o).heap.size = w.heap.size + 1 := by simp
theorem sz_dr (w : World) : w.drew.heap.size = w.heap.size := rfl
theorem own_setO {w : World} {base g : Nat} {v : Value} {zs : List Int} {cs : Array Value} {fr : Nat × Nat} (h : Own w base v zs) (hg : w.heap[g]? = some (.cells cs 24 fr)) (ys : Array Value) : Own (w.setRow g ys) base v zs := h.of_heap fun k e => by
  obtain ⟨_, cur, hc⟩ := ownsRow_block h k e
  exact setRow_other _ g k _ (ne_tyC hc hg (by decide))
theorem below_new' (w : World) (o : Obj) : Below w.heap.size w (w.alloc o) := (Below.refl _ _).alloc (Nat.le_refl _) _
theorem mk33 (w : World) : (Instr.makeSlice 22 (.int .i64 33) (.int .i64 33)).run Tryd.prog w = .ok (.slice (some ⟨w.heap.size, 0, none⟩) 33 33) (w.alloc (.cells (ints .u8 z33).toArray 5)) := by kernel_rfl
theorem Gb.glob {w : World} (h : Gb w) : Glob w := h.1
theorem ne_two {b b1 b2 : Nat} {z1 z2 : List Value} {t1 t2 : Nat} (h1 : b1 ≠ b) (h2 : b2 ≠ b) : ∀ x, x ∈ [(b1, z1, t1), (b2, z2, t2)] → x.1 ≠ b := fun x hx => by
  simp only [List.mem_cons, List.not_mem_nil, or_false] at hx
  rcases hx with rfl | rfl
  · exact h1
  · exact h2
set_option maxRecDepth 100000 in
set_option maxHeartbeats 4000000 in
theorem reg1 (w0 w : World) (hG : Gb w0) (k : Int) (root ks : List Int) (hr : root.length = 32) (hk : ks.length = 32) (B6 B7 : Nat) (vE : Int) (vF : Bool) (vV : List Int) (E256 : List Int) {Q : Exit → Act → World → Prop} {u1 u2 u3 u4 u5 u8 u9 u10 u11 u12 u13 u14 u15 u16 u17 u18 u19 u20 u21 u22 u23 u24 u25 u26 u27 u28 u29 u30 u31 u32 u33 u34 u35 u36 u37 u38 u39 u40 u41 u42 u43 u44 u45 u46 u47 u48 u49 u50 u51 u52 u53 u54 u55 u56 u57 u58 u59 u60 u61 u62 u63 u64 u65 u66 u67 u68 u69 u70 u71 u72 u73 u74 u75 u76 u77 u78 u79 u80 u81 u82 u83 u84 u85 u86 u87 u88 u89 u90 u91 u92 u93 u94 u95 u96 u97 u98 u99 u100 u101 u102 u103 u104 u105 u106 u107 u108 u109 u110 u111 u112 u113 u114 u115 u116 u117 u118 u119 u120 u121 u122 u123 u124 u125 u126 u127 u128 u129 u130 u131 u132 u133 u134 u135 u136 u137 u138 u139 u140 u141 u142 u143 u144 u145 u146 u147 u148 u149 u150 u151 u152 u153 u154 u155 u156 u157 u158 u159 u160 u161 u162 u163 u164 u165 u166 u167 u168 u169 u170 u171 : Value} (h6 : w0.heap.size ≤ B6) (d0 : BK w0 w [(B7, ints .u8 ks, 31), (B6, ints .u8 root, 29)]) (KX : Hid (∀ w1, Gb w1 → Calls Tryd.prog 6 #[.int .i64 k, .int .i64 256] w1 fun e w' => e = .returned (.agg (ints .u8 E256).toArray) ∧ Below w1.heap.size w1 w')) (KV : Hid (∀ w1, Glob w1 → ∀ sp cap, Src w1 sp cap z33 → Calls Tryd.prog 5 #[.int .i64 k, .agg (ints .u8 E256).toArray, .agg (ints .u8 ks).toArray, .slice sp 33 cap] w1 fun e w' => ∃ s c, e = .returned (.tuple #[.agg (ansC vF (.slice s vV.length c)).toArray, .int .i64 vE]) ∧ Own w' w1.heap.size (.slice s vV.length c) vV ∧ Below w1.heap.size w1 w'))
    (HK : ∀ (ga : Nat) (s : Option Addr) (c : Nat) (w' : World) (t24 t25 t26 t27 t28 t29 t23 t30 t31 : Value), BK w0 w' [(B7, ints .u8 ks, 31), (B6, ints .u8 root, 29)] → Below w.heap.size w w' → w.heap.size ≤ ga → w'.heap[ga]? = some (.cells (ansC vF (.slice s vV.length c)).toArray 24 (0, 0)) → Own w' w.heap.size (.slice s vV.length c) vV → Q .normal { tmps := #[.int .i64 k, u1, u2, u3, u4, u5, .pointer (some ⟨B6, 0, none⟩), .pointer (some ⟨B7, 0, none⟩), u8, u9, u10, .pointer (some ⟨ga, 0, none⟩), .int .i64 vE, u13, u14, u15, u16, u17, u18, u19, u20, u21, u22, t23, t24, t25, t26, t27, t28, t29, t30, t31, u32, u33, u34, u35, u36, u37, u38, u39, u40, u41, u42, u43, u44, u45, u46, u47, u48, u49, u50, u51, u52, u53, u54, u55, u56, u57, u58, u59, u60, u61, u62, u63, u64, u65, u66, u67, u68, u69, u70, u71, u72, u73, u74, u75, u76, u77, u78, u79, u80, u81, u82, u83, u84, u85, u86, u87, u88, u89, u90, u91, u92, u93, u94, u95, u96, u97, u98, u99, u100, u101, u102, u103, u104, u105, u106, u107, u108, u109, u110, u111, u112, u113, u114, u115, u116, u117, u118, u119, u120, u121, u122, u123, u124, u125, u126, u127, u128, u129, u130, u131, u132, u133, u134, u135, u136, u137, u138, u139, u140, u141, u142, u143, u144, u145, u146, u147, u148, u149, u150, u151, u152, u153, u154, u155, u156, u157, u158, u159, u160, u161, u162, u163, u164, u165, u166, u167, u168, u169, u170, u171], defers := [] } w') :
    Code.wp Tryd.prog (Code.region 1 #[{ dst := some 24, op := Op.move (Operand.tmp 0), type := 3, pos := "law.go:417", after := #[], guard := none }, { dst := some 25, op := Op.move (Operand.tmp 0), type := 3, pos := "law.go:417", after := #[], guard := none }, { dst := some 26, op := Op.call { callee := Callee.value (Operand.func 6), args := #[Operand.tmp 25, Operand.const (Value.int IntKind.i64 256)], argTypes := #[3, 3] }, type := 29, pos := "law.go:417", after := #[{ on := 1, ground := Ground.data }], guard := none }, { dst := some 27, op := Op.load 31 (Operand.tmp 7), type := 31, pos := "law.go:417", after := #[], guard := none }, { dst := some 28, op := Op.makeSlice 22 (Operand.const (Value.int IntKind.i64 33)) (Operand.const (Value.int IntKind.i64 33)), type := 22, pos := "law.go:417", after := #[], guard := none }, { dst := some 29, op := Op.call { callee := Callee.value (Operand.func 5), args := #[Operand.tmp 24, Operand.tmp 26, Operand.tmp 27, Operand.tmp 28], argTypes := #[3, 29, 31, 22] }, type := 26, pos := "law.go:417", after := #[{ on := 0, ground := Ground.data }, { on := 2, ground := Ground.data }, { on := 3, ground := Ground.data }, { on := 4, ground := Ground.data }, { on := 2, ground := Ground.chain }], guard := none }, { dst := some 23, op := Op.move (Operand.tmp 29), type := 26, pos := "law.go:417", after := #[{ on := 5, ground := Ground.data }], guard := none }, { dst := some 30, op := Op.extract (Operand.tmp 23) 0, type := 24, pos := "law.go:417", after := #[{ on := 6, ground := Ground.data }], guard := none }, { dst := some 31, op := Op.extract (Operand.tmp 23) 1, type := 25, pos := "law.go:417", after := #[{ on := 6, ground := Ground.data }, { on := 10, ground := Ground.gcOnly Departure.lateStores }], guard := none }, { dst := some 11, op := Op.alloc 24, type := 0, pos := "law.go:417", after := #[], guard := none }, { dst := none, op := Op.store 24 (Operand.tmp 11) (Operand.tmp 30), type := 0, pos := "law.go:417", after := #[{ on := 9, ground := Ground.data }, { on := 7, ground := Ground.data }, { on := 5, ground := Ground.chain }, { on := 0, ground := Ground.phase }, { on := 1, ground := Ground.phase }, { on := 2, ground := Ground.phase }, { on := 3, ground := Ground.phase }, { on := 4, ground := Ground.phase }, { on := 5, ground := Ground.phase }, { on := 6, ground := Ground.phase }, { on := 7, ground := Ground.phase }, { on := 8, ground := Ground.textOnly Departure.lateStores }, { on := 9, ground := Ground.phase }], guard := none }, { dst := some 12, op := Op.assign (Operand.tmp 31), type := 25, pos := "law.go:417", after := #[{ on := 8, ground := Ground.data }, { on := 10, ground := Ground.chain }, { on := 0, ground := Ground.phase }, { on := 1, ground := Ground.phase }, { on := 2, ground := Ground.phase }, { on := 3, ground := Ground.phase }, { on := 4, ground := Ground.phase }, { on := 5, ground := Ground.phase }, { on := 6, ground := Ground.phase }, { on := 7, ground := Ground.phase }, { on := 8, ground := Ground.phase }, { on := 9, ground := Ground.phase }, { on := 10, ground := Ground.phase }], guard := none }] true) Q { tmps := #[.int .i64 k, u1, u2, u3, u4, u5, .pointer (some ⟨B6, 0, none⟩), .pointer (some ⟨B7, 0, none⟩), u8, u9, u10, u11, u12, u13, u14, u15, u16, u17, u18, u19, u20, u21, u22, u23, u24, u25, u26, u27, u28, u29, u30, u31, u32, u33, u34, u35, u36, u37, u38, u39, u40, u41, u42, u43, u44, u45, u46, u47, u48, u49, u50, u51, u52, u53, u54, u55, u56, u57, u58, u59, u60, u61, u62, u63, u64, u65, u66, u67, u68, u69, u70, u71, u72, u73, u74, u75, u76, u77, u78, u79, u80, u81, u82, u83, u84, u85, u86, u87, u88, u89, u90, u91, u92, u93, u94, u95, u96, u97, u98, u99, u100, u101, u102, u103, u104, u105, u106, u107, u108, u109, u110, u111, u112, u113, u114, u115, u116, u117, u118, u119, u120, u121, u122, u123, u124, u125, u126, u127, u128, u129, u130, u131, u132, u133, u134, u135, u136, u137, u138, u139, u140, u141, u142, u143, u144, u145, u146, u147, u148, u149, u150, u151, u152, u153, u154, u155, u156, u157, u158, u159, u160, u161, u162, u163, u164, u165, u166, u167, u168, u169, u170, u171], defers := [] } w := by
  have AA := hid allocAn
  have mz := mk33
  have LK := hid (show (Tryd.prog.info? 31).map (·.size) = some (ints .u8 ks).length by rw [Tryd.sizeKy, ints_len, hk])
  have LR := hid (show (Tryd.prog.info? 29).map (·.size) = some (ints .u8 root).length by rw [Tryd.sizeD, ints_len, hr])
  refine wp_region_noPanic ?_
  refine wp_region_held_drew (S := (fun w' => BK w0 w' [(B7, ints .u8 ks, 31), (B6, ints .u8 root, 29)] ∧ Below w.heap.size w w')) (by kernel_rfl) ⟨d0.drew, (Below.refl _ _).drew⟩ (fun hHeld => ?_)
  refine wpAnyH_take (i := 0) (oi := { dst := some 24, op := Op.move (Operand.tmp 0), type := 3, pos := "law.go:417", after := #[], guard := none }) (v := .int .i64 k) rfl (by kernel_rfl) (by kernel_rfl) (by kernel_rfl) (fun _ _ _ h => h) (Or.inl ⟨by rfl, by intro w hS; go_simp⟩) hHeld ?_
  try simp only [Act.put, List.setIfInBounds_toArray, List.set_cons_zero, List.set_cons_succ]
  refine wpAnyH_take (i := 1) (oi := { dst := some 25, op := Op.move (Operand.tmp 0), type := 3, pos := "law.go:417", after := #[], guard := none }) (v := .int .i64 k) rfl (by kernel_rfl) (by kernel_rfl) (by kernel_rfl) (fun _ _ _ h => h) (Or.inl ⟨by rfl, by intro w hS; go_simp⟩) hHeld ?_
  try simp only [Act.put, List.setIfInBounds_toArray, List.set_cons_zero, List.set_cons_succ]
  refine wpAnyH_take (i := 3) (oi := { dst := some 27, op := Op.load 31 (Operand.tmp 7), type := 31, pos := "law.go:417", after := #[], guard := none }) (v := .agg (ints .u8 ks).toArray) rfl (by kernel_rfl) (by kernel_rfl) (by kernel_rfl) (fun _ _ _ h => h) (yieldsIf_load_mid (by rfl) 31 _ rfl B7 (0) rfl (ints .u8 ks) _ (fun w hS => hS.1.rng (.head _) (fun j x hx => by rw [Nat.zero_add]; exact hx)) Tryd.underlying31 rfl LK.out) hHeld ?_
  try simp only [Act.put, List.setIfInBounds_toArray, List.set_cons_zero, List.set_cons_succ]
  refine wpAnyH_ready (rs := [2, 4, 9]) (by kernel_rfl) (by simp) ?_
  refine (AllReadyH.cons (o := { dst := some 26, op := Op.call { callee := Callee.value (Operand.func 6), args := #[Operand.tmp 25, Operand.const (Value.int IntKind.i64 256)], argTypes := #[3, 3] }, type := 29, pos := "law.go:417", after := #[{ on := 1, ground := Ground.data }], guard := none }) rfl (fun K hK => ?_) (AllReadyH.cons (o := { dst := some 28, op := Op.makeSlice 22 (Operand.const (Value.int IntKind.i64 33)) (Operand.const (Value.int IntKind.i64 33)), type := 22, pos := "law.go:417", after := #[], guard := none }) rfl (fun K hK => ?_) (AllReadyH.cons (o := { dst := some 11, op := Op.alloc 24, type := 0, pos := "law.go:417", after := #[], guard := none }) rfl (fun K hK => ?_) AllReadyH.nil)))
  · skip
    go_simp
    go_at_call 6
    refine (KX.out _ (hG.below hHeld.1.1 hG.1.1)).mono ?_
    rintro e w4 ⟨rfl, hb4⟩
    try replace hA := hbel hb4 hA (hlt hA)
    try replace hZ := hZ.below hb4 (Nat.le_refl _)
    go_wp2_with fail
    refine hK.out _ _ (⟨hHeld.1.call hb4, hHeld.2.trans (hb4.mono hHeld.2.size)⟩) (fun hHeld2 => ?_)
    clear hK K hHeld
    have hHeld := hHeld2
    clear hHeld2
    try simp only [Act.put, List.setIfInBounds_toArray, List.set_cons_zero, List.set_cons_succ]
    refine wpAnyH_ready (rs := [4, 9]) (by kernel_rfl) (by simp) ?_
    refine (AllReadyH.cons (o := { dst := some 28, op := Op.makeSlice 22 (Operand.const (Value.int IntKind.i64 33)) (Operand.const (Value.int IntKind.i64 33)), type := 22, pos := "law.go:417", after := #[], guard := none }) rfl (fun K hK => ?_) (AllReadyH.cons (o := { dst := some 11, op := Op.alloc 24, type := 0, pos := "law.go:417", after := #[], guard := none }) rfl (fun K hK => ?_) AllReadyH.nil))
    · skip
      have hZ := z33_of hHeld.1
      try simp only [sz_al, sz_dr] at hZ
      try replace hA := hold (o := .cells (ints .u8 z33).toArray 5) hA
      try replace hD := hold (o := .cells (ints .u8 z33).toArray 5) hD
      go_simp
      refine hK.out _ _ (⟨hHeld.1.other _, hHeld.2.alloc hHeld.2.size _⟩) (fun hHeld2 => ?_)
      clear hK K hHeld
      have hHeld := hHeld2
      clear hHeld2
      try simp only [Act.put, List.setIfInBounds_toArray, List.set_cons_zero, List.set_cons_succ]
      refine wpAnyH_ready (rs := [5, 9]) (by kernel_rfl) (by simp) ?_
      refine (AllReadyH.cons (o := { dst := some 29, op := Op.call { callee := Callee.value (Operand.func 5), args := #[Operand.tmp 24, Operand.tmp 26, Operand.tmp 27, Operand.tmp 28], argTypes := #[3, 29, 31, 22] }, type := 26, pos := "law.go:417", after := #[{ on := 0, ground := Ground.data }, { on := 2, ground := Ground.data }, { on := 3, ground := Ground.data }, { on := 4, ground := Ground.data }, { on := 2, ground := Ground.chain }], guard := none }) rfl (fun K hK => ?_) (AllReadyH.cons (o := { dst := some 11, op := Op.alloc 24, type := 0, pos := "law.go:417", after := #[], guard := none }) rfl (fun K hK => ?_) AllReadyH.nil))
      · skip
        go_simp
        go_at_call 5
        refine (KV.out _ (hG.1.below hHeld.1.1 hG.1.1) _ _ hZ).mono ?_
        rintro e w5 ⟨s5, c5, rfl, hO5, hb5⟩
        try replace hA := hbel hb5 hA (hlt hA)
        replace hO5 := own_lower hO5 hHeld.2.size
        go_wp2_with fail
        refine hK.out _ _ (⟨hHeld.1.call hb5, hHeld.2.trans (hb5.mono hHeld.2.size)⟩) (fun hHeld2 => ?_)
        clear hK K hHeld
        have hHeld := hHeld2
        clear hHeld2
        try simp only [Act.put, List.setIfInBounds_toArray, List.set_cons_zero, List.set_cons_succ]
        refine wpAnyH_take (i := 6) (oi := { dst := some 23, op := Op.move (Operand.tmp 29), type := 26, pos := "law.go:417", after := #[{ on := 5, ground := Ground.data }], guard := none }) (v := .tuple #[.agg (ansC vF (.slice s5 vV.length c5)).toArray, .int .i64 vE]) rfl (by kernel_rfl) (by kernel_rfl) (by kernel_rfl) (fun _ _ _ h => h) (Or.inl ⟨by rfl, by intro w hS; go_simp⟩) hHeld ?_
        try simp only [Act.put, List.setIfInBounds_toArray, List.set_cons_zero, List.set_cons_succ]
        refine wpAnyH_take (i := 7) (oi := { dst := some 30, op := Op.extract (Operand.tmp 23) 0, type := 24, pos := "law.go:417", after := #[{ on := 6, ground := Ground.data }], guard := none }) (v := .agg (ansC vF (.slice s5 vV.length c5)).toArray) rfl (by kernel_rfl) (by kernel_rfl) (by kernel_rfl) (fun _ _ _ h => h) (Or.inl ⟨by rfl, by intro w hS; go_simp⟩) hHeld ?_
        try simp only [Act.put, List.setIfInBounds_toArray, List.set_cons_zero, List.set_cons_succ]
        refine wpAnyH_take (i := 8) (oi := { dst := some 31, op := Op.extract (Operand.tmp 23) 1, type := 25, pos := "law.go:417", after := #[{ on := 6, ground := Ground.data }, { on := 10, ground := Ground.gcOnly Departure.lateStores }], guard := none }) (v := .int .i64 vE) rfl (by kernel_rfl) (by kernel_rfl) (by kernel_rfl) (fun _ _ _ h => h) (Or.inl ⟨by rfl, by intro w hS; go_simp⟩) hHeld ?_
        try simp only [Act.put, List.setIfInBounds_toArray, List.set_cons_zero, List.set_cons_succ]
        refine wpAnyH_ready (rs := [9]) (by kernel_rfl) (by simp) ?_
        refine (AllReadyH.cons (o := { dst := some 11, op := Op.alloc 24, type := 0, pos := "law.go:417", after := #[], guard := none }) rfl (fun K hK => ?_) AllReadyH.nil)
        have hA := an_of hHeld.1
        have hgA := an_lt hHeld.1
        have hgB := hHeld.2.size
        try replace hO5 := hO5.below (below_new' _ (.cells (ansC false (.slice none 0 0)).toArray 24)) (Nat.le_refl _)
        try replace hZ := hZ.below (below_new' _ (.cells (ansC false (.slice none 0 0)).toArray 24)) (Nat.le_refl _)
        try simp only [sz_al, sz_dr] at hA hgA hgB
        rw [if_pos (by rfl)]
        unfold Oper.wp
        rw [AA.out _ _ _ rfl]
        refine hK.out _ _ (⟨hHeld.1.other _, hHeld.2.alloc hHeld.2.size _⟩) (fun hHeld2 => ?_)
        clear hK K hHeld
        have hHeld := hHeld2
        clear hHeld2
        try simp only [Act.put, List.setIfInBounds_toArray, List.set_cons_zero, List.set_cons_succ]
        refine wpAnyH_ready (rs := [10]) (by kernel_rfl) (by simp) ?_
        refine (AllReadyH.cons (o := { dst := none, op := Op.store 24 (Operand.tmp 11) (Operand.tmp 30), type := 0, pos := "law.go:417", after := #[{ on := 9, ground := Ground.data }, { on := 7, ground := Ground.data }, { on := 5, ground := Ground.chain }, { on := 0, ground := Ground.phase }, { on := 1, ground := Ground.phase }, { on := 2, ground := Ground.phase }, { on := 3, ground := Ground.phase }, { on := 4, ground := Ground.phase }, { on := 5, ground := Ground.phase }, { on := 6, ground := Ground.phase }, { on := 7, ground := Ground.phase }, { on := 8, ground := Ground.textOnly Departure.lateStores }, { on := 9, ground := Ground.phase }], guard := none }) rfl (fun K hK => ?_) AllReadyH.nil)
        rw [if_pos (by rfl)]
        refine wp_store_row 24 _ _ rfl _ (ansC vF (.slice s5 vV.length c5)).toArray rfl rfl 24 _ hA (by rw [Tryd.sizeAn]; rfl) rfl (all_oneCell_toArray (ansC_one _ _ _ _)) ?_
        have qA := setRow_heap _ _ _ (ansC vF (.slice s5 vV.length c5)).toArray _ _ hA
        have qO := own_setO hO5 hA (ansC vF (.slice s5 vV.length c5)).toArray
        refine hK.out _ _ (⟨hHeld.1.setO (Nat.le_of_lt (Nat.lt_of_le_of_lt h6 hgA.2)) (ne_two (by omega) (by omega)) _, below_setRow hHeld.2 hgB _⟩) (fun hHeld2 => ?_)
        clear hK K hHeld
        have hHeld := hHeld2
        clear hHeld2
        try simp only [Act.put, List.setIfInBounds_toArray, List.set_cons_zero, List.set_cons_succ]
        refine wpAnyH_take (i := 11) (oi := { dst := some 12, op := Op.assign (Operand.tmp 31), type := 25, pos := "law.go:417", after := #[{ on := 8, ground := Ground.data }, { on := 10, ground := Ground.chain }, { on := 0, ground := Ground.phase }, { on := 1, ground := Ground.phase }, { on := 2, ground := Ground.phase }, { on := 3, ground := Ground.phase }, { on := 4, ground := Ground.phase }, { on := 5, ground := Ground.phase }, { on := 6, ground := Ground.phase }, { on := 7, ground := Ground.phase }, { on := 8, ground := Ground.phase }, { on := 9, ground := Ground.phase }, { on := 10, ground := Ground.phase }], guard := none }) (v := .int .i64 vE) rfl (by kernel_rfl) (by kernel_rfl) (by kernel_rfl) (fun _ _ _ h => h) (Or.inl ⟨by rfl, by intro w hS; go_simp⟩) hHeld ?_
        try simp only [Act.put, List.setIfInBounds_toArray, List.set_cons_zero, List.set_cons_succ]
        refine wpAnyH_done (by kernel_rfl) ?_ _
        refine NoPanic.normal ?_
        exact HK _ s5 c5 _ _ _ _ _ _ _ _ _ _ hHeld.1 hHeld.2 hgB qA qO
      · skip
        have hA := an_of hHeld.1
        have hgA := an_lt hHeld.1
        have hgB := hHeld.2.size
        try replace hO5 := hO5.below (below_new' _ (.cells (ansC false (.slice none 0 0)).toArray 24)) (Nat.le_refl _)
        try replace hZ := hZ.below (below_new' _ (.cells (ansC false (.slice none 0 0)).toArray 24)) (Nat.le_refl _)
        try simp only [sz_al, sz_dr] at hA hgA hgB
        rw [if_pos (by rfl)]
        unfold Oper.wp
        rw [AA.out _ _ _ rfl]
        refine hK.out _ _ (⟨hHeld.1.other _, hHeld.2.alloc hHeld.2.size _⟩) (fun hHeld2 => ?_)
        clear hK K hHeld
        have hHeld := hHeld2
        clear hHeld2
        try simp only [Act.put, List.setIfInBounds_toArray, List.set_cons_zero, List.set_cons_succ]
        refine wpAnyH_ready (rs := [5]) (by kernel_rfl) (by simp) ?_
        refine (AllReadyH.cons (o := { dst := some 29, op := Op.call { callee := Callee.value (Operand.func 5), args := #[Operand.tmp 24, Operand.tmp 26, Operand.tmp 27, Operand.tmp 28], argTypes := #[3, 29, 31, 22] }, type := 26, pos := "law.go:417", after := #[{ on := 0, ground := Ground.data }, { on := 2, ground := Ground.data }, { on := 3, ground := Ground.data }, { on := 4, ground := Ground.data }, { on := 2, ground := Ground.chain }], guard := none }) rfl (fun K hK => ?_) AllReadyH.nil)
        go_simp
        go_at_call 5
        refine (KV.out _ (hG.1.below hHeld.1.1 hG.1.1) _ _ hZ).mono ?_
        rintro e w5 ⟨s5, c5, rfl, hO5, hb5⟩
        try replace hA := hbel hb5 hA (hlt hA)
        replace hO5 := own_lower hO5 hHeld.2.size
        go_wp2_with fail
        refine hK.out _ _ (⟨hHeld.1.call hb5, hHeld.2.trans (hb5.mono hHeld.2.size)⟩) (fun hHeld2 => ?_)
        clear hK K hHeld
        have hHeld := hHeld2
        clear hHeld2
        try simp only [Act.put, List.setIfInBounds_toArray, List.set_cons_zero, List.set_cons_succ]
        refine wpAnyH_take (i := 6) (oi := { dst := some 23, op := Op.move (Operand.tmp 29), type := 26, pos := "law.go:417", after := #[{ on := 5, ground := Ground.data }], guard := none }) (v := .tuple #[.agg (ansC vF (.slice s5 vV.length c5)).toArray, .int .i64 vE]) rfl (by kernel_rfl) (by kernel_rfl) (by kernel_rfl) (fun _ _ _ h => h) (Or.inl ⟨by rfl, by intro w hS; go_simp⟩) hHeld ?_
        try simp only [Act.put, List.setIfInBounds_toArray, List.set_cons_zero, List.set_cons_succ]
        refine wpAnyH_take (i := 7) (oi := { dst := some 30, op := Op.extract (Operand.tmp 23) 0, type := 24, pos := "law.go:417", after := #[{ on := 6, ground := Ground.data }], guard := none }) (v := .agg (ansC vF (.slice s5 vV.length c5)).toArray) rfl (by kernel_rfl) (by kernel_rfl) (by kernel_rfl) (fun _ _ _ h => h) (Or.inl ⟨by rfl, by intro w hS; go_simp⟩) hHeld ?_
        try simp only [Act.put, List.setIfInBounds_toArray, List.set_cons_zero, List.set_cons_succ]
        refine wpAnyH_take (i := 8) (oi := { dst := some 31, op := Op.extract (Operand.tmp 23) 1, type := 25, pos := "law.go:417", after := #[{ on := 6, ground := Ground.data }, { on := 10, ground := Ground.gcOnly Departure.lateStores }], guard := none }) (v := .int .i64 vE) rfl (by kernel_rfl) (by kernel_rfl) (by kernel_rfl) (fun _ _ _ h => h) (Or.inl ⟨by rfl, by intro w hS; go_simp⟩) hHeld ?_
        try simp only [Act.put, List.setIfInBounds_toArray, List.set_cons_zero, List.set_cons_succ]
        refine wpAnyH_ready (rs := [10]) (by kernel_rfl) (by simp) ?_
        refine (AllReadyH.cons (o := { dst := none, op := Op.store 24 (Operand.tmp 11) (Operand.tmp 30), type := 0, pos := "law.go:417", after := #[{ on := 9, ground := Ground.data }, { on := 7, ground := Ground.data }, { on := 5, ground := Ground.chain }, { on := 0, ground := Ground.phase }, { on := 1, ground := Ground.phase }, { on := 2, ground := Ground.phase }, { on := 3, ground := Ground.phase }, { on := 4, ground := Ground.phase }, { on := 5, ground := Ground.phase }, { on := 6, ground := Ground.phase }, { on := 7, ground := Ground.phase }, { on := 8, ground := Ground.textOnly Departure.lateStores }, { on := 9, ground := Ground.phase }], guard := none }) rfl (fun K hK => ?_) AllReadyH.nil)
        rw [if_pos (by rfl)]
        refine wp_store_row 24 _ _ rfl _ (ansC vF (.slice s5 vV.length c5)).toArray rfl rfl 24 _ hA (by rw [Tryd.sizeAn]; rfl) rfl (all_oneCell_toArray (ansC_one _ _ _ _)) ?_
        have qA := setRow_heap _ _ _ (ansC vF (.slice s5 vV.length c5)).toArray _ _ hA
        have qO := own_setO hO5 hA (ansC vF (.slice s5 vV.length c5)).toArray
        refine hK.out _ _ (⟨hHeld.1.setO (Nat.le_of_lt (Nat.lt_of_le_of_lt h6 hgA.2)) (ne_two (by omega) (by omega)) _, below_setRow hHeld.2 hgB _⟩) (fun hHeld2 => ?_)
        clear hK K hHeld
        have hHeld := hHeld2
        clear hHeld2
        try simp only [Act.put, List.setIfInBounds_toArray, List.set_cons_zero, List.set_cons_succ]
        refine wpAnyH_take (i := 11) (oi := { dst := some 12, op := Op.assign (Operand.tmp 31), type := 25, pos := "law.go:417", after := #[{ on := 8, ground := Ground.data }, { on := 10, ground := Ground.chain }, { on := 0, ground := Ground.phase }, { on := 1, ground := Ground.phase }, { on := 2, ground := Ground.phase }, { on := 3, ground := Ground.phase }, { on := 4, ground := Ground.phase }, { on := 5, ground := Ground.phase }, { on := 6, ground := Ground.phase }, { on := 7, ground := Ground.phase }, { on := 8, ground := Ground.phase }, { on := 9, ground := Ground.phase }, { on := 10, ground := Ground.phase }], guard := none }) (v := .int .i64 vE) rfl (by kernel_rfl) (by kernel_rfl) (by kernel_rfl) (fun _ _ _ h => h) (Or.inl ⟨by rfl, by intro w hS; go_simp⟩) hHeld ?_
        try simp only [Act.put, List.setIfInBounds_toArray, List.set_cons_zero, List.set_cons_succ]
        refine wpAnyH_done (by kernel_rfl) ?_ _
        refine NoPanic.normal ?_
        exact HK _ s5 c5 _ _ _ _ _ _ _ _ _ _ hHeld.1 hHeld.2 hgB qA qO
    · skip
      have hA := an_of hHeld.1
      have hgA := an_lt hHeld.1
      have hgB := hHeld.2.size
      try replace hO5 := hO5.below (below_new' _ (.cells (ansC false (.slice none 0 0)).toArray 24)) (Nat.le_refl _)
      try replace hZ := hZ.below (below_new' _ (.cells (ansC false (.slice none 0 0)).toArray 24)) (Nat.le_refl _)
      try simp only [sz_al, sz_dr] at hA hgA hgB
      rw [if_pos (by rfl)]
      unfold Oper.wp
      rw [AA.out _ _ _ rfl]
      refine hK.out _ _ (⟨hHeld.1.other _, hHeld.2.alloc hHeld.2.size _⟩) (fun hHeld2 => ?_)
      clear hK K hHeld
      have hHeld := hHeld2
      clear hHeld2
      try simp only [Act.put, List.setIfInBounds_toArray, List.set_cons_zero, List.set_cons_succ]
      refine wpAnyH_ready (rs := [4]) (by kernel_rfl) (by simp) ?_
      refine (AllReadyH.cons (o := { dst := some 28, op := Op.makeSlice 22 (Operand.const (Value.int IntKind.i64 33)) (Operand.const (Value.int IntKind.i64 33)), type := 22, pos := "law.go:417", after := #[], guard := none }) rfl (fun K hK => ?_) AllReadyH.nil)
      have hZ := z33_of hHeld.1
      try simp only [sz_al, sz_dr] at hZ
      try replace hA := hold (o := .cells (ints .u8 z33).toArray 5) hA
      try replace hD := hold (o := .cells (ints .u8 z33).toArray 5) hD
      go_simp
      refine hK.out _ _ (⟨hHeld.1.other _, hHeld.2.alloc hHeld.2.size _⟩) (fun hHeld2 => ?_)
      clear hK K hHeld
      have hHeld := hHeld2
      clear hHeld2
      try simp only [Act.put, List.setIfInBounds_toArray, List.set_cons_zero, List.set_cons_succ]
      refine wpAnyH_ready (rs := [5]) (by kernel_rfl) (by simp) ?_
      refine (AllReadyH.cons (o := { dst := some 29, op := Op.call { callee := Callee.value (Operand.func 5), args := #[Operand.tmp 24, Operand.tmp 26, Operand.tmp 27, Operand.tmp 28], argTypes := #[3, 29, 31, 22] }, type := 26, pos := "law.go:417", after := #[{ on := 0, ground := Ground.data }, { on := 2, ground := Ground.data }, { on := 3, ground := Ground.data }, { on := 4, ground := Ground.data }, { on := 2, ground := Ground.chain }], guard := none }) rfl (fun K hK => ?_) AllReadyH.nil)
      go_simp
      go_at_call 5
      refine (KV.out _ (hG.1.below hHeld.1.1 hG.1.1) _ _ hZ).mono ?_
      rintro e w5 ⟨s5, c5, rfl, hO5, hb5⟩
      try replace hA := hbel hb5 hA (hlt hA)
      replace hO5 := own_lower hO5 hHeld.2.size
      go_wp2_with fail
      refine hK.out _ _ (⟨hHeld.1.call hb5, hHeld.2.trans (hb5.mono hHeld.2.size)⟩) (fun hHeld2 => ?_)
      clear hK K hHeld
      have hHeld := hHeld2
      clear hHeld2
      try simp only [Act.put, List.setIfInBounds_toArray, List.set_cons_zero, List.set_cons_succ]
      refine wpAnyH_take (i := 6) (oi := { dst := some 23, op := Op.move (Operand.tmp 29), type := 26, pos := "law.go:417", after := #[{ on := 5, ground := Ground.data }], guard := none }) (v := .tuple #[.agg (ansC vF (.slice s5 vV.length c5)).toArray, .int .i64 vE]) rfl (by kernel_rfl) (by kernel_rfl) (by kernel_rfl) (fun _ _ _ h => h) (Or.inl ⟨by rfl, by intro w hS; go_simp⟩) hHeld ?_
      try simp only [Act.put, List.setIfInBounds_toArray, List.set_cons_zero, List.set_cons_succ]
      refine wpAnyH_take (i := 7) (oi := { dst := some 30, op := Op.extract (Operand.tmp 23) 0, type := 24, pos := "law.go:417", after := #[{ on := 6, ground := Ground.data }], guard := none }) (v := .agg (ansC vF (.slice s5 vV.length c5)).toArray) rfl (by kernel_rfl) (by kernel_rfl) (by kernel_rfl) (fun _ _ _ h => h) (Or.inl ⟨by rfl, by intro w hS; go_simp⟩) hHeld ?_
      try simp only [Act.put, List.setIfInBounds_toArray, List.set_cons_zero, List.set_cons_succ]
      refine wpAnyH_take (i := 8) (oi := { dst := some 31, op := Op.extract (Operand.tmp 23) 1, type := 25, pos := "law.go:417", after := #[{ on := 6, ground := Ground.data }, { on := 10, ground := Ground.gcOnly Departure.lateStores }], guard := none }) (v := .int .i64 vE) rfl (by kernel_rfl) (by kernel_rfl) (by kernel_rfl) (fun _ _ _ h => h) (Or.inl ⟨by rfl, by intro w hS; go_simp⟩) hHeld ?_
      try simp only [Act.put, List.setIfInBounds_toArray, List.set_cons_zero, List.set_cons_succ]
      refine wpAnyH_ready (rs := [10]) (by kernel_rfl) (by simp) ?_
      refine (AllReadyH.cons (o := { dst := none, op := Op.store 24 (Operand.tmp 11) (Operand.tmp 30), type := 0, pos := "law.go:417", after := #[{ on := 9, ground := Ground.data }, { on := 7, ground := Ground.data }, { on := 5, ground := Ground.chain }, { on := 0, ground := Ground.phase }, { on := 1, ground := Ground.phase }, { on := 2, ground := Ground.phase }, { on := 3, ground := Ground.phase }, { on := 4, ground := Ground.phase }, { on := 5, ground := Ground.phase }, { on := 6, ground := Ground.phase }, { on := 7, ground := Ground.phase }, { on := 8, ground := Ground.textOnly Departure.lateStores }, { on := 9, ground := Ground.phase }], guard := none }) rfl (fun K hK => ?_) AllReadyH.nil)
      rw [if_pos (by rfl)]
      refine wp_store_row 24 _ _ rfl _ (ansC vF (.slice s5 vV.length c5)).toArray rfl rfl 24 _ hA (by rw [Tryd.sizeAn]; rfl) rfl (all_oneCell_toArray (ansC_one _ _ _ _)) ?_
      have qA := setRow_heap _ _ _ (ansC vF (.slice s5 vV.length c5)).toArray _ _ hA
      have qO := own_setO hO5 hA (ansC vF (.slice s5 vV.length c5)).toArray
      refine hK.out _ _ (⟨hHeld.1.setO (Nat.le_of_lt (Nat.lt_of_le_of_lt h6 hgA.2)) (ne_two (by omega) (by omega)) _, below_setRow hHeld.2 hgB _⟩) (fun hHeld2 => ?_)
      clear hK K hHeld
      have hHeld := hHeld2
      clear hHeld2
      try simp only [Act.put, List.setIfInBounds_toArray, List.set_cons_zero, List.set_cons_succ]
      refine wpAnyH_take (i := 11) (oi := { dst := some 12, op := Op.assign (Operand.tmp 31), type := 25, pos := "law.go:417", after := #[{ on := 8, ground := Ground.data }, { on := 10, ground := Ground.chain }, { on := 0, ground := Ground.phase }, { on := 1, ground := Ground.phase }, { on := 2, ground := Ground.phase }, { on := 3, ground := Ground.phase }, { on := 4, ground := Ground.phase }, { on := 5, ground := Ground.phase }, { on := 6, ground := Ground.phase }, { on := 7, ground := Ground.phase }, { on := 8, ground := Ground.phase }, { on := 9, ground := Ground.phase }, { on := 10, ground := Ground.phase }], guard := none }) (v := .int .i64 vE) rfl (by kernel_rfl) (by kernel_rfl) (by kernel_rfl) (fun _ _ _ h => h) (Or.inl ⟨by rfl, by intro w hS; go_simp⟩) hHeld ?_
      try simp only [Act.put, List.setIfInBounds_toArray, List.set_cons_zero, List.set_cons_succ]
      refine wpAnyH_done (by kernel_rfl) ?_ _
      refine NoPanic.normal ?_
      exact HK _ s5 c5 _ _ _ _ _ _ _ _ _ _ hHeld.1 hHeld.2 hgB qA qO
  · skip
    have hZ := z33_of hHeld.1
    try simp only [sz_al, sz_dr] at hZ
    try replace hA := hold (o := .cells (ints .u8 z33).toArray 5) hA
    try replace hD := hold (o := .cells (ints .u8 z33).toArray 5) hD
    go_simp
    refine hK.out _ _ (⟨hHeld.1.other _, hHeld.2.alloc hHeld.2.size _⟩) (fun hHeld2 => ?_)
    clear hK K hHeld
    have hHeld := hHeld2
    clear hHeld2
    try simp only [Act.put, List.setIfInBounds_toArray, List.set_cons_zero, List.set_cons_succ]
    refine wpAnyH_ready (rs := [2, 9]) (by kernel_rfl) (by simp) ?_
    refine (AllReadyH.cons (o := { dst := some 26, op := Op.call { callee := Callee.value (Operand.func 6), args := #[Operand.tmp 25, Operand.const (Value.int IntKind.i64 256)], argTypes := #[3, 3] }, type := 29, pos := "law.go:417", after := #[{ on := 1, ground := Ground.data }], guard := none }) rfl (fun K hK => ?_) (AllReadyH.cons (o := { dst := some 11, op := Op.alloc 24, type := 0, pos := "law.go:417", after := #[], guard := none }) rfl (fun K hK => ?_) AllReadyH.nil))
    · skip
      go_simp
      go_at_call 6
      refine (KX.out _ (hG.below hHeld.1.1 hG.1.1)).mono ?_
      rintro e w4 ⟨rfl, hb4⟩
      try replace hA := hbel hb4 hA (hlt hA)
      try replace hZ := hZ.below hb4 (Nat.le_refl _)
      go_wp2_with fail
      refine hK.out _ _ (⟨hHeld.1.call hb4, hHeld.2.trans (hb4.mono hHeld.2.size)⟩) (fun hHeld2 => ?_)
      clear hK K hHeld
      have hHeld := hHeld2
      clear hHeld2
      try simp only [Act.put, List.setIfInBounds_toArray, List.set_cons_zero, List.set_cons_succ]
      refine wpAnyH_ready (rs := [5, 9]) (by kernel_rfl) (by simp) ?_
      refine (AllReadyH.cons (o := { dst := some 29, op := Op.call { callee := Callee.value (Operand.func 5), args := #[Operand.tmp 24, Operand.tmp 26, Operand.tmp 27, Operand.tmp 28], argTypes := #[3, 29, 31, 22] }, type := 26, pos := "law.go:417", after := #[{ on := 0, ground := Ground.data }, { on := 2, ground := Ground.data }, { on := 3, ground := Ground.data }, { on := 4, ground := Ground.data }, { on := 2, ground := Ground.chain }], guard := none }) rfl (fun K hK => ?_) (AllReadyH.cons (o := { dst := some 11, op := Op.alloc 24, type := 0, pos := "law.go:417", after := #[], guard := none }) rfl (fun K hK => ?_) AllReadyH.nil))
      · skip
        go_simp
        go_at_call 5
        refine (KV.out _ (hG.1.below hHeld.1.1 hG.1.1) _ _ hZ).mono ?_
        rintro e w5 ⟨s5, c5, rfl, hO5, hb5⟩
        try replace hA := hbel hb5 hA (hlt hA)
        replace hO5 := own_lower hO5 hHeld.2.size
        go_wp2_with fail
        refine hK.out _ _ (⟨hHeld.1.call hb5, hHeld.2.trans (hb5.mono hHeld.2.size)⟩) (fun hHeld2 => ?_)
        clear hK K hHeld
        have hHeld := hHeld2
        clear hHeld2
        try simp only [Act.put, List.setIfInBounds_toArray, List.set_cons_zero, List.set_cons_succ]
        refine wpAnyH_take (i := 6) (oi := { dst := some 23, op := Op.move (Operand.tmp 29), type := 26, pos := "law.go:417", after := #[{ on := 5, ground := Ground.data }], guard := none }) (v := .tuple #[.agg (ansC vF (.slice s5 vV.length c5)).toArray, .int .i64 vE]) rfl (by kernel_rfl) (by kernel_rfl) (by kernel_rfl) (fun _ _ _ h => h) (Or.inl ⟨by rfl, by intro w hS; go_simp⟩) hHeld ?_
        try simp only [Act.put, List.setIfInBounds_toArray, List.set_cons_zero, List.set_cons_succ]
        refine wpAnyH_take (i := 7) (oi := { dst := some 30, op := Op.extract (Operand.tmp 23) 0, type := 24, pos := "law.go:417", after := #[{ on := 6, ground := Ground.data }], guard := none }) (v := .agg (ansC vF (.slice s5 vV.length c5)).toArray) rfl (by kernel_rfl) (by kernel_rfl) (by kernel_rfl) (fun _ _ _ h => h) (Or.inl ⟨by rfl, by intro w hS; go_simp⟩) hHeld ?_
        try simp only [Act.put, List.setIfInBounds_toArray, List.set_cons_zero, List.set_cons_succ]
        refine wpAnyH_take (i := 8) (oi := { dst := some 31, op := Op.extract (Operand.tmp 23) 1, type := 25, pos := "law.go:417", after := #[{ on := 6, ground := Ground.data }, { on := 10, ground := Ground.gcOnly Departure.lateStores }], guard := none }) (v := .int .i64 vE) rfl (by kernel_rfl) (by kernel_rfl) (by kernel_rfl) (fun _ _ _ h => h) (Or.inl ⟨by rfl, by intro w hS; go_simp⟩) hHeld ?_
        try simp only [Act.put, List.setIfInBounds_toArray, List.set_cons_zero, List.set_cons_succ]
        refine wpAnyH_ready (rs := [9]) (by kernel_rfl) (by simp) ?_
        refine (AllReadyH.cons (o := { dst := some 11, op := Op.alloc 24, type := 0, pos := "law.go:417", after := #[], guard := none }) rfl (fun K hK => ?_) AllReadyH.nil)
        have hA := an_of hHeld.1
        have hgA := an_lt hHeld.1
        have hgB := hHeld.2.size
        try replace hO5 := hO5.below (below_new' _ (.cells (ansC false (.slice none 0 0)).toArray 24)) (Nat.le_refl _)
        try replace hZ := hZ.below (below_new' _ (.cells (ansC false (.slice none 0 0)).toArray 24)) (Nat.le_refl _)
        try simp only [sz_al, sz_dr] at hA hgA hgB
        rw [if_pos (by rfl)]
        unfold Oper.wp
        rw [AA.out _ _ _ rfl]
        refine hK.out _ _ (⟨hHeld.1.other _, hHeld.2.alloc hHeld.2.size _⟩) (fun hHeld2 => ?_)
        clear hK K hHeld
        have hHeld := hHeld2
        clear hHeld2
        try simp only [Act.put, List.setIfInBounds_toArray, List.set_cons_zero, List.set_cons_succ]
        refine wpAnyH_ready (rs := [10]) (by kernel_rfl) (by simp) ?_
        refine (AllReadyH.cons (o := { dst := none, op := Op.store 24 (Operand.tmp 11) (Operand.tmp 30), type := 0, pos := "law.go:417", after := #[{ on := 9, ground := Ground.data }, { on := 7, ground := Ground.data }, { on := 5, ground := Ground.chain }, { on := 0, ground := Ground.phase }, { on := 1, ground := Ground.phase }, { on := 2, ground := Ground.phase }, { on := 3, ground := Ground.phase }, { on := 4, ground := Ground.phase }, { on := 5, ground := Ground.phase }, { on := 6, ground := Ground.phase }, { on := 7, ground := Ground.phase }, { on := 8, ground := Ground.textOnly Departure.lateStores }, { on := 9, ground := Ground.phase }], guard := none }) rfl (fun K hK => ?_) AllReadyH.nil)
        rw [if_pos (by rfl)]
        refine wp_store_row 24 _ _ rfl _ (ansC vF (.slice s5 vV.length c5)).toArray rfl rfl 24 _ hA (by rw [Tryd.sizeAn]; rfl) rfl (all_oneCell_toArray (ansC_one _ _ _ _)) ?_
        have qA := setRow_heap _ _ _ (ansC vF (.slice s5 vV.length c5)).toArray _ _ hA
        have qO := own_setO hO5 hA (ansC vF (.slice s5 vV.length c5)).toArray
        refine hK.out _ _ (⟨hHeld.1.setO (Nat.le_of_lt (Nat.lt_of_le_of_lt h6 hgA.2)) (ne_two (by omega) (by omega)) _, below_setRow hHeld.2 hgB _⟩) (fun hHeld2 => ?_)
        clear hK K hHeld
        have hHeld := hHeld2
        clear hHeld2
        try simp only [Act.put, List.setIfInBounds_toArray, List.set_cons_zero, List.set_cons_succ]
        refine wpAnyH_take (i := 11) (oi := { dst := some 12, op := Op.assign (Operand.tmp 31), type := 25, pos := "law.go:417", after := #[{ on := 8, ground := Ground.data }, { on := 10, ground := Ground.chain }, { on := 0, ground := Ground.phase }, { on := 1, ground := Ground.phase }, { on := 2, ground := Ground.phase }, { on := 3, ground := Ground.phase }, { on := 4, ground := Ground.phase }, { on := 5, ground := Ground.phase }, { on := 6, ground := Ground.phase }, { on := 7, ground := Ground.phase }, { on := 8, ground := Ground.phase }, { on := 9, ground := Ground.phase }, { on := 10, ground := Ground.phase }], guard := none }) (v := .int .i64 vE) rfl (by kernel_rfl) (by kernel_rfl) (by kernel_rfl) (fun _ _ _ h => h) (Or.inl ⟨by rfl, by intro w hS; go_simp⟩) hHeld ?_
        try simp only [Act.put, List.setIfInBounds_toArray, List.set_cons_zero, List.set_cons_succ]
        refine wpAnyH_done (by kernel_rfl) ?_ _
        refine NoPanic.normal ?_
        exact HK _ s5 c5 _ _ _ _ _ _ _ _ _ _ hHeld.1 hHeld.2 hgB qA qO
      · skip
        have hA := an_of hHeld.1
        have hgA := an_lt hHeld.1
        have hgB := hHeld.2.size
        try replace hO5 := hO5.below (below_new' _ (.cells (ansC false (.slice none 0 0)).toArray 24)) (Nat.le_refl _)
        try replace hZ := hZ.below (below_new' _ (.cells (ansC false (.slice none 0 0)).toArray 24)) (Nat.le_refl _)
        try simp only [sz_al, sz_dr] at hA hgA hgB
        rw [if_pos (by rfl)]
        unfold Oper.wp
        rw [AA.out _ _ _ rfl]
        refine hK.out _ _ (⟨hHeld.1.other _, hHeld.2.alloc hHeld.2.size _⟩) (fun hHeld2 => ?_)
        clear hK K hHeld
        have hHeld := hHeld2
        clear hHeld2
        try simp only [Act.put, List.setIfInBounds_toArray, List.set_cons_zero, List.set_cons_succ]
        refine wpAnyH_ready (rs := [5]) (by kernel_rfl) (by simp) ?_
        refine (AllReadyH.cons (o := { dst := some 29, op := Op.call { callee := Callee.value (Operand.func 5), args := #[Operand.tmp 24, Operand.tmp 26, Operand.tmp 27, Operand.tmp 28], argTypes := #[3, 29, 31, 22] }, type := 26, pos := "law.go:417", after := #[{ on := 0, ground := Ground.data }, { on := 2, ground := Ground.data }, { on := 3, ground := Ground.data }, { on := 4, ground := Ground.data }, { on := 2, ground := Ground.chain }], guard := none }) rfl (fun K hK => ?_) AllReadyH.nil)
        go_simp
        go_at_call 5
        refine (KV.out _ (hG.1.below hHeld.1.1 hG.1.1) _ _ hZ).mono ?_
        rintro e w5 ⟨s5, c5, rfl, hO5, hb5⟩
        try replace hA := hbel hb5 hA (hlt hA)
        replace hO5 := own_lower hO5 hHeld.2.size
        go_wp2_with fail
        refine hK.out _ _ (⟨hHeld.1.call hb5, hHeld.2.trans (hb5.mono hHeld.2.size)⟩) (fun hHeld2 => ?_)
        clear hK K hHeld
        have hHeld := hHeld2
        clear hHeld2
        try simp only [Act.put, List.setIfInBounds_toArray, List.set_cons_zero, List.set_cons_succ]
        refine wpAnyH_take (i := 6) (oi := { dst := some 23, op := Op.move (Operand.tmp 29), type := 26, pos := "law.go:417", after := #[{ on := 5, ground := Ground.data }], guard := none }) (v := .tuple #[.agg (ansC vF (.slice s5 vV.length c5)).toArray, .int .i64 vE]) rfl (by kernel_rfl) (by kernel_rfl) (by kernel_rfl) (fun _ _ _ h => h) (Or.inl ⟨by rfl, by intro w hS; go_simp⟩) hHeld ?_
        try simp only [Act.put, List.setIfInBounds_toArray, List.set_cons_zero, List.set_cons_succ]
        refine wpAnyH_take (i := 7) (oi := { dst := some 30, op := Op.extract (Operand.tmp 23) 0, type := 24, pos := "law.go:417", after := #[{ on := 6, ground := Ground.data }], guard := none }) (v := .agg (ansC vF (.slice s5 vV.length c5)).toArray) rfl (by kernel_rfl) (by kernel_rfl) (by kernel_rfl) (fun _ _ _ h => h) (Or.inl ⟨by rfl, by intro w hS; go_simp⟩) hHeld ?_
        try simp only [Act.put, List.setIfInBounds_toArray, List.set_cons_zero, List.set_cons_succ]
        refine wpAnyH_take (i := 8) (oi := { dst := some 31, op := Op.extract (Operand.tmp 23) 1, type := 25, pos := "law.go:417", after := #[{ on := 6, ground := Ground.data }, { on := 10, ground := Ground.gcOnly Departure.lateStores }], guard := none }) (v := .int .i64 vE) rfl (by kernel_rfl) (by kernel_rfl) (by kernel_rfl) (fun _ _ _ h => h) (Or.inl ⟨by rfl, by intro w hS; go_simp⟩) hHeld ?_
        try simp only [Act.put, List.setIfInBounds_toArray, List.set_cons_zero, List.set_cons_succ]
        refine wpAnyH_ready (rs := [10]) (by kernel_rfl) (by simp) ?_
        refine (AllReadyH.cons (o := { dst := none, op := Op.store 24 (Operand.tmp 11) (Operand.tmp 30), type := 0, pos := "law.go:417", after := #[{ on := 9, ground := Ground.data }, { on := 7, ground := Ground.data }, { on := 5, ground := Ground.chain }, { on := 0, ground := Ground.phase }, { on := 1, ground := Ground.phase }, { on := 2, ground := Ground.phase }, { on := 3, ground := Ground.phase }, { on := 4, ground := Ground.phase }, { on := 5, ground := Ground.phase }, { on := 6, ground := Ground.phase }, { on := 7, ground := Ground.phase }, { on := 8, ground := Ground.textOnly Departure.lateStores }, { on := 9, ground := Ground.phase }], guard := none }) rfl (fun K hK => ?_) AllReadyH.nil)
        rw [if_pos (by rfl)]
        refine wp_store_row 24 _ _ rfl _ (ansC vF (.slice s5 vV.length c5)).toArray rfl rfl 24 _ hA (by rw [Tryd.sizeAn]; rfl) rfl (all_oneCell_toArray (ansC_one _ _ _ _)) ?_
        have qA := setRow_heap _ _ _ (ansC vF (.slice s5 vV.length c5)).toArray _ _ hA
        have qO := own_setO hO5 hA (ansC vF (.slice s5 vV.length c5)).toArray
        refine hK.out _ _ (⟨hHeld.1.setO (Nat.le_of_lt (Nat.lt_of_le_of_lt h6 hgA.2)) (ne_two (by omega) (by omega)) _, below_setRow hHeld.2 hgB _⟩) (fun hHeld2 => ?_)
        clear hK K hHeld
        have hHeld := hHeld2
        clear hHeld2
        try simp only [Act.put, List.setIfInBounds_toArray, List.set_cons_zero, List.set_cons_succ]
        refine wpAnyH_take (i := 11) (oi := { dst := some 12, op := Op.assign (Operand.tmp 31), type := 25, pos := "law.go:417", after := #[{ on := 8, ground := Ground.data }, { on := 10, ground := Ground.chain }, { on := 0, ground := Ground.phase }, { on := 1, ground := Ground.phase }, { on := 2, ground := Ground.phase }, { on := 3, ground := Ground.phase }, { on := 4, ground := Ground.phase }, { on := 5, ground := Ground.phase }, { on := 6, ground := Ground.phase }, { on := 7, ground := Ground.phase }, { on := 8, ground := Ground.phase }, { on := 9, ground := Ground.phase }, { on := 10, ground := Ground.phase }], guard := none }) (v := .int .i64 vE) rfl (by kernel_rfl) (by kernel_rfl) (by kernel_rfl) (fun _ _ _ h => h) (Or.inl ⟨by rfl, by intro w hS; go_simp⟩) hHeld ?_
        try simp only [Act.put, List.setIfInBounds_toArray, List.set_cons_zero, List.set_cons_succ]
        refine wpAnyH_done (by kernel_rfl) ?_ _
        refine NoPanic.normal ?_
        exact HK _ s5 c5 _ _ _ _ _ _ _ _ _ _ hHeld.1 hHeld.2 hgB qA qO
    · skip
      have hA := an_of hHeld.1
      have hgA := an_lt hHeld.1
      have hgB := hHeld.2.size
      try replace hO5 := hO5.below (below_new' _ (.cells (ansC false (.slice none 0 0)).toArray 24)) (Nat.le_refl _)
      try replace hZ := hZ.below (below_new' _ (.cells (ansC false (.slice none 0 0)).toArray 24)) (Nat.le_refl _)
      try simp only [sz_al, sz_dr] at hA hgA hgB
      rw [if_pos (by rfl)]
      unfold Oper.wp
      rw [AA.out _ _ _ rfl]
      refine hK.out _ _ (⟨hHeld.1.other _, hHeld.2.alloc hHeld.2.size _⟩) (fun hHeld2 => ?_)
      clear hK K hHeld
      have hHeld := hHeld2
      clear hHeld2
      try simp only [Act.put, List.setIfInBounds_toArray, List.set_cons_zero, List.set_cons_succ]
      refine wpAnyH_ready (rs := [2]) (by kernel_rfl) (by simp) ?_
      refine (AllReadyH.cons (o := { dst := some 26, op := Op.call { callee := Callee.value (Operand.func 6), args := #[Operand.tmp 25, Operand.const (Value.int IntKind.i64 256)], argTypes := #[3, 3] }, type := 29, pos := "law.go:417", after := #[{ on := 1, ground := Ground.data }], guard := none }) rfl (fun K hK => ?_) AllReadyH.nil)
      go_simp
      go_at_call 6
      refine (KX.out _ (hG.below hHeld.1.1 hG.1.1)).mono ?_
      rintro e w4 ⟨rfl, hb4⟩
      try replace hA := hbel hb4 hA (hlt hA)
      try replace hZ := hZ.below hb4 (Nat.le_refl _)
      go_wp2_with fail
      refine hK.out _ _ (⟨hHeld.1.call hb4, hHeld.2.trans (hb4.mono hHeld.2.size)⟩) (fun hHeld2 => ?_)
      clear hK K hHeld
      have hHeld := hHeld2
      clear hHeld2
      try simp only [Act.put, List.setIfInBounds_toArray, List.set_cons_zero, List.set_cons_succ]
      refine wpAnyH_ready (rs := [5]) (by kernel_rfl) (by simp) ?_
      refine (AllReadyH.cons (o := { dst := some 29, op := Op.call { callee := Callee.value (Operand.func 5), args := #[Operand.tmp 24, Operand.tmp 26, Operand.tmp 27, Operand.tmp 28], argTypes := #[3, 29, 31, 22] }, type := 26, pos := "law.go:417", after := #[{ on := 0, ground := Ground.data }, { on := 2, ground := Ground.data }, { on := 3, ground := Ground.data }, { on := 4, ground := Ground.data }, { on := 2, ground := Ground.chain }], guard := none }) rfl (fun K hK => ?_) AllReadyH.nil)
      go_simp
      go_at_call 5
      refine (KV.out _ (hG.1.below hHeld.1.1 hG.1.1) _ _ hZ).mono ?_
      rintro e w5 ⟨s5, c5, rfl, hO5, hb5⟩
      try replace hA := hbel hb5 hA (hlt hA)
      replace hO5 := own_lower hO5 hHeld.2.size
      go_wp2_with fail
      refine hK.out _ _ (⟨hHeld.1.call hb5, hHeld.2.trans (hb5.mono hHeld.2.size)⟩) (fun hHeld2 => ?_)
      clear hK K hHeld
      have hHeld := hHeld2
      clear hHeld2
      try simp only [Act.put, List.setIfInBounds_toArray, List.set_cons_zero, List.set_cons_succ]
      refine wpAnyH_take (i := 6) (oi := { dst := some 23, op := Op.move (Operand.tmp 29), type := 26, pos := "law.go:417", after := #[{ on := 5, ground := Ground.data }], guard := none }) (v := .tuple #[.agg (ansC vF (.slice s5 vV.length c5)).toArray, .int .i64 vE]) rfl (by kernel_rfl) (by kernel_rfl) (by kernel_rfl) (fun _ _ _ h => h) (Or.inl ⟨by rfl, by intro w hS; go_simp⟩) hHeld ?_
      try simp only [Act.put, List.setIfInBounds_toArray, List.set_cons_zero, List.set_cons_succ]
      refine wpAnyH_take (i := 7) (oi := { dst := some 30, op := Op.extract (Operand.tmp 23) 0, type := 24, pos := "law.go:417", after := #[{ on := 6, ground := Ground.data }], guard := none }) (v := .agg (ansC vF (.slice s5 vV.length c5)).toArray) rfl (by kernel_rfl) (by kernel_rfl) (by kernel_rfl) (fun _ _ _ h => h) (Or.inl ⟨by rfl, by intro w hS; go_simp⟩) hHeld ?_
      try simp only [Act.put, List.setIfInBounds_toArray, List.set_cons_zero, List.set_cons_succ]
      refine wpAnyH_take (i := 8) (oi := { dst := some 31, op := Op.extract (Operand.tmp 23) 1, type := 25, pos := "law.go:417", after := #[{ on := 6, ground := Ground.data }, { on := 10, ground := Ground.gcOnly Departure.lateStores }], guard := none }) (v := .int .i64 vE) rfl (by kernel_rfl) (by kernel_rfl) (by kernel_rfl) (fun _ _ _ h => h) (Or.inl ⟨by rfl, by intro w hS; go_simp⟩) hHeld ?_
      try simp only [Act.put, List.setIfInBounds_toArray, List.set_cons_zero, List.set_cons_succ]
      refine wpAnyH_ready (rs := [10]) (by kernel_rfl) (by simp) ?_
      refine (AllReadyH.cons (o := { dst := none, op := Op.store 24 (Operand.tmp 11) (Operand.tmp 30), type := 0, pos := "law.go:417", after := #[{ on := 9, ground := Ground.data }, { on := 7, ground := Ground.data }, { on := 5, ground := Ground.chain }, { on := 0, ground := Ground.phase }, { on := 1, ground := Ground.phase }, { on := 2, ground := Ground.phase }, { on := 3, ground := Ground.phase }, { on := 4, ground := Ground.phase }, { on := 5, ground := Ground.phase }, { on := 6, ground := Ground.phase }, { on := 7, ground := Ground.phase }, { on := 8, ground := Ground.textOnly Departure.lateStores }, { on := 9, ground := Ground.phase }], guard := none }) rfl (fun K hK => ?_) AllReadyH.nil)
      rw [if_pos (by rfl)]
      refine wp_store_row 24 _ _ rfl _ (ansC vF (.slice s5 vV.length c5)).toArray rfl rfl 24 _ hA (by rw [Tryd.sizeAn]; rfl) rfl (all_oneCell_toArray (ansC_one _ _ _ _)) ?_
      have qA := setRow_heap _ _ _ (ansC vF (.slice s5 vV.length c5)).toArray _ _ hA
      have qO := own_setO hO5 hA (ansC vF (.slice s5 vV.length c5)).toArray
      refine hK.out _ _ (⟨hHeld.1.setO (Nat.le_of_lt (Nat.lt_of_le_of_lt h6 hgA.2)) (ne_two (by omega) (by omega)) _, below_setRow hHeld.2 hgB _⟩) (fun hHeld2 => ?_)
      clear hK K hHeld
      have hHeld := hHeld2
      clear hHeld2
      try simp only [Act.put, List.setIfInBounds_toArray, List.set_cons_zero, List.set_cons_succ]
      refine wpAnyH_take (i := 11) (oi := { dst := some 12, op := Op.assign (Operand.tmp 31), type := 25, pos := "law.go:417", after := #[{ on := 8, ground := Ground.data }, { on := 10, ground := Ground.chain }, { on := 0, ground := Ground.phase }, { on := 1, ground := Ground.phase }, { on := 2, ground := Ground.phase }, { on := 3, ground := Ground.phase }, { on := 4, ground := Ground.phase }, { on := 5, ground := Ground.phase }, { on := 6, ground := Ground.phase }, { on := 7, ground := Ground.phase }, { on := 8, ground := Ground.phase }, { on := 9, ground := Ground.phase }, { on := 10, ground := Ground.phase }], guard := none }) (v := .int .i64 vE) rfl (by kernel_rfl) (by kernel_rfl) (by kernel_rfl) (fun _ _ _ h => h) (Or.inl ⟨by rfl, by intro w hS; go_simp⟩) hHeld ?_
      try simp only [Act.put, List.setIfInBounds_toArray, List.set_cons_zero, List.set_cons_succ]
      refine wpAnyH_done (by kernel_rfl) ?_ _
      refine NoPanic.normal ?_
      exact HK _ s5 c5 _ _ _ _ _ _ _ _ _ _ hHeld.1 hHeld.2 hgB qA qO
  · skip
    have hA := an_of hHeld.1
    have hgA := an_lt hHeld.1
    have hgB := hHeld.2.size
    try replace hO5 := hO5.below (below_new' _ (.cells (ansC false (.slice none 0 0)).toArray 24)) (Nat.le_refl _)
    try replace hZ := hZ.below (below_new' _ (.cells (ansC false (.slice none 0 0)).toArray 24)) (Nat.le_refl _)
    try simp only [sz_al, sz_dr] at hA hgA hgB
    rw [if_pos (by rfl)]
    unfold Oper.wp
    rw [AA.out _ _ _ rfl]
    refine hK.out _ _ (⟨hHeld.1.other _, hHeld.2.alloc hHeld.2.size _⟩) (fun hHeld2 => ?_)
    clear hK K hHeld
    have hHeld := hHeld2
    clear hHeld2
    try simp only [Act.put, List.setIfInBounds_toArray, List.set_cons_zero, List.set_cons_succ]
    refine wpAnyH_ready (rs := [2, 4]) (by kernel_rfl) (by simp) ?_
    refine (AllReadyH.cons (o := { dst := some 26, op := Op.call { callee := Callee.value (Operand.func 6), args := #[Operand.tmp 25, Operand.const (Value.int IntKind.i64 256)], argTypes := #[3, 3] }, type := 29, pos := "law.go:417", after := #[{ on := 1, ground := Ground.data }], guard := none }) rfl (fun K hK => ?_) (AllReadyH.cons (o := { dst := some 28, op := Op.makeSlice 22 (Operand.const (Value.int IntKind.i64 33)) (Operand.const (Value.int IntKind.i64 33)), type := 22, pos := "law.go:417", after := #[], guard := none }) rfl (fun K hK => ?_) AllReadyH.nil))
    · skip
      go_simp
      go_at_call 6
      refine (KX.out _ (hG.below hHeld.1.1 hG.1.1)).mono ?_
      rintro e w4 ⟨rfl, hb4⟩
      try replace hA := hbel hb4 hA (hlt hA)
      try replace hZ := hZ.below hb4 (Nat.le_refl _)
      go_wp2_with fail
      refine hK.out _ _ (⟨hHeld.1.call hb4, hHeld.2.trans (hb4.mono hHeld.2.size)⟩) (fun hHeld2 => ?_)
      clear hK K hHeld
      have hHeld := hHeld2
      clear hHeld2
      try simp only [Act.put, List.setIfInBounds_toArray, List.set_cons_zero, List.set_cons_succ]
      refine wpAnyH_ready (rs := [4]) (by kernel_rfl) (by simp) ?_
      refine (AllReadyH.cons (o := { dst := some 28, op := Op.makeSlice 22 (Operand.const (Value.int IntKind.i64 33)) (Operand.const (Value.int IntKind.i64 33)), type := 22, pos := "law.go:417", after := #[], guard := none }) rfl (fun K hK => ?_) AllReadyH.nil)
      have hZ := z33_of hHeld.1
      try simp only [sz_al, sz_dr] at hZ
      try replace hA := hold (o := .cells (ints .u8 z33).toArray 5) hA
      try replace hD := hold (o := .cells (ints .u8 z33).toArray 5) hD
      go_simp
      refine hK.out _ _ (⟨hHeld.1.other _, hHeld.2.alloc hHeld.2.size _⟩) (fun hHeld2 => ?_)
      clear hK K hHeld
      have hHeld := hHeld2
      clear hHeld2
      try simp only [Act.put, List.setIfInBounds_toArray, List.set_cons_zero, List.set_cons_succ]
      refine wpAnyH_ready (rs := [5]) (by kernel_rfl) (by simp) ?_
      refine (AllReadyH.cons (o := { dst := some 29, op := Op.call { callee := Callee.value (Operand.func 5), args := #[Operand.tmp 24, Operand.tmp 26, Operand.tmp 27, Operand.tmp 28], argTypes := #[3, 29, 31, 22] }, type := 26, pos := "law.go:417", after := #[{ on := 0, ground := Ground.data }, { on := 2, ground := Ground.data }, { on := 3, ground := Ground.data }, { on := 4, ground := Ground.data }, { on := 2, ground := Ground.chain }], guard := none }) rfl (fun K hK => ?_) AllReadyH.nil)
      go_simp
      go_at_call 5
      refine (KV.out _ (hG.1.below hHeld.1.1 hG.1.1) _ _ hZ).mono ?_
      rintro e w5 ⟨s5, c5, rfl, hO5, hb5⟩
      try replace hA := hbel hb5 hA (hlt hA)
      replace hO5 := own_lower hO5 hHeld.2.size
      go_wp2_with fail
      refine hK.out _ _ (⟨hHeld.1.call hb5, hHeld.2.trans (hb5.mono hHeld.2.size)⟩) (fun hHeld2 => ?_)
      clear hK K hHeld
      have hHeld := hHeld2
      clear hHeld2
      try simp only [Act.put, List.setIfInBounds_toArray, List.set_cons_zero, List.set_cons_succ]
      refine wpAnyH_take (i := 6) (oi := { dst := some 23, op := Op.move (Operand.tmp 29), type := 26, pos := "law.go:417", after := #[{ on := 5, ground := Ground.data }], guard := none }) (v := .tuple #[.agg (ansC vF (.slice s5 vV.length c5)).toArray, .int .i64 vE]) rfl (by kernel_rfl) (by kernel_rfl) (by kernel_rfl) (fun _ _ _ h => h) (Or.inl ⟨by rfl, by intro w hS; go_simp⟩) hHeld ?_
      try simp only [Act.put, List.setIfInBounds_toArray, List.set_cons_zero, List.set_cons_succ]
      refine wpAnyH_take (i := 7) (oi := { dst := some 30, op := Op.extract (Operand.tmp 23) 0, type := 24, pos := "law.go:417", after := #[{ on := 6, ground := Ground.data }], guard := none }) (v := .agg (ansC vF (.slice s5 vV.length c5)).toArray) rfl (by kernel_rfl) (by kernel_rfl) (by kernel_rfl) (fun _ _ _ h => h) (Or.inl ⟨by rfl, by intro w hS; go_simp⟩) hHeld ?_
      try simp only [Act.put, List.setIfInBounds_toArray, List.set_cons_zero, List.set_cons_succ]
      refine wpAnyH_take (i := 8) (oi := { dst := some 31, op := Op.extract (Operand.tmp 23) 1, type := 25, pos := "law.go:417", after := #[{ on := 6, ground := Ground.data }, { on := 10, ground := Ground.gcOnly Departure.lateStores }], guard := none }) (v := .int .i64 vE) rfl (by kernel_rfl) (by kernel_rfl) (by kernel_rfl) (fun _ _ _ h => h) (Or.inl ⟨by rfl, by intro w hS; go_simp⟩) hHeld ?_
      try simp only [Act.put, List.setIfInBounds_toArray, List.set_cons_zero, List.set_cons_succ]
      refine wpAnyH_ready (rs := [10]) (by kernel_rfl) (by simp) ?_
      refine (AllReadyH.cons (o := { dst := none, op := Op.store 24 (Operand.tmp 11) (Operand.tmp 30), type := 0, pos := "law.go:417", after := #[{ on := 9, ground := Ground.data }, { on := 7, ground := Ground.data }, { on := 5, ground := Ground.chain }, { on := 0, ground := Ground.phase }, { on := 1, ground := Ground.phase }, { on := 2, ground := Ground.phase }, { on := 3, ground := Ground.phase }, { on := 4, ground := Ground.phase }, { on := 5, ground := Ground.phase }, { on := 6, ground := Ground.phase }, { on := 7, ground := Ground.phase }, { on := 8, ground := Ground.textOnly Departure.lateStores }, { on := 9, ground := Ground.phase }], guard := none }) rfl (fun K hK => ?_) AllReadyH.nil)
      rw [if_pos (by rfl)]
      refine wp_store_row 24 _ _ rfl _ (ansC vF (.slice s5 vV.length c5)).toArray rfl rfl 24 _ hA (by rw [Tryd.sizeAn]; rfl) rfl (all_oneCell_toArray (ansC_one _ _ _ _)) ?_
      have qA := setRow_heap _ _ _ (ansC vF (.slice s5 vV.length c5)).toArray _ _ hA
      have qO := own_setO hO5 hA (ansC vF (.slice s5 vV.length c5)).toArray
      refine hK.out _ _ (⟨hHeld.1.setO (Nat.le_of_lt (Nat.lt_of_le_of_lt h6 hgA.2)) (ne_two (by omega) (by omega)) _, below_setRow hHeld.2 hgB _⟩) (fun hHeld2 => ?_)
      clear hK K hHeld
      have hHeld := hHeld2
      clear hHeld2
      try simp only [Act.put, List.setIfInBounds_toArray, List.set_cons_zero, List.set_cons_succ]
      refine wpAnyH_take (i := 11) (oi := { dst := some 12, op := Op.assign (Operand.tmp 31), type := 25, pos := "law.go:417", after := #[{ on := 8, ground := Ground.data }, { on := 10, ground := Ground.chain }, { on := 0, ground := Ground.phase }, { on := 1, ground := Ground.phase }, { on := 2, ground := Ground.phase }, { on := 3, ground := Ground.phase }, { on := 4, ground := Ground.phase }, { on := 5, ground := Ground.phase }, { on := 6, ground := Ground.phase }, { on := 7, ground := Ground.phase }, { on := 8, ground := Ground.phase }, { on := 9, ground := Ground.phase }, { on := 10, ground := Ground.phase }], guard := none }) (v := .int .i64 vE) rfl (by kernel_rfl) (by kernel_rfl) (by kernel_rfl) (fun _ _ _ h => h) (Or.inl ⟨by rfl, by intro w hS; go_simp⟩) hHeld ?_
      try simp only [Act.put, List.setIfInBounds_toArray, List.set_cons_zero, List.set_cons_succ]
      refine wpAnyH_done (by kernel_rfl) ?_ _
      refine NoPanic.normal ?_
      exact HK _ s5 c5 _ _ _ _ _ _ _ _ _ _ hHeld.1 hHeld.2 hgB qA qO
    · skip
      have hZ := z33_of hHeld.1
      try simp only [sz_al, sz_dr] at hZ
      try replace hA := hold (o := .cells (ints .u8 z33).toArray 5) hA
      try replace hD := hold (o := .cells (ints .u8 z33).toArray 5) hD
      go_simp
      refine hK.out _ _ (⟨hHeld.1.other _, hHeld.2.alloc hHeld.2.size _⟩) (fun hHeld2 => ?_)
      clear hK K hHeld
      have hHeld := hHeld2
      clear hHeld2
      try simp only [Act.put, List.setIfInBounds_toArray, List.set_cons_zero, List.set_cons_succ]
      refine wpAnyH_ready (rs := [2]) (by kernel_rfl) (by simp) ?_
      refine (AllReadyH.cons (o := { dst := some 26, op := Op.call { callee := Callee.value (Operand.func 6), args := #[Operand.tmp 25, Operand.const (Value.int IntKind.i64 256)], argTypes := #[3, 3] }, type := 29, pos := "law.go:417", after := #[{ on := 1, ground := Ground.data }], guard := none }) rfl (fun K hK => ?_) AllReadyH.nil)
      go_simp
      go_at_call 6
      refine (KX.out _ (hG.below hHeld.1.1 hG.1.1)).mono ?_
      rintro e w4 ⟨rfl, hb4⟩
      try replace hA := hbel hb4 hA (hlt hA)
      try replace hZ := hZ.below hb4 (Nat.le_refl _)
      go_wp2_with fail
      refine hK.out _ _ (⟨hHeld.1.call hb4, hHeld.2.trans (hb4.mono hHeld.2.size)⟩) (fun hHeld2 => ?_)
      clear hK K hHeld
      have hHeld := hHeld2
      clear hHeld2
      try simp only [Act.put, List.setIfInBounds_toArray, List.set_cons_zero, List.set_cons_succ]
      refine wpAnyH_ready (rs := [5]) (by kernel_rfl) (by simp) ?_
      refine (AllReadyH.cons (o := { dst := some 29, op := Op.call { callee := Callee.value (Operand.func 5), args := #[Operand.tmp 24, Operand.tmp 26, Operand.tmp 27, Operand.tmp 28], argTypes := #[3, 29, 31, 22] }, type := 26, pos := "law.go:417", after := #[{ on := 0, ground := Ground.data }, { on := 2, ground := Ground.data }, { on := 3, ground := Ground.data }, { on := 4, ground := Ground.data }, { on := 2, ground := Ground.chain }], guard := none }) rfl (fun K hK => ?_) AllReadyH.nil)
      go_simp
      go_at_call 5
      refine (KV.out _ (hG.1.below hHeld.1.1 hG.1.1) _ _ hZ).mono ?_
      rintro e w5 ⟨s5, c5, rfl, hO5, hb5⟩
      try replace hA := hbel hb5 hA (hlt hA)
      replace hO5 := own_lower hO5 hHeld.2.size
      go_wp2_with fail
      refine hK.out _ _ (⟨hHeld.1.call hb5, hHeld.2.trans (hb5.mono hHeld.2.size)⟩) (fun hHeld2 => ?_)
      clear hK K hHeld
      have hHeld := hHeld2
      clear hHeld2
      try simp only [Act.put, List.setIfInBounds_toArray, List.set_cons_zero, List.set_cons_succ]
      refine wpAnyH_take (i := 6) (oi := { dst := some 23, op := Op.move (Operand.tmp 29), type := 26, pos := "law.go:417", after := #[{ on := 5, ground := Ground.data }], guard := none }) (v := .tuple #[.agg (ansC vF (.slice s5 vV.length c5)).toArray, .int .i64 vE]) rfl (by kernel_rfl) (by kernel_rfl) (by kernel_rfl) (fun _ _ _ h => h) (Or.inl ⟨by rfl, by intro w hS; go_simp⟩) hHeld ?_
      try simp only [Act.put, List.setIfInBounds_toArray, List.set_cons_zero, List.set_cons_succ]
      refine wpAnyH_take (i := 7) (oi := { dst := some 30, op := Op.extract (Operand.tmp 23) 0, type := 24, pos := "law.go:417", after := #[{ on := 6, ground := Ground.data }], guard := none }) (v := .agg (ansC vF (.slice s5 vV.length c5)).toArray) rfl (by kernel_rfl) (by kernel_rfl) (by kernel_rfl) (fun _ _ _ h => h) (Or.inl ⟨by rfl, by intro w hS; go_simp⟩) hHeld ?_
      try simp only [Act.put, List.setIfInBounds_toArray, List.set_cons_zero, List.set_cons_succ]
      refine wpAnyH_take (i := 8) (oi := { dst := some 31, op := Op.extract (Operand.tmp 23) 1, type := 25, pos := "law.go:417", after := #[{ on := 6, ground := Ground.data }, { on := 10, ground := Ground.gcOnly Departure.lateStores }], guard := none }) (v := .int .i64 vE) rfl (by kernel_rfl) (by kernel_rfl) (by kernel_rfl) (fun _ _ _ h => h) (Or.inl ⟨by rfl, by intro w hS; go_simp⟩) hHeld ?_
      try simp only [Act.put, List.setIfInBounds_toArray, List.set_cons_zero, List.set_cons_succ]
      refine wpAnyH_ready (rs := [10]) (by kernel_rfl) (by simp) ?_
      refine (AllReadyH.cons (o := { dst := none, op := Op.store 24 (Operand.tmp 11) (Operand.tmp 30), type := 0, pos := "law.go:417", after := #[{ on := 9, ground := Ground.data }, { on := 7, ground := Ground.data }, { on := 5, ground := Ground.chain }, { on := 0, ground := Ground.phase }, { on := 1, ground := Ground.phase }, { on := 2, ground := Ground.phase }, { on := 3, ground := Ground.phase }, { on := 4, ground := Ground.phase }, { on := 5, ground := Ground.phase }, { on := 6, ground := Ground.phase }, { on := 7, ground := Ground.phase }, { on := 8, ground := Ground.textOnly Departure.lateStores }, { on := 9, ground := Ground.phase }], guard := none }) rfl (fun K hK => ?_) AllReadyH.nil)
      rw [if_pos (by rfl)]
      refine wp_store_row 24 _ _ rfl _ (ansC vF (.slice s5 vV.length c5)).toArray rfl rfl 24 _ hA (by rw [Tryd.sizeAn]; rfl) rfl (all_oneCell_toArray (ansC_one _ _ _ _)) ?_
      have qA := setRow_heap _ _ _ (ansC vF (.slice s5 vV.length c5)).toArray _ _ hA
      have qO := own_setO hO5 hA (ansC vF (.slice s5 vV.length c5)).toArray
      refine hK.out _ _ (⟨hHeld.1.setO (Nat.le_of_lt (Nat.lt_of_le_of_lt h6 hgA.2)) (ne_two (by omega) (by omega)) _, below_setRow hHeld.2 hgB _⟩) (fun hHeld2 => ?_)
      clear hK K hHeld
      have hHeld := hHeld2
      clear hHeld2
      try simp only [Act.put, List.setIfInBounds_toArray, List.set_cons_zero, List.set_cons_succ]
      refine wpAnyH_take (i := 11) (oi := { dst := some 12, op := Op.assign (Operand.tmp 31), type := 25, pos := "law.go:417", after := #[{ on := 8, ground := Ground.data }, { on := 10, ground := Ground.chain }, { on := 0, ground := Ground.phase }, { on := 1, ground := Ground.phase }, { on := 2, ground := Ground.phase }, { on := 3, ground := Ground.phase }, { on := 4, ground := Ground.phase }, { on := 5, ground := Ground.phase }, { on := 6, ground := Ground.phase }, { on := 7, ground := Ground.phase }, { on := 8, ground := Ground.phase }, { on := 9, ground := Ground.phase }, { on := 10, ground := Ground.phase }], guard := none }) (v := .int .i64 vE) rfl (by kernel_rfl) (by kernel_rfl) (by kernel_rfl) (fun _ _ _ h => h) (Or.inl ⟨by rfl, by intro w hS; go_simp⟩) hHeld ?_
      try simp only [Act.put, List.setIfInBounds_toArray, List.set_cons_zero, List.set_cons_succ]
      refine wpAnyH_done (by kernel_rfl) ?_ _
      refine NoPanic.normal ?_
      exact HK _ s5 c5 _ _ _ _ _ _ _ _ _ _ hHeld.1 hHeld.2 hgB qA qO
set_option maxRecDepth 100000 in
set_option maxHeartbeats 4000000 in
theorem reg7 (w0 w : World) (hG : Gb w0) (k : Int) (root ks p : List Int) (hr : root.length = 32) (hk : ks.length = 32) (B6 B7 : Nat) (vE : Int) (vF : Bool) (vV : List Int) (sp : Option Addr) (cap : Nat) {Q : Exit → Act → World → Prop} {u1 u2 u4 u5 u8 u9 u10 u11 u12 u13 u14 u15 u16 u17 u18 u19 u20 u21 u22 u23 u24 u25 u26 u27 u28 u29 u30 u31 u32 u33 u34 u35 u36 u37 u38 u39 u40 u41 u42 u43 u44 u45 u46 u47 u48 u49 u50 u51 u52 u53 u54 u55 u56 u57 u58 u59 u60 u61 u62 u63 u64 u65 u66 u67 u68 u69 u70 u71 u72 u73 u74 u75 u76 u77 u78 u79 u80 u81 u82 u83 u84 u85 u86 u87 u88 u89 u90 u91 u92 u93 u94 u95 u96 u97 u98 u99 u100 u101 u102 u103 u104 u105 u106 u107 u108 u109 u110 u111 u112 u113 u114 u115 u116 u117 u118 u119 u120 u121 u122 u123 u124 u125 u126 u127 u128 u129 u130 u131 u132 u133 u134 u135 u136 u137 u138 u139 u140 u141 u142 u143 u144 u145 u146 u147 u148 u149 u150 u151 u152 u153 u154 u155 u156 u157 u158 u159 u160 u161 u162 u163 u164 u165 u166 u167 u168 u169 u170 u171 : Value} (h6 : w0.heap.size ≤ B6) (d0 : BK w0 w [(B7, ints .u8 ks, 31), (B6, ints .u8 root, 29)]) (KC : Hid (∀ w1, Below w.heap.size w w1 → Calls Tryd.prog 8 #[.slice sp p.length cap] w1 fun e w' => ∃ v, e = .returned v ∧ Own w' w1.heap.size v p ∧ Below w1.heap.size w1 w')) (KV : Hid (∀ w1, Glob w1 → ∀ sp cap, Src w1 sp cap p → Calls Tryd.prog 5 #[.int .i64 k, .agg (ints .u8 root).toArray, .agg (ints .u8 ks).toArray, .slice sp p.length cap] w1 fun e w' => ∃ s c, e = .returned (.tuple #[.agg (ansC vF (.slice s vV.length c)).toArray, .int .i64 vE]) ∧ Own w' w1.heap.size (.slice s vV.length c) vV ∧ Below w1.heap.size w1 w'))
    (HK : ∀ (ga : Nat) (s : Option Addr) (c : Nat) (w' : World) (t71 t72 t73 t74 t75 t76 t70 t77 t78 : Value), BK w0 w' [(B7, ints .u8 ks, 31), (B6, ints .u8 root, 29)] → Below w.heap.size w w' → w.heap.size ≤ ga → w'.heap[ga]? = some (.cells (ansC vF (.slice s vV.length c)).toArray 24 (0, 0)) → Own w' w.heap.size (.slice s vV.length c) vV → Q .normal { tmps := #[.int .i64 k, u1, u2, .slice sp p.length cap, u4, u5, .pointer (some ⟨B6, 0, none⟩), .pointer (some ⟨B7, 0, none⟩), u8, u9, u10, u11, u12, u13, u14, u15, .pointer (some ⟨ga, 0, none⟩), .int .i64 vE, u18, u19, u20, u21, u22, u23, u24, u25, u26, u27, u28, u29, u30, u31, u32, u33, u34, u35, u36, u37, u38, u39, u40, u41, u42, u43, u44, u45, u46, u47, u48, u49, u50, u51, u52, u53, u54, u55, u56, u57, u58, u59, u60, u61, u62, u63, u64, u65, u66, u67, u68, u69, t70, t71, t72, t73, t74, t75, t76, t77, t78, u79, u80, u81, u82, u83, u84, u85, u86, u87, u88, u89, u90, u91, u92, u93, u94, u95, u96, u97, u98, u99, u100, u101, u102, u103, u104, u105, u106, u107, u108, u109, u110, u111, u112, u113, u114, u115, u116, u117, u118, u119, u120, u121, u122, u123, u124, u125, u126, u127, u128, u129, u130, u131, u132, u133, u134, u135, u136, u137, u138, u139, u140, u141, u142, u143, u144, u145, u146, u147, u148, u149, u150, u151, u152, u153, u154, u155, u156, u157, u158, u159, u160, u161, u162, u163, u164, u165, u166, u167, u168, u169, u170, u171], defers := [] } w') :
    Code.wp Tryd.prog (Code.region 7 #[{ dst := some 71, op := Op.move (Operand.tmp 0), type := 3, pos := "law.go:425", after := #[], guard := none }, { dst := some 72, op := Op.load 29 (Operand.tmp 6), type := 29, pos := "law.go:425", after := #[], guard := none }, { dst := some 73, op := Op.load 31 (Operand.tmp 7), type := 31, pos := "law.go:425", after := #[], guard := none }, { dst := some 74, op := Op.move (Operand.tmp 3), type := 22, pos := "law.go:425", after := #[], guard := none }, { dst := some 75, op := Op.call { callee := Callee.value (Operand.func 8), args := #[Operand.tmp 74], argTypes := #[22] }, type := 22, pos := "law.go:425", after := #[{ on := 3, ground := Ground.data }], guard := none }, { dst := some 76, op := Op.call { callee := Callee.value (Operand.func 5), args := #[Operand.tmp 71, Operand.tmp 72, Operand.tmp 73, Operand.tmp 75], argTypes := #[3, 29, 31, 22] }, type := 26, pos := "law.go:425", after := #[{ on := 0, ground := Ground.data }, { on := 1, ground := Ground.data }, { on := 2, ground := Ground.data }, { on := 4, ground := Ground.data }, { on := 4, ground := Ground.chain }], guard := none }, { dst := some 70, op := Op.move (Operand.tmp 76), type := 26, pos := "law.go:425", after := #[{ on := 5, ground := Ground.data }], guard := none }, { dst := some 77, op := Op.extract (Operand.tmp 70) 0, type := 24, pos := "law.go:425", after := #[{ on := 6, ground := Ground.data }], guard := none }, { dst := some 78, op := Op.extract (Operand.tmp 70) 1, type := 25, pos := "law.go:425", after := #[{ on := 6, ground := Ground.data }, { on := 10, ground := Ground.gcOnly Departure.lateStores }], guard := none }, { dst := some 16, op := Op.alloc 24, type := 0, pos := "law.go:425", after := #[], guard := none }, { dst := none, op := Op.store 24 (Operand.tmp 16) (Operand.tmp 77), type := 0, pos := "law.go:425", after := #[{ on := 9, ground := Ground.data }, { on := 7, ground := Ground.data }, { on := 5, ground := Ground.chain }, { on := 0, ground := Ground.phase }, { on := 1, ground := Ground.phase }, { on := 2, ground := Ground.phase }, { on := 3, ground := Ground.phase }, { on := 4, ground := Ground.phase }, { on := 5, ground := Ground.phase }, { on := 6, ground := Ground.phase }, { on := 7, ground := Ground.phase }, { on := 8, ground := Ground.textOnly Departure.lateStores }, { on := 9, ground := Ground.phase }], guard := none }, { dst := some 17, op := Op.assign (Operand.tmp 78), type := 25, pos := "law.go:425", after := #[{ on := 8, ground := Ground.data }, { on := 10, ground := Ground.chain }, { on := 0, ground := Ground.phase }, { on := 1, ground := Ground.phase }, { on := 2, ground := Ground.phase }, { on := 3, ground := Ground.phase }, { on := 4, ground := Ground.phase }, { on := 5, ground := Ground.phase }, { on := 6, ground := Ground.phase }, { on := 7, ground := Ground.phase }, { on := 8, ground := Ground.phase }, { on := 9, ground := Ground.phase }, { on := 10, ground := Ground.phase }], guard := none }] true) Q { tmps := #[.int .i64 k, u1, u2, .slice sp p.length cap, u4, u5, .pointer (some ⟨B6, 0, none⟩), .pointer (some ⟨B7, 0, none⟩), u8, u9, u10, u11, u12, u13, u14, u15, u16, u17, u18, u19, u20, u21, u22, u23, u24, u25, u26, u27, u28, u29, u30, u31, u32, u33, u34, u35, u36, u37, u38, u39, u40, u41, u42, u43, u44, u45, u46, u47, u48, u49, u50, u51, u52, u53, u54, u55, u56, u57, u58, u59, u60, u61, u62, u63, u64, u65, u66, u67, u68, u69, u70, u71, u72, u73, u74, u75, u76, u77, u78, u79, u80, u81, u82, u83, u84, u85, u86, u87, u88, u89, u90, u91, u92, u93, u94, u95, u96, u97, u98, u99, u100, u101, u102, u103, u104, u105, u106, u107, u108, u109, u110, u111, u112, u113, u114, u115, u116, u117, u118, u119, u120, u121, u122, u123, u124, u125, u126, u127, u128, u129, u130, u131, u132, u133, u134, u135, u136, u137, u138, u139, u140, u141, u142, u143, u144, u145, u146, u147, u148, u149, u150, u151, u152, u153, u154, u155, u156, u157, u158, u159, u160, u161, u162, u163, u164, u165, u166, u167, u168, u169, u170, u171], defers := [] } w := by
  have AA := hid allocAn
  have LK := hid (show (Tryd.prog.info? 31).map (·.size) = some (ints .u8 ks).length by rw [Tryd.sizeKy, ints_len, hk])
  have LR := hid (show (Tryd.prog.info? 29).map (·.size) = some (ints .u8 root).length by rw [Tryd.sizeD, ints_len, hr])
  refine wp_region_noPanic ?_
  refine wp_region_held_drew (S := (fun w' => BK w0 w' [(B7, ints .u8 ks, 31), (B6, ints .u8 root, 29)] ∧ Below w.heap.size w w')) (by kernel_rfl) ⟨d0.drew, (Below.refl _ _).drew⟩ (fun hHeld => ?_)
  refine wpAnyH_take (i := 0) (oi := { dst := some 71, op := Op.move (Operand.tmp 0), type := 3, pos := "law.go:425", after := #[], guard := none }) (v := .int .i64 k) rfl (by kernel_rfl) (by kernel_rfl) (by kernel_rfl) (fun _ _ _ h => h) (Or.inl ⟨by rfl, by intro w hS; go_simp⟩) hHeld ?_
  try simp only [Act.put, List.setIfInBounds_toArray, List.set_cons_zero, List.set_cons_succ]
  refine wpAnyH_take (i := 1) (oi := { dst := some 72, op := Op.load 29 (Operand.tmp 6), type := 29, pos := "law.go:425", after := #[], guard := none }) (v := .agg (ints .u8 root).toArray) rfl (by kernel_rfl) (by kernel_rfl) (by kernel_rfl) (fun _ _ _ h => h) (yieldsIf_load_mid (by rfl) 29 _ rfl B6 (0) rfl (ints .u8 root) _ (fun w hS => hS.1.rng (.tail _ (.head _)) (fun j x hx => by rw [Nat.zero_add]; exact hx)) Tryd.underlying29 rfl LR.out) hHeld ?_
  try simp only [Act.put, List.setIfInBounds_toArray, List.set_cons_zero, List.set_cons_succ]
  refine wpAnyH_take (i := 2) (oi := { dst := some 73, op := Op.load 31 (Operand.tmp 7), type := 31, pos := "law.go:425", after := #[], guard := none }) (v := .agg (ints .u8 ks).toArray) rfl (by kernel_rfl) (by kernel_rfl) (by kernel_rfl) (fun _ _ _ h => h) (yieldsIf_load_mid (by rfl) 31 _ rfl B7 (0) rfl (ints .u8 ks) _ (fun w hS => hS.1.rng (.head _) (fun j x hx => by rw [Nat.zero_add]; exact hx)) Tryd.underlying31 rfl LK.out) hHeld ?_
  try simp only [Act.put, List.setIfInBounds_toArray, List.set_cons_zero, List.set_cons_succ]
  refine wpAnyH_take (i := 3) (oi := { dst := some 74, op := Op.move (Operand.tmp 3), type := 22, pos := "law.go:425", after := #[], guard := none }) (v := .slice sp p.length cap) rfl (by kernel_rfl) (by kernel_rfl) (by kernel_rfl) (fun _ _ _ h => h) (Or.inl ⟨by rfl, by intro w hS; go_simp⟩) hHeld ?_
  try simp only [Act.put, List.setIfInBounds_toArray, List.set_cons_zero, List.set_cons_succ]
  refine wpAnyH_ready (rs := [4, 9]) (by kernel_rfl) (by simp) ?_
  refine (AllReadyH.cons (o := { dst := some 75, op := Op.call { callee := Callee.value (Operand.func 8), args := #[Operand.tmp 74], argTypes := #[22] }, type := 22, pos := "law.go:425", after := #[{ on := 3, ground := Ground.data }], guard := none }) rfl (fun K hK => ?_) (AllReadyH.cons (o := { dst := some 16, op := Op.alloc 24, type := 0, pos := "law.go:425", after := #[], guard := none }) rfl (fun K hK => ?_) AllReadyH.nil))
  · skip
    go_simp
    go_at_call 8
    refine (KC.out _ hHeld.2).mono ?_
    rintro e w4 ⟨v4, rfl, hO4, hb4⟩
    obtain ⟨s4, c4, rfl, hZ, -⟩ := hO4.form
    try replace hA := hbel hb4 hA (hlt hA)
    go_wp2_with fail
    refine hK.out _ _ (⟨hHeld.1.call hb4, hHeld.2.trans (hb4.mono hHeld.2.size)⟩) (fun hHeld2 => ?_)
    clear hK K hHeld
    have hHeld := hHeld2
    clear hHeld2
    try simp only [Act.put, List.setIfInBounds_toArray, List.set_cons_zero, List.set_cons_succ]
    refine wpAnyH_ready (rs := [5, 9]) (by kernel_rfl) (by simp) ?_
    refine (AllReadyH.cons (o := { dst := some 76, op := Op.call { callee := Callee.value (Operand.func 5), args := #[Operand.tmp 71, Operand.tmp 72, Operand.tmp 73, Operand.tmp 75], argTypes := #[3, 29, 31, 22] }, type := 26, pos := "law.go:425", after := #[{ on := 0, ground := Ground.data }, { on := 1, ground := Ground.data }, { on := 2, ground := Ground.data }, { on := 4, ground := Ground.data }, { on := 4, ground := Ground.chain }], guard := none }) rfl (fun K hK => ?_) (AllReadyH.cons (o := { dst := some 16, op := Op.alloc 24, type := 0, pos := "law.go:425", after := #[], guard := none }) rfl (fun K hK => ?_) AllReadyH.nil))
    · skip
      go_simp
      go_at_call 5
      refine (KV.out _ (hG.1.below hHeld.1.1 hG.1.1) _ _ hZ).mono ?_
      rintro e w5 ⟨s5, c5, rfl, hO5, hb5⟩
      try replace hA := hbel hb5 hA (hlt hA)
      replace hO5 := own_lower hO5 hHeld.2.size
      go_wp2_with fail
      refine hK.out _ _ (⟨hHeld.1.call hb5, hHeld.2.trans (hb5.mono hHeld.2.size)⟩) (fun hHeld2 => ?_)
      clear hK K hHeld
      have hHeld := hHeld2
      clear hHeld2
      try simp only [Act.put, List.setIfInBounds_toArray, List.set_cons_zero, List.set_cons_succ]
      refine wpAnyH_take (i := 6) (oi := { dst := some 70, op := Op.move (Operand.tmp 76), type := 26, pos := "law.go:425", after := #[{ on := 5, ground := Ground.data }], guard := none }) (v := .tuple #[.agg (ansC vF (.slice s5 vV.length c5)).toArray, .int .i64 vE]) rfl (by kernel_rfl) (by kernel_rfl) (by kernel_rfl) (fun _ _ _ h => h) (Or.inl ⟨by rfl, by intro w hS; go_simp⟩) hHeld ?_
      try simp only [Act.put, List.setIfInBounds_toArray, List.set_cons_zero, List.set_cons_succ]
      refine wpAnyH_take (i := 7) (oi := { dst := some 77, op := Op.extract (Operand.tmp 70) 0, type := 24, pos := "law.go:425", after := #[{ on := 6, ground := Ground.data }], guard := none }) (v := .agg (ansC vF (.slice s5 vV.length c5)).toArray) rfl (by kernel_rfl) (by kernel_rfl) (by kernel_rfl) (fun _ _ _ h => h) (Or.inl ⟨by rfl, by intro w hS; go_simp⟩) hHeld ?_
      try simp only [Act.put, List.setIfInBounds_toArray, List.set_cons_zero, List.set_cons_succ]
      refine wpAnyH_take (i := 8) (oi := { dst := some 78, op := Op.extract (Operand.tmp 70) 1, type := 25, pos := "law.go:425", after := #[{ on := 6, ground := Ground.data }, { on := 10, ground := Ground.gcOnly Departure.lateStores }], guard := none }) (v := .int .i64 vE) rfl (by kernel_rfl) (by kernel_rfl) (by kernel_rfl) (fun _ _ _ h => h) (Or.inl ⟨by rfl, by intro w hS; go_simp⟩) hHeld ?_
      try simp only [Act.put, List.setIfInBounds_toArray, List.set_cons_zero, List.set_cons_succ]
      refine wpAnyH_ready (rs := [9]) (by kernel_rfl) (by simp) ?_
      refine (AllReadyH.cons (o := { dst := some 16, op := Op.alloc 24, type := 0, pos := "law.go:425", after := #[], guard := none }) rfl (fun K hK => ?_) AllReadyH.nil)
      have hA := an_of hHeld.1
      have hgA := an_lt hHeld.1
      have hgB := hHeld.2.size
      try replace hO5 := hO5.below (below_new' _ (.cells (ansC false (.slice none 0 0)).toArray 24)) (Nat.le_refl _)
      try replace hZ := hZ.below (below_new' _ (.cells (ansC false (.slice none 0 0)).toArray 24)) (Nat.le_refl _)
      try simp only [sz_al, sz_dr] at hA hgA hgB
      rw [if_pos (by rfl)]
      unfold Oper.wp
      rw [AA.out _ _ _ rfl]
      refine hK.out _ _ (⟨hHeld.1.other _, hHeld.2.alloc hHeld.2.size _⟩) (fun hHeld2 => ?_)
      clear hK K hHeld
      have hHeld := hHeld2
      clear hHeld2
      try simp only [Act.put, List.setIfInBounds_toArray, List.set_cons_zero, List.set_cons_succ]
      refine wpAnyH_ready (rs := [10]) (by kernel_rfl) (by simp) ?_
      refine (AllReadyH.cons (o := { dst := none, op := Op.store 24 (Operand.tmp 16) (Operand.tmp 77), type := 0, pos := "law.go:425", after := #[{ on := 9, ground := Ground.data }, { on := 7, ground := Ground.data }, { on := 5, ground := Ground.chain }, { on := 0, ground := Ground.phase }, { on := 1, ground := Ground.phase }, { on := 2, ground := Ground.phase }, { on := 3, ground := Ground.phase }, { on := 4, ground := Ground.phase }, { on := 5, ground := Ground.phase }, { on := 6, ground := Ground.phase }, { on := 7, ground := Ground.phase }, { on := 8, ground := Ground.textOnly Departure.lateStores }, { on := 9, ground := Ground.phase }], guard := none }) rfl (fun K hK => ?_) AllReadyH.nil)
      rw [if_pos (by rfl)]
      refine wp_store_row 24 _ _ rfl _ (ansC vF (.slice s5 vV.length c5)).toArray rfl rfl 24 _ hA (by rw [Tryd.sizeAn]; rfl) rfl (all_oneCell_toArray (ansC_one _ _ _ _)) ?_
      have qA := setRow_heap _ _ _ (ansC vF (.slice s5 vV.length c5)).toArray _ _ hA
      have qO := own_setO hO5 hA (ansC vF (.slice s5 vV.length c5)).toArray
      refine hK.out _ _ (⟨hHeld.1.setO (Nat.le_of_lt (Nat.lt_of_le_of_lt h6 hgA.2)) (ne_two (by omega) (by omega)) _, below_setRow hHeld.2 hgB _⟩) (fun hHeld2 => ?_)
      clear hK K hHeld
      have hHeld := hHeld2
      clear hHeld2
      try simp only [Act.put, List.setIfInBounds_toArray, List.set_cons_zero, List.set_cons_succ]
      refine wpAnyH_take (i := 11) (oi := { dst := some 17, op := Op.assign (Operand.tmp 78), type := 25, pos := "law.go:425", after := #[{ on := 8, ground := Ground.data }, { on := 10, ground := Ground.chain }, { on := 0, ground := Ground.phase }, { on := 1, ground := Ground.phase }, { on := 2, ground := Ground.phase }, { on := 3, ground := Ground.phase }, { on := 4, ground := Ground.phase }, { on := 5, ground := Ground.phase }, { on := 6, ground := Ground.phase }, { on := 7, ground := Ground.phase }, { on := 8, ground := Ground.phase }, { on := 9, ground := Ground.phase }, { on := 10, ground := Ground.phase }], guard := none }) (v := .int .i64 vE) rfl (by kernel_rfl) (by kernel_rfl) (by kernel_rfl) (fun _ _ _ h => h) (Or.inl ⟨by rfl, by intro w hS; go_simp⟩) hHeld ?_
      try simp only [Act.put, List.setIfInBounds_toArray, List.set_cons_zero, List.set_cons_succ]
      refine wpAnyH_done (by kernel_rfl) ?_ _
      refine NoPanic.normal ?_
      exact HK _ s5 c5 _ _ _ _ _ _ _ _ _ _ hHeld.1 hHeld.2 hgB qA qO
    · skip
      have hA := an_of hHeld.1
      have hgA := an_lt hHeld.1
      have hgB := hHeld.2.size
      try replace hO5 := hO5.below (below_new' _ (.cells (ansC false (.slice none 0 0)).toArray 24)) (Nat.le_refl _)
      try replace hZ := hZ.below (below_new' _ (.cells (ansC false (.slice none 0 0)).toArray 24)) (Nat.le_refl _)
      try simp only [sz_al, sz_dr] at hA hgA hgB
      rw [if_pos (by rfl)]
      unfold Oper.wp
      rw [AA.out _ _ _ rfl]
      refine hK.out _ _ (⟨hHeld.1.other _, hHeld.2.alloc hHeld.2.size _⟩) (fun hHeld2 => ?_)
      clear hK K hHeld
      have hHeld := hHeld2
      clear hHeld2
      try simp only [Act.put, List.setIfInBounds_toArray, List.set_cons_zero, List.set_cons_succ]
      refine wpAnyH_ready (rs := [5]) (by kernel_rfl) (by simp) ?_
      refine (AllReadyH.cons (o := { dst := some 76, op := Op.call { callee := Callee.value (Operand.func 5), args := #[Operand.tmp 71, Operand.tmp 72, Operand.tmp 73, Operand.tmp 75], argTypes := #[3, 29, 31, 22] }, type := 26, pos := "law.go:425", after := #[{ on := 0, ground := Ground.data }, { on := 1, ground := Ground.data }, { on := 2, ground := Ground.data }, { on := 4, ground := Ground.data }, { on := 4, ground := Ground.chain }], guard := none }) rfl (fun K hK => ?_) AllReadyH.nil)
      go_simp
      go_at_call 5
      refine (KV.out _ (hG.1.below hHeld.1.1 hG.1.1) _ _ hZ).mono ?_
      rintro e w5 ⟨s5, c5, rfl, hO5, hb5⟩
      try replace hA := hbel hb5 hA (hlt hA)
      replace hO5 := own_lower hO5 hHeld.2.size
      go_wp2_with fail
      refine hK.out _ _ (⟨hHeld.1.call hb5, hHeld.2.trans (hb5.mono hHeld.2.size)⟩) (fun hHeld2 => ?_)
      clear hK K hHeld
      have hHeld := hHeld2
      clear hHeld2
      try simp only [Act.put, List.setIfInBounds_toArray, List.set_cons_zero, List.set_cons_succ]
      refine wpAnyH_take (i := 6) (oi := { dst := some 70, op := Op.move (Operand.tmp 76), type := 26, pos := "law.go:425", after := #[{ on := 5, ground := Ground.data }], guard := none }) (v := .tuple #[.agg (ansC vF (.slice s5 vV.length c5)).toArray, .int .i64 vE]) rfl (by kernel_rfl) (by kernel_rfl) (by kernel_rfl) (fun _ _ _ h => h) (Or.inl ⟨by rfl, by intro w hS; go_simp⟩) hHeld ?_
      try simp only [Act.put, List.setIfInBounds_toArray, List.set_cons_zero, List.set_cons_succ]
      refine wpAnyH_take (i := 7) (oi := { dst := some 77, op := Op.extract (Operand.tmp 70) 0, type := 24, pos := "law.go:425", after := #[{ on := 6, ground := Ground.data }], guard := none }) (v := .agg (ansC vF (.slice s5 vV.length c5)).toArray) rfl (by kernel_rfl) (by kernel_rfl) (by kernel_rfl) (fun _ _ _ h => h) (Or.inl ⟨by rfl, by intro w hS; go_simp⟩) hHeld ?_
      try simp only [Act.put, List.setIfInBounds_toArray, List.set_cons_zero, List.set_cons_succ]
      refine wpAnyH_take (i := 8) (oi := { dst := some 78, op := Op.extract (Operand.tmp 70) 1, type := 25, pos := "law.go:425", after := #[{ on := 6, ground := Ground.data }, { on := 10, ground := Ground.gcOnly Departure.lateStores }], guard := none }) (v := .int .i64 vE) rfl (by kernel_rfl) (by kernel_rfl) (by kernel_rfl) (fun _ _ _ h => h) (Or.inl ⟨by rfl, by intro w hS; go_simp⟩) hHeld ?_
      try simp only [Act.put, List.setIfInBounds_toArray, List.set_cons_zero, List.set_cons_succ]
      refine wpAnyH_ready (rs := [10]) (by kernel_rfl) (by simp) ?_
      refine (AllReadyH.cons (o := { dst := none, op := Op.store 24 (Operand.tmp 16) (Operand.tmp 77), type := 0, pos := "law.go:425", after := #[{ on := 9, ground := Ground.data }, { on := 7, ground := Ground.data }, { on := 5, ground := Ground.chain }, { on := 0, ground := Ground.phase }, { on := 1, ground := Ground.phase }, { on := 2, ground := Ground.phase }, { on := 3, ground := Ground.phase }, { on := 4, ground := Ground.phase }, { on := 5, ground := Ground.phase }, { on := 6, ground := Ground.phase }, { on := 7, ground := Ground.phase }, { on := 8, ground := Ground.textOnly Departure.lateStores }, { on := 9, ground := Ground.phase }], guard := none }) rfl (fun K hK => ?_) AllReadyH.nil)
      rw [if_pos (by rfl)]
      refine wp_store_row 24 _ _ rfl _ (ansC vF (.slice s5 vV.length c5)).toArray rfl rfl 24 _ hA (by rw [Tryd.sizeAn]; rfl) rfl (all_oneCell_toArray (ansC_one _ _ _ _)) ?_
      have qA := setRow_heap _ _ _ (ansC vF (.slice s5 vV.length c5)).toArray _ _ hA
      have qO := own_setO hO5 hA (ansC vF (.slice s5 vV.length c5)).toArray
      refine hK.out _ _ (⟨hHeld.1.setO (Nat.le_of_lt (Nat.lt_of_le_of_lt h6 hgA.2)) (ne_two (by omega) (by omega)) _, below_setRow hHeld.2 hgB _⟩) (fun hHeld2 => ?_)
      clear hK K hHeld
      have hHeld := hHeld2
      clear hHeld2
      try simp only [Act.put, List.setIfInBounds_toArray, List.set_cons_zero, List.set_cons_succ]
      refine wpAnyH_take (i := 11) (oi := { dst := some 17, op := Op.assign (Operand.tmp 78), type := 25, pos := "law.go:425", after := #[{ on := 8, ground := Ground.data }, { on := 10, ground := Ground.chain }, { on := 0, ground := Ground.phase }, { on := 1, ground := Ground.phase }, { on := 2, ground := Ground.phase }, { on := 3, ground := Ground.phase }, { on := 4, ground := Ground.phase }, { on := 5, ground := Ground.phase }, { on := 6, ground := Ground.phase }, { on := 7, ground := Ground.phase }, { on := 8, ground := Ground.phase }, { on := 9, ground := Ground.phase }, { on := 10, ground := Ground.phase }], guard := none }) (v := .int .i64 vE) rfl (by kernel_rfl) (by kernel_rfl) (by kernel_rfl) (fun _ _ _ h => h) (Or.inl ⟨by rfl, by intro w hS; go_simp⟩) hHeld ?_
      try simp only [Act.put, List.setIfInBounds_toArray, List.set_cons_zero, List.set_cons_succ]
      refine wpAnyH_done (by kernel_rfl) ?_ _
      refine NoPanic.normal ?_
      exact HK _ s5 c5 _ _ _ _ _ _ _ _ _ _ hHeld.1 hHeld.2 hgB qA qO
  · skip
    have hA := an_of hHeld.1
    have hgA := an_lt hHeld.1
    have hgB := hHeld.2.size
    try replace hO5 := hO5.below (below_new' _ (.cells (ansC false (.slice none 0 0)).toArray 24)) (Nat.le_refl _)
    try replace hZ := hZ.below (below_new' _ (.cells (ansC false (.slice none 0 0)).toArray 24)) (Nat.le_refl _)
    try simp only [sz_al, sz_dr] at hA hgA hgB
    rw [if_pos (by rfl)]
    unfold Oper.wp
    rw [AA.out _ _ _ rfl]
    refine hK.out _ _ (⟨hHeld.1.other _, hHeld.2.alloc hHeld.2.size _⟩) (fun hHeld2 => ?_)
    clear hK K hHeld
    have hHeld := hHeld2
    clear hHeld2
    try simp only [Act.put, List.setIfInBounds_toArray, List.set_cons_zero, List.set_cons_succ]
    refine wpAnyH_ready (rs := [4]) (by kernel_rfl) (by simp) ?_
    refine (AllReadyH.cons (o := { dst := some 75, op := Op.call { callee := Callee.value (Operand.func 8), args := #[Operand.tmp 74], argTypes := #[22] }, type := 22, pos := "law.go:425", after := #[{ on := 3, ground := Ground.data }], guard := none }) rfl (fun K hK => ?_) AllReadyH.nil)
    go_simp
    go_at_call 8
    refine (KC.out _ hHeld.2).mono ?_
    rintro e w4 ⟨v4, rfl, hO4, hb4⟩
    obtain ⟨s4, c4, rfl, hZ, -⟩ := hO4.form
    try replace hA := hbel hb4 hA (hlt hA)
    go_wp2_with fail
    refine hK.out _ _ (⟨hHeld.1.call hb4, hHeld.2.trans (hb4.mono hHeld.2.size)⟩) (fun hHeld2 => ?_)
    clear hK K hHeld
    have hHeld := hHeld2
    clear hHeld2
    try simp only [Act.put, List.setIfInBounds_toArray, List.set_cons_zero, List.set_cons_succ]
    refine wpAnyH_ready (rs := [5]) (by kernel_rfl) (by simp) ?_
    refine (AllReadyH.cons (o := { dst := some 76, op := Op.call { callee := Callee.value (Operand.func 5), args := #[Operand.tmp 71, Operand.tmp 72, Operand.tmp 73, Operand.tmp 75], argTypes := #[3, 29, 31, 22] }, type := 26, pos := "law.go:425", after := #[{ on := 0, ground := Ground.data }, { on := 1, ground := Ground.data }, { on := 2, ground := Ground.data }, { on := 4, ground := Ground.data }, { on := 4, ground := Ground.chain }], guard := none }) rfl (fun K hK => ?_) AllReadyH.nil)
    go_simp
    go_at_call 5
    refine (KV.out _ (hG.1.below hHeld.1.1 hG.1.1) _ _ hZ).mono ?_
    rintro e w5 ⟨s5, c5, rfl, hO5, hb5⟩
    try replace hA := hbel hb5 hA (hlt hA)
    replace hO5 := own_lower hO5 hHeld.2.size
    go_wp2_with fail
    refine hK.out _ _ (⟨hHeld.1.call hb5, hHeld.2.trans (hb5.mono hHeld.2.size)⟩) (fun hHeld2 => ?_)
    clear hK K hHeld
    have hHeld := hHeld2
    clear hHeld2
    try simp only [Act.put, List.setIfInBounds_toArray, List.set_cons_zero, List.set_cons_succ]
    refine wpAnyH_take (i := 6) (oi := { dst := some 70, op := Op.move (Operand.tmp 76), type := 26, pos := "law.go:425", after := #[{ on := 5, ground := Ground.data }], guard := none }) (v := .tuple #[.agg (ansC vF (.slice s5 vV.length c5)).toArray, .int .i64 vE]) rfl (by kernel_rfl) (by kernel_rfl) (by kernel_rfl) (fun _ _ _ h => h) (Or.inl ⟨by rfl, by intro w hS; go_simp⟩) hHeld ?_
    try simp only [Act.put, List.setIfInBounds_toArray, List.set_cons_zero, List.set_cons_succ]
    refine wpAnyH_take (i := 7) (oi := { dst := some 77, op := Op.extract (Operand.tmp 70) 0, type := 24, pos := "law.go:425", after := #[{ on := 6, ground := Ground.data }], guard := none }) (v := .agg (ansC vF (.slice s5 vV.length c5)).toArray) rfl (by kernel_rfl) (by kernel_rfl) (by kernel_rfl) (fun _ _ _ h => h) (Or.inl ⟨by rfl, by intro w hS; go_simp⟩) hHeld ?_
    try simp only [Act.put, List.setIfInBounds_toArray, List.set_cons_zero, List.set_cons_succ]
    refine wpAnyH_take (i := 8) (oi := { dst := some 78, op := Op.extract (Operand.tmp 70) 1, type := 25, pos := "law.go:425", after := #[{ on := 6, ground := Ground.data }, { on := 10, ground := Ground.gcOnly Departure.lateStores }], guard := none }) (v := .int .i64 vE) rfl (by kernel_rfl) (by kernel_rfl) (by kernel_rfl) (fun _ _ _ h => h) (Or.inl ⟨by rfl, by intro w hS; go_simp⟩) hHeld ?_
    try simp only [Act.put, List.setIfInBounds_toArray, List.set_cons_zero, List.set_cons_succ]
    refine wpAnyH_ready (rs := [10]) (by kernel_rfl) (by simp) ?_
    refine (AllReadyH.cons (o := { dst := none, op := Op.store 24 (Operand.tmp 16) (Operand.tmp 77), type := 0, pos := "law.go:425", after := #[{ on := 9, ground := Ground.data }, { on := 7, ground := Ground.data }, { on := 5, ground := Ground.chain }, { on := 0, ground := Ground.phase }, { on := 1, ground := Ground.phase }, { on := 2, ground := Ground.phase }, { on := 3, ground := Ground.phase }, { on := 4, ground := Ground.phase }, { on := 5, ground := Ground.phase }, { on := 6, ground := Ground.phase }, { on := 7, ground := Ground.phase }, { on := 8, ground := Ground.textOnly Departure.lateStores }, { on := 9, ground := Ground.phase }], guard := none }) rfl (fun K hK => ?_) AllReadyH.nil)
    rw [if_pos (by rfl)]
    refine wp_store_row 24 _ _ rfl _ (ansC vF (.slice s5 vV.length c5)).toArray rfl rfl 24 _ hA (by rw [Tryd.sizeAn]; rfl) rfl (all_oneCell_toArray (ansC_one _ _ _ _)) ?_
    have qA := setRow_heap _ _ _ (ansC vF (.slice s5 vV.length c5)).toArray _ _ hA
    have qO := own_setO hO5 hA (ansC vF (.slice s5 vV.length c5)).toArray
    refine hK.out _ _ (⟨hHeld.1.setO (Nat.le_of_lt (Nat.lt_of_le_of_lt h6 hgA.2)) (ne_two (by omega) (by omega)) _, below_setRow hHeld.2 hgB _⟩) (fun hHeld2 => ?_)
    clear hK K hHeld
    have hHeld := hHeld2
    clear hHeld2
    try simp only [Act.put, List.setIfInBounds_toArray, List.set_cons_zero, List.set_cons_succ]
    refine wpAnyH_take (i := 11) (oi := { dst := some 17, op := Op.assign (Operand.tmp 78), type := 25, pos := "law.go:425", after := #[{ on := 8, ground := Ground.data }, { on := 10, ground := Ground.chain }, { on := 0, ground := Ground.phase }, { on := 1, ground := Ground.phase }, { on := 2, ground := Ground.phase }, { on := 3, ground := Ground.phase }, { on := 4, ground := Ground.phase }, { on := 5, ground := Ground.phase }, { on := 6, ground := Ground.phase }, { on := 7, ground := Ground.phase }, { on := 8, ground := Ground.phase }, { on := 9, ground := Ground.phase }, { on := 10, ground := Ground.phase }], guard := none }) (v := .int .i64 vE) rfl (by kernel_rfl) (by kernel_rfl) (by kernel_rfl) (fun _ _ _ h => h) (Or.inl ⟨by rfl, by intro w hS; go_simp⟩) hHeld ?_
    try simp only [Act.put, List.setIfInBounds_toArray, List.set_cons_zero, List.set_cons_succ]
    refine wpAnyH_done (by kernel_rfl) ?_ _
    refine NoPanic.normal ?_
    exact HK _ s5 c5 _ _ _ _ _ _ _ _ _ _ hHeld.1 hHeld.2 hgB qA qO
set_option maxRecDepth 100000 in
set_option maxHeartbeats 4000000 in
theorem reg8 (w0 w : World) (hG : Gb w0) (k : Int) (root ks p : List Int) (hr : root.length = 32) (hk : ks.length = 32) (B6 B7 : Nat) (vE : Int) (vF : Bool) (vV : List Int) (sp : Option Addr) (cap : Nat) {Q : Exit → Act → World → Prop} {u1 u2 u3 u5 u8 u9 u10 u11 u12 u13 u14 u15 u16 u17 u18 u19 u20 u21 u22 u23 u24 u25 u26 u27 u28 u29 u30 u31 u32 u33 u34 u35 u36 u37 u38 u39 u40 u41 u42 u43 u44 u45 u46 u47 u48 u49 u50 u51 u52 u53 u54 u55 u56 u57 u58 u59 u60 u61 u62 u63 u64 u65 u66 u67 u68 u69 u70 u71 u72 u73 u74 u75 u76 u77 u78 u79 u80 u81 u82 u83 u84 u85 u86 u87 u88 u89 u90 u91 u92 u93 u94 u95 u96 u97 u98 u99 u100 u101 u102 u103 u104 u105 u106 u107 u108 u109 u110 u111 u112 u113 u114 u115 u116 u117 u118 u119 u120 u121 u122 u123 u124 u125 u126 u127 u128 u129 u130 u131 u132 u133 u134 u135 u136 u137 u138 u139 u140 u141 u142 u143 u144 u145 u146 u147 u148 u149 u150 u151 u152 u153 u154 u155 u156 u157 u158 u159 u160 u161 u162 u163 u164 u165 u166 u167 u168 u169 u170 u171 : Value} (h6 : w0.heap.size ≤ B6) (d0 : BK w0 w [(B7, ints .u8 ks, 31), (B6, ints .u8 root, 29)]) (KC : Hid (∀ w1, Below w.heap.size w w1 → Calls Tryd.prog 8 #[.slice sp p.length cap] w1 fun e w' => ∃ v, e = .returned v ∧ Own w' w1.heap.size v p ∧ Below w1.heap.size w1 w')) (KV : Hid (∀ w1, Glob w1 → ∀ sp cap, Src w1 sp cap p → Calls Tryd.prog 5 #[.int .i64 k, .agg (ints .u8 root).toArray, .agg (ints .u8 ks).toArray, .slice sp p.length cap] w1 fun e w' => ∃ s c, e = .returned (.tuple #[.agg (ansC vF (.slice s vV.length c)).toArray, .int .i64 vE]) ∧ Own w' w1.heap.size (.slice s vV.length c) vV ∧ Below w1.heap.size w1 w'))
    (HK : ∀ (ga : Nat) (s : Option Addr) (c : Nat) (w' : World) (t80 t81 t82 t83 t84 t85 t79 t86 t87 : Value), BK w0 w' [(B7, ints .u8 ks, 31), (B6, ints .u8 root, 29)] → Below w.heap.size w w' → w.heap.size ≤ ga → w'.heap[ga]? = some (.cells (ansC vF (.slice s vV.length c)).toArray 24 (0, 0)) → Own w' w.heap.size (.slice s vV.length c) vV → Q .normal { tmps := #[.int .i64 k, u1, u2, u3, .slice sp p.length cap, u5, .pointer (some ⟨B6, 0, none⟩), .pointer (some ⟨B7, 0, none⟩), u8, u9, u10, u11, u12, u13, u14, u15, u16, u17, .pointer (some ⟨ga, 0, none⟩), .int .i64 vE, u20, u21, u22, u23, u24, u25, u26, u27, u28, u29, u30, u31, u32, u33, u34, u35, u36, u37, u38, u39, u40, u41, u42, u43, u44, u45, u46, u47, u48, u49, u50, u51, u52, u53, u54, u55, u56, u57, u58, u59, u60, u61, u62, u63, u64, u65, u66, u67, u68, u69, u70, u71, u72, u73, u74, u75, u76, u77, u78, t79, t80, t81, t82, t83, t84, t85, t86, t87, u88, u89, u90, u91, u92, u93, u94, u95, u96, u97, u98, u99, u100, u101, u102, u103, u104, u105, u106, u107, u108, u109, u110, u111, u112, u113, u114, u115, u116, u117, u118, u119, u120, u121, u122, u123, u124, u125, u126, u127, u128, u129, u130, u131, u132, u133, u134, u135, u136, u137, u138, u139, u140, u141, u142, u143, u144, u145, u146, u147, u148, u149, u150, u151, u152, u153, u154, u155, u156, u157, u158, u159, u160, u161, u162, u163, u164, u165, u166, u167, u168, u169, u170, u171], defers := [] } w') :
    Code.wp Tryd.prog (Code.region 8 #[{ dst := some 80, op := Op.move (Operand.tmp 0), type := 3, pos := "law.go:426", after := #[], guard := none }, { dst := some 81, op := Op.load 29 (Operand.tmp 6), type := 29, pos := "law.go:426", after := #[], guard := none }, { dst := some 82, op := Op.load 31 (Operand.tmp 7), type := 31, pos := "law.go:426", after := #[], guard := none }, { dst := some 83, op := Op.move (Operand.tmp 4), type := 22, pos := "law.go:426", after := #[], guard := none }, { dst := some 84, op := Op.call { callee := Callee.value (Operand.func 8), args := #[Operand.tmp 83], argTypes := #[22] }, type := 22, pos := "law.go:426", after := #[{ on := 3, ground := Ground.data }], guard := none }, { dst := some 85, op := Op.call { callee := Callee.value (Operand.func 5), args := #[Operand.tmp 80, Operand.tmp 81, Operand.tmp 82, Operand.tmp 84], argTypes := #[3, 29, 31, 22] }, type := 26, pos := "law.go:426", after := #[{ on := 0, ground := Ground.data }, { on := 1, ground := Ground.data }, { on := 2, ground := Ground.data }, { on := 4, ground := Ground.data }, { on := 4, ground := Ground.chain }], guard := none }, { dst := some 79, op := Op.move (Operand.tmp 85), type := 26, pos := "law.go:426", after := #[{ on := 5, ground := Ground.data }], guard := none }, { dst := some 86, op := Op.extract (Operand.tmp 79) 0, type := 24, pos := "law.go:426", after := #[{ on := 6, ground := Ground.data }], guard := none }, { dst := some 87, op := Op.extract (Operand.tmp 79) 1, type := 25, pos := "law.go:426", after := #[{ on := 6, ground := Ground.data }, { on := 10, ground := Ground.gcOnly Departure.lateStores }], guard := none }, { dst := some 18, op := Op.alloc 24, type := 0, pos := "law.go:426", after := #[], guard := none }, { dst := none, op := Op.store 24 (Operand.tmp 18) (Operand.tmp 86), type := 0, pos := "law.go:426", after := #[{ on := 9, ground := Ground.data }, { on := 7, ground := Ground.data }, { on := 5, ground := Ground.chain }, { on := 0, ground := Ground.phase }, { on := 1, ground := Ground.phase }, { on := 2, ground := Ground.phase }, { on := 3, ground := Ground.phase }, { on := 4, ground := Ground.phase }, { on := 5, ground := Ground.phase }, { on := 6, ground := Ground.phase }, { on := 7, ground := Ground.phase }, { on := 8, ground := Ground.textOnly Departure.lateStores }, { on := 9, ground := Ground.phase }], guard := none }, { dst := some 19, op := Op.assign (Operand.tmp 87), type := 25, pos := "law.go:426", after := #[{ on := 8, ground := Ground.data }, { on := 10, ground := Ground.chain }, { on := 0, ground := Ground.phase }, { on := 1, ground := Ground.phase }, { on := 2, ground := Ground.phase }, { on := 3, ground := Ground.phase }, { on := 4, ground := Ground.phase }, { on := 5, ground := Ground.phase }, { on := 6, ground := Ground.phase }, { on := 7, ground := Ground.phase }, { on := 8, ground := Ground.phase }, { on := 9, ground := Ground.phase }, { on := 10, ground := Ground.phase }], guard := none }] true) Q { tmps := #[.int .i64 k, u1, u2, u3, .slice sp p.length cap, u5, .pointer (some ⟨B6, 0, none⟩), .pointer (some ⟨B7, 0, none⟩), u8, u9, u10, u11, u12, u13, u14, u15, u16, u17, u18, u19, u20, u21, u22, u23, u24, u25, u26, u27, u28, u29, u30, u31, u32, u33, u34, u35, u36, u37, u38, u39, u40, u41, u42, u43, u44, u45, u46, u47, u48, u49, u50, u51, u52, u53, u54, u55, u56, u57, u58, u59, u60, u61, u62, u63, u64, u65, u66, u67, u68, u69, u70, u71, u72, u73, u74, u75, u76, u77, u78, u79, u80, u81, u82, u83, u84, u85, u86, u87, u88, u89, u90, u91, u92, u93, u94, u95, u96, u97, u98, u99, u100, u101, u102, u103, u104, u105, u106, u107, u108, u109, u110, u111, u112, u113, u114, u115, u116, u117, u118, u119, u120, u121, u122, u123, u124, u125, u126, u127, u128, u129, u130, u131, u132, u133, u134, u135, u136, u137, u138, u139, u140, u141, u142, u143, u144, u145, u146, u147, u148, u149, u150, u151, u152, u153, u154, u155, u156, u157, u158, u159, u160, u161, u162, u163, u164, u165, u166, u167, u168, u169, u170, u171], defers := [] } w := by
  have AA := hid allocAn
  have LK := hid (show (Tryd.prog.info? 31).map (·.size) = some (ints .u8 ks).length by rw [Tryd.sizeKy, ints_len, hk])
  have LR := hid (show (Tryd.prog.info? 29).map (·.size) = some (ints .u8 root).length by rw [Tryd.sizeD, ints_len, hr])
  refine wp_region_noPanic ?_
  refine wp_region_held_drew (S := (fun w' => BK w0 w' [(B7, ints .u8 ks, 31), (B6, ints .u8 root, 29)] ∧ Below w.heap.size w w')) (by kernel_rfl) ⟨d0.drew, (Below.refl _ _).drew⟩ (fun hHeld => ?_)
  refine wpAnyH_take (i := 0) (oi := { dst := some 80, op := Op.move (Operand.tmp 0), type := 3, pos := "law.go:426", after := #[], guard := none }) (v := .int .i64 k) rfl (by kernel_rfl) (by kernel_rfl) (by kernel_rfl) (fun _ _ _ h => h) (Or.inl ⟨by rfl, by intro w hS; go_simp⟩) hHeld ?_
  try simp only [Act.put, List.setIfInBounds_toArray, List.set_cons_zero, List.set_cons_succ]
  refine wpAnyH_take (i := 1) (oi := { dst := some 81, op := Op.load 29 (Operand.tmp 6), type := 29, pos := "law.go:426", after := #[], guard := none }) (v := .agg (ints .u8 root).toArray) rfl (by kernel_rfl) (by kernel_rfl) (by kernel_rfl) (fun _ _ _ h => h) (yieldsIf_load_mid (by rfl) 29 _ rfl B6 (0) rfl (ints .u8 root) _ (fun w hS => hS.1.rng (.tail _ (.head _)) (fun j x hx => by rw [Nat.zero_add]; exact hx)) Tryd.underlying29 rfl LR.out) hHeld ?_
  try simp only [Act.put, List.setIfInBounds_toArray, List.set_cons_zero, List.set_cons_succ]
  refine wpAnyH_take (i := 2) (oi := { dst := some 82, op := Op.load 31 (Operand.tmp 7), type := 31, pos := "law.go:426", after := #[], guard := none }) (v := .agg (ints .u8 ks).toArray) rfl (by kernel_rfl) (by kernel_rfl) (by kernel_rfl) (fun _ _ _ h => h) (yieldsIf_load_mid (by rfl) 31 _ rfl B7 (0) rfl (ints .u8 ks) _ (fun w hS => hS.1.rng (.head _) (fun j x hx => by rw [Nat.zero_add]; exact hx)) Tryd.underlying31 rfl LK.out) hHeld ?_
  try simp only [Act.put, List.setIfInBounds_toArray, List.set_cons_zero, List.set_cons_succ]
  refine wpAnyH_take (i := 3) (oi := { dst := some 83, op := Op.move (Operand.tmp 4), type := 22, pos := "law.go:426", after := #[], guard := none }) (v := .slice sp p.length cap) rfl (by kernel_rfl) (by kernel_rfl) (by kernel_rfl) (fun _ _ _ h => h) (Or.inl ⟨by rfl, by intro w hS; go_simp⟩) hHeld ?_
  try simp only [Act.put, List.setIfInBounds_toArray, List.set_cons_zero, List.set_cons_succ]
  refine wpAnyH_ready (rs := [4, 9]) (by kernel_rfl) (by simp) ?_
  refine (AllReadyH.cons (o := { dst := some 84, op := Op.call { callee := Callee.value (Operand.func 8), args := #[Operand.tmp 83], argTypes := #[22] }, type := 22, pos := "law.go:426", after := #[{ on := 3, ground := Ground.data }], guard := none }) rfl (fun K hK => ?_) (AllReadyH.cons (o := { dst := some 18, op := Op.alloc 24, type := 0, pos := "law.go:426", after := #[], guard := none }) rfl (fun K hK => ?_) AllReadyH.nil))
  · skip
    go_simp
    go_at_call 8
    refine (KC.out _ hHeld.2).mono ?_
    rintro e w4 ⟨v4, rfl, hO4, hb4⟩
    obtain ⟨s4, c4, rfl, hZ, -⟩ := hO4.form
    try replace hA := hbel hb4 hA (hlt hA)
    go_wp2_with fail
    refine hK.out _ _ (⟨hHeld.1.call hb4, hHeld.2.trans (hb4.mono hHeld.2.size)⟩) (fun hHeld2 => ?_)
    clear hK K hHeld
    have hHeld := hHeld2
    clear hHeld2
    try simp only [Act.put, List.setIfInBounds_toArray, List.set_cons_zero, List.set_cons_succ]
    refine wpAnyH_ready (rs := [5, 9]) (by kernel_rfl) (by simp) ?_
    refine (AllReadyH.cons (o := { dst := some 85, op := Op.call { callee := Callee.value (Operand.func 5), args := #[Operand.tmp 80, Operand.tmp 81, Operand.tmp 82, Operand.tmp 84], argTypes := #[3, 29, 31, 22] }, type := 26, pos := "law.go:426", after := #[{ on := 0, ground := Ground.data }, { on := 1, ground := Ground.data }, { on := 2, ground := Ground.data }, { on := 4, ground := Ground.data }, { on := 4, ground := Ground.chain }], guard := none }) rfl (fun K hK => ?_) (AllReadyH.cons (o := { dst := some 18, op := Op.alloc 24, type := 0, pos := "law.go:426", after := #[], guard := none }) rfl (fun K hK => ?_) AllReadyH.nil))
    · skip
      go_simp
      go_at_call 5
      refine (KV.out _ (hG.1.below hHeld.1.1 hG.1.1) _ _ hZ).mono ?_
      rintro e w5 ⟨s5, c5, rfl, hO5, hb5⟩
      try replace hA := hbel hb5 hA (hlt hA)
      replace hO5 := own_lower hO5 hHeld.2.size
      go_wp2_with fail
      refine hK.out _ _ (⟨hHeld.1.call hb5, hHeld.2.trans (hb5.mono hHeld.2.size)⟩) (fun hHeld2 => ?_)
      clear hK K hHeld
      have hHeld := hHeld2
      clear hHeld2
      try simp only [Act.put, List.setIfInBounds_toArray, List.set_cons_zero, List.set_cons_succ]
      refine wpAnyH_take (i := 6) (oi := { dst := some 79, op := Op.move (Operand.tmp 85), type := 26, pos := "law.go:426", after := #[{ on := 5, ground := Ground.data }], guard := none }) (v := .tuple #[.agg (ansC vF (.slice s5 vV.length c5)).toArray, .int .i64 vE]) rfl (by kernel_rfl) (by kernel_rfl) (by kernel_rfl) (fun _ _ _ h => h) (Or.inl ⟨by rfl, by intro w hS; go_simp⟩) hHeld ?_
      try simp only [Act.put, List.setIfInBounds_toArray, List.set_cons_zero, List.set_cons_succ]
      refine wpAnyH_take (i := 7) (oi := { dst := some 86, op := Op.extract (Operand.tmp 79) 0, type := 24, pos := "law.go:426", after := #[{ on := 6, ground := Ground.data }], guard := none }) (v := .agg (ansC vF (.slice s5 vV.length c5)).toArray) rfl (by kernel_rfl) (by kernel_rfl) (by kernel_rfl) (fun _ _ _ h => h) (Or.inl ⟨by rfl, by intro w hS; go_simp⟩) hHeld ?_
      try simp only [Act.put, List.setIfInBounds_toArray, List.set_cons_zero, List.set_cons_succ]
      refine wpAnyH_take (i := 8) (oi := { dst := some 87, op := Op.extract (Operand.tmp 79) 1, type := 25, pos := "law.go:426", after := #[{ on := 6, ground := Ground.data }, { on := 10, ground := Ground.gcOnly Departure.lateStores }], guard := none }) (v := .int .i64 vE) rfl (by kernel_rfl) (by kernel_rfl) (by kernel_rfl) (fun _ _ _ h => h) (Or.inl ⟨by rfl, by intro w hS; go_simp⟩) hHeld ?_
      try simp only [Act.put, List.setIfInBounds_toArray, List.set_cons_zero, List.set_cons_succ]
      refine wpAnyH_ready (rs := [9]) (by kernel_rfl) (by simp) ?_
      refine (AllReadyH.cons (o := { dst := some 18, op := Op.alloc 24, type := 0, pos := "law.go:426", after := #[], guard := none }) rfl (fun K hK => ?_) AllReadyH.nil)
      have hA := an_of hHeld.1
      have hgA := an_lt hHeld.1
      have hgB := hHeld.2.size
      try replace hO5 := hO5.below (below_new' _ (.cells (ansC false (.slice none 0 0)).toArray 24)) (Nat.le_refl _)
      try replace hZ := hZ.below (below_new' _ (.cells (ansC false (.slice none 0 0)).toArray 24)) (Nat.le_refl _)
      try simp only [sz_al, sz_dr] at hA hgA hgB
      rw [if_pos (by rfl)]
      unfold Oper.wp
      rw [AA.out _ _ _ rfl]
      refine hK.out _ _ (⟨hHeld.1.other _, hHeld.2.alloc hHeld.2.size _⟩) (fun hHeld2 => ?_)
      clear hK K hHeld
      have hHeld := hHeld2
      clear hHeld2
      try simp only [Act.put, List.setIfInBounds_toArray, List.set_cons_zero, List.set_cons_succ]
      refine wpAnyH_ready (rs := [10]) (by kernel_rfl) (by simp) ?_
      refine (AllReadyH.cons (o := { dst := none, op := Op.store 24 (Operand.tmp 18) (Operand.tmp 86), type := 0, pos := "law.go:426", after := #[{ on := 9, ground := Ground.data }, { on := 7, ground := Ground.data }, { on := 5, ground := Ground.chain }, { on := 0, ground := Ground.phase }, { on := 1, ground := Ground.phase }, { on := 2, ground := Ground.phase }, { on := 3, ground := Ground.phase }, { on := 4, ground := Ground.phase }, { on := 5, ground := Ground.phase }, { on := 6, ground := Ground.phase }, { on := 7, ground := Ground.phase }, { on := 8, ground := Ground.textOnly Departure.lateStores }, { on := 9, ground := Ground.phase }], guard := none }) rfl (fun K hK => ?_) AllReadyH.nil)
      rw [if_pos (by rfl)]
      refine wp_store_row 24 _ _ rfl _ (ansC vF (.slice s5 vV.length c5)).toArray rfl rfl 24 _ hA (by rw [Tryd.sizeAn]; rfl) rfl (all_oneCell_toArray (ansC_one _ _ _ _)) ?_
      have qA := setRow_heap _ _ _ (ansC vF (.slice s5 vV.length c5)).toArray _ _ hA
      have qO := own_setO hO5 hA (ansC vF (.slice s5 vV.length c5)).toArray
      refine hK.out _ _ (⟨hHeld.1.setO (Nat.le_of_lt (Nat.lt_of_le_of_lt h6 hgA.2)) (ne_two (by omega) (by omega)) _, below_setRow hHeld.2 hgB _⟩) (fun hHeld2 => ?_)
      clear hK K hHeld
      have hHeld := hHeld2
      clear hHeld2
      try simp only [Act.put, List.setIfInBounds_toArray, List.set_cons_zero, List.set_cons_succ]
      refine wpAnyH_take (i := 11) (oi := { dst := some 19, op := Op.assign (Operand.tmp 87), type := 25, pos := "law.go:426", after := #[{ on := 8, ground := Ground.data }, { on := 10, ground := Ground.chain }, { on := 0, ground := Ground.phase }, { on := 1, ground := Ground.phase }, { on := 2, ground := Ground.phase }, { on := 3, ground := Ground.phase }, { on := 4, ground := Ground.phase }, { on := 5, ground := Ground.phase }, { on := 6, ground := Ground.phase }, { on := 7, ground := Ground.phase }, { on := 8, ground := Ground.phase }, { on := 9, ground := Ground.phase }, { on := 10, ground := Ground.phase }], guard := none }) (v := .int .i64 vE) rfl (by kernel_rfl) (by kernel_rfl) (by kernel_rfl) (fun _ _ _ h => h) (Or.inl ⟨by rfl, by intro w hS; go_simp⟩) hHeld ?_
      try simp only [Act.put, List.setIfInBounds_toArray, List.set_cons_zero, List.set_cons_succ]
      refine wpAnyH_done (by kernel_rfl) ?_ _
      refine NoPanic.normal ?_
      exact HK _ s5 c5 _ _ _ _ _ _ _ _ _ _ hHeld.1 hHeld.2 hgB qA qO
    · skip
      have hA := an_of hHeld.1
      have hgA := an_lt hHeld.1
      have hgB := hHeld.2.size
      try replace hO5 := hO5.below (below_new' _ (.cells (ansC false (.slice none 0 0)).toArray 24)) (Nat.le_refl _)
      try replace hZ := hZ.below (below_new' _ (.cells (ansC false (.slice none 0 0)).toArray 24)) (Nat.le_refl _)
      try simp only [sz_al, sz_dr] at hA hgA hgB
      rw [if_pos (by rfl)]
      unfold Oper.wp
      rw [AA.out _ _ _ rfl]
      refine hK.out _ _ (⟨hHeld.1.other _, hHeld.2.alloc hHeld.2.size _⟩) (fun hHeld2 => ?_)
      clear hK K hHeld
      have hHeld := hHeld2
      clear hHeld2
      try simp only [Act.put, List.setIfInBounds_toArray, List.set_cons_zero, List.set_cons_succ]
      refine wpAnyH_ready (rs := [5]) (by kernel_rfl) (by simp) ?_
      refine (AllReadyH.cons (o := { dst := some 85, op := Op.call { callee := Callee.value (Operand.func 5), args := #[Operand.tmp 80, Operand.tmp 81, Operand.tmp 82, Operand.tmp 84], argTypes := #[3, 29, 31, 22] }, type := 26, pos := "law.go:426", after := #[{ on := 0, ground := Ground.data }, { on := 1, ground := Ground.data }, { on := 2, ground := Ground.data }, { on := 4, ground := Ground.data }, { on := 4, ground := Ground.chain }], guard := none }) rfl (fun K hK => ?_) AllReadyH.nil)
      go_simp
      go_at_call 5
      refine (KV.out _ (hG.1.below hHeld.1.1 hG.1.1) _ _ hZ).mono ?_
      rintro e w5 ⟨s5, c5, rfl, hO5, hb5⟩
      try replace hA := hbel hb5 hA (hlt hA)
      replace hO5 := own_lower hO5 hHeld.2.size
      go_wp2_with fail
      refine hK.out _ _ (⟨hHeld.1.call hb5, hHeld.2.trans (hb5.mono hHeld.2.size)⟩) (fun hHeld2 => ?_)
      clear hK K hHeld
      have hHeld := hHeld2
      clear hHeld2
      try simp only [Act.put, List.setIfInBounds_toArray, List.set_cons_zero, List.set_cons_succ]
      refine wpAnyH_take (i := 6) (oi := { dst := some 79, op := Op.move (Operand.tmp 85), type := 26, pos := "law.go:426", after := #[{ on := 5, ground := Ground.data }], guard := none }) (v := .tuple #[.agg (ansC vF (.slice s5 vV.length c5)).toArray, .int .i64 vE]) rfl (by kernel_rfl) (by kernel_rfl) (by kernel_rfl) (fun _ _ _ h => h) (Or.inl ⟨by rfl, by intro w hS; go_simp⟩) hHeld ?_
      try simp only [Act.put, List.setIfInBounds_toArray, List.set_cons_zero, List.set_cons_succ]
      refine wpAnyH_take (i := 7) (oi := { dst := some 86, op := Op.extract (Operand.tmp 79) 0, type := 24, pos := "law.go:426", after := #[{ on := 6, ground := Ground.data }], guard := none }) (v := .agg (ansC vF (.slice s5 vV.length c5)).toArray) rfl (by kernel_rfl) (by kernel_rfl) (by kernel_rfl) (fun _ _ _ h => h) (Or.inl ⟨by rfl, by intro w hS; go_simp⟩) hHeld ?_
      try simp only [Act.put, List.setIfInBounds_toArray, List.set_cons_zero, List.set_cons_succ]
      refine wpAnyH_take (i := 8) (oi := { dst := some 87, op := Op.extract (Operand.tmp 79) 1, type := 25, pos := "law.go:426", after := #[{ on := 6, ground := Ground.data }, { on := 10, ground := Ground.gcOnly Departure.lateStores }], guard := none }) (v := .int .i64 vE) rfl (by kernel_rfl) (by kernel_rfl) (by kernel_rfl) (fun _ _ _ h => h) (Or.inl ⟨by rfl, by intro w hS; go_simp⟩) hHeld ?_
      try simp only [Act.put, List.setIfInBounds_toArray, List.set_cons_zero, List.set_cons_succ]
      refine wpAnyH_ready (rs := [10]) (by kernel_rfl) (by simp) ?_
      refine (AllReadyH.cons (o := { dst := none, op := Op.store 24 (Operand.tmp 18) (Operand.tmp 86), type := 0, pos := "law.go:426", after := #[{ on := 9, ground := Ground.data }, { on := 7, ground := Ground.data }, { on := 5, ground := Ground.chain }, { on := 0, ground := Ground.phase }, { on := 1, ground := Ground.phase }, { on := 2, ground := Ground.phase }, { on := 3, ground := Ground.phase }, { on := 4, ground := Ground.phase }, { on := 5, ground := Ground.phase }, { on := 6, ground := Ground.phase }, { on := 7, ground := Ground.phase }, { on := 8, ground := Ground.textOnly Departure.lateStores }, { on := 9, ground := Ground.phase }], guard := none }) rfl (fun K hK => ?_) AllReadyH.nil)
      rw [if_pos (by rfl)]
      refine wp_store_row 24 _ _ rfl _ (ansC vF (.slice s5 vV.length c5)).toArray rfl rfl 24 _ hA (by rw [Tryd.sizeAn]; rfl) rfl (all_oneCell_toArray (ansC_one _ _ _ _)) ?_
      have qA := setRow_heap _ _ _ (ansC vF (.slice s5 vV.length c5)).toArray _ _ hA
      have qO := own_setO hO5 hA (ansC vF (.slice s5 vV.length c5)).toArray
      refine hK.out _ _ (⟨hHeld.1.setO (Nat.le_of_lt (Nat.lt_of_le_of_lt h6 hgA.2)) (ne_two (by omega) (by omega)) _, below_setRow hHeld.2 hgB _⟩) (fun hHeld2 => ?_)
      clear hK K hHeld
      have hHeld := hHeld2
      clear hHeld2
      try simp only [Act.put, List.setIfInBounds_toArray, List.set_cons_zero, List.set_cons_succ]
      refine wpAnyH_take (i := 11) (oi := { dst := some 19, op := Op.assign (Operand.tmp 87), type := 25, pos := "law.go:426", after := #[{ on := 8, ground := Ground.data }, { on := 10, ground := Ground.chain }, { on := 0, ground := Ground.phase }, { on := 1, ground := Ground.phase }, { on := 2, ground := Ground.phase }, { on := 3, ground := Ground.phase }, { on := 4, ground := Ground.phase }, { on := 5, ground := Ground.phase }, { on := 6, ground := Ground.phase }, { on := 7, ground := Ground.phase }, { on := 8, ground := Ground.phase }, { on := 9, ground := Ground.phase }, { on := 10, ground := Ground.phase }], guard := none }) (v := .int .i64 vE) rfl (by kernel_rfl) (by kernel_rfl) (by kernel_rfl) (fun _ _ _ h => h) (Or.inl ⟨by rfl, by intro w hS; go_simp⟩) hHeld ?_
      try simp only [Act.put, List.setIfInBounds_toArray, List.set_cons_zero, List.set_cons_succ]
      refine wpAnyH_done (by kernel_rfl) ?_ _
      refine NoPanic.normal ?_
      exact HK _ s5 c5 _ _ _ _ _ _ _ _ _ _ hHeld.1 hHeld.2 hgB qA qO
  · skip
    have hA := an_of hHeld.1
    have hgA := an_lt hHeld.1
    have hgB := hHeld.2.size
    try replace hO5 := hO5.below (below_new' _ (.cells (ansC false (.slice none 0 0)).toArray 24)) (Nat.le_refl _)
    try replace hZ := hZ.below (below_new' _ (.cells (ansC false (.slice none 0 0)).toArray 24)) (Nat.le_refl _)
    try simp only [sz_al, sz_dr] at hA hgA hgB
    rw [if_pos (by rfl)]
    unfold Oper.wp
    rw [AA.out _ _ _ rfl]
    refine hK.out _ _ (⟨hHeld.1.other _, hHeld.2.alloc hHeld.2.size _⟩) (fun hHeld2 => ?_)
    clear hK K hHeld
    have hHeld := hHeld2
    clear hHeld2
    try simp only [Act.put, List.setIfInBounds_toArray, List.set_cons_zero, List.set_cons_succ]
    refine wpAnyH_ready (rs := [4]) (by kernel_rfl) (by simp) ?_
    refine (AllReadyH.cons (o := { dst := some 84, op := Op.call { callee := Callee.value (Operand.func 8), args := #[Operand.tmp 83], argTypes := #[22] }, type := 22, pos := "law.go:426", after := #[{ on := 3, ground := Ground.data }], guard := none }) rfl (fun K hK => ?_) AllReadyH.nil)
    go_simp
    go_at_call 8
    refine (KC.out _ hHeld.2).mono ?_
    rintro e w4 ⟨v4, rfl, hO4, hb4⟩
    obtain ⟨s4, c4, rfl, hZ, -⟩ := hO4.form
    try replace hA := hbel hb4 hA (hlt hA)
    go_wp2_with fail
    refine hK.out _ _ (⟨hHeld.1.call hb4, hHeld.2.trans (hb4.mono hHeld.2.size)⟩) (fun hHeld2 => ?_)
    clear hK K hHeld
    have hHeld := hHeld2
    clear hHeld2
    try simp only [Act.put, List.setIfInBounds_toArray, List.set_cons_zero, List.set_cons_succ]
    refine wpAnyH_ready (rs := [5]) (by kernel_rfl) (by simp) ?_
    refine (AllReadyH.cons (o := { dst := some 85, op := Op.call { callee := Callee.value (Operand.func 5), args := #[Operand.tmp 80, Operand.tmp 81, Operand.tmp 82, Operand.tmp 84], argTypes := #[3, 29, 31, 22] }, type := 26, pos := "law.go:426", after := #[{ on := 0, ground := Ground.data }, { on := 1, ground := Ground.data }, { on := 2, ground := Ground.data }, { on := 4, ground := Ground.data }, { on := 4, ground := Ground.chain }], guard := none }) rfl (fun K hK => ?_) AllReadyH.nil)
    go_simp
    go_at_call 5
    refine (KV.out _ (hG.1.below hHeld.1.1 hG.1.1) _ _ hZ).mono ?_
    rintro e w5 ⟨s5, c5, rfl, hO5, hb5⟩
    try replace hA := hbel hb5 hA (hlt hA)
    replace hO5 := own_lower hO5 hHeld.2.size
    go_wp2_with fail
    refine hK.out _ _ (⟨hHeld.1.call hb5, hHeld.2.trans (hb5.mono hHeld.2.size)⟩) (fun hHeld2 => ?_)
    clear hK K hHeld
    have hHeld := hHeld2
    clear hHeld2
    try simp only [Act.put, List.setIfInBounds_toArray, List.set_cons_zero, List.set_cons_succ]
    refine wpAnyH_take (i := 6) (oi := { dst := some 79, op := Op.move (Operand.tmp 85), type := 26, pos := "law.go:426", after := #[{ on := 5, ground := Ground.data }], guard := none }) (v := .tuple #[.agg (ansC vF (.slice s5 vV.length c5)).toArray, .int .i64 vE]) rfl (by kernel_rfl) (by kernel_rfl) (by kernel_rfl) (fun _ _ _ h => h) (Or.inl ⟨by rfl, by intro w hS; go_simp⟩) hHeld ?_
    try simp only [Act.put, List.setIfInBounds_toArray, List.set_cons_zero, List.set_cons_succ]
    refine wpAnyH_take (i := 7) (oi := { dst := some 86, op := Op.extract (Operand.tmp 79) 0, type := 24, pos := "law.go:426", after := #[{ on := 6, ground := Ground.data }], guard := none }) (v := .agg (ansC vF (.slice s5 vV.length c5)).toArray) rfl (by kernel_rfl) (by kernel_rfl) (by kernel_rfl) (fun _ _ _ h => h) (Or.inl ⟨by rfl, by intro w hS; go_simp⟩) hHeld ?_
    try simp only [Act.put, List.setIfInBounds_toArray, List.set_cons_zero, List.set_cons_succ]
    refine wpAnyH_take (i := 8) (oi := { dst := some 87, op := Op.extract (Operand.tmp 79) 1, type := 25, pos := "law.go:426", after := #[{ on := 6, ground := Ground.data }, { on := 10, ground := Ground.gcOnly Departure.lateStores }], guard := none }) (v := .int .i64 vE) rfl (by kernel_rfl) (by kernel_rfl) (by kernel_rfl) (fun _ _ _ h => h) (Or.inl ⟨by rfl, by intro w hS; go_simp⟩) hHeld ?_
    try simp only [Act.put, List.setIfInBounds_toArray, List.set_cons_zero, List.set_cons_succ]
    refine wpAnyH_ready (rs := [10]) (by kernel_rfl) (by simp) ?_
    refine (AllReadyH.cons (o := { dst := none, op := Op.store 24 (Operand.tmp 18) (Operand.tmp 86), type := 0, pos := "law.go:426", after := #[{ on := 9, ground := Ground.data }, { on := 7, ground := Ground.data }, { on := 5, ground := Ground.chain }, { on := 0, ground := Ground.phase }, { on := 1, ground := Ground.phase }, { on := 2, ground := Ground.phase }, { on := 3, ground := Ground.phase }, { on := 4, ground := Ground.phase }, { on := 5, ground := Ground.phase }, { on := 6, ground := Ground.phase }, { on := 7, ground := Ground.phase }, { on := 8, ground := Ground.textOnly Departure.lateStores }, { on := 9, ground := Ground.phase }], guard := none }) rfl (fun K hK => ?_) AllReadyH.nil)
    rw [if_pos (by rfl)]
    refine wp_store_row 24 _ _ rfl _ (ansC vF (.slice s5 vV.length c5)).toArray rfl rfl 24 _ hA (by rw [Tryd.sizeAn]; rfl) rfl (all_oneCell_toArray (ansC_one _ _ _ _)) ?_
    have qA := setRow_heap _ _ _ (ansC vF (.slice s5 vV.length c5)).toArray _ _ hA
    have qO := own_setO hO5 hA (ansC vF (.slice s5 vV.length c5)).toArray
    refine hK.out _ _ (⟨hHeld.1.setO (Nat.le_of_lt (Nat.lt_of_le_of_lt h6 hgA.2)) (ne_two (by omega) (by omega)) _, below_setRow hHeld.2 hgB _⟩) (fun hHeld2 => ?_)
    clear hK K hHeld
    have hHeld := hHeld2
    clear hHeld2
    try simp only [Act.put, List.setIfInBounds_toArray, List.set_cons_zero, List.set_cons_succ]
    refine wpAnyH_take (i := 11) (oi := { dst := some 19, op := Op.assign (Operand.tmp 87), type := 25, pos := "law.go:426", after := #[{ on := 8, ground := Ground.data }, { on := 10, ground := Ground.chain }, { on := 0, ground := Ground.phase }, { on := 1, ground := Ground.phase }, { on := 2, ground := Ground.phase }, { on := 3, ground := Ground.phase }, { on := 4, ground := Ground.phase }, { on := 5, ground := Ground.phase }, { on := 6, ground := Ground.phase }, { on := 7, ground := Ground.phase }, { on := 8, ground := Ground.phase }, { on := 9, ground := Ground.phase }, { on := 10, ground := Ground.phase }], guard := none }) (v := .int .i64 vE) rfl (by kernel_rfl) (by kernel_rfl) (by kernel_rfl) (fun _ _ _ h => h) (Or.inl ⟨by rfl, by intro w hS; go_simp⟩) hHeld ?_
    try simp only [Act.put, List.setIfInBounds_toArray, List.set_cons_zero, List.set_cons_succ]
    refine wpAnyH_done (by kernel_rfl) ?_ _
    refine NoPanic.normal ?_
    exact HK _ s5 c5 _ _ _ _ _ _ _ _ _ _ hHeld.1 hHeld.2 hgB qA qO
end Go.Proofs.YtblcpcfonnaiiaaDoor
