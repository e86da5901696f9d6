import Derived.Test.YtblcpcfonnaiiaaDoorClOz
import Derived.Test.YtblcpcfonnaiiaaDoorClTd
namespace Go.Proofs.YtblcpcfonnaiiaaDoor
set_option linter.unusedVariables false
set_option linter.unusedSimpArgs false
open Go.RowKit
attribute [local go_sem ↓] Go.wp_at_zero Go.wp_at_succ

theorem z33_ofN {w0 w : World} {L : List (Nat × List Value × Nat)} (h : BK w0 w L) : Src (w.alloc (.cells (ints .u8 z33).toArray 5)) (some ⟨w.heap.size, 0, none⟩) 33 z33 :=
  src_row (tl := []) (by rw [List.append_nil]; exact hnew w _) 33 (by decide) (by simp [maxLen])
theorem anN_of {w0 w : World} {L : List (Nat × List Value × Nat)} (h : BK w0 w L) : (w.alloc (.cells (ansC false (.slice none 0 0)).toArray 24)).heap[w.heap.size]? = some (.cells (ansC false (.slice none 0 0)).toArray 24 (0, 0)) := hnew w _
theorem szN_al (w : World) (o : Obj) : (w.alloc o).heap.size = w.heap.size + 1 := by simp
theorem szN_dr (w : World) : w.drew.heap.size = w.heap.size := rfl
theorem mk33N (w : World) : (Instr.makeSlice 22 (.int .i64 33) (.int .i64 33)).run Tryd.prog w = .ok (.slice (some ⟨w.heap.size, 0, none⟩) 33 33) (w.alloc (.cells (ints .u8 z33).toArray 5)) := by kernel_rfl
theorem belN (w : World) (o : Obj) : Below w.heap.size w (w.alloc o) := (Below.refl _ _).alloc (Nat.le_refl _) _
def k7 : List Int := 7 :: List.replicate 31 0
theorem k7_bys : Bys k7 := fun x hx => by
  rcases List.mem_cons.1 hx with rfl | hx
  · decide
  · have := List.eq_of_mem_replicate hx; omega
theorem built_k7 : Tryd.prog.built 31 [(0, .int .u8 7)] = some (ints .u8 k7).toArray := by kernel_rfl
theorem built_zD : Tryd.prog.built 29 [] = some (ints .u8 zB).toArray := by kernel_rfl
theorem names_e : verE 4 zB k7 z33 = 131 := by
  unfold verE
  rw [if_neg (by decide), held_z33, if_neg (show emptyD 4 256 ≠ zB from tower4_ne)]
set_option maxRecDepth 100000 in
set_option maxHeartbeats 4000000 in
theorem regN (w0 w : World) (hG : Gb w0) (E256 : List Int) {Q : Exit → Act → World → Prop} {u0 u1 u2 u3 u4 u5 u6 u7 u8 u9 u10 u11 u12 u13 u14 u15 u16 u17 u18 u19 u20 u21 u22 u23 u24 u25 u26 u27 u28 u29 u30 u31 u32 u33 u34 u35 : Value} (hB0 : Below w0.heap.size w0 w)
    (KX : Hid (∀ w1, Gb w1 → Calls Tryd.prog 6 #[.int .i64 4, .int .i64 256] w1 fun e w' => e = .returned (.agg (ints .u8 E256).toArray) ∧ Below w1.heap.size w1 w')) (KV : Hid (∀ w1, Glob w1 → ∀ sp cap, Src w1 sp cap z33 → Calls Tryd.prog 5 #[.int .i64 4, .agg (ints .u8 E256).toArray, .agg (ints .u8 k7).toArray, .slice sp 33 cap] w1 fun e w' => ∃ s c, e = .returned (.tuple #[.agg (ansC false (.slice s 0 c)).toArray, .int .i64 0]) ∧ Below w1.heap.size w1 w'))
    (HK : ∀ (ga : Nat) (s : Option Addr) (c : Nat) (w' : World) (t6 t7 t8 t9 t5 t10 t11 : Value), Below w0.heap.size w0 w' → w0.heap.size ≤ ga → w'.heap[ga]? = some (.cells (ansC false (.slice s 0 c)).toArray 24 (0, 0)) → Q .normal { tmps := #[u0, .pointer (some ⟨ga, 0, none⟩), .int .i64 0, u3, u4, t5, t6, t7, t8, t9, t10, t11, u12, u13, u14, u15, u16, u17, u18, u19, u20, u21, u22, u23, u24, u25, u26, u27, u28, u29, u30, u31, u32, u33, u34, u35], defers := [] } w') :
    Code.wp Tryd.prog (Code.region 3 #[{ dst := some 6, op := Op.call { callee := Callee.value (Operand.func 6), args := #[Operand.const (Value.int IntKind.i64 4), Operand.const (Value.int IntKind.i64 256)], argTypes := #[3, 3] }, type := 29, pos := "law.go:38", after := #[], guard := none }, { dst := some 7, op := Op.build 31 #[(0, Operand.const (Value.int IntKind.u8 7))], type := 31, pos := "law.go:38", after := #[], guard := none }, { dst := some 8, op := Op.makeSlice 22 (Operand.const (Value.int IntKind.i64 33)) (Operand.const (Value.int IntKind.i64 33)), type := 22, pos := "law.go:38", after := #[], guard := none }, { dst := some 9, op := Op.call { callee := Callee.value (Operand.func 5), args := #[Operand.const (Value.int IntKind.i64 4), Operand.tmp 6, Operand.tmp 7, Operand.tmp 8], argTypes := #[3, 29, 31, 22] }, type := 26, pos := "law.go:38", after := #[{ on := 0, ground := Ground.data }, { on := 1, ground := Ground.data }, { on := 2, ground := Ground.data }, { on := 0, ground := Ground.chain }], guard := none }, { dst := some 5, op := Op.move (Operand.tmp 9), type := 26, pos := "law.go:38", after := #[{ on := 3, ground := Ground.data }], guard := none }, { dst := some 10, op := Op.extract (Operand.tmp 5) 0, type := 24, pos := "law.go:38", after := #[{ on := 4, ground := Ground.data }], guard := none }, { dst := some 11, op := Op.extract (Operand.tmp 5) 1, type := 25, pos := "law.go:38", after := #[{ on := 4, ground := Ground.data }, { on := 8, ground := Ground.gcOnly Departure.lateStores }], guard := none }, { dst := some 1, op := Op.alloc 24, type := 0, pos := "law.go:38", after := #[], guard := none }, { dst := none, op := Op.store 24 (Operand.tmp 1) (Operand.tmp 10), type := 0, pos := "law.go:38", after := #[{ on := 7, ground := Ground.data }, { on := 5, ground := Ground.data }, { on := 3, ground := Ground.chain }, { on := 0, ground := Ground.phase }, { on := 1, ground := Ground.phase }, { on := 2, ground := Ground.phase }, { on := 3, ground := Ground.phase }, { on := 4, ground := Ground.phase }, { on := 5, ground := Ground.phase }, { on := 6, ground := Ground.textOnly Departure.lateStores }, { on := 7, ground := Ground.phase }], guard := none }, { dst := some 2, op := Op.assign (Operand.tmp 11), type := 25, pos := "law.go:38", after := #[{ on := 6, ground := Ground.data }, { on := 8, ground := Ground.chain }, { on := 0, ground := Ground.phase }, { on := 1, ground := Ground.phase }, { on := 2, ground := Ground.phase }, { on := 3, ground := Ground.phase }, { on := 4, ground := Ground.phase }, { on := 5, ground := Ground.phase }, { on := 6, ground := Ground.phase }, { on := 7, ground := Ground.phase }, { on := 8, ground := Ground.phase }], guard := none }] true) Q { tmps := #[u0, u1, u2, u3, u4, u5, u6, u7, u8, u9, u10, u11, u12, u13, u14, u15, u16, u17, u18, u19, u20, u21, u22, u23, u24, u25, u26, u27, u28, u29, u30, u31, u32, u33, u34, u35], defers := [] } w := by
  have AA := hid allocAn
  have mz := mk33N
  have BK7 := hid built_k7
  have d0 : BK w0 w [] := ⟨hB0, fun x hx => by cases hx⟩
  refine wp_region_noPanic ?_
  refine wp_region_held_drew (S := (fun w' => BK w0 w' [])) (by kernel_rfl) d0.drew (fun hHeld => ?_)
  refine wpAnyH_take (i := 1) (oi := { dst := some 7, op := Op.build 31 #[(0, Operand.const (Value.int IntKind.u8 7))], type := 31, pos := "law.go:38", after := #[], guard := none }) (v := .agg (ints .u8 k7).toArray) rfl (by kernel_rfl) (by kernel_rfl) (by kernel_rfl) (fun _ _ _ h => h) (yieldsIf_built (by rfl) 31 #[(0, Operand.const (Value.int IntKind.u8 7))] rfl _ rfl _ BK7.out) hHeld ?_
  try simp only [Act.put, List.setIfInBounds_toArray, List.set_cons_zero, List.set_cons_succ]
  refine wpAnyH_ready (rs := [0, 2, 7]) (by kernel_rfl) (by simp) ?_
  refine (AllReadyH.cons (o := { dst := some 6, op := Op.call { callee := Callee.value (Operand.func 6), args := #[Operand.const (Value.int IntKind.i64 4), Operand.const (Value.int IntKind.i64 256)], argTypes := #[3, 3] }, type := 29, pos := "law.go:38", after := #[], guard := none }) rfl (fun K hK => ?_) (AllReadyH.cons (o := { dst := some 8, op := Op.makeSlice 22 (Operand.const (Value.int IntKind.i64 33)) (Operand.const (Value.int IntKind.i64 33)), type := 22, pos := "law.go:38", after := #[], guard := none }) rfl (fun K hK => ?_) (AllReadyH.cons (o := { dst := some 1, op := Op.alloc 24, type := 0, pos := "law.go:38", after := #[], guard := none }) rfl (fun K hK => ?_) AllReadyH.nil)))
  · skip
    go_simp
    go_at_call 6
    refine (KX.out _ (hG.below hHeld.1 hG.1.1)).mono ?_
    rintro e w4 ⟨rfl, hb4⟩
    try replace hA := hbel hb4 hA (hlt hA)
    try replace hZ := hZ.below hb4 (Nat.le_refl _)
    go_wp2_with fail
    refine hK.out _ _ (hHeld.call hb4) (fun hHeld2 => ?_)
    clear hK K hHeld
    have hHeld := hHeld2
    clear hHeld2
    try simp only [Act.put, List.setIfInBounds_toArray, List.set_cons_zero, List.set_cons_succ]
    refine wpAnyH_ready (rs := [2, 7]) (by kernel_rfl) (by simp) ?_
    refine (AllReadyH.cons (o := { dst := some 8, op := Op.makeSlice 22 (Operand.const (Value.int IntKind.i64 33)) (Operand.const (Value.int IntKind.i64 33)), type := 22, pos := "law.go:38", after := #[], guard := none }) rfl (fun K hK => ?_) (AllReadyH.cons (o := { dst := some 1, op := Op.alloc 24, type := 0, pos := "law.go:38", after := #[], guard := none }) rfl (fun K hK => ?_) AllReadyH.nil))
    · skip
      have hZ := z33_ofN hHeld
      try simp only [szN_al, szN_dr] at hZ
      try replace hA := hold (o := .cells (ints .u8 z33).toArray 5) hA
      go_simp
      refine hK.out _ _ (hHeld.other _) (fun hHeld2 => ?_)
      clear hK K hHeld
      have hHeld := hHeld2
      clear hHeld2
      try simp only [Act.put, List.setIfInBounds_toArray, List.set_cons_zero, List.set_cons_succ]
      refine wpAnyH_ready (rs := [3, 7]) (by kernel_rfl) (by simp) ?_
      refine (AllReadyH.cons (o := { dst := some 9, op := Op.call { callee := Callee.value (Operand.func 5), args := #[Operand.const (Value.int IntKind.i64 4), Operand.tmp 6, Operand.tmp 7, Operand.tmp 8], argTypes := #[3, 29, 31, 22] }, type := 26, pos := "law.go:38", after := #[{ on := 0, ground := Ground.data }, { on := 1, ground := Ground.data }, { on := 2, ground := Ground.data }, { on := 0, ground := Ground.chain }], guard := none }) rfl (fun K hK => ?_) (AllReadyH.cons (o := { dst := some 1, op := Op.alloc 24, type := 0, pos := "law.go:38", after := #[], guard := none }) rfl (fun K hK => ?_) AllReadyH.nil))
      · skip
        go_simp
        go_at_call 5
        refine (KV.out _ (hG.1.below hHeld.1 hG.1.1) _ _ hZ).mono ?_
        rintro e w5 ⟨s5, c5, rfl, hb5⟩
        try replace hA := hbel hb5 hA (hlt hA)
        go_wp2_with fail
        refine hK.out _ _ (hHeld.call hb5) (fun hHeld2 => ?_)
        clear hK K hHeld
        have hHeld := hHeld2
        clear hHeld2
        try simp only [Act.put, List.setIfInBounds_toArray, List.set_cons_zero, List.set_cons_succ]
        refine wpAnyH_take (i := 4) (oi := { dst := some 5, op := Op.move (Operand.tmp 9), type := 26, pos := "law.go:38", after := #[{ on := 3, ground := Ground.data }], guard := none }) (v := .tuple #[.agg (ansC false (.slice s5 0 c5)).toArray, .int .i64 0]) rfl (by kernel_rfl) (by kernel_rfl) (by kernel_rfl) (fun _ _ _ h => h) (Or.inl ⟨by rfl, by intro w hS; go_simp⟩) hHeld ?_
        try simp only [Act.put, List.setIfInBounds_toArray, List.set_cons_zero, List.set_cons_succ]
        refine wpAnyH_take (i := 5) (oi := { dst := some 10, op := Op.extract (Operand.tmp 5) 0, type := 24, pos := "law.go:38", after := #[{ on := 4, ground := Ground.data }], guard := none }) (v := .agg (ansC false (.slice s5 0 c5)).toArray) rfl (by kernel_rfl) (by kernel_rfl) (by kernel_rfl) (fun _ _ _ h => h) (Or.inl ⟨by rfl, by intro w hS; go_simp⟩) hHeld ?_
        try simp only [Act.put, List.setIfInBounds_toArray, List.set_cons_zero, List.set_cons_succ]
        refine wpAnyH_take (i := 6) (oi := { dst := some 11, op := Op.extract (Operand.tmp 5) 1, type := 25, pos := "law.go:38", after := #[{ on := 4, ground := Ground.data }, { on := 8, ground := Ground.gcOnly Departure.lateStores }], guard := none }) (v := .int .i64 0) rfl (by kernel_rfl) (by kernel_rfl) (by kernel_rfl) (fun _ _ _ h => h) (Or.inl ⟨by rfl, by intro w hS; go_simp⟩) hHeld ?_
        try simp only [Act.put, List.setIfInBounds_toArray, List.set_cons_zero, List.set_cons_succ]
        refine wpAnyH_ready (rs := [7]) (by kernel_rfl) (by simp) ?_
        refine (AllReadyH.cons (o := { dst := some 1, op := Op.alloc 24, type := 0, pos := "law.go:38", after := #[], guard := none }) rfl (fun K hK => ?_) AllReadyH.nil)
        have hA := anN_of hHeld
        have hgA := hHeld.1.size
        try simp only [szN_al, szN_dr] at hA hgA
        try replace hZ := hZ.below (belN _ (.cells (ansC false (.slice none 0 0)).toArray 24)) (Nat.le_refl _)
        rw [if_pos (by rfl)]
        unfold Oper.wp
        rw [AA.out _ _ _ rfl]
        refine hK.out _ _ (hHeld.other _) (fun hHeld2 => ?_)
        clear hK K hHeld
        have hHeld := hHeld2
        clear hHeld2
        try simp only [Act.put, List.setIfInBounds_toArray, List.set_cons_zero, List.set_cons_succ]
        refine wpAnyH_ready (rs := [8]) (by kernel_rfl) (by simp) ?_
        refine (AllReadyH.cons (o := { dst := none, op := Op.store 24 (Operand.tmp 1) (Operand.tmp 10), type := 0, pos := "law.go:38", after := #[{ on := 7, ground := Ground.data }, { on := 5, ground := Ground.data }, { on := 3, ground := Ground.chain }, { on := 0, ground := Ground.phase }, { on := 1, ground := Ground.phase }, { on := 2, ground := Ground.phase }, { on := 3, ground := Ground.phase }, { on := 4, ground := Ground.phase }, { on := 5, ground := Ground.phase }, { on := 6, ground := Ground.textOnly Departure.lateStores }, { on := 7, ground := Ground.phase }], guard := none }) rfl (fun K hK => ?_) AllReadyH.nil)
        rw [if_pos (by rfl)]
        refine wp_store_row 24 _ _ rfl _ (ansC false (.slice s5 0 c5)).toArray rfl rfl 24 _ hA (by rw [Tryd.sizeAn]; rfl) rfl (all_oneCell_toArray (ansC_one _ _ _ _)) ?_
        have qA := setRow_heap _ _ _ (ansC false (.slice s5 0 c5)).toArray _ _ hA
        refine hK.out _ _ (hHeld.setO hgA (fun x hx => by cases hx) _) (fun hHeld2 => ?_)
        clear hK K hHeld
        have hHeld := hHeld2
        clear hHeld2
        try simp only [Act.put, List.setIfInBounds_toArray, List.set_cons_zero, List.set_cons_succ]
        refine wpAnyH_take (i := 9) (oi := { dst := some 2, op := Op.assign (Operand.tmp 11), type := 25, pos := "law.go:38", after := #[{ on := 6, ground := Ground.data }, { on := 8, ground := Ground.chain }, { on := 0, ground := Ground.phase }, { on := 1, ground := Ground.phase }, { on := 2, ground := Ground.phase }, { on := 3, ground := Ground.phase }, { on := 4, ground := Ground.phase }, { on := 5, ground := Ground.phase }, { on := 6, ground := Ground.phase }, { on := 7, ground := Ground.phase }, { on := 8, ground := Ground.phase }], guard := none }) (v := .int .i64 0) rfl (by kernel_rfl) (by kernel_rfl) (by kernel_rfl) (fun _ _ _ h => h) (Or.inl ⟨by rfl, by intro w hS; go_simp⟩) hHeld ?_
        try simp only [Act.put, List.setIfInBounds_toArray, List.set_cons_zero, List.set_cons_succ]
        refine wpAnyH_done (by kernel_rfl) ?_ _
        refine NoPanic.normal ?_
        exact HK _ s5 c5 _ _ _ _ _ _ _ _ hHeld.1 hgA qA
      · skip
        have hA := anN_of hHeld
        have hgA := hHeld.1.size
        try simp only [szN_al, szN_dr] at hA hgA
        try replace hZ := hZ.below (belN _ (.cells (ansC false (.slice none 0 0)).toArray 24)) (Nat.le_refl _)
        rw [if_pos (by rfl)]
        unfold Oper.wp
        rw [AA.out _ _ _ rfl]
        refine hK.out _ _ (hHeld.other _) (fun hHeld2 => ?_)
        clear hK K hHeld
        have hHeld := hHeld2
        clear hHeld2
        try simp only [Act.put, List.setIfInBounds_toArray, List.set_cons_zero, List.set_cons_succ]
        refine wpAnyH_ready (rs := [3]) (by kernel_rfl) (by simp) ?_
        refine (AllReadyH.cons (o := { dst := some 9, op := Op.call { callee := Callee.value (Operand.func 5), args := #[Operand.const (Value.int IntKind.i64 4), Operand.tmp 6, Operand.tmp 7, Operand.tmp 8], argTypes := #[3, 29, 31, 22] }, type := 26, pos := "law.go:38", after := #[{ on := 0, ground := Ground.data }, { on := 1, ground := Ground.data }, { on := 2, ground := Ground.data }, { on := 0, ground := Ground.chain }], guard := none }) rfl (fun K hK => ?_) AllReadyH.nil)
        go_simp
        go_at_call 5
        refine (KV.out _ (hG.1.below hHeld.1 hG.1.1) _ _ hZ).mono ?_
        rintro e w5 ⟨s5, c5, rfl, hb5⟩
        try replace hA := hbel hb5 hA (hlt hA)
        go_wp2_with fail
        refine hK.out _ _ (hHeld.call hb5) (fun hHeld2 => ?_)
        clear hK K hHeld
        have hHeld := hHeld2
        clear hHeld2
        try simp only [Act.put, List.setIfInBounds_toArray, List.set_cons_zero, List.set_cons_succ]
        refine wpAnyH_take (i := 4) (oi := { dst := some 5, op := Op.move (Operand.tmp 9), type := 26, pos := "law.go:38", after := #[{ on := 3, ground := Ground.data }], guard := none }) (v := .tuple #[.agg (ansC false (.slice s5 0 c5)).toArray, .int .i64 0]) rfl (by kernel_rfl) (by kernel_rfl) (by kernel_rfl) (fun _ _ _ h => h) (Or.inl ⟨by rfl, by intro w hS; go_simp⟩) hHeld ?_
        try simp only [Act.put, List.setIfInBounds_toArray, List.set_cons_zero, List.set_cons_succ]
        refine wpAnyH_take (i := 5) (oi := { dst := some 10, op := Op.extract (Operand.tmp 5) 0, type := 24, pos := "law.go:38", after := #[{ on := 4, ground := Ground.data }], guard := none }) (v := .agg (ansC false (.slice s5 0 c5)).toArray) rfl (by kernel_rfl) (by kernel_rfl) (by kernel_rfl) (fun _ _ _ h => h) (Or.inl ⟨by rfl, by intro w hS; go_simp⟩) hHeld ?_
        try simp only [Act.put, List.setIfInBounds_toArray, List.set_cons_zero, List.set_cons_succ]
        refine wpAnyH_take (i := 6) (oi := { dst := some 11, op := Op.extract (Operand.tmp 5) 1, type := 25, pos := "law.go:38", after := #[{ on := 4, ground := Ground.data }, { on := 8, ground := Ground.gcOnly Departure.lateStores }], guard := none }) (v := .int .i64 0) rfl (by kernel_rfl) (by kernel_rfl) (by kernel_rfl) (fun _ _ _ h => h) (Or.inl ⟨by rfl, by intro w hS; go_simp⟩) hHeld ?_
        try simp only [Act.put, List.setIfInBounds_toArray, List.set_cons_zero, List.set_cons_succ]
        refine wpAnyH_ready (rs := [8]) (by kernel_rfl) (by simp) ?_
        refine (AllReadyH.cons (o := { dst := none, op := Op.store 24 (Operand.tmp 1) (Operand.tmp 10), type := 0, pos := "law.go:38", after := #[{ on := 7, ground := Ground.data }, { on := 5, ground := Ground.data }, { on := 3, ground := Ground.chain }, { on := 0, ground := Ground.phase }, { on := 1, ground := Ground.phase }, { on := 2, ground := Ground.phase }, { on := 3, ground := Ground.phase }, { on := 4, ground := Ground.phase }, { on := 5, ground := Ground.phase }, { on := 6, ground := Ground.textOnly Departure.lateStores }, { on := 7, ground := Ground.phase }], guard := none }) rfl (fun K hK => ?_) AllReadyH.nil)
        rw [if_pos (by rfl)]
        refine wp_store_row 24 _ _ rfl _ (ansC false (.slice s5 0 c5)).toArray rfl rfl 24 _ hA (by rw [Tryd.sizeAn]; rfl) rfl (all_oneCell_toArray (ansC_one _ _ _ _)) ?_
        have qA := setRow_heap _ _ _ (ansC false (.slice s5 0 c5)).toArray _ _ hA
        refine hK.out _ _ (hHeld.setO hgA (fun x hx => by cases hx) _) (fun hHeld2 => ?_)
        clear hK K hHeld
        have hHeld := hHeld2
        clear hHeld2
        try simp only [Act.put, List.setIfInBounds_toArray, List.set_cons_zero, List.set_cons_succ]
        refine wpAnyH_take (i := 9) (oi := { dst := some 2, op := Op.assign (Operand.tmp 11), type := 25, pos := "law.go:38", after := #[{ on := 6, ground := Ground.data }, { on := 8, ground := Ground.chain }, { on := 0, ground := Ground.phase }, { on := 1, ground := Ground.phase }, { on := 2, ground := Ground.phase }, { on := 3, ground := Ground.phase }, { on := 4, ground := Ground.phase }, { on := 5, ground := Ground.phase }, { on := 6, ground := Ground.phase }, { on := 7, ground := Ground.phase }, { on := 8, ground := Ground.phase }], guard := none }) (v := .int .i64 0) rfl (by kernel_rfl) (by kernel_rfl) (by kernel_rfl) (fun _ _ _ h => h) (Or.inl ⟨by rfl, by intro w hS; go_simp⟩) hHeld ?_
        try simp only [Act.put, List.setIfInBounds_toArray, List.set_cons_zero, List.set_cons_succ]
        refine wpAnyH_done (by kernel_rfl) ?_ _
        refine NoPanic.normal ?_
        exact HK _ s5 c5 _ _ _ _ _ _ _ _ hHeld.1 hgA qA
    · skip
      have hA := anN_of hHeld
      have hgA := hHeld.1.size
      try simp only [szN_al, szN_dr] at hA hgA
      try replace hZ := hZ.below (belN _ (.cells (ansC false (.slice none 0 0)).toArray 24)) (Nat.le_refl _)
      rw [if_pos (by rfl)]
      unfold Oper.wp
      rw [AA.out _ _ _ rfl]
      refine hK.out _ _ (hHeld.other _) (fun hHeld2 => ?_)
      clear hK K hHeld
      have hHeld := hHeld2
      clear hHeld2
      try simp only [Act.put, List.setIfInBounds_toArray, List.set_cons_zero, List.set_cons_succ]
      refine wpAnyH_ready (rs := [2]) (by kernel_rfl) (by simp) ?_
      refine (AllReadyH.cons (o := { dst := some 8, op := Op.makeSlice 22 (Operand.const (Value.int IntKind.i64 33)) (Operand.const (Value.int IntKind.i64 33)), type := 22, pos := "law.go:38", after := #[], guard := none }) rfl (fun K hK => ?_) AllReadyH.nil)
      have hZ := z33_ofN hHeld
      try simp only [szN_al, szN_dr] at hZ
      try replace hA := hold (o := .cells (ints .u8 z33).toArray 5) hA
      go_simp
      refine hK.out _ _ (hHeld.other _) (fun hHeld2 => ?_)
      clear hK K hHeld
      have hHeld := hHeld2
      clear hHeld2
      try simp only [Act.put, List.setIfInBounds_toArray, List.set_cons_zero, List.set_cons_succ]
      refine wpAnyH_ready (rs := [3]) (by kernel_rfl) (by simp) ?_
      refine (AllReadyH.cons (o := { dst := some 9, op := Op.call { callee := Callee.value (Operand.func 5), args := #[Operand.const (Value.int IntKind.i64 4), Operand.tmp 6, Operand.tmp 7, Operand.tmp 8], argTypes := #[3, 29, 31, 22] }, type := 26, pos := "law.go:38", after := #[{ on := 0, ground := Ground.data }, { on := 1, ground := Ground.data }, { on := 2, ground := Ground.data }, { on := 0, ground := Ground.chain }], guard := none }) rfl (fun K hK => ?_) AllReadyH.nil)
      go_simp
      go_at_call 5
      refine (KV.out _ (hG.1.below hHeld.1 hG.1.1) _ _ hZ).mono ?_
      rintro e w5 ⟨s5, c5, rfl, hb5⟩
      try replace hA := hbel hb5 hA (hlt hA)
      go_wp2_with fail
      refine hK.out _ _ (hHeld.call hb5) (fun hHeld2 => ?_)
      clear hK K hHeld
      have hHeld := hHeld2
      clear hHeld2
      try simp only [Act.put, List.setIfInBounds_toArray, List.set_cons_zero, List.set_cons_succ]
      refine wpAnyH_take (i := 4) (oi := { dst := some 5, op := Op.move (Operand.tmp 9), type := 26, pos := "law.go:38", after := #[{ on := 3, ground := Ground.data }], guard := none }) (v := .tuple #[.agg (ansC false (.slice s5 0 c5)).toArray, .int .i64 0]) rfl (by kernel_rfl) (by kernel_rfl) (by kernel_rfl) (fun _ _ _ h => h) (Or.inl ⟨by rfl, by intro w hS; go_simp⟩) hHeld ?_
      try simp only [Act.put, List.setIfInBounds_toArray, List.set_cons_zero, List.set_cons_succ]
      refine wpAnyH_take (i := 5) (oi := { dst := some 10, op := Op.extract (Operand.tmp 5) 0, type := 24, pos := "law.go:38", after := #[{ on := 4, ground := Ground.data }], guard := none }) (v := .agg (ansC false (.slice s5 0 c5)).toArray) rfl (by kernel_rfl) (by kernel_rfl) (by kernel_rfl) (fun _ _ _ h => h) (Or.inl ⟨by rfl, by intro w hS; go_simp⟩) hHeld ?_
      try simp only [Act.put, List.setIfInBounds_toArray, List.set_cons_zero, List.set_cons_succ]
      refine wpAnyH_take (i := 6) (oi := { dst := some 11, op := Op.extract (Operand.tmp 5) 1, type := 25, pos := "law.go:38", after := #[{ on := 4, ground := Ground.data }, { on := 8, ground := Ground.gcOnly Departure.lateStores }], guard := none }) (v := .int .i64 0) rfl (by kernel_rfl) (by kernel_rfl) (by kernel_rfl) (fun _ _ _ h => h) (Or.inl ⟨by rfl, by intro w hS; go_simp⟩) hHeld ?_
      try simp only [Act.put, List.setIfInBounds_toArray, List.set_cons_zero, List.set_cons_succ]
      refine wpAnyH_ready (rs := [8]) (by kernel_rfl) (by simp) ?_
      refine (AllReadyH.cons (o := { dst := none, op := Op.store 24 (Operand.tmp 1) (Operand.tmp 10), type := 0, pos := "law.go:38", after := #[{ on := 7, ground := Ground.data }, { on := 5, ground := Ground.data }, { on := 3, ground := Ground.chain }, { on := 0, ground := Ground.phase }, { on := 1, ground := Ground.phase }, { on := 2, ground := Ground.phase }, { on := 3, ground := Ground.phase }, { on := 4, ground := Ground.phase }, { on := 5, ground := Ground.phase }, { on := 6, ground := Ground.textOnly Departure.lateStores }, { on := 7, ground := Ground.phase }], guard := none }) rfl (fun K hK => ?_) AllReadyH.nil)
      rw [if_pos (by rfl)]
      refine wp_store_row 24 _ _ rfl _ (ansC false (.slice s5 0 c5)).toArray rfl rfl 24 _ hA (by rw [Tryd.sizeAn]; rfl) rfl (all_oneCell_toArray (ansC_one _ _ _ _)) ?_
      have qA := setRow_heap _ _ _ (ansC false (.slice s5 0 c5)).toArray _ _ hA
      refine hK.out _ _ (hHeld.setO hgA (fun x hx => by cases hx) _) (fun hHeld2 => ?_)
      clear hK K hHeld
      have hHeld := hHeld2
      clear hHeld2
      try simp only [Act.put, List.setIfInBounds_toArray, List.set_cons_zero, List.set_cons_succ]
      refine wpAnyH_take (i := 9) (oi := { dst := some 2, op := Op.assign (Operand.tmp 11), type := 25, pos := "law.go:38", after := #[{ on := 6, ground := Ground.data }, { on := 8, ground := Ground.chain }, { on := 0, ground := Ground.phase }, { on := 1, ground := Ground.phase }, { on := 2, ground := Ground.phase }, { on := 3, ground := Ground.phase }, { on := 4, ground := Ground.phase }, { on := 5, ground := Ground.phase }, { on := 6, ground := Ground.phase }, { on := 7, ground := Ground.phase }, { on := 8, ground := Ground.phase }], guard := none }) (v := .int .i64 0) rfl (by kernel_rfl) (by kernel_rfl) (by kernel_rfl) (fun _ _ _ h => h) (Or.inl ⟨by rfl, by intro w hS; go_simp⟩) hHeld ?_
      try simp only [Act.put, List.setIfInBounds_toArray, List.set_cons_zero, List.set_cons_succ]
      refine wpAnyH_done (by kernel_rfl) ?_ _
      refine NoPanic.normal ?_
      exact HK _ s5 c5 _ _ _ _ _ _ _ _ hHeld.1 hgA qA
  · skip
    have hZ := z33_ofN hHeld
    try simp only [szN_al, szN_dr] at hZ
    try replace hA := hold (o := .cells (ints .u8 z33).toArray 5) hA
    go_simp
    refine hK.out _ _ (hHeld.other _) (fun hHeld2 => ?_)
    clear hK K hHeld
    have hHeld := hHeld2
    clear hHeld2
    try simp only [Act.put, List.setIfInBounds_toArray, List.set_cons_zero, List.set_cons_succ]
    refine wpAnyH_ready (rs := [0, 7]) (by kernel_rfl) (by simp) ?_
    refine (AllReadyH.cons (o := { dst := some 6, op := Op.call { callee := Callee.value (Operand.func 6), args := #[Operand.const (Value.int IntKind.i64 4), Operand.const (Value.int IntKind.i64 256)], argTypes := #[3, 3] }, type := 29, pos := "law.go:38", after := #[], guard := none }) rfl (fun K hK => ?_) (AllReadyH.cons (o := { dst := some 1, op := Op.alloc 24, type := 0, pos := "law.go:38", after := #[], guard := none }) rfl (fun K hK => ?_) AllReadyH.nil))
    · skip
      go_simp
      go_at_call 6
      refine (KX.out _ (hG.below hHeld.1 hG.1.1)).mono ?_
      rintro e w4 ⟨rfl, hb4⟩
      try replace hA := hbel hb4 hA (hlt hA)
      try replace hZ := hZ.below hb4 (Nat.le_refl _)
      go_wp2_with fail
      refine hK.out _ _ (hHeld.call hb4) (fun hHeld2 => ?_)
      clear hK K hHeld
      have hHeld := hHeld2
      clear hHeld2
      try simp only [Act.put, List.setIfInBounds_toArray, List.set_cons_zero, List.set_cons_succ]
      refine wpAnyH_ready (rs := [3, 7]) (by kernel_rfl) (by simp) ?_
      refine (AllReadyH.cons (o := { dst := some 9, op := Op.call { callee := Callee.value (Operand.func 5), args := #[Operand.const (Value.int IntKind.i64 4), Operand.tmp 6, Operand.tmp 7, Operand.tmp 8], argTypes := #[3, 29, 31, 22] }, type := 26, pos := "law.go:38", after := #[{ on := 0, ground := Ground.data }, { on := 1, ground := Ground.data }, { on := 2, ground := Ground.data }, { on := 0, ground := Ground.chain }], guard := none }) rfl (fun K hK => ?_) (AllReadyH.cons (o := { dst := some 1, op := Op.alloc 24, type := 0, pos := "law.go:38", after := #[], guard := none }) rfl (fun K hK => ?_) AllReadyH.nil))
      · skip
        go_simp
        go_at_call 5
        refine (KV.out _ (hG.1.below hHeld.1 hG.1.1) _ _ hZ).mono ?_
        rintro e w5 ⟨s5, c5, rfl, hb5⟩
        try replace hA := hbel hb5 hA (hlt hA)
        go_wp2_with fail
        refine hK.out _ _ (hHeld.call hb5) (fun hHeld2 => ?_)
        clear hK K hHeld
        have hHeld := hHeld2
        clear hHeld2
        try simp only [Act.put, List.setIfInBounds_toArray, List.set_cons_zero, List.set_cons_succ]
        refine wpAnyH_take (i := 4) (oi := { dst := some 5, op := Op.move (Operand.tmp 9), type := 26, pos := "law.go:38", after := #[{ on := 3, ground := Ground.data }], guard := none }) (v := .tuple #[.agg (ansC false (.slice s5 0 c5)).toArray, .int .i64 0]) rfl (by kernel_rfl) (by kernel_rfl) (by kernel_rfl) (fun _ _ _ h => h) (Or.inl ⟨by rfl, by intro w hS; go_simp⟩) hHeld ?_
        try simp only [Act.put, List.setIfInBounds_toArray, List.set_cons_zero, List.set_cons_succ]
        refine wpAnyH_take (i := 5) (oi := { dst := some 10, op := Op.extract (Operand.tmp 5) 0, type := 24, pos := "law.go:38", after := #[{ on := 4, ground := Ground.data }], guard := none }) (v := .agg (ansC false (.slice s5 0 c5)).toArray) rfl (by kernel_rfl) (by kernel_rfl) (by kernel_rfl) (fun _ _ _ h => h) (Or.inl ⟨by rfl, by intro w hS; go_simp⟩) hHeld ?_
        try simp only [Act.put, List.setIfInBounds_toArray, List.set_cons_zero, List.set_cons_succ]
        refine wpAnyH_take (i := 6) (oi := { dst := some 11, op := Op.extract (Operand.tmp 5) 1, type := 25, pos := "law.go:38", after := #[{ on := 4, ground := Ground.data }, { on := 8, ground := Ground.gcOnly Departure.lateStores }], guard := none }) (v := .int .i64 0) rfl (by kernel_rfl) (by kernel_rfl) (by kernel_rfl) (fun _ _ _ h => h) (Or.inl ⟨by rfl, by intro w hS; go_simp⟩) hHeld ?_
        try simp only [Act.put, List.setIfInBounds_toArray, List.set_cons_zero, List.set_cons_succ]
        refine wpAnyH_ready (rs := [7]) (by kernel_rfl) (by simp) ?_
        refine (AllReadyH.cons (o := { dst := some 1, op := Op.alloc 24, type := 0, pos := "law.go:38", after := #[], guard := none }) rfl (fun K hK => ?_) AllReadyH.nil)
        have hA := anN_of hHeld
        have hgA := hHeld.1.size
        try simp only [szN_al, szN_dr] at hA hgA
        try replace hZ := hZ.below (belN _ (.cells (ansC false (.slice none 0 0)).toArray 24)) (Nat.le_refl _)
        rw [if_pos (by rfl)]
        unfold Oper.wp
        rw [AA.out _ _ _ rfl]
        refine hK.out _ _ (hHeld.other _) (fun hHeld2 => ?_)
        clear hK K hHeld
        have hHeld := hHeld2
        clear hHeld2
        try simp only [Act.put, List.setIfInBounds_toArray, List.set_cons_zero, List.set_cons_succ]
        refine wpAnyH_ready (rs := [8]) (by kernel_rfl) (by simp) ?_
        refine (AllReadyH.cons (o := { dst := none, op := Op.store 24 (Operand.tmp 1) (Operand.tmp 10), type := 0, pos := "law.go:38", after := #[{ on := 7, ground := Ground.data }, { on := 5, ground := Ground.data }, { on := 3, ground := Ground.chain }, { on := 0, ground := Ground.phase }, { on := 1, ground := Ground.phase }, { on := 2, ground := Ground.phase }, { on := 3, ground := Ground.phase }, { on := 4, ground := Ground.phase }, { on := 5, ground := Ground.phase }, { on := 6, ground := Ground.textOnly Departure.lateStores }, { on := 7, ground := Ground.phase }], guard := none }) rfl (fun K hK => ?_) AllReadyH.nil)
        rw [if_pos (by rfl)]
        refine wp_store_row 24 _ _ rfl _ (ansC false (.slice s5 0 c5)).toArray rfl rfl 24 _ hA (by rw [Tryd.sizeAn]; rfl) rfl (all_oneCell_toArray (ansC_one _ _ _ _)) ?_
        have qA := setRow_heap _ _ _ (ansC false (.slice s5 0 c5)).toArray _ _ hA
        refine hK.out _ _ (hHeld.setO hgA (fun x hx => by cases hx) _) (fun hHeld2 => ?_)
        clear hK K hHeld
        have hHeld := hHeld2
        clear hHeld2
        try simp only [Act.put, List.setIfInBounds_toArray, List.set_cons_zero, List.set_cons_succ]
        refine wpAnyH_take (i := 9) (oi := { dst := some 2, op := Op.assign (Operand.tmp 11), type := 25, pos := "law.go:38", after := #[{ on := 6, ground := Ground.data }, { on := 8, ground := Ground.chain }, { on := 0, ground := Ground.phase }, { on := 1, ground := Ground.phase }, { on := 2, ground := Ground.phase }, { on := 3, ground := Ground.phase }, { on := 4, ground := Ground.phase }, { on := 5, ground := Ground.phase }, { on := 6, ground := Ground.phase }, { on := 7, ground := Ground.phase }, { on := 8, ground := Ground.phase }], guard := none }) (v := .int .i64 0) rfl (by kernel_rfl) (by kernel_rfl) (by kernel_rfl) (fun _ _ _ h => h) (Or.inl ⟨by rfl, by intro w hS; go_simp⟩) hHeld ?_
        try simp only [Act.put, List.setIfInBounds_toArray, List.set_cons_zero, List.set_cons_succ]
        refine wpAnyH_done (by kernel_rfl) ?_ _
        refine NoPanic.normal ?_
        exact HK _ s5 c5 _ _ _ _ _ _ _ _ hHeld.1 hgA qA
      · skip
        have hA := anN_of hHeld
        have hgA := hHeld.1.size
        try simp only [szN_al, szN_dr] at hA hgA
        try replace hZ := hZ.below (belN _ (.cells (ansC false (.slice none 0 0)).toArray 24)) (Nat.le_refl _)
        rw [if_pos (by rfl)]
        unfold Oper.wp
        rw [AA.out _ _ _ rfl]
        refine hK.out _ _ (hHeld.other _) (fun hHeld2 => ?_)
        clear hK K hHeld
        have hHeld := hHeld2
        clear hHeld2
        try simp only [Act.put, List.setIfInBounds_toArray, List.set_cons_zero, List.set_cons_succ]
        refine wpAnyH_ready (rs := [3]) (by kernel_rfl) (by simp) ?_
        refine (AllReadyH.cons (o := { dst := some 9, op := Op.call { callee := Callee.value (Operand.func 5), args := #[Operand.const (Value.int IntKind.i64 4), Operand.tmp 6, Operand.tmp 7, Operand.tmp 8], argTypes := #[3, 29, 31, 22] }, type := 26, pos := "law.go:38", after := #[{ on := 0, ground := Ground.data }, { on := 1, ground := Ground.data }, { on := 2, ground := Ground.data }, { on := 0, ground := Ground.chain }], guard := none }) rfl (fun K hK => ?_) AllReadyH.nil)
        go_simp
        go_at_call 5
        refine (KV.out _ (hG.1.below hHeld.1 hG.1.1) _ _ hZ).mono ?_
        rintro e w5 ⟨s5, c5, rfl, hb5⟩
        try replace hA := hbel hb5 hA (hlt hA)
        go_wp2_with fail
        refine hK.out _ _ (hHeld.call hb5) (fun hHeld2 => ?_)
        clear hK K hHeld
        have hHeld := hHeld2
        clear hHeld2
        try simp only [Act.put, List.setIfInBounds_toArray, List.set_cons_zero, List.set_cons_succ]
        refine wpAnyH_take (i := 4) (oi := { dst := some 5, op := Op.move (Operand.tmp 9), type := 26, pos := "law.go:38", after := #[{ on := 3, ground := Ground.data }], guard := none }) (v := .tuple #[.agg (ansC false (.slice s5 0 c5)).toArray, .int .i64 0]) rfl (by kernel_rfl) (by kernel_rfl) (by kernel_rfl) (fun _ _ _ h => h) (Or.inl ⟨by rfl, by intro w hS; go_simp⟩) hHeld ?_
        try simp only [Act.put, List.setIfInBounds_toArray, List.set_cons_zero, List.set_cons_succ]
        refine wpAnyH_take (i := 5) (oi := { dst := some 10, op := Op.extract (Operand.tmp 5) 0, type := 24, pos := "law.go:38", after := #[{ on := 4, ground := Ground.data }], guard := none }) (v := .agg (ansC false (.slice s5 0 c5)).toArray) rfl (by kernel_rfl) (by kernel_rfl) (by kernel_rfl) (fun _ _ _ h => h) (Or.inl ⟨by rfl, by intro w hS; go_simp⟩) hHeld ?_
        try simp only [Act.put, List.setIfInBounds_toArray, List.set_cons_zero, List.set_cons_succ]
        refine wpAnyH_take (i := 6) (oi := { dst := some 11, op := Op.extract (Operand.tmp 5) 1, type := 25, pos := "law.go:38", after := #[{ on := 4, ground := Ground.data }, { on := 8, ground := Ground.gcOnly Departure.lateStores }], guard := none }) (v := .int .i64 0) rfl (by kernel_rfl) (by kernel_rfl) (by kernel_rfl) (fun _ _ _ h => h) (Or.inl ⟨by rfl, by intro w hS; go_simp⟩) hHeld ?_
        try simp only [Act.put, List.setIfInBounds_toArray, List.set_cons_zero, List.set_cons_succ]
        refine wpAnyH_ready (rs := [8]) (by kernel_rfl) (by simp) ?_
        refine (AllReadyH.cons (o := { dst := none, op := Op.store 24 (Operand.tmp 1) (Operand.tmp 10), type := 0, pos := "law.go:38", after := #[{ on := 7, ground := Ground.data }, { on := 5, ground := Ground.data }, { on := 3, ground := Ground.chain }, { on := 0, ground := Ground.phase }, { on := 1, ground := Ground.phase }, { on := 2, ground := Ground.phase }, { on := 3, ground := Ground.phase }, { on := 4, ground := Ground.phase }, { on := 5, ground := Ground.phase }, { on := 6, ground := Ground.textOnly Departure.lateStores }, { on := 7, ground := Ground.phase }], guard := none }) rfl (fun K hK => ?_) AllReadyH.nil)
        rw [if_pos (by rfl)]
        refine wp_store_row 24 _ _ rfl _ (ansC false (.slice s5 0 c5)).toArray rfl rfl 24 _ hA (by rw [Tryd.sizeAn]; rfl) rfl (all_oneCell_toArray (ansC_one _ _ _ _)) ?_
        have qA := setRow_heap _ _ _ (ansC false (.slice s5 0 c5)).toArray _ _ hA
        refine hK.out _ _ (hHeld.setO hgA (fun x hx => by cases hx) _) (fun hHeld2 => ?_)
        clear hK K hHeld
        have hHeld := hHeld2
        clear hHeld2
        try simp only [Act.put, List.setIfInBounds_toArray, List.set_cons_zero, List.set_cons_succ]
        refine wpAnyH_take (i := 9) (oi := { dst := some 2, op := Op.assign (Operand.tmp 11), type := 25, pos := "law.go:38", after := #[{ on := 6, ground := Ground.data }, { on := 8, ground := Ground.chain }, { on := 0, ground := Ground.phase }, { on := 1, ground := Ground.phase }, { on := 2, ground := Ground.phase }, { on := 3, ground := Ground.phase }, { on := 4, ground := Ground.phase }, { on := 5, ground := Ground.phase }, { on := 6, ground := Ground.phase }, { on := 7, ground := Ground.phase }, { on := 8, ground := Ground.phase }], guard := none }) (v := .int .i64 0) rfl (by kernel_rfl) (by kernel_rfl) (by kernel_rfl) (fun _ _ _ h => h) (Or.inl ⟨by rfl, by intro w hS; go_simp⟩) hHeld ?_
        try simp only [Act.put, List.setIfInBounds_toArray, List.set_cons_zero, List.set_cons_succ]
        refine wpAnyH_done (by kernel_rfl) ?_ _
        refine NoPanic.normal ?_
        exact HK _ s5 c5 _ _ _ _ _ _ _ _ hHeld.1 hgA qA
    · skip
      have hA := anN_of hHeld
      have hgA := hHeld.1.size
      try simp only [szN_al, szN_dr] at hA hgA
      try replace hZ := hZ.below (belN _ (.cells (ansC false (.slice none 0 0)).toArray 24)) (Nat.le_refl _)
      rw [if_pos (by rfl)]
      unfold Oper.wp
      rw [AA.out _ _ _ rfl]
      refine hK.out _ _ (hHeld.other _) (fun hHeld2 => ?_)
      clear hK K hHeld
      have hHeld := hHeld2
      clear hHeld2
      try simp only [Act.put, List.setIfInBounds_toArray, List.set_cons_zero, List.set_cons_succ]
      refine wpAnyH_ready (rs := [0]) (by kernel_rfl) (by simp) ?_
      refine (AllReadyH.cons (o := { dst := some 6, op := Op.call { callee := Callee.value (Operand.func 6), args := #[Operand.const (Value.int IntKind.i64 4), Operand.const (Value.int IntKind.i64 256)], argTypes := #[3, 3] }, type := 29, pos := "law.go:38", after := #[], guard := none }) rfl (fun K hK => ?_) AllReadyH.nil)
      go_simp
      go_at_call 6
      refine (KX.out _ (hG.below hHeld.1 hG.1.1)).mono ?_
      rintro e w4 ⟨rfl, hb4⟩
      try replace hA := hbel hb4 hA (hlt hA)
      try replace hZ := hZ.below hb4 (Nat.le_refl _)
      go_wp2_with fail
      refine hK.out _ _ (hHeld.call hb4) (fun hHeld2 => ?_)
      clear hK K hHeld
      have hHeld := hHeld2
      clear hHeld2
      try simp only [Act.put, List.setIfInBounds_toArray, List.set_cons_zero, List.set_cons_succ]
      refine wpAnyH_ready (rs := [3]) (by kernel_rfl) (by simp) ?_
      refine (AllReadyH.cons (o := { dst := some 9, op := Op.call { callee := Callee.value (Operand.func 5), args := #[Operand.const (Value.int IntKind.i64 4), Operand.tmp 6, Operand.tmp 7, Operand.tmp 8], argTypes := #[3, 29, 31, 22] }, type := 26, pos := "law.go:38", after := #[{ on := 0, ground := Ground.data }, { on := 1, ground := Ground.data }, { on := 2, ground := Ground.data }, { on := 0, ground := Ground.chain }], guard := none }) rfl (fun K hK => ?_) AllReadyH.nil)
      go_simp
      go_at_call 5
      refine (KV.out _ (hG.1.below hHeld.1 hG.1.1) _ _ hZ).mono ?_
      rintro e w5 ⟨s5, c5, rfl, hb5⟩
      try replace hA := hbel hb5 hA (hlt hA)
      go_wp2_with fail
      refine hK.out _ _ (hHeld.call hb5) (fun hHeld2 => ?_)
      clear hK K hHeld
      have hHeld := hHeld2
      clear hHeld2
      try simp only [Act.put, List.setIfInBounds_toArray, List.set_cons_zero, List.set_cons_succ]
      refine wpAnyH_take (i := 4) (oi := { dst := some 5, op := Op.move (Operand.tmp 9), type := 26, pos := "law.go:38", after := #[{ on := 3, ground := Ground.data }], guard := none }) (v := .tuple #[.agg (ansC false (.slice s5 0 c5)).toArray, .int .i64 0]) rfl (by kernel_rfl) (by kernel_rfl) (by kernel_rfl) (fun _ _ _ h => h) (Or.inl ⟨by rfl, by intro w hS; go_simp⟩) hHeld ?_
      try simp only [Act.put, List.setIfInBounds_toArray, List.set_cons_zero, List.set_cons_succ]
      refine wpAnyH_take (i := 5) (oi := { dst := some 10, op := Op.extract (Operand.tmp 5) 0, type := 24, pos := "law.go:38", after := #[{ on := 4, ground := Ground.data }], guard := none }) (v := .agg (ansC false (.slice s5 0 c5)).toArray) rfl (by kernel_rfl) (by kernel_rfl) (by kernel_rfl) (fun _ _ _ h => h) (Or.inl ⟨by rfl, by intro w hS; go_simp⟩) hHeld ?_
      try simp only [Act.put, List.setIfInBounds_toArray, List.set_cons_zero, List.set_cons_succ]
      refine wpAnyH_take (i := 6) (oi := { dst := some 11, op := Op.extract (Operand.tmp 5) 1, type := 25, pos := "law.go:38", after := #[{ on := 4, ground := Ground.data }, { on := 8, ground := Ground.gcOnly Departure.lateStores }], guard := none }) (v := .int .i64 0) rfl (by kernel_rfl) (by kernel_rfl) (by kernel_rfl) (fun _ _ _ h => h) (Or.inl ⟨by rfl, by intro w hS; go_simp⟩) hHeld ?_
      try simp only [Act.put, List.setIfInBounds_toArray, List.set_cons_zero, List.set_cons_succ]
      refine wpAnyH_ready (rs := [8]) (by kernel_rfl) (by simp) ?_
      refine (AllReadyH.cons (o := { dst := none, op := Op.store 24 (Operand.tmp 1) (Operand.tmp 10), type := 0, pos := "law.go:38", after := #[{ on := 7, ground := Ground.data }, { on := 5, ground := Ground.data }, { on := 3, ground := Ground.chain }, { on := 0, ground := Ground.phase }, { on := 1, ground := Ground.phase }, { on := 2, ground := Ground.phase }, { on := 3, ground := Ground.phase }, { on := 4, ground := Ground.phase }, { on := 5, ground := Ground.phase }, { on := 6, ground := Ground.textOnly Departure.lateStores }, { on := 7, ground := Ground.phase }], guard := none }) rfl (fun K hK => ?_) AllReadyH.nil)
      rw [if_pos (by rfl)]
      refine wp_store_row 24 _ _ rfl _ (ansC false (.slice s5 0 c5)).toArray rfl rfl 24 _ hA (by rw [Tryd.sizeAn]; rfl) rfl (all_oneCell_toArray (ansC_one _ _ _ _)) ?_
      have qA := setRow_heap _ _ _ (ansC false (.slice s5 0 c5)).toArray _ _ hA
      refine hK.out _ _ (hHeld.setO hgA (fun x hx => by cases hx) _) (fun hHeld2 => ?_)
      clear hK K hHeld
      have hHeld := hHeld2
      clear hHeld2
      try simp only [Act.put, List.setIfInBounds_toArray, List.set_cons_zero, List.set_cons_succ]
      refine wpAnyH_take (i := 9) (oi := { dst := some 2, op := Op.assign (Operand.tmp 11), type := 25, pos := "law.go:38", after := #[{ on := 6, ground := Ground.data }, { on := 8, ground := Ground.chain }, { on := 0, ground := Ground.phase }, { on := 1, ground := Ground.phase }, { on := 2, ground := Ground.phase }, { on := 3, ground := Ground.phase }, { on := 4, ground := Ground.phase }, { on := 5, ground := Ground.phase }, { on := 6, ground := Ground.phase }, { on := 7, ground := Ground.phase }, { on := 8, ground := Ground.phase }], guard := none }) (v := .int .i64 0) rfl (by kernel_rfl) (by kernel_rfl) (by kernel_rfl) (fun _ _ _ h => h) (Or.inl ⟨by rfl, by intro w hS; go_simp⟩) hHeld ?_
      try simp only [Act.put, List.setIfInBounds_toArray, List.set_cons_zero, List.set_cons_succ]
      refine wpAnyH_done (by kernel_rfl) ?_ _
      refine NoPanic.normal ?_
      exact HK _ s5 c5 _ _ _ _ _ _ _ _ hHeld.1 hgA qA
  · skip
    have hA := anN_of hHeld
    have hgA := hHeld.1.size
    try simp only [szN_al, szN_dr] at hA hgA
    try replace hZ := hZ.below (belN _ (.cells (ansC false (.slice none 0 0)).toArray 24)) (Nat.le_refl _)
    rw [if_pos (by rfl)]
    unfold Oper.wp
    rw [AA.out _ _ _ rfl]
    refine hK.out _ _ (hHeld.other _) (fun hHeld2 => ?_)
    clear hK K hHeld
    have hHeld := hHeld2
    clear hHeld2
    try simp only [Act.put, List.setIfInBounds_toArray, List.set_cons_zero, List.set_cons_succ]
    refine wpAnyH_ready (rs := [0, 2]) (by kernel_rfl) (by simp) ?_
    refine (AllReadyH.cons (o := { dst := some 6, op := Op.call { callee := Callee.value (Operand.func 6), args := #[Operand.const (Value.int IntKind.i64 4), Operand.const (Value.int IntKind.i64 256)], argTypes := #[3, 3] }, type := 29, pos := "law.go:38", after := #[], guard := none }) rfl (fun K hK => ?_) (AllReadyH.cons (o := { dst := some 8, op := Op.makeSlice 22 (Operand.const (Value.int IntKind.i64 33)) (Operand.const (Value.int IntKind.i64 33)), type := 22, pos := "law.go:38", after := #[], guard := none }) rfl (fun K hK => ?_) AllReadyH.nil))
    · skip
      go_simp
      go_at_call 6
      refine (KX.out _ (hG.below hHeld.1 hG.1.1)).mono ?_
      rintro e w4 ⟨rfl, hb4⟩
      try replace hA := hbel hb4 hA (hlt hA)
      try replace hZ := hZ.below hb4 (Nat.le_refl _)
      go_wp2_with fail
      refine hK.out _ _ (hHeld.call hb4) (fun hHeld2 => ?_)
      clear hK K hHeld
      have hHeld := hHeld2
      clear hHeld2
      try simp only [Act.put, List.setIfInBounds_toArray, List.set_cons_zero, List.set_cons_succ]
      refine wpAnyH_ready (rs := [2]) (by kernel_rfl) (by simp) ?_
      refine (AllReadyH.cons (o := { dst := some 8, op := Op.makeSlice 22 (Operand.const (Value.int IntKind.i64 33)) (Operand.const (Value.int IntKind.i64 33)), type := 22, pos := "law.go:38", after := #[], guard := none }) rfl (fun K hK => ?_) AllReadyH.nil)
      have hZ := z33_ofN hHeld
      try simp only [szN_al, szN_dr] at hZ
      try replace hA := hold (o := .cells (ints .u8 z33).toArray 5) hA
      go_simp
      refine hK.out _ _ (hHeld.other _) (fun hHeld2 => ?_)
      clear hK K hHeld
      have hHeld := hHeld2
      clear hHeld2
      try simp only [Act.put, List.setIfInBounds_toArray, List.set_cons_zero, List.set_cons_succ]
      refine wpAnyH_ready (rs := [3]) (by kernel_rfl) (by simp) ?_
      refine (AllReadyH.cons (o := { dst := some 9, op := Op.call { callee := Callee.value (Operand.func 5), args := #[Operand.const (Value.int IntKind.i64 4), Operand.tmp 6, Operand.tmp 7, Operand.tmp 8], argTypes := #[3, 29, 31, 22] }, type := 26, pos := "law.go:38", after := #[{ on := 0, ground := Ground.data }, { on := 1, ground := Ground.data }, { on := 2, ground := Ground.data }, { on := 0, ground := Ground.chain }], guard := none }) rfl (fun K hK => ?_) AllReadyH.nil)
      go_simp
      go_at_call 5
      refine (KV.out _ (hG.1.below hHeld.1 hG.1.1) _ _ hZ).mono ?_
      rintro e w5 ⟨s5, c5, rfl, hb5⟩
      try replace hA := hbel hb5 hA (hlt hA)
      go_wp2_with fail
      refine hK.out _ _ (hHeld.call hb5) (fun hHeld2 => ?_)
      clear hK K hHeld
      have hHeld := hHeld2
      clear hHeld2
      try simp only [Act.put, List.setIfInBounds_toArray, List.set_cons_zero, List.set_cons_succ]
      refine wpAnyH_take (i := 4) (oi := { dst := some 5, op := Op.move (Operand.tmp 9), type := 26, pos := "law.go:38", after := #[{ on := 3, ground := Ground.data }], guard := none }) (v := .tuple #[.agg (ansC false (.slice s5 0 c5)).toArray, .int .i64 0]) rfl (by kernel_rfl) (by kernel_rfl) (by kernel_rfl) (fun _ _ _ h => h) (Or.inl ⟨by rfl, by intro w hS; go_simp⟩) hHeld ?_
      try simp only [Act.put, List.setIfInBounds_toArray, List.set_cons_zero, List.set_cons_succ]
      refine wpAnyH_take (i := 5) (oi := { dst := some 10, op := Op.extract (Operand.tmp 5) 0, type := 24, pos := "law.go:38", after := #[{ on := 4, ground := Ground.data }], guard := none }) (v := .agg (ansC false (.slice s5 0 c5)).toArray) rfl (by kernel_rfl) (by kernel_rfl) (by kernel_rfl) (fun _ _ _ h => h) (Or.inl ⟨by rfl, by intro w hS; go_simp⟩) hHeld ?_
      try simp only [Act.put, List.setIfInBounds_toArray, List.set_cons_zero, List.set_cons_succ]
      refine wpAnyH_take (i := 6) (oi := { dst := some 11, op := Op.extract (Operand.tmp 5) 1, type := 25, pos := "law.go:38", after := #[{ on := 4, ground := Ground.data }, { on := 8, ground := Ground.gcOnly Departure.lateStores }], guard := none }) (v := .int .i64 0) rfl (by kernel_rfl) (by kernel_rfl) (by kernel_rfl) (fun _ _ _ h => h) (Or.inl ⟨by rfl, by intro w hS; go_simp⟩) hHeld ?_
      try simp only [Act.put, List.setIfInBounds_toArray, List.set_cons_zero, List.set_cons_succ]
      refine wpAnyH_ready (rs := [8]) (by kernel_rfl) (by simp) ?_
      refine (AllReadyH.cons (o := { dst := none, op := Op.store 24 (Operand.tmp 1) (Operand.tmp 10), type := 0, pos := "law.go:38", after := #[{ on := 7, ground := Ground.data }, { on := 5, ground := Ground.data }, { on := 3, ground := Ground.chain }, { on := 0, ground := Ground.phase }, { on := 1, ground := Ground.phase }, { on := 2, ground := Ground.phase }, { on := 3, ground := Ground.phase }, { on := 4, ground := Ground.phase }, { on := 5, ground := Ground.phase }, { on := 6, ground := Ground.textOnly Departure.lateStores }, { on := 7, ground := Ground.phase }], guard := none }) rfl (fun K hK => ?_) AllReadyH.nil)
      rw [if_pos (by rfl)]
      refine wp_store_row 24 _ _ rfl _ (ansC false (.slice s5 0 c5)).toArray rfl rfl 24 _ hA (by rw [Tryd.sizeAn]; rfl) rfl (all_oneCell_toArray (ansC_one _ _ _ _)) ?_
      have qA := setRow_heap _ _ _ (ansC false (.slice s5 0 c5)).toArray _ _ hA
      refine hK.out _ _ (hHeld.setO hgA (fun x hx => by cases hx) _) (fun hHeld2 => ?_)
      clear hK K hHeld
      have hHeld := hHeld2
      clear hHeld2
      try simp only [Act.put, List.setIfInBounds_toArray, List.set_cons_zero, List.set_cons_succ]
      refine wpAnyH_take (i := 9) (oi := { dst := some 2, op := Op.assign (Operand.tmp 11), type := 25, pos := "law.go:38", after := #[{ on := 6, ground := Ground.data }, { on := 8, ground := Ground.chain }, { on := 0, ground := Ground.phase }, { on := 1, ground := Ground.phase }, { on := 2, ground := Ground.phase }, { on := 3, ground := Ground.phase }, { on := 4, ground := Ground.phase }, { on := 5, ground := Ground.phase }, { on := 6, ground := Ground.phase }, { on := 7, ground := Ground.phase }, { on := 8, ground := Ground.phase }], guard := none }) (v := .int .i64 0) rfl (by kernel_rfl) (by kernel_rfl) (by kernel_rfl) (fun _ _ _ h => h) (Or.inl ⟨by rfl, by intro w hS; go_simp⟩) hHeld ?_
      try simp only [Act.put, List.setIfInBounds_toArray, List.set_cons_zero, List.set_cons_succ]
      refine wpAnyH_done (by kernel_rfl) ?_ _
      refine NoPanic.normal ?_
      exact HK _ s5 c5 _ _ _ _ _ _ _ _ hHeld.1 hgA qA
    · skip
      have hZ := z33_ofN hHeld
      try simp only [szN_al, szN_dr] at hZ
      try replace hA := hold (o := .cells (ints .u8 z33).toArray 5) hA
      go_simp
      refine hK.out _ _ (hHeld.other _) (fun hHeld2 => ?_)
      clear hK K hHeld
      have hHeld := hHeld2
      clear hHeld2
      try simp only [Act.put, List.setIfInBounds_toArray, List.set_cons_zero, List.set_cons_succ]
      refine wpAnyH_ready (rs := [0]) (by kernel_rfl) (by simp) ?_
      refine (AllReadyH.cons (o := { dst := some 6, op := Op.call { callee := Callee.value (Operand.func 6), args := #[Operand.const (Value.int IntKind.i64 4), Operand.const (Value.int IntKind.i64 256)], argTypes := #[3, 3] }, type := 29, pos := "law.go:38", after := #[], guard := none }) rfl (fun K hK => ?_) AllReadyH.nil)
      go_simp
      go_at_call 6
      refine (KX.out _ (hG.below hHeld.1 hG.1.1)).mono ?_
      rintro e w4 ⟨rfl, hb4⟩
      try replace hA := hbel hb4 hA (hlt hA)
      try replace hZ := hZ.below hb4 (Nat.le_refl _)
      go_wp2_with fail
      refine hK.out _ _ (hHeld.call hb4) (fun hHeld2 => ?_)
      clear hK K hHeld
      have hHeld := hHeld2
      clear hHeld2
      try simp only [Act.put, List.setIfInBounds_toArray, List.set_cons_zero, List.set_cons_succ]
      refine wpAnyH_ready (rs := [3]) (by kernel_rfl) (by simp) ?_
      refine (AllReadyH.cons (o := { dst := some 9, op := Op.call { callee := Callee.value (Operand.func 5), args := #[Operand.const (Value.int IntKind.i64 4), Operand.tmp 6, Operand.tmp 7, Operand.tmp 8], argTypes := #[3, 29, 31, 22] }, type := 26, pos := "law.go:38", after := #[{ on := 0, ground := Ground.data }, { on := 1, ground := Ground.data }, { on := 2, ground := Ground.data }, { on := 0, ground := Ground.chain }], guard := none }) rfl (fun K hK => ?_) AllReadyH.nil)
      go_simp
      go_at_call 5
      refine (KV.out _ (hG.1.below hHeld.1 hG.1.1) _ _ hZ).mono ?_
      rintro e w5 ⟨s5, c5, rfl, hb5⟩
      try replace hA := hbel hb5 hA (hlt hA)
      go_wp2_with fail
      refine hK.out _ _ (hHeld.call hb5) (fun hHeld2 => ?_)
      clear hK K hHeld
      have hHeld := hHeld2
      clear hHeld2
      try simp only [Act.put, List.setIfInBounds_toArray, List.set_cons_zero, List.set_cons_succ]
      refine wpAnyH_take (i := 4) (oi := { dst := some 5, op := Op.move (Operand.tmp 9), type := 26, pos := "law.go:38", after := #[{ on := 3, ground := Ground.data }], guard := none }) (v := .tuple #[.agg (ansC false (.slice s5 0 c5)).toArray, .int .i64 0]) rfl (by kernel_rfl) (by kernel_rfl) (by kernel_rfl) (fun _ _ _ h => h) (Or.inl ⟨by rfl, by intro w hS; go_simp⟩) hHeld ?_
      try simp only [Act.put, List.setIfInBounds_toArray, List.set_cons_zero, List.set_cons_succ]
      refine wpAnyH_take (i := 5) (oi := { dst := some 10, op := Op.extract (Operand.tmp 5) 0, type := 24, pos := "law.go:38", after := #[{ on := 4, ground := Ground.data }], guard := none }) (v := .agg (ansC false (.slice s5 0 c5)).toArray) rfl (by kernel_rfl) (by kernel_rfl) (by kernel_rfl) (fun _ _ _ h => h) (Or.inl ⟨by rfl, by intro w hS; go_simp⟩) hHeld ?_
      try simp only [Act.put, List.setIfInBounds_toArray, List.set_cons_zero, List.set_cons_succ]
      refine wpAnyH_take (i := 6) (oi := { dst := some 11, op := Op.extract (Operand.tmp 5) 1, type := 25, pos := "law.go:38", after := #[{ on := 4, ground := Ground.data }, { on := 8, ground := Ground.gcOnly Departure.lateStores }], guard := none }) (v := .int .i64 0) rfl (by kernel_rfl) (by kernel_rfl) (by kernel_rfl) (fun _ _ _ h => h) (Or.inl ⟨by rfl, by intro w hS; go_simp⟩) hHeld ?_
      try simp only [Act.put, List.setIfInBounds_toArray, List.set_cons_zero, List.set_cons_succ]
      refine wpAnyH_ready (rs := [8]) (by kernel_rfl) (by simp) ?_
      refine (AllReadyH.cons (o := { dst := none, op := Op.store 24 (Operand.tmp 1) (Operand.tmp 10), type := 0, pos := "law.go:38", after := #[{ on := 7, ground := Ground.data }, { on := 5, ground := Ground.data }, { on := 3, ground := Ground.chain }, { on := 0, ground := Ground.phase }, { on := 1, ground := Ground.phase }, { on := 2, ground := Ground.phase }, { on := 3, ground := Ground.phase }, { on := 4, ground := Ground.phase }, { on := 5, ground := Ground.phase }, { on := 6, ground := Ground.textOnly Departure.lateStores }, { on := 7, ground := Ground.phase }], guard := none }) rfl (fun K hK => ?_) AllReadyH.nil)
      rw [if_pos (by rfl)]
      refine wp_store_row 24 _ _ rfl _ (ansC false (.slice s5 0 c5)).toArray rfl rfl 24 _ hA (by rw [Tryd.sizeAn]; rfl) rfl (all_oneCell_toArray (ansC_one _ _ _ _)) ?_
      have qA := setRow_heap _ _ _ (ansC false (.slice s5 0 c5)).toArray _ _ hA
      refine hK.out _ _ (hHeld.setO hgA (fun x hx => by cases hx) _) (fun hHeld2 => ?_)
      clear hK K hHeld
      have hHeld := hHeld2
      clear hHeld2
      try simp only [Act.put, List.setIfInBounds_toArray, List.set_cons_zero, List.set_cons_succ]
      refine wpAnyH_take (i := 9) (oi := { dst := some 2, op := Op.assign (Operand.tmp 11), type := 25, pos := "law.go:38", after := #[{ on := 6, ground := Ground.data }, { on := 8, ground := Ground.chain }, { on := 0, ground := Ground.phase }, { on := 1, ground := Ground.phase }, { on := 2, ground := Ground.phase }, { on := 3, ground := Ground.phase }, { on := 4, ground := Ground.phase }, { on := 5, ground := Ground.phase }, { on := 6, ground := Ground.phase }, { on := 7, ground := Ground.phase }, { on := 8, ground := Ground.phase }], guard := none }) (v := .int .i64 0) rfl (by kernel_rfl) (by kernel_rfl) (by kernel_rfl) (fun _ _ _ h => h) (Or.inl ⟨by rfl, by intro w hS; go_simp⟩) hHeld ?_
      try simp only [Act.put, List.setIfInBounds_toArray, List.set_cons_zero, List.set_cons_succ]
      refine wpAnyH_done (by kernel_rfl) ?_ _
      refine NoPanic.normal ?_
      exact HK _ s5 c5 _ _ _ _ _ _ _ _ hHeld.1 hgA qA
set_option maxRecDepth 100000 in
set_option maxHeartbeats 4000000 in
theorem clientNames_any (w : World) (hG : Gb w) : Calls Tryd.prog 3 #[] w fun e w' => e = .returned (.bool true) ∧ Below w.heap.size w w' := by
  have KX : Hid (∀ w1, Gb w1 → Calls Tryd.prog 6 #[.int .i64 4, .int .i64 256] w1 fun e w' => e = .returned (.agg (ints .u8 (emptyD 4 256)).toArray) ∧ Below w1.heap.size w1 w') := hid (fun w1 g1 => by have := xempty_any w1 g1 4 256; rwa [show hgt 256 = 256 from rfl] at this)
  obtain ⟨z1, z2, z3⟩ := ver_z33 (k := 4) k7 (by decide) (by decide)
  have KV : Hid (∀ w1, Glob w1 → ∀ sp cap, Src w1 sp cap z33 → Calls Tryd.prog 5 #[.int .i64 4, .agg (ints .u8 (emptyD 4 256)).toArray, .agg (ints .u8 k7).toArray, .slice sp 33 cap] w1 fun e w' => ∃ s c, e = .returned (.tuple #[.agg (ansC false (.slice s 0 c)).toArray, .int .i64 0]) ∧ Below w1.heap.size w1 w') := hid (fun w1 g1 sp cap hs => (verify_any w1 g1 4 (emptyD 4 256) k7 z33 (emptyD_len _ _) rfl k7_bys sp cap z33_bys hs).mono (fun e w' h => by
    obtain ⟨s, c, h1, h2, h3⟩ := h
    rw [z1, z2, z3] at h1
    exact ⟨s, c, h1, h3⟩))
  have KW := hid (fun w1 (g1 : Glob w1) sp cap (hs : Src w1 sp cap z33) => (verify_any w1 g1 4 zB k7 z33 rfl rfl k7_bys sp cap z33_bys hs).mono (fun e w' h => show ∃ s c f n, e = .returned (.tuple #[.agg (ansC f (.slice s n c)).toArray, .int .i64 131]) ∧ Below w1.heap.size w1 w' from by
    obtain ⟨s, c, h1, h2, h3⟩ := h
    rw [names_e] at h1
    exact ⟨s, c, _, _, h1, h3⟩))
  have B0 := hid built_zD
  have B7 := hid built_k7
  have AA := hid allocAn
  have mz := mk33N
  clear z1 z2 z3
  generalize emptyD 4 256 = E256 at *
  go_enter Tryd.func3, Tryd.ntmps3
  go_wp2_with fail
  refine regN w _ hG E256 (Below.refl _ _) KX KV ?_
  rintro ga s c w2 _ _ _ _ _ _ _ hB2 hg2 r2
  clear KX KV
  have hZ : Src (w2.alloc (.cells (ints .u8 z33).toArray 5)) (some ⟨w2.heap.size, 0, none⟩) 33 z33 := z33_ofN (w0 := w) (L := []) ⟨hB2, fun x hx => by cases hx⟩
  have hb3 := belN w2 (.cells (ints .u8 z33).toArray 5)
  have hB3 := hB2.trans (hb3.mono hB2.size)
  go_wp2_with (first
    | refine wpList_built (by rfl) 29 _ (by rfl) _ (by rfl) _ B0.out ?_
    | refine wpList_built (by rfl) 31 _ (by rfl) _ (by rfl) _ B7.out ?_
    | (refine (KW.out _ (hG.1.below hB3 hG.1.1) _ _ hZ).mono ?_; rintro e w4 ⟨s4, c4, f4, n4, rfl, hb4⟩; refine Hid.out ?_))
  refine hid ?_
  have r4 := hbel (hb3.trans (hb4.mono hb3.size)) r2 (hlt r2)
  have hB4 := hB3.trans (hb4.mono hB3.size)
  clear hZ hb3 hB3 r2 KW mz
  have LA := hid (show (ansC false (.slice none 0 0)).length = 2 from rfl)
  go_wp2_with (first | (refine wpList_new AA.out LA.out Tryd.sizeAn rfl rfl rfl _ _ rfl rfl (ansC f4 (.slice s4 n4 c4)) rfl rfl rfl (ansC_one _ _ _ _) ?_; refine Hid.out ?_))
  refine hid ?_
  have r5 := hold (o := .cells (ansC f4 (.slice s4 n4 c4)).toArray 24) r4
  have hB5 := hB4.alloc hB4.size (.cells (ansC f4 (.slice s4 n4 c4)).toArray 24)
  generalize w4.alloc (.cells (ansC f4 (.slice s4 n4 c4)).toArray 24) = w5 at *
  have cf : w5.cell? ⟨ga, 0, none⟩ = some (.bool false) := by rw [cell_of_row _ _ _ _ _ _ r5]; rfl
  have cv : w5.cell? ⟨ga, 1, none⟩ = some (.slice s 0 c) := by rw [cell_of_row _ _ _ _ _ _ r5]; rfl
  go_wp2_with fail
  go_ret
  exact ⟨rfl, hB5⟩
end Go.Proofs.YtblcpcfonnaiiaaDoor
