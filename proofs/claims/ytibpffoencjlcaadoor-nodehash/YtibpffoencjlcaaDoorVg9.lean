import Derived.Test.YtibpffoencjlcaaDoorVf9
namespace Go.Proofs.YtibpffoencjlcaaDoor
set_option linter.unusedVariables false
set_option linter.unusedSimpArgs false
open Go.RowKit
attribute [local go_sem ↓] Go.wp_at_zero Go.wp_at_succ

set_option maxRecDepth 100000 in
set_option maxHeartbeats 4000000 in
theorem hash_lo (w : World) (hG : Glob w) (k : Int) (hk32 : k < 32) (ks vs ls rs : List Int) (hk : ks.length = 32) (hl : ls.length = 32) (hr : rs.length = 32) (sp : Option Addr) (cap : Nat) (hS : Src w sp cap vs) (hnil : sp = none → cap = 0) (hlen : vs.length ≤ 140737488351232) :
    Calls Tryd.prog 4 #[.int .i64 k, .agg (ints .u8 ks).toArray, .slice sp vs.length cap, .agg (ints .u8 ls).toArray, .agg (ints .u8 rs).toArray] w fun e w' => e = .returned (.bool true) ∧ Below w.heap.size w w' := by
  have d0 := (((DR.nil w).alloc ks 33).alloc ls 24).alloc rs 24
  rw [show ((w.alloc (.cells (ints .u8 ks).toArray 33)).alloc (.cells (ints .u8 ls).toArray 24)).heap.size = w.heap.size + 1 + 1 by simp, show (w.alloc (.cells (ints .u8 ks).toArray 33)).heap.size = w.heap.size + 1 by simp] at d0
  have r0 := d0.row (.tail _ (.tail _ (.head _)))
  have r1 := d0.row (.tail _ (.head _))
  have r2 := d0.row (.head _)
  have hX := leafD_len k ks vs
  have hY := branchD_len k ls rs
  have hZ := emptyD_len k 0
  have HX := hid (show cutZ (sha (leafT ks vs)) (kept k) = leafD k ks vs from rfl)
  have HY := hid (show cutZ (sha (branchT (kept k) ls rs)) (kept k) = branchD k ls rs from rfl)
  have HZ := hid (show cutZ (sha [2]) (kept k) = emptyD k 0 from rfl)
  have HXc := hid (cut_leafD k ks vs)
  have HYc := hid (cut_branchD k ls rs)
  have HYb := hid (branchD_cut k ls rs hl hr)
  have hCl := cutZ_len ls (kept k) hl
  have hCr := cutZ_len rs (kept k) hr
  have HLT := hid (show (leafT ks vs).length = 33 + vs.length by simp [leafT, hk]; omega)
  have KL := hid (fun w1 (hG1 : Glob w1) (hS1 : Src w1 sp cap vs) => leaf_any w1 hG1 k ks vs hk sp cap hS1 hnil hlen)
  have KB := hid (fun w1 (hG1 : Glob w1) => branch_any w1 hG1 k ls rs hl hr)
  have KB2 := hid (fun w1 (hG1 : Glob w1) => branch_to w1 hG1 k (cutZ ls (kept k)) (cutZ rs (kept k)) (branchD k ls rs) hCl hCr HYb.out)
  have KE := hid (fun w1 (hG1 : Glob w1) => empty_to w1 hG1 k 0 (emptyD k 0) rfl)
  have g24 := Tryd.guardD
  generalize leafD k ks vs = X at *
  generalize branchD k ls rs = Y at *
  generalize emptyD k 0 = Z at *
  have qX := eqD_self X hX
  have qY := eqD_self Y hY
  have qZ := eqD_self Z hZ
  go_enter Tryd.func4, Tryd.ntmps4
  go_wp2_with (first | refine wpList_load_row rfl 33 _ rfl _ rfl 33 _ _ _ r0 Tryd.underlying33 rfl (by rw [ints_size, hk]; rfl) ?_)
  generalize ((w.alloc (.cells (ints .u8 ks).toArray 33)).alloc (.cells (ints .u8 ls).toArray 24)).alloc (.cells (ints .u8 rs).toArray 24) = w1 at *
  refine (KL.out w1 (d0.glob hG) (d0.src hS)).mono ?_
  rintro e w2 ⟨rfl, hB2⟩
  have d1 := (d0.call hB2).alloc X 24
  have r0 := d1.row (.tail _ (.tail _ (.tail _ (.head _))))
  have r1 := d1.row (.tail _ (.tail _ (.head _)))
  have r2 := d1.row (.tail _ (.head _))
  clear d0 hB2 KL
  go_wp2_with (first | refine wpList_load_row rfl 24 _ rfl _ rfl 24 _ _ _ r1 Tryd.underlying24 rfl (by rw [ints_size, hl]; rfl) ?_ | refine wpList_load_row rfl 24 _ rfl _ rfl 24 _ _ _ r2 Tryd.underlying24 rfl (by rw [ints_size, hr]; rfl) ?_ | (refine wpList_store_row rfl 24 _ _ rfl _ _ rfl rfl 24 _ (by exact hnew _ (.cells (ints .u8 z32).toArray 24)) (by rw [Tryd.size24, ints_size, hX]) (by rw [ints_size, ints_size, hX]; rfl) (all_oneCell_toArray (ints_one .u8 _)) ?_; rw [setRow_alloc]))
  generalize hb2 : w2.heap.size = b2 at *
  generalize w2.alloc (.cells (ints .u8 X).toArray 24) = w3 at *
  clear hb2
  refine (KB.out w3 (d1.glob hG)).mono ?_
  rintro e w4 ⟨rfl, hB4⟩
  have d2 := (d1.call hB4).alloc Y 24
  clear d1 hB4 r0 r1 r2 KB
  go_wp2_with (first | (refine wpList_store_row rfl 24 _ _ rfl _ _ rfl rfl 24 _ (by exact hnew _ (.cells (ints .u8 z32).toArray 24)) (by rw [Tryd.size24, ints_size, hY]) (by rw [ints_size, ints_size, hY]; rfl) (all_oneCell_toArray (ints_one .u8 _)) ?_; rw [setRow_alloc]))
  generalize hb4 : w4.heap.size = b4 at *
  generalize w4.alloc (.cells (ints .u8 Y).toArray 24) = w5 at *
  clear hb4
  refine (KE.out w5 (d2.glob hG)).mono ?_
  rintro e w6 ⟨rfl, hB6⟩
  have d3 := (d2.call hB6).alloc Z 24
  clear d2 hB6 KE
  go_wp2_with (first | (refine wpList_store_row rfl 24 _ _ rfl _ _ rfl rfl 24 _ (by exact hnew _ (.cells (ints .u8 z32).toArray 24)) (by rw [Tryd.size24, ints_size, hZ]) (by rw [ints_size, ints_size, hZ]; rfl) (all_oneCell_toArray (ints_one .u8 _)) ?_; rw [setRow_alloc]))
  generalize hb6 : w6.heap.size = b6 at *
  generalize w6.alloc (.cells (ints .u8 Z).toArray 24) = w7 at *
  clear hb6
  refine wp_region_noPanic ?_
  refine wp_region_held_drew (S := (fun w' => DR w w' [(b6, Z, 24), (b4, Y, 24), (b2, X, 24), (w.heap.size + 1 + 1, rs, 24), (w.heap.size + 1, ls, 24), (w.heap.size, ks, 33)])) (by kernel_rfl) d3.drew (fun hHeld => ?_)
  refine wpAnyH_take (i := 0) (oi := { dst := some 24, op := Op.load 24 (Operand.tmp 11), type := 24, pos := "outright.go:96", after := #[], guard := none }) (v := .agg (ints .u8 X).toArray) rfl (by kernel_rfl) (by kernel_rfl) (by kernel_rfl) (fun _ _ _ h => h) (yieldsIf_load_mid (by rfl) 24 _ rfl b2 (0) rfl (ints .u8 X) _ (fun w hS => (DR.rng hS (.tail _ (.tail _ (.head _))))) Tryd.underlying24 rfl (by rw [ints_len, hX]; rfl)) hHeld ?_
  try simp only [Act.put, List.setIfInBounds_toArray, List.set_cons_zero, List.set_cons_succ]
  refine wpAnyH_take (i := 1) (oi := { dst := some 25, op := Op.load 33 (Operand.tmp 6), type := 33, pos := "outright.go:96", after := #[], guard := none }) (v := .agg (ints .u8 ks).toArray) rfl (by kernel_rfl) (by kernel_rfl) (by kernel_rfl) (fun _ _ _ h => h) (yieldsIf_load_mid (by rfl) 33 _ rfl w.heap.size (0) rfl (ints .u8 ks) _ (fun w hS => (DR.rng hS (.tail _ (.tail _ (.tail _ (.tail _ (.tail _ (.head _)))))))) Tryd.underlying33 rfl (by rw [ints_len, hk]; rfl)) hHeld ?_
  try simp only [Act.put, List.setIfInBounds_toArray, List.set_cons_zero, List.set_cons_succ]
  refine wpAnyH_take (i := 2) (oi := { dst := some 26, op := Op.move (Operand.tmp 2), type := 31, pos := "outright.go:96", after := #[], guard := none }) (v := .slice sp vs.length cap) rfl (by kernel_rfl) (by kernel_rfl) (by kernel_rfl) (fun _ _ _ h => h) (Or.inl ⟨by rfl, by intro w hS; go_simp⟩) hHeld ?_
  try simp only [Act.put, List.setIfInBounds_toArray, List.set_cons_zero, List.set_cons_succ]
  refine wpAnyH_take (i := 5) (oi := { dst := some 29, op := Op.move (Operand.tmp 0), type := 3, pos := "outright.go:96", after := #[], guard := none }) (v := .int .i64 k) rfl (by kernel_rfl) (by kernel_rfl) (by kernel_rfl) (fun _ _ _ h => h) (Or.inl ⟨by rfl, by intro w hS; go_simp⟩) hHeld ?_
  try simp only [Act.put, List.setIfInBounds_toArray, List.set_cons_zero, List.set_cons_succ]
  refine wpAnyH_ready (rs := [3]) (by kernel_rfl) (by simp) ?_
  refine (AllReadyH.cons (o := { dst := some 27, op := Op.call { callee := Callee.value (Operand.func 12), args := #[Operand.tmp 25, Operand.tmp 26], argTypes := #[33, 31] }, type := 31, pos := "outright.go:96", after := #[{ on := 1, ground := Ground.data }, { on := 2, ground := Ground.data }], guard := none }) rfl (fun K hK => ?_) AllReadyH.nil)
  go_simp
  go_at_call 12
  refine (leafText_any _ ks vs hk sp cap (DR.src hHeld hS) hnil hlen).mono ?_
  rintro e w4 ⟨v, rfl, hO, hb4⟩
  obtain ⟨lfs, lfc, rfl, lfS, lfn⟩ := hO.form
  go_wp2_with fail
  refine hK.out _ _ (DR.call hHeld hb4) (fun hHeld2 => ?_)
  clear hK K hHeld
  have hHeld := hHeld2
  clear hHeld2
  try simp only [Act.put, List.setIfInBounds_toArray, List.set_cons_zero, List.set_cons_succ]
  refine wpAnyH_ready (rs := [4]) (by kernel_rfl) (by simp) ?_
  refine (AllReadyH.cons (o := { dst := some 28, op := Op.call { callee := Callee.value (Operand.func 10), args := #[Operand.tmp 27], argTypes := #[31] }, type := 24, pos := "outright.go:96", after := #[{ on := 3, ground := Ground.data }, { on := 3, ground := Ground.chain }], guard := none }) rfl (fun K hK => ?_) AllReadyH.nil)
  go_simp
  go_at_call 10
  refine (dsum_any _ (leafT ks vs) lfs lfc lfS (DR.glob hHeld hG) (by rw [HLT.out]; omega)).mono ?_
  rintro e w4 ⟨rfl, hb4⟩
  go_wp2_with fail
  refine hK.out _ _ (DR.call hHeld hb4) (fun hHeld2 => ?_)
  clear hK K hHeld
  have hHeld := hHeld2
  clear hHeld2
  try simp only [Act.put, List.setIfInBounds_toArray, List.set_cons_zero, List.set_cons_succ]
  refine wpAnyH_ready (rs := [6]) (by kernel_rfl) (by simp) ?_
  refine (AllReadyH.cons (o := { dst := some 30, op := Op.call { callee := Callee.value (Operand.func 9), args := #[Operand.tmp 28, Operand.tmp 29], argTypes := #[24, 3] }, type := 24, pos := "outright.go:96", after := #[{ on := 4, ground := Ground.data }, { on := 5, ground := Ground.data }, { on := 4, ground := Ground.chain }], guard := none }) rfl (fun K hK => ?_) AllReadyH.nil)
  go_simp
  go_at_call 9
  refine (cutD_any (sha (leafT ks vs)) (sha_len _) k _).mono ?_
  rintro e w4 ⟨rfl, hb4⟩
  rw [HX.out]
  go_wp2_with fail
  refine hK.out _ _ (DR.call hHeld hb4) (fun hHeld2 => ?_)
  clear hK K hHeld
  have hHeld := hHeld2
  clear hHeld2
  try simp only [Act.put, List.setIfInBounds_toArray, List.set_cons_zero, List.set_cons_succ]
  refine wpAnyH_take (i := 7) (oi := { dst := some 31, op := Op.binOp BinOp.neq 24 (Operand.tmp 24) (Operand.tmp 30) 24, type := 4, pos := "outright.go:96", after := #[{ on := 0, ground := Ground.data }, { on := 6, ground := Ground.data }], guard := none }) (v := .bool false) rfl (by kernel_rfl) (by kernel_rfl) (by kernel_rfl) (fun _ _ _ h => h) (Or.inl ⟨by rfl, by intro w hS; go_simp⟩) hHeld ?_
  try simp only [Act.put, List.setIfInBounds_toArray, List.set_cons_zero, List.set_cons_succ]
  refine wpAnyH_take (i := 8) (oi := { dst := some 32, op := Op.move (Operand.tmp 31), type := 4, pos := "outright.go:96", after := #[{ on := 7, ground := Ground.data }, { on := 6, ground := Ground.chain }], guard := none }) (v := .bool false) rfl (by kernel_rfl) (by kernel_rfl) (by kernel_rfl) (fun _ _ _ h => h) (Or.inl ⟨by rfl, by intro w hS; go_simp⟩) hHeld ?_
  try simp only [Act.put, List.setIfInBounds_toArray, List.set_cons_zero, List.set_cons_succ]
  refine wpAnyH_take (i := 9) (oi := { dst := some 33, op := Op.load 24 (Operand.tmp 12), type := 24, pos := "outright.go:96", after := #[{ on := 8, ground := Ground.guard }], guard := some (8, false) }) (v := .agg (ints .u8 Y).toArray) rfl (by kernel_rfl) (by kernel_rfl) (by kernel_rfl) (fun _ _ _ h => h) (yieldsIf_load_mid (by rfl) 24 _ rfl b4 (0) rfl (ints .u8 Y) _ (fun w hS => (DR.rng hS (.tail _ (.head _)))) Tryd.underlying24 rfl (by rw [ints_len, hY]; rfl)) hHeld ?_
  try simp only [Act.put, List.setIfInBounds_toArray, List.set_cons_zero, List.set_cons_succ]
  refine wpAnyH_take (i := 10) (oi := { dst := some 34, op := Op.move (Operand.tmp 0), type := 3, pos := "outright.go:96", after := #[{ on := 8, ground := Ground.guard }], guard := some (8, false) }) (v := .int .i64 k) rfl (by kernel_rfl) (by kernel_rfl) (by kernel_rfl) (fun _ _ _ h => h) (Or.inl ⟨by rfl, by intro w hS; go_simp⟩) hHeld ?_
  try simp only [Act.put, List.setIfInBounds_toArray, List.set_cons_zero, List.set_cons_succ]
  refine wpAnyH_take (i := 11) (oi := { dst := some 35, op := Op.load 24 (Operand.tmp 8), type := 24, pos := "outright.go:96", after := #[{ on := 8, ground := Ground.guard }], guard := some (8, false) }) (v := .agg (ints .u8 ls).toArray) rfl (by kernel_rfl) (by kernel_rfl) (by kernel_rfl) (fun _ _ _ h => h) (yieldsIf_load_mid (by rfl) 24 _ rfl (w.heap.size + 1) (0) rfl (ints .u8 ls) _ (fun w hS => (DR.rng hS (.tail _ (.tail _ (.tail _ (.tail _ (.head _))))))) Tryd.underlying24 rfl (by rw [ints_len, hl]; rfl)) hHeld ?_
  try simp only [Act.put, List.setIfInBounds_toArray, List.set_cons_zero, List.set_cons_succ]
  refine wpAnyH_take (i := 12) (oi := { dst := some 36, op := Op.load 24 (Operand.tmp 9), type := 24, pos := "outright.go:96", after := #[{ on := 8, ground := Ground.guard }], guard := some (8, false) }) (v := .agg (ints .u8 rs).toArray) rfl (by kernel_rfl) (by kernel_rfl) (by kernel_rfl) (fun _ _ _ h => h) (yieldsIf_load_mid (by rfl) 24 _ rfl (w.heap.size + 1 + 1) (0) rfl (ints .u8 rs) _ (fun w hS => (DR.rng hS (.tail _ (.tail _ (.tail _ (.head _)))))) Tryd.underlying24 rfl (by rw [ints_len, hr]; rfl)) hHeld ?_
  try simp only [Act.put, List.setIfInBounds_toArray, List.set_cons_zero, List.set_cons_succ]
  refine wpAnyH_take (i := 15) (oi := { dst := some 39, op := Op.move (Operand.tmp 0), type := 3, pos := "outright.go:96", after := #[{ on := 8, ground := Ground.guard }], guard := some (8, false) }) (v := .int .i64 k) rfl (by kernel_rfl) (by kernel_rfl) (by kernel_rfl) (fun _ _ _ h => h) (Or.inl ⟨by rfl, by intro w hS; go_simp⟩) hHeld ?_
  try simp only [Act.put, List.setIfInBounds_toArray, List.set_cons_zero, List.set_cons_succ]
  refine wpAnyH_ready (rs := [13]) (by kernel_rfl) (by simp) ?_
  refine (AllReadyH.cons (o := { dst := some 37, op := Op.call { callee := Callee.value (Operand.func 13), args := #[Operand.tmp 34, Operand.tmp 35, Operand.tmp 36], argTypes := #[3, 24, 24] }, type := 31, pos := "outright.go:96", after := #[{ on := 10, ground := Ground.data }, { on := 11, ground := Ground.data }, { on := 12, ground := Ground.data }, { on := 8, ground := Ground.chain }, { on := 8, ground := Ground.guard }], guard := some (8, false) }) rfl (fun K hK => ?_) AllReadyH.nil)
  go_simp
  go_at_call 13
  refine (branchText_any _ k ls rs hl hr).mono ?_
  rintro e w4 ⟨v, rfl, hO, hb4⟩
  obtain ⟨brs, brc, rfl, brS, brn⟩ := hO.form
  go_wp2_with fail
  refine hK.out _ _ (DR.call hHeld hb4) (fun hHeld2 => ?_)
  clear hK K hHeld
  have hHeld := hHeld2
  clear hHeld2
  try simp only [Act.put, List.setIfInBounds_toArray, List.set_cons_zero, List.set_cons_succ]
  refine wpAnyH_ready (rs := [14]) (by kernel_rfl) (by simp) ?_
  refine (AllReadyH.cons (o := { dst := some 38, op := Op.call { callee := Callee.value (Operand.func 10), args := #[Operand.tmp 37], argTypes := #[31] }, type := 24, pos := "outright.go:96", after := #[{ on := 13, ground := Ground.data }, { on := 13, ground := Ground.chain }, { on := 8, ground := Ground.guard }], guard := some (8, false) }) rfl (fun K hK => ?_) AllReadyH.nil)
  go_simp
  go_at_call 10
  refine (dsum_any _ (branchT (kept k) ls rs) brs brc brS (DR.glob hHeld hG) (by have := kept_le k; simp only [branchT, List.length_cons, List.length_append, List.length_take]; omega)).mono ?_
  rintro e w4 ⟨rfl, hb4⟩
  go_wp2_with fail
  refine hK.out _ _ (DR.call hHeld hb4) (fun hHeld2 => ?_)
  clear hK K hHeld
  have hHeld := hHeld2
  clear hHeld2
  try simp only [Act.put, List.setIfInBounds_toArray, List.set_cons_zero, List.set_cons_succ]
  refine wpAnyH_ready (rs := [16]) (by kernel_rfl) (by simp) ?_
  refine (AllReadyH.cons (o := { dst := some 40, op := Op.call { callee := Callee.value (Operand.func 9), args := #[Operand.tmp 38, Operand.tmp 39], argTypes := #[24, 3] }, type := 24, pos := "outright.go:96", after := #[{ on := 14, ground := Ground.data }, { on := 15, ground := Ground.data }, { on := 14, ground := Ground.chain }, { on := 8, ground := Ground.guard }], guard := some (8, false) }) rfl (fun K hK => ?_) AllReadyH.nil)
  go_simp
  go_at_call 9
  refine (cutD_any (sha (branchT (kept k) ls rs)) (sha_len _) k _).mono ?_
  rintro e w4 ⟨rfl, hb4⟩
  rw [HY.out]
  go_wp2_with fail
  refine hK.out _ _ (DR.call hHeld hb4) (fun hHeld2 => ?_)
  clear hK K hHeld
  have hHeld := hHeld2
  clear hHeld2
  try simp only [Act.put, List.setIfInBounds_toArray, List.set_cons_zero, List.set_cons_succ]
  refine wpAnyH_take (i := 17) (oi := { dst := some 41, op := Op.binOp BinOp.neq 24 (Operand.tmp 33) (Operand.tmp 40) 24, type := 4, pos := "outright.go:96", after := #[{ on := 9, ground := Ground.data }, { on := 16, ground := Ground.data }, { on := 8, ground := Ground.guard }], guard := some (8, false) }) (v := .bool false) rfl (by kernel_rfl) (by kernel_rfl) (by kernel_rfl) (fun _ _ _ h => h) (Or.inl ⟨by rfl, by intro w hS; go_simp⟩) hHeld ?_
  try simp only [Act.put, List.setIfInBounds_toArray, List.set_cons_zero, List.set_cons_succ]
  refine wpAnyH_take (i := 18) (oi := { dst := some 42, op := Op.pick (Operand.tmp 32) (Operand.const (Value.bool true)) (Operand.tmp 41), type := 4, pos := "outright.go:96", after := #[{ on := 8, ground := Ground.data }, { on := 17, ground := Ground.data }], guard := none }) (v := .bool false) rfl (by kernel_rfl) (by kernel_rfl) (by kernel_rfl) (fun _ _ _ h => h) (Or.inl ⟨by rfl, by intro w hS; go_simp⟩) hHeld ?_
  try simp only [Act.put, List.setIfInBounds_toArray, List.set_cons_zero, List.set_cons_succ]
  refine wpAnyH_take (i := 19) (oi := { dst := some 43, op := Op.move (Operand.tmp 42), type := 4, pos := "outright.go:96", after := #[{ on := 18, ground := Ground.data }, { on := 16, ground := Ground.chain }], guard := none }) (v := .bool false) rfl (by kernel_rfl) (by kernel_rfl) (by kernel_rfl) (fun _ _ _ h => h) (Or.inl ⟨by rfl, by intro w hS; go_simp⟩) hHeld ?_
  try simp only [Act.put, List.setIfInBounds_toArray, List.set_cons_zero, List.set_cons_succ]
  refine wpAnyH_take (i := 20) (oi := { dst := some 44, op := Op.load 24 (Operand.tmp 13), type := 24, pos := "outright.go:96", after := #[{ on := 19, ground := Ground.guard }], guard := some (19, false) }) (v := .agg (ints .u8 Z).toArray) rfl (by kernel_rfl) (by kernel_rfl) (by kernel_rfl) (fun _ _ _ h => h) (yieldsIf_load_mid (by rfl) 24 _ rfl b6 (0) rfl (ints .u8 Z) _ (fun w hS => (DR.rng hS (.head _))) Tryd.underlying24 rfl (by rw [ints_len, hZ]; rfl)) hHeld ?_
  try simp only [Act.put, List.setIfInBounds_toArray, List.set_cons_zero, List.set_cons_succ]
  refine wpAnyH_take (i := 23) (oi := { dst := some 47, op := Op.move (Operand.tmp 0), type := 3, pos := "outright.go:96", after := #[{ on := 19, ground := Ground.guard }], guard := some (19, false) }) (v := .int .i64 k) rfl (by kernel_rfl) (by kernel_rfl) (by kernel_rfl) (fun _ _ _ h => h) (Or.inl ⟨by rfl, by intro w hS; go_simp⟩) hHeld ?_
  try simp only [Act.put, List.setIfInBounds_toArray, List.set_cons_zero, List.set_cons_succ]
  refine wpAnyH_ready (rs := [21]) (by kernel_rfl) (by simp) ?_
  refine (AllReadyH.cons (o := { dst := some 45, op := Op.buildSlice 31 1 #[(0, Operand.const (Value.int IntKind.u8 2))], type := 31, pos := "outright.go:96", after := #[{ on := 19, ground := Ground.guard }], guard := some (19, false) }) rfl (fun K hK => ?_) AllReadyH.nil)
  go_simp
  have twS : Src (w4.alloc (.cells (ints .u8 ([2] ++ [])).toArray 5)) (some ⟨w4.heap.size, 0, none⟩) 1 [2] := src_row (hnew w4 (.cells (ints .u8 ([2] ++ [])).toArray 5)) 1 (by simp) (by simp [maxLen])
  refine hK.out _ _ (DR.other hHeld _) (fun hHeld2 => ?_)
  clear hK K hHeld
  have hHeld := hHeld2
  clear hHeld2
  try simp only [Act.put, List.setIfInBounds_toArray, List.set_cons_zero, List.set_cons_succ]
  refine wpAnyH_ready (rs := [22]) (by kernel_rfl) (by simp) ?_
  refine (AllReadyH.cons (o := { dst := some 46, op := Op.call { callee := Callee.value (Operand.func 10), args := #[Operand.tmp 45], argTypes := #[31] }, type := 24, pos := "outright.go:96", after := #[{ on := 21, ground := Ground.data }, { on := 19, ground := Ground.chain }, { on := 19, ground := Ground.guard }], guard := some (19, false) }) rfl (fun K hK => ?_) AllReadyH.nil)
  go_simp
  go_at_call 10
  refine (dsum_any _ [2] _ 1 twS (DR.glob hHeld hG) (by simp)).mono ?_
  rintro e w4 ⟨rfl, hb4⟩
  go_wp2_with fail
  refine hK.out _ _ (DR.call hHeld hb4) (fun hHeld2 => ?_)
  clear hK K hHeld
  have hHeld := hHeld2
  clear hHeld2
  try simp only [Act.put, List.setIfInBounds_toArray, List.set_cons_zero, List.set_cons_succ]
  refine wpAnyH_ready (rs := [24]) (by kernel_rfl) (by simp) ?_
  refine (AllReadyH.cons (o := { dst := some 48, op := Op.call { callee := Callee.value (Operand.func 9), args := #[Operand.tmp 46, Operand.tmp 47], argTypes := #[24, 3] }, type := 24, pos := "outright.go:96", after := #[{ on := 22, ground := Ground.data }, { on := 23, ground := Ground.data }, { on := 22, ground := Ground.chain }, { on := 19, ground := Ground.guard }], guard := some (19, false) }) rfl (fun K hK => ?_) AllReadyH.nil)
  go_simp
  go_at_call 9
  refine (cutD_any (sha ([2])) (sha_len _) k _).mono ?_
  rintro e w4 ⟨rfl, hb4⟩
  rw [HZ.out]
  go_wp2_with fail
  refine hK.out _ _ (DR.call hHeld hb4) (fun hHeld2 => ?_)
  clear hK K hHeld
  have hHeld := hHeld2
  clear hHeld2
  try simp only [Act.put, List.setIfInBounds_toArray, List.set_cons_zero, List.set_cons_succ]
  refine wpAnyH_take (i := 25) (oi := { dst := some 49, op := Op.binOp BinOp.neq 24 (Operand.tmp 44) (Operand.tmp 48) 24, type := 4, pos := "outright.go:96", after := #[{ on := 20, ground := Ground.data }, { on := 24, ground := Ground.data }, { on := 19, ground := Ground.guard }], guard := some (19, false) }) (v := .bool false) rfl (by kernel_rfl) (by kernel_rfl) (by kernel_rfl) (fun _ _ _ h => h) (Or.inl ⟨by rfl, by intro w hS; go_simp⟩) hHeld ?_
  try simp only [Act.put, List.setIfInBounds_toArray, List.set_cons_zero, List.set_cons_succ]
  refine wpAnyH_take (i := 26) (oi := { dst := some 50, op := Op.pick (Operand.tmp 43) (Operand.const (Value.bool true)) (Operand.tmp 49), type := 4, pos := "outright.go:96", after := #[{ on := 19, ground := Ground.data }, { on := 25, ground := Ground.data }], guard := none }) (v := .bool false) rfl (by kernel_rfl) (by kernel_rfl) (by kernel_rfl) (fun _ _ _ h => h) (Or.inl ⟨by rfl, by intro w hS; go_simp⟩) hHeld ?_
  try simp only [Act.put, List.setIfInBounds_toArray, List.set_cons_zero, List.set_cons_succ]
  refine wpAnyH_done (by kernel_rfl) ?_ _
  refine NoPanic.normal ?_
  have d4 := hHeld
  clear hHeld lfS brS twS d3
  have q0 := d4.row (.tail _ (.tail _ (.tail _ (.tail _ (.tail _ (.head _))))))
  go_wp2_with (first | refine wpList_load_row rfl 33 _ rfl _ rfl 33 _ _ _ q0 Tryd.underlying33 rfl (by rw [ints_size, hk]; rfl) ?_)
  refine (leafText_any _ ks vs hk sp cap (d4.src hS) hnil hlen).mono ?_
  rintro e w9 ⟨v, rfl, hO9, hb9⟩
  obtain ⟨lfs, lfc, rfl, -, -⟩ := hO9.form
  rw [HLT.out]
  have d5 := d4.call hb9
  have q6 := d5.row (.head _)
  clear d4 hb9 q0 hO9
  go_wp2_with (first | refine wpList_load_row_w (by rfl) 24 _ (by rfl) _ (by rfl) 24 _ _ _ q6 Tryd.underlying24 rfl (by rw [ints_size, hZ]; rfl) ?_ | (refine wpList_zero_w (by rfl) 24 (by rfl) _ built_zeroD ?_))
  clear q6
  generalize w9 = wq at *
  refine wp_region_noPanic ?_
  refine wp_region_held_drew (S := (fun w' => DR w w' [(b6, Z, 24), (b4, Y, 24), (b2, X, 24), (w.heap.size + 1 + 1, rs, 24), (w.heap.size + 1, ls, 24), (w.heap.size, ks, 33)])) (by kernel_rfl) d5.drew (fun hHeld => ?_)
  refine wpAnyH_take (i := 0) (oi := { dst := some 68, op := Op.load 24 (Operand.tmp 11), type := 24, pos := "outright.go:102", after := #[], guard := none }) (v := .agg (ints .u8 X).toArray) rfl (by kernel_rfl) (by kernel_rfl) (by kernel_rfl) (fun _ _ _ h => h) (yieldsIf_load_mid (by rfl) 24 _ rfl b2 (0) rfl (ints .u8 X) _ (fun w hS => (DR.rng hS (.tail _ (.tail _ (.head _))))) Tryd.underlying24 rfl (by rw [ints_len, hX]; rfl)) hHeld ?_
  try simp only [Act.put, List.setIfInBounds_toArray, List.set_cons_zero, List.set_cons_succ]
  refine wpAnyH_take (i := 1) (oi := { dst := some 69, op := Op.move (Operand.tmp 0), type := 3, pos := "outright.go:102", after := #[], guard := none }) (v := .int .i64 k) rfl (by kernel_rfl) (by kernel_rfl) (by kernel_rfl) (fun _ _ _ h => h) (Or.inl ⟨by rfl, by intro w hS; go_simp⟩) hHeld ?_
  try simp only [Act.put, List.setIfInBounds_toArray, List.set_cons_zero, List.set_cons_succ]
  refine wpAnyH_take (i := 3) (oi := { dst := some 71, op := Op.load 24 (Operand.tmp 11), type := 24, pos := "outright.go:102", after := #[], guard := none }) (v := .agg (ints .u8 X).toArray) rfl (by kernel_rfl) (by kernel_rfl) (by kernel_rfl) (fun _ _ _ h => h) (yieldsIf_load_mid (by rfl) 24 _ rfl b2 (0) rfl (ints .u8 X) _ (fun w hS => (DR.rng hS (.tail _ (.tail _ (.head _))))) Tryd.underlying24 rfl (by rw [ints_len, hX]; rfl)) hHeld ?_
  try simp only [Act.put, List.setIfInBounds_toArray, List.set_cons_zero, List.set_cons_succ]
  refine wpAnyH_ready (rs := [2]) (by kernel_rfl) (by simp) ?_
  refine (AllReadyH.cons (o := { dst := some 70, op := Op.call { callee := Callee.value (Operand.func 9), args := #[Operand.tmp 68, Operand.tmp 69], argTypes := #[24, 3] }, type := 24, pos := "outright.go:102", after := #[{ on := 0, ground := Ground.data }, { on := 1, ground := Ground.data }], guard := none }) rfl (fun K hK => ?_) AllReadyH.nil)
  go_simp
  go_at_call 9
  refine (cutD_any X hX k _).mono ?_
  rintro e w4 ⟨rfl, hb4⟩
  rw [HXc.out]
  go_wp2_with fail
  refine hK.out _ _ (DR.call hHeld hb4) (fun hHeld2 => ?_)
  clear hK K hHeld
  have hHeld := hHeld2
  clear hHeld2
  try simp only [Act.put, List.setIfInBounds_toArray, List.set_cons_zero, List.set_cons_succ]
  refine wpAnyH_take (i := 4) (oi := { dst := some 72, op := Op.binOp BinOp.eql 24 (Operand.tmp 70) (Operand.tmp 71) 24, type := 4, pos := "outright.go:102", after := #[{ on := 2, ground := Ground.data }, { on := 3, ground := Ground.data }], guard := none }) (v := .bool true) rfl (by kernel_rfl) (by kernel_rfl) (by kernel_rfl) (fun _ _ _ h => h) (Or.inl ⟨by rfl, by intro w hS; go_simp⟩) hHeld ?_
  try simp only [Act.put, List.setIfInBounds_toArray, List.set_cons_zero, List.set_cons_succ]
  refine wpAnyH_take (i := 5) (oi := { dst := some 73, op := Op.move (Operand.tmp 72), type := 4, pos := "outright.go:102", after := #[{ on := 4, ground := Ground.data }, { on := 2, ground := Ground.chain }], guard := none }) (v := .bool true) rfl (by kernel_rfl) (by kernel_rfl) (by kernel_rfl) (fun _ _ _ h => h) (Or.inl ⟨by rfl, by intro w hS; go_simp⟩) hHeld ?_
  try simp only [Act.put, List.setIfInBounds_toArray, List.set_cons_zero, List.set_cons_succ]
  refine wpAnyH_take (i := 6) (oi := { dst := some 74, op := Op.load 24 (Operand.tmp 12), type := 24, pos := "outright.go:102", after := #[{ on := 5, ground := Ground.guard }], guard := some (5, true) }) (v := .agg (ints .u8 Y).toArray) rfl (by kernel_rfl) (by kernel_rfl) (by kernel_rfl) (fun _ _ _ h => h) (yieldsIf_load_mid (by rfl) 24 _ rfl b4 (0) rfl (ints .u8 Y) _ (fun w hS => (DR.rng hS (.tail _ (.head _)))) Tryd.underlying24 rfl (by rw [ints_len, hY]; rfl)) hHeld ?_
  try simp only [Act.put, List.setIfInBounds_toArray, List.set_cons_zero, List.set_cons_succ]
  refine wpAnyH_take (i := 7) (oi := { dst := some 75, op := Op.move (Operand.tmp 0), type := 3, pos := "outright.go:102", after := #[{ on := 5, ground := Ground.guard }], guard := some (5, true) }) (v := .int .i64 k) rfl (by kernel_rfl) (by kernel_rfl) (by kernel_rfl) (fun _ _ _ h => h) (Or.inl ⟨by rfl, by intro w hS; go_simp⟩) hHeld ?_
  try simp only [Act.put, List.setIfInBounds_toArray, List.set_cons_zero, List.set_cons_succ]
  refine wpAnyH_take (i := 9) (oi := { dst := some 77, op := Op.load 24 (Operand.tmp 12), type := 24, pos := "outright.go:102", after := #[{ on := 5, ground := Ground.guard }], guard := some (5, true) }) (v := .agg (ints .u8 Y).toArray) rfl (by kernel_rfl) (by kernel_rfl) (by kernel_rfl) (fun _ _ _ h => h) (yieldsIf_load_mid (by rfl) 24 _ rfl b4 (0) rfl (ints .u8 Y) _ (fun w hS => (DR.rng hS (.tail _ (.head _)))) Tryd.underlying24 rfl (by rw [ints_len, hY]; rfl)) hHeld ?_
  try simp only [Act.put, List.setIfInBounds_toArray, List.set_cons_zero, List.set_cons_succ]
  refine wpAnyH_ready (rs := [8]) (by kernel_rfl) (by simp) ?_
  refine (AllReadyH.cons (o := { dst := some 76, op := Op.call { callee := Callee.value (Operand.func 9), args := #[Operand.tmp 74, Operand.tmp 75], argTypes := #[24, 3] }, type := 24, pos := "outright.go:102", after := #[{ on := 6, ground := Ground.data }, { on := 7, ground := Ground.data }, { on := 5, ground := Ground.chain }, { on := 5, ground := Ground.guard }], guard := some (5, true) }) rfl (fun K hK => ?_) AllReadyH.nil)
  go_simp
  go_at_call 9
  refine (cutD_any Y hY k _).mono ?_
  rintro e w4 ⟨rfl, hb4⟩
  rw [HYc.out]
  go_wp2_with fail
  refine hK.out _ _ (DR.call hHeld hb4) (fun hHeld2 => ?_)
  clear hK K hHeld
  have hHeld := hHeld2
  clear hHeld2
  try simp only [Act.put, List.setIfInBounds_toArray, List.set_cons_zero, List.set_cons_succ]
  refine wpAnyH_take (i := 10) (oi := { dst := some 78, op := Op.binOp BinOp.eql 24 (Operand.tmp 76) (Operand.tmp 77) 24, type := 4, pos := "outright.go:102", after := #[{ on := 8, ground := Ground.data }, { on := 9, ground := Ground.data }, { on := 5, ground := Ground.guard }], guard := some (5, true) }) (v := .bool true) rfl (by kernel_rfl) (by kernel_rfl) (by kernel_rfl) (fun _ _ _ h => h) (Or.inl ⟨by rfl, by intro w hS; go_simp⟩) hHeld ?_
  try simp only [Act.put, List.setIfInBounds_toArray, List.set_cons_zero, List.set_cons_succ]
  refine wpAnyH_take (i := 11) (oi := { dst := some 79, op := Op.pick (Operand.tmp 73) (Operand.tmp 78) (Operand.const (Value.bool false)), type := 4, pos := "outright.go:102", after := #[{ on := 5, ground := Ground.data }, { on := 10, ground := Ground.data }], guard := none }) (v := .bool true) rfl (by kernel_rfl) (by kernel_rfl) (by kernel_rfl) (fun _ _ _ h => h) (Or.inl ⟨by rfl, by intro w hS; go_simp⟩) hHeld ?_
  try simp only [Act.put, List.setIfInBounds_toArray, List.set_cons_zero, List.set_cons_succ]
  refine wpAnyH_take (i := 12) (oi := { dst := some 80, op := Op.move (Operand.tmp 79), type := 4, pos := "outright.go:102", after := #[{ on := 11, ground := Ground.data }, { on := 8, ground := Ground.chain }], guard := none }) (v := .bool true) rfl (by kernel_rfl) (by kernel_rfl) (by kernel_rfl) (fun _ _ _ h => h) (Or.inl ⟨by rfl, by intro w hS; go_simp⟩) hHeld ?_
  try simp only [Act.put, List.setIfInBounds_toArray, List.set_cons_zero, List.set_cons_succ]
  refine wpAnyH_take (i := 13) (oi := { dst := some 81, op := Op.move (Operand.tmp 0), type := 3, pos := "outright.go:102", after := #[{ on := 12, ground := Ground.guard }], guard := some (12, true) }) (v := .int .i64 k) rfl (by kernel_rfl) (by kernel_rfl) (by kernel_rfl) (fun _ _ _ h => h) (Or.inl ⟨by rfl, by intro w hS; go_simp⟩) hHeld ?_
  try simp only [Act.put, List.setIfInBounds_toArray, List.set_cons_zero, List.set_cons_succ]
  refine wpAnyH_take (i := 14) (oi := { dst := some 82, op := Op.load 24 (Operand.tmp 8), type := 24, pos := "outright.go:102", after := #[{ on := 12, ground := Ground.guard }], guard := some (12, true) }) (v := .agg (ints .u8 ls).toArray) rfl (by kernel_rfl) (by kernel_rfl) (by kernel_rfl) (fun _ _ _ h => h) (yieldsIf_load_mid (by rfl) 24 _ rfl (w.heap.size + 1) (0) rfl (ints .u8 ls) _ (fun w hS => (DR.rng hS (.tail _ (.tail _ (.tail _ (.tail _ (.head _))))))) Tryd.underlying24 rfl (by rw [ints_len, hl]; rfl)) hHeld ?_
  try simp only [Act.put, List.setIfInBounds_toArray, List.set_cons_zero, List.set_cons_succ]
  refine wpAnyH_take (i := 15) (oi := { dst := some 83, op := Op.move (Operand.tmp 0), type := 3, pos := "outright.go:102", after := #[{ on := 12, ground := Ground.guard }], guard := some (12, true) }) (v := .int .i64 k) rfl (by kernel_rfl) (by kernel_rfl) (by kernel_rfl) (fun _ _ _ h => h) (Or.inl ⟨by rfl, by intro w hS; go_simp⟩) hHeld ?_
  try simp only [Act.put, List.setIfInBounds_toArray, List.set_cons_zero, List.set_cons_succ]
  refine wpAnyH_take (i := 17) (oi := { dst := some 85, op := Op.load 24 (Operand.tmp 9), type := 24, pos := "outright.go:102", after := #[{ on := 12, ground := Ground.guard }], guard := some (12, true) }) (v := .agg (ints .u8 rs).toArray) rfl (by kernel_rfl) (by kernel_rfl) (by kernel_rfl) (fun _ _ _ h => h) (yieldsIf_load_mid (by rfl) 24 _ rfl (w.heap.size + 1 + 1) (0) rfl (ints .u8 rs) _ (fun w hS => (DR.rng hS (.tail _ (.tail _ (.tail _ (.head _)))))) Tryd.underlying24 rfl (by rw [ints_len, hr]; rfl)) hHeld ?_
  try simp only [Act.put, List.setIfInBounds_toArray, List.set_cons_zero, List.set_cons_succ]
  refine wpAnyH_take (i := 18) (oi := { dst := some 86, op := Op.move (Operand.tmp 0), type := 3, pos := "outright.go:102", after := #[{ on := 12, ground := Ground.guard }], guard := some (12, true) }) (v := .int .i64 k) rfl (by kernel_rfl) (by kernel_rfl) (by kernel_rfl) (fun _ _ _ h => h) (Or.inl ⟨by rfl, by intro w hS; go_simp⟩) hHeld ?_
  try simp only [Act.put, List.setIfInBounds_toArray, List.set_cons_zero, List.set_cons_succ]
  refine wpAnyH_take (i := 21) (oi := { dst := some 89, op := Op.load 24 (Operand.tmp 12), type := 24, pos := "outright.go:102", after := #[{ on := 12, ground := Ground.guard }], guard := some (12, true) }) (v := .agg (ints .u8 Y).toArray) rfl (by kernel_rfl) (by kernel_rfl) (by kernel_rfl) (fun _ _ _ h => h) (yieldsIf_load_mid (by rfl) 24 _ rfl b4 (0) rfl (ints .u8 Y) _ (fun w hS => (DR.rng hS (.tail _ (.head _)))) Tryd.underlying24 rfl (by rw [ints_len, hY]; rfl)) hHeld ?_
  try simp only [Act.put, List.setIfInBounds_toArray, List.set_cons_zero, List.set_cons_succ]
  refine wpAnyH_ready (rs := [16]) (by kernel_rfl) (by simp) ?_
  refine (AllReadyH.cons (o := { dst := some 84, op := Op.call { callee := Callee.value (Operand.func 9), args := #[Operand.tmp 82, Operand.tmp 83], argTypes := #[24, 3] }, type := 24, pos := "outright.go:102", after := #[{ on := 14, ground := Ground.data }, { on := 15, ground := Ground.data }, { on := 12, ground := Ground.chain }, { on := 12, ground := Ground.guard }], guard := some (12, true) }) rfl (fun K hK => ?_) AllReadyH.nil)
  go_simp
  go_at_call 9
  refine (cutD_any ls hl k _).mono ?_
  rintro e w4 ⟨rfl, hb4⟩
  go_wp2_with fail
  refine hK.out _ _ (DR.call hHeld hb4) (fun hHeld2 => ?_)
  clear hK K hHeld
  have hHeld := hHeld2
  clear hHeld2
  try simp only [Act.put, List.setIfInBounds_toArray, List.set_cons_zero, List.set_cons_succ]
  refine wpAnyH_ready (rs := [19]) (by kernel_rfl) (by simp) ?_
  refine (AllReadyH.cons (o := { dst := some 87, op := Op.call { callee := Callee.value (Operand.func 9), args := #[Operand.tmp 85, Operand.tmp 86], argTypes := #[24, 3] }, type := 24, pos := "outright.go:102", after := #[{ on := 17, ground := Ground.data }, { on := 18, ground := Ground.data }, { on := 16, ground := Ground.chain }, { on := 12, ground := Ground.guard }], guard := some (12, true) }) rfl (fun K hK => ?_) AllReadyH.nil)
  go_simp
  go_at_call 9
  refine (cutD_any rs hr k _).mono ?_
  rintro e w4 ⟨rfl, hb4⟩
  go_wp2_with fail
  refine hK.out _ _ (DR.call hHeld hb4) (fun hHeld2 => ?_)
  clear hK K hHeld
  have hHeld := hHeld2
  clear hHeld2
  try simp only [Act.put, List.setIfInBounds_toArray, List.set_cons_zero, List.set_cons_succ]
  refine wpAnyH_ready (rs := [20]) (by kernel_rfl) (by simp) ?_
  refine (AllReadyH.cons (o := { dst := some 88, op := Op.call { callee := Callee.value (Operand.func 8), args := #[Operand.tmp 81, Operand.tmp 84, Operand.tmp 87], argTypes := #[3, 24, 24] }, type := 24, pos := "outright.go:102", after := #[{ on := 13, ground := Ground.data }, { on := 16, ground := Ground.data }, { on := 19, ground := Ground.data }, { on := 19, ground := Ground.chain }, { on := 12, ground := Ground.guard }], guard := some (12, true) }) rfl (fun K hK => ?_) AllReadyH.nil)
  go_simp
  go_at_call 8
  refine (KB2.out _ (DR.glob hHeld hG)).mono ?_
  rintro e w4 ⟨rfl, hb4⟩
  go_wp2_with fail
  refine hK.out _ _ (DR.call hHeld hb4) (fun hHeld2 => ?_)
  clear hK K hHeld
  have hHeld := hHeld2
  clear hHeld2
  try simp only [Act.put, List.setIfInBounds_toArray, List.set_cons_zero, List.set_cons_succ]
  refine wpAnyH_take (i := 22) (oi := { dst := some 90, op := Op.binOp BinOp.eql 24 (Operand.tmp 88) (Operand.tmp 89) 24, type := 4, pos := "outright.go:102", after := #[{ on := 20, ground := Ground.data }, { on := 21, ground := Ground.data }, { on := 12, ground := Ground.guard }], guard := some (12, true) }) (v := .bool true) rfl (by kernel_rfl) (by kernel_rfl) (by kernel_rfl) (fun _ _ _ h => h) (Or.inl ⟨by rfl, by intro w hS; go_simp⟩) hHeld ?_
  try simp only [Act.put, List.setIfInBounds_toArray, List.set_cons_zero, List.set_cons_succ]
  refine wpAnyH_take (i := 23) (oi := { dst := some 91, op := Op.pick (Operand.tmp 80) (Operand.tmp 90) (Operand.const (Value.bool false)), type := 4, pos := "outright.go:102", after := #[{ on := 12, ground := Ground.data }, { on := 22, ground := Ground.data }], guard := none }) (v := .bool true) rfl (by kernel_rfl) (by kernel_rfl) (by kernel_rfl) (fun _ _ _ h => h) (Or.inl ⟨by rfl, by intro w hS; go_simp⟩) hHeld ?_
  try simp only [Act.put, List.setIfInBounds_toArray, List.set_cons_zero, List.set_cons_succ]
  refine wpAnyH_take (i := 24) (oi := { dst := some 10, op := Op.assign (Operand.tmp 91), type := 4, pos := "outright.go:102", after := #[{ on := 23, ground := Ground.data }, { on := 20, ground := Ground.chain }, { on := 0, ground := Ground.phase }, { on := 1, ground := Ground.phase }, { on := 2, ground := Ground.phase }, { on := 3, ground := Ground.phase }, { on := 4, ground := Ground.phase }, { on := 5, ground := Ground.phase }, { on := 6, ground := Ground.phase }, { on := 7, ground := Ground.phase }, { on := 8, ground := Ground.phase }, { on := 9, ground := Ground.phase }, { on := 10, ground := Ground.phase }, { on := 11, ground := Ground.phase }, { on := 12, ground := Ground.phase }, { on := 13, ground := Ground.phase }, { on := 14, ground := Ground.phase }, { on := 15, ground := Ground.phase }, { on := 16, ground := Ground.phase }, { on := 17, ground := Ground.phase }, { on := 18, ground := Ground.phase }, { on := 19, ground := Ground.phase }, { on := 20, ground := Ground.phase }, { on := 21, ground := Ground.phase }, { on := 22, ground := Ground.phase }, { on := 23, ground := Ground.phase }], guard := none }) (v := .bool true) rfl (by kernel_rfl) (by kernel_rfl) (by kernel_rfl) (fun _ _ _ h => h) (Or.inl ⟨by rfl, by intro w hS; go_simp⟩) hHeld ?_
  try simp only [Act.put, List.setIfInBounds_toArray, List.set_cons_zero, List.set_cons_succ]
  refine wpAnyH_done (by kernel_rfl) ?_ _
  refine NoPanic.normal ?_
  go_wp2
  go_ret
  exact ⟨rfl, hHeld.1⟩
set_option maxRecDepth 100000 in
set_option maxHeartbeats 4000000 in
theorem hash_hi (w : World) (hG : Glob w) (k : Int) (hk32 : 32 ≤ k) (ks vs ls rs : List Int) (hk : ks.length = 32) (hl : ls.length = 32) (hr : rs.length = 32) (sp : Option Addr) (cap : Nat) (hS : Src w sp cap vs) (hnil : sp = none → cap = 0) (hlen : vs.length ≤ 140737488351232) :
    Calls Tryd.prog 4 #[.int .i64 k, .agg (ints .u8 ks).toArray, .slice sp vs.length cap, .agg (ints .u8 ls).toArray, .agg (ints .u8 rs).toArray] w fun e w' => e = .returned (.bool true) ∧ Below w.heap.size w w' := by
  have d0 := (((DR.nil w).alloc ks 33).alloc ls 24).alloc rs 24
  rw [show ((w.alloc (.cells (ints .u8 ks).toArray 33)).alloc (.cells (ints .u8 ls).toArray 24)).heap.size = w.heap.size + 1 + 1 by simp, show (w.alloc (.cells (ints .u8 ks).toArray 33)).heap.size = w.heap.size + 1 by simp] at d0
  have r0 := d0.row (.tail _ (.tail _ (.head _)))
  have r1 := d0.row (.tail _ (.head _))
  have r2 := d0.row (.head _)
  have hX := leafD_len k ks vs
  have hY := branchD_len k ls rs
  have hZ := emptyD_len k 0
  have HX := hid (show cutZ (sha (leafT ks vs)) (kept k) = leafD k ks vs from rfl)
  have HY := hid (show cutZ (sha (branchT (kept k) ls rs)) (kept k) = branchD k ls rs from rfl)
  have HZ := hid (show cutZ (sha [2]) (kept k) = emptyD k 0 from rfl)
  have HXc := hid (cut_leafD k ks vs)
  have HYc := hid (cut_branchD k ls rs)
  have HYb := hid (branchD_cut k ls rs hl hr)
  have hCl := cutZ_len ls (kept k) hl
  have hCr := cutZ_len rs (kept k) hr
  have HLT := hid (show (leafT ks vs).length = 33 + vs.length by simp [leafT, hk]; omega)
  have KL := hid (fun w1 (hG1 : Glob w1) (hS1 : Src w1 sp cap vs) => leaf_any w1 hG1 k ks vs hk sp cap hS1 hnil hlen)
  have KB := hid (fun w1 (hG1 : Glob w1) => branch_any w1 hG1 k ls rs hl hr)
  have KB2 := hid (fun w1 (hG1 : Glob w1) => branch_to w1 hG1 k (cutZ ls (kept k)) (cutZ rs (kept k)) (branchD k ls rs) hCl hCr HYb.out)
  have KE := hid (fun w1 (hG1 : Glob w1) => empty_to w1 hG1 k 0 (emptyD k 0) rfl)
  have g24 := Tryd.guardD
  have qN := eqD_ne (emptyD k 0) z32 hZ rfl (by show cutZ (sha [2]) (kept k) ≠ z32; rw [show kept k = 32 by unfold kept; omega, cutZ_full _ (sha_len _)]; exact sha2_ne)
  generalize leafD k ks vs = X at *
  generalize branchD k ls rs = Y at *
  generalize emptyD k 0 = Z at *
  have qX := eqD_self X hX
  have qY := eqD_self Y hY
  have qZ := eqD_self Z hZ
  go_enter Tryd.func4, Tryd.ntmps4
  go_wp2_with (first | refine wpList_load_row rfl 33 _ rfl _ rfl 33 _ _ _ r0 Tryd.underlying33 rfl (by rw [ints_size, hk]; rfl) ?_)
  generalize ((w.alloc (.cells (ints .u8 ks).toArray 33)).alloc (.cells (ints .u8 ls).toArray 24)).alloc (.cells (ints .u8 rs).toArray 24) = w1 at *
  refine (KL.out w1 (d0.glob hG) (d0.src hS)).mono ?_
  rintro e w2 ⟨rfl, hB2⟩
  have d1 := (d0.call hB2).alloc X 24
  have r0 := d1.row (.tail _ (.tail _ (.tail _ (.head _))))
  have r1 := d1.row (.tail _ (.tail _ (.head _)))
  have r2 := d1.row (.tail _ (.head _))
  clear d0 hB2 KL
  go_wp2_with (first | refine wpList_load_row rfl 24 _ rfl _ rfl 24 _ _ _ r1 Tryd.underlying24 rfl (by rw [ints_size, hl]; rfl) ?_ | refine wpList_load_row rfl 24 _ rfl _ rfl 24 _ _ _ r2 Tryd.underlying24 rfl (by rw [ints_size, hr]; rfl) ?_ | (refine wpList_store_row rfl 24 _ _ rfl _ _ rfl rfl 24 _ (by exact hnew _ (.cells (ints .u8 z32).toArray 24)) (by rw [Tryd.size24, ints_size, hX]) (by rw [ints_size, ints_size, hX]; rfl) (all_oneCell_toArray (ints_one .u8 _)) ?_; rw [setRow_alloc]))
  generalize hb2 : w2.heap.size = b2 at *
  generalize w2.alloc (.cells (ints .u8 X).toArray 24) = w3 at *
  clear hb2
  refine (KB.out w3 (d1.glob hG)).mono ?_
  rintro e w4 ⟨rfl, hB4⟩
  have d2 := (d1.call hB4).alloc Y 24
  clear d1 hB4 r0 r1 r2 KB
  go_wp2_with (first | (refine wpList_store_row rfl 24 _ _ rfl _ _ rfl rfl 24 _ (by exact hnew _ (.cells (ints .u8 z32).toArray 24)) (by rw [Tryd.size24, ints_size, hY]) (by rw [ints_size, ints_size, hY]; rfl) (all_oneCell_toArray (ints_one .u8 _)) ?_; rw [setRow_alloc]))
  generalize hb4 : w4.heap.size = b4 at *
  generalize w4.alloc (.cells (ints .u8 Y).toArray 24) = w5 at *
  clear hb4
  refine (KE.out w5 (d2.glob hG)).mono ?_
  rintro e w6 ⟨rfl, hB6⟩
  have d3 := (d2.call hB6).alloc Z 24
  clear d2 hB6 KE
  go_wp2_with (first | (refine wpList_store_row rfl 24 _ _ rfl _ _ rfl rfl 24 _ (by exact hnew _ (.cells (ints .u8 z32).toArray 24)) (by rw [Tryd.size24, ints_size, hZ]) (by rw [ints_size, ints_size, hZ]; rfl) (all_oneCell_toArray (ints_one .u8 _)) ?_; rw [setRow_alloc]))
  generalize hb6 : w6.heap.size = b6 at *
  generalize w6.alloc (.cells (ints .u8 Z).toArray 24) = w7 at *
  clear hb6
  refine wp_region_noPanic ?_
  refine wp_region_held_drew (S := (fun w' => DR w w' [(b6, Z, 24), (b4, Y, 24), (b2, X, 24), (w.heap.size + 1 + 1, rs, 24), (w.heap.size + 1, ls, 24), (w.heap.size, ks, 33)])) (by kernel_rfl) d3.drew (fun hHeld => ?_)
  refine wpAnyH_take (i := 0) (oi := { dst := some 24, op := Op.load 24 (Operand.tmp 11), type := 24, pos := "outright.go:96", after := #[], guard := none }) (v := .agg (ints .u8 X).toArray) rfl (by kernel_rfl) (by kernel_rfl) (by kernel_rfl) (fun _ _ _ h => h) (yieldsIf_load_mid (by rfl) 24 _ rfl b2 (0) rfl (ints .u8 X) _ (fun w hS => (DR.rng hS (.tail _ (.tail _ (.head _))))) Tryd.underlying24 rfl (by rw [ints_len, hX]; rfl)) hHeld ?_
  try simp only [Act.put, List.setIfInBounds_toArray, List.set_cons_zero, List.set_cons_succ]
  refine wpAnyH_take (i := 1) (oi := { dst := some 25, op := Op.load 33 (Operand.tmp 6), type := 33, pos := "outright.go:96", after := #[], guard := none }) (v := .agg (ints .u8 ks).toArray) rfl (by kernel_rfl) (by kernel_rfl) (by kernel_rfl) (fun _ _ _ h => h) (yieldsIf_load_mid (by rfl) 33 _ rfl w.heap.size (0) rfl (ints .u8 ks) _ (fun w hS => (DR.rng hS (.tail _ (.tail _ (.tail _ (.tail _ (.tail _ (.head _)))))))) Tryd.underlying33 rfl (by rw [ints_len, hk]; rfl)) hHeld ?_
  try simp only [Act.put, List.setIfInBounds_toArray, List.set_cons_zero, List.set_cons_succ]
  refine wpAnyH_take (i := 2) (oi := { dst := some 26, op := Op.move (Operand.tmp 2), type := 31, pos := "outright.go:96", after := #[], guard := none }) (v := .slice sp vs.length cap) rfl (by kernel_rfl) (by kernel_rfl) (by kernel_rfl) (fun _ _ _ h => h) (Or.inl ⟨by rfl, by intro w hS; go_simp⟩) hHeld ?_
  try simp only [Act.put, List.setIfInBounds_toArray, List.set_cons_zero, List.set_cons_succ]
  refine wpAnyH_take (i := 5) (oi := { dst := some 29, op := Op.move (Operand.tmp 0), type := 3, pos := "outright.go:96", after := #[], guard := none }) (v := .int .i64 k) rfl (by kernel_rfl) (by kernel_rfl) (by kernel_rfl) (fun _ _ _ h => h) (Or.inl ⟨by rfl, by intro w hS; go_simp⟩) hHeld ?_
  try simp only [Act.put, List.setIfInBounds_toArray, List.set_cons_zero, List.set_cons_succ]
  refine wpAnyH_ready (rs := [3]) (by kernel_rfl) (by simp) ?_
  refine (AllReadyH.cons (o := { dst := some 27, op := Op.call { callee := Callee.value (Operand.func 12), args := #[Operand.tmp 25, Operand.tmp 26], argTypes := #[33, 31] }, type := 31, pos := "outright.go:96", after := #[{ on := 1, ground := Ground.data }, { on := 2, ground := Ground.data }], guard := none }) rfl (fun K hK => ?_) AllReadyH.nil)
  go_simp
  go_at_call 12
  refine (leafText_any _ ks vs hk sp cap (DR.src hHeld hS) hnil hlen).mono ?_
  rintro e w4 ⟨v, rfl, hO, hb4⟩
  obtain ⟨lfs, lfc, rfl, lfS, lfn⟩ := hO.form
  go_wp2_with fail
  refine hK.out _ _ (DR.call hHeld hb4) (fun hHeld2 => ?_)
  clear hK K hHeld
  have hHeld := hHeld2
  clear hHeld2
  try simp only [Act.put, List.setIfInBounds_toArray, List.set_cons_zero, List.set_cons_succ]
  refine wpAnyH_ready (rs := [4]) (by kernel_rfl) (by simp) ?_
  refine (AllReadyH.cons (o := { dst := some 28, op := Op.call { callee := Callee.value (Operand.func 10), args := #[Operand.tmp 27], argTypes := #[31] }, type := 24, pos := "outright.go:96", after := #[{ on := 3, ground := Ground.data }, { on := 3, ground := Ground.chain }], guard := none }) rfl (fun K hK => ?_) AllReadyH.nil)
  go_simp
  go_at_call 10
  refine (dsum_any _ (leafT ks vs) lfs lfc lfS (DR.glob hHeld hG) (by rw [HLT.out]; omega)).mono ?_
  rintro e w4 ⟨rfl, hb4⟩
  go_wp2_with fail
  refine hK.out _ _ (DR.call hHeld hb4) (fun hHeld2 => ?_)
  clear hK K hHeld
  have hHeld := hHeld2
  clear hHeld2
  try simp only [Act.put, List.setIfInBounds_toArray, List.set_cons_zero, List.set_cons_succ]
  refine wpAnyH_ready (rs := [6]) (by kernel_rfl) (by simp) ?_
  refine (AllReadyH.cons (o := { dst := some 30, op := Op.call { callee := Callee.value (Operand.func 9), args := #[Operand.tmp 28, Operand.tmp 29], argTypes := #[24, 3] }, type := 24, pos := "outright.go:96", after := #[{ on := 4, ground := Ground.data }, { on := 5, ground := Ground.data }, { on := 4, ground := Ground.chain }], guard := none }) rfl (fun K hK => ?_) AllReadyH.nil)
  go_simp
  go_at_call 9
  refine (cutD_any (sha (leafT ks vs)) (sha_len _) k _).mono ?_
  rintro e w4 ⟨rfl, hb4⟩
  rw [HX.out]
  go_wp2_with fail
  refine hK.out _ _ (DR.call hHeld hb4) (fun hHeld2 => ?_)
  clear hK K hHeld
  have hHeld := hHeld2
  clear hHeld2
  try simp only [Act.put, List.setIfInBounds_toArray, List.set_cons_zero, List.set_cons_succ]
  refine wpAnyH_take (i := 7) (oi := { dst := some 31, op := Op.binOp BinOp.neq 24 (Operand.tmp 24) (Operand.tmp 30) 24, type := 4, pos := "outright.go:96", after := #[{ on := 0, ground := Ground.data }, { on := 6, ground := Ground.data }], guard := none }) (v := .bool false) rfl (by kernel_rfl) (by kernel_rfl) (by kernel_rfl) (fun _ _ _ h => h) (Or.inl ⟨by rfl, by intro w hS; go_simp⟩) hHeld ?_
  try simp only [Act.put, List.setIfInBounds_toArray, List.set_cons_zero, List.set_cons_succ]
  refine wpAnyH_take (i := 8) (oi := { dst := some 32, op := Op.move (Operand.tmp 31), type := 4, pos := "outright.go:96", after := #[{ on := 7, ground := Ground.data }, { on := 6, ground := Ground.chain }], guard := none }) (v := .bool false) rfl (by kernel_rfl) (by kernel_rfl) (by kernel_rfl) (fun _ _ _ h => h) (Or.inl ⟨by rfl, by intro w hS; go_simp⟩) hHeld ?_
  try simp only [Act.put, List.setIfInBounds_toArray, List.set_cons_zero, List.set_cons_succ]
  refine wpAnyH_take (i := 9) (oi := { dst := some 33, op := Op.load 24 (Operand.tmp 12), type := 24, pos := "outright.go:96", after := #[{ on := 8, ground := Ground.guard }], guard := some (8, false) }) (v := .agg (ints .u8 Y).toArray) rfl (by kernel_rfl) (by kernel_rfl) (by kernel_rfl) (fun _ _ _ h => h) (yieldsIf_load_mid (by rfl) 24 _ rfl b4 (0) rfl (ints .u8 Y) _ (fun w hS => (DR.rng hS (.tail _ (.head _)))) Tryd.underlying24 rfl (by rw [ints_len, hY]; rfl)) hHeld ?_
  try simp only [Act.put, List.setIfInBounds_toArray, List.set_cons_zero, List.set_cons_succ]
  refine wpAnyH_take (i := 10) (oi := { dst := some 34, op := Op.move (Operand.tmp 0), type := 3, pos := "outright.go:96", after := #[{ on := 8, ground := Ground.guard }], guard := some (8, false) }) (v := .int .i64 k) rfl (by kernel_rfl) (by kernel_rfl) (by kernel_rfl) (fun _ _ _ h => h) (Or.inl ⟨by rfl, by intro w hS; go_simp⟩) hHeld ?_
  try simp only [Act.put, List.setIfInBounds_toArray, List.set_cons_zero, List.set_cons_succ]
  refine wpAnyH_take (i := 11) (oi := { dst := some 35, op := Op.load 24 (Operand.tmp 8), type := 24, pos := "outright.go:96", after := #[{ on := 8, ground := Ground.guard }], guard := some (8, false) }) (v := .agg (ints .u8 ls).toArray) rfl (by kernel_rfl) (by kernel_rfl) (by kernel_rfl) (fun _ _ _ h => h) (yieldsIf_load_mid (by rfl) 24 _ rfl (w.heap.size + 1) (0) rfl (ints .u8 ls) _ (fun w hS => (DR.rng hS (.tail _ (.tail _ (.tail _ (.tail _ (.head _))))))) Tryd.underlying24 rfl (by rw [ints_len, hl]; rfl)) hHeld ?_
  try simp only [Act.put, List.setIfInBounds_toArray, List.set_cons_zero, List.set_cons_succ]
  refine wpAnyH_take (i := 12) (oi := { dst := some 36, op := Op.load 24 (Operand.tmp 9), type := 24, pos := "outright.go:96", after := #[{ on := 8, ground := Ground.guard }], guard := some (8, false) }) (v := .agg (ints .u8 rs).toArray) rfl (by kernel_rfl) (by kernel_rfl) (by kernel_rfl) (fun _ _ _ h => h) (yieldsIf_load_mid (by rfl) 24 _ rfl (w.heap.size + 1 + 1) (0) rfl (ints .u8 rs) _ (fun w hS => (DR.rng hS (.tail _ (.tail _ (.tail _ (.head _)))))) Tryd.underlying24 rfl (by rw [ints_len, hr]; rfl)) hHeld ?_
  try simp only [Act.put, List.setIfInBounds_toArray, List.set_cons_zero, List.set_cons_succ]
  refine wpAnyH_take (i := 15) (oi := { dst := some 39, op := Op.move (Operand.tmp 0), type := 3, pos := "outright.go:96", after := #[{ on := 8, ground := Ground.guard }], guard := some (8, false) }) (v := .int .i64 k) rfl (by kernel_rfl) (by kernel_rfl) (by kernel_rfl) (fun _ _ _ h => h) (Or.inl ⟨by rfl, by intro w hS; go_simp⟩) hHeld ?_
  try simp only [Act.put, List.setIfInBounds_toArray, List.set_cons_zero, List.set_cons_succ]
  refine wpAnyH_ready (rs := [13]) (by kernel_rfl) (by simp) ?_
  refine (AllReadyH.cons (o := { dst := some 37, op := Op.call { callee := Callee.value (Operand.func 13), args := #[Operand.tmp 34, Operand.tmp 35, Operand.tmp 36], argTypes := #[3, 24, 24] }, type := 31, pos := "outright.go:96", after := #[{ on := 10, ground := Ground.data }, { on := 11, ground := Ground.data }, { on := 12, ground := Ground.data }, { on := 8, ground := Ground.chain }, { on := 8, ground := Ground.guard }], guard := some (8, false) }) rfl (fun K hK => ?_) AllReadyH.nil)
  go_simp
  go_at_call 13
  refine (branchText_any _ k ls rs hl hr).mono ?_
  rintro e w4 ⟨v, rfl, hO, hb4⟩
  obtain ⟨brs, brc, rfl, brS, brn⟩ := hO.form
  go_wp2_with fail
  refine hK.out _ _ (DR.call hHeld hb4) (fun hHeld2 => ?_)
  clear hK K hHeld
  have hHeld := hHeld2
  clear hHeld2
  try simp only [Act.put, List.setIfInBounds_toArray, List.set_cons_zero, List.set_cons_succ]
  refine wpAnyH_ready (rs := [14]) (by kernel_rfl) (by simp) ?_
  refine (AllReadyH.cons (o := { dst := some 38, op := Op.call { callee := Callee.value (Operand.func 10), args := #[Operand.tmp 37], argTypes := #[31] }, type := 24, pos := "outright.go:96", after := #[{ on := 13, ground := Ground.data }, { on := 13, ground := Ground.chain }, { on := 8, ground := Ground.guard }], guard := some (8, false) }) rfl (fun K hK => ?_) AllReadyH.nil)
  go_simp
  go_at_call 10
  refine (dsum_any _ (branchT (kept k) ls rs) brs brc brS (DR.glob hHeld hG) (by have := kept_le k; simp only [branchT, List.length_cons, List.length_append, List.length_take]; omega)).mono ?_
  rintro e w4 ⟨rfl, hb4⟩
  go_wp2_with fail
  refine hK.out _ _ (DR.call hHeld hb4) (fun hHeld2 => ?_)
  clear hK K hHeld
  have hHeld := hHeld2
  clear hHeld2
  try simp only [Act.put, List.setIfInBounds_toArray, List.set_cons_zero, List.set_cons_succ]
  refine wpAnyH_ready (rs := [16]) (by kernel_rfl) (by simp) ?_
  refine (AllReadyH.cons (o := { dst := some 40, op := Op.call { callee := Callee.value (Operand.func 9), args := #[Operand.tmp 38, Operand.tmp 39], argTypes := #[24, 3] }, type := 24, pos := "outright.go:96", after := #[{ on := 14, ground := Ground.data }, { on := 15, ground := Ground.data }, { on := 14, ground := Ground.chain }, { on := 8, ground := Ground.guard }], guard := some (8, false) }) rfl (fun K hK => ?_) AllReadyH.nil)
  go_simp
  go_at_call 9
  refine (cutD_any (sha (branchT (kept k) ls rs)) (sha_len _) k _).mono ?_
  rintro e w4 ⟨rfl, hb4⟩
  rw [HY.out]
  go_wp2_with fail
  refine hK.out _ _ (DR.call hHeld hb4) (fun hHeld2 => ?_)
  clear hK K hHeld
  have hHeld := hHeld2
  clear hHeld2
  try simp only [Act.put, List.setIfInBounds_toArray, List.set_cons_zero, List.set_cons_succ]
  refine wpAnyH_take (i := 17) (oi := { dst := some 41, op := Op.binOp BinOp.neq 24 (Operand.tmp 33) (Operand.tmp 40) 24, type := 4, pos := "outright.go:96", after := #[{ on := 9, ground := Ground.data }, { on := 16, ground := Ground.data }, { on := 8, ground := Ground.guard }], guard := some (8, false) }) (v := .bool false) rfl (by kernel_rfl) (by kernel_rfl) (by kernel_rfl) (fun _ _ _ h => h) (Or.inl ⟨by rfl, by intro w hS; go_simp⟩) hHeld ?_
  try simp only [Act.put, List.setIfInBounds_toArray, List.set_cons_zero, List.set_cons_succ]
  refine wpAnyH_take (i := 18) (oi := { dst := some 42, op := Op.pick (Operand.tmp 32) (Operand.const (Value.bool true)) (Operand.tmp 41), type := 4, pos := "outright.go:96", after := #[{ on := 8, ground := Ground.data }, { on := 17, ground := Ground.data }], guard := none }) (v := .bool false) rfl (by kernel_rfl) (by kernel_rfl) (by kernel_rfl) (fun _ _ _ h => h) (Or.inl ⟨by rfl, by intro w hS; go_simp⟩) hHeld ?_
  try simp only [Act.put, List.setIfInBounds_toArray, List.set_cons_zero, List.set_cons_succ]
  refine wpAnyH_take (i := 19) (oi := { dst := some 43, op := Op.move (Operand.tmp 42), type := 4, pos := "outright.go:96", after := #[{ on := 18, ground := Ground.data }, { on := 16, ground := Ground.chain }], guard := none }) (v := .bool false) rfl (by kernel_rfl) (by kernel_rfl) (by kernel_rfl) (fun _ _ _ h => h) (Or.inl ⟨by rfl, by intro w hS; go_simp⟩) hHeld ?_
  try simp only [Act.put, List.setIfInBounds_toArray, List.set_cons_zero, List.set_cons_succ]
  refine wpAnyH_take (i := 20) (oi := { dst := some 44, op := Op.load 24 (Operand.tmp 13), type := 24, pos := "outright.go:96", after := #[{ on := 19, ground := Ground.guard }], guard := some (19, false) }) (v := .agg (ints .u8 Z).toArray) rfl (by kernel_rfl) (by kernel_rfl) (by kernel_rfl) (fun _ _ _ h => h) (yieldsIf_load_mid (by rfl) 24 _ rfl b6 (0) rfl (ints .u8 Z) _ (fun w hS => (DR.rng hS (.head _))) Tryd.underlying24 rfl (by rw [ints_len, hZ]; rfl)) hHeld ?_
  try simp only [Act.put, List.setIfInBounds_toArray, List.set_cons_zero, List.set_cons_succ]
  refine wpAnyH_take (i := 23) (oi := { dst := some 47, op := Op.move (Operand.tmp 0), type := 3, pos := "outright.go:96", after := #[{ on := 19, ground := Ground.guard }], guard := some (19, false) }) (v := .int .i64 k) rfl (by kernel_rfl) (by kernel_rfl) (by kernel_rfl) (fun _ _ _ h => h) (Or.inl ⟨by rfl, by intro w hS; go_simp⟩) hHeld ?_
  try simp only [Act.put, List.setIfInBounds_toArray, List.set_cons_zero, List.set_cons_succ]
  refine wpAnyH_ready (rs := [21]) (by kernel_rfl) (by simp) ?_
  refine (AllReadyH.cons (o := { dst := some 45, op := Op.buildSlice 31 1 #[(0, Operand.const (Value.int IntKind.u8 2))], type := 31, pos := "outright.go:96", after := #[{ on := 19, ground := Ground.guard }], guard := some (19, false) }) rfl (fun K hK => ?_) AllReadyH.nil)
  go_simp
  have twS : Src (w4.alloc (.cells (ints .u8 ([2] ++ [])).toArray 5)) (some ⟨w4.heap.size, 0, none⟩) 1 [2] := src_row (hnew w4 (.cells (ints .u8 ([2] ++ [])).toArray 5)) 1 (by simp) (by simp [maxLen])
  refine hK.out _ _ (DR.other hHeld _) (fun hHeld2 => ?_)
  clear hK K hHeld
  have hHeld := hHeld2
  clear hHeld2
  try simp only [Act.put, List.setIfInBounds_toArray, List.set_cons_zero, List.set_cons_succ]
  refine wpAnyH_ready (rs := [22]) (by kernel_rfl) (by simp) ?_
  refine (AllReadyH.cons (o := { dst := some 46, op := Op.call { callee := Callee.value (Operand.func 10), args := #[Operand.tmp 45], argTypes := #[31] }, type := 24, pos := "outright.go:96", after := #[{ on := 21, ground := Ground.data }, { on := 19, ground := Ground.chain }, { on := 19, ground := Ground.guard }], guard := some (19, false) }) rfl (fun K hK => ?_) AllReadyH.nil)
  go_simp
  go_at_call 10
  refine (dsum_any _ [2] _ 1 twS (DR.glob hHeld hG) (by simp)).mono ?_
  rintro e w4 ⟨rfl, hb4⟩
  go_wp2_with fail
  refine hK.out _ _ (DR.call hHeld hb4) (fun hHeld2 => ?_)
  clear hK K hHeld
  have hHeld := hHeld2
  clear hHeld2
  try simp only [Act.put, List.setIfInBounds_toArray, List.set_cons_zero, List.set_cons_succ]
  refine wpAnyH_ready (rs := [24]) (by kernel_rfl) (by simp) ?_
  refine (AllReadyH.cons (o := { dst := some 48, op := Op.call { callee := Callee.value (Operand.func 9), args := #[Operand.tmp 46, Operand.tmp 47], argTypes := #[24, 3] }, type := 24, pos := "outright.go:96", after := #[{ on := 22, ground := Ground.data }, { on := 23, ground := Ground.data }, { on := 22, ground := Ground.chain }, { on := 19, ground := Ground.guard }], guard := some (19, false) }) rfl (fun K hK => ?_) AllReadyH.nil)
  go_simp
  go_at_call 9
  refine (cutD_any (sha ([2])) (sha_len _) k _).mono ?_
  rintro e w4 ⟨rfl, hb4⟩
  rw [HZ.out]
  go_wp2_with fail
  refine hK.out _ _ (DR.call hHeld hb4) (fun hHeld2 => ?_)
  clear hK K hHeld
  have hHeld := hHeld2
  clear hHeld2
  try simp only [Act.put, List.setIfInBounds_toArray, List.set_cons_zero, List.set_cons_succ]
  refine wpAnyH_take (i := 25) (oi := { dst := some 49, op := Op.binOp BinOp.neq 24 (Operand.tmp 44) (Operand.tmp 48) 24, type := 4, pos := "outright.go:96", after := #[{ on := 20, ground := Ground.data }, { on := 24, ground := Ground.data }, { on := 19, ground := Ground.guard }], guard := some (19, false) }) (v := .bool false) rfl (by kernel_rfl) (by kernel_rfl) (by kernel_rfl) (fun _ _ _ h => h) (Or.inl ⟨by rfl, by intro w hS; go_simp⟩) hHeld ?_
  try simp only [Act.put, List.setIfInBounds_toArray, List.set_cons_zero, List.set_cons_succ]
  refine wpAnyH_take (i := 26) (oi := { dst := some 50, op := Op.pick (Operand.tmp 43) (Operand.const (Value.bool true)) (Operand.tmp 49), type := 4, pos := "outright.go:96", after := #[{ on := 19, ground := Ground.data }, { on := 25, ground := Ground.data }], guard := none }) (v := .bool false) rfl (by kernel_rfl) (by kernel_rfl) (by kernel_rfl) (fun _ _ _ h => h) (Or.inl ⟨by rfl, by intro w hS; go_simp⟩) hHeld ?_
  try simp only [Act.put, List.setIfInBounds_toArray, List.set_cons_zero, List.set_cons_succ]
  refine wpAnyH_done (by kernel_rfl) ?_ _
  refine NoPanic.normal ?_
  have d4 := hHeld
  clear hHeld lfS brS twS d3
  have q0 := d4.row (.tail _ (.tail _ (.tail _ (.tail _ (.tail _ (.head _))))))
  go_wp2_with (first | refine wpList_load_row rfl 33 _ rfl _ rfl 33 _ _ _ q0 Tryd.underlying33 rfl (by rw [ints_size, hk]; rfl) ?_)
  refine (leafText_any _ ks vs hk sp cap (d4.src hS) hnil hlen).mono ?_
  rintro e w9 ⟨v, rfl, hO9, hb9⟩
  obtain ⟨lfs, lfc, rfl, -, -⟩ := hO9.form
  rw [HLT.out]
  have d5 := d4.call hb9
  have q6 := d5.row (.head _)
  clear d4 hb9 q0 hO9
  go_wp2_with (first | refine wpList_load_row_w (by rfl) 24 _ (by rfl) _ (by rfl) 24 _ _ _ q6 Tryd.underlying24 rfl (by rw [ints_size, hZ]; rfl) ?_ | (refine wpList_zero_w (by rfl) 24 (by rfl) _ built_zeroD ?_))
  clear q6
  generalize w9 = wq at *
  refine wp_region_noPanic ?_
  refine wp_region_held_drew (S := (fun w' => DR w w' [(b6, Z, 24), (b4, Y, 24), (b2, X, 24), (w.heap.size + 1 + 1, rs, 24), (w.heap.size + 1, ls, 24), (w.heap.size, ks, 33)])) (by kernel_rfl) d5.drew (fun hHeld => ?_)
  refine wpAnyH_take (i := 0) (oi := { dst := some 68, op := Op.load 24 (Operand.tmp 11), type := 24, pos := "outright.go:102", after := #[], guard := none }) (v := .agg (ints .u8 X).toArray) rfl (by kernel_rfl) (by kernel_rfl) (by kernel_rfl) (fun _ _ _ h => h) (yieldsIf_load_mid (by rfl) 24 _ rfl b2 (0) rfl (ints .u8 X) _ (fun w hS => (DR.rng hS (.tail _ (.tail _ (.head _))))) Tryd.underlying24 rfl (by rw [ints_len, hX]; rfl)) hHeld ?_
  try simp only [Act.put, List.setIfInBounds_toArray, List.set_cons_zero, List.set_cons_succ]
  refine wpAnyH_take (i := 1) (oi := { dst := some 69, op := Op.move (Operand.tmp 0), type := 3, pos := "outright.go:102", after := #[], guard := none }) (v := .int .i64 k) rfl (by kernel_rfl) (by kernel_rfl) (by kernel_rfl) (fun _ _ _ h => h) (Or.inl ⟨by rfl, by intro w hS; go_simp⟩) hHeld ?_
  try simp only [Act.put, List.setIfInBounds_toArray, List.set_cons_zero, List.set_cons_succ]
  refine wpAnyH_take (i := 3) (oi := { dst := some 71, op := Op.load 24 (Operand.tmp 11), type := 24, pos := "outright.go:102", after := #[], guard := none }) (v := .agg (ints .u8 X).toArray) rfl (by kernel_rfl) (by kernel_rfl) (by kernel_rfl) (fun _ _ _ h => h) (yieldsIf_load_mid (by rfl) 24 _ rfl b2 (0) rfl (ints .u8 X) _ (fun w hS => (DR.rng hS (.tail _ (.tail _ (.head _))))) Tryd.underlying24 rfl (by rw [ints_len, hX]; rfl)) hHeld ?_
  try simp only [Act.put, List.setIfInBounds_toArray, List.set_cons_zero, List.set_cons_succ]
  refine wpAnyH_ready (rs := [2]) (by kernel_rfl) (by simp) ?_
  refine (AllReadyH.cons (o := { dst := some 70, op := Op.call { callee := Callee.value (Operand.func 9), args := #[Operand.tmp 68, Operand.tmp 69], argTypes := #[24, 3] }, type := 24, pos := "outright.go:102", after := #[{ on := 0, ground := Ground.data }, { on := 1, ground := Ground.data }], guard := none }) rfl (fun K hK => ?_) AllReadyH.nil)
  go_simp
  go_at_call 9
  refine (cutD_any X hX k _).mono ?_
  rintro e w4 ⟨rfl, hb4⟩
  rw [HXc.out]
  go_wp2_with fail
  refine hK.out _ _ (DR.call hHeld hb4) (fun hHeld2 => ?_)
  clear hK K hHeld
  have hHeld := hHeld2
  clear hHeld2
  try simp only [Act.put, List.setIfInBounds_toArray, List.set_cons_zero, List.set_cons_succ]
  refine wpAnyH_take (i := 4) (oi := { dst := some 72, op := Op.binOp BinOp.eql 24 (Operand.tmp 70) (Operand.tmp 71) 24, type := 4, pos := "outright.go:102", after := #[{ on := 2, ground := Ground.data }, { on := 3, ground := Ground.data }], guard := none }) (v := .bool true) rfl (by kernel_rfl) (by kernel_rfl) (by kernel_rfl) (fun _ _ _ h => h) (Or.inl ⟨by rfl, by intro w hS; go_simp⟩) hHeld ?_
  try simp only [Act.put, List.setIfInBounds_toArray, List.set_cons_zero, List.set_cons_succ]
  refine wpAnyH_take (i := 5) (oi := { dst := some 73, op := Op.move (Operand.tmp 72), type := 4, pos := "outright.go:102", after := #[{ on := 4, ground := Ground.data }, { on := 2, ground := Ground.chain }], guard := none }) (v := .bool true) rfl (by kernel_rfl) (by kernel_rfl) (by kernel_rfl) (fun _ _ _ h => h) (Or.inl ⟨by rfl, by intro w hS; go_simp⟩) hHeld ?_
  try simp only [Act.put, List.setIfInBounds_toArray, List.set_cons_zero, List.set_cons_succ]
  refine wpAnyH_take (i := 6) (oi := { dst := some 74, op := Op.load 24 (Operand.tmp 12), type := 24, pos := "outright.go:102", after := #[{ on := 5, ground := Ground.guard }], guard := some (5, true) }) (v := .agg (ints .u8 Y).toArray) rfl (by kernel_rfl) (by kernel_rfl) (by kernel_rfl) (fun _ _ _ h => h) (yieldsIf_load_mid (by rfl) 24 _ rfl b4 (0) rfl (ints .u8 Y) _ (fun w hS => (DR.rng hS (.tail _ (.head _)))) Tryd.underlying24 rfl (by rw [ints_len, hY]; rfl)) hHeld ?_
  try simp only [Act.put, List.setIfInBounds_toArray, List.set_cons_zero, List.set_cons_succ]
  refine wpAnyH_take (i := 7) (oi := { dst := some 75, op := Op.move (Operand.tmp 0), type := 3, pos := "outright.go:102", after := #[{ on := 5, ground := Ground.guard }], guard := some (5, true) }) (v := .int .i64 k) rfl (by kernel_rfl) (by kernel_rfl) (by kernel_rfl) (fun _ _ _ h => h) (Or.inl ⟨by rfl, by intro w hS; go_simp⟩) hHeld ?_
  try simp only [Act.put, List.setIfInBounds_toArray, List.set_cons_zero, List.set_cons_succ]
  refine wpAnyH_take (i := 9) (oi := { dst := some 77, op := Op.load 24 (Operand.tmp 12), type := 24, pos := "outright.go:102", after := #[{ on := 5, ground := Ground.guard }], guard := some (5, true) }) (v := .agg (ints .u8 Y).toArray) rfl (by kernel_rfl) (by kernel_rfl) (by kernel_rfl) (fun _ _ _ h => h) (yieldsIf_load_mid (by rfl) 24 _ rfl b4 (0) rfl (ints .u8 Y) _ (fun w hS => (DR.rng hS (.tail _ (.head _)))) Tryd.underlying24 rfl (by rw [ints_len, hY]; rfl)) hHeld ?_
  try simp only [Act.put, List.setIfInBounds_toArray, List.set_cons_zero, List.set_cons_succ]
  refine wpAnyH_ready (rs := [8]) (by kernel_rfl) (by simp) ?_
  refine (AllReadyH.cons (o := { dst := some 76, op := Op.call { callee := Callee.value (Operand.func 9), args := #[Operand.tmp 74, Operand.tmp 75], argTypes := #[24, 3] }, type := 24, pos := "outright.go:102", after := #[{ on := 6, ground := Ground.data }, { on := 7, ground := Ground.data }, { on := 5, ground := Ground.chain }, { on := 5, ground := Ground.guard }], guard := some (5, true) }) rfl (fun K hK => ?_) AllReadyH.nil)
  go_simp
  go_at_call 9
  refine (cutD_any Y hY k _).mono ?_
  rintro e w4 ⟨rfl, hb4⟩
  rw [HYc.out]
  go_wp2_with fail
  refine hK.out _ _ (DR.call hHeld hb4) (fun hHeld2 => ?_)
  clear hK K hHeld
  have hHeld := hHeld2
  clear hHeld2
  try simp only [Act.put, List.setIfInBounds_toArray, List.set_cons_zero, List.set_cons_succ]
  refine wpAnyH_take (i := 10) (oi := { dst := some 78, op := Op.binOp BinOp.eql 24 (Operand.tmp 76) (Operand.tmp 77) 24, type := 4, pos := "outright.go:102", after := #[{ on := 8, ground := Ground.data }, { on := 9, ground := Ground.data }, { on := 5, ground := Ground.guard }], guard := some (5, true) }) (v := .bool true) rfl (by kernel_rfl) (by kernel_rfl) (by kernel_rfl) (fun _ _ _ h => h) (Or.inl ⟨by rfl, by intro w hS; go_simp⟩) hHeld ?_
  try simp only [Act.put, List.setIfInBounds_toArray, List.set_cons_zero, List.set_cons_succ]
  refine wpAnyH_take (i := 11) (oi := { dst := some 79, op := Op.pick (Operand.tmp 73) (Operand.tmp 78) (Operand.const (Value.bool false)), type := 4, pos := "outright.go:102", after := #[{ on := 5, ground := Ground.data }, { on := 10, ground := Ground.data }], guard := none }) (v := .bool true) rfl (by kernel_rfl) (by kernel_rfl) (by kernel_rfl) (fun _ _ _ h => h) (Or.inl ⟨by rfl, by intro w hS; go_simp⟩) hHeld ?_
  try simp only [Act.put, List.setIfInBounds_toArray, List.set_cons_zero, List.set_cons_succ]
  refine wpAnyH_take (i := 12) (oi := { dst := some 80, op := Op.move (Operand.tmp 79), type := 4, pos := "outright.go:102", after := #[{ on := 11, ground := Ground.data }, { on := 8, ground := Ground.chain }], guard := none }) (v := .bool true) rfl (by kernel_rfl) (by kernel_rfl) (by kernel_rfl) (fun _ _ _ h => h) (Or.inl ⟨by rfl, by intro w hS; go_simp⟩) hHeld ?_
  try simp only [Act.put, List.setIfInBounds_toArray, List.set_cons_zero, List.set_cons_succ]
  refine wpAnyH_take (i := 13) (oi := { dst := some 81, op := Op.move (Operand.tmp 0), type := 3, pos := "outright.go:102", after := #[{ on := 12, ground := Ground.guard }], guard := some (12, true) }) (v := .int .i64 k) rfl (by kernel_rfl) (by kernel_rfl) (by kernel_rfl) (fun _ _ _ h => h) (Or.inl ⟨by rfl, by intro w hS; go_simp⟩) hHeld ?_
  try simp only [Act.put, List.setIfInBounds_toArray, List.set_cons_zero, List.set_cons_succ]
  refine wpAnyH_take (i := 14) (oi := { dst := some 82, op := Op.load 24 (Operand.tmp 8), type := 24, pos := "outright.go:102", after := #[{ on := 12, ground := Ground.guard }], guard := some (12, true) }) (v := .agg (ints .u8 ls).toArray) rfl (by kernel_rfl) (by kernel_rfl) (by kernel_rfl) (fun _ _ _ h => h) (yieldsIf_load_mid (by rfl) 24 _ rfl (w.heap.size + 1) (0) rfl (ints .u8 ls) _ (fun w hS => (DR.rng hS (.tail _ (.tail _ (.tail _ (.tail _ (.head _))))))) Tryd.underlying24 rfl (by rw [ints_len, hl]; rfl)) hHeld ?_
  try simp only [Act.put, List.setIfInBounds_toArray, List.set_cons_zero, List.set_cons_succ]
  refine wpAnyH_take (i := 15) (oi := { dst := some 83, op := Op.move (Operand.tmp 0), type := 3, pos := "outright.go:102", after := #[{ on := 12, ground := Ground.guard }], guard := some (12, true) }) (v := .int .i64 k) rfl (by kernel_rfl) (by kernel_rfl) (by kernel_rfl) (fun _ _ _ h => h) (Or.inl ⟨by rfl, by intro w hS; go_simp⟩) hHeld ?_
  try simp only [Act.put, List.setIfInBounds_toArray, List.set_cons_zero, List.set_cons_succ]
  refine wpAnyH_take (i := 17) (oi := { dst := some 85, op := Op.load 24 (Operand.tmp 9), type := 24, pos := "outright.go:102", after := #[{ on := 12, ground := Ground.guard }], guard := some (12, true) }) (v := .agg (ints .u8 rs).toArray) rfl (by kernel_rfl) (by kernel_rfl) (by kernel_rfl) (fun _ _ _ h => h) (yieldsIf_load_mid (by rfl) 24 _ rfl (w.heap.size + 1 + 1) (0) rfl (ints .u8 rs) _ (fun w hS => (DR.rng hS (.tail _ (.tail _ (.tail _ (.head _)))))) Tryd.underlying24 rfl (by rw [ints_len, hr]; rfl)) hHeld ?_
  try simp only [Act.put, List.setIfInBounds_toArray, List.set_cons_zero, List.set_cons_succ]
  refine wpAnyH_take (i := 18) (oi := { dst := some 86, op := Op.move (Operand.tmp 0), type := 3, pos := "outright.go:102", after := #[{ on := 12, ground := Ground.guard }], guard := some (12, true) }) (v := .int .i64 k) rfl (by kernel_rfl) (by kernel_rfl) (by kernel_rfl) (fun _ _ _ h => h) (Or.inl ⟨by rfl, by intro w hS; go_simp⟩) hHeld ?_
  try simp only [Act.put, List.setIfInBounds_toArray, List.set_cons_zero, List.set_cons_succ]
  refine wpAnyH_take (i := 21) (oi := { dst := some 89, op := Op.load 24 (Operand.tmp 12), type := 24, pos := "outright.go:102", after := #[{ on := 12, ground := Ground.guard }], guard := some (12, true) }) (v := .agg (ints .u8 Y).toArray) rfl (by kernel_rfl) (by kernel_rfl) (by kernel_rfl) (fun _ _ _ h => h) (yieldsIf_load_mid (by rfl) 24 _ rfl b4 (0) rfl (ints .u8 Y) _ (fun w hS => (DR.rng hS (.tail _ (.head _)))) Tryd.underlying24 rfl (by rw [ints_len, hY]; rfl)) hHeld ?_
  try simp only [Act.put, List.setIfInBounds_toArray, List.set_cons_zero, List.set_cons_succ]
  refine wpAnyH_ready (rs := [16]) (by kernel_rfl) (by simp) ?_
  refine (AllReadyH.cons (o := { dst := some 84, op := Op.call { callee := Callee.value (Operand.func 9), args := #[Operand.tmp 82, Operand.tmp 83], argTypes := #[24, 3] }, type := 24, pos := "outright.go:102", after := #[{ on := 14, ground := Ground.data }, { on := 15, ground := Ground.data }, { on := 12, ground := Ground.chain }, { on := 12, ground := Ground.guard }], guard := some (12, true) }) rfl (fun K hK => ?_) AllReadyH.nil)
  go_simp
  go_at_call 9
  refine (cutD_any ls hl k _).mono ?_
  rintro e w4 ⟨rfl, hb4⟩
  go_wp2_with fail
  refine hK.out _ _ (DR.call hHeld hb4) (fun hHeld2 => ?_)
  clear hK K hHeld
  have hHeld := hHeld2
  clear hHeld2
  try simp only [Act.put, List.setIfInBounds_toArray, List.set_cons_zero, List.set_cons_succ]
  refine wpAnyH_ready (rs := [19]) (by kernel_rfl) (by simp) ?_
  refine (AllReadyH.cons (o := { dst := some 87, op := Op.call { callee := Callee.value (Operand.func 9), args := #[Operand.tmp 85, Operand.tmp 86], argTypes := #[24, 3] }, type := 24, pos := "outright.go:102", after := #[{ on := 17, ground := Ground.data }, { on := 18, ground := Ground.data }, { on := 16, ground := Ground.chain }, { on := 12, ground := Ground.guard }], guard := some (12, true) }) rfl (fun K hK => ?_) AllReadyH.nil)
  go_simp
  go_at_call 9
  refine (cutD_any rs hr k _).mono ?_
  rintro e w4 ⟨rfl, hb4⟩
  go_wp2_with fail
  refine hK.out _ _ (DR.call hHeld hb4) (fun hHeld2 => ?_)
  clear hK K hHeld
  have hHeld := hHeld2
  clear hHeld2
  try simp only [Act.put, List.setIfInBounds_toArray, List.set_cons_zero, List.set_cons_succ]
  refine wpAnyH_ready (rs := [20]) (by kernel_rfl) (by simp) ?_
  refine (AllReadyH.cons (o := { dst := some 88, op := Op.call { callee := Callee.value (Operand.func 8), args := #[Operand.tmp 81, Operand.tmp 84, Operand.tmp 87], argTypes := #[3, 24, 24] }, type := 24, pos := "outright.go:102", after := #[{ on := 13, ground := Ground.data }, { on := 16, ground := Ground.data }, { on := 19, ground := Ground.data }, { on := 19, ground := Ground.chain }, { on := 12, ground := Ground.guard }], guard := some (12, true) }) rfl (fun K hK => ?_) AllReadyH.nil)
  go_simp
  go_at_call 8
  refine (KB2.out _ (DR.glob hHeld hG)).mono ?_
  rintro e w4 ⟨rfl, hb4⟩
  go_wp2_with fail
  refine hK.out _ _ (DR.call hHeld hb4) (fun hHeld2 => ?_)
  clear hK K hHeld
  have hHeld := hHeld2
  clear hHeld2
  try simp only [Act.put, List.setIfInBounds_toArray, List.set_cons_zero, List.set_cons_succ]
  refine wpAnyH_take (i := 22) (oi := { dst := some 90, op := Op.binOp BinOp.eql 24 (Operand.tmp 88) (Operand.tmp 89) 24, type := 4, pos := "outright.go:102", after := #[{ on := 20, ground := Ground.data }, { on := 21, ground := Ground.data }, { on := 12, ground := Ground.guard }], guard := some (12, true) }) (v := .bool true) rfl (by kernel_rfl) (by kernel_rfl) (by kernel_rfl) (fun _ _ _ h => h) (Or.inl ⟨by rfl, by intro w hS; go_simp⟩) hHeld ?_
  try simp only [Act.put, List.setIfInBounds_toArray, List.set_cons_zero, List.set_cons_succ]
  refine wpAnyH_take (i := 23) (oi := { dst := some 91, op := Op.pick (Operand.tmp 80) (Operand.tmp 90) (Operand.const (Value.bool false)), type := 4, pos := "outright.go:102", after := #[{ on := 12, ground := Ground.data }, { on := 22, ground := Ground.data }], guard := none }) (v := .bool true) rfl (by kernel_rfl) (by kernel_rfl) (by kernel_rfl) (fun _ _ _ h => h) (Or.inl ⟨by rfl, by intro w hS; go_simp⟩) hHeld ?_
  try simp only [Act.put, List.setIfInBounds_toArray, List.set_cons_zero, List.set_cons_succ]
  refine wpAnyH_take (i := 24) (oi := { dst := some 10, op := Op.assign (Operand.tmp 91), type := 4, pos := "outright.go:102", after := #[{ on := 23, ground := Ground.data }, { on := 20, ground := Ground.chain }, { on := 0, ground := Ground.phase }, { on := 1, ground := Ground.phase }, { on := 2, ground := Ground.phase }, { on := 3, ground := Ground.phase }, { on := 4, ground := Ground.phase }, { on := 5, ground := Ground.phase }, { on := 6, ground := Ground.phase }, { on := 7, ground := Ground.phase }, { on := 8, ground := Ground.phase }, { on := 9, ground := Ground.phase }, { on := 10, ground := Ground.phase }, { on := 11, ground := Ground.phase }, { on := 12, ground := Ground.phase }, { on := 13, ground := Ground.phase }, { on := 14, ground := Ground.phase }, { on := 15, ground := Ground.phase }, { on := 16, ground := Ground.phase }, { on := 17, ground := Ground.phase }, { on := 18, ground := Ground.phase }, { on := 19, ground := Ground.phase }, { on := 20, ground := Ground.phase }, { on := 21, ground := Ground.phase }, { on := 22, ground := Ground.phase }, { on := 23, ground := Ground.phase }], guard := none }) (v := .bool true) rfl (by kernel_rfl) (by kernel_rfl) (by kernel_rfl) (fun _ _ _ h => h) (Or.inl ⟨by rfl, by intro w hS; go_simp⟩) hHeld ?_
  try simp only [Act.put, List.setIfInBounds_toArray, List.set_cons_zero, List.set_cons_succ]
  refine wpAnyH_done (by kernel_rfl) ?_ _
  refine NoPanic.normal ?_
  go_wp2
  go_ret
  exact ⟨rfl, hHeld.1⟩
end Go.Proofs.YtibpffoencjlcaaDoor
