import Derived.Test.YtbjahdbmkcamoaaGreatDoorTrH
namespace Go.Proofs.YtbjahdbmkcamoaaGreatDoor
set_option linter.unusedVariables false
set_option linter.unusedSimpArgs false
open Go.RowKit
attribute [local go_sem ↓] Go.wp_at_zero Go.wp_at_succ

theorem SrtM.sub {m n : List EnM} (h : SrtM m) (hs : n.Sublist m) : SrtM n := List.Pairwise.sublist hs h
set_option maxRecDepth 100000 in
set_option maxHeartbeats 4000000 in
theorem qdigest_nil (w : World) (hG : Gb w) (k : Int) (ge ce : Nat) (hgw : ge < w.heap.size) (hR : ∀ i, i < 257 → w.rangeAt ge (i * 32) (ints .u8 (emptyD k i))) (sp : Option Addr) (cap : Nat) (d h : Nat) (hd : d + h = 256) :
    Calls Tryz.prog 17 #[.int .i64 k, .slice (some ⟨ge, 0, none⟩) 257 ce, .slice sp 0 cap, .int .i64 d] w fun e w' => e = .returned (.agg (ints .u8 (tD k h [])).toArray) ∧ Below w.heap.size w w' := by
  have AD := hid allocDg
  have hb1 : Below w.heap.size w (w.alloc (.cells (ints .u8 zB).toArray 28)) := (Below.refl _ _).alloc (Nat.le_refl _) _
  have r1 := hnew w (.cells (ints .u8 zB).toArray 28)
  have hr := rng_below (hR h (by omega)) hb1 hgw
  rw [tD_nil]
  have hXl := emptyD_len k h
  generalize emptyD k h = X at *
  have LZ := hid (show (ints .u8 zB).toArray.size = 32 from rfl)
  have LX := hid (show (ints .u8 X).toArray.size = 32 by rw [ints_size, hXl])
  have LX2 := hid (show (Tryz.prog.info? 28).map (·.size) = some (ints .u8 X).length by rw [Tryz.sizeD, ints_len, hXl])
  have i1 : (h : Int) < 257 := by omega
  have i2 : (256 : Int) - (d : Int) = (h : Int) := by omega
  clear hR hd
  go_enter Tryz.func17, Tryz.ntmps17
  go_wp2_with (first
    | refine wpList_allocV AD.out rfl rfl ?_
    | refine wpList_load_mid rfl 28 _ rfl ge (h * 32) rfl (ints .u8 X) _ hr Tryz.underlying28 rfl LX2.out ?_
    | refine wpList_store_row rfl 28 _ _ rfl w.heap.size (ints .u8 X).toArray rfl rfl 28 _ r1 (by rw [Tryz.sizeD, LX.out]) (by rw [LX.out, LZ.out]) (all_oneCell_toArray (ints_one _ _)) ?_)
  exact bodyPost_ret (v := .agg (ints .u8 X).toArray) (results_cell_row Tryz.results17 _ _ w.heap.size 28 _ _ _ rfl (setRow_heap _ _ _ _ _ _ r1) Tryz.underlying28 rfl (by rw [Tryz.sizeD, LX.out])) rfl ⟨rfl, below_setRow hb1 (Nat.le_refl _) _⟩
set_option maxRecDepth 100000 in
set_option maxHeartbeats 4000000 in
theorem qdigest_one (w : World) (hG : Gb w) (k : Int) (ge ce : Nat) (hgw : ge < w.heap.size) (hR : ∀ i, i < 257 → w.rangeAt ge (i * 32) (ints .u8 (emptyD k i))) (hce : (ce : Int) ≤ 9223372036854775807) (e0 : EnM) (he : entOk e0) (hv : e0.v.length ≤ 128) (sp : Option Addr) (cap : Nat) (hcap : (cap : Int) ≤ 9223372036854775807) (hS : SrcE w sp cap [e0]) (d h : Nat) (hh : d + h = 256) :
    Calls Tryz.prog 17 #[.int .i64 k, .slice (some ⟨ge, 0, none⟩) 257 ce, .slice sp 1 cap, .int .i64 d] w fun e w' => e = .returned (.agg (ints .u8 (tD k h [e0])).toArray) ∧ Below w.heap.size w w' := by
  obtain ⟨b, o, M, rfl, hbl, hr, hs⟩ := hS.at 0 (by simp)
  have hs' : SaysG w M e0 := hs
  rw [Nat.zero_mul, Nat.add_zero] at hr
  obtain ⟨sv, cv, eM, hnv, hSv⟩ := hs'.2.2
  have cval := cell_val hr hs'
  rw [eM] at cval
  have hrk := rng_key hr hs'
  obtain ⟨hkl, hky⟩ := he
  have AD := hid allocDg
  have LK := hid (show (Tryz.prog.info? 24).map (·.size) = some (ints .u8 e0.k).length by rw [Tryz.sizeKy, ints_len, hkl])
  have KL := hid (fun w1 (hG1 : Gb w1) (hS1 : Src w1 sv cv e0.v) => xleaf_any w1 hG1 k e0.k e0.v hkl sv cv hS1 (by omega))
  have KW := hid (fun w1 (hG1 : Gb w1) (hB1 : Below w.heap.size w w1) => xclimbWith_any w1 hG1 k e0.k hkl hky 0 h (leafD k e0.k e0.v) (leafD_len _ _ _) ge ce (Nat.lt_of_lt_of_le hgw hB1.size) (fun i hi => rng_below (hR i hi) hB1 hgw))
  have HW := hid (show climbTo k e0.k (hgt 0) (cutZ (leafD k e0.k e0.v) (kept k)) (hgt h - hgt 0) = tD k h [e0] by
    rw [show hgt 0 = 0 from rfl, show hgt (h : Int) = h by unfold hgt; omega, Nat.sub_zero, cut_leafD, climbTo_pth, tD_one])
  rw [HW.out] at KW
  have hDl := leafD_len k e0.k e0.v
  have hXl := tD_len k h [e0]
  generalize tD k h [e0] = X at *
  generalize leafD k e0.k e0.v = D at *
  have hb1 : Below w.heap.size w (w.alloc (.cells (ints .u8 zB).toArray 28)) := (Below.refl _ _).alloc (Nat.le_refl _) _
  have r1 := hnew w (.cells (ints .u8 zB).toArray 28)
  have LZ := hid (show (ints .u8 zB).toArray.size = 32 from rfl)
  have LD := hid (show (ints .u8 D).toArray.size = 32 by rw [ints_size, hDl])
  have LX := hid (show (ints .u8 X).toArray.size = 32 by rw [ints_size, hXl])
  have LD3 := hid (show (Tryz.prog.info? 28).map (·.size) = some (ints .u8 D).length by rw [Tryz.sizeD, ints_len, hDl])
  have i1 : (h : Int) ≤ 256 := by omega
  have i2 : (256 : Int) - (d : Int) = (h : Int) := by omega
  clear hh
  generalize hL : e0.v.length = L at *
  clear hL eM hs hs' HW hv
  go_enter Tryz.func17, Tryz.ntmps17
  go_wp2_with (first | refine wpList_allocV AD.out rfl rfl ?_)
  generalize w.alloc (.cells (ints .u8 zB).toArray 28) = w1 at *
  refine wp_region_noPanic ?_
  refine wp_region_held_drew (S := (fun w' => Below w.heap.size w w' ∧ w.heap.size < w'.heap.size)) (by kernel_rfl) ⟨hb1.drew, hlt r1⟩ (fun hHeld => ?_)
  refine wpAnyH_take (i := 0) (oi := { dst := some 24, op := Op.move (Operand.tmp 0), type := 3, pos := "ref.go:57", after := #[], guard := none }) (v := .int .i64 k) rfl (by kernel_rfl) (by kernel_rfl) (by kernel_rfl) (fun _ _ _ h => h) (Or.inl ⟨by rfl, by intro w hS; go_simp⟩) hHeld ?_
  try simp only [Act.put, List.setIfInBounds_toArray, List.set_cons_zero, List.set_cons_succ]
  refine wpAnyH_take (i := 1) (oi := { dst := some 25, op := Op.move (Operand.tmp 2), type := 26, pos := "ref.go:57", after := #[], guard := none }) (v := .slice (some ⟨b, o, none⟩) 1 cap) rfl (by kernel_rfl) (by kernel_rfl) (by kernel_rfl) (fun _ _ _ h => h) (Or.inl ⟨by rfl, by intro w hS; go_simp⟩) hHeld ?_
  try simp only [Act.put, List.setIfInBounds_toArray, List.set_cons_zero, List.set_cons_succ]
  refine wpAnyH_take (i := 5) (oi := { dst := some 29, op := Op.move (Operand.tmp 2), type := 26, pos := "ref.go:57", after := #[], guard := none }) (v := .slice (some ⟨b, o, none⟩) 1 cap) rfl (by kernel_rfl) (by kernel_rfl) (by kernel_rfl) (fun _ _ _ h => h) (Or.inl ⟨by rfl, by intro w hS; go_simp⟩) hHeld ?_
  try simp only [Act.put, List.setIfInBounds_toArray, List.set_cons_zero, List.set_cons_succ]
  refine wpAnyH_take (i := 2) (oi := { dst := some 26, op := Op.indexAddr 26 (Operand.tmp 25) (Operand.const (Value.int IntKind.i64 0)), type := 0, pos := "ref.go:57", after := #[{ on := 1, ground := Ground.data }], guard := none }) (v := .pointer (some ⟨b, o, none⟩)) rfl (by kernel_rfl) (by kernel_rfl) (by kernel_rfl) (fun _ _ _ h => h) (Or.inl ⟨by rfl, by intro w hS; go_simp⟩) hHeld ?_
  try simp only [Act.put, List.setIfInBounds_toArray, List.set_cons_zero, List.set_cons_succ]
  refine wpAnyH_take (i := 6) (oi := { dst := some 30, op := Op.indexAddr 26 (Operand.tmp 29) (Operand.const (Value.int IntKind.i64 0)), type := 0, pos := "ref.go:57", after := #[{ on := 5, ground := Ground.data }], guard := none }) (v := .pointer (some ⟨b, o, none⟩)) rfl (by kernel_rfl) (by kernel_rfl) (by kernel_rfl) (fun _ _ _ h => h) (Or.inl ⟨by rfl, by intro w hS; go_simp⟩) hHeld ?_
  try simp only [Act.put, List.setIfInBounds_toArray, List.set_cons_zero, List.set_cons_succ]
  refine wpAnyH_take (i := 3) (oi := { dst := some 27, op := Op.fieldAddr 67 (Operand.tmp 26) 0, type := 0, pos := "ref.go:57", after := #[{ on := 2, ground := Ground.data }], guard := none }) (v := .pointer (some ⟨b, o, none⟩)) rfl (by kernel_rfl) (by kernel_rfl) (by kernel_rfl) (fun _ _ _ h => h) (Or.inl ⟨by rfl, by intro w hS; go_simp⟩) hHeld ?_
  try simp only [Act.put, List.setIfInBounds_toArray, List.set_cons_zero, List.set_cons_succ]
  refine wpAnyH_take (i := 7) (oi := { dst := some 31, op := Op.fieldAddr 67 (Operand.tmp 30) 1, type := 0, pos := "ref.go:57", after := #[{ on := 6, ground := Ground.data }], guard := none }) (v := .pointer (some ⟨b, o + 32, none⟩)) rfl (by kernel_rfl) (by kernel_rfl) (by kernel_rfl) (fun _ _ _ h => h) (Or.inl ⟨by rfl, by intro w hS; go_simp⟩) hHeld ?_
  try simp only [Act.put, List.setIfInBounds_toArray, List.set_cons_zero, List.set_cons_succ]
  refine wpAnyH_take (i := 4) (oi := { dst := some 28, op := Op.load 24 (Operand.tmp 27), type := 24, pos := "ref.go:57", after := #[{ on := 3, ground := Ground.data }], guard := none }) (v := .agg (ints .u8 e0.k).toArray) rfl (by kernel_rfl) (by kernel_rfl) (by kernel_rfl) (fun _ _ _ h => h) (yieldsIf_load_mid (by rfl) 24 _ rfl b (o) rfl (ints .u8 e0.k) _ (fun w hS => rng_below hrk hS.1 hbl) Tryz.underlying24 rfl LK.out) hHeld ?_
  try simp only [Act.put, List.setIfInBounds_toArray, List.set_cons_zero, List.set_cons_succ]
  refine wpAnyH_take (i := 8) (oi := { dst := some 32, op := Op.load 30 (Operand.tmp 31), type := 30, pos := "ref.go:57", after := #[{ on := 7, ground := Ground.data }], guard := none }) (v := .slice sv L cv) rfl (by kernel_rfl) (by kernel_rfl) (by kernel_rfl) (fun _ _ _ h => h) (Or.inl ⟨by rfl, by intro w hS; have hc := (hS.1.cell (p := ⟨b, o + 32, none⟩) hbl).trans cval; go_simp⟩) hHeld ?_
  try simp only [Act.put, List.setIfInBounds_toArray, List.set_cons_zero, List.set_cons_succ]
  refine wpAnyH_ready (rs := [9, 10]) (by kernel_rfl) (by simp) ?_
  refine (AllReadyH.cons (o := { dst := some 33, op := Op.call { callee := Callee.value (Operand.func 33), args := #[Operand.tmp 24, Operand.tmp 28, Operand.tmp 32], argTypes := #[3, 24, 30] }, type := 28, pos := "ref.go:57", after := #[{ on := 0, ground := Ground.data }, { on := 4, ground := Ground.data }, { on := 8, ground := Ground.data }], guard := none }) rfl (fun K hK => ?_) (AllReadyH.cons (o := { dst := some 9, op := Op.alloc 28, type := 0, pos := "ref.go:57", after := #[], guard := none }) rfl (fun K hK => ?_) AllReadyH.nil))
  · skip
    go_simp
    go_at_call 33
    refine (KL.out _ (hG.below hHeld.1 hG.1.1) (hSv.below hHeld.1 (Nat.le_refl _))).mono ?_
    rintro e w4 ⟨rfl, hb4⟩
    replace r1 := hbel hb4 r1 (hlt r1)
    try replace hD9 := hbel hb4 hD9 (hlt hD9)
    go_wp2_with fail
    refine hK.out _ _ (⟨hHeld.1.trans (hb4.mono hHeld.1.size), Nat.lt_of_lt_of_le hHeld.2 hb4.size⟩) (fun hHeld2 => ?_)
    clear hK K hHeld
    have hHeld := hHeld2
    clear hHeld2
    try simp only [Act.put, List.setIfInBounds_toArray, List.set_cons_zero, List.set_cons_succ]
    refine wpAnyH_ready (rs := [10]) (by kernel_rfl) (by simp) ?_
    refine (AllReadyH.cons (o := { dst := some 9, op := Op.alloc 28, type := 0, pos := "ref.go:57", after := #[], guard := none }) rfl (fun K hK => ?_) AllReadyH.nil)
    have hD9 := dg_of hHeld.1
    have hgD := hHeld.2
    replace r1 := hold (o := .cells (ints .u8 zB).toArray 28) r1
    try simp only [szT_al, szT_dr] at hD9 hgD
    rw [if_pos (by rfl)]
    unfold Oper.wp
    rw [AD.out _ _ _ rfl]
    refine hK.out _ _ (⟨hHeld.1.alloc hHeld.1.size _, by simp; have := hHeld.2; omega⟩) (fun hHeld2 => ?_)
    clear hK K hHeld
    have hHeld := hHeld2
    clear hHeld2
    try simp only [Act.put, List.setIfInBounds_toArray, List.set_cons_zero, List.set_cons_succ]
    refine wpAnyH_ready (rs := [11]) (by kernel_rfl) (by simp) ?_
    refine (AllReadyH.cons (o := { dst := none, op := Op.store 28 (Operand.tmp 9) (Operand.tmp 33), type := 0, pos := "ref.go:57", after := #[{ on := 10, ground := Ground.data }, { on := 9, ground := Ground.data }, { on := 9, ground := Ground.chain }, { on := 0, ground := Ground.phase }, { on := 1, ground := Ground.phase }, { on := 2, ground := Ground.phase }, { on := 3, ground := Ground.phase }, { on := 4, ground := Ground.phase }, { on := 5, ground := Ground.phase }, { on := 6, ground := Ground.phase }, { on := 7, ground := Ground.phase }, { on := 8, ground := Ground.phase }, { on := 9, ground := Ground.phase }, { on := 10, ground := Ground.phase }], guard := none }) rfl (fun K hK => ?_) AllReadyH.nil)
    rw [if_pos (by rfl)]
    refine wp_store_row 28 _ _ rfl _ (ints .u8 D).toArray rfl rfl 28 _ hD9 (by rw [Tryz.sizeD, LD.out]) (by rw [LD.out, LZ.out]) (all_oneCell_toArray (ints_one _ _)) ?_
    have qD := setRow_heap _ _ _ (ints .u8 D).toArray _ _ hD9
    replace r1 := set_keep hD9 hgD r1 (ints .u8 D).toArray
    refine hK.out _ _ (⟨below_setRow hHeld.1 (by omega) _, Nat.lt_of_lt_of_le hHeld.2 (below_setRow (Below.refl 0 _) (Nat.zero_le _) _).size⟩) (fun hHeld2 => ?_)
    clear hK K hHeld
    have hHeld := hHeld2
    clear hHeld2
    try simp only [Act.put, List.setIfInBounds_toArray, List.set_cons_zero, List.set_cons_succ]
    refine wpAnyH_done (by kernel_rfl) ?_ _
    refine NoPanic.normal ?_
    have hB6 := hHeld.1
    clear hHeld
    go_wp2_with fail
    first
    | (refine wp_region_noPanic ?_
       refine wp_region_held_drew (S := (fun w' => Below w.heap.size w w' ∧ w'.heap[w4.heap.size]? = some (.cells (ints .u8 D).toArray 28 (0, 0)))) (by kernel_rfl) ⟨hB6.drew, qD⟩ (fun hHeld => ?_)
       refine wpAnyH_take (i := 0) (oi := { dst := some 34, op := Op.move (Operand.tmp 1), type := 48, pos := "ref.go:58", after := #[], guard := none }) (v := .slice (some ⟨ge, 0, none⟩) 257 ce) rfl (by kernel_rfl) (by kernel_rfl) (by kernel_rfl) (fun _ _ _ h => h) (Or.inl ⟨by rfl, by intro w hS; go_simp⟩) hHeld ?_
       try simp only [Act.put, List.setIfInBounds_toArray, List.set_cons_zero, List.set_cons_succ]
       refine wpAnyH_take (i := 1) (oi := { dst := some 35, op := Op.move (Operand.tmp 0), type := 3, pos := "ref.go:58", after := #[], guard := none }) (v := .int .i64 k) rfl (by kernel_rfl) (by kernel_rfl) (by kernel_rfl) (fun _ _ _ h => h) (Or.inl ⟨by rfl, by intro w hS; go_simp⟩) hHeld ?_
       try simp only [Act.put, List.setIfInBounds_toArray, List.set_cons_zero, List.set_cons_succ]
       refine wpAnyH_take (i := 2) (oi := { dst := some 36, op := Op.move (Operand.tmp 2), type := 26, pos := "ref.go:58", after := #[], guard := none }) (v := .slice (some ⟨b, o, none⟩) 1 cap) rfl (by kernel_rfl) (by kernel_rfl) (by kernel_rfl) (fun _ _ _ h => h) (Or.inl ⟨by rfl, by intro w hS; go_simp⟩) hHeld ?_
       try simp only [Act.put, List.setIfInBounds_toArray, List.set_cons_zero, List.set_cons_succ]
       refine wpAnyH_take (i := 6) (oi := { dst := some 40, op := Op.load 28 (Operand.tmp 9), type := 28, pos := "ref.go:58", after := #[], guard := none }) (v := .agg (ints .u8 D).toArray) rfl (by kernel_rfl) (by kernel_rfl) (by kernel_rfl) (fun _ _ _ h => h) (yieldsIf_load_mid (by rfl) 28 _ rfl w4.heap.size (0) rfl (ints .u8 D) _ (fun w hS => rng hS.2) Tryz.underlying28 rfl LD3.out) hHeld ?_
       try simp only [Act.put, List.setIfInBounds_toArray, List.set_cons_zero, List.set_cons_succ]
       refine wpAnyH_take (i := 7) (oi := { dst := some 41, op := Op.move (Operand.tmp 3), type := 3, pos := "ref.go:58", after := #[], guard := none }) (v := .int .i64 d) rfl (by kernel_rfl) (by kernel_rfl) (by kernel_rfl) (fun _ _ _ h => h) (Or.inl ⟨by rfl, by intro w hS; go_simp⟩) hHeld ?_
       try simp only [Act.put, List.setIfInBounds_toArray, List.set_cons_zero, List.set_cons_succ]
       refine wpAnyH_take (i := 3) (oi := { dst := some 37, op := Op.indexAddr 26 (Operand.tmp 36) (Operand.const (Value.int IntKind.i64 0)), type := 0, pos := "ref.go:58", after := #[{ on := 2, ground := Ground.data }], guard := none }) (v := .pointer (some ⟨b, o, none⟩)) rfl (by kernel_rfl) (by kernel_rfl) (by kernel_rfl) (fun _ _ _ h => h) (Or.inl ⟨by rfl, by intro w hS; go_simp⟩) hHeld ?_
       try simp only [Act.put, List.setIfInBounds_toArray, List.set_cons_zero, List.set_cons_succ]
       refine wpAnyH_take (i := 8) (oi := { dst := some 42, op := Op.binOp BinOp.sub 3 (Operand.const (Value.int IntKind.i64 256)) (Operand.tmp 41) 3, type := 3, pos := "ref.go:58", after := #[{ on := 7, ground := Ground.data }], guard := none }) (v := .int .i64 h) rfl (by kernel_rfl) (by kernel_rfl) (by kernel_rfl) (fun _ _ _ h => h) (Or.inl ⟨by rfl, by intro w hS; go_simp; exact wrap_i64_id _ (by omega) (by omega)⟩) hHeld ?_
       try simp only [Act.put, List.setIfInBounds_toArray, List.set_cons_zero, List.set_cons_succ]
       refine wpAnyH_take (i := 4) (oi := { dst := some 38, op := Op.fieldAddr 67 (Operand.tmp 37) 0, type := 0, pos := "ref.go:58", after := #[{ on := 3, ground := Ground.data }], guard := none }) (v := .pointer (some ⟨b, o, none⟩)) rfl (by kernel_rfl) (by kernel_rfl) (by kernel_rfl) (fun _ _ _ h => h) (Or.inl ⟨by rfl, by intro w hS; go_simp⟩) hHeld ?_
       try simp only [Act.put, List.setIfInBounds_toArray, List.set_cons_zero, List.set_cons_succ]
       refine wpAnyH_take (i := 5) (oi := { dst := some 39, op := Op.load 24 (Operand.tmp 38), type := 24, pos := "ref.go:58", after := #[{ on := 4, ground := Ground.data }], guard := none }) (v := .agg (ints .u8 e0.k).toArray) rfl (by kernel_rfl) (by kernel_rfl) (by kernel_rfl) (fun _ _ _ h => h) (yieldsIf_load_mid (by rfl) 24 _ rfl b (o) rfl (ints .u8 e0.k) _ (fun w hS => rng_below hrk hS.1 hbl) Tryz.underlying24 rfl LK.out) hHeld ?_
       try simp only [Act.put, List.setIfInBounds_toArray, List.set_cons_zero, List.set_cons_succ]
       refine wpAnyH_ready (rs := [9]) (by kernel_rfl) (by simp) ?_
       refine (AllReadyH.cons (o := { dst := some 43, op := Op.call { callee := Callee.value (Operand.func 34), args := #[Operand.tmp 34, Operand.tmp 35, Operand.tmp 39, Operand.const (Value.int IntKind.i64 0), Operand.tmp 40, Operand.tmp 42], argTypes := #[48, 3, 24, 3, 28, 3] }, type := 28, pos := "ref.go:58", after := #[{ on := 0, ground := Ground.data }, { on := 1, ground := Ground.data }, { on := 5, ground := Ground.data }, { on := 6, ground := Ground.data }, { on := 8, ground := Ground.data }], guard := none }) rfl (fun K hK => ?_) AllReadyH.nil)
       go_simp
       go_at_call 34
       refine (KW.out _ (hG.below hHeld.1 hG.1.1) hHeld.1).mono ?_
       rintro e w7 ⟨rfl, hb7⟩
       replace r1 := hbel hb7 r1 (hlt r1)
       go_wp2_with fail
       refine hK.out _ _ (⟨hHeld.1.trans (hb7.mono hHeld.1.size), hbel hb7 hHeld.2 (hlt hHeld.2)⟩) (fun hHeld2 => ?_)
       clear hK K hHeld
       have hHeld := hHeld2
       clear hHeld2
       try simp only [Act.put, List.setIfInBounds_toArray, List.set_cons_zero, List.set_cons_succ]
       refine wpAnyH_ready (rs := [10]) (by kernel_rfl) (by simp) ?_
       refine (AllReadyH.cons (o := { dst := none, op := Op.store 28 (Operand.tmp 8) (Operand.tmp 43), type := 0, pos := "ref.go:58", after := #[{ on := 9, ground := Ground.data }, { on := 9, ground := Ground.chain }, { on := 0, ground := Ground.phase }, { on := 1, ground := Ground.phase }, { on := 2, ground := Ground.phase }, { on := 3, ground := Ground.phase }, { on := 4, ground := Ground.phase }, { on := 5, ground := Ground.phase }, { on := 6, ground := Ground.phase }, { on := 7, ground := Ground.phase }, { on := 8, ground := Ground.phase }, { on := 9, ground := Ground.phase }], guard := none }) rfl (fun K hK => ?_) AllReadyH.nil)
       rw [if_pos (by rfl)]
       refine wp_store_row 28 _ _ rfl w.heap.size (ints .u8 X).toArray rfl rfl 28 _ r1 (by rw [Tryz.sizeD, LX.out]) (by rw [LX.out, LZ.out]) (all_oneCell_toArray (ints_one _ _)) ?_
       have hb9 := below_setRow hHeld.1 (Nat.le_refl w.heap.size) (ints .u8 X).toArray
       refine hK.out _ _ (⟨hb9, (setRow_other _ _ _ _ (by omega)).trans hHeld.2⟩) (fun hHeld2 => ?_)
       clear hK K hHeld
       have hHeld := hHeld2
       clear hHeld2
       try simp only [Act.put, List.setIfInBounds_toArray, List.set_cons_zero, List.set_cons_succ]
       refine wpAnyH_done (by kernel_rfl) ?_ _
       refine NoPanic.normal ?_
       go_wp2_with fail
       exact bodyPost_ret (v := .agg (ints .u8 X).toArray) (results_cell_row Tryz.results17 _ _ w.heap.size 28 _ _ _ rfl (setRow_heap _ _ _ _ _ _ r1) Tryz.underlying28 rfl (by rw [Tryz.sizeD, LX.out])) rfl ⟨rfl, hb9⟩)
    | (refine wp_region_noPanic ?_
       refine wp_region_held_drew (S := (fun w' => Below w.heap.size w w' ∧ w'.heap[w1.heap.size]? = some (.cells (ints .u8 D).toArray 28 (0, 0)))) (by kernel_rfl) ⟨hB6.drew, qD⟩ (fun hHeld => ?_)
       refine wpAnyH_take (i := 0) (oi := { dst := some 34, op := Op.move (Operand.tmp 1), type := 48, pos := "ref.go:58", after := #[], guard := none }) (v := .slice (some ⟨ge, 0, none⟩) 257 ce) rfl (by kernel_rfl) (by kernel_rfl) (by kernel_rfl) (fun _ _ _ h => h) (Or.inl ⟨by rfl, by intro w hS; go_simp⟩) hHeld ?_
       try simp only [Act.put, List.setIfInBounds_toArray, List.set_cons_zero, List.set_cons_succ]
       refine wpAnyH_take (i := 1) (oi := { dst := some 35, op := Op.move (Operand.tmp 0), type := 3, pos := "ref.go:58", after := #[], guard := none }) (v := .int .i64 k) rfl (by kernel_rfl) (by kernel_rfl) (by kernel_rfl) (fun _ _ _ h => h) (Or.inl ⟨by rfl, by intro w hS; go_simp⟩) hHeld ?_
       try simp only [Act.put, List.setIfInBounds_toArray, List.set_cons_zero, List.set_cons_succ]
       refine wpAnyH_take (i := 2) (oi := { dst := some 36, op := Op.move (Operand.tmp 2), type := 26, pos := "ref.go:58", after := #[], guard := none }) (v := .slice (some ⟨b, o, none⟩) 1 cap) rfl (by kernel_rfl) (by kernel_rfl) (by kernel_rfl) (fun _ _ _ h => h) (Or.inl ⟨by rfl, by intro w hS; go_simp⟩) hHeld ?_
       try simp only [Act.put, List.setIfInBounds_toArray, List.set_cons_zero, List.set_cons_succ]
       refine wpAnyH_take (i := 6) (oi := { dst := some 40, op := Op.load 28 (Operand.tmp 9), type := 28, pos := "ref.go:58", after := #[], guard := none }) (v := .agg (ints .u8 D).toArray) rfl (by kernel_rfl) (by kernel_rfl) (by kernel_rfl) (fun _ _ _ h => h) (yieldsIf_load_mid (by rfl) 28 _ rfl w1.heap.size (0) rfl (ints .u8 D) _ (fun w hS => rng hS.2) Tryz.underlying28 rfl LD3.out) hHeld ?_
       try simp only [Act.put, List.setIfInBounds_toArray, List.set_cons_zero, List.set_cons_succ]
       refine wpAnyH_take (i := 7) (oi := { dst := some 41, op := Op.move (Operand.tmp 3), type := 3, pos := "ref.go:58", after := #[], guard := none }) (v := .int .i64 d) rfl (by kernel_rfl) (by kernel_rfl) (by kernel_rfl) (fun _ _ _ h => h) (Or.inl ⟨by rfl, by intro w hS; go_simp⟩) hHeld ?_
       try simp only [Act.put, List.setIfInBounds_toArray, List.set_cons_zero, List.set_cons_succ]
       refine wpAnyH_take (i := 3) (oi := { dst := some 37, op := Op.indexAddr 26 (Operand.tmp 36) (Operand.const (Value.int IntKind.i64 0)), type := 0, pos := "ref.go:58", after := #[{ on := 2, ground := Ground.data }], guard := none }) (v := .pointer (some ⟨b, o, none⟩)) rfl (by kernel_rfl) (by kernel_rfl) (by kernel_rfl) (fun _ _ _ h => h) (Or.inl ⟨by rfl, by intro w hS; go_simp⟩) hHeld ?_
       try simp only [Act.put, List.setIfInBounds_toArray, List.set_cons_zero, List.set_cons_succ]
       refine wpAnyH_take (i := 8) (oi := { dst := some 42, op := Op.binOp BinOp.sub 3 (Operand.const (Value.int IntKind.i64 256)) (Operand.tmp 41) 3, type := 3, pos := "ref.go:58", after := #[{ on := 7, ground := Ground.data }], guard := none }) (v := .int .i64 h) rfl (by kernel_rfl) (by kernel_rfl) (by kernel_rfl) (fun _ _ _ h => h) (Or.inl ⟨by rfl, by intro w hS; go_simp; exact wrap_i64_id _ (by omega) (by omega)⟩) hHeld ?_
       try simp only [Act.put, List.setIfInBounds_toArray, List.set_cons_zero, List.set_cons_succ]
       refine wpAnyH_take (i := 4) (oi := { dst := some 38, op := Op.fieldAddr 67 (Operand.tmp 37) 0, type := 0, pos := "ref.go:58", after := #[{ on := 3, ground := Ground.data }], guard := none }) (v := .pointer (some ⟨b, o, none⟩)) rfl (by kernel_rfl) (by kernel_rfl) (by kernel_rfl) (fun _ _ _ h => h) (Or.inl ⟨by rfl, by intro w hS; go_simp⟩) hHeld ?_
       try simp only [Act.put, List.setIfInBounds_toArray, List.set_cons_zero, List.set_cons_succ]
       refine wpAnyH_take (i := 5) (oi := { dst := some 39, op := Op.load 24 (Operand.tmp 38), type := 24, pos := "ref.go:58", after := #[{ on := 4, ground := Ground.data }], guard := none }) (v := .agg (ints .u8 e0.k).toArray) rfl (by kernel_rfl) (by kernel_rfl) (by kernel_rfl) (fun _ _ _ h => h) (yieldsIf_load_mid (by rfl) 24 _ rfl b (o) rfl (ints .u8 e0.k) _ (fun w hS => rng_below hrk hS.1 hbl) Tryz.underlying24 rfl LK.out) hHeld ?_
       try simp only [Act.put, List.setIfInBounds_toArray, List.set_cons_zero, List.set_cons_succ]
       refine wpAnyH_ready (rs := [9]) (by kernel_rfl) (by simp) ?_
       refine (AllReadyH.cons (o := { dst := some 43, op := Op.call { callee := Callee.value (Operand.func 34), args := #[Operand.tmp 34, Operand.tmp 35, Operand.tmp 39, Operand.const (Value.int IntKind.i64 0), Operand.tmp 40, Operand.tmp 42], argTypes := #[48, 3, 24, 3, 28, 3] }, type := 28, pos := "ref.go:58", after := #[{ on := 0, ground := Ground.data }, { on := 1, ground := Ground.data }, { on := 5, ground := Ground.data }, { on := 6, ground := Ground.data }, { on := 8, ground := Ground.data }], guard := none }) rfl (fun K hK => ?_) AllReadyH.nil)
       go_simp
       go_at_call 34
       refine (KW.out _ (hG.below hHeld.1 hG.1.1) hHeld.1).mono ?_
       rintro e w7 ⟨rfl, hb7⟩
       replace r1 := hbel hb7 r1 (hlt r1)
       go_wp2_with fail
       refine hK.out _ _ (⟨hHeld.1.trans (hb7.mono hHeld.1.size), hbel hb7 hHeld.2 (hlt hHeld.2)⟩) (fun hHeld2 => ?_)
       clear hK K hHeld
       have hHeld := hHeld2
       clear hHeld2
       try simp only [Act.put, List.setIfInBounds_toArray, List.set_cons_zero, List.set_cons_succ]
       refine wpAnyH_ready (rs := [10]) (by kernel_rfl) (by simp) ?_
       refine (AllReadyH.cons (o := { dst := none, op := Op.store 28 (Operand.tmp 8) (Operand.tmp 43), type := 0, pos := "ref.go:58", after := #[{ on := 9, ground := Ground.data }, { on := 9, ground := Ground.chain }, { on := 0, ground := Ground.phase }, { on := 1, ground := Ground.phase }, { on := 2, ground := Ground.phase }, { on := 3, ground := Ground.phase }, { on := 4, ground := Ground.phase }, { on := 5, ground := Ground.phase }, { on := 6, ground := Ground.phase }, { on := 7, ground := Ground.phase }, { on := 8, ground := Ground.phase }, { on := 9, ground := Ground.phase }], guard := none }) rfl (fun K hK => ?_) AllReadyH.nil)
       rw [if_pos (by rfl)]
       refine wp_store_row 28 _ _ rfl w.heap.size (ints .u8 X).toArray rfl rfl 28 _ r1 (by rw [Tryz.sizeD, LX.out]) (by rw [LX.out, LZ.out]) (all_oneCell_toArray (ints_one _ _)) ?_
       have hb9 := below_setRow hHeld.1 (Nat.le_refl w.heap.size) (ints .u8 X).toArray
       refine hK.out _ _ (⟨hb9, (setRow_other _ _ _ _ (by omega)).trans hHeld.2⟩) (fun hHeld2 => ?_)
       clear hK K hHeld
       have hHeld := hHeld2
       clear hHeld2
       try simp only [Act.put, List.setIfInBounds_toArray, List.set_cons_zero, List.set_cons_succ]
       refine wpAnyH_done (by kernel_rfl) ?_ _
       refine NoPanic.normal ?_
       go_wp2_with fail
       exact bodyPost_ret (v := .agg (ints .u8 X).toArray) (results_cell_row Tryz.results17 _ _ w.heap.size 28 _ _ _ rfl (setRow_heap _ _ _ _ _ _ r1) Tryz.underlying28 rfl (by rw [Tryz.sizeD, LX.out])) rfl ⟨rfl, hb9⟩)
  · skip
    have hD9 := dg_of hHeld.1
    have hgD := hHeld.2
    replace r1 := hold (o := .cells (ints .u8 zB).toArray 28) r1
    try simp only [szT_al, szT_dr] at hD9 hgD
    rw [if_pos (by rfl)]
    unfold Oper.wp
    rw [AD.out _ _ _ rfl]
    refine hK.out _ _ (⟨hHeld.1.alloc hHeld.1.size _, by simp; have := hHeld.2; omega⟩) (fun hHeld2 => ?_)
    clear hK K hHeld
    have hHeld := hHeld2
    clear hHeld2
    try simp only [Act.put, List.setIfInBounds_toArray, List.set_cons_zero, List.set_cons_succ]
    refine wpAnyH_ready (rs := [9]) (by kernel_rfl) (by simp) ?_
    refine (AllReadyH.cons (o := { dst := some 33, op := Op.call { callee := Callee.value (Operand.func 33), args := #[Operand.tmp 24, Operand.tmp 28, Operand.tmp 32], argTypes := #[3, 24, 30] }, type := 28, pos := "ref.go:57", after := #[{ on := 0, ground := Ground.data }, { on := 4, ground := Ground.data }, { on := 8, ground := Ground.data }], guard := none }) rfl (fun K hK => ?_) AllReadyH.nil)
    go_simp
    go_at_call 33
    refine (KL.out _ (hG.below hHeld.1 hG.1.1) (hSv.below hHeld.1 (Nat.le_refl _))).mono ?_
    rintro e w4 ⟨rfl, hb4⟩
    replace r1 := hbel hb4 r1 (hlt r1)
    try replace hD9 := hbel hb4 hD9 (hlt hD9)
    go_wp2_with fail
    refine hK.out _ _ (⟨hHeld.1.trans (hb4.mono hHeld.1.size), Nat.lt_of_lt_of_le hHeld.2 hb4.size⟩) (fun hHeld2 => ?_)
    clear hK K hHeld
    have hHeld := hHeld2
    clear hHeld2
    try simp only [Act.put, List.setIfInBounds_toArray, List.set_cons_zero, List.set_cons_succ]
    refine wpAnyH_ready (rs := [11]) (by kernel_rfl) (by simp) ?_
    refine (AllReadyH.cons (o := { dst := none, op := Op.store 28 (Operand.tmp 9) (Operand.tmp 33), type := 0, pos := "ref.go:57", after := #[{ on := 10, ground := Ground.data }, { on := 9, ground := Ground.data }, { on := 9, ground := Ground.chain }, { on := 0, ground := Ground.phase }, { on := 1, ground := Ground.phase }, { on := 2, ground := Ground.phase }, { on := 3, ground := Ground.phase }, { on := 4, ground := Ground.phase }, { on := 5, ground := Ground.phase }, { on := 6, ground := Ground.phase }, { on := 7, ground := Ground.phase }, { on := 8, ground := Ground.phase }, { on := 9, ground := Ground.phase }, { on := 10, ground := Ground.phase }], guard := none }) rfl (fun K hK => ?_) AllReadyH.nil)
    rw [if_pos (by rfl)]
    refine wp_store_row 28 _ _ rfl _ (ints .u8 D).toArray rfl rfl 28 _ hD9 (by rw [Tryz.sizeD, LD.out]) (by rw [LD.out, LZ.out]) (all_oneCell_toArray (ints_one _ _)) ?_
    have qD := setRow_heap _ _ _ (ints .u8 D).toArray _ _ hD9
    replace r1 := set_keep hD9 hgD r1 (ints .u8 D).toArray
    refine hK.out _ _ (⟨below_setRow hHeld.1 (by omega) _, Nat.lt_of_lt_of_le hHeld.2 (below_setRow (Below.refl 0 _) (Nat.zero_le _) _).size⟩) (fun hHeld2 => ?_)
    clear hK K hHeld
    have hHeld := hHeld2
    clear hHeld2
    try simp only [Act.put, List.setIfInBounds_toArray, List.set_cons_zero, List.set_cons_succ]
    refine wpAnyH_done (by kernel_rfl) ?_ _
    refine NoPanic.normal ?_
    have hB6 := hHeld.1
    clear hHeld
    go_wp2_with fail
    first
    | (refine wp_region_noPanic ?_
       refine wp_region_held_drew (S := (fun w' => Below w.heap.size w w' ∧ w'.heap[w4.heap.size]? = some (.cells (ints .u8 D).toArray 28 (0, 0)))) (by kernel_rfl) ⟨hB6.drew, qD⟩ (fun hHeld => ?_)
       refine wpAnyH_take (i := 0) (oi := { dst := some 34, op := Op.move (Operand.tmp 1), type := 48, pos := "ref.go:58", after := #[], guard := none }) (v := .slice (some ⟨ge, 0, none⟩) 257 ce) rfl (by kernel_rfl) (by kernel_rfl) (by kernel_rfl) (fun _ _ _ h => h) (Or.inl ⟨by rfl, by intro w hS; go_simp⟩) hHeld ?_
       try simp only [Act.put, List.setIfInBounds_toArray, List.set_cons_zero, List.set_cons_succ]
       refine wpAnyH_take (i := 1) (oi := { dst := some 35, op := Op.move (Operand.tmp 0), type := 3, pos := "ref.go:58", after := #[], guard := none }) (v := .int .i64 k) rfl (by kernel_rfl) (by kernel_rfl) (by kernel_rfl) (fun _ _ _ h => h) (Or.inl ⟨by rfl, by intro w hS; go_simp⟩) hHeld ?_
       try simp only [Act.put, List.setIfInBounds_toArray, List.set_cons_zero, List.set_cons_succ]
       refine wpAnyH_take (i := 2) (oi := { dst := some 36, op := Op.move (Operand.tmp 2), type := 26, pos := "ref.go:58", after := #[], guard := none }) (v := .slice (some ⟨b, o, none⟩) 1 cap) rfl (by kernel_rfl) (by kernel_rfl) (by kernel_rfl) (fun _ _ _ h => h) (Or.inl ⟨by rfl, by intro w hS; go_simp⟩) hHeld ?_
       try simp only [Act.put, List.setIfInBounds_toArray, List.set_cons_zero, List.set_cons_succ]
       refine wpAnyH_take (i := 6) (oi := { dst := some 40, op := Op.load 28 (Operand.tmp 9), type := 28, pos := "ref.go:58", after := #[], guard := none }) (v := .agg (ints .u8 D).toArray) rfl (by kernel_rfl) (by kernel_rfl) (by kernel_rfl) (fun _ _ _ h => h) (yieldsIf_load_mid (by rfl) 28 _ rfl w4.heap.size (0) rfl (ints .u8 D) _ (fun w hS => rng hS.2) Tryz.underlying28 rfl LD3.out) hHeld ?_
       try simp only [Act.put, List.setIfInBounds_toArray, List.set_cons_zero, List.set_cons_succ]
       refine wpAnyH_take (i := 7) (oi := { dst := some 41, op := Op.move (Operand.tmp 3), type := 3, pos := "ref.go:58", after := #[], guard := none }) (v := .int .i64 d) rfl (by kernel_rfl) (by kernel_rfl) (by kernel_rfl) (fun _ _ _ h => h) (Or.inl ⟨by rfl, by intro w hS; go_simp⟩) hHeld ?_
       try simp only [Act.put, List.setIfInBounds_toArray, List.set_cons_zero, List.set_cons_succ]
       refine wpAnyH_take (i := 3) (oi := { dst := some 37, op := Op.indexAddr 26 (Operand.tmp 36) (Operand.const (Value.int IntKind.i64 0)), type := 0, pos := "ref.go:58", after := #[{ on := 2, ground := Ground.data }], guard := none }) (v := .pointer (some ⟨b, o, none⟩)) rfl (by kernel_rfl) (by kernel_rfl) (by kernel_rfl) (fun _ _ _ h => h) (Or.inl ⟨by rfl, by intro w hS; go_simp⟩) hHeld ?_
       try simp only [Act.put, List.setIfInBounds_toArray, List.set_cons_zero, List.set_cons_succ]
       refine wpAnyH_take (i := 8) (oi := { dst := some 42, op := Op.binOp BinOp.sub 3 (Operand.const (Value.int IntKind.i64 256)) (Operand.tmp 41) 3, type := 3, pos := "ref.go:58", after := #[{ on := 7, ground := Ground.data }], guard := none }) (v := .int .i64 h) rfl (by kernel_rfl) (by kernel_rfl) (by kernel_rfl) (fun _ _ _ h => h) (Or.inl ⟨by rfl, by intro w hS; go_simp; exact wrap_i64_id _ (by omega) (by omega)⟩) hHeld ?_
       try simp only [Act.put, List.setIfInBounds_toArray, List.set_cons_zero, List.set_cons_succ]
       refine wpAnyH_take (i := 4) (oi := { dst := some 38, op := Op.fieldAddr 67 (Operand.tmp 37) 0, type := 0, pos := "ref.go:58", after := #[{ on := 3, ground := Ground.data }], guard := none }) (v := .pointer (some ⟨b, o, none⟩)) rfl (by kernel_rfl) (by kernel_rfl) (by kernel_rfl) (fun _ _ _ h => h) (Or.inl ⟨by rfl, by intro w hS; go_simp⟩) hHeld ?_
       try simp only [Act.put, List.setIfInBounds_toArray, List.set_cons_zero, List.set_cons_succ]
       refine wpAnyH_take (i := 5) (oi := { dst := some 39, op := Op.load 24 (Operand.tmp 38), type := 24, pos := "ref.go:58", after := #[{ on := 4, ground := Ground.data }], guard := none }) (v := .agg (ints .u8 e0.k).toArray) rfl (by kernel_rfl) (by kernel_rfl) (by kernel_rfl) (fun _ _ _ h => h) (yieldsIf_load_mid (by rfl) 24 _ rfl b (o) rfl (ints .u8 e0.k) _ (fun w hS => rng_below hrk hS.1 hbl) Tryz.underlying24 rfl LK.out) hHeld ?_
       try simp only [Act.put, List.setIfInBounds_toArray, List.set_cons_zero, List.set_cons_succ]
       refine wpAnyH_ready (rs := [9]) (by kernel_rfl) (by simp) ?_
       refine (AllReadyH.cons (o := { dst := some 43, op := Op.call { callee := Callee.value (Operand.func 34), args := #[Operand.tmp 34, Operand.tmp 35, Operand.tmp 39, Operand.const (Value.int IntKind.i64 0), Operand.tmp 40, Operand.tmp 42], argTypes := #[48, 3, 24, 3, 28, 3] }, type := 28, pos := "ref.go:58", after := #[{ on := 0, ground := Ground.data }, { on := 1, ground := Ground.data }, { on := 5, ground := Ground.data }, { on := 6, ground := Ground.data }, { on := 8, ground := Ground.data }], guard := none }) rfl (fun K hK => ?_) AllReadyH.nil)
       go_simp
       go_at_call 34
       refine (KW.out _ (hG.below hHeld.1 hG.1.1) hHeld.1).mono ?_
       rintro e w7 ⟨rfl, hb7⟩
       replace r1 := hbel hb7 r1 (hlt r1)
       go_wp2_with fail
       refine hK.out _ _ (⟨hHeld.1.trans (hb7.mono hHeld.1.size), hbel hb7 hHeld.2 (hlt hHeld.2)⟩) (fun hHeld2 => ?_)
       clear hK K hHeld
       have hHeld := hHeld2
       clear hHeld2
       try simp only [Act.put, List.setIfInBounds_toArray, List.set_cons_zero, List.set_cons_succ]
       refine wpAnyH_ready (rs := [10]) (by kernel_rfl) (by simp) ?_
       refine (AllReadyH.cons (o := { dst := none, op := Op.store 28 (Operand.tmp 8) (Operand.tmp 43), type := 0, pos := "ref.go:58", after := #[{ on := 9, ground := Ground.data }, { on := 9, ground := Ground.chain }, { on := 0, ground := Ground.phase }, { on := 1, ground := Ground.phase }, { on := 2, ground := Ground.phase }, { on := 3, ground := Ground.phase }, { on := 4, ground := Ground.phase }, { on := 5, ground := Ground.phase }, { on := 6, ground := Ground.phase }, { on := 7, ground := Ground.phase }, { on := 8, ground := Ground.phase }, { on := 9, ground := Ground.phase }], guard := none }) rfl (fun K hK => ?_) AllReadyH.nil)
       rw [if_pos (by rfl)]
       refine wp_store_row 28 _ _ rfl w.heap.size (ints .u8 X).toArray rfl rfl 28 _ r1 (by rw [Tryz.sizeD, LX.out]) (by rw [LX.out, LZ.out]) (all_oneCell_toArray (ints_one _ _)) ?_
       have hb9 := below_setRow hHeld.1 (Nat.le_refl w.heap.size) (ints .u8 X).toArray
       refine hK.out _ _ (⟨hb9, (setRow_other _ _ _ _ (by omega)).trans hHeld.2⟩) (fun hHeld2 => ?_)
       clear hK K hHeld
       have hHeld := hHeld2
       clear hHeld2
       try simp only [Act.put, List.setIfInBounds_toArray, List.set_cons_zero, List.set_cons_succ]
       refine wpAnyH_done (by kernel_rfl) ?_ _
       refine NoPanic.normal ?_
       go_wp2_with fail
       exact bodyPost_ret (v := .agg (ints .u8 X).toArray) (results_cell_row Tryz.results17 _ _ w.heap.size 28 _ _ _ rfl (setRow_heap _ _ _ _ _ _ r1) Tryz.underlying28 rfl (by rw [Tryz.sizeD, LX.out])) rfl ⟨rfl, hb9⟩)
    | (refine wp_region_noPanic ?_
       refine wp_region_held_drew (S := (fun w' => Below w.heap.size w w' ∧ w'.heap[w1.heap.size]? = some (.cells (ints .u8 D).toArray 28 (0, 0)))) (by kernel_rfl) ⟨hB6.drew, qD⟩ (fun hHeld => ?_)
       refine wpAnyH_take (i := 0) (oi := { dst := some 34, op := Op.move (Operand.tmp 1), type := 48, pos := "ref.go:58", after := #[], guard := none }) (v := .slice (some ⟨ge, 0, none⟩) 257 ce) rfl (by kernel_rfl) (by kernel_rfl) (by kernel_rfl) (fun _ _ _ h => h) (Or.inl ⟨by rfl, by intro w hS; go_simp⟩) hHeld ?_
       try simp only [Act.put, List.setIfInBounds_toArray, List.set_cons_zero, List.set_cons_succ]
       refine wpAnyH_take (i := 1) (oi := { dst := some 35, op := Op.move (Operand.tmp 0), type := 3, pos := "ref.go:58", after := #[], guard := none }) (v := .int .i64 k) rfl (by kernel_rfl) (by kernel_rfl) (by kernel_rfl) (fun _ _ _ h => h) (Or.inl ⟨by rfl, by intro w hS; go_simp⟩) hHeld ?_
       try simp only [Act.put, List.setIfInBounds_toArray, List.set_cons_zero, List.set_cons_succ]
       refine wpAnyH_take (i := 2) (oi := { dst := some 36, op := Op.move (Operand.tmp 2), type := 26, pos := "ref.go:58", after := #[], guard := none }) (v := .slice (some ⟨b, o, none⟩) 1 cap) rfl (by kernel_rfl) (by kernel_rfl) (by kernel_rfl) (fun _ _ _ h => h) (Or.inl ⟨by rfl, by intro w hS; go_simp⟩) hHeld ?_
       try simp only [Act.put, List.setIfInBounds_toArray, List.set_cons_zero, List.set_cons_succ]
       refine wpAnyH_take (i := 6) (oi := { dst := some 40, op := Op.load 28 (Operand.tmp 9), type := 28, pos := "ref.go:58", after := #[], guard := none }) (v := .agg (ints .u8 D).toArray) rfl (by kernel_rfl) (by kernel_rfl) (by kernel_rfl) (fun _ _ _ h => h) (yieldsIf_load_mid (by rfl) 28 _ rfl w1.heap.size (0) rfl (ints .u8 D) _ (fun w hS => rng hS.2) Tryz.underlying28 rfl LD3.out) hHeld ?_
       try simp only [Act.put, List.setIfInBounds_toArray, List.set_cons_zero, List.set_cons_succ]
       refine wpAnyH_take (i := 7) (oi := { dst := some 41, op := Op.move (Operand.tmp 3), type := 3, pos := "ref.go:58", after := #[], guard := none }) (v := .int .i64 d) rfl (by kernel_rfl) (by kernel_rfl) (by kernel_rfl) (fun _ _ _ h => h) (Or.inl ⟨by rfl, by intro w hS; go_simp⟩) hHeld ?_
       try simp only [Act.put, List.setIfInBounds_toArray, List.set_cons_zero, List.set_cons_succ]
       refine wpAnyH_take (i := 3) (oi := { dst := some 37, op := Op.indexAddr 26 (Operand.tmp 36) (Operand.const (Value.int IntKind.i64 0)), type := 0, pos := "ref.go:58", after := #[{ on := 2, ground := Ground.data }], guard := none }) (v := .pointer (some ⟨b, o, none⟩)) rfl (by kernel_rfl) (by kernel_rfl) (by kernel_rfl) (fun _ _ _ h => h) (Or.inl ⟨by rfl, by intro w hS; go_simp⟩) hHeld ?_
       try simp only [Act.put, List.setIfInBounds_toArray, List.set_cons_zero, List.set_cons_succ]
       refine wpAnyH_take (i := 8) (oi := { dst := some 42, op := Op.binOp BinOp.sub 3 (Operand.const (Value.int IntKind.i64 256)) (Operand.tmp 41) 3, type := 3, pos := "ref.go:58", after := #[{ on := 7, ground := Ground.data }], guard := none }) (v := .int .i64 h) rfl (by kernel_rfl) (by kernel_rfl) (by kernel_rfl) (fun _ _ _ h => h) (Or.inl ⟨by rfl, by intro w hS; go_simp; exact wrap_i64_id _ (by omega) (by omega)⟩) hHeld ?_
       try simp only [Act.put, List.setIfInBounds_toArray, List.set_cons_zero, List.set_cons_succ]
       refine wpAnyH_take (i := 4) (oi := { dst := some 38, op := Op.fieldAddr 67 (Operand.tmp 37) 0, type := 0, pos := "ref.go:58", after := #[{ on := 3, ground := Ground.data }], guard := none }) (v := .pointer (some ⟨b, o, none⟩)) rfl (by kernel_rfl) (by kernel_rfl) (by kernel_rfl) (fun _ _ _ h => h) (Or.inl ⟨by rfl, by intro w hS; go_simp⟩) hHeld ?_
       try simp only [Act.put, List.setIfInBounds_toArray, List.set_cons_zero, List.set_cons_succ]
       refine wpAnyH_take (i := 5) (oi := { dst := some 39, op := Op.load 24 (Operand.tmp 38), type := 24, pos := "ref.go:58", after := #[{ on := 4, ground := Ground.data }], guard := none }) (v := .agg (ints .u8 e0.k).toArray) rfl (by kernel_rfl) (by kernel_rfl) (by kernel_rfl) (fun _ _ _ h => h) (yieldsIf_load_mid (by rfl) 24 _ rfl b (o) rfl (ints .u8 e0.k) _ (fun w hS => rng_below hrk hS.1 hbl) Tryz.underlying24 rfl LK.out) hHeld ?_
       try simp only [Act.put, List.setIfInBounds_toArray, List.set_cons_zero, List.set_cons_succ]
       refine wpAnyH_ready (rs := [9]) (by kernel_rfl) (by simp) ?_
       refine (AllReadyH.cons (o := { dst := some 43, op := Op.call { callee := Callee.value (Operand.func 34), args := #[Operand.tmp 34, Operand.tmp 35, Operand.tmp 39, Operand.const (Value.int IntKind.i64 0), Operand.tmp 40, Operand.tmp 42], argTypes := #[48, 3, 24, 3, 28, 3] }, type := 28, pos := "ref.go:58", after := #[{ on := 0, ground := Ground.data }, { on := 1, ground := Ground.data }, { on := 5, ground := Ground.data }, { on := 6, ground := Ground.data }, { on := 8, ground := Ground.data }], guard := none }) rfl (fun K hK => ?_) AllReadyH.nil)
       go_simp
       go_at_call 34
       refine (KW.out _ (hG.below hHeld.1 hG.1.1) hHeld.1).mono ?_
       rintro e w7 ⟨rfl, hb7⟩
       replace r1 := hbel hb7 r1 (hlt r1)
       go_wp2_with fail
       refine hK.out _ _ (⟨hHeld.1.trans (hb7.mono hHeld.1.size), hbel hb7 hHeld.2 (hlt hHeld.2)⟩) (fun hHeld2 => ?_)
       clear hK K hHeld
       have hHeld := hHeld2
       clear hHeld2
       try simp only [Act.put, List.setIfInBounds_toArray, List.set_cons_zero, List.set_cons_succ]
       refine wpAnyH_ready (rs := [10]) (by kernel_rfl) (by simp) ?_
       refine (AllReadyH.cons (o := { dst := none, op := Op.store 28 (Operand.tmp 8) (Operand.tmp 43), type := 0, pos := "ref.go:58", after := #[{ on := 9, ground := Ground.data }, { on := 9, ground := Ground.chain }, { on := 0, ground := Ground.phase }, { on := 1, ground := Ground.phase }, { on := 2, ground := Ground.phase }, { on := 3, ground := Ground.phase }, { on := 4, ground := Ground.phase }, { on := 5, ground := Ground.phase }, { on := 6, ground := Ground.phase }, { on := 7, ground := Ground.phase }, { on := 8, ground := Ground.phase }, { on := 9, ground := Ground.phase }], guard := none }) rfl (fun K hK => ?_) AllReadyH.nil)
       rw [if_pos (by rfl)]
       refine wp_store_row 28 _ _ rfl w.heap.size (ints .u8 X).toArray rfl rfl 28 _ r1 (by rw [Tryz.sizeD, LX.out]) (by rw [LX.out, LZ.out]) (all_oneCell_toArray (ints_one _ _)) ?_
       have hb9 := below_setRow hHeld.1 (Nat.le_refl w.heap.size) (ints .u8 X).toArray
       refine hK.out _ _ (⟨hb9, (setRow_other _ _ _ _ (by omega)).trans hHeld.2⟩) (fun hHeld2 => ?_)
       clear hK K hHeld
       have hHeld := hHeld2
       clear hHeld2
       try simp only [Act.put, List.setIfInBounds_toArray, List.set_cons_zero, List.set_cons_succ]
       refine wpAnyH_done (by kernel_rfl) ?_ _
       refine NoPanic.normal ?_
       go_wp2_with fail
       exact bodyPost_ret (v := .agg (ints .u8 X).toArray) (results_cell_row Tryz.results17 _ _ w.heap.size 28 _ _ _ rfl (setRow_heap _ _ _ _ _ _ r1) Tryz.underlying28 rfl (by rw [Tryz.sizeD, LX.out])) rfl ⟨rfl, hb9⟩)
set_option maxRecDepth 100000 in
set_option maxHeartbeats 4000000 in
theorem qdigest_more (d h : Nat) (hh : d + (h + 1) = 256)
    (IH : ∀ (w : World) (hG : Gb w) (k : Int) (ge ce : Nat) (hgw : ge < w.heap.size) (hR : ∀ i, i < 257 → w.rangeAt ge (i * 32) (ints .u8 (emptyD k i))) (hce : (ce : Int) ≤ 9223372036854775807) (m : List EnM) (hm : MapVs m) (hs : Shr m h) (ho : SrtM m) (hN : m.length ≤ 1000000) (sp : Option Addr) (cap : Nat) (hS : SrcE w sp cap m), Calls Tryz.prog 17 #[.int .i64 k, .slice (some ⟨ge, 0, none⟩) 257 ce, .slice sp m.length cap, .int .i64 ((d + 1 : Nat) : Int)] w fun e w' => e = .returned (.agg (ints .u8 (tD k h m)).toArray) ∧ Below w.heap.size w w')
    (w : World) (hG : Gb w) (k : Int) (ge ce : Nat) (hgw : ge < w.heap.size) (hR : ∀ i, i < 257 → w.rangeAt ge (i * 32) (ints .u8 (emptyD k i))) (hce : (ce : Int) ≤ 9223372036854775807) (m : List EnM) (hm : MapVs m) (hs : Shr m (h + 1)) (ho : SrtM m) (hN : m.length ≤ 1000000) (h2 : 2 ≤ m.length) (sp : Option Addr) (cap : Nat) (hS : SrcE w sp cap m) :
    Calls Tryz.prog 17 #[.int .i64 k, .slice (some ⟨ge, 0, none⟩) 257 ce, .slice sp m.length cap, .int .i64 d] w fun e w' => e = .returned (.agg (ints .u8 (tD k (h + 1) m)).toArray) ∧ Below w.heap.size w w' := by
  have AD := hid allocDg
  have i0 : (m.length : Int) ≤ 1000000 := by omega
  have i1 : ¬ ((m.length : Int) = 0) := by omega
  have i1b : ((m.length : Int) == 0) = false := by simpa using i1
  have i2 : ¬ ((m.length : Int) = 1) := by omega
  have i2b : ((m.length : Int) == 1) = false := by simpa using i2
  have i3 : (d : Int) < 256 := by omega
  obtain ⟨hf0, hf1⟩ := splN_filt (m := m) (n := d) ho (fun a ha b hb => by have := hs.ag a ha b hb; rwa [show 256 - (h + 1) = d by omega] at this)
  have hdd : 255 - h = d := by omega
  have hm0 := hm.filt (fun e => decide (bitK e.k d = 0))
  have hm1 := hm.filt (fun e => decide (bitK e.k d = 1))
  have hs0 := hs.filt (by omega) 0
  have hs1 := hs.filt (by omega) 1
  rw [hdd] at hs0 hs1
  have HT := hid (show tD k (h + 1) m = branchD k (tD k h (m.filter fun e => decide (bitK e.k d = 0))) (tD k h (m.filter fun e => decide (bitK e.k d = 1))) by rw [← hdd, ← filt_not]; rfl)
  have hsub0 : (m.take (splN m d)).Sublist m := List.take_sublist _ _
  have hsub1 : (m.drop (splN m d)).Sublist m := List.drop_sublist _ _
  rw [hf0] at hm0 hs0
  rw [hf1] at hm1 hs1
  rw [hf0, hf1] at HT
  have KS := hid (fun w1 (b1 : Below w.heap.size w w1) => split_any w1 m hm hN sp cap (hS.below b1) d (by omega))
  have hKl := splN_le m d
  obtain ⟨b, o, _, rfl, _, _, _⟩ := hS.at 0 (by omega)
  obtain ⟨hE1, hE2⟩ := hS.part (by omega) (splN m d) hKl
  have hcap := hS.1
  have l0 : (m.take (splN m d)).length = splN m d := by rw [List.length_take]; omega
  have l1 : (m.drop (splN m d)).length = m.length - splN m d := by rw [List.length_drop]
  generalize hML : m.take (splN m d) = ML at *
  generalize hMR : m.drop (splN m d) = MR at *
  have ho0 := ho.sub hsub0
  have ho1 := ho.sub hsub1
  clear hML hMR hf0 hf1 hsub0 hsub1
  generalize splN m d = K at *
  have q1 : ∀ w1, (Instr.slice 26 (.slice (some ⟨b, o, none⟩) m.length cap) none (some (.int .i64 (K : Nat))) none).run Tryz.prog w1 = _ := fun w1 => slE_h w1 b o m.length cap K (by omega)
  have q2 : ∀ w1, (Instr.slice 26 (.slice (some ⟨b, o, none⟩) m.length cap) (some (.int .i64 (K : Nat))) none none).run Tryz.prog w1 = _ := fun w1 => slE_l w1 b o m.length cap K hKl
  generalize (if cap = K then some (⟨b, o, none⟩ : Addr) else some ⟨b, o + K * 33, none⟩) = sp2 at *
  have KL := hid (fun w1 (g1 : Gb w1) (b1 : Below w.heap.size w w1) => IH w1 g1 k ge ce (Nat.lt_of_lt_of_le hgw b1.size) (fun i hi => rng_below (hR i hi) b1 hgw) hce ML hm0 hs0 ho0 (by omega) _ _ (hE1.below b1))
  have KR := hid (fun w1 (g1 : Gb w1) (b1 : Below w.heap.size w w1) => IH w1 g1 k ge ce (Nat.lt_of_lt_of_le hgw b1.size) (fun i hi => rng_below (hR i hi) b1 hgw) hce MR hm1 hs1 ho1 (by omega) _ _ (hE2.below b1))
  rw [l0, show ((d + 1 : Nat) : Int) = (d : Int) + 1 by omega] at KL
  rw [l1, show ((d + 1 : Nat) : Int) = (d : Int) + 1 by omega] at KR
  have HLn := hid (tD_len k h ML)
  have HRn := hid (tD_len k h MR)
  have KB := hid (fun w1 (g1 : Gb w1) => xbranch_any w1 g1 k _ _ HLn.out HRn.out)
  rw [← HT.out] at KB
  have hXl := tD_len k (h + 1) m
  generalize tD k (h + 1) m = X at *
  generalize tD k h ML = DL at *
  generalize tD k h MR = DR2 at *
  have LDl := hid (show (ints .u8 DL).length = 32 by rw [ints_len, HLn.out])
  have LDr := hid (show (ints .u8 DR2).length = 32 by rw [ints_len, HRn.out])
  have LDl2 := hid (show (Tryz.prog.info? 28).map (·.size) = some (ints .u8 DL).toArray.size by rw [Tryz.sizeD, List.size_toArray, LDl.out])
  have LDr2 := hid (show (Tryz.prog.info? 28).map (·.size) = some (ints .u8 DR2).toArray.size by rw [Tryz.sizeD, List.size_toArray, LDr.out])
  have hb1 : Below w.heap.size w (w.alloc (.cells (ints .u8 zB).toArray 28)) := (Below.refl _ _).alloc (Nat.le_refl _) _
  have r1 := hnew w (.cells (ints .u8 zB).toArray 28)
  have LZ := hid (show (ints .u8 zB).toArray.size = 32 from rfl)
  have LZ2 := hid (show (ints .u8 zB).length = 32 from rfl)
  have LX := hid (show (ints .u8 X).toArray.size = 32 by rw [ints_size, hXl])
  generalize m.length - K = R at *
  generalize cap - K = cap2 at *
  clear HT IH hs hm0 hm1 hs0 hs1 ho ho0 ho1 hE1 hE2 hS l0 l1 hR hh hdd hcap
  go_enter Tryz.func17, Tryz.ntmps17
  go_wp2_with (first | refine wpList_allocV AD.out rfl rfl ?_ | (refine (KS.out _ (by assumption)).mono ?_; rintro e w2 ⟨rfl, hb2⟩; refine Hid.out ?_))
  refine hid ?_
  have kr := hbel hb2 r1 (hlt r1)
  have hB := hb1.trans (hb2.mono hb1.size)
  clear KS hb1 hb2 r1
  have K1 := hid (KL.out w2 (hG.below hB hG.1.1) hB)
  go_wp2_with (first | (refine K1.out.mono ?_; rintro e w5 ⟨rfl, hb5⟩; refine Hid.out ?_))
  refine hid ?_
  go_wp2_with (first | (refine wpList_new AD.out LZ2.out Tryz.sizeD rfl rfl rfl _ _ rfl rfl (ints .u8 DL) rfl rfl LDl.out (ints_one _ _) ?_; refine Hid.out ?_))
  refine hid ?_
  have r6 := hnew w5 (.cells (ints .u8 DL).toArray 28)
  have hb6 : Below w2.heap.size w2 (w5.alloc (.cells (ints .u8 DL).toArray 28)) := hb5.alloc hb5.size _
  have kr6 := hbel hb6 kr (hlt kr)
  have hB6 := hB.trans (hb6.mono hB.size)
  have hg5 : w.heap.size < w5.heap.size := Nat.lt_of_lt_of_le (hlt kr) hb5.size
  clear K1 hb6 hb5 kr hB
  generalize w5.alloc (.cells (ints .u8 DL).toArray 28) = w6 at *
  generalize w5.heap.size = g5 at *
  have K2 := hid (KR.out w6 (hG.below hB6 hG.1.1) hB6)
  go_wp2_with (first | (refine K2.out.mono ?_; rintro e w7 ⟨rfl, hb7⟩; refine Hid.out ?_))
  refine hid ?_
  go_wp2_with (first | (refine wpList_new AD.out LZ2.out Tryz.sizeD rfl rfl rfl _ _ rfl rfl (ints .u8 DR2) rfl rfl LDr.out (ints_one _ _) ?_; refine Hid.out ?_))
  refine hid ?_
  have r8 := hnew w7 (.cells (ints .u8 DR2).toArray 28)
  have hb8 : Below w6.heap.size w6 (w7.alloc (.cells (ints .u8 DR2).toArray 28)) := hb7.alloc hb7.size _
  have r68 := hbel hb8 r6 (hlt r6)
  have kr8 := hbel hb8 kr6 (hlt kr6)
  have hB8 := hB6.trans (hb8.mono hB6.size)
  have hg7 : w.heap.size < w7.heap.size := Nat.lt_of_lt_of_le (hlt kr6) hb7.size
  clear K2 hb8 hb7 kr6 hB6 r6
  generalize w7.alloc (.cells (ints .u8 DR2).toArray 28) = w8 at *
  generalize w7.heap.size = g7 at *
  have K3 := hid (KB.out w8 (hG.below hB8 hG.1.1))
  go_wp2_with (first
    | refine wpList_load_row rfl 28 _ rfl g5 rfl 28 _ _ _ r68 Tryz.underlying28 rfl LDl2.out ?_
    | refine wpList_load_row rfl 28 _ rfl g7 rfl 28 _ _ _ r8 Tryz.underlying28 rfl LDr2.out ?_
    | (refine K3.out.mono ?_; rintro e w9 ⟨rfl, hb9⟩; refine Hid.out ?_))
  refine hid ?_
  have kr9 := hbel hb9 kr8 (hlt kr8)
  have hB9 := hB8.trans (hb9.mono hB8.size)
  go_wp2_with (first | refine wpList_store_row rfl 28 _ _ rfl w.heap.size (ints .u8 X).toArray rfl rfl 28 _ kr9 (by rw [Tryz.sizeD, LX.out]) (by rw [LX.out, LZ.out]) (all_oneCell_toArray (ints_one _ _)) ?_)
  exact bodyPost_ret (v := .agg (ints .u8 X).toArray) (results_cell_row Tryz.results17 _ _ w.heap.size 28 _ _ _ rfl (setRow_heap _ _ _ _ _ _ kr9) Tryz.underlying28 rfl (by rw [Tryz.sizeD, LX.out])) rfl ⟨rfl, below_setRow hB9 (Nat.le_refl _) _⟩
theorem qdigest_any : ∀ (h d : Nat), d + h = 256 → ∀ (w : World) (hG : Gb w) (k : Int) (ge ce : Nat) (hgw : ge < w.heap.size) (hR : ∀ i, i < 257 → w.rangeAt ge (i * 32) (ints .u8 (emptyD k i))) (hce : (ce : Int) ≤ 9223372036854775807) (m : List EnM) (hm : MapVs m) (hs : Shr m h) (ho : SrtM m) (hN : m.length ≤ 1000000) (sp : Option Addr) (cap : Nat) (hS : SrcE w sp cap m), Calls Tryz.prog 17 #[.int .i64 k, .slice (some ⟨ge, 0, none⟩) 257 ce, .slice sp m.length cap, .int .i64 d] w fun e w' => e = .returned (.agg (ints .u8 (tD k h m)).toArray) ∧ Below w.heap.size w w'
  | h, d, hh, w, hG, k, ge, ce, hgw, hR, hce, m, hm, hs, ho, hN, sp, cap, hS => by
    by_cases h0 : m.length = 0
    · obtain rfl := List.eq_nil_of_length_eq_zero h0
      exact qdigest_nil w hG k ge ce hgw hR sp cap d h hh
    · by_cases h1 : m.length = 1
      · obtain ⟨e0, rfl⟩ : ∃ e0, m = [e0] := ⟨_, two_first m dE h1⟩
        obtain ⟨a, b⟩ := hm.ok e0 (by simp)
        exact qdigest_one w hG k ge ce hgw hR hce e0 a b sp cap (by have := hS.2.1; unfold maxLen at this; omega) hS d h hh
      · match h, hh, hs with
        | 0, _, hs => exact absurd (hs.zero hm) (by omega)
        | h + 1, hh, hs => exact qdigest_more d h hh (fun w hG k ge ce hgw hR hce m hm hs ho hN sp cap hS => qdigest_any h (d + 1) (by omega) w hG k ge ce hgw hR hce m hm hs ho hN sp cap hS) w hG k ge ce hgw hR hce m hm hs ho hN (by omega) sp cap hS
end Go.Proofs.YtbjahdbmkcamoaaGreatDoor
