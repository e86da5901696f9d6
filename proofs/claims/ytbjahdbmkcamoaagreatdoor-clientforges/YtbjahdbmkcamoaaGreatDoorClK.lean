import Derived.Test.YtbjahdbmkcamoaaGreatDoorClJ
namespace Go.Proofs.YtbjahdbmkcamoaaGreatDoor
set_option linter.unusedVariables false
set_option linter.unusedSimpArgs false
open Go.RowKit
attribute [local go_sem ↓] Go.wp_at_zero Go.wp_at_succ

/-! What Verify tells. -/
def verE (k : Int) (root ks t : List Int) : Int := if k < 1 ∨ 32 < k then 1 else heldE k root ks t
def verF (k : Int) (root ks t : List Int) : Bool := if verE k root ks t = 0 then (decV t).f else false
def verV (k : Int) (root ks t : List Int) : List Int := if verE k root ks t = 0 then (decV t).vs else []
theorem built_anB (f : Bool) (s : Option Addr) (n c : Nat) : Tryz.prog.built 33 [(0, .bool f), (1, .slice s n c)] = some (ansC f (.slice s n c)).toArray := by cases f <;> kernel_rfl
def VerP (w : World) (k : Int) (root ks t : List Int) (e : Ending) (w' : World) : Prop := ∃ s c, e = .returned (.tuple #[.agg (ansC (verF k root ks t) (.slice s (verV k root ks t).length c)).toArray, .int .i64 (verE k root ks t)]) ∧ Own w' w.heap.size (.slice s (verV k root ks t).length c) (verV k root ks t) ∧ Below w.heap.size w w'
theorem verP_no {w w' : World} {k : Int} {root ks t : List Int} {x : Int} (hx : x ≠ 0) (h : verE k root ks t = x) (hb : Below w.heap.size w w') : VerP w k root ks t (.returned (.tuple #[.agg (ansC false (.slice none 0 0)).toArray, .int .i64 x])) w' := by
  have h1 : verF k root ks t = false := by unfold verF; rw [h, if_neg hx]
  have h2 : verV k root ks t = [] := by unfold verV; rw [h, if_neg hx]
  unfold VerP
  rw [h1, h2, h]
  exact ⟨none, 0, rfl, Own.nil _ _, hb⟩
theorem verP_yes {w w' : World} {k : Int} {root ks t : List Int} (h : verE k root ks t = 0) (hb : Below w.heap.size w w') {s : Option Addr} {c : Nat} (hO : Own w' w.heap.size (.slice s (decV t).vs.length c) (decV t).vs) : VerP w k root ks t (.returned (.tuple #[.agg (ansC (decV t).f (.slice s (decV t).vs.length c)).toArray, .int .i64 0])) w' := by
  have h1 : verF k root ks t = (decV t).f := by unfold verF; rw [h, if_pos rfl]
  have h2 : verV k root ks t = (decV t).vs := by unfold verV; rw [h, if_pos rfl]
  unfold VerP
  rw [h1, h2, h]
  exact ⟨s, c, rfl, hO, hb⟩
set_option maxRecDepth 100000 in
set_option maxHeartbeats 4000000 in
theorem verify_bad (w : World) (k : Int) (root ks t : List Int) (hr : root.length = 32) (hk : ks.length = 32) (sp : Option Addr) (cap : Nat) (hw : k < 1 ∨ 32 < k) :
    Calls Tryz.prog 8 #[.int .i64 k, .agg (ints .u8 root).toArray, .agg (ints .u8 ks).toArray, .slice sp t.length cap] w (VerP w k root ks t) := by
  have HV := hid (fun w' hb => verP_no (w := w) (w' := w') (x := 1) (by decide) (show verE k root ks t = 1 by unfold verE; rw [if_pos hw]) hb)
  have KT := hid (fun w1 => termsOf_bad w1 k root hr hw)
  have AA := hid allocAn
  have AT := hid allocTm
  have BZ := hid built_an0
  have d0 := (((BK.nil w).alloc (ints .u8 root) 28).alloc (ints .u8 ks) 24).alloc (ansC false (.slice none 0 0)) 33
  rw [show (w.alloc (.cells (ints .u8 root).toArray 28)).heap.size = w.heap.size + 1 by simp, show ((w.alloc (.cells (ints .u8 root).toArray 28)).alloc (.cells (ints .u8 ks).toArray 24)).heap.size = w.heap.size + 2 by simp] at d0
  have LR := hid (show (Tryz.prog.info? 28).map (·.size) = some (ints .u8 root).toArray.size by rw [Tryz.sizeD, ints_size, hr])
  have LK := hid (show (Tryz.prog.info? 24).map (·.size) = some (ints .u8 ks).toArray.size by rw [Tryz.sizeKy, ints_size, hk])
  have LZ := hid (show (tmC 0 zB (.slice none 0 0)).length = 34 from rfl)
  have LA := hid (show (ansC false (.slice none 0 0)).length = 2 from rfl)
  have OA := hid (ansC_one false none 0 0)
  have rr := d0.row (.tail _ (.tail _ (.head _)))
  have OZ := hid (tmC_one (k := 0) (root := zB) (e := .slice none 0 0) rfl)
  generalize tmC 0 zB (.slice none 0 0) = TZ at *
  generalize ansC false (.slice none 0 0) = AZ at *
  generalize VerP w k root ks t = VP at *
  go_enter Tryz.func8, Tryz.ntmps8
  go_wp2_with (first
    | refine wpList_allocV AA.out rfl rfl ?_
    | refine wpList_load_row rfl 28 _ rfl _ rfl 28 _ _ _ rr Tryz.underlying28 rfl LR.out ?_
    | (refine (KT.out _).mono ?_; rintro e w2 ⟨rfl, hb2⟩; refine Hid.out ?_))
  refine hid ?_
  have d2 := d0.call hb2
  clear d0 rr KT hb2
  go_wp2_with (first | (refine wpList_new AT.out LZ.out Tryz.sizeTm rfl rfl rfl _ _ rfl rfl TZ rfl rfl LZ.out OZ.out ?_; refine Hid.out ?_))
  refine hid ?_
  have d3 := d2.alloc TZ 57
  have r3 := d3.row (.tail _ (.head _))
  clear d2
  generalize w2.alloc (.cells TZ.toArray 57) = w3 at *
  go_wp2_with (first
    | refine wpList_built (by rfl) 33 _ (by rfl) _ (by rfl) _ BZ.out ?_
    | refine wpList_store_row rfl 33 _ _ (by rfl) (w.heap.size + 2) AZ.toArray (by rfl) (by rfl) 33 _ r3 (by rw [Tryz.sizeAn, List.size_toArray, LA.out]) rfl (all_oneCell_toArray OA.out) ?_)
  exact bodyPost_ret (v := .tuple #[.agg AZ.toArray, .int .i64 1]) (results_c2 Tryz.results8 _ _ (w.heap.size + 2) 33 _ _ _ rfl (setRow_heap _ _ _ _ _ _ r3) Tryz.underlying33 rfl (by rw [Tryz.sizeAn, List.size_toArray, LA.out])) rfl (HV.out _ (below_setRow d3.1 (by omega) _))
set_option maxRecDepth 100000 in
set_option maxHeartbeats 4000000 in
theorem verify_ok (w : World) (hG : Glob w) (n : Nat) (h1 : 1 ≤ n) (h2 : n ≤ 32) (root ks t : List Int) (hr : root.length = 32) (hk : ks.length = 32) (hyk : Bys ks) (sp : Option Addr) (cap : Nat) (hy : Bys t) (hS : Src w sp cap t) :
    Calls Tryz.prog 8 #[.int .i64 (n : Nat), .agg (ints .u8 root).toArray, .agg (ints .u8 ks).toArray, .slice sp t.length cap] w (VerP w n root ks t) := by
  have hvE : verE n root ks t = heldE n root ks t := by unfold verE; rw [if_neg (by omega)]
  have KT := hid (fun w1 (g1 : Glob w1) => termsOf_ok w1 g1 n root hr (by omega) (by omega))
  have KH := hid (fun w1 (g1 : Glob w1) ge he (s1 : Src w1 sp cap t) => held_any w1 g1 n h2 root ks t hr hk hyk ge he sp cap hy s1)
  have OT := hid (fun ge => tmC_one (k := n) (root := root) (e := .slice (some ⟨ge, 0, none⟩) 256 256) rfl)
  have LT := hid (fun ge => tmC_len (k := n) (e := .slice (some ⟨ge, 0, none⟩) 256 256) hr)
  have AA := hid allocAn
  have AT := hid allocTm
  have BZ := hid built_an0
  have d0 := (((BK.nil w).alloc (ints .u8 root) 28).alloc (ints .u8 ks) 24).alloc (ansC false (.slice none 0 0)) 33
  rw [show (w.alloc (.cells (ints .u8 root).toArray 28)).heap.size = w.heap.size + 1 by simp, show ((w.alloc (.cells (ints .u8 root).toArray 28)).alloc (.cells (ints .u8 ks).toArray 24)).heap.size = w.heap.size + 2 by simp] at d0
  have LR := hid (show (Tryz.prog.info? 28).map (·.size) = some (ints .u8 root).toArray.size by rw [Tryz.sizeD, ints_size, hr])
  have LK := hid (show (Tryz.prog.info? 24).map (·.size) = some (ints .u8 ks).toArray.size by rw [Tryz.sizeKy, ints_size, hk])
  have LZ := hid (show (tmC 0 zB (.slice none 0 0)).length = 34 from rfl)
  have LA := hid (show (ansC false (.slice none 0 0)).length = 2 from rfl)
  have OA := hid (ansC_one false none 0 0)
  have rr := d0.row (.tail _ (.tail _ (.head _)))
  have rk := d0.row (.tail _ (.head _))
  generalize tmC 0 zB (.slice none 0 0) = TZ at *
  generalize tmC (n : Int) root = TM at *
  have i1 : (n : Int) ≤ 32 := by omega
  by_cases hH : heldE n root ks t = 0
  · have HV := hid (fun w' hb s c hO => verP_yes (w := w) (w' := w') (hvE.trans hH) hb (s := s) (c := c) hO)
    rw [hH] at KH
    have BA := hid (fun s m c => built_anB (decV t).f s m c)
    have OA2 := hid (fun s m c => ansC_one (decV t).f s m c)
    have LA2 := hid (fun s m c => show (ansC (decV t).f (.slice s m c)).length = 2 from rfl)
    generalize VerP w n root ks t = VP at *
    clear hvE hH
    go_enter Tryz.func8, Tryz.ntmps8
    go_wp2_with (first
      | refine wpList_allocV AA.out rfl rfl ?_
      | refine wpList_load_row rfl 28 _ rfl _ rfl 28 _ _ _ rr Tryz.underlying28 rfl LR.out ?_
      | (refine (KT.out _ (hG.below d0.1 hG.1)).mono ?_; rintro e w2 ⟨ge, rfl, hge, re, hb2⟩; refine Hid.out ?_))
    refine hid ?_
    have d2 := d0.call hb2
    clear d0 rr rk KT hb2
    go_wp2_with (first | (refine wpList_new AT.out LZ.out Tryz.sizeTm rfl rfl rfl _ _ rfl rfl (TM (.slice (some ⟨ge, 0, none⟩) 256 256)) rfl rfl (LT.out _) (OT.out _) ?_; refine Hid.out ?_))
    refine hid ?_
    have d3 := d2.alloc (TM (.slice (some ⟨ge, 0, none⟩) 256 256)) 57
    have re3 := hold (o := .cells (TM (.slice (some ⟨ge, 0, none⟩) 256 256)).toArray 57) re
    clear d2 re
    generalize w2.alloc (.cells (TM (.slice (some ⟨ge, 0, none⟩) 256 256)).toArray 57) = w3 at *
    generalize w2.heap.size = G at *
    have rt := d3.row (.head _)
    have rk := d3.row (.tail _ (.tail _ (.head _)))
    have LT2 := hid (show (Tryz.prog.info? 57).map (·.size) = some (TM (.slice (some ⟨ge, 0, none⟩) 256 256)).toArray.size by rw [Tryz.sizeTm, List.size_toArray, LT.out])
    go_wp2_with (first
      | refine wpList_load_row rfl 57 _ rfl _ rfl 57 _ _ _ rt Tryz.underlying57 rfl LT2.out ?_
      | refine wpList_load_row rfl 24 _ rfl _ rfl 24 _ _ _ rk Tryz.underlying24 rfl LK.out ?_
      | (refine (KH.out _ (hG.below d3.1 hG.1) ge re3 (hS.below d3.1 (Nat.le_refl _))).mono ?_; rintro e w4 ⟨v4, rfl, hb4, -, hv4⟩; refine Hid.out ?_))
    refine hid ?_
    obtain ⟨cb, rfl, P, hV4, hO4⟩ := hv4 (by first | rfl | trivial)
    have d4 := d3.call hb4
    have r4 := d4.row (.tail _ (.head _))
    have hlt4 := d3.lt (.tail _ (.head _))
    have hO5 := hid hO4
    have cf := hV4.f
    have cv := hV4.v
    have hcb := hV4.cbl
    have hcbne : cb ≠ w.heap.size + 2 := ne_tyC hV4.row r4 (by decide)
    have hd3s := d3.1.size
    clear d3 rt rk re3 KH hb4 hv4 hV4 hO4
    generalize P.s1 = s1 at *
    generalize P.c1 = c1 at *
    generalize hM : (decV t).vs.length = m at *
    have HM := hid hM
    clear hM
    generalize hFF : (decV t).f = ff at *
    clear hFF
    go_wp2_with fail
    refine wp_region_noPanic ?_
    refine wp_region_held_drew (S := (fun w' => w'.cell? ⟨cb, 67, none⟩ = some (.bool ff) ∧ w'.cell? ⟨cb, 68, none⟩ = some (.slice s1 m c1))) (by kernel_rfl) ⟨cf, cv⟩ (fun hHeld => ?_)
    refine wpAnyH_take (i := 0) (oi := { dst := some 34, op := Op.move (Operand.tmp 12), type := 60, pos := "client.go:22", after := #[], guard := none }) (v := .pointer (some ⟨cb, 0, none⟩)) rfl (by kernel_rfl) (by kernel_rfl) (by kernel_rfl) (fun _ _ _ h => h) (Or.inl ⟨by rfl, by intro w hS; go_simp⟩) hHeld ?_
    try simp only [Act.put, List.setIfInBounds_toArray, List.set_cons_zero, List.set_cons_succ]
    refine wpAnyH_take (i := 5) (oi := { dst := some 39, op := Op.move (Operand.tmp 12), type := 60, pos := "client.go:22", after := #[], guard := none }) (v := .pointer (some ⟨cb, 0, none⟩)) rfl (by kernel_rfl) (by kernel_rfl) (by kernel_rfl) (fun _ _ _ h => h) (Or.inl ⟨by rfl, by intro w hS; go_simp⟩) hHeld ?_
    try simp only [Act.put, List.setIfInBounds_toArray, List.set_cons_zero, List.set_cons_succ]
    refine wpAnyH_take (i := 1) (oi := { dst := some 35, op := Op.nilCheck (Operand.tmp 34), type := 0, pos := "client.go:22", after := #[{ on := 0, ground := Ground.data }], guard := none }) (v := .pointer (some ⟨cb, 0, none⟩)) rfl (by kernel_rfl) (by kernel_rfl) (by kernel_rfl) (fun _ _ _ h => h) (Or.inl ⟨by rfl, by intro w hS; go_simp⟩) hHeld ?_
    try simp only [Act.put, List.setIfInBounds_toArray, List.set_cons_zero, List.set_cons_succ]
    refine wpAnyH_take (i := 6) (oi := { dst := some 40, op := Op.nilCheck (Operand.tmp 39), type := 0, pos := "client.go:22", after := #[{ on := 5, ground := Ground.data }], guard := none }) (v := .pointer (some ⟨cb, 0, none⟩)) rfl (by kernel_rfl) (by kernel_rfl) (by kernel_rfl) (fun _ _ _ h => h) (Or.inl ⟨by rfl, by intro w hS; go_simp⟩) hHeld ?_
    try simp only [Act.put, List.setIfInBounds_toArray, List.set_cons_zero, List.set_cons_succ]
    refine wpAnyH_take (i := 2) (oi := { dst := some 36, op := Op.fieldAddr 64 (Operand.tmp 35) 3, type := 0, pos := "client.go:22", after := #[{ on := 1, ground := Ground.data }], guard := none }) (v := .pointer (some ⟨cb, 67, none⟩)) rfl (by kernel_rfl) (by kernel_rfl) (by kernel_rfl) (fun _ _ _ h => h) (Or.inl ⟨by rfl, by intro w hS; go_simp⟩) hHeld ?_
    try simp only [Act.put, List.setIfInBounds_toArray, List.set_cons_zero, List.set_cons_succ]
    refine wpAnyH_take (i := 7) (oi := { dst := some 41, op := Op.fieldAddr 64 (Operand.tmp 40) 3, type := 0, pos := "client.go:22", after := #[{ on := 6, ground := Ground.data }], guard := none }) (v := .pointer (some ⟨cb, 67, none⟩)) rfl (by kernel_rfl) (by kernel_rfl) (by kernel_rfl) (fun _ _ _ h => h) (Or.inl ⟨by rfl, by intro w hS; go_simp⟩) hHeld ?_
    try simp only [Act.put, List.setIfInBounds_toArray, List.set_cons_zero, List.set_cons_succ]
    refine wpAnyH_take (i := 3) (oi := { dst := some 37, op := Op.fieldAddr 52 (Operand.tmp 36) 0, type := 0, pos := "client.go:22", after := #[{ on := 2, ground := Ground.data }], guard := none }) (v := .pointer (some ⟨cb, 67, none⟩)) rfl (by kernel_rfl) (by kernel_rfl) (by kernel_rfl) (fun _ _ _ h => h) (Or.inl ⟨by rfl, by intro w hS; go_simp⟩) hHeld ?_
    try simp only [Act.put, List.setIfInBounds_toArray, List.set_cons_zero, List.set_cons_succ]
    refine wpAnyH_take (i := 8) (oi := { dst := some 42, op := Op.fieldAddr 52 (Operand.tmp 41) 1, type := 0, pos := "client.go:22", after := #[{ on := 7, ground := Ground.data }], guard := none }) (v := .pointer (some ⟨cb, 68, none⟩)) rfl (by kernel_rfl) (by kernel_rfl) (by kernel_rfl) (fun _ _ _ h => h) (Or.inl ⟨by rfl, by intro w hS; go_simp⟩) hHeld ?_
    try simp only [Act.put, List.setIfInBounds_toArray, List.set_cons_zero, List.set_cons_succ]
    refine wpAnyH_take (i := 4) (oi := { dst := some 38, op := Op.load 4 (Operand.tmp 37), type := 4, pos := "client.go:22", after := #[{ on := 3, ground := Ground.data }], guard := none }) (v := .bool ff) rfl (by kernel_rfl) (by kernel_rfl) (by kernel_rfl) (fun _ _ _ h => h) (Or.inl ⟨by rfl, by intro w hS; have hc := hS.1; go_simp⟩) hHeld ?_
    try simp only [Act.put, List.setIfInBounds_toArray, List.set_cons_zero, List.set_cons_succ]
    refine wpAnyH_take (i := 9) (oi := { dst := some 43, op := Op.load 30 (Operand.tmp 42), type := 30, pos := "client.go:22", after := #[{ on := 8, ground := Ground.data }], guard := none }) (v := .slice s1 m c1) rfl (by kernel_rfl) (by kernel_rfl) (by kernel_rfl) (fun _ _ _ h => h) (Or.inl ⟨by rfl, by intro w hS; have hc := hS.2; go_simp⟩) hHeld ?_
    try simp only [Act.put, List.setIfInBounds_toArray, List.set_cons_zero, List.set_cons_succ]
    refine wpAnyH_take (i := 10) (oi := { dst := some 44, op := Op.build 33 #[(0, Operand.tmp 38), (1, Operand.tmp 43)], type := 33, pos := "client.go:22", after := #[{ on := 4, ground := Ground.data }, { on := 9, ground := Ground.data }], guard := none }) (v := .agg (ansC ff (.slice s1 m c1)).toArray) rfl (by kernel_rfl) (by kernel_rfl) (by kernel_rfl) (fun _ _ _ h => h) (yieldsIf_built (by rfl) 33 #[(0, Operand.tmp 38), (1, Operand.tmp 43)] rfl _ rfl _ (BA.out _ _ _)) hHeld ?_
    try simp only [Act.put, List.setIfInBounds_toArray, List.set_cons_zero, List.set_cons_succ]
    refine wpAnyH_ready (rs := [11]) (by kernel_rfl) (by simp) ?_
    refine (AllReadyH.cons (o := { dst := none, op := Op.store 33 (Operand.tmp 8) (Operand.tmp 44), type := 0, pos := "client.go:22", after := #[{ on := 10, ground := Ground.data }, { on := 0, ground := Ground.phase }, { on := 1, ground := Ground.phase }, { on := 2, ground := Ground.phase }, { on := 3, ground := Ground.phase }, { on := 4, ground := Ground.phase }, { on := 5, ground := Ground.phase }, { on := 6, ground := Ground.phase }, { on := 7, ground := Ground.phase }, { on := 8, ground := Ground.phase }, { on := 9, ground := Ground.phase }, { on := 10, ground := Ground.phase }], guard := none }) rfl (fun K hK => ?_) AllReadyH.nil)
    rw [if_pos (by rfl)]
    refine wp_store_row 33 _ _ rfl (w.heap.size + 2) (ansC ff (.slice s1 m c1)).toArray rfl rfl 33 _ r4 (by rw [Tryz.sizeAn]; rfl) rfl (all_oneCell_toArray (OA2.out _ _ _)) ?_
    have hK9 : Keeps (w.heap.size + 2) w4 (w4.drew.setRow (w.heap.size + 2) (ansC ff (.slice s1 m c1)).toArray) := ((Keeps.refl _ w4).drew).setRow _
    refine hK.out _ _ (⟨(World.cell?_of_block (hK9.block cb hcb hcbne)).trans cf, (World.cell?_of_block (hK9.block cb hcb hcbne)).trans cv⟩) (fun hHeld2 => ?_)
    clear hK K hHeld
    have hHeld := hHeld2
    clear hHeld2
    try simp only [Act.put, List.setIfInBounds_toArray, List.set_cons_zero, List.set_cons_succ]
    refine wpAnyH_take (i := 12) (oi := { dst := some 9, op := Op.assign (Operand.const (Value.int IntKind.i64 0)), type := 34, pos := "client.go:22", after := #[{ on := 11, ground := Ground.chain }, { on := 0, ground := Ground.phase }, { on := 1, ground := Ground.phase }, { on := 2, ground := Ground.phase }, { on := 3, ground := Ground.phase }, { on := 4, ground := Ground.phase }, { on := 5, ground := Ground.phase }, { on := 6, ground := Ground.phase }, { on := 7, ground := Ground.phase }, { on := 8, ground := Ground.phase }, { on := 9, ground := Ground.phase }, { on := 10, ground := Ground.phase }, { on := 11, ground := Ground.phase }], guard := none }) (v := .int IntKind.i64 0) rfl (by kernel_rfl) (by kernel_rfl) (by kernel_rfl) (fun _ _ _ h => h) (Or.inl ⟨by rfl, by intro w hS; go_simp⟩) hHeld ?_
    try simp only [Act.put, List.setIfInBounds_toArray, List.set_cons_zero, List.set_cons_succ]
    refine wpAnyH_done (by kernel_rfl) ?_ _
    refine NoPanic.normal ?_
    go_wp2
    exact bodyPost_ret (v := .tuple #[.agg (ansC ff (.slice s1 m c1)).toArray, .int .i64 0]) (results_c2 Tryz.results8 _ _ (w.heap.size + 2) 33 _ _ _ rfl (setRow_heap _ _ _ _ _ _ r4) Tryz.underlying33 rfl (by rw [Tryz.sizeAn]; rfl)) rfl (HV.out _ (below_setRow d4.1.drew (by omega) _) _ _ (own_lower ((hO5.out.of_heap (fun j hj => hK9.block j (hO5.out.block j hj).2 (by have := (hO5.out.block j hj).1; omega)))) hd3s))
  · have HV := hid (fun w' hb => verP_no (w := w) (w' := w') hH hvE hb)
    generalize VerP w n root ks t = VP at *
    generalize hHE : heldE n root ks t = hE at *
    have i2 : (hE != 0) = true := by simpa using hH
    clear hvE hHE
    have HNE := hid hH
    clear hH
    generalize ansC false (.slice none 0 0) = AZ at *
    go_enter Tryz.func8, Tryz.ntmps8
    go_wp2_with (first
      | refine wpList_allocV AA.out rfl rfl ?_
      | refine wpList_load_row rfl 28 _ rfl _ rfl 28 _ _ _ rr Tryz.underlying28 rfl LR.out ?_
      | (refine (KT.out _ (hG.below d0.1 hG.1)).mono ?_; rintro e w2 ⟨ge, rfl, hge, re, hb2⟩; refine Hid.out ?_))
    refine hid ?_
    have d2 := d0.call hb2
    clear d0 rr rk KT hb2
    go_wp2_with (first | (refine wpList_new AT.out LZ.out Tryz.sizeTm rfl rfl rfl _ _ rfl rfl (TM (.slice (some ⟨ge, 0, none⟩) 256 256)) rfl rfl (LT.out _) (OT.out _) ?_; refine Hid.out ?_))
    refine hid ?_
    have d3 := d2.alloc (TM (.slice (some ⟨ge, 0, none⟩) 256 256)) 57
    have re3 := hold (o := .cells (TM (.slice (some ⟨ge, 0, none⟩) 256 256)).toArray 57) re
    clear d2 re
    generalize w2.alloc (.cells (TM (.slice (some ⟨ge, 0, none⟩) 256 256)).toArray 57) = w3 at *
    generalize w2.heap.size = G at *
    have rt := d3.row (.head _)
    have rk := d3.row (.tail _ (.tail _ (.head _)))
    have LT2 := hid (show (Tryz.prog.info? 57).map (·.size) = some (TM (.slice (some ⟨ge, 0, none⟩) 256 256)).toArray.size by rw [Tryz.sizeTm, List.size_toArray, LT.out])
    go_wp2_with (first
      | refine wpList_load_row rfl 57 _ rfl _ rfl 57 _ _ _ rt Tryz.underlying57 rfl LT2.out ?_
      | refine wpList_load_row rfl 24 _ rfl _ rfl 24 _ _ _ rk Tryz.underlying24 rfl LK.out ?_
      | (refine (KH.out _ (hG.below d3.1 hG.1) ge re3 (hS.below d3.1 (Nat.le_refl _))).mono ?_; rintro e w4 ⟨v4, rfl, hb4, hv4, -⟩; refine Hid.out ?_))
    refine hid ?_
    obtain rfl := hv4 HNE.out
    have d4 := d3.call hb4
    have r4 := d4.row (.tail _ (.head _))
    clear d3 rt rk re3 KH hb4 hv4
    go_wp2_with (first
      | refine wpList_built (by rfl) 33 _ (by rfl) _ (by rfl) _ BZ.out ?_
      | refine wpList_store_row rfl 33 _ _ (by rfl) (w.heap.size + 2) AZ.toArray (by rfl) (by rfl) 33 _ r4 (by rw [Tryz.sizeAn, List.size_toArray, LA.out]) rfl (all_oneCell_toArray OA.out) ?_)
    exact bodyPost_ret (v := .tuple #[.agg AZ.toArray, .int .i64 hE]) (results_c2 Tryz.results8 _ _ (w.heap.size + 2) 33 _ _ _ rfl (setRow_heap _ _ _ _ _ _ r4) Tryz.underlying33 rfl (by rw [Tryz.sizeAn, List.size_toArray, LA.out])) rfl (HV.out _ (below_setRow d4.1 (by omega) _))
theorem verify_any (w : World) (hG : Glob w) (k : Int) (root ks t : List Int) (hr : root.length = 32) (hk : ks.length = 32) (hyk : Bys ks) (sp : Option Addr) (cap : Nat) (hy : Bys t) (hS : Src w sp cap t) :
    Calls Tryz.prog 8 #[.int .i64 k, .agg (ints .u8 root).toArray, .agg (ints .u8 ks).toArray, .slice sp t.length cap] w (VerP w k root ks t) := by
  by_cases h : k < 1 ∨ 32 < k
  · exact verify_bad w k root ks t hr hk sp cap h
  · obtain ⟨n, rfl⟩ := Int.eq_ofNat_of_zero_le (by omega : 0 ≤ k)
    exact verify_ok w hG n (by omega) (by omega) root ks t hr hk hyk sp cap hy hS
end Go.Proofs.YtbjahdbmkcamoaaGreatDoor
