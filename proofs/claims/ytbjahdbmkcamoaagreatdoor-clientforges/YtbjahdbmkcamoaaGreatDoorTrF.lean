import Derived.Test.YtbjahdbmkcamoaaGreatDoorNq
import Derived.Test.YtbjahdbmkcamoaaGreatDoorNd
namespace Go.Proofs.YtbjahdbmkcamoaaGreatDoor
set_option linter.unusedVariables false
set_option linter.unusedSimpArgs false
open Go.RowKit
attribute [local go_sem ↓] Go.wp_at_zero Go.wp_at_succ

theorem climbTo_pth (k : Int) (ks d : List Int) : ∀ h, climbTo k ks 0 d h = pth k ks (emptyD k) d h
  | 0 => rfl
  | h + 1 => by
    show stepD k ks (0 + h) (climbTo k ks 0 d h) = if bitK ks (255 - h) = 0 then _ else _
    rw [climbTo_pth k ks d h, Nat.zero_add]; rfl
theorem dg_of {B : Nat} {w0 w : World} (h : Below B w0 w) : (w.alloc (.cells (ints .u8 zB).toArray 28)).heap[w.heap.size]? = some (.cells (ints .u8 zB).toArray 28 (0, 0)) := hnew w _
theorem set_keep {W : World} {g k : Nat} {o x : Obj} (h : W.heap[g]? = some o) (hk : k < g) (r : W.heap[k]? = some x) (ys : Array Value) : (W.setRow g ys).heap[k]? = some x := (setRow_other _ _ _ _ (by omega)).trans r
theorem szT_al (w : World) (o : Obj) : (w.alloc o).heap.size = w.heap.size + 1 := by simp
theorem szT_dr (w : World) : w.drew.heap.size = w.heap.size := rfl
/-- Entries that lie in one subtree of height h: unlike keys that agree in their first bits. -/
structure Shr (m : List EnM) (h : Nat) : Prop where
  nd : (m.map EnM.k).Nodup
  ag : ∀ a ∈ m, ∀ b ∈ m, agr a.k b.k (256 - h) = true
theorem Shr.zero {m : List EnM} (hm : MapVs m) (h : Shr m 0) : m.length ≤ 1 := by
  match m, h with
  | [], _ => simp
  | [_], _ => simp
  | a :: b :: r, h =>
    exfalso
    obtain ⟨⟨la, ya⟩, _⟩ := hm.ok a (by simp)
    obtain ⟨⟨lb, yb⟩, _⟩ := hm.ok b (by simp)
    have e := agr_eq la lb ya yb (h.ag a (by simp) b (by simp))
    have := h.nd
    simp only [List.map_cons, List.nodup_cons, List.mem_cons] at this
    exact this.1 (Or.inl e)
theorem Shr.filt {m : List EnM} {h : Nat} (hs : Shr m (h + 1)) (hh : h < 256) (c : Int) : Shr (m.filter fun e => decide (bitK e.k (255 - h) = c)) h := by
  refine ⟨hs.nd.sublist (List.Sublist.map _ (List.filter_sublist)), fun a ha b hb => ?_⟩
  rw [List.mem_filter] at ha hb
  rw [show 256 - h = 256 - (h + 1) + 1 by omega, agr_succ, hs.ag a ha.1 b hb.1, show 256 - (h + 1) = 255 - h by omega]
  have h1 := ha.2
  have h2 := hb.2
  simp only [decide_eq_true_eq] at h1 h2
  rw [h1, h2]; simp
theorem filt_not (m : List EnM) (i : Nat) : (m.filter fun e => !decide (bitK e.k i = 0)) = m.filter fun e => decide (bitK e.k i = 1) := List.filter_congr fun e _ => by
  rcases bitK_01 e.k i with p | p <;> rw [p] <;> decide
theorem MapVs.filt {m : List EnM} (h : MapVs m) (p : EnM → Bool) : MapVs (m.filter p) := ⟨fun e he => h.ok e (List.mem_filter.1 he).1⟩
theorem two_first {α : Type} (l : List α) (d : α) (h : l.length = 1) : l = [l.getD 0 d] := by
  match l, h with
  | [a], _ => rfl
set_option maxRecDepth 100000 in
set_option maxHeartbeats 4000000 in
theorem zdigest_one (w : World) (hG : Gb w) (k : Int) (ge ce : Nat) (hgw : ge < w.heap.size) (hR : ∀ i, i < 257 → w.rangeAt ge (i * 32) (ints .u8 (emptyD k i))) (hce : (ce : Int) ≤ 9223372036854775807) (e0 : EnM) (he : entOk e0) (hv : e0.v.length ≤ 128) (sp : Option Addr) (cap : Nat) (hcap : (cap : Int) ≤ 9223372036854775807) (hS : SrcE w sp cap [e0]) (h : Nat) (hh : h ≤ 256) :
    Calls Tryz.prog 65 #[.slice (some ⟨ge, 0, none⟩) 257 ce, .int .i64 k, .slice sp 1 cap, .int .i64 h] w fun e w' => e = .returned (.agg (ints .u8 (tD k h [e0])).toArray) ∧ Below w.heap.size w w' := by
  obtain ⟨b, o, M, rfl, hbl, hr, hs⟩ := hS.at 0 (by simp)
  have hs' : SaysG w M e0 := hs
  rw [Nat.zero_mul, Nat.add_zero] at hr
  obtain ⟨sv, cv, eM, hnv, hSv⟩ := hs'.2.2
  have cval := cell_val hr hs'
  rw [eM] at cval
  have hrk := rng_key hr hs'
  obtain ⟨hkl, hky⟩ := he
  have AD := hid allocDg
  have LK := hid (show (Tryz.prog.info? 24).map (·.size) = some (ints .u8 e0.k).length by rw [Tryz.sizeKy, ints_len, hkl])
  have KL := hid (fun w1 (hG1 : Gb w1) (hS1 : Src w1 sv cv e0.v) => xleaf_any w1 hG1 k e0.k e0.v hkl sv cv hS1 (by omega))
  have KW := hid (fun w1 (hG1 : Gb w1) (hB1 : Below w.heap.size w w1) => xclimbWith_any w1 hG1 k e0.k hkl hky 0 h (leafD k e0.k e0.v) (leafD_len _ _ _) ge ce (Nat.lt_of_lt_of_le hgw hB1.size) (fun i hi => rng_below (hR i hi) hB1 hgw))
  have HW := hid (show climbTo k e0.k (hgt 0) (cutZ (leafD k e0.k e0.v) (kept k)) (hgt h - hgt 0) = tD k h [e0] by
    rw [show hgt 0 = 0 from rfl, show hgt (h : Int) = h by unfold hgt; omega, Nat.sub_zero, cut_leafD, climbTo_pth, tD_one])
  rw [HW.out] at KW
  have hDl := leafD_len k e0.k e0.v
  have hXl := tD_len k h [e0]
  generalize tD k h [e0] = X at *
  generalize leafD k e0.k e0.v = D at *
  have hb1 : Below w.heap.size w (w.alloc (.cells (ints .u8 zB).toArray 28)) := (Below.refl _ _).alloc (Nat.le_refl _) _
  have r1 := hnew w (.cells (ints .u8 zB).toArray 28)
  have LZ := hid (show (ints .u8 zB).toArray.size = 32 from rfl)
  have LD := hid (show (ints .u8 D).toArray.size = 32 by rw [ints_size, hDl])
  have LX := hid (show (ints .u8 X).toArray.size = 32 by rw [ints_size, hXl])
  have LD3 := hid (show (Tryz.prog.info? 28).map (·.size) = some (ints .u8 D).length by rw [Tryz.sizeD, ints_len, hDl])
  have i1 : (h : Int) ≤ 256 := by omega
  generalize hL : e0.v.length = L at *
  clear hL eM hs hs' HW hv
  go_enter Tryz.func65, Tryz.ntmps65
  go_wp2_with (first | refine wpList_allocV AD.out rfl rfl ?_)
  generalize w.alloc (.cells (ints .u8 zB).toArray 28) = w1 at *
  refine wp_region_noPanic ?_
  refine wp_region_held_drew (S := (fun w' => Below w.heap.size w w' ∧ w.heap.size < w'.heap.size)) (by kernel_rfl) ⟨hb1.drew, hlt r1⟩ (fun hHeld => ?_)
  refine wpAnyH_take (i := 0) (oi := { dst := some 26, op := Op.move (Operand.tmp 1), type := 3, pos := "ref.go:27", after := #[], guard := none }) (v := .int .i64 k) rfl (by kernel_rfl) (by kernel_rfl) (by kernel_rfl) (fun _ _ _ h => h) (Or.inl ⟨by rfl, by intro w hS; go_simp⟩) hHeld ?_
  try simp only [Act.put, List.setIfInBounds_toArray, List.set_cons_zero, List.set_cons_succ]
  refine wpAnyH_take (i := 1) (oi := { dst := some 27, op := Op.move (Operand.tmp 2), type := 26, pos := "ref.go:27", after := #[], guard := none }) (v := .slice (some ⟨b, o, none⟩) 1 cap) rfl (by kernel_rfl) (by kernel_rfl) (by kernel_rfl) (fun _ _ _ h => h) (Or.inl ⟨by rfl, by intro w hS; go_simp⟩) hHeld ?_
  try simp only [Act.put, List.setIfInBounds_toArray, List.set_cons_zero, List.set_cons_succ]
  refine wpAnyH_take (i := 5) (oi := { dst := some 31, op := Op.move (Operand.tmp 2), type := 26, pos := "ref.go:27", after := #[], guard := none }) (v := .slice (some ⟨b, o, none⟩) 1 cap) rfl (by kernel_rfl) (by kernel_rfl) (by kernel_rfl) (fun _ _ _ h => h) (Or.inl ⟨by rfl, by intro w hS; go_simp⟩) hHeld ?_
  try simp only [Act.put, List.setIfInBounds_toArray, List.set_cons_zero, List.set_cons_succ]
  refine wpAnyH_take (i := 2) (oi := { dst := some 28, op := Op.indexAddr 26 (Operand.tmp 27) (Operand.const (Value.int IntKind.i64 0)), type := 0, pos := "ref.go:27", after := #[{ on := 1, ground := Ground.data }], guard := none }) (v := .pointer (some ⟨b, o, none⟩)) rfl (by kernel_rfl) (by kernel_rfl) (by kernel_rfl) (fun _ _ _ h => h) (Or.inl ⟨by rfl, by intro w hS; go_simp⟩) hHeld ?_
  try simp only [Act.put, List.setIfInBounds_toArray, List.set_cons_zero, List.set_cons_succ]
  refine wpAnyH_take (i := 6) (oi := { dst := some 32, op := Op.indexAddr 26 (Operand.tmp 31) (Operand.const (Value.int IntKind.i64 0)), type := 0, pos := "ref.go:27", after := #[{ on := 5, ground := Ground.data }], guard := none }) (v := .pointer (some ⟨b, o, none⟩)) rfl (by kernel_rfl) (by kernel_rfl) (by kernel_rfl) (fun _ _ _ h => h) (Or.inl ⟨by rfl, by intro w hS; go_simp⟩) hHeld ?_
  try simp only [Act.put, List.setIfInBounds_toArray, List.set_cons_zero, List.set_cons_succ]
  refine wpAnyH_take (i := 3) (oi := { dst := some 29, op := Op.fieldAddr 67 (Operand.tmp 28) 0, type := 0, pos := "ref.go:27", after := #[{ on := 2, ground := Ground.data }], guard := none }) (v := .pointer (some ⟨b, o, none⟩)) rfl (by kernel_rfl) (by kernel_rfl) (by kernel_rfl) (fun _ _ _ h => h) (Or.inl ⟨by rfl, by intro w hS; go_simp⟩) hHeld ?_
  try simp only [Act.put, List.setIfInBounds_toArray, List.set_cons_zero, List.set_cons_succ]
  refine wpAnyH_take (i := 7) (oi := { dst := some 33, op := Op.fieldAddr 67 (Operand.tmp 32) 1, type := 0, pos := "ref.go:27", after := #[{ on := 6, ground := Ground.data }], guard := none }) (v := .pointer (some ⟨b, o + 32, none⟩)) rfl (by kernel_rfl) (by kernel_rfl) (by kernel_rfl) (fun _ _ _ h => h) (Or.inl ⟨by rfl, by intro w hS; go_simp⟩) hHeld ?_
  try simp only [Act.put, List.setIfInBounds_toArray, List.set_cons_zero, List.set_cons_succ]
  refine wpAnyH_take (i := 4) (oi := { dst := some 30, op := Op.load 24 (Operand.tmp 29), type := 24, pos := "ref.go:27", after := #[{ on := 3, ground := Ground.data }], guard := none }) (v := .agg (ints .u8 e0.k).toArray) rfl (by kernel_rfl) (by kernel_rfl) (by kernel_rfl) (fun _ _ _ h => h) (yieldsIf_load_mid (by rfl) 24 _ rfl b (o) rfl (ints .u8 e0.k) _ (fun w hS => rng_below hrk hS.1 hbl) Tryz.underlying24 rfl LK.out) hHeld ?_
  try simp only [Act.put, List.setIfInBounds_toArray, List.set_cons_zero, List.set_cons_succ]
  refine wpAnyH_take (i := 8) (oi := { dst := some 34, op := Op.load 30 (Operand.tmp 33), type := 30, pos := "ref.go:27", after := #[{ on := 7, ground := Ground.data }], guard := none }) (v := .slice sv L cv) rfl (by kernel_rfl) (by kernel_rfl) (by kernel_rfl) (fun _ _ _ h => h) (Or.inl ⟨by rfl, by intro w hS; have hc := (hS.1.cell (p := ⟨b, o + 32, none⟩) hbl).trans cval; go_simp⟩) hHeld ?_
  try simp only [Act.put, List.setIfInBounds_toArray, List.set_cons_zero, List.set_cons_succ]
  refine wpAnyH_ready (rs := [9, 10]) (by kernel_rfl) (by simp) ?_
  refine (AllReadyH.cons (o := { dst := some 35, op := Op.call { callee := Callee.value (Operand.func 33), args := #[Operand.tmp 26, Operand.tmp 30, Operand.tmp 34], argTypes := #[3, 24, 30] }, type := 28, pos := "ref.go:27", after := #[{ on := 0, ground := Ground.data }, { on := 4, ground := Ground.data }, { on := 8, ground := Ground.data }], guard := none }) rfl (fun K hK => ?_) (AllReadyH.cons (o := { dst := some 9, op := Op.alloc 28, type := 0, pos := "ref.go:27", after := #[], guard := none }) rfl (fun K hK => ?_) AllReadyH.nil))
  · skip
    go_simp
    go_at_call 33
    refine (KL.out _ (hG.below hHeld.1 hG.1.1) (hSv.below hHeld.1 (Nat.le_refl _))).mono ?_
    rintro e w4 ⟨rfl, hb4⟩
    replace r1 := hbel hb4 r1 (hlt r1)
    try replace hD9 := hbel hb4 hD9 (hlt hD9)
    go_wp2_with fail
    refine hK.out _ _ (⟨hHeld.1.trans (hb4.mono hHeld.1.size), Nat.lt_of_lt_of_le hHeld.2 hb4.size⟩) (fun hHeld2 => ?_)
    clear hK K hHeld
    have hHeld := hHeld2
    clear hHeld2
    try simp only [Act.put, List.setIfInBounds_toArray, List.set_cons_zero, List.set_cons_succ]
    refine wpAnyH_ready (rs := [10]) (by kernel_rfl) (by simp) ?_
    refine (AllReadyH.cons (o := { dst := some 9, op := Op.alloc 28, type := 0, pos := "ref.go:27", after := #[], guard := none }) rfl (fun K hK => ?_) AllReadyH.nil)
    have hD9 := dg_of hHeld.1
    have hgD := hHeld.2
    replace r1 := hold (o := .cells (ints .u8 zB).toArray 28) r1
    try simp only [szT_al, szT_dr] at hD9 hgD
    rw [if_pos (by rfl)]
    unfold Oper.wp
    rw [AD.out _ _ _ rfl]
    refine hK.out _ _ (⟨hHeld.1.alloc hHeld.1.size _, by simp; have := hHeld.2; omega⟩) (fun hHeld2 => ?_)
    clear hK K hHeld
    have hHeld := hHeld2
    clear hHeld2
    try simp only [Act.put, List.setIfInBounds_toArray, List.set_cons_zero, List.set_cons_succ]
    refine wpAnyH_ready (rs := [11]) (by kernel_rfl) (by simp) ?_
    refine (AllReadyH.cons (o := { dst := none, op := Op.store 28 (Operand.tmp 9) (Operand.tmp 35), type := 0, pos := "ref.go:27", after := #[{ on := 10, ground := Ground.data }, { on := 9, ground := Ground.data }, { on := 9, ground := Ground.chain }, { on := 0, ground := Ground.phase }, { on := 1, ground := Ground.phase }, { on := 2, ground := Ground.phase }, { on := 3, ground := Ground.phase }, { on := 4, ground := Ground.phase }, { on := 5, ground := Ground.phase }, { on := 6, ground := Ground.phase }, { on := 7, ground := Ground.phase }, { on := 8, ground := Ground.phase }, { on := 9, ground := Ground.phase }, { on := 10, ground := Ground.phase }], guard := none }) rfl (fun K hK => ?_) AllReadyH.nil)
    rw [if_pos (by rfl)]
    refine wp_store_row 28 _ _ rfl _ (ints .u8 D).toArray rfl rfl 28 _ hD9 (by rw [Tryz.sizeD, LD.out]) (by rw [LD.out, LZ.out]) (all_oneCell_toArray (ints_one _ _)) ?_
    have qD := setRow_heap _ _ _ (ints .u8 D).toArray _ _ hD9
    replace r1 := set_keep hD9 hgD r1 (ints .u8 D).toArray
    refine hK.out _ _ (⟨below_setRow hHeld.1 (by omega) _, Nat.lt_of_lt_of_le hHeld.2 (below_setRow (Below.refl 0 _) (Nat.zero_le _) _).size⟩) (fun hHeld2 => ?_)
    clear hK K hHeld
    have hHeld := hHeld2
    clear hHeld2
    try simp only [Act.put, List.setIfInBounds_toArray, List.set_cons_zero, List.set_cons_succ]
    refine wpAnyH_done (by kernel_rfl) ?_ _
    refine NoPanic.normal ?_
    have hB6 := hHeld.1
    clear hHeld
    go_wp2_with fail
    first
    | (refine wp_region_noPanic ?_
       refine wp_region_held_drew (S := (fun w' => Below w.heap.size w w' ∧ w'.heap[w4.heap.size]? = some (.cells (ints .u8 D).toArray 28 (0, 0)))) (by kernel_rfl) ⟨hB6.drew, qD⟩ (fun hHeld => ?_)
       refine wpAnyH_take (i := 0) (oi := { dst := some 36, op := Op.move (Operand.tmp 0), type := 48, pos := "ref.go:28", after := #[], guard := none }) (v := .slice (some ⟨ge, 0, none⟩) 257 ce) rfl (by kernel_rfl) (by kernel_rfl) (by kernel_rfl) (fun _ _ _ h => h) (Or.inl ⟨by rfl, by intro w hS; go_simp⟩) hHeld ?_
       try simp only [Act.put, List.setIfInBounds_toArray, List.set_cons_zero, List.set_cons_succ]
       refine wpAnyH_take (i := 1) (oi := { dst := some 37, op := Op.move (Operand.tmp 1), type := 3, pos := "ref.go:28", after := #[], guard := none }) (v := .int .i64 k) rfl (by kernel_rfl) (by kernel_rfl) (by kernel_rfl) (fun _ _ _ h => h) (Or.inl ⟨by rfl, by intro w hS; go_simp⟩) hHeld ?_
       try simp only [Act.put, List.setIfInBounds_toArray, List.set_cons_zero, List.set_cons_succ]
       refine wpAnyH_take (i := 2) (oi := { dst := some 38, op := Op.move (Operand.tmp 2), type := 26, pos := "ref.go:28", after := #[], guard := none }) (v := .slice (some ⟨b, o, none⟩) 1 cap) rfl (by kernel_rfl) (by kernel_rfl) (by kernel_rfl) (fun _ _ _ h => h) (Or.inl ⟨by rfl, by intro w hS; go_simp⟩) hHeld ?_
       try simp only [Act.put, List.setIfInBounds_toArray, List.set_cons_zero, List.set_cons_succ]
       refine wpAnyH_take (i := 6) (oi := { dst := some 42, op := Op.load 28 (Operand.tmp 9), type := 28, pos := "ref.go:28", after := #[], guard := none }) (v := .agg (ints .u8 D).toArray) rfl (by kernel_rfl) (by kernel_rfl) (by kernel_rfl) (fun _ _ _ h => h) (yieldsIf_load_mid (by rfl) 28 _ rfl w4.heap.size (0) rfl (ints .u8 D) _ (fun w hS => rng hS.2) Tryz.underlying28 rfl LD3.out) hHeld ?_
       try simp only [Act.put, List.setIfInBounds_toArray, List.set_cons_zero, List.set_cons_succ]
       refine wpAnyH_take (i := 7) (oi := { dst := some 43, op := Op.move (Operand.tmp 3), type := 3, pos := "ref.go:28", after := #[], guard := none }) (v := .int .i64 h) rfl (by kernel_rfl) (by kernel_rfl) (by kernel_rfl) (fun _ _ _ h => h) (Or.inl ⟨by rfl, by intro w hS; go_simp⟩) hHeld ?_
       try simp only [Act.put, List.setIfInBounds_toArray, List.set_cons_zero, List.set_cons_succ]
       refine wpAnyH_take (i := 3) (oi := { dst := some 39, op := Op.indexAddr 26 (Operand.tmp 38) (Operand.const (Value.int IntKind.i64 0)), type := 0, pos := "ref.go:28", after := #[{ on := 2, ground := Ground.data }], guard := none }) (v := .pointer (some ⟨b, o, none⟩)) rfl (by kernel_rfl) (by kernel_rfl) (by kernel_rfl) (fun _ _ _ h => h) (Or.inl ⟨by rfl, by intro w hS; go_simp⟩) hHeld ?_
       try simp only [Act.put, List.setIfInBounds_toArray, List.set_cons_zero, List.set_cons_succ]
       refine wpAnyH_take (i := 4) (oi := { dst := some 40, op := Op.fieldAddr 67 (Operand.tmp 39) 0, type := 0, pos := "ref.go:28", after := #[{ on := 3, ground := Ground.data }], guard := none }) (v := .pointer (some ⟨b, o, none⟩)) rfl (by kernel_rfl) (by kernel_rfl) (by kernel_rfl) (fun _ _ _ h => h) (Or.inl ⟨by rfl, by intro w hS; go_simp⟩) hHeld ?_
       try simp only [Act.put, List.setIfInBounds_toArray, List.set_cons_zero, List.set_cons_succ]
       refine wpAnyH_take (i := 5) (oi := { dst := some 41, op := Op.load 24 (Operand.tmp 40), type := 24, pos := "ref.go:28", after := #[{ on := 4, ground := Ground.data }], guard := none }) (v := .agg (ints .u8 e0.k).toArray) rfl (by kernel_rfl) (by kernel_rfl) (by kernel_rfl) (fun _ _ _ h => h) (yieldsIf_load_mid (by rfl) 24 _ rfl b (o) rfl (ints .u8 e0.k) _ (fun w hS => rng_below hrk hS.1 hbl) Tryz.underlying24 rfl LK.out) hHeld ?_
       try simp only [Act.put, List.setIfInBounds_toArray, List.set_cons_zero, List.set_cons_succ]
       refine wpAnyH_ready (rs := [8]) (by kernel_rfl) (by simp) ?_
       refine (AllReadyH.cons (o := { dst := some 44, op := Op.call { callee := Callee.value (Operand.func 34), args := #[Operand.tmp 36, Operand.tmp 37, Operand.tmp 41, Operand.const (Value.int IntKind.i64 0), Operand.tmp 42, Operand.tmp 43], argTypes := #[48, 3, 24, 3, 28, 3] }, type := 28, pos := "ref.go:28", after := #[{ on := 0, ground := Ground.data }, { on := 1, ground := Ground.data }, { on := 5, ground := Ground.data }, { on := 6, ground := Ground.data }, { on := 7, ground := Ground.data }], guard := none }) rfl (fun K hK => ?_) AllReadyH.nil)
       go_simp
       go_at_call 34
       refine (KW.out _ (hG.below hHeld.1 hG.1.1) hHeld.1).mono ?_
       rintro e w7 ⟨rfl, hb7⟩
       replace r1 := hbel hb7 r1 (hlt r1)
       go_wp2_with fail
       refine hK.out _ _ (⟨hHeld.1.trans (hb7.mono hHeld.1.size), hbel hb7 hHeld.2 (hlt hHeld.2)⟩) (fun hHeld2 => ?_)
       clear hK K hHeld
       have hHeld := hHeld2
       clear hHeld2
       try simp only [Act.put, List.setIfInBounds_toArray, List.set_cons_zero, List.set_cons_succ]
       refine wpAnyH_ready (rs := [9]) (by kernel_rfl) (by simp) ?_
       refine (AllReadyH.cons (o := { dst := none, op := Op.store 28 (Operand.tmp 8) (Operand.tmp 44), type := 0, pos := "ref.go:28", after := #[{ on := 8, ground := Ground.data }, { on := 8, ground := Ground.chain }, { on := 0, ground := Ground.phase }, { on := 1, ground := Ground.phase }, { on := 2, ground := Ground.phase }, { on := 3, ground := Ground.phase }, { on := 4, ground := Ground.phase }, { on := 5, ground := Ground.phase }, { on := 6, ground := Ground.phase }, { on := 7, ground := Ground.phase }, { on := 8, ground := Ground.phase }], guard := none }) rfl (fun K hK => ?_) AllReadyH.nil)
       rw [if_pos (by rfl)]
       refine wp_store_row 28 _ _ rfl w.heap.size (ints .u8 X).toArray rfl rfl 28 _ r1 (by rw [Tryz.sizeD, LX.out]) (by rw [LX.out, LZ.out]) (all_oneCell_toArray (ints_one _ _)) ?_
       have hb9 := below_setRow hHeld.1 (Nat.le_refl w.heap.size) (ints .u8 X).toArray
       refine hK.out _ _ (⟨hb9, (setRow_other _ _ _ _ (by omega)).trans hHeld.2⟩) (fun hHeld2 => ?_)
       clear hK K hHeld
       have hHeld := hHeld2
       clear hHeld2
       try simp only [Act.put, List.setIfInBounds_toArray, List.set_cons_zero, List.set_cons_succ]
       refine wpAnyH_done (by kernel_rfl) ?_ _
       refine NoPanic.normal ?_
       go_wp2_with fail
       exact bodyPost_ret (v := .agg (ints .u8 X).toArray) (results_cell_row Tryz.results65 _ _ w.heap.size 28 _ _ _ rfl (setRow_heap _ _ _ _ _ _ r1) Tryz.underlying28 rfl (by rw [Tryz.sizeD, LX.out])) rfl ⟨rfl, hb9⟩)
    | (refine wp_region_noPanic ?_
       refine wp_region_held_drew (S := (fun w' => Below w.heap.size w w' ∧ w'.heap[w1.heap.size]? = some (.cells (ints .u8 D).toArray 28 (0, 0)))) (by kernel_rfl) ⟨hB6.drew, qD⟩ (fun hHeld => ?_)
       refine wpAnyH_take (i := 0) (oi := { dst := some 36, op := Op.move (Operand.tmp 0), type := 48, pos := "ref.go:28", after := #[], guard := none }) (v := .slice (some ⟨ge, 0, none⟩) 257 ce) rfl (by kernel_rfl) (by kernel_rfl) (by kernel_rfl) (fun _ _ _ h => h) (Or.inl ⟨by rfl, by intro w hS; go_simp⟩) hHeld ?_
       try simp only [Act.put, List.setIfInBounds_toArray, List.set_cons_zero, List.set_cons_succ]
       refine wpAnyH_take (i := 1) (oi := { dst := some 37, op := Op.move (Operand.tmp 1), type := 3, pos := "ref.go:28", after := #[], guard := none }) (v := .int .i64 k) rfl (by kernel_rfl) (by kernel_rfl) (by kernel_rfl) (fun _ _ _ h => h) (Or.inl ⟨by rfl, by intro w hS; go_simp⟩) hHeld ?_
       try simp only [Act.put, List.setIfInBounds_toArray, List.set_cons_zero, List.set_cons_succ]
       refine wpAnyH_take (i := 2) (oi := { dst := some 38, op := Op.move (Operand.tmp 2), type := 26, pos := "ref.go:28", after := #[], guard := none }) (v := .slice (some ⟨b, o, none⟩) 1 cap) rfl (by kernel_rfl) (by kernel_rfl) (by kernel_rfl) (fun _ _ _ h => h) (Or.inl ⟨by rfl, by intro w hS; go_simp⟩) hHeld ?_
       try simp only [Act.put, List.setIfInBounds_toArray, List.set_cons_zero, List.set_cons_succ]
       refine wpAnyH_take (i := 6) (oi := { dst := some 42, op := Op.load 28 (Operand.tmp 9), type := 28, pos := "ref.go:28", after := #[], guard := none }) (v := .agg (ints .u8 D).toArray) rfl (by kernel_rfl) (by kernel_rfl) (by kernel_rfl) (fun _ _ _ h => h) (yieldsIf_load_mid (by rfl) 28 _ rfl w1.heap.size (0) rfl (ints .u8 D) _ (fun w hS => rng hS.2) Tryz.underlying28 rfl LD3.out) hHeld ?_
       try simp only [Act.put, List.setIfInBounds_toArray, List.set_cons_zero, List.set_cons_succ]
       refine wpAnyH_take (i := 7) (oi := { dst := some 43, op := Op.move (Operand.tmp 3), type := 3, pos := "ref.go:28", after := #[], guard := none }) (v := .int .i64 h) rfl (by kernel_rfl) (by kernel_rfl) (by kernel_rfl) (fun _ _ _ h => h) (Or.inl ⟨by rfl, by intro w hS; go_simp⟩) hHeld ?_
       try simp only [Act.put, List.setIfInBounds_toArray, List.set_cons_zero, List.set_cons_succ]
       refine wpAnyH_take (i := 3) (oi := { dst := some 39, op := Op.indexAddr 26 (Operand.tmp 38) (Operand.const (Value.int IntKind.i64 0)), type := 0, pos := "ref.go:28", after := #[{ on := 2, ground := Ground.data }], guard := none }) (v := .pointer (some ⟨b, o, none⟩)) rfl (by kernel_rfl) (by kernel_rfl) (by kernel_rfl) (fun _ _ _ h => h) (Or.inl ⟨by rfl, by intro w hS; go_simp⟩) hHeld ?_
       try simp only [Act.put, List.setIfInBounds_toArray, List.set_cons_zero, List.set_cons_succ]
       refine wpAnyH_take (i := 4) (oi := { dst := some 40, op := Op.fieldAddr 67 (Operand.tmp 39) 0, type := 0, pos := "ref.go:28", after := #[{ on := 3, ground := Ground.data }], guard := none }) (v := .pointer (some ⟨b, o, none⟩)) rfl (by kernel_rfl) (by kernel_rfl) (by kernel_rfl) (fun _ _ _ h => h) (Or.inl ⟨by rfl, by intro w hS; go_simp⟩) hHeld ?_
       try simp only [Act.put, List.setIfInBounds_toArray, List.set_cons_zero, List.set_cons_succ]
       refine wpAnyH_take (i := 5) (oi := { dst := some 41, op := Op.load 24 (Operand.tmp 40), type := 24, pos := "ref.go:28", after := #[{ on := 4, ground := Ground.data }], guard := none }) (v := .agg (ints .u8 e0.k).toArray) rfl (by kernel_rfl) (by kernel_rfl) (by kernel_rfl) (fun _ _ _ h => h) (yieldsIf_load_mid (by rfl) 24 _ rfl b (o) rfl (ints .u8 e0.k) _ (fun w hS => rng_below hrk hS.1 hbl) Tryz.underlying24 rfl LK.out) hHeld ?_
       try simp only [Act.put, List.setIfInBounds_toArray, List.set_cons_zero, List.set_cons_succ]
       refine wpAnyH_ready (rs := [8]) (by kernel_rfl) (by simp) ?_
       refine (AllReadyH.cons (o := { dst := some 44, op := Op.call { callee := Callee.value (Operand.func 34), args := #[Operand.tmp 36, Operand.tmp 37, Operand.tmp 41, Operand.const (Value.int IntKind.i64 0), Operand.tmp 42, Operand.tmp 43], argTypes := #[48, 3, 24, 3, 28, 3] }, type := 28, pos := "ref.go:28", after := #[{ on := 0, ground := Ground.data }, { on := 1, ground := Ground.data }, { on := 5, ground := Ground.data }, { on := 6, ground := Ground.data }, { on := 7, ground := Ground.data }], guard := none }) rfl (fun K hK => ?_) AllReadyH.nil)
       go_simp
       go_at_call 34
       refine (KW.out _ (hG.below hHeld.1 hG.1.1) hHeld.1).mono ?_
       rintro e w7 ⟨rfl, hb7⟩
       replace r1 := hbel hb7 r1 (hlt r1)
       go_wp2_with fail
       refine hK.out _ _ (⟨hHeld.1.trans (hb7.mono hHeld.1.size), hbel hb7 hHeld.2 (hlt hHeld.2)⟩) (fun hHeld2 => ?_)
       clear hK K hHeld
       have hHeld := hHeld2
       clear hHeld2
       try simp only [Act.put, List.setIfInBounds_toArray, List.set_cons_zero, List.set_cons_succ]
       refine wpAnyH_ready (rs := [9]) (by kernel_rfl) (by simp) ?_
       refine (AllReadyH.cons (o := { dst := none, op := Op.store 28 (Operand.tmp 8) (Operand.tmp 44), type := 0, pos := "ref.go:28", after := #[{ on := 8, ground := Ground.data }, { on := 8, ground := Ground.chain }, { on := 0, ground := Ground.phase }, { on := 1, ground := Ground.phase }, { on := 2, ground := Ground.phase }, { on := 3, ground := Ground.phase }, { on := 4, ground := Ground.phase }, { on := 5, ground := Ground.phase }, { on := 6, ground := Ground.phase }, { on := 7, ground := Ground.phase }, { on := 8, ground := Ground.phase }], guard := none }) rfl (fun K hK => ?_) AllReadyH.nil)
       rw [if_pos (by rfl)]
       refine wp_store_row 28 _ _ rfl w.heap.size (ints .u8 X).toArray rfl rfl 28 _ r1 (by rw [Tryz.sizeD, LX.out]) (by rw [LX.out, LZ.out]) (all_oneCell_toArray (ints_one _ _)) ?_
       have hb9 := below_setRow hHeld.1 (Nat.le_refl w.heap.size) (ints .u8 X).toArray
       refine hK.out _ _ (⟨hb9, (setRow_other _ _ _ _ (by omega)).trans hHeld.2⟩) (fun hHeld2 => ?_)
       clear hK K hHeld
       have hHeld := hHeld2
       clear hHeld2
       try simp only [Act.put, List.setIfInBounds_toArray, List.set_cons_zero, List.set_cons_succ]
       refine wpAnyH_done (by kernel_rfl) ?_ _
       refine NoPanic.normal ?_
       go_wp2_with fail
       exact bodyPost_ret (v := .agg (ints .u8 X).toArray) (results_cell_row Tryz.results65 _ _ w.heap.size 28 _ _ _ rfl (setRow_heap _ _ _ _ _ _ r1) Tryz.underlying28 rfl (by rw [Tryz.sizeD, LX.out])) rfl ⟨rfl, hb9⟩)
  · skip
    have hD9 := dg_of hHeld.1
    have hgD := hHeld.2
    replace r1 := hold (o := .cells (ints .u8 zB).toArray 28) r1
    try simp only [szT_al, szT_dr] at hD9 hgD
    rw [if_pos (by rfl)]
    unfold Oper.wp
    rw [AD.out _ _ _ rfl]
    refine hK.out _ _ (⟨hHeld.1.alloc hHeld.1.size _, by simp; have := hHeld.2; omega⟩) (fun hHeld2 => ?_)
    clear hK K hHeld
    have hHeld := hHeld2
    clear hHeld2
    try simp only [Act.put, List.setIfInBounds_toArray, List.set_cons_zero, List.set_cons_succ]
    refine wpAnyH_ready (rs := [9]) (by kernel_rfl) (by simp) ?_
    refine (AllReadyH.cons (o := { dst := some 35, op := Op.call { callee := Callee.value (Operand.func 33), args := #[Operand.tmp 26, Operand.tmp 30, Operand.tmp 34], argTypes := #[3, 24, 30] }, type := 28, pos := "ref.go:27", after := #[{ on := 0, ground := Ground.data }, { on := 4, ground := Ground.data }, { on := 8, ground := Ground.data }], guard := none }) rfl (fun K hK => ?_) AllReadyH.nil)
    go_simp
    go_at_call 33
    refine (KL.out _ (hG.below hHeld.1 hG.1.1) (hSv.below hHeld.1 (Nat.le_refl _))).mono ?_
    rintro e w4 ⟨rfl, hb4⟩
    replace r1 := hbel hb4 r1 (hlt r1)
    try replace hD9 := hbel hb4 hD9 (hlt hD9)
    go_wp2_with fail
    refine hK.out _ _ (⟨hHeld.1.trans (hb4.mono hHeld.1.size), Nat.lt_of_lt_of_le hHeld.2 hb4.size⟩) (fun hHeld2 => ?_)
    clear hK K hHeld
    have hHeld := hHeld2
    clear hHeld2
    try simp only [Act.put, List.setIfInBounds_toArray, List.set_cons_zero, List.set_cons_succ]
    refine wpAnyH_ready (rs := [11]) (by kernel_rfl) (by simp) ?_
    refine (AllReadyH.cons (o := { dst := none, op := Op.store 28 (Operand.tmp 9) (Operand.tmp 35), type := 0, pos := "ref.go:27", after := #[{ on := 10, ground := Ground.data }, { on := 9, ground := Ground.data }, { on := 9, ground := Ground.chain }, { on := 0, ground := Ground.phase }, { on := 1, ground := Ground.phase }, { on := 2, ground := Ground.phase }, { on := 3, ground := Ground.phase }, { on := 4, ground := Ground.phase }, { on := 5, ground := Ground.phase }, { on := 6, ground := Ground.phase }, { on := 7, ground := Ground.phase }, { on := 8, ground := Ground.phase }, { on := 9, ground := Ground.phase }, { on := 10, ground := Ground.phase }], guard := none }) rfl (fun K hK => ?_) AllReadyH.nil)
    rw [if_pos (by rfl)]
    refine wp_store_row 28 _ _ rfl _ (ints .u8 D).toArray rfl rfl 28 _ hD9 (by rw [Tryz.sizeD, LD.out]) (by rw [LD.out, LZ.out]) (all_oneCell_toArray (ints_one _ _)) ?_
    have qD := setRow_heap _ _ _ (ints .u8 D).toArray _ _ hD9
    replace r1 := set_keep hD9 hgD r1 (ints .u8 D).toArray
    refine hK.out _ _ (⟨below_setRow hHeld.1 (by omega) _, Nat.lt_of_lt_of_le hHeld.2 (below_setRow (Below.refl 0 _) (Nat.zero_le _) _).size⟩) (fun hHeld2 => ?_)
    clear hK K hHeld
    have hHeld := hHeld2
    clear hHeld2
    try simp only [Act.put, List.setIfInBounds_toArray, List.set_cons_zero, List.set_cons_succ]
    refine wpAnyH_done (by kernel_rfl) ?_ _
    refine NoPanic.normal ?_
    have hB6 := hHeld.1
    clear hHeld
    go_wp2_with fail
    first
    | (refine wp_region_noPanic ?_
       refine wp_region_held_drew (S := (fun w' => Below w.heap.size w w' ∧ w'.heap[w4.heap.size]? = some (.cells (ints .u8 D).toArray 28 (0, 0)))) (by kernel_rfl) ⟨hB6.drew, qD⟩ (fun hHeld => ?_)
       refine wpAnyH_take (i := 0) (oi := { dst := some 36, op := Op.move (Operand.tmp 0), type := 48, pos := "ref.go:28", after := #[], guard := none }) (v := .slice (some ⟨ge, 0, none⟩) 257 ce) rfl (by kernel_rfl) (by kernel_rfl) (by kernel_rfl) (fun _ _ _ h => h) (Or.inl ⟨by rfl, by intro w hS; go_simp⟩) hHeld ?_
       try simp only [Act.put, List.setIfInBounds_toArray, List.set_cons_zero, List.set_cons_succ]
       refine wpAnyH_take (i := 1) (oi := { dst := some 37, op := Op.move (Operand.tmp 1), type := 3, pos := "ref.go:28", after := #[], guard := none }) (v := .int .i64 k) rfl (by kernel_rfl) (by kernel_rfl) (by kernel_rfl) (fun _ _ _ h => h) (Or.inl ⟨by rfl, by intro w hS; go_simp⟩) hHeld ?_
       try simp only [Act.put, List.setIfInBounds_toArray, List.set_cons_zero, List.set_cons_succ]
       refine wpAnyH_take (i := 2) (oi := { dst := some 38, op := Op.move (Operand.tmp 2), type := 26, pos := "ref.go:28", after := #[], guard := none }) (v := .slice (some ⟨b, o, none⟩) 1 cap) rfl (by kernel_rfl) (by kernel_rfl) (by kernel_rfl) (fun _ _ _ h => h) (Or.inl ⟨by rfl, by intro w hS; go_simp⟩) hHeld ?_
       try simp only [Act.put, List.setIfInBounds_toArray, List.set_cons_zero, List.set_cons_succ]
       refine wpAnyH_take (i := 6) (oi := { dst := some 42, op := Op.load 28 (Operand.tmp 9), type := 28, pos := "ref.go:28", after := #[], guard := none }) (v := .agg (ints .u8 D).toArray) rfl (by kernel_rfl) (by kernel_rfl) (by kernel_rfl) (fun _ _ _ h => h) (yieldsIf_load_mid (by rfl) 28 _ rfl w4.heap.size (0) rfl (ints .u8 D) _ (fun w hS => rng hS.2) Tryz.underlying28 rfl LD3.out) hHeld ?_
       try simp only [Act.put, List.setIfInBounds_toArray, List.set_cons_zero, List.set_cons_succ]
       refine wpAnyH_take (i := 7) (oi := { dst := some 43, op := Op.move (Operand.tmp 3), type := 3, pos := "ref.go:28", after := #[], guard := none }) (v := .int .i64 h) rfl (by kernel_rfl) (by kernel_rfl) (by kernel_rfl) (fun _ _ _ h => h) (Or.inl ⟨by rfl, by intro w hS; go_simp⟩) hHeld ?_
       try simp only [Act.put, List.setIfInBounds_toArray, List.set_cons_zero, List.set_cons_succ]
       refine wpAnyH_take (i := 3) (oi := { dst := some 39, op := Op.indexAddr 26 (Operand.tmp 38) (Operand.const (Value.int IntKind.i64 0)), type := 0, pos := "ref.go:28", after := #[{ on := 2, ground := Ground.data }], guard := none }) (v := .pointer (some ⟨b, o, none⟩)) rfl (by kernel_rfl) (by kernel_rfl) (by kernel_rfl) (fun _ _ _ h => h) (Or.inl ⟨by rfl, by intro w hS; go_simp⟩) hHeld ?_
       try simp only [Act.put, List.setIfInBounds_toArray, List.set_cons_zero, List.set_cons_succ]
       refine wpAnyH_take (i := 4) (oi := { dst := some 40, op := Op.fieldAddr 67 (Operand.tmp 39) 0, type := 0, pos := "ref.go:28", after := #[{ on := 3, ground := Ground.data }], guard := none }) (v := .pointer (some ⟨b, o, none⟩)) rfl (by kernel_rfl) (by kernel_rfl) (by kernel_rfl) (fun _ _ _ h => h) (Or.inl ⟨by rfl, by intro w hS; go_simp⟩) hHeld ?_
       try simp only [Act.put, List.setIfInBounds_toArray, List.set_cons_zero, List.set_cons_succ]
       refine wpAnyH_take (i := 5) (oi := { dst := some 41, op := Op.load 24 (Operand.tmp 40), type := 24, pos := "ref.go:28", after := #[{ on := 4, ground := Ground.data }], guard := none }) (v := .agg (ints .u8 e0.k).toArray) rfl (by kernel_rfl) (by kernel_rfl) (by kernel_rfl) (fun _ _ _ h => h) (yieldsIf_load_mid (by rfl) 24 _ rfl b (o) rfl (ints .u8 e0.k) _ (fun w hS => rng_below hrk hS.1 hbl) Tryz.underlying24 rfl LK.out) hHeld ?_
       try simp only [Act.put, List.setIfInBounds_toArray, List.set_cons_zero, List.set_cons_succ]
       refine wpAnyH_ready (rs := [8]) (by kernel_rfl) (by simp) ?_
       refine (AllReadyH.cons (o := { dst := some 44, op := Op.call { callee := Callee.value (Operand.func 34), args := #[Operand.tmp 36, Operand.tmp 37, Operand.tmp 41, Operand.const (Value.int IntKind.i64 0), Operand.tmp 42, Operand.tmp 43], argTypes := #[48, 3, 24, 3, 28, 3] }, type := 28, pos := "ref.go:28", after := #[{ on := 0, ground := Ground.data }, { on := 1, ground := Ground.data }, { on := 5, ground := Ground.data }, { on := 6, ground := Ground.data }, { on := 7, ground := Ground.data }], guard := none }) rfl (fun K hK => ?_) AllReadyH.nil)
       go_simp
       go_at_call 34
       refine (KW.out _ (hG.below hHeld.1 hG.1.1) hHeld.1).mono ?_
       rintro e w7 ⟨rfl, hb7⟩
       replace r1 := hbel hb7 r1 (hlt r1)
       go_wp2_with fail
       refine hK.out _ _ (⟨hHeld.1.trans (hb7.mono hHeld.1.size), hbel hb7 hHeld.2 (hlt hHeld.2)⟩) (fun hHeld2 => ?_)
       clear hK K hHeld
       have hHeld := hHeld2
       clear hHeld2
       try simp only [Act.put, List.setIfInBounds_toArray, List.set_cons_zero, List.set_cons_succ]
       refine wpAnyH_ready (rs := [9]) (by kernel_rfl) (by simp) ?_
       refine (AllReadyH.cons (o := { dst := none, op := Op.store 28 (Operand.tmp 8) (Operand.tmp 44), type := 0, pos := "ref.go:28", after := #[{ on := 8, ground := Ground.data }, { on := 8, ground := Ground.chain }, { on := 0, ground := Ground.phase }, { on := 1, ground := Ground.phase }, { on := 2, ground := Ground.phase }, { on := 3, ground := Ground.phase }, { on := 4, ground := Ground.phase }, { on := 5, ground := Ground.phase }, { on := 6, ground := Ground.phase }, { on := 7, ground := Ground.phase }, { on := 8, ground := Ground.phase }], guard := none }) rfl (fun K hK => ?_) AllReadyH.nil)
       rw [if_pos (by rfl)]
       refine wp_store_row 28 _ _ rfl w.heap.size (ints .u8 X).toArray rfl rfl 28 _ r1 (by rw [Tryz.sizeD, LX.out]) (by rw [LX.out, LZ.out]) (all_oneCell_toArray (ints_one _ _)) ?_
       have hb9 := below_setRow hHeld.1 (Nat.le_refl w.heap.size) (ints .u8 X).toArray
       refine hK.out _ _ (⟨hb9, (setRow_other _ _ _ _ (by omega)).trans hHeld.2⟩) (fun hHeld2 => ?_)
       clear hK K hHeld
       have hHeld := hHeld2
       clear hHeld2
       try simp only [Act.put, List.setIfInBounds_toArray, List.set_cons_zero, List.set_cons_succ]
       refine wpAnyH_done (by kernel_rfl) ?_ _
       refine NoPanic.normal ?_
       go_wp2_with fail
       exact bodyPost_ret (v := .agg (ints .u8 X).toArray) (results_cell_row Tryz.results65 _ _ w.heap.size 28 _ _ _ rfl (setRow_heap _ _ _ _ _ _ r1) Tryz.underlying28 rfl (by rw [Tryz.sizeD, LX.out])) rfl ⟨rfl, hb9⟩)
    | (refine wp_region_noPanic ?_
       refine wp_region_held_drew (S := (fun w' => Below w.heap.size w w' ∧ w'.heap[w1.heap.size]? = some (.cells (ints .u8 D).toArray 28 (0, 0)))) (by kernel_rfl) ⟨hB6.drew, qD⟩ (fun hHeld => ?_)
       refine wpAnyH_take (i := 0) (oi := { dst := some 36, op := Op.move (Operand.tmp 0), type := 48, pos := "ref.go:28", after := #[], guard := none }) (v := .slice (some ⟨ge, 0, none⟩) 257 ce) rfl (by kernel_rfl) (by kernel_rfl) (by kernel_rfl) (fun _ _ _ h => h) (Or.inl ⟨by rfl, by intro w hS; go_simp⟩) hHeld ?_
       try simp only [Act.put, List.setIfInBounds_toArray, List.set_cons_zero, List.set_cons_succ]
       refine wpAnyH_take (i := 1) (oi := { dst := some 37, op := Op.move (Operand.tmp 1), type := 3, pos := "ref.go:28", after := #[], guard := none }) (v := .int .i64 k) rfl (by kernel_rfl) (by kernel_rfl) (by kernel_rfl) (fun _ _ _ h => h) (Or.inl ⟨by rfl, by intro w hS; go_simp⟩) hHeld ?_
       try simp only [Act.put, List.setIfInBounds_toArray, List.set_cons_zero, List.set_cons_succ]
       refine wpAnyH_take (i := 2) (oi := { dst := some 38, op := Op.move (Operand.tmp 2), type := 26, pos := "ref.go:28", after := #[], guard := none }) (v := .slice (some ⟨b, o, none⟩) 1 cap) rfl (by kernel_rfl) (by kernel_rfl) (by kernel_rfl) (fun _ _ _ h => h) (Or.inl ⟨by rfl, by intro w hS; go_simp⟩) hHeld ?_
       try simp only [Act.put, List.setIfInBounds_toArray, List.set_cons_zero, List.set_cons_succ]
       refine wpAnyH_take (i := 6) (oi := { dst := some 42, op := Op.load 28 (Operand.tmp 9), type := 28, pos := "ref.go:28", after := #[], guard := none }) (v := .agg (ints .u8 D).toArray) rfl (by kernel_rfl) (by kernel_rfl) (by kernel_rfl) (fun _ _ _ h => h) (yieldsIf_load_mid (by rfl) 28 _ rfl w1.heap.size (0) rfl (ints .u8 D) _ (fun w hS => rng hS.2) Tryz.underlying28 rfl LD3.out) hHeld ?_
       try simp only [Act.put, List.setIfInBounds_toArray, List.set_cons_zero, List.set_cons_succ]
       refine wpAnyH_take (i := 7) (oi := { dst := some 43, op := Op.move (Operand.tmp 3), type := 3, pos := "ref.go:28", after := #[], guard := none }) (v := .int .i64 h) rfl (by kernel_rfl) (by kernel_rfl) (by kernel_rfl) (fun _ _ _ h => h) (Or.inl ⟨by rfl, by intro w hS; go_simp⟩) hHeld ?_
       try simp only [Act.put, List.setIfInBounds_toArray, List.set_cons_zero, List.set_cons_succ]
       refine wpAnyH_take (i := 3) (oi := { dst := some 39, op := Op.indexAddr 26 (Operand.tmp 38) (Operand.const (Value.int IntKind.i64 0)), type := 0, pos := "ref.go:28", after := #[{ on := 2, ground := Ground.data }], guard := none }) (v := .pointer (some ⟨b, o, none⟩)) rfl (by kernel_rfl) (by kernel_rfl) (by kernel_rfl) (fun _ _ _ h => h) (Or.inl ⟨by rfl, by intro w hS; go_simp⟩) hHeld ?_
       try simp only [Act.put, List.setIfInBounds_toArray, List.set_cons_zero, List.set_cons_succ]
       refine wpAnyH_take (i := 4) (oi := { dst := some 40, op := Op.fieldAddr 67 (Operand.tmp 39) 0, type := 0, pos := "ref.go:28", after := #[{ on := 3, ground := Ground.data }], guard := none }) (v := .pointer (some ⟨b, o, none⟩)) rfl (by kernel_rfl) (by kernel_rfl) (by kernel_rfl) (fun _ _ _ h => h) (Or.inl ⟨by rfl, by intro w hS; go_simp⟩) hHeld ?_
       try simp only [Act.put, List.setIfInBounds_toArray, List.set_cons_zero, List.set_cons_succ]
       refine wpAnyH_take (i := 5) (oi := { dst := some 41, op := Op.load 24 (Operand.tmp 40), type := 24, pos := "ref.go:28", after := #[{ on := 4, ground := Ground.data }], guard := none }) (v := .agg (ints .u8 e0.k).toArray) rfl (by kernel_rfl) (by kernel_rfl) (by kernel_rfl) (fun _ _ _ h => h) (yieldsIf_load_mid (by rfl) 24 _ rfl b (o) rfl (ints .u8 e0.k) _ (fun w hS => rng_below hrk hS.1 hbl) Tryz.underlying24 rfl LK.out) hHeld ?_
       try simp only [Act.put, List.setIfInBounds_toArray, List.set_cons_zero, List.set_cons_succ]
       refine wpAnyH_ready (rs := [8]) (by kernel_rfl) (by simp) ?_
       refine (AllReadyH.cons (o := { dst := some 44, op := Op.call { callee := Callee.value (Operand.func 34), args := #[Operand.tmp 36, Operand.tmp 37, Operand.tmp 41, Operand.const (Value.int IntKind.i64 0), Operand.tmp 42, Operand.tmp 43], argTypes := #[48, 3, 24, 3, 28, 3] }, type := 28, pos := "ref.go:28", after := #[{ on := 0, ground := Ground.data }, { on := 1, ground := Ground.data }, { on := 5, ground := Ground.data }, { on := 6, ground := Ground.data }, { on := 7, ground := Ground.data }], guard := none }) rfl (fun K hK => ?_) AllReadyH.nil)
       go_simp
       go_at_call 34
       refine (KW.out _ (hG.below hHeld.1 hG.1.1) hHeld.1).mono ?_
       rintro e w7 ⟨rfl, hb7⟩
       replace r1 := hbel hb7 r1 (hlt r1)
       go_wp2_with fail
       refine hK.out _ _ (⟨hHeld.1.trans (hb7.mono hHeld.1.size), hbel hb7 hHeld.2 (hlt hHeld.2)⟩) (fun hHeld2 => ?_)
       clear hK K hHeld
       have hHeld := hHeld2
       clear hHeld2
       try simp only [Act.put, List.setIfInBounds_toArray, List.set_cons_zero, List.set_cons_succ]
       refine wpAnyH_ready (rs := [9]) (by kernel_rfl) (by simp) ?_
       refine (AllReadyH.cons (o := { dst := none, op := Op.store 28 (Operand.tmp 8) (Operand.tmp 44), type := 0, pos := "ref.go:28", after := #[{ on := 8, ground := Ground.data }, { on := 8, ground := Ground.chain }, { on := 0, ground := Ground.phase }, { on := 1, ground := Ground.phase }, { on := 2, ground := Ground.phase }, { on := 3, ground := Ground.phase }, { on := 4, ground := Ground.phase }, { on := 5, ground := Ground.phase }, { on := 6, ground := Ground.phase }, { on := 7, ground := Ground.phase }, { on := 8, ground := Ground.phase }], guard := none }) rfl (fun K hK => ?_) AllReadyH.nil)
       rw [if_pos (by rfl)]
       refine wp_store_row 28 _ _ rfl w.heap.size (ints .u8 X).toArray rfl rfl 28 _ r1 (by rw [Tryz.sizeD, LX.out]) (by rw [LX.out, LZ.out]) (all_oneCell_toArray (ints_one _ _)) ?_
       have hb9 := below_setRow hHeld.1 (Nat.le_refl w.heap.size) (ints .u8 X).toArray
       refine hK.out _ _ (⟨hb9, (setRow_other _ _ _ _ (by omega)).trans hHeld.2⟩) (fun hHeld2 => ?_)
       clear hK K hHeld
       have hHeld := hHeld2
       clear hHeld2
       try simp only [Act.put, List.setIfInBounds_toArray, List.set_cons_zero, List.set_cons_succ]
       refine wpAnyH_done (by kernel_rfl) ?_ _
       refine NoPanic.normal ?_
       go_wp2_with fail
       exact bodyPost_ret (v := .agg (ints .u8 X).toArray) (results_cell_row Tryz.results65 _ _ w.heap.size 28 _ _ _ rfl (setRow_heap _ _ _ _ _ _ r1) Tryz.underlying28 rfl (by rw [Tryz.sizeD, LX.out])) rfl ⟨rfl, hb9⟩)
end Go.Proofs.YtbjahdbmkcamoaaGreatDoor
