import Derived.Test.YtbjahdbmkcamoaaGreatDoorNp
import Derived.Test.YtbjahdbmkcamoaaGreatDoorClK
import Derived.Test.YtbjahdbmkcamoaaGreatDoorXb9
namespace Go.Proofs.YtbjahdbmkcamoaaGreatDoor
set_option linter.unusedVariables false
set_option linter.unusedSimpArgs false
open Go.RowKit
attribute [local go_sem ↓] Go.wp_at_zero Go.wp_at_succ

theorem sha_bys (m : List Int) : Bys (sha m) := fun x hx => by
  unfold sha stBytes at hx
  obtain ⟨y, hy, hx⟩ := List.mem_flatMap.1 hx
  have hb := padS_bd _ _ _ y hy
  simp only [wb, List.mem_cons, List.not_mem_nil, or_false] at hx
  rcases hx with rfl | rfl | rfl | rfl <;> omega
theorem splice_bys {a b : List Int} (ha : Bys a) (hb : Bys b) (n : Nat) : Bys (splice a n b) := fun x hx => by
  unfold splice at hx
  simp only [List.mem_append] at hx
  rcases hx with hx | hx | hx
  · exact ha x (List.mem_of_mem_take hx)
  · exact hb x hx
  · exact ha x (List.mem_of_mem_drop hx)
theorem cutZ_bys {zs : List Int} (h : Bys zs) (n : Nat) : Bys (cutZ zs n) := splice_bys (fun x hx => by have := List.eq_of_mem_replicate hx; omega) (h.take n) 0
theorem cons_bys {x : Int} {zs : List Int} (hx : 0 ≤ x ∧ x < 256) (h : Bys zs) : Bys (x :: zs) := fun y hy => by
  rcases List.mem_cons.1 hy with rfl | hy
  · exact hx
  · exact h y hy
theorem emptyD_bys (k : Int) : ∀ h, Bys (emptyD k h)
  | 0 => cutZ_bys (sha_bys _) _
  | h + 1 => cutZ_bys (sha_bys _) _
theorem footT_bys {ks vs : List Int} {f : Bool} (hk : Bys ks) (hv : Bys vs) : Bys (footT ks f vs) := by
  unfold footT
  split
  · exact cons_bys (by decide) (hk.app hv)
  · exact cons_bys (by decide) (fun x h => by cases h)
theorem footD_bys (k : Int) (ks : List Int) (f : Bool) (vs : List Int) : Bys (footD k ks f vs) := by
  unfold footD
  split
  · exact cutZ_bys (sha_bys _) _
  · exact emptyD_bys _ _
theorem pth_bys (k : Int) (ks : List Int) (nb : Nat → List Int) {d : List Int} (hd : Bys d) : ∀ h, Bys (pth k ks nb d h)
  | 0 => hd
  | h + 1 => by unfold pth; split <;> exact cutZ_bys (sha_bys _) _
theorem nbr_bys {k : Int} {p : Pf} (ok : PfOk p) (y : PfY p) (hw : WellP p) {h : Nat} (hh : h < 256) : Bys (nbr k p h) := by
  unfold nbr
  split
  · rename_i hb
    have := lft_lt y.bs ok.bs hh hb
    rw [List.getD_eq_getElem?_getD, List.getElem?_eq_getElem (by rw [hw.num]; exact this)]
    exact y.ss _ (List.getElem_mem _)
  · exact emptyD_bys _ _
theorem txtP_bys {k : Int} {ks : List Int} {p : Pf} (hk : Bys ks) (ok : PfOk p) (y : PfY p) (hw : WellP p) : ∀ h, h ≤ 256 → Bys (txtP k ks p h)
  | 0, _ => footT_bys hk y.vs
  | h + 1, hh => by
    have h1 := pth_bys k ks (nbr k p) (footD_bys k ks p.f p.vs) h
    have h2 := nbr_bys (k := k) ok y hw (h := h) (by omega)
    show Bys (sideT k ks h _ _)
    unfold sideT
    split
    · exact cons_bys (by decide) ((Bys.take h1 _).app (Bys.take h2 _))
    · exact cons_bys (by decide) ((Bys.take h2 _).app (Bys.take h1 _))
set_option maxRecDepth 100000 in
set_option maxHeartbeats 4000000 in
theorem extract_bad (w : World) (k : Int) (root ks s t : List Int) (hr : root.length = 32) (hk : ks.length = 32) (sp tp : Option Addr) (cap dap : Nat) (hw : k < 1 ∨ 32 < k) :
    Calls Tryz.prog 11 #[.int .i64 k, .agg (ints .u8 root).toArray, .agg (ints .u8 ks).toArray, .slice sp s.length cap, .slice tp t.length dap] w fun e w' => e = .returned (.tuple #[.slice none 0 0, .slice none 0 0, .bool false]) ∧ Below w.heap.size w w' := by
  have KT := hid (fun w1 => termsOf_bad w1 k root hr hw)
  have AT := hid allocTm
  have LZ := hid (show (tmC 0 zB (.slice none 0 0)).length = 34 from rfl)
  have d0 := ((BK.nil w).alloc (ints .u8 root) 28).alloc (ints .u8 ks) 24
  rw [show (w.alloc (.cells (ints .u8 root).toArray 28)).heap.size = w.heap.size + 1 by simp] at d0
  have LR := hid (show (Tryz.prog.info? 28).map (·.size) = some (ints .u8 root).toArray.size by rw [Tryz.sizeD, ints_size, hr])
  have LK := hid (show (Tryz.prog.info? 24).map (·.size) = some (ints .u8 ks).toArray.size by rw [Tryz.sizeKy, ints_size, hk])
  have rr := d0.row (.tail _ (.head _))
  have OZ := hid (tmC_one (k := 0) (root := zB) (e := .slice none 0 0) rfl)
  generalize tmC 0 zB (.slice none 0 0) = TZ at *
  go_enter Tryz.func11, Tryz.ntmps11
  go_wp2_with (first
    | refine wpList_load_row rfl 28 _ rfl _ rfl 28 _ _ _ rr Tryz.underlying28 rfl LR.out ?_
    | (refine (KT.out _).mono ?_; rintro e w2 ⟨rfl, hb2⟩; refine Hid.out ?_))
  refine hid ?_
  have d2 := d0.call hb2
  clear d0 rr KT hb2
  go_wp2_with (first | (refine wpList_new AT.out LZ.out Tryz.sizeTm rfl rfl rfl _ _ rfl rfl TZ rfl rfl LZ.out OZ.out ?_; refine Hid.out ?_))
  refine hid ?_
  have d3 := d2.alloc TZ 57
  clear d2
  generalize w2.alloc (.cells TZ.toArray 57) = w3 at *
  go_wp2_with fail
  exact bodyPost_ret (results_tmp3 Tryz.results11 _ _ _) rfl ⟨rfl, d3.1⟩
set_option maxRecDepth 100000 in
set_option maxHeartbeats 4000000 in
theorem extract_same (w : World) (hG : Glob w) (n : Nat) (h1 : 1 ≤ n) (h2 : n ≤ 32) (root ks s t : List Int) (hr : root.length = 32) (hk : ks.length = 32) (hyk : Bys ks) (sp tp : Option Addr) (cap dap : Nat) (hys : Bys s) (hyt : Bys t) (hS : Src w sp cap s) (hT : Src w tp dap t) (hst : s = t) :
    Calls Tryz.prog 11 #[.int .i64 (n : Nat), .agg (ints .u8 root).toArray, .agg (ints .u8 ks).toArray, .slice sp s.length cap, .slice tp t.length dap] w fun e w' => e = .returned (.tuple #[.slice none 0 0, .slice none 0 0, .bool false]) ∧ Below w.heap.size w w' := by
  have KT := hid (fun w1 (g1 : Glob w1) => termsOf_ok w1 g1 n root hr (by omega) (by omega))
  have KE := hid (fun w1 (b1 : Below w.heap.size w w1) => equal_any w1 s t hys hyt sp tp cap dap (hS.below b1 (Nat.le_refl _)) (hT.below b1 (Nat.le_refl _)))
  rw [decide_eq_true hst] at KE
  have KH1 := hid (fun w1 (g1 : Glob w1) ge he (s1 : Src w1 sp cap s) => held_any w1 g1 n h2 root ks s hr hk hyk ge he sp cap hys s1)
  have KH2 := hid (fun w1 (g1 : Glob w1) ge he (s1 : Src w1 tp dap t) => held_any w1 g1 n h2 root ks t hr hk hyk ge he tp dap hyt s1)
  have HST := hid hst
  clear hst
  have AT := hid allocTm
  have LZ := hid (show (tmC 0 zB (.slice none 0 0)).length = 34 from rfl)
  have d0 := ((BK.nil w).alloc (ints .u8 root) 28).alloc (ints .u8 ks) 24
  rw [show (w.alloc (.cells (ints .u8 root).toArray 28)).heap.size = w.heap.size + 1 by simp] at d0
  have LR := hid (show (Tryz.prog.info? 28).map (·.size) = some (ints .u8 root).toArray.size by rw [Tryz.sizeD, ints_size, hr])
  have LK := hid (show (Tryz.prog.info? 24).map (·.size) = some (ints .u8 ks).toArray.size by rw [Tryz.sizeKy, ints_size, hk])
  have rr := d0.row (.tail _ (.head _))
  have rk := d0.row (.head _)
  have OT := hid (fun ge => tmC_one (k := n) (root := root) (e := .slice (some ⟨ge, 0, none⟩) 256 256) rfl)
  have LT := hid (fun ge => tmC_len (k := n) (e := .slice (some ⟨ge, 0, none⟩) 256 256) hr)
  generalize tmC 0 zB (.slice none 0 0) = TZ at *
  generalize tmC (n : Int) root = TM at *
  have i1 : (n : Int) ≤ 32 := by omega
  go_enter Tryz.func11, Tryz.ntmps11
  go_wp2_with (first
    | refine wpList_load_row rfl 28 _ rfl _ rfl 28 _ _ _ rr Tryz.underlying28 rfl LR.out ?_
    | (refine (KT.out _ (hG.below d0.1 hG.1)).mono ?_; rintro e w2 ⟨ge, rfl, hge, re, hb2⟩; refine Hid.out ?_))
  refine hid ?_
  have d2 := d0.call hb2
  clear d0 rr rk KT hb2
  go_wp2_with (first | (refine wpList_new AT.out LZ.out Tryz.sizeTm rfl rfl rfl _ _ rfl rfl (TM (.slice (some ⟨ge, 0, none⟩) 256 256)) rfl rfl (LT.out _) (OT.out _) ?_; refine Hid.out ?_))
  refine hid ?_
  have d3 := d2.alloc (TM (.slice (some ⟨ge, 0, none⟩) 256 256)) 57
  have re3 := hold (o := .cells (TM (.slice (some ⟨ge, 0, none⟩) 256 256)).toArray 57) re
  clear d2 re
  generalize w2.alloc (.cells (TM (.slice (some ⟨ge, 0, none⟩) 256 256)).toArray 57) = w3 at *
  generalize w2.heap.size = G at *
  have rt := d3.row (.head _)
  have rk := d3.row (.tail _ (.head _))
  have LT2 := hid (show (Tryz.prog.info? 57).map (·.size) = some (TM (.slice (some ⟨ge, 0, none⟩) 256 256)).toArray.size by rw [Tryz.sizeTm, List.size_toArray, LT.out])
  go_wp2_with (first | (refine (KE.out _ d3.1).mono ?_; rintro e w9 ⟨rfl, rfl⟩))
  exact bodyPost_ret (results_tmp3 Tryz.results11 _ _ _) rfl ⟨rfl, d3.1⟩
set_option maxRecDepth 100000 in
set_option maxHeartbeats 4000000 in
theorem extract_first (w : World) (hG : Glob w) (n : Nat) (h1 : 1 ≤ n) (h2 : n ≤ 32) (root ks s t : List Int) (hr : root.length = 32) (hk : ks.length = 32) (hyk : Bys ks) (sp tp : Option Addr) (cap dap : Nat) (hys : Bys s) (hyt : Bys t) (hS : Src w sp cap s) (hT : Src w tp dap t) (hst : s ≠ t) (hh : heldE n root ks s ≠ 0) :
    Calls Tryz.prog 11 #[.int .i64 (n : Nat), .agg (ints .u8 root).toArray, .agg (ints .u8 ks).toArray, .slice sp s.length cap, .slice tp t.length dap] w fun e w' => e = .returned (.tuple #[.slice none 0 0, .slice none 0 0, .bool false]) ∧ Below w.heap.size w w' := by
  have KT := hid (fun w1 (g1 : Glob w1) => termsOf_ok w1 g1 n root hr (by omega) (by omega))
  have KE := hid (fun w1 (b1 : Below w.heap.size w w1) => equal_any w1 s t hys hyt sp tp cap dap (hS.below b1 (Nat.le_refl _)) (hT.below b1 (Nat.le_refl _)))
  rw [decide_eq_false hst] at KE
  have KH1 := hid (fun w1 (g1 : Glob w1) ge he (s1 : Src w1 sp cap s) => held_any w1 g1 n h2 root ks s hr hk hyk ge he sp cap hys s1)
  have KH2 := hid (fun w1 (g1 : Glob w1) ge he (s1 : Src w1 tp dap t) => held_any w1 g1 n h2 root ks t hr hk hyk ge he tp dap hyt s1)
  generalize heldE n root ks s = hE at *
  have i5 : (hE != 0) = true := by simpa using hh
  have HN := hid hh
  clear hh
  have AT := hid allocTm
  have LZ := hid (show (tmC 0 zB (.slice none 0 0)).length = 34 from rfl)
  have d0 := ((BK.nil w).alloc (ints .u8 root) 28).alloc (ints .u8 ks) 24
  rw [show (w.alloc (.cells (ints .u8 root).toArray 28)).heap.size = w.heap.size + 1 by simp] at d0
  have LR := hid (show (Tryz.prog.info? 28).map (·.size) = some (ints .u8 root).toArray.size by rw [Tryz.sizeD, ints_size, hr])
  have LK := hid (show (Tryz.prog.info? 24).map (·.size) = some (ints .u8 ks).toArray.size by rw [Tryz.sizeKy, ints_size, hk])
  have rr := d0.row (.tail _ (.head _))
  have rk := d0.row (.head _)
  have OT := hid (fun ge => tmC_one (k := n) (root := root) (e := .slice (some ⟨ge, 0, none⟩) 256 256) rfl)
  have LT := hid (fun ge => tmC_len (k := n) (e := .slice (some ⟨ge, 0, none⟩) 256 256) hr)
  generalize tmC 0 zB (.slice none 0 0) = TZ at *
  generalize tmC (n : Int) root = TM at *
  have i1 : (n : Int) ≤ 32 := by omega
  go_enter Tryz.func11, Tryz.ntmps11
  go_wp2_with (first
    | refine wpList_load_row rfl 28 _ rfl _ rfl 28 _ _ _ rr Tryz.underlying28 rfl LR.out ?_
    | (refine (KT.out _ (hG.below d0.1 hG.1)).mono ?_; rintro e w2 ⟨ge, rfl, hge, re, hb2⟩; refine Hid.out ?_))
  refine hid ?_
  have d2 := d0.call hb2
  clear d0 rr rk KT hb2
  go_wp2_with (first | (refine wpList_new AT.out LZ.out Tryz.sizeTm rfl rfl rfl _ _ rfl rfl (TM (.slice (some ⟨ge, 0, none⟩) 256 256)) rfl rfl (LT.out _) (OT.out _) ?_; refine Hid.out ?_))
  refine hid ?_
  have d3 := d2.alloc (TM (.slice (some ⟨ge, 0, none⟩) 256 256)) 57
  have re3 := hold (o := .cells (TM (.slice (some ⟨ge, 0, none⟩) 256 256)).toArray 57) re
  clear d2 re
  generalize w2.alloc (.cells (TM (.slice (some ⟨ge, 0, none⟩) 256 256)).toArray 57) = w3 at *
  generalize w2.heap.size = G at *
  have rt := d3.row (.head _)
  have rk := d3.row (.tail _ (.head _))
  have LT2 := hid (show (Tryz.prog.info? 57).map (·.size) = some (TM (.slice (some ⟨ge, 0, none⟩) 256 256)).toArray.size by rw [Tryz.sizeTm, List.size_toArray, LT.out])
  go_wp2_with (first
    | (refine (KE.out _ d3.1).mono ?_; rintro e w9 ⟨rfl, rfl⟩)
    | refine wpList_load_row rfl 57 _ rfl _ rfl 57 _ _ _ rt Tryz.underlying57 rfl LT2.out ?_
    | refine wpList_load_row rfl 24 _ rfl _ rfl 24 _ _ _ rk Tryz.underlying24 rfl LK.out ?_
    | (refine (KH1.out _ (hG.below d3.1 hG.1) ge re3 (hS.below d3.1 (Nat.le_refl _))).mono ?_; rintro e w4 ⟨v4, rfl, hb4, hn4, hv4⟩; refine Hid.out ?_))
  refine hid ?_
  obtain rfl := hn4 HN.out
  have d4 := d3.call hb4
  clear d3 rt rk re3 KH1 hb4 hn4 hv4
  go_wp2_with fail
  exact bodyPost_ret (results_tmp3 Tryz.results11 _ _ _) rfl ⟨rfl, d4.1⟩
set_option maxRecDepth 100000 in
set_option maxHeartbeats 4000000 in
theorem extract_second (w : World) (hG : Glob w) (n : Nat) (h1 : 1 ≤ n) (h2 : n ≤ 32) (root ks s t : List Int) (hr : root.length = 32) (hk : ks.length = 32) (hyk : Bys ks) (sp tp : Option Addr) (cap dap : Nat) (hys : Bys s) (hyt : Bys t) (hS : Src w sp cap s) (hT : Src w tp dap t) (hst : s ≠ t) (hh1 : heldE n root ks s = 0) (hh : heldE n root ks t ≠ 0) :
    Calls Tryz.prog 11 #[.int .i64 (n : Nat), .agg (ints .u8 root).toArray, .agg (ints .u8 ks).toArray, .slice sp s.length cap, .slice tp t.length dap] w fun e w' => e = .returned (.tuple #[.slice none 0 0, .slice none 0 0, .bool false]) ∧ Below w.heap.size w w' := by
  have KT := hid (fun w1 (g1 : Glob w1) => termsOf_ok w1 g1 n root hr (by omega) (by omega))
  have KE := hid (fun w1 (b1 : Below w.heap.size w w1) => equal_any w1 s t hys hyt sp tp cap dap (hS.below b1 (Nat.le_refl _)) (hT.below b1 (Nat.le_refl _)))
  rw [decide_eq_false hst] at KE
  have KH1 := hid (fun w1 (g1 : Glob w1) ge he (s1 : Src w1 sp cap s) => held_any w1 g1 n h2 root ks s hr hk hyk ge he sp cap hys s1)
  have KH2 := hid (fun w1 (g1 : Glob w1) ge he (s1 : Src w1 tp dap t) => held_any w1 g1 n h2 root ks t hr hk hyk ge he tp dap hyt s1)
  rw [hh1] at KH1
  generalize heldE n root ks t = hE at *
  have i5 : (hE != 0) = true := by simpa using hh
  have HN := hid hh
  clear hh
  have AT := hid allocTm
  have LZ := hid (show (tmC 0 zB (.slice none 0 0)).length = 34 from rfl)
  have d0 := ((BK.nil w).alloc (ints .u8 root) 28).alloc (ints .u8 ks) 24
  rw [show (w.alloc (.cells (ints .u8 root).toArray 28)).heap.size = w.heap.size + 1 by simp] at d0
  have LR := hid (show (Tryz.prog.info? 28).map (·.size) = some (ints .u8 root).toArray.size by rw [Tryz.sizeD, ints_size, hr])
  have LK := hid (show (Tryz.prog.info? 24).map (·.size) = some (ints .u8 ks).toArray.size by rw [Tryz.sizeKy, ints_size, hk])
  have rr := d0.row (.tail _ (.head _))
  have rk := d0.row (.head _)
  have OT := hid (fun ge => tmC_one (k := n) (root := root) (e := .slice (some ⟨ge, 0, none⟩) 256 256) rfl)
  have LT := hid (fun ge => tmC_len (k := n) (e := .slice (some ⟨ge, 0, none⟩) 256 256) hr)
  generalize tmC 0 zB (.slice none 0 0) = TZ at *
  generalize tmC (n : Int) root = TM at *
  have i1 : (n : Int) ≤ 32 := by omega
  go_enter Tryz.func11, Tryz.ntmps11
  go_wp2_with (first
    | refine wpList_load_row rfl 28 _ rfl _ rfl 28 _ _ _ rr Tryz.underlying28 rfl LR.out ?_
    | (refine (KT.out _ (hG.below d0.1 hG.1)).mono ?_; rintro e w2 ⟨ge, rfl, hge, re, hb2⟩; refine Hid.out ?_))
  refine hid ?_
  have d2 := d0.call hb2
  clear d0 rr rk KT hb2
  go_wp2_with (first | (refine wpList_new AT.out LZ.out Tryz.sizeTm rfl rfl rfl _ _ rfl rfl (TM (.slice (some ⟨ge, 0, none⟩) 256 256)) rfl rfl (LT.out _) (OT.out _) ?_; refine Hid.out ?_))
  refine hid ?_
  have d3 := d2.alloc (TM (.slice (some ⟨ge, 0, none⟩) 256 256)) 57
  have re3 := hold (o := .cells (TM (.slice (some ⟨ge, 0, none⟩) 256 256)).toArray 57) re
  clear d2 re
  generalize w2.alloc (.cells (TM (.slice (some ⟨ge, 0, none⟩) 256 256)).toArray 57) = w3 at *
  generalize w2.heap.size = G at *
  have rt := d3.row (.head _)
  have rk := d3.row (.tail _ (.head _))
  have LT2 := hid (show (Tryz.prog.info? 57).map (·.size) = some (TM (.slice (some ⟨ge, 0, none⟩) 256 256)).toArray.size by rw [Tryz.sizeTm, List.size_toArray, LT.out])
  go_wp2_with (first
    | (refine (KE.out _ d3.1).mono ?_; rintro e w9 ⟨rfl, rfl⟩)
    | refine wpList_load_row rfl 57 _ rfl _ rfl 57 _ _ _ rt Tryz.underlying57 rfl LT2.out ?_
    | refine wpList_load_row rfl 24 _ rfl _ rfl 24 _ _ _ rk Tryz.underlying24 rfl LK.out ?_
    | (refine (KH1.out _ (hG.below d3.1 hG.1) ge re3 (hS.below d3.1 (Nat.le_refl _))).mono ?_; rintro e w4 ⟨v4, rfl, hb4, hn4, hv4⟩; refine Hid.out ?_))
  refine hid ?_
  obtain ⟨cb1, rfl, P1, hV1, hO1⟩ := hv4 (by first | rfl | trivial)
  have d4 := d3.call hb4
  have re4 := hbel hb4 re3 (hlt re3)
  have rt4 := d4.row (.head _)
  have rk4 := d4.row (.tail _ (.head _))
  clear d3 rt rk re3 KH1 hb4 hn4 hv4
  go_wp2_with (first
    | refine wpList_load_row rfl 57 _ rfl _ rfl 57 _ _ _ rt4 Tryz.underlying57 rfl LT2.out ?_
    | refine wpList_load_row rfl 24 _ rfl _ rfl 24 _ _ _ rk4 Tryz.underlying24 rfl LK.out ?_
    | (refine (KH2.out _ (hG.below d4.1 hG.1) ge re4 (hT.below d4.1 (Nat.le_refl _))).mono ?_; rintro e w5 ⟨v5, rfl, hb5, hn5, hv5⟩; refine Hid.out ?_))
  refine hid ?_
  obtain rfl := hn5 HN.out
  have d5 := d4.call hb5
  clear d4 rt4 rk4 re4 KH2 hb5 hn5 hv5
  go_wp2_with fail
  exact bodyPost_ret (results_tmp3 Tryz.results11 _ _ _) rfl ⟨rfl, d5.1⟩
set_option maxRecDepth 100000 in
set_option maxHeartbeats 4000000 in
theorem extract_yes (w : World) (hG : Glob w) (n : Nat) (h1 : 1 ≤ n) (h2 : n ≤ 32) (root ks s t : List Int) (hr : root.length = 32) (hk : ks.length = 32) (hyk : Bys ks) (sp tp : Option Addr) (cap dap : Nat) (hys : Bys s) (hyt : Bys t) (hS : Src w sp cap s) (hT : Src w tp dap t) (hst : s ≠ t) (hh1 : heldE n root ks s = 0) (hh2 : heldE n root ks t = 0) (H : Nat) (hH : H ≤ 256) (hne : txtP n ks (decV s) H ≠ txtP n ks (decV t) H) (heq : ∀ j, H < j → j ≤ 256 → txtP n ks (decV s) j = txtP n ks (decV t) j) :
    Calls Tryz.prog 11 #[.int .i64 (n : Nat), .agg (ints .u8 root).toArray, .agg (ints .u8 ks).toArray, .slice sp s.length cap, .slice tp t.length dap] w fun e w' => ∃ s1 d1 s2 d2, e = .returned (.tuple #[.slice s1 (txtP n ks (decV s) H).length d1, .slice s2 (txtP n ks (decV t) H).length d2, .bool true]) ∧ Src w' s1 d1 (txtP n ks (decV s) H) ∧ Src w' s2 d2 (txtP n ks (decV t) H) ∧ Below w.heap.size w w' := by
  have KT := hid (fun w1 (g1 : Glob w1) => termsOf_ok w1 g1 n root hr (by omega) (by omega))
  have KE := hid (fun w1 (b1 : Below w.heap.size w w1) => equal_any w1 s t hys hyt sp tp cap dap (hS.below b1 (Nat.le_refl _)) (hT.below b1 (Nat.le_refl _)))
  rw [decide_eq_false hst] at KE
  have KH1 := hid (fun w1 (g1 : Glob w1) ge he (s1 : Src w1 sp cap s) => held_any w1 g1 n h2 root ks s hr hk hyk ge he sp cap hys s1)
  have KH2 := hid (fun w1 (g1 : Glob w1) ge he (s1 : Src w1 tp dap t) => held_any w1 g1 n h2 root ks t hr hk hyk ge he tp dap hyt s1)
  obtain ⟨ok1, y1, w1, _⟩ := dec_some hys (held_dec hh1).1
  obtain ⟨ok2, y2, w2, _⟩ := dec_some hyt (held_dec hh2).1
  have HB1 := hid (fun i (hi : i ≤ 256) => txtP_bys (k := n) hyk ok1 y1 w1 i hi)
  have HB2 := hid (fun i (hi : i ≤ 256) => txtP_bys (k := n) hyk ok2 y2 w2 i hi)
  have HX := hid (fun i (hi : i ≤ 256) => txN_nears n ks (decV s) i hi)
  have HY := hid (fun i (hi : i ≤ 256) => txN_nears n ks (decV t) i hi)
  have HNE := hid hne
  have HEQ := hid heq
  rw [hh1] at KH1
  rw [hh2] at KH2
  clear hne heq
  have AT := hid allocTm
  have LZ := hid (show (tmC 0 zB (.slice none 0 0)).length = 34 from rfl)
  have d0 := ((BK.nil w).alloc (ints .u8 root) 28).alloc (ints .u8 ks) 24
  rw [show (w.alloc (.cells (ints .u8 root).toArray 28)).heap.size = w.heap.size + 1 by simp] at d0
  have LR := hid (show (Tryz.prog.info? 28).map (·.size) = some (ints .u8 root).toArray.size by rw [Tryz.sizeD, ints_size, hr])
  have LK := hid (show (Tryz.prog.info? 24).map (·.size) = some (ints .u8 ks).toArray.size by rw [Tryz.sizeKy, ints_size, hk])
  have rr := d0.row (.tail _ (.head _))
  have rk := d0.row (.head _)
  have OT := hid (fun ge => tmC_one (k := n) (root := root) (e := .slice (some ⟨ge, 0, none⟩) 256 256) rfl)
  have LT := hid (fun ge => tmC_len (k := n) (e := .slice (some ⟨ge, 0, none⟩) 256 256) hr)
  generalize tmC 0 zB (.slice none 0 0) = TZ at *
  generalize tmC (n : Int) root = TM at *
  have i1 : (n : Int) ≤ 32 := by omega
  go_enter Tryz.func11, Tryz.ntmps11
  go_wp2_with (first
    | refine wpList_load_row rfl 28 _ rfl _ rfl 28 _ _ _ rr Tryz.underlying28 rfl LR.out ?_
    | (refine (KT.out _ (hG.below d0.1 hG.1)).mono ?_; rintro e w2 ⟨ge, rfl, hge, re, hb2⟩; refine Hid.out ?_))
  refine hid ?_
  have d2 := d0.call hb2
  clear d0 rr rk KT hb2
  go_wp2_with (first | (refine wpList_new AT.out LZ.out Tryz.sizeTm rfl rfl rfl _ _ rfl rfl (TM (.slice (some ⟨ge, 0, none⟩) 256 256)) rfl rfl (LT.out _) (OT.out _) ?_; refine Hid.out ?_))
  refine hid ?_
  have d3 := d2.alloc (TM (.slice (some ⟨ge, 0, none⟩) 256 256)) 57
  have re3 := hold (o := .cells (TM (.slice (some ⟨ge, 0, none⟩) 256 256)).toArray 57) re
  clear d2 re
  generalize w2.alloc (.cells (TM (.slice (some ⟨ge, 0, none⟩) 256 256)).toArray 57) = w3 at *
  generalize w2.heap.size = G at *
  have rt := d3.row (.head _)
  have rk := d3.row (.tail _ (.head _))
  have LT2 := hid (show (Tryz.prog.info? 57).map (·.size) = some (TM (.slice (some ⟨ge, 0, none⟩) 256 256)).toArray.size by rw [Tryz.sizeTm, List.size_toArray, LT.out])
  go_wp2_with (first
    | (refine (KE.out _ d3.1).mono ?_; rintro e w9 ⟨rfl, rfl⟩)
    | refine wpList_load_row rfl 57 _ rfl _ rfl 57 _ _ _ rt Tryz.underlying57 rfl LT2.out ?_
    | refine wpList_load_row rfl 24 _ rfl _ rfl 24 _ _ _ rk Tryz.underlying24 rfl LK.out ?_
    | (refine (KH1.out _ (hG.below d3.1 hG.1) ge re3 (hS.below d3.1 (Nat.le_refl _))).mono ?_; rintro e w4 ⟨v4, rfl, hb4, hn4, hv4⟩; refine Hid.out ?_))
  refine hid ?_
  obtain ⟨cb1, rfl, P1, hV1, hO1⟩ := hv4 (by first | rfl | trivial)
  have d4 := d3.call hb4
  have re4 := hbel hb4 re3 (hlt re3)
  have rt4 := d4.row (.head _)
  have rk4 := d4.row (.tail _ (.head _))
  clear d3 rt rk re3 KH1 hb4 hn4 hv4
  go_wp2_with (first
    | refine wpList_load_row rfl 57 _ rfl _ rfl 57 _ _ _ rt4 Tryz.underlying57 rfl LT2.out ?_
    | refine wpList_load_row rfl 24 _ rfl _ rfl 24 _ _ _ rk4 Tryz.underlying24 rfl LK.out ?_
    | (refine (KH2.out _ (hG.below d4.1 hG.1) ge re4 (hT.below d4.1 (Nat.le_refl _))).mono ?_; rintro e w5 ⟨v5, rfl, hb5, hn5, hv5⟩; refine Hid.out ?_))
  refine hid ?_
  obtain ⟨cb2, rfl, P2, hV2, hO2⟩ := hv5 (by first | rfl | trivial)
  have d5 := d4.call hb5
  have hV1' := hV1.below hb5
  clear d4 rt4 rk4 re4 KH2 hb5 hn5 hv5
  have KX1 := hid (texts_any w5 (hG.below d5.1 hG.1) cb1 P1 n root ks _ _ hV1')
  have KX2 := hid (fun w6 (hb6 : Below w5.heap.size w5 w6) => texts_any w6 (hG.below (d5.call hb6).1 hG.1) cb2 P2 n root ks _ _ (hV2.below hb6))
  have HD5 := hid d5.1
  clear hV1 hV2 hV1' hO1 hO2 d5
  generalize txN n ks (decV s) (nears n (decV s)) = X at *
  generalize txN n ks (decV t) (nears n (decV t)) = Y at *
  generalize hX2 : txtP n ks (decV s) = X2 at *
  generalize hY2 : txtP n ks (decV t) = Y2 at *
  have HXb := hid (fun i (hi : i < 257) => show Bys (X i) by rw [HX.out i (by omega)]; exact HB1.out i (by omega))
  have HYb := hid (fun i (hi : i < 257) => show Bys (Y i) by rw [HY.out i (by omega)]; exact HB2.out i (by omega))
  have HNE2 := hid (show X H ≠ Y H by rw [HX.out H hH, HY.out H hH]; exact HNE.out)
  have HEQ2 := hid (fun j (h3 : H < j) (h4 : j ≤ 256) => show X j = Y j by rw [HX.out j h4, HY.out j h4]; exact HEQ.out j h3 h4)
  have HXH := hid (HX.out H hH)
  have HYH := hid (HY.out H hH)
  have HX2 := hid hX2
  have HY2 := hid hY2
  clear hX2 hY2 HNE HEQ HB1 HB2 HX HY
  go_wp2_with (first | (refine KX1.out.mono ?_; rintro e w6 ⟨v6, rfl, hT6, hb6⟩; refine Hid.out ?_))
  refine hid ?_
  have KX2' := hid (KX2.out w6 hb6)
  obtain ⟨b1, c1, rfl, hc1, -⟩ := hT6.form
  clear KX1 KX2
  go_wp2_with (first | (refine KX2'.out.mono ?_; rintro e w7 ⟨v7, rfl, hT7, hb7⟩; refine Hid.out ?_))
  refine hid ?_
  have hT6' := hT6.below hb7
  obtain ⟨b1', c1', e1, hc1', hF1⟩ := hT6'.form
  simp only [Value.slice.injEq, Option.some.injEq, Addr.mk.injEq, true_and, and_true] at e1
  obtain ⟨rfl, rfl⟩ := e1
  obtain ⟨b2, c2, rfl, hc2, hF2⟩ := hT7.form
  have KU := hid (highest_any w7 b1 c1 b2 c2 X Y HXb.out HYb.out hc1 hc2 hF1 hF2 H hH HNE2.out HEQ2.out)
  have hD7 := (HD5.out.trans (hb6.mono HD5.out.size)).trans (hb7.mono (HD5.out.trans (hb6.mono HD5.out.size)).size)
  rw [HXH.out, HYH.out] at KU
  clear KX2' hT6 hT6' hT7 hF1 hF2 hb6 hb7
  generalize hXH3 : X2 H = XH at *
  generalize hYH3 : Y2 H = YH at *
  have HXH3 := hid hXH3
  have HYH3 := hid hYH3
  clear hXH3 hYH3
  go_wp2_with (first | (refine KU.out.mono ?_; rintro e w8 ⟨s1, d1, s2, d2, rfl, hS1, hS2, hb8⟩; refine Hid.out ?_))
  refine hid ?_
  go_wp2_with fail
  exact bodyPost_ret (results_tmp3 Tryz.results11 _ _ _) rfl ⟨s1, d1, s2, d2, (by rw [HX2.out, HY2.out, HXH3.out, HYH3.out]; rfl), (by rw [HX2.out, HXH3.out]; exact hS1), (by rw [HY2.out, HYH3.out]; exact hS2), hD7.trans (hb8.mono hD7.size)⟩
end Go.Proofs.YtbjahdbmkcamoaaGreatDoor
namespace Go.Proofs.YtbjahdbmkcamoaaGreatDoor
set_option linter.unusedVariables false
set_option linter.unusedSimpArgs false
open Go.RowKit
attribute [local go_sem ↓] Go.wp_at_zero Go.wp_at_succ

/-! The proof that nothing is there, under the empty map's root. -/
def z33 : List Int := List.replicate 33 0
theorem z33_bys : Bys z33 := fun x hx => by have := List.eq_of_mem_replicate hx; omega
theorem dec_z33 : decP z33 = some pf0 := by kernel_rfl
theorem bit_zB (h : Nat) : bitB zB h = 0 := by
  unfold bitB
  have : zB.getD (h / 8) 0 = 0 := by
    unfold zB
    rw [List.getD_eq_getElem?_getD, List.getElem?_replicate]
    split <;> rfl
  rw [this]; simp
theorem digE_pf0 (k : Int) : ∀ h, digE k pf0 h = 0
  | 0 => rfl
  | h + 1 => by
    have := digE_pf0 k h
    exact digE_s0 this (bit_zB h)
theorem nbr_pf0 (k : Int) (h : Nat) : nbr k pf0 h = emptyD k h := by
  unfold nbr; rw [show pf0.bs = zB from rfl, bit_zB, if_neg (by decide)]
theorem pth_pf0 (k : Int) (ks : List Int) : ∀ h, pth k ks (nbr k pf0) (footD k ks pf0.f pf0.vs) h = emptyD k h
  | 0 => rfl
  | h + 1 => by
    show (if bitK ks (255 - h) = 0 then branchD k (pth k ks (nbr k pf0) (footD k ks pf0.f pf0.vs) h) (nbr k pf0 h) else branchD k (nbr k pf0 h) (pth k ks (nbr k pf0) (footD k ks pf0.f pf0.vs) h)) = emptyD k (h + 1)
    rw [pth_pf0 k ks h, nbr_pf0]
    split <;> rfl
theorem held_z33 (k : Int) (ks root : List Int) : heldE k root ks z33 = if emptyD k 256 = root then 0 else 131 := by
  have h1 : decE z33 = 0 := by unfold decE; rw [dec_z33]; rfl
  have h2 : decV z33 = pf0 := by unfold decV; rw [dec_z33]; rfl
  unfold heldE pthP
  rw [if_pos h1, h2, if_pos (digE_pf0 k 256), pth_pf0]
theorem ver_z33 {k : Int} (ks : List Int) (h1 : 1 ≤ k) (h2 : k ≤ 32) : verE k (emptyD k 256) ks z33 = 0 ∧ verF k (emptyD k 256) ks z33 = false ∧ verV k (emptyD k 256) ks z33 = [] := by
  have e : verE k (emptyD k 256) ks z33 = 0 := by unfold verE; rw [if_neg (by omega), held_z33, if_pos rfl]
  have d : decV z33 = pf0 := by unfold decV; rw [dec_z33]; rfl
  refine ⟨e, ?_, ?_⟩
  · unfold verF; rw [if_pos e, d]; rfl
  · unfold verV; rw [if_pos e, d]; rfl
end Go.Proofs.YtbjahdbmkcamoaaGreatDoor
namespace Go.Proofs.YtbjahdbmkcamoaaGreatDoor
set_option linter.unusedVariables false
set_option linter.unusedSimpArgs false
open Go.RowKit
attribute [local go_sem ↓] Go.wp_at_zero Go.wp_at_succ

set_option maxRecDepth 100000 in
set_option maxHeartbeats 4000000 in
theorem copied_any (w : World) (zs : List Int) (sp : Option Addr) (cap : Nat) (hS : Src w sp cap zs) (hnil : sp = none → cap = 0) (hlen : zs.length ≤ 140737488351232) :
    Calls Tryz.prog 10 #[.slice sp zs.length cap] w fun e w' => ∃ v, e = .returned v ∧ Own w' w.heap.size v zs ∧ Below w.heap.size w w' := by
  have hO := Own.nil w w.heap.size
  go_enter Tryz.func10, Tryz.ntmps10
  go_wp2_with (first | (at_builtin; refine wpList_append_wide rfl _ (.tmp 3) rfl w.heap.size (.slice none 0 0) [] zs rfl hO sp cap rfl hnil hS (by simpa using hlen) (Nat.le_refl _) ?_; intro v2 w2 hO2 hg2 hd2))
  go_ret
  exact ⟨_, rfl, hO2, grown_keeps hg2 (fun k e => by cases e) (Nat.le_refl _)⟩
/-- What Extract tells. -/
def ExO (k : Int) (root ks s t : List Int) (x y : List Int) (ok : Bool) : Prop :=
  (ok = false ∧ x = [] ∧ y = [] ∧ (verE k root ks s ≠ 0 ∨ verE k root ks t ≠ 0 ∨ s = t)) ∨
  (ok = true ∧ x ≠ y ∧ Bys x ∧ Bys y ∧ x.length ≤ 1000 ∧ y.length ≤ 1000 ∧ cutZ (sha x) (kept k) = cutZ (sha y) (kept k) ∧ verE k root ks s = 0 ∧ verE k root ks t = 0 ∧ s ≠ t)
theorem txt_len {k : Int} {ks : List Int} {p : Pf} (hk : ks.length = 32) (hw : WellP p) : ∀ h, h ≤ 256 → (txtP k ks p h).length ≤ 1000
  | 0, _ => by
    show (footT ks p.f p.vs).length ≤ 1000
    have := hw.len
    unfold footT leafT
    split <;> simp <;> omega
  | h + 1, _ => by
    show (sideT k ks h _ _).length ≤ 1000
    have := kept_le k
    unfold sideT branchT
    split <;> simp only [List.length_cons, List.length_append, List.length_take] <;> omega
def ExP (w : World) (k : Int) (root ks s t : List Int) (e : Ending) (w' : World) : Prop := ∃ x y ok s1 d1 s2 d2, e = .returned (.tuple #[.slice s1 x.length d1, .slice s2 y.length d2, .bool ok]) ∧ Src w' s1 d1 x ∧ Src w' s2 d2 y ∧ ExO k root ks s t x y ok ∧ Below w.heap.size w w'
theorem extract_all (w : World) (hG : Glob w) (k : Int) (root ks s t : List Int) (hr : root.length = 32) (hk : ks.length = 32) (hyk : Bys ks) (sp tp : Option Addr) (cap dap : Nat) (hys : Bys s) (hyt : Bys t) (hS : Src w sp cap s) (hT : Src w tp dap t) :
    Calls Tryz.prog 11 #[.int .i64 k, .agg (ints .u8 root).toArray, .agg (ints .u8 ks).toArray, .slice sp s.length cap, .slice tp t.length dap] w (ExP w k root ks s t) := by
  have NO : (verE k root ks s ≠ 0 ∨ verE k root ks t ≠ 0 ∨ s = t) → ∀ e w', (e = .returned (.tuple #[.slice none 0 0, .slice none 0 0, .bool false]) ∧ Below w.heap.size w w') → ExP w k root ks s t e w' := by
    rintro h e w' ⟨rfl, hb⟩
    exact ⟨[], [], false, none, 0, none, 0, rfl, Src.nil _, Src.nil _, Or.inl ⟨rfl, rfl, rfl, h⟩, hb⟩
  by_cases hw : k < 1 ∨ 32 < k
  · exact (extract_bad w k root ks s t hr hk sp tp cap dap hw).mono (NO (Or.inl (by unfold verE; rw [if_pos hw]; decide)))
  · obtain ⟨n, rfl⟩ := Int.eq_ofNat_of_zero_le (by omega : 0 ≤ k)
    have v1 : ∀ z, verE n root ks z = heldE n root ks z := fun z => by unfold verE; rw [if_neg hw]
    by_cases hst : s = t
    · exact (extract_same w hG n (by omega) (by omega) root ks s t hr hk hyk sp tp cap dap hys hyt hS hT hst).mono (NO (Or.inr (Or.inr hst)))
    · by_cases h1 : heldE n root ks s = 0
      · by_cases h2 : heldE n root ks t = 0
        · obtain ⟨H, hH, hne, heq, hcut⟩ := bind_pure hys hyt h1 h2 hst
          obtain ⟨ok1, y1, w1, _⟩ := dec_some hys (held_dec h1).1
          obtain ⟨ok2, y2, w2, _⟩ := dec_some hyt (held_dec h2).1
          refine (extract_yes w hG n (by omega) (by omega) root ks s t hr hk hyk sp tp cap dap hys hyt hS hT hst h1 h2 H hH hne heq).mono ?_
          rintro e w' ⟨s1, d1, s2, d2, rfl, a1, a2, a3⟩
          exact ⟨_, _, true, s1, d1, s2, d2, rfl, a1, a2, Or.inr ⟨rfl, hne, txtP_bys hyk ok1 y1 w1 H hH, txtP_bys hyk ok2 y2 w2 H hH, txt_len hk w1 H hH, txt_len hk w2 H hH, hcut, by rw [v1]; exact h1, by rw [v1]; exact h2, hst⟩, a3⟩
        · exact (extract_second w hG n (by omega) (by omega) root ks s t hr hk hyk sp tp cap dap hys hyt hS hT hst h1 h2).mono (NO (Or.inr (Or.inl (by rw [v1]; exact h2))))
      · exact (extract_first w hG n (by omega) (by omega) root ks s t hr hk hyk sp tp cap dap hys hyt hS hT hst h1).mono (NO (Or.inl (by rw [v1]; exact h1)))
end Go.Proofs.YtbjahdbmkcamoaaGreatDoor
