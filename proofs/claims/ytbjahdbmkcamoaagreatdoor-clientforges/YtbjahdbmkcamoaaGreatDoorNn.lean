import Derived.Test.YtbjahdbmkcamoaaGreatDoorTrM
import Derived.Test.YtbjahdbmkcamoaaGreatDoorNm
namespace Go.Proofs.YtbjahdbmkcamoaaGreatDoor
set_option linter.unusedVariables false
set_option linter.unusedSimpArgs false
open Go.RowKit
attribute [local go_sem ↓] Go.wp_at_zero Go.wp_at_succ

set_option maxRecDepth 100000 in
set_option maxHeartbeats 4000000 in
theorem zprove_any (w : World) (hG : Gb w) (k : Int) (m : List EnM) (hm : MapVs m) (nd : (m.map EnM.k).Nodup) (hN : m.length ≤ 1000000) (sp : Option Addr) (cap : Nat) (hS : SrcE w sp cap m) (ks : List Int) (hk : ks.length = 32) (hy : Bys ks) :
    Calls Tryz.prog 18 #[.int .i64 k, .slice sp m.length cap, .agg (ints .u8 ks).toArray] w fun e w' => ∃ s1 c1 s2 c2, e = .returned (.agg (pfC (proofM k m ks) (.slice s1 (proofM k m ks).vs.length c1) (.slice s2 (proofM k m ks).ss.length c2)).toArray) ∧ Own w' w.heap.size (.slice s1 (proofM k m ks).vs.length c1) (proofM k m ks).vs ∧ OwnD w' w.heap.size (.slice s2 (proofM k m ks).ss.length c2) (proofM k m ks).ss ∧ Below w.heap.size w w' := by
  have AP := hid allocPf
  have d0 := ((BK.nil w).alloc (ints .u8 ks) 24).alloc (pfC pf0 (.slice none 0 0) (.slice none 0 0)) 52
  rw [show (w.alloc (.cells (ints .u8 ks).toArray 24)).heap.size = w.heap.size + 1 by simp] at d0
  have LKs := hid (show (Tryz.prog.info? 24).map (·.size) = some (ints .u8 ks).toArray.size by rw [Tryz.sizeKy, List.size_toArray, ints_len, hk])
  have KE := hid (fun w1 (g1 : Gb w1) => xempties_any w1 g1 k)
  have KP := hid (fun w1 (g1 : Gb w1) (b1 : Below w.heap.size w w1) ge ce hgw hR hce => zproveWith_any w1 g1 k ge ce hgw hR hce m hm nd hN sp cap (hS.below b1) ks hk hy)
  have LP := hid (fun v u => pfC_len (proofM_well (w := k) hm ks).1 v u)
  have lz : (pfC pf0 (.slice none 0 0) (.slice none 0 0)).length = 35 := rfl
  generalize proofM k m ks = p at *
  generalize pfC pf0 (.slice none 0 0) (.slice none 0 0) = Z at *
  clear hS hm nd
  go_enter Tryz.func18, Tryz.ntmps18
  go_wp2_with (first | refine wpList_allocV AP.out rfl rfl ?_ | (refine (KE.out _ (hG.below d0.1 hG.1.1)).mono ?_; rintro e w2 ⟨v, rfl, hO, hb2⟩; refine Hid.out ?_))
  refine hid ?_
  obtain ⟨ge, ce, rfl, hg1, hg2, hR⟩ := row_rng hO (by omega)
  have d2 := d0.call hb2
  clear d0 KE hb2
  have rk := d2.row (.tail _ (.head _))
  have K1 := hid (KP.out w2 (hG.below d2.1 hG.1.1) d2.1 ge ce (by omega) hR (row_cap hO))
  clear KP hR hO
  go_wp2_with (first
    | refine wpList_load_row rfl 24 _ rfl w.heap.size rfl 24 _ _ _ rk Tryz.underlying24 rfl LKs.out ?_
    | (refine K1.out.mono ?_; rintro e w5 ⟨s1, c1, s2, c2, rfl, hv5, hs5, hb5⟩; refine Hid.out ?_))
  refine hid ?_
  have d5 := d2.call hb5
  have rz := d5.row (.head _)
  have hv6 := own_lower hv5 d2.1.size
  have hs6 := own_lowerD hs5 d2.1.size
  have lq := LP.out (.slice s1 p.vs.length c1) (.slice s2 p.ss.length c2)
  have oq := pfC_one p (.slice s1 p.vs.length c1) (.slice s2 p.ss.length c2) rfl rfl
  clear K1 hv5 hs5 rk
  generalize hC : pfC p (.slice s1 p.vs.length c1) (.slice s2 p.ss.length c2) = C at *
  have HC := hid hC
  clear hC
  go_wp2_with (first | (refine wpList_store_row rfl 52 _ _ rfl (w.heap.size + 1) C.toArray rfl rfl 52 _ rz (by rw [Tryz.sizeP, List.size_toArray, lq]) (by rw [List.size_toArray, List.size_toArray, lq, lz]) (all_oneCell_toArray oq) ?_; refine Hid.out ?_))
  refine hid ?_
  go_wp2_with fail
  exact bodyPost_ret (v := .agg C.toArray) (results_cell_row Tryz.results18 _ _ (w.heap.size + 1) 52 _ _ _ rfl (setRow_heap _ _ _ _ _ _ rz) Tryz.underlying52 rfl (by rw [Tryz.sizeP, List.size_toArray, lq])) rfl ⟨s1, c1, s2, c2, by rw [HC.out], hv6.of_heap fun x hx => setRow_other _ _ _ _ (own_ne hv6 rz (by decide) x hx), hs6.of_heap fun x hx => setRow_other _ _ _ _ (ownD_ne hs6 rz (by decide) x hx), below_setRow d5.1 (by omega) _⟩
end Go.Proofs.YtbjahdbmkcamoaaGreatDoor
namespace Go.Proofs.YtbjahdbmkcamoaaGreatDoor
set_option linter.unusedVariables false
set_option linter.unusedSimpArgs false
open Go.RowKit
attribute [local go_sem ↓] Go.wp_at_zero Go.wp_at_succ

theorem sha_byM (m : List Int) : Bys (sha m) := fun x hx => by
  unfold sha stBytes at hx
  obtain ⟨y, hy, hx⟩ := List.mem_flatMap.1 hx
  have hb := padS_bd _ _ _ y hy
  simp only [wb, List.mem_cons, List.not_mem_nil, or_false] at hx
  rcases hx with rfl | rfl | rfl | rfl <;> omega
theorem splice_byM {a b : List Int} (ha : Bys a) (hb : Bys b) (n : Nat) : Bys (splice a n b) := fun x hx => by
  unfold splice at hx
  simp only [List.mem_append] at hx
  rcases hx with hx | hx | hx
  · exact ha x (List.mem_of_mem_take hx)
  · exact hb x hx
  · exact ha x (List.mem_of_mem_drop hx)
theorem cutZ_byM {zs : List Int} (h : Bys zs) (n : Nat) : Bys (cutZ zs n) := splice_byM (fun x hx => by have := List.eq_of_mem_replicate hx; omega) (h.take n) 0
theorem tD_bys (w : Int) : ∀ (h : Nat) (m : List EnM), Bys (tD w h m)
  | 0, [] => cutZ_byM (sha_byM _) _
  | 0, e :: _ => cutZ_byM (sha_byM _) _
  | h + 1, m => cutZ_byM (sha_byM _) _
theorem look_bys {m : List EnM} (hv : ∀ e ∈ m, Bys e.v) (ks : List Int) : Bys ((lookM m ks).getD []) := by
  unfold lookM
  cases h : m.find? fun e => decide (e.k = ks) with
  | none => exact fun x hx => by cases hx
  | some e => exact hv e (List.mem_of_find?_eq_some h)
theorem proofM_y (w : Int) {m : List EnM} (hv : ∀ e ∈ m, Bys e.v) (ks : List Int) : PfY (proofM w m ks) :=
  ⟨look_bys hv ks, bitsH_bys _ _, fun d hd => by
    obtain ⟨h, _, rfl⟩ := List.mem_map.1 (show d ∈ ((List.range 256).filter (setH w fun h => tD w h (nbs m ks h))).map (fun h => tD w h (nbs m ks h)) from hd)
    exact tD_bys w h _⟩
set_option maxRecDepth 100000 in
set_option maxHeartbeats 4000000 in
theorem zBytes_any (w : World) (hG : Gb w) (k : Int) (m : List EnM) (hm : MapVs m) (hvy : ∀ e ∈ m, Bys e.v) (nd : (m.map EnM.k).Nodup) (hN : m.length ≤ 1000000) (sp : Option Addr) (cap : Nat) (hS : SrcE w sp cap m) (ks : List Int) (hk : ks.length = 32) (hy : Bys ks) :
    Calls Tryz.prog 7 #[.int .i64 k, .slice sp m.length cap, .agg (ints .u8 ks).toArray] w fun e w' => ∃ v, e = .returned v ∧ Own w' w.heap.size v (encP (proofM k m ks)) ∧ Below w.heap.size w w' := by
  have AP := hid allocPf
  have d0 := (BK.nil w).alloc (ints .u8 ks) 24
  have LKs := hid (show (Tryz.prog.info? 24).map (·.size) = some (ints .u8 ks).toArray.size by rw [Tryz.sizeKy, List.size_toArray, ints_len, hk])
  have KP := hid (fun w1 (g1 : Gb w1) (b1 : Below w.heap.size w w1) => zprove_any w1 g1 k m hm nd hN sp cap (hS.below b1) ks hk hy)
  obtain ⟨ok, wl⟩ := proofM_well (w := k) hm ks
  have yy := proofM_y k hvy ks
  have LP := hid (fun v u => pfC_len ok v u)
  have lz := hid (show (pfC pf0 (.slice none 0 0) (.slice none 0 0)).length = 35 from rfl)
  generalize proofM k m ks = p at *
  have KE := hid (fun w1 s1 s2 c1 c2 (a : Src w1 s1 c1 p.vs) (b : SrcD w1 s2 c2 p.ss) => show Calls Tryz.prog 19 #[.agg (pfC p (.slice s1 p.vs.length c1) (.slice s2 p.ss.length c2)).toArray] w1 (fun e w' => ∃ v, e = .returned (.tuple #[v, .int .i64 0]) ∧ Own w' w1.heap.size v (encP p) ∧ Below w1.heap.size w1 w') from by
    cases hf : p.f with
    | true => exact xenc_t w1 p ok yy s1 s2 c1 c2 a b wl hf
    | false => exact xenc_f w1 p ok yy s1 s2 c1 c2 a b wl hf)
  generalize encP p = eP at *
  clear hS hm nd hvy wl yy ok
  have rk := d0.row (.head _)
  have K1 := hid (KP.out _ (hG.below d0.1 hG.1.1) d0.1)
  go_enter Tryz.func7, Tryz.ntmps7
  go_wp2_with (first
    | refine wpList_load_row rfl 24 _ rfl w.heap.size rfl 24 _ _ _ rk Tryz.underlying24 rfl LKs.out ?_
    | (refine K1.out.mono ?_; rintro e w5 ⟨s1, c1, s2, c2, rfl, hv5, hs5, hb5⟩; refine Hid.out ?_))
  refine hid ?_
  have d5 := d0.call hb5
  have lq := LP.out (.slice s1 p.vs.length c1) (.slice s2 p.ss.length c2)
  have oq := pfC_one p (.slice s1 p.vs.length c1) (.slice s2 p.ss.length c2) rfl rfl
  obtain ⟨t1, u1, ev, hsv, _⟩ := hv5.form
  obtain ⟨t2, u2, es, hss, _⟩ := hs5.form
  cases ev
  cases es
  clear K1 rk KP d0
  generalize hC : pfC p (.slice s1 p.vs.length c1) (.slice s2 p.ss.length c2) = C at *
  go_wp2_with (first | (refine wpList_new AP.out lz.out Tryz.sizeP rfl rfl rfl _ _ rfl rfl C rfl rfl lq oq ?_; refine Hid.out ?_))
  refine hid ?_
  have r6 := hnew w5 (.cells C.toArray 52)
  have hb6 : Below w5.heap.size w5 (w5.alloc (.cells C.toArray 52)) := (Below.refl _ _).alloc (Nat.le_refl _) _
  have d6 := d5.call hb6
  have K2 := hid (KE.out _ s1 s2 c1 c2 (hsv.below hb6 (Nat.le_refl _)) (hss.below hb6 (Nat.le_refl _)))
  rw [hC] at K2
  have SC := hid (show (Tryz.prog.info? 52).map (·.size) = some C.toArray.size by rw [Tryz.sizeP, List.size_toArray, lq])
  clear KE hC hsv hss hb6 d5
  generalize w5.alloc (.cells C.toArray 52) = w6 at *
  generalize w5.heap.size = g6 at *
  go_wp2_with (first
    | refine wpList_load_row rfl 52 _ rfl g6 rfl 52 _ _ _ r6 Tryz.underlying52 rfl SC.out ?_
    | (refine K2.out.mono ?_; rintro e w7 ⟨v7, rfl, hO7, hb7⟩; refine Hid.out ?_))
  refine hid ?_
  have d7 := d6.call hb7
  have HO := hid (own_lower hO7 d6.1.size)
  clear K2 hO7
  go_wp2_with fail
  go_ret
  exact ⟨_, rfl, HO.out, d7.1⟩
end Go.Proofs.YtbjahdbmkcamoaaGreatDoor
