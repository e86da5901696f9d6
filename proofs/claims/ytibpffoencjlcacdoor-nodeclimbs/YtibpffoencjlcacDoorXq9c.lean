import Derived.Test.YtibpffoencjlcacDoorXq9b
namespace Go.Proofs.YtibpffoencjlcacDoor
set_option linter.unusedVariables false
set_option linter.unusedSimpArgs false
open Go.RowKit
attribute [local go_sem ↓] Go.wp_at_zero Go.wp_at_succ

theorem rng_set {w : World} {g b o : Nat} {cs : List Value} {xs : Array Value} (h : w.rangeAt g o cs) (hne : g ≠ b) : (w.setRow b xs).rangeAt g o cs := fun j u hu => by
  have h1 := h j u hu
  unfold World.cell? at h1 ⊢
  rw [setRow_other _ _ _ _ hne]; exact h1
set_option maxRecDepth 100000 in
set_option maxHeartbeats 4000000 in
theorem xclimbWith_any (w : World) (hG : Gb w) (k : Int) (ks : List Int) (hk : ks.length = 32) (hby : Byts ks) (fr tt : Int) (ds : List Int) (hd : ds.length = 32) (ge ce : Nat) (hgw : ge < w.heap.size) (hR : ∀ i, i < 257 → w.rangeAt ge (i * 32) (ints .u8 (emptyD k i))) :
    Calls Tryd.prog 45 #[.slice (some ⟨ge, 0, none⟩) 257 ce, .int .i64 k, .agg (ints .u8 ks).toArray, .int .i64 fr, .agg (ints .u8 ds).toArray, .int .i64 tt] w fun e w' => e = .returned (.agg (ints .u8 (climbTo k ks (hgt fr) (cutZ ds (kept k)) (hgt tt - hgt fr))).toArray) ∧ Below w.heap.size w w' := by
  have d0 := (((DR.nil w).alloc ks 26).alloc ds 27).alloc z32 27
  rw [show ((w.alloc (.cells (ints .u8 ks).toArray 26)).alloc (.cells (ints .u8 ds).toArray 27)).heap.size = w.heap.size + 1 + 1 by simp, show (w.alloc (.cells (ints .u8 ks).toArray 26)).heap.size = w.heap.size + 1 by simp] at d0
  have d1 : DR w (((w.alloc (.cells (ints .u8 ks).toArray 26)).alloc (.cells (ints .u8 ds).toArray 27)).alloc (.cells (ints .u8 z32).toArray 27)) [(w.heap.size + 1, ds, 27), (w.heap.size + 1 + 1, z32, 27), (w.heap.size, ks, 26)] := ⟨d0.1, fun x hx => d0.2 x (by simp at hx ⊢; rcases hx with rfl | rfl | rfl <;> simp)⟩
  clear d0
  have hz32 : z32.length = 32 := rfl
  have KF := hid (fun w1 => xwithin_any fr 0 256 (by decide) w1)
  have KT := hid (fun w1 => xwithin_any tt 0 256 (by decide) w1)
  rw [show min (max fr 0) 256 = ((hgt fr : Nat) : Int) by unfold hgt; omega] at KF
  rw [show min (max tt 0) 256 = ((hgt tt : Nat) : Int) by unfold hgt; omega] at KT
  have ha := hgt_le fr
  have hc := hgt_le tt
  have KU := hid (fun w1 => rcutD_any ds hd k w1)
  have hcl := cutZ_len ds (kept k) hd
  generalize hgt fr = na at *
  generalize hgt tt = nc at *
  generalize cutZ ds (kept k) = CD at *
  have ia : (na : Int) ≤ 256 := by omega
  have ic : (nc : Int) ≤ 256 := by omega
  have hge : ge ≠ w.heap.size + 1 := by omega
  have hdl : ∀ x, x ∈ [(w.heap.size + 1 + 1, z32, 27), (w.heap.size, ks, 26)] → x.1 ≠ w.heap.size + 1 := fun x hx => by
    simp at hx; rcases hx with rfl | rfl
    · show w.heap.size + 1 + 1 ≠ w.heap.size + 1; omega
    · show w.heap.size ≠ w.heap.size + 1; omega
  go_enter Tryd.func45, Tryd.ntmps45
  have r1 := d1.row (.head _)
  go_wp2_with (first | (go_at_call 41; refine (KF.out _).mono ?_; rintro e w5 ⟨rfl, hw5⟩; obtain rfl := hw5.symm; clear KF) | (go_at_call 41; refine (KT.out _).mono ?_; rintro e w5 ⟨rfl, hw5⟩; obtain rfl := hw5.symm; clear KT) | refine wpList_load_row rfl 27 _ rfl _ rfl 27 _ _ _ r1 Tryd.underlying27 rfl (by rw [ints_size, hd]; rfl) ?_)
  refine (KU.out _).mono ?_
  rintro e w3 ⟨rfl, hB3⟩
  have d2 := d1.call hB3
  have r2 := d2.row (.head _)
  have d3 := d2.set (by omega) hdl CD
  clear d1 hB3 KU r1
  go_wp2_with (first | refine wpList_store_row rfl 27 _ _ rfl _ _ rfl rfl 27 _ r2 (by rw [Tryd.size27, ints_size, hcl]) (by rw [ints_size, ints_size, hcl, hd]) (all_oneCell_toArray (ints_one .u8 _)) ?_)
  generalize w3.setRow (w.heap.size + 1) (ints .u8 CD).toArray = w4 at *
  go_loopw [15] (fun i wr => ∃ j : Nat, (j = 0 ∨ na + j ≤ nc) ∧ i = .int .i64 ((na + j : Nat) : Int) ∧ DR w wr [(w.heap.size + 1, climbTo k ks na CD j, 27), (w.heap.size + 1 + 1, z32, 27), (w.heap.size, ks, 26)]) (fun i _ => nc - (intOf i).toNat)
  case atStart => exact ⟨0, Or.inl rfl, rfl, d3⟩
  case round =>
    clear d2 d3 r2
    obtain ⟨j, hj, rfl, dr⟩ := hrel
    have hX1 := climbTo_len k ks na CD hcl j
    by_cases hlt' : na + j < nc
    · generalize hm : na + j = m at *
      have HM := hid hm
      have i3 : (m : Int) < (nc : Int) := by omega
      have hel := emptyD_len k m
      have KBit := hid (fun w1 => xbit_any w1 ks hk hby (255 - m) (by omega))
      rw [show ((255 - m : Nat) : Int) = 255 - (m : Int) by omega] at KBit
      have hX2 := climbTo_len k ks na CD hcl (j + 1)
      have HS := hid (show climbTo k ks na CD (j + 1) = stepD k ks m (climbTo k ks na CD j) by rw [← hm]; rfl)
      have h01 := bitK_01 ks (255 - m)
      have rk := dr.row (.tail _ (.tail _ (.head _)))
      have hR := hR
      by_cases hb : bitK ks (255 - m) = 0
      · have KS := hid (fun w2 hG2 => xbranch_to w2 hG2 k (climbTo k ks na CD j) (emptyD k m) (climbTo k ks na CD (j + 1)) hX1 hel (by rw [HS.out, stepD, if_pos hb]))
        rw [hb] at KBit
        clear hb h01 HS hm
        have hRm := hR m (by omega)
        replace hR : ∀ i, i < 257 → i = m → w.rangeAt ge (i * 32) (ints .u8 (emptyD k m)) := fun i hi he => by rw [he]; exact hRm
        clear hRm
        generalize hX2e : climbTo k ks na CD (j + 1) = X2 at *
        have HX2 := hid hX2e
        clear hX2e
        generalize climbTo k ks na CD j = X1 at *
        generalize emptyD k m = E1 at *
        go_wp2_with (first | refine wpList_load_row rfl 26 _ rfl _ rfl 26 _ _ _ rk Tryd.underlying26 rfl (by rw [ints_size, hk]; rfl) ?_)
        refine (KBit.out _).mono ?_
        rintro e w7 ⟨rfl, hB7⟩
        replace dr := (dr.call hB7).drew
        clear KBit hB7 rk
        go_wp2
        refine wp_region_noPanic ?_
        refine wp_region_held_drew (S := fun w' => w'.rangeAt ge (m * 32) (ints .u8 E1)) (by kernel_rfl) (rng_below (hR m (by omega) rfl) dr.1 hgw) (fun hHeld => ?_)
        refine wpAnyH_take (i := 0) (oi := { dst := some 36, op := Op.move (Operand.tmp 1), type := 3, pos := "ref.go:113", after := #[], guard := none }) (v := .int .i64 k) rfl (by kernel_rfl) (by kernel_rfl) (by kernel_rfl) (fun _ _ _ h => h) (Or.inl ⟨by rfl, by intro w hS; go_simp⟩) hHeld ?_
        try simp only [Act.put, List.setIfInBounds_toArray, List.set_cons_zero, List.set_cons_succ]
        refine wpAnyH_take (i := 2) (oi := { dst := some 38, op := Op.move (Operand.tmp 0), type := 71, pos := "ref.go:113", after := #[], guard := none }) (v := .slice (some ⟨ge, 0, none⟩) 257 ce) rfl (by kernel_rfl) (by kernel_rfl) (by kernel_rfl) (fun _ _ _ h => h) (Or.inl ⟨by rfl, by intro w hS; go_simp⟩) hHeld ?_
        try simp only [Act.put, List.setIfInBounds_toArray, List.set_cons_zero, List.set_cons_succ]
        refine wpAnyH_take (i := 3) (oi := { dst := some 39, op := Op.move (Operand.tmp 15), type := 3, pos := "ref.go:113", after := #[], guard := none }) (v := .int .i64 m) rfl (by kernel_rfl) (by kernel_rfl) (by kernel_rfl) (fun _ _ _ h => h) (Or.inl ⟨by rfl, by intro w hS; go_simp⟩) hHeld ?_
        try simp only [Act.put, List.setIfInBounds_toArray, List.set_cons_zero, List.set_cons_succ]
        refine wpAnyH_take (i := 4) (oi := { dst := some 40, op := Op.indexAddr 71 (Operand.tmp 38) (Operand.tmp 39), type := 0, pos := "ref.go:113", after := #[{ on := 2, ground := Ground.data }, { on := 3, ground := Ground.data }], guard := none }) (v := .pointer (some ⟨ge, m * 32, none⟩)) rfl (by kernel_rfl) (by kernel_rfl) (by kernel_rfl) (fun _ _ _ h => h) (Or.inl ⟨by rfl, by intro w hS; (go_simp <;> (intro h; exfalso; omega))⟩) hHeld ?_
        try simp only [Act.put, List.setIfInBounds_toArray, List.set_cons_zero, List.set_cons_succ]
        refine wpAnyH_take (i := 5) (oi := { dst := some 41, op := Op.load 27 (Operand.tmp 40), type := 27, pos := "ref.go:113", after := #[{ on := 4, ground := Ground.data }], guard := none }) (v := .agg (ints .u8 E1).toArray) rfl (by kernel_rfl) (by kernel_rfl) (by kernel_rfl) (fun _ _ _ h => h) (yieldsIf_load_mid (by rfl) 27 _ rfl ge (m * 32) rfl (ints .u8 E1) _ (fun w hS => hS) Tryd.underlying27 rfl (by rw [ints_len, hel]; rfl)) hHeld ?_
        try simp only [Act.put, List.setIfInBounds_toArray, List.set_cons_zero, List.set_cons_succ]
        refine wpAnyH_ready (rs := [1]) (by kernel_rfl) (by simp) ?_
        refine (AllReadyH.cons (o := { dst := some 37, op := Op.load 27 (Operand.tmp 10), type := 27, pos := "ref.go:113", after := #[], guard := none }) rfl (fun K hK => ?_) AllReadyH.nil)
        rw [if_pos (by rfl)]
        refine wp_load_mid 27 _ rfl (w.heap.size + 1) 0 rfl (ints .u8 X1) _ (dr.rng (.head _)) Tryd.underlying27 rfl (by rw [ints_len, hX1]; rfl) ?_
        refine hK.out _ _ (hHeld) (fun hHeld2 => ?_)
        clear hK K hHeld
        have hHeld := hHeld2
        clear hHeld2
        try simp only [Act.put, List.setIfInBounds_toArray, List.set_cons_zero, List.set_cons_succ]
        refine wpAnyH_ready (rs := [6]) (by kernel_rfl) (by simp) ?_
        refine (AllReadyH.cons (o := { dst := some 42, op := Op.call { callee := Callee.value (Operand.func 26), args := #[Operand.tmp 36, Operand.tmp 37, Operand.tmp 41], argTypes := #[3, 27, 27] }, type := 27, pos := "ref.go:113", after := #[{ on := 0, ground := Ground.data }, { on := 1, ground := Ground.data }, { on := 5, ground := Ground.data }], guard := none }) rfl (fun K hK => ?_) AllReadyH.nil)
        go_simp
        go_at_call 26
        refine (KS.out _ (hG.keep dr.1)).mono ?_
        rintro e w4 ⟨rfl, hb4⟩
        have hgl := Nat.lt_of_lt_of_le hgw dr.1.size
        replace dr := dr.call hb4
        go_wp2_with fail
        refine hK.out _ _ (rng_below hHeld hb4 hgl) (fun hHeld2 => ?_)
        clear hK K hHeld
        have hHeld := hHeld2
        clear hHeld2
        try simp only [Act.put, List.setIfInBounds_toArray, List.set_cons_zero, List.set_cons_succ]
        refine wpAnyH_ready (rs := [7]) (by kernel_rfl) (by simp) ?_
        refine (AllReadyH.cons (o := { dst := none, op := Op.store 27 (Operand.tmp 10) (Operand.tmp 42), type := 0, pos := "ref.go:113", after := #[{ on := 6, ground := Ground.data }, { on := 6, ground := Ground.chain }, { on := 0, ground := Ground.phase }, { on := 1, ground := Ground.phase }, { on := 2, ground := Ground.phase }, { on := 3, ground := Ground.phase }, { on := 4, ground := Ground.phase }, { on := 5, ground := Ground.phase }, { on := 6, ground := Ground.phase }], guard := none }) rfl (fun K hK => ?_) AllReadyH.nil)
        rw [if_pos (by rfl)]
        refine wp_store_row 27 _ _ rfl (w.heap.size + 1) (ints .u8 X2).toArray rfl rfl 27 _ (dr.row (.head _)) (by rw [Tryd.size27, ints_size, hX2]) (by rw [ints_size, ints_size, hX2, hX1]) (all_oneCell_toArray (ints_one .u8 _)) ?_
        refine hK.out _ _ (rng_set hHeld hge) (fun hHeld2 => ?_)
        clear hK K hHeld
        have hHeld := hHeld2
        clear hHeld2
        try simp only [Act.put, List.setIfInBounds_toArray, List.set_cons_zero, List.set_cons_succ]
        refine wpAnyH_done (by kernel_rfl) ?_ _
        refine NoPanic.normal ?_
        replace dr := dr.set (by omega) hdl X2
        go_wp2
        go_roundw
        case rel => exact ⟨j + 1, Or.inr (by have := HM.out; omega), by have := HM.out; rw [show na + (j + 1) = m + 1 by omega]; go_num, by rw [HX2.out]; exact dr⟩
        case measure => simp [intOf]; omega
      · have hb1' : bitK ks (255 - m) = 1 := by rcases h01 with h | h; exact absurd h hb; exact h
        have KS := hid (fun w2 hG2 => xbranch_to w2 hG2 k (emptyD k m) (climbTo k ks na CD j) (climbTo k ks na CD (j + 1)) hel hX1 (by rw [HS.out, stepD, if_neg hb]))
        rw [hb1'] at KBit
        clear hb1'
        clear hb h01 HS hm
        have hRm := hR m (by omega)
        replace hR : ∀ i, i < 257 → i = m → w.rangeAt ge (i * 32) (ints .u8 (emptyD k m)) := fun i hi he => by rw [he]; exact hRm
        clear hRm
        generalize hX2e : climbTo k ks na CD (j + 1) = X2 at *
        have HX2 := hid hX2e
        clear hX2e
        generalize climbTo k ks na CD j = X1 at *
        generalize emptyD k m = E1 at *
        go_wp2_with (first | refine wpList_load_row rfl 26 _ rfl _ rfl 26 _ _ _ rk Tryd.underlying26 rfl (by rw [ints_size, hk]; rfl) ?_)
        refine (KBit.out _).mono ?_
        rintro e w7 ⟨rfl, hB7⟩
        replace dr := (dr.call hB7).drew
        clear KBit hB7 rk
        go_wp2
        refine wp_region_noPanic ?_
        refine wp_region_held_drew (S := fun w' => w'.rangeAt ge (m * 32) (ints .u8 E1)) (by kernel_rfl) (rng_below (hR m (by omega) rfl) dr.1 hgw) (fun hHeld => ?_)
        refine wpAnyH_take (i := 0) (oi := { dst := some 43, op := Op.move (Operand.tmp 1), type := 3, pos := "ref.go:115", after := #[], guard := none }) (v := .int .i64 k) rfl (by kernel_rfl) (by kernel_rfl) (by kernel_rfl) (fun _ _ _ h => h) (Or.inl ⟨by rfl, by intro w hS; go_simp⟩) hHeld ?_
        try simp only [Act.put, List.setIfInBounds_toArray, List.set_cons_zero, List.set_cons_succ]
        refine wpAnyH_take (i := 1) (oi := { dst := some 44, op := Op.move (Operand.tmp 0), type := 71, pos := "ref.go:115", after := #[], guard := none }) (v := .slice (some ⟨ge, 0, none⟩) 257 ce) rfl (by kernel_rfl) (by kernel_rfl) (by kernel_rfl) (fun _ _ _ h => h) (Or.inl ⟨by rfl, by intro w hS; go_simp⟩) hHeld ?_
        try simp only [Act.put, List.setIfInBounds_toArray, List.set_cons_zero, List.set_cons_succ]
        refine wpAnyH_take (i := 2) (oi := { dst := some 45, op := Op.move (Operand.tmp 15), type := 3, pos := "ref.go:115", after := #[], guard := none }) (v := .int .i64 m) rfl (by kernel_rfl) (by kernel_rfl) (by kernel_rfl) (fun _ _ _ h => h) (Or.inl ⟨by rfl, by intro w hS; go_simp⟩) hHeld ?_
        try simp only [Act.put, List.setIfInBounds_toArray, List.set_cons_zero, List.set_cons_succ]
        refine wpAnyH_take (i := 3) (oi := { dst := some 46, op := Op.indexAddr 71 (Operand.tmp 44) (Operand.tmp 45), type := 0, pos := "ref.go:115", after := #[{ on := 1, ground := Ground.data }, { on := 2, ground := Ground.data }], guard := none }) (v := .pointer (some ⟨ge, m * 32, none⟩)) rfl (by kernel_rfl) (by kernel_rfl) (by kernel_rfl) (fun _ _ _ h => h) (Or.inl ⟨by rfl, by intro w hS; (go_simp <;> (intro h; exfalso; omega))⟩) hHeld ?_
        try simp only [Act.put, List.setIfInBounds_toArray, List.set_cons_zero, List.set_cons_succ]
        refine wpAnyH_take (i := 4) (oi := { dst := some 47, op := Op.load 27 (Operand.tmp 46), type := 27, pos := "ref.go:115", after := #[{ on := 3, ground := Ground.data }], guard := none }) (v := .agg (ints .u8 E1).toArray) rfl (by kernel_rfl) (by kernel_rfl) (by kernel_rfl) (fun _ _ _ h => h) (yieldsIf_load_mid (by rfl) 27 _ rfl ge (m * 32) rfl (ints .u8 E1) _ (fun w hS => hS) Tryd.underlying27 rfl (by rw [ints_len, hel]; rfl)) hHeld ?_
        try simp only [Act.put, List.setIfInBounds_toArray, List.set_cons_zero, List.set_cons_succ]
        refine wpAnyH_ready (rs := [5]) (by kernel_rfl) (by simp) ?_
        refine (AllReadyH.cons (o := { dst := some 48, op := Op.load 27 (Operand.tmp 10), type := 27, pos := "ref.go:115", after := #[], guard := none }) rfl (fun K hK => ?_) AllReadyH.nil)
        rw [if_pos (by rfl)]
        refine wp_load_mid 27 _ rfl (w.heap.size + 1) 0 rfl (ints .u8 X1) _ (dr.rng (.head _)) Tryd.underlying27 rfl (by rw [ints_len, hX1]; rfl) ?_
        refine hK.out _ _ (hHeld) (fun hHeld2 => ?_)
        clear hK K hHeld
        have hHeld := hHeld2
        clear hHeld2
        try simp only [Act.put, List.setIfInBounds_toArray, List.set_cons_zero, List.set_cons_succ]
        refine wpAnyH_ready (rs := [6]) (by kernel_rfl) (by simp) ?_
        refine (AllReadyH.cons (o := { dst := some 49, op := Op.call { callee := Callee.value (Operand.func 26), args := #[Operand.tmp 43, Operand.tmp 47, Operand.tmp 48], argTypes := #[3, 27, 27] }, type := 27, pos := "ref.go:115", after := #[{ on := 0, ground := Ground.data }, { on := 4, ground := Ground.data }, { on := 5, ground := Ground.data }], guard := none }) rfl (fun K hK => ?_) AllReadyH.nil)
        go_simp
        go_at_call 26
        refine (KS.out _ (hG.keep dr.1)).mono ?_
        rintro e w4 ⟨rfl, hb4⟩
        have hgl := Nat.lt_of_lt_of_le hgw dr.1.size
        replace dr := dr.call hb4
        go_wp2_with fail
        refine hK.out _ _ (rng_below hHeld hb4 hgl) (fun hHeld2 => ?_)
        clear hK K hHeld
        have hHeld := hHeld2
        clear hHeld2
        try simp only [Act.put, List.setIfInBounds_toArray, List.set_cons_zero, List.set_cons_succ]
        refine wpAnyH_ready (rs := [7]) (by kernel_rfl) (by simp) ?_
        refine (AllReadyH.cons (o := { dst := none, op := Op.store 27 (Operand.tmp 10) (Operand.tmp 49), type := 0, pos := "ref.go:115", after := #[{ on := 6, ground := Ground.data }, { on := 6, ground := Ground.chain }, { on := 0, ground := Ground.phase }, { on := 1, ground := Ground.phase }, { on := 2, ground := Ground.phase }, { on := 3, ground := Ground.phase }, { on := 4, ground := Ground.phase }, { on := 5, ground := Ground.phase }, { on := 6, ground := Ground.phase }], guard := none }) rfl (fun K hK => ?_) AllReadyH.nil)
        rw [if_pos (by rfl)]
        refine wp_store_row 27 _ _ rfl (w.heap.size + 1) (ints .u8 X2).toArray rfl rfl 27 _ (dr.row (.head _)) (by rw [Tryd.size27, ints_size, hX2]) (by rw [ints_size, ints_size, hX2, hX1]) (all_oneCell_toArray (ints_one .u8 _)) ?_
        refine hK.out _ _ (rng_set hHeld hge) (fun hHeld2 => ?_)
        clear hK K hHeld
        have hHeld := hHeld2
        clear hHeld2
        try simp only [Act.put, List.setIfInBounds_toArray, List.set_cons_zero, List.set_cons_succ]
        refine wpAnyH_done (by kernel_rfl) ?_ _
        refine NoPanic.normal ?_
        replace dr := dr.set (by omega) hdl X2
        go_wp2
        go_roundw
        case rel => exact ⟨j + 1, Or.inr (by have := HM.out; omega), by have := HM.out; rw [show na + (j + 1) = m + 1 by omega]; go_num, by rw [HX2.out]; exact dr⟩
        case measure => simp [intOf]; omega
    · obtain rfl : j = nc - na := by omega
      generalize hWe : climbTo k ks na CD (nc - na) = WW at *
      have HW := hid hWe
      clear hWe
      have i3 : ¬ (((na + (nc - na) : Nat) : Int) < (nc : Int)) := by omega
      generalize na + (nc - na) = mm at *
      have rr := dr.row (.head _)
      have rz := dr.row (.tail _ (.head _))
      go_wp2_with (first | refine wpList_load_row rfl 27 _ rfl _ rfl 27 _ _ _ rr Tryd.underlying27 rfl (by rw [ints_size, hX1]; rfl) ?_ | refine wpList_store_row rfl 27 _ _ rfl _ _ rfl rfl 27 _ rz (by rw [Tryd.size27, ints_size, hX1]) (by rw [ints_size, ints_size, hX1, hz32]) (all_oneCell_toArray (ints_one .u8 _)) ?_)
      exact bodyPost_ret (v := .agg (ints .u8 WW).toArray) (results_cell_row Tryd.results45 _ _ (w.heap.size + 1 + 1) 27 _ _ _ rfl (setRow_heap _ _ _ _ _ _ rz) Tryd.underlying27 rfl (by rw [Tryd.size27, ints_size, hX1])) rfl ⟨by rw [HW.out], below_setRow dr.1 (by omega) _⟩
set_option maxRecDepth 100000 in
set_option maxHeartbeats 1000000 in
theorem xclimb_any (w : World) (hG : Gb w) (k : Int) (ks : List Int) (hk : ks.length = 32) (hby : Byts ks) (fr tt : Int) (ds : List Int) (hd : ds.length = 32) :
    Calls Tryd.prog 30 #[.int .i64 k, .agg (ints .u8 ks).toArray, .int .i64 fr, .agg (ints .u8 ds).toArray, .int .i64 tt] w fun e w' => e = .returned (.agg (ints .u8 (climbTo k ks (hgt fr) (cutZ ds (kept k)) (hgt tt - hgt fr))).toArray) ∧ Below w.heap.size w w' := by
  have hWl := climbTo_len k ks (hgt fr) (cutZ ds (kept k)) (cutZ_len ds (kept k) hd) (hgt tt - hgt fr)
  have KC := hid (fun w1 (h : Gb w1) ge ce h1 h2 => xclimbWith_any w1 h k ks hk hby fr tt ds hd ge ce h1 h2)
  generalize climbTo k ks (hgt fr) (cutZ ds (kept k)) (hgt tt - hgt fr) = WW at *
  have hz32 : z32.length = 32 := rfl
  have d0 := (((DR.nil w).alloc ks 26).alloc ds 27).alloc z32 27
  rw [show ((w.alloc (.cells (ints .u8 ks).toArray 26)).alloc (.cells (ints .u8 ds).toArray 27)).heap.size = w.heap.size + 1 + 1 by simp, show (w.alloc (.cells (ints .u8 ks).toArray 26)).heap.size = w.heap.size + 1 by simp] at d0
  go_enter Tryd.func30, Tryd.ntmps30
  go_wp2_with fail
  show Calls Tryd.prog 44 _ (((w.alloc (.cells (ints .u8 ks).toArray 26)).alloc (.cells (ints .u8 ds).toArray 27)).alloc (.cells (ints .u8 z32).toArray 27)) _
  generalize (((w.alloc (.cells (ints .u8 ks).toArray 26)).alloc (.cells (ints .u8 ds).toArray 27)).alloc (.cells (ints .u8 z32).toArray 27)) = w1 at *
  refine (xempties_any w1 (hG.keep d0.1) k).mono ?_
  rintro e w2 ⟨v, rfl, hO, hB2⟩
  obtain ⟨ge, ce, rfl, hg1, hg2, hR⟩ := row_rng hO (by omega)
  have d1 := d0.call hB2
  have r0 := d1.row (.tail _ (.tail _ (.head _)))
  have r1 := d1.row (.tail _ (.head _))
  clear hO d0 hB2 hg1
  go_wp2_with (first | refine wpList_load_row rfl 26 _ rfl _ rfl 26 _ _ _ r0 Tryd.underlying26 rfl (by rw [ints_size, hk]; rfl) ?_ | refine wpList_load_row rfl 27 _ rfl _ rfl 27 _ _ _ r1 Tryd.underlying27 rfl (by rw [ints_size, hd]; rfl) ?_)
  refine (KC.out w2 (hG.keep d1.1) ge ce hg2 hR).mono ?_
  rintro e w3 ⟨rfl, hB3⟩
  have d2 := d1.call hB3
  have rz := d2.row (.head _)
  clear r0 r1 d1 hB3 hR KC
  go_wp2_with (first | refine wpList_store_row rfl 27 _ _ rfl _ _ rfl rfl 27 _ rz (by rw [Tryd.size27, ints_size, hWl]) (by rw [ints_size, ints_size, hWl, hz32]) (all_oneCell_toArray (ints_one .u8 _)) ?_)
  exact bodyPost_ret (v := .agg (ints .u8 WW).toArray) (results_cell_row Tryd.results30 _ _ (w.heap.size + 1 + 1) 27 _ _ _ rfl (setRow_heap _ _ _ _ _ _ rz) Tryd.underlying27 rfl (by rw [Tryd.size27, ints_size, hWl])) rfl ⟨rfl, below_setRow d2.1 (by omega) _⟩
end Go.Proofs.YtibpffoencjlcacDoor
