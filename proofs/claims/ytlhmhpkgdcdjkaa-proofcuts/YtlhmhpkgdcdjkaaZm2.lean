import Derived.Test.YtlhmhpkgdcdjkaaZj2
namespace Go.Proofs.Ytlhmhpkgdcdjkaa
set_option linter.unusedVariables false
set_option linter.unusedSimpArgs false
open Go.RowKit
attribute [local go_sem ↓] Go.wp_at_zero Go.wp_at_succ

theorem src_pre {w : World} {b o cap : Nat} {t : List Int} (hS : Src w (some ⟨b, o, none⟩) cap t) (n : Nat) (h : n ≤ t.length) : Src w (some ⟨b, o, none⟩) cap (t.take n) := by
  have h1 := hS.1
  have h2 := hS.2.1
  obtain ⟨q1, q2, q3⟩ := src_cut hS n h
  exact ⟨by rw [List.length_take]; omega, h2, q3⟩
set_option maxRecDepth 100000 in
set_option maxHeartbeats 2000000 in
theorem cuts_no (w : World) (p : Pf) (ok : PfOk p) (yp : PfY p) (s1 s2 : Option Addr) (c1 c2 : Nat) (hS : Src w s1 c1 p.vs) (hT : SrcD w s2 c2 p.ss) (hv : p.vs.length ≤ 140737488355000) (hm0 : p.ss.length ≤ 4398046511104) (zs : List Int) (yz : Bys zs) (tp : Option Addr) (tc : Nat) (hZ : Src w tp tc zs) (hzl : zs.length ≤ 140737488351232) (a : Int) (ha : 0 ≤ a ∧ a < 256) (hw : ¬ WellP p) :
    Calls Try.prog 4 #[.agg (pfC p (.slice s1 p.vs.length c1) (.slice s2 p.ss.length c2)).toArray, .slice tp zs.length tc, .int .u8 a] w fun e w' => e = .returned (.bool true) ∧ Below w.heap.size w w' := by
  have d0 := (BK.nil w).alloc (pfC p (.slice s1 p.vs.length c1) (.slice s2 p.ss.length c2)) 26
  have SF := hid (fun v s => show (Try.prog.info? 26).map (·.size) = some (pfC p v s).toArray.size by rw [Try.sizeP, List.size_toArray, pfC_len ok])
  have KW := hid (fun w1 => well_any w1 p ok yp s1 s2 c1 c2 (by omega) (by omega))
  have k34 := hid (pfC_s ok (.slice s1 p.vs.length c1) (.slice s2 p.ss.length c2))
  rw [decide_eq_false hw] at KW
  have r0 := d0.row (.head _)
  generalize pfC p = PF at *
  go_enter Try.func4, Try.ntmps4
  go_wp2_with (first
    | refine wpList_load_row_w (by rfl) 26 _ (by rfl) _ (by rfl) 26 _ _ _ r0 Try.underlying26 rfl (SF.out _ _) ?_)
  refine (KW.out _).mono ?_
  rintro e w1 ⟨rfl, hb1⟩
  have d1 := d0.call hb1
  have x34 := d1.cell (.head _) k34.out
  go_wp2
  go_ret
  exact ⟨rfl, d1.1⟩
set_option maxRecDepth 100000 in
set_option maxHeartbeats 2000000 in
theorem cuts_many (w : World) (p : Pf) (ok : PfOk p) (yp : PfY p) (s1 s2 : Option Addr) (c1 c2 : Nat) (hS : Src w s1 c1 p.vs) (hT : SrcD w s2 c2 p.ss) (hv : p.vs.length ≤ 140737488355000) (hm0 : p.ss.length ≤ 4398046511104) (zs : List Int) (yz : Bys zs) (tp : Option Addr) (tc : Nat) (hZ : Src w tp tc zs) (hzl : zs.length ≤ 140737488351232) (a : Int) (ha : 0 ≤ a ∧ a < 256) (hw : WellP p) (h8 : 8 < p.ss.length) :
    Calls Try.prog 4 #[.agg (pfC p (.slice s1 p.vs.length c1) (.slice s2 p.ss.length c2)).toArray, .slice tp zs.length tc, .int .u8 a] w fun e w' => e = .returned (.bool true) ∧ Below w.heap.size w w' := by
  have d0 := (BK.nil w).alloc (pfC p (.slice s1 p.vs.length c1) (.slice s2 p.ss.length c2)) 26
  have SF := hid (fun v s => show (Try.prog.info? 26).map (·.size) = some (pfC p v s).toArray.size by rw [Try.sizeP, List.size_toArray, pfC_len ok])
  have KW := hid (fun w1 => well_any w1 p ok yp s1 s2 c1 c2 (by omega) (by omega))
  have k34 := hid (pfC_s ok (.slice s1 p.vs.length c1) (.slice s2 p.ss.length c2))
  rw [decide_eq_true hw] at KW
  have i8 : (8 : Int) < (p.ss.length : Int) := by omega
  have i9 : (p.ss.length : Int) ≤ 4398046511104 := by omega
  have r0 := d0.row (.head _)
  generalize pfC p = PF at *
  go_enter Try.func4, Try.ntmps4
  go_wp2_with (first
    | refine wpList_load_row_w (by rfl) 26 _ (by rfl) _ (by rfl) 26 _ _ _ r0 Try.underlying26 rfl (SF.out _ _) ?_)
  refine (KW.out _).mono ?_
  rintro e w1 ⟨rfl, hb1⟩
  have d1 := d0.call hb1
  have x34 := d1.cell (.head _) k34.out
  go_wp2
  go_ret
  exact ⟨rfl, d1.1⟩
set_option maxRecDepth 100000 in
set_option maxHeartbeats 8000000 in
theorem cuts_yes (w : World) (p : Pf) (ok : PfOk p) (yp : PfY p) (s1 s2 : Option Addr) (c1 c2 : Nat) (hS : Src w s1 c1 p.vs) (hT : SrcD w s2 c2 p.ss) (hv : p.vs.length ≤ 140737488355000) (hm0 : p.ss.length ≤ 4398046511104) (zs : List Int) (yz : Bys zs) (tp : Option Addr) (tc : Nat) (hZ : Src w tp tc zs) (hzl : zs.length ≤ 140737488351232) (a : Int) (ha : 0 ≤ a ∧ a < 256) (hw : WellP p) (h8 : p.ss.length ≤ 8) :
    Calls Try.prog 4 #[.agg (pfC p (.slice s1 p.vs.length c1) (.slice s2 p.ss.length c2)).toArray, .slice tp zs.length tc, .int .u8 a] w fun e w' => e = .returned (.bool true) ∧ Below w.heap.size w w' := by
  have AP := hid allocPf
  have LZ := hid (show (pfC pf0 (.slice none 0 0) (.slice none 0 0)).length = 35 from rfl)
  have B0 := hid built_pf0
  have i8 : (p.ss.length : Int) ≤ 8 := by omega
  have d0 := (BK.nil w).alloc (pfC p (.slice s1 p.vs.length c1) (.slice s2 p.ss.length c2)) 26
  have SF := hid (fun v s => show (Try.prog.info? 26).map (·.size) = some (pfC p v s).toArray.size by rw [Try.sizeP, List.size_toArray, pfC_len ok])
  have LF := hid (fun v s => pfC_len ok v s)
  have OF := hid (fun a b c d e f => pfC_one p (.slice a b c) (.slice d e f) rfl rfl)
  have KC := hid (fun w1 (hb : Below w.heap.size w w1) => copyProof_any w1 p ok s1 s2 c1 c2 (hS.below hb (Nat.le_refl _)) (hT.below hb (Nat.le_refl _)) hv hm0)
  have KE := hid (fun w1 a b c d (h1 : Src w1 a c p.vs) h2 (h3 : SrcD w1 b d p.ss) => encode_any w1 p ok yp a b c d h1 h2 h3)
  have KW := hid (fun w1 => well_any w1 p ok yp s1 s2 c1 c2 (by omega) (by omega))
  have k34 := hid (pfC_s ok (.slice s1 p.vs.length c1) (.slice s2 p.ss.length c2))
  have eE : encE p = 0 := by unfold encE; rw [if_pos hw]
  have eL : encL p = encP p := by unfold encL; rw [if_pos hw]
  rw [eE, eL] at KE
  rw [decide_eq_true hw] at KW
  have hd := dec_enc ok hw
  have eV : decV (encP p) = p := by unfold decV; rw [hd]; rfl
  have eD : decE (encP p) = 0 := by unfold decE; rw [hd]; rfl
  have hxy := encP_bys hw yp
  have KD := hid (fun w1 s c (h : Src w1 s c (encP p)) => decode_any w1 (encP p) hxy s c h)
  unfold DecP at KD
  rw [eV, eD] at KD
  have hxl := encP_len ok hw
  have NV := hid (fun t (h : decP t = none) => show decV t = pf0 ∧ decE t = 120 by unfold decV decE; rw [h]; exact ⟨rfl, rfl⟩)
  have KL := hid (fun w1 n (hn : n < (encP p).length) s c (h : Src w1 s c ((encP p).take n)) => decode_any w1 _ (hxy.take n) s c h)
  have KM := hid (fun w1 k (hk : k < zs.length) s c (h : Src w1 s c (encP p ++ zs.take (k + 1))) => decode_any w1 _ (hxy.app (yz.take (k + 1))) s c h)
  unfold DecP at KL KM
  have NL := hid (fun n (hn : n < (encP p).length) => NV.out _ (dec_less hd n hn))
  have NM := hid (fun k (hk : k < zs.length) => NV.out _ (dec_more hd (s := zs.take (k + 1)) (fun e => by have := congrArg List.length e; rw [List.length_take, List.length_nil] at this; omega)))
  have KP := hid (fun w1 a b c d (h1 : Src w1 a c pf0.vs) (h2 : SrcD w1 b d pf0.ss) => sameProof_self w1 pf0 pf0_ok a none b none c 0 d 0 h1 (Src.nil w1) h2 (SrcD.nil w1))
  have hxs : ∀ z, 0 ≤ z → z < 256 → Bys ((encP p).set 0 z) := fun z h1 h2 x hx => by
    rcases List.mem_or_eq_of_mem_set hx with h | rfl
    · exact hxy x h
    · exact ⟨h1, h2⟩
  have KO := hid (fun w1 s c (h : Src w1 s c ((encP p).set 0 a)) => decode_any w1 _ (hxs a ha.1 ha.2) s c h)
  unfold DecP at KO
  have NO := hid (show 2 ≤ a → decE ((encP p).set 0 a) = 120 from fun h2 => (NV.out _ (by
    obtain ⟨x, r, hxr⟩ : ∃ x r, encP p = x :: r := by
      cases hq : encP p with
      | nil => rw [hq] at hxl; simp at hxl
      | cons x r => exact ⟨x, r, rfl⟩
    rw [hxr, List.set_cons_zero]
    exact dec_first a r h2)).2)
  have DE := hid (show decE ((encP p).set 0 a) = 0 ∨ decE ((encP p).set 0 a) = 120 by unfold decE; split <;> simp)
  have LX := hid (show ((encP p).set 0 a).length = (encP p).length by simp)
  have OO := hid (fun b c d e f g => pfC_one (decV ((encP p).set 0 a)) (.slice b c d) (.slice e f g) rfl rfl)
  have PO := hid (show PfOk (decV ((encP p).set 0 a)) by
    unfold decV
    cases hq : decP ((encP p).set 0 a) with
    | none => exact pf0_ok
    | some m => exact (dec_some (hxs a ha.1 ha.2) hq).1)
  have LO := hid (fun v s => pfC_len PO.out v s)
  have hxl2 : (encP p).length ≤ 500 := by omega
  have hxl1 : 0 < (encP p).length := by omega
  clear hd eV eD eE eL hxl
  generalize encP p = X at *
  have r0 := d0.row (.head _)
  generalize pfC p = PF at *
  generalize hQ : decV (X.set 0 a) = Q0 at *
  generalize decE (X.set 0 a) = E0 at *
  clear hQ
  go_enter Try.func4, Try.ntmps4
  go_wp2_with (first
    | refine wpList_load_row_w (by rfl) 26 _ (by rfl) _ (by rfl) 26 _ _ _ r0 Try.underlying26 rfl (SF.out _ _) ?_)
  refine (KW.out _).mono ?_
  rintro e w1 ⟨rfl, hb1⟩
  have d1 := d0.call hb1
  have x34 := d1.cell (.head _) k34.out
  have r0 := d1.row (.head _)
  go_wp2_with (first
    | refine wpList_load_row_w (by rfl) 26 _ (by rfl) _ (by rfl) 26 _ _ _ r0 Try.underlying26 rfl (SF.out _ _) ?_)
  refine (KC.out _ d1.1).mono ?_
  rintro e w2 ⟨a1, b1, a2, b2, rfl, hO1, hQ1, hb2⟩
  obtain ⟨x1, y1, e1, S1, n1⟩ := hO1.form
  cases e1
  obtain ⟨x2, y2, e2, S2, n2⟩ := hQ1.form
  cases e2
  have d2 := d1.call hb2
  clear x34 r0 hO1 hQ1
  go_wp2_with fail
  refine (KE.out _ _ _ _ _ S1 n1 S2).mono ?_
  rintro e w3 ⟨v3, rfl, hO3, hb3⟩
  obtain ⟨g3, y3, rfl, _, S3, hl3⟩ := hO3.pos hxl1
  have d3 := d2.call hb3
  clear hO3 S1 S2
  go_wp2_with fail
  refine (KD.out _ _ _ S3).mono ?_
  rintro e w4 ⟨a4, b4, a5, b5, rfl, hO4, hQ4, hb4⟩
  have d4 := d3.call hb4
  have S4 := S3.below hb4 (Nat.le_refl _)
  clear hO4 hQ4 S3
  go_wp2_with (first
    | (refine wpList_new AP.out LZ.out Try.sizeP rfl rfl rfl _ _ rfl rfl (PF (.slice a4 p.vs.length b4) (.slice a5 p.ss.length b5)) rfl rfl (LF.out _ _) (OF.out _ _ _ _ _ _) ?_; refine Hid.out ?_))
  refine hid ?_
  have B5 := (d4.other (.cells (PF (.slice a4 p.vs.length b4) (.slice a5 p.ss.length b5)).toArray 26)).1
  have S5 := S4.below ((Below.refl w4.heap.size w4).alloc (Nat.le_refl _) (.cells (PF (.slice a4 p.vs.length b4) (.slice a5 p.ss.length b5)).toArray 26)) (Nat.le_refl _)
  generalize w4.alloc (.cells (PF (.slice a4 p.vs.length b4) (.slice a5 p.ss.length b5)).toArray 26) = w5 at *
  generalize w4.heap.size = g4 at *
  clear d4 S4 d3 d2 d1 d0 hb1 hb2 hb3 hb4 hl3
  have ix : (X.length : Int) ≤ 500 := by omega
  go_wp2
  go_loopw [11] (fun i wr => ∃ k : Nat, k ≤ X.length ∧ i = .int .i64 k ∧ Below w.heap.size w wr ∧ Src wr (some ⟨g3, 0, none⟩) y3 X) (fun i _ => X.length - (intOf i).toNat)
  case atStart => exact ⟨0, by omega, rfl, B5, S5⟩
  case round =>
    clear B5 S5
    obtain ⟨k, hk, rfl, B5, S5⟩ := hrel
    have hc5 := S5.1
    have hm5 := S5.2.1
    unfold maxLen at hm5
    by_cases hlt : k < X.length
    · have i1 : (k : Int) < (X.length : Int) := by omega
      have i2 : (k : Int) ≤ (y3 : Int) := by omega
      have i3 : (y3 : Int) ≤ 9223372036854775807 := by omega
      have lk : (X.take k).length = k := by rw [List.length_take]; omega
      have KL1 := hid (fun w1 s c h => KL.out w1 k hlt s c h)
      rw [lk, (NL.out k hlt).1, (NL.out k hlt).2] at KL1
      have S6 := src_pre S5 k (by omega)
      clear lk
      go_wp2_with fail
      refine (KL1.out _ _ _ S6).mono ?_
      rintro e w7 ⟨a7, b7, a8, b8, rfl, hO7, hQ7, hb7⟩
      obtain ⟨x7, y7, e7, S7, n7⟩ := hO7.form
      cases e7
      obtain ⟨x8, y8, e8, S8, n8⟩ := hQ7.form
      cases e8
      have B7 := B5.trans (hb7.mono B5.size)
      have S57 := S5.below hb7 (Nat.le_refl _)
      clear hO7 hQ7 S5 B5 S6
      go_wp2_with (first
        | (refine wpList_new AP.out LZ.out Try.sizeP rfl rfl rfl _ _ rfl rfl (pfC pf0 (.slice a7 pf0.vs.length b7) (.slice a8 pf0.ss.length b8)) rfl rfl (pfC_len pf0_ok _ _) (pfC_one _ _ _ rfl rfl) ?_; refine Hid.out ?_))
      refine hid ?_
      have bl8 : Below w7.heap.size w7 (w7.alloc (.cells (pfC pf0 (.slice a7 pf0.vs.length b7) (.slice a8 pf0.ss.length b8)).toArray 26)) := (Below.refl _ _).alloc (Nat.le_refl _) _
      have r8 := hnew w7 (.cells (pfC pf0 (.slice a7 pf0.vs.length b7) (.slice a8 pf0.ss.length b8)).toArray 26)
      have S7 := S7.below bl8 (Nat.le_refl _)
      have S8 := S8.below bl8 (Nat.le_refl _)
      have S58 := S57.below bl8 (Nat.le_refl _)
      have B8 := B7.trans (bl8.mono B7.size)
      have SM := hid (show (Try.prog.info? 26).map (·.size) = some (pfC pf0 (.slice a7 pf0.vs.length b7) (.slice a8 pf0.ss.length b8)).toArray.size by rw [Try.sizeP, List.size_toArray, pfC_len pf0_ok])
      generalize w7.alloc (.cells (pfC pf0 (.slice a7 pf0.vs.length b7) (.slice a8 pf0.ss.length b8)).toArray 26) = w8 at *
      generalize w7.heap.size = g7 at *
      clear S57 B7 bl8
      go_wp2_with (first
        | refine wpList_load_row_w (by rfl) 26 _ (by rfl) _ (by rfl) 26 _ _ _ r8 Try.underlying26 rfl SM.out ?_
        | refine wpList_built (by rfl) 26 _ (by rfl) _ (by rfl) _ B0.out ?_)
      refine (KP.out _ _ _ _ _ S7 S8).mono ?_
      rintro e w9 ⟨rfl, hb9⟩
      have B9 := B8.trans (hb9.mono B8.size)
      have S9 := S58.below hb9 (Nat.le_refl _)
      clear S7 S8 S58 r8 B8
      go_wp2
      go_roundw
      case rel => exact ⟨k + 1, by omega, by go_num, B9, S9⟩
      case measure => simp [intOf]; omega
    · have i1 : ¬ ((k : Int) < (X.length : Int)) := by omega
      clear hlt
      have KB := hid (copyBytes_any wr X _ _ S5 (by omega))
      go_wp2_with fail
      refine KB.out.mono ?_
      rintro e wA ⟨vA, rfl, hOA, hbA⟩
      have BA := B5.trans (hbA.mono B5.size)
      have hzA := hbA.size
      have OA0 : Own wA wr.heap.size vA (X ++ zs.take 0) := by rw [List.take_zero, List.append_nil]; exact hOA
      have SB := S5.below hbA (Nat.le_refl _)
      have hgw := B5.size
      have hgB : g3 < wr.heap.size := S5.lt hxl1
      generalize wr.heap.size = B at *
      clear S5 hbA KB hOA B5
      have izl : (zs.length : Int) ≤ 140737488351232 := by omega
      go_wp2
      go_loopw [14, 15] (fun v i wr => ∃ k : Nat, k ≤ zs.length ∧ i = .int .i64 k ∧ Below w.heap.size w wr ∧ Own wr B v (X ++ zs.take k) ∧ Src wr (some ⟨g3, 0, none⟩) y3 X ∧ B ≤ wr.heap.size) (fun _ i _ => zs.length - (intOf i).toNat)
      case atStart => exact ⟨0, by omega, rfl, BA, OA0, SB, hzA⟩
      case round =>
        clear BA OA0 SB hzA
        obtain ⟨j, hj, rfl, BA, hOj, SB, hzj⟩ := hrel
        by_cases hlj : j < zs.length
        · have j1 : (j : Int) < (zs.length : Int) := by omega
          have TZ := hZ.below BA (Nat.le_refl _)
          obtain ⟨hc, hm, b, o, hb, hsp, hsrc⟩ := TZ
          obtain rfl := hsp (by omega)
          have c0 := hsrc j hlj
          have HT := hid (show X ++ zs.take (j + 1) = (X ++ zs.take j) ++ [zs.getD j 0] by
            rw [List.take_succ_eq_append_getElem hlj, List.getD_eq_getElem?_getD, List.getElem?_eq_getElem hlj, List.append_assoc]; rfl)
          have KN := hid (show (X ++ zs.take j).length + 1 ≤ 140737488355328 by rw [List.length_append, List.length_take]; omega)
          have KM1 := hid (fun w1 s c h => KM.out w1 j hlj s c h)
          rw [(NM.out j hlj).1, (NM.out j hlj).2, HT.out] at KM1
          clear hsrc hsp hb
          generalize zs.getD j 0 = xj at *
          generalize X ++ zs.take j = Xj at *
          simp only [List.length_append, List.length_singleton] at KM1
          go_wp2_with (first | (at_builtin; refine wpList_push_any rfl (.tmp 76) (.tmp 81) rfl B _ _ xj rfl hOj rfl KN.out hzj _ _ ?_; intro v2 w2 hO2 hB2; refine Hid.out ?_))
          refine hid ?_
          obtain ⟨x2, y2, e2, S2, n2⟩ := hO2.form
          rw [List.length_append, List.length_singleton] at e2
          subst e2
          have hz2 := hB2.size
          have BA2 := BA.trans (hB2.mono (by omega))
          have SB2 := src_blk SB (hB2.mono (by omega))
          clear BA SB hOj c0
          go_wp2_with fail
          refine (KM1.out _ _ _ S2).mono ?_
          rintro e w7 ⟨a7, b7, a8, b8, rfl, hO7, hQ7, hb7⟩
          have B7 := BA2.trans (hb7.mono BA2.size)
          have S7 := SB2.below hb7 (Nat.le_refl _)
          have O7 := hO2.below hb7 (Nat.le_refl _)
          have hz7 := hb7.size
          clear hO7 hQ7 BA2 SB2 S2 hO2
          go_wp2_with (first
            | (refine wpList_new AP.out LZ.out Try.sizeP rfl rfl rfl _ _ rfl rfl (pfC pf0 (.slice a7 pf0.vs.length b7) (.slice a8 pf0.ss.length b8)) rfl rfl (pfC_len pf0_ok _ _) (pfC_one _ _ _ rfl rfl) ?_; refine Hid.out ?_))
          refine hid ?_
          have bl8 : Below w7.heap.size w7 (w7.alloc (.cells (pfC pf0 (.slice a7 pf0.vs.length b7) (.slice a8 pf0.ss.length b8)).toArray 26)) := (Below.refl _ _).alloc (Nat.le_refl _) _
          have S8 := S7.below bl8 (Nat.le_refl _)
          have B8 := B7.trans (bl8.mono B7.size)
          have O8 := O7.below bl8 (Nat.le_refl _)
          have hz8 := bl8.size
          generalize w7.alloc (.cells (pfC pf0 (.slice a7 pf0.vs.length b7) (.slice a8 pf0.ss.length b8)).toArray 26) = w8 at *
          clear S7 B7 O7 bl8
          go_wp2
          go_roundw
          case rel => exact ⟨j + 1, by omega, by go_num, B8, (by rw [HT.out]; exact O8), S8, by omega⟩
          case measure => simp [intOf]; omega
        · have j1 : ¬ ((j : Int) < (zs.length : Int)) := by omega
          clear hlj
          have KB := hid (copyBytes_any _ X _ _ SB (by omega))
          go_wp2_with fail
          refine KB.out.mono ?_
          rintro e wC ⟨vC, rfl, hOC, hbC⟩
          have BC := BA.trans (hbC.mono BA.size)
          obtain ⟨spv, capv, gC, rest, rfl, nC, hcC, hmC, hgC, hot⟩ := hOC.ot
          obtain ⟨rfl, hrow⟩ := hot hxl1
          have cC : wC.cell? ⟨gC, 0, none⟩ = some (.int .u8 (X.getD 0 0)) := by
            rw [cell_of_row _ _ _ _ _ _ hrow, List.getElem?_toArray, List.getElem?_append_left (by rw [ints_len]; exact hxl1)]; exact ints_get .u8 X 0 hxl1
          have fC : wC.frozen? ⟨gC, 0, none⟩ = false := frozen_of_row _ _ _ _ _ hrow
          have ot2 := Ot.set (N := X.length) (spv := some ⟨gC, 0, none⟩) (fun _ => ⟨rfl, hrow⟩) 0 a hxl1
          have hSz := BA.size
          have BE : Below w.heap.size w (wC.setCell ⟨gC, 0, none⟩ (.int .u8 a)) := by rw [setCell_eq_setRow wC gC _ _ _ _ _ hrow]; exact below_setRow BC (by omega) _
          have SE := hid (ot2.src (by rw [LX.out]) hcC hmC)
          clear hOC hot ot2 BC BA hOj SB KB
          generalize X.getD 0 0 = x00 at *
          rw [LX.out] at KO
          have iX : (0 : Int) < (X.length : Int) := by omega
          go_wp2_with fail
          refine (KO.out _ _ _ SE.out).mono ?_
          rintro e wF ⟨aF, bF, aG, bG, rfl, hOF, hQF, hbF⟩
          have BF := BE.trans (hbF.mono BE.size)
          clear hOF hQF
          go_wp2_with (first
            | (refine wpList_new AP.out LZ.out Try.sizeP rfl rfl rfl _ _ rfl rfl (pfC Q0 (.slice aF Q0.vs.length bF) (.slice aG Q0.ss.length bG)) rfl rfl (LO.out _ _) (OO.out _ _ _ _ _ _) ?_; refine Hid.out ?_))
          refine hid ?_
          have BH := BF.trans (((Below.refl wF.heap.size wF).alloc (Nat.le_refl _) (.cells (pfC Q0 (.slice aF Q0.vs.length bF) (.slice aG Q0.ss.length bG)).toArray 26)).mono BF.size)
          generalize wF.alloc (.cells (pfC Q0 (.slice aF Q0.vs.length bF) (.slice aG Q0.ss.length bG)).toArray 26) = wH at *
          clear cC fC
          by_cases h2 : a < 2
          · go_wp2
            go_ret
            exact ⟨rfl, BH⟩
          · rw [NO.out (by omega)]
            go_wp2
            go_ret
            exact ⟨rfl, BH⟩
theorem proofCuts_any (w : World) (p : Pf) (ok : PfOk p) (yp : PfY p) (s1 s2 : Option Addr) (c1 c2 : Nat) (hS : Src w s1 c1 p.vs) (hT : SrcD w s2 c2 p.ss) (hv : p.vs.length ≤ 140737488355000) (hm0 : p.ss.length ≤ 4398046511104) (zs : List Int) (yz : Bys zs) (tp : Option Addr) (tc : Nat) (hZ : Src w tp tc zs) (hzl : zs.length ≤ 140737488351232) (a : Int) (ha : 0 ≤ a ∧ a < 256) :
    Calls Try.prog 4 #[.agg (pfC p (.slice s1 p.vs.length c1) (.slice s2 p.ss.length c2)).toArray, .slice tp zs.length tc, .int .u8 a] w fun e w' => e = .returned (.bool true) ∧ Below w.heap.size w w' := by
  by_cases hw : WellP p
  · by_cases h8 : 8 < p.ss.length
    · exact cuts_many w p ok yp s1 s2 c1 c2 hS hT hv hm0 zs yz tp tc hZ hzl a ha hw h8
    · exact cuts_yes w p ok yp s1 s2 c1 c2 hS hT hv hm0 zs yz tp tc hZ hzl a ha hw (by omega)
  · exact cuts_no w p ok yp s1 s2 c1 c2 hS hT hv hm0 zs yz tp tc hZ hzl a ha hw
end Go.Proofs.Ytlhmhpkgdcdjkaa
