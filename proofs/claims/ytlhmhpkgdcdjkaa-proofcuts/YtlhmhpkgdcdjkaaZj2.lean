import Derived.Test.YtlhmhpkgdcdjkaaZi2
namespace Go.Proofs.Ytlhmhpkgdcdjkaa
set_option linter.unusedVariables false
set_option linter.unusedSimpArgs false
open Go.RowKit
attribute [local go_sem ↓] Go.wp_at_zero Go.wp_at_succ

set_option maxRecDepth 100000 in
set_option maxHeartbeats 4000000 in
theorem back_yn (w : World) (p : Pf) (ok : PfOk p) (yp : PfY p) (s1 s2 : Option Addr) (c1 c2 : Nat) (hS : Src w s1 c1 p.vs) (hT : SrcD w s2 c2 p.ss) (hv : p.vs.length ≤ 140737488355000) (hm0 : p.ss.length ≤ 4398046511104) (t : List Int) (yt : Bys t) (lp : Option Addr) (lc : Nat) (hR : Src w lp lc t) (hw : WellP p) (hm : decP t = none) :
    Calls Try.prog 3 #[.agg (pfC p (.slice s1 p.vs.length c1) (.slice s2 p.ss.length c2)).toArray, .slice lp t.length lc] w fun e w' => e = .returned (.bool true) ∧ Below w.heap.size w w' := by
  have AP := hid allocPf
  have LZ := hid (show (pfC pf0 (.slice none 0 0) (.slice none 0 0)).length = 35 from rfl)
  have B0 := hid built_pf0
  have hvl : p.vs.length ≤ 9223372036854775807 := by omega
  have hsl : p.ss.length ≤ 9223372036854775807 := by omega
  have htl : (t.length : Int) ≤ 9223372036854775807 := by have h1 := hR.1; have h2 := hR.2.1; unfold maxLen at h2; omega
  have d0 := (BK.nil w).alloc (pfC p (.slice s1 p.vs.length c1) (.slice s2 p.ss.length c2)) 26
  have SF := hid (fun v s => show (Try.prog.info? 26).map (·.size) = some (pfC p v s).toArray.size by rw [Try.sizeP, List.size_toArray, pfC_len ok])
  have LF := hid (fun v s => pfC_len ok v s)
  have OF := hid (fun a b c d e f => pfC_one p (.slice a b c) (.slice d e f) rfl rfl)
  have KC := hid (fun w1 (hb : Below w.heap.size w w1) => copyProof_any w1 p ok s1 s2 c1 c2 (hS.below hb (Nat.le_refl _)) (hT.below hb (Nat.le_refl _)) hv hm0)
  have KE := hid (fun w1 a b c d (h1 : Src w1 a c p.vs) h2 (h3 : SrcD w1 b d p.ss) => encode_any w1 p ok yp a b c d h1 h2 h3)
  have KW := hid (fun w1 => well_any w1 p ok yp s1 s2 c1 c2 hvl hsl)
  have eE : encE p = 0 := by unfold encE; rw [if_pos hw]
  have eL : encL p = encP p := by unfold encL; rw [if_pos hw]
  rw [eE, eL] at KE
  rw [decide_eq_true hw] at KW
  have hd := dec_enc ok hw
  have eV : decV (encP p) = p := by unfold decV; rw [hd]; rfl
  have eD : decE (encP p) = 0 := by unfold decE; rw [hd]; rfl
  have KD := hid (fun w1 s c (h : Src w1 s c (encP p)) => decode_any w1 (encP p) (encP_bys hw yp) s c h)
  unfold DecP at KD
  rw [eV, eD] at KD
  have KP := hid (fun w1 (hb : Below w.heap.size w w1) a b c d (h1 : Src w1 a c p.vs) (h2 : SrcD w1 b d p.ss) => sameProof_self w1 p ok a s1 b s2 c c1 d c2 h1 (hS.below hb (Nat.le_refl _)) h2 (hT.below hb (Nat.le_refl _)))
  generalize hX : encP p = X at *
  clear hX hd eV eD eE eL
  have eV : decV t = pf0 := by unfold decV; rw [hm]; rfl
  have eD : decE t = 120 := by unfold decE; rw [hm]; rfl
  have KDm := hid (fun w1 (hb : Below w.heap.size w w1) => decode_any w1 t yt lp lc (hR.below hb (Nat.le_refl _)))
  unfold DecP at KDm
  rw [eV, eD] at KDm
  have SFm := hid (fun v s => show (Try.prog.info? 26).map (·.size) = some (pfC pf0 v s).toArray.size by rw [Try.sizeP, List.size_toArray, pfC_len pf0_ok])
  have LFm := hid (fun v s => pfC_len pf0_ok v s)
  have OFm := hid (fun a b c d e f => pfC_one pf0 (.slice a b c) (.slice d e f) rfl rfl)
  have KPm := hid (fun w1 a b c d (h1 : Src w1 a c pf0.vs) (h2 : SrcD w1 b d pf0.ss) => sameProof_self w1 pf0 pf0_ok a none b none c 0 d 0 h1 (Src.nil w1) h2 (SrcD.nil w1))
  clear eV eD
  have r0 := d0.row (.head _)
  generalize pfC p = PF at *
  clear hm
  go_enter Try.func3, Try.ntmps3
  go_wp2_with (first
    | refine wpList_load_row_w (by rfl) 26 _ (by rfl) _ (by rfl) 26 _ _ _ r0 Try.underlying26 rfl (SF.out _ _) ?_)
  refine (KC.out _ d0.1).mono ?_
  rintro e w1 ⟨a1, b1, a2, b2, rfl, hO1, hQ1, hb1⟩
  obtain ⟨x1, y1, e1, S1, n1⟩ := hO1.form
  cases e1
  obtain ⟨x2, y2, e2, S2, n2⟩ := hQ1.form
  cases e2
  have d1 := d0.call hb1
  go_wp2_with fail
  refine (KE.out _ _ _ _ _ S1 n1 S2).mono ?_
  rintro e w2 ⟨v2, rfl, hO2, hb2⟩
  obtain ⟨x3, y3, rfl, S3, n3⟩ := hO2.form
  have d2 := d1.call hb2
  have r0 := d2.row (.head _)
  go_wp2_with (first
    | refine wpList_load_row_w (by rfl) 26 _ (by rfl) _ (by rfl) 26 _ _ _ r0 Try.underlying26 rfl (SF.out _ _) ?_)
  refine (KW.out _).mono ?_
  rintro e w3 ⟨rfl, hb3⟩
  have d3 := d2.call hb3
  have S3 := S3.below hb3 (Nat.le_refl _)
  go_wp2_with fail
  refine (KD.out _ _ _ S3).mono ?_
  rintro e w4 ⟨a4, b4, a5, b5, rfl, hO4, hQ4, hb4⟩
  obtain ⟨x4, y4, e4, S4, n4⟩ := hO4.form
  cases e4
  obtain ⟨x5, y5, e5, S5, n5⟩ := hQ4.form
  cases e5
  have d4 := d3.call hb4
  go_wp2_with (first
    | (refine wpList_new AP.out LZ.out Try.sizeP rfl rfl rfl _ _ rfl rfl (PF (.slice a4 p.vs.length b4) (.slice a5 p.ss.length b5)) rfl rfl (LF.out _ _) (OF.out _ _ _ _ _ _) ?_; refine Hid.out ?_))
  refine hid ?_
  have d5 := d4.alloc (PF (.slice a4 p.vs.length b4) (.slice a5 p.ss.length b5)) 26
  have bl5 : Below w4.heap.size w4 (w4.alloc (.cells (PF (.slice a4 p.vs.length b4) (.slice a5 p.ss.length b5)).toArray 26)) := (Below.refl _ _).alloc (Nat.le_refl _) _
  have S4 := S4.below bl5 (Nat.le_refl _)
  have S5 := S5.below bl5 (Nat.le_refl _)
  have r5 := d5.row (.head _)
  have r0 := d5.row (.tail _ (.head _))
  clear bl5 hO4 hQ4
  generalize w4.alloc (.cells (PF (.slice a4 p.vs.length b4) (.slice a5 p.ss.length b5)).toArray 26) = w5 at *
  generalize w4.heap.size = g4 at *
  go_wp2_with (first
    | refine wpList_load_row_w (by rfl) 26 _ (by rfl) _ (by rfl) 26 _ _ _ r5 Try.underlying26 rfl (SF.out _ _) ?_
    | refine wpList_load_row_w (by rfl) 26 _ (by rfl) _ (by rfl) 26 _ _ _ r0 Try.underlying26 rfl (SF.out _ _) ?_)
  refine (KP.out _ d5.1 _ _ _ _ S4 S5).mono ?_
  rintro e w6 ⟨rfl, hb6⟩
  have d6 := d5.call hb6
  clear r0
  go_wp2_with fail
  refine (KDm.out _ d6.1).mono ?_
  rintro e w7 ⟨a7, b7, a8, b8, rfl, hO7, hQ7, hb7⟩
  obtain ⟨x7, y7, e7, S7, n7⟩ := hO7.form
  cases e7
  obtain ⟨x8, y8, e8, S8, n8⟩ := hQ7.form
  cases e8
  have d7 := d6.call hb7
  clear hO7 hQ7
  go_wp2_with (first
    | (refine wpList_new AP.out LZ.out Try.sizeP rfl rfl rfl _ _ rfl rfl (pfC pf0 (.slice a7 pf0.vs.length b7) (.slice a8 pf0.ss.length b8)) rfl rfl (LFm.out _ _) (OFm.out _ _ _ _ _ _) ?_; refine Hid.out ?_))
  refine hid ?_
  have d8 := d7.alloc (pfC pf0 (.slice a7 pf0.vs.length b7) (.slice a8 pf0.ss.length b8)) 26
  have bl8 : Below w7.heap.size w7 (w7.alloc (.cells (pfC pf0 (.slice a7 pf0.vs.length b7) (.slice a8 pf0.ss.length b8)).toArray 26)) := (Below.refl _ _).alloc (Nat.le_refl _) _
  have S7 := S7.below bl8 (Nat.le_refl _)
  have S8 := S8.below bl8 (Nat.le_refl _)
  have r8 := d8.row (.head _)
  clear bl8
  generalize w7.alloc (.cells (pfC pf0 (.slice a7 pf0.vs.length b7) (.slice a8 pf0.ss.length b8)).toArray 26) = w8 at *
  generalize w7.heap.size = g7 at *
  go_wp2_with (first
    | refine wpList_load_row_w (by rfl) 26 _ (by rfl) _ (by rfl) 26 _ _ _ r8 Try.underlying26 rfl (SFm.out _ _) ?_
    | refine wpList_built (by rfl) 26 _ (by rfl) _ (by rfl) _ B0.out ?_)
  refine (KPm.out _ _ _ _ _ S7 S8).mono ?_
  rintro e w9 ⟨rfl, hb9⟩
  have d9 := d8.call hb9
  go_wp2
  go_ret
  exact ⟨rfl, d9.1⟩
set_option maxRecDepth 100000 in
set_option maxHeartbeats 4000000 in
theorem back_yy (w : World) (p : Pf) (ok : PfOk p) (yp : PfY p) (s1 s2 : Option Addr) (c1 c2 : Nat) (hS : Src w s1 c1 p.vs) (hT : SrcD w s2 c2 p.ss) (hv : p.vs.length ≤ 140737488355000) (hm0 : p.ss.length ≤ 4398046511104) (t : List Int) (yt : Bys t) (lp : Option Addr) (lc : Nat) (hR : Src w lp lc t) (hw : WellP p) (m : Pf) (hm : decP t = some m) :
    Calls Try.prog 3 #[.agg (pfC p (.slice s1 p.vs.length c1) (.slice s2 p.ss.length c2)).toArray, .slice lp t.length lc] w fun e w' => e = .returned (.bool true) ∧ Below w.heap.size w w' := by
  have AP := hid allocPf
  have LZ := hid (show (pfC pf0 (.slice none 0 0) (.slice none 0 0)).length = 35 from rfl)
  have B0 := hid built_pf0
  have hvl : p.vs.length ≤ 9223372036854775807 := by omega
  have hsl : p.ss.length ≤ 9223372036854775807 := by omega
  have htl : (t.length : Int) ≤ 9223372036854775807 := by have h1 := hR.1; have h2 := hR.2.1; unfold maxLen at h2; omega
  have d0 := (BK.nil w).alloc (pfC p (.slice s1 p.vs.length c1) (.slice s2 p.ss.length c2)) 26
  have SF := hid (fun v s => show (Try.prog.info? 26).map (·.size) = some (pfC p v s).toArray.size by rw [Try.sizeP, List.size_toArray, pfC_len ok])
  have LF := hid (fun v s => pfC_len ok v s)
  have OF := hid (fun a b c d e f => pfC_one p (.slice a b c) (.slice d e f) rfl rfl)
  have KC := hid (fun w1 (hb : Below w.heap.size w w1) => copyProof_any w1 p ok s1 s2 c1 c2 (hS.below hb (Nat.le_refl _)) (hT.below hb (Nat.le_refl _)) hv hm0)
  have KE := hid (fun w1 a b c d (h1 : Src w1 a c p.vs) h2 (h3 : SrcD w1 b d p.ss) => encode_any w1 p ok yp a b c d h1 h2 h3)
  have KW := hid (fun w1 => well_any w1 p ok yp s1 s2 c1 c2 hvl hsl)
  have eE : encE p = 0 := by unfold encE; rw [if_pos hw]
  have eL : encL p = encP p := by unfold encL; rw [if_pos hw]
  rw [eE, eL] at KE
  rw [decide_eq_true hw] at KW
  have hd := dec_enc ok hw
  have eV : decV (encP p) = p := by unfold decV; rw [hd]; rfl
  have eD : decE (encP p) = 0 := by unfold decE; rw [hd]; rfl
  have KD := hid (fun w1 s c (h : Src w1 s c (encP p)) => decode_any w1 (encP p) (encP_bys hw yp) s c h)
  unfold DecP at KD
  rw [eV, eD] at KD
  have KP := hid (fun w1 (hb : Below w.heap.size w w1) a b c d (h1 : Src w1 a c p.vs) (h2 : SrcD w1 b d p.ss) => sameProof_self w1 p ok a s1 b s2 c c1 d c2 h1 (hS.below hb (Nat.le_refl _)) h2 (hT.below hb (Nat.le_refl _)))
  generalize hX : encP p = X at *
  clear hX hd eV eD eE eL
  obtain ⟨mok, my, mw, hme⟩ := dec_some yt hm
  have eV : decV t = m := by unfold decV; rw [hm]; rfl
  have eD : decE t = 0 := by unfold decE; rw [hm]; rfl
  have eE : encE m = 0 := by unfold encE; rw [if_pos mw]
  have eL : encL m = t := by unfold encL; rw [if_pos mw, hme]
  have KDm := hid (fun w1 (hb : Below w.heap.size w w1) => decode_any w1 t yt lp lc (hR.below hb (Nat.le_refl _)))
  unfold DecP at KDm
  rw [eV, eD] at KDm
  have SFm := hid (fun v s => show (Try.prog.info? 26).map (·.size) = some (pfC m v s).toArray.size by rw [Try.sizeP, List.size_toArray, pfC_len mok])
  have LFm := hid (fun v s => pfC_len mok v s)
  have OFm := hid (fun a b c d e f => pfC_one m (.slice a b c) (.slice d e f) rfl rfl)
  have KEm := hid (fun w1 a b c d (h1 : Src w1 a c m.vs) h2 (h3 : SrcD w1 b d m.ss) => encode_any w1 m mok my a b c d h1 h2 h3)
  rw [eE, eL] at KEm
  have mv := mw.len
  have ms := mw.num
  have mo := onesN_le m.bs
  have mb := mok.bs
  have KWm := hid (fun w1 a b c d => well_any w1 m mok my a b c d (by omega) (by omega))
  rw [decide_eq_true mw] at KWm
  have KSm := hid (fun w1 (hb : Below w.heap.size w w1) a c (h : Src w1 a c t) => same_self w1 t a lp c lc h (hR.below hb (Nat.le_refl _)))
  clear eV eD eE eL mv ms mo mb hme
  generalize pfC m = MF at *
  have r0 := d0.row (.head _)
  generalize pfC p = PF at *
  clear hm
  go_enter Try.func3, Try.ntmps3
  go_wp2_with (first
    | refine wpList_load_row_w (by rfl) 26 _ (by rfl) _ (by rfl) 26 _ _ _ r0 Try.underlying26 rfl (SF.out _ _) ?_)
  refine (KC.out _ d0.1).mono ?_
  rintro e w1 ⟨a1, b1, a2, b2, rfl, hO1, hQ1, hb1⟩
  obtain ⟨x1, y1, e1, S1, n1⟩ := hO1.form
  cases e1
  obtain ⟨x2, y2, e2, S2, n2⟩ := hQ1.form
  cases e2
  have d1 := d0.call hb1
  go_wp2_with fail
  refine (KE.out _ _ _ _ _ S1 n1 S2).mono ?_
  rintro e w2 ⟨v2, rfl, hO2, hb2⟩
  obtain ⟨x3, y3, rfl, S3, n3⟩ := hO2.form
  have d2 := d1.call hb2
  have r0 := d2.row (.head _)
  go_wp2_with (first
    | refine wpList_load_row_w (by rfl) 26 _ (by rfl) _ (by rfl) 26 _ _ _ r0 Try.underlying26 rfl (SF.out _ _) ?_)
  refine (KW.out _).mono ?_
  rintro e w3 ⟨rfl, hb3⟩
  have d3 := d2.call hb3
  have S3 := S3.below hb3 (Nat.le_refl _)
  go_wp2_with fail
  refine (KD.out _ _ _ S3).mono ?_
  rintro e w4 ⟨a4, b4, a5, b5, rfl, hO4, hQ4, hb4⟩
  obtain ⟨x4, y4, e4, S4, n4⟩ := hO4.form
  cases e4
  obtain ⟨x5, y5, e5, S5, n5⟩ := hQ4.form
  cases e5
  have d4 := d3.call hb4
  go_wp2_with (first
    | (refine wpList_new AP.out LZ.out Try.sizeP rfl rfl rfl _ _ rfl rfl (PF (.slice a4 p.vs.length b4) (.slice a5 p.ss.length b5)) rfl rfl (LF.out _ _) (OF.out _ _ _ _ _ _) ?_; refine Hid.out ?_))
  refine hid ?_
  have d5 := d4.alloc (PF (.slice a4 p.vs.length b4) (.slice a5 p.ss.length b5)) 26
  have bl5 : Below w4.heap.size w4 (w4.alloc (.cells (PF (.slice a4 p.vs.length b4) (.slice a5 p.ss.length b5)).toArray 26)) := (Below.refl _ _).alloc (Nat.le_refl _) _
  have S4 := S4.below bl5 (Nat.le_refl _)
  have S5 := S5.below bl5 (Nat.le_refl _)
  have r5 := d5.row (.head _)
  have r0 := d5.row (.tail _ (.head _))
  clear bl5 hO4 hQ4
  generalize w4.alloc (.cells (PF (.slice a4 p.vs.length b4) (.slice a5 p.ss.length b5)).toArray 26) = w5 at *
  generalize w4.heap.size = g4 at *
  go_wp2_with (first
    | refine wpList_load_row_w (by rfl) 26 _ (by rfl) _ (by rfl) 26 _ _ _ r5 Try.underlying26 rfl (SF.out _ _) ?_
    | refine wpList_load_row_w (by rfl) 26 _ (by rfl) _ (by rfl) 26 _ _ _ r0 Try.underlying26 rfl (SF.out _ _) ?_)
  refine (KP.out _ d5.1 _ _ _ _ S4 S5).mono ?_
  rintro e w6 ⟨rfl, hb6⟩
  have d6 := d5.call hb6
  clear r0
  go_wp2_with fail
  refine (KDm.out _ d6.1).mono ?_
  rintro e w7 ⟨a7, b7, a8, b8, rfl, hO7, hQ7, hb7⟩
  obtain ⟨x7, y7, e7, S7, n7⟩ := hO7.form
  cases e7
  obtain ⟨x8, y8, e8, S8, n8⟩ := hQ7.form
  cases e8
  have d7 := d6.call hb7
  clear hO7 hQ7
  go_wp2_with (first
    | (refine wpList_new AP.out LZ.out Try.sizeP rfl rfl rfl _ _ rfl rfl (MF (.slice a7 m.vs.length b7) (.slice a8 m.ss.length b8)) rfl rfl (LFm.out _ _) (OFm.out _ _ _ _ _ _) ?_; refine Hid.out ?_))
  refine hid ?_
  have d8 := d7.alloc (MF (.slice a7 m.vs.length b7) (.slice a8 m.ss.length b8)) 26
  have bl8 : Below w7.heap.size w7 (w7.alloc (.cells (MF (.slice a7 m.vs.length b7) (.slice a8 m.ss.length b8)).toArray 26)) := (Below.refl _ _).alloc (Nat.le_refl _) _
  have S7 := S7.below bl8 (Nat.le_refl _)
  have S8 := S8.below bl8 (Nat.le_refl _)
  have r8 := d8.row (.head _)
  clear bl8
  generalize w7.alloc (.cells (MF (.slice a7 m.vs.length b7) (.slice a8 m.ss.length b8)).toArray 26) = w8 at *
  generalize w7.heap.size = g7 at *
  go_wp2_with (first
    | refine wpList_load_row_w (by rfl) 26 _ (by rfl) _ (by rfl) 26 _ _ _ r8 Try.underlying26 rfl (SFm.out _ _) ?_)
  refine (KEm.out _ _ _ _ _ S7 n7 S8).mono ?_
  rintro e w9 ⟨v9, rfl, hO9, hb9⟩
  obtain ⟨x9, y9, rfl, S9, n9⟩ := hO9.form
  have d9 := d8.call hb9
  have r8 := d9.row (.head _)
  go_wp2_with (first
    | refine wpList_load_row_w (by rfl) 26 _ (by rfl) _ (by rfl) 26 _ _ _ r8 Try.underlying26 rfl (SFm.out _ _) ?_)
  refine (KWm.out _ _ _ _ _).mono ?_
  rintro e wA ⟨rfl, hbA⟩
  have dA := d9.call hbA
  have SA := S9.below hbA (Nat.le_refl _)
  go_wp2_with fail
  refine (KSm.out _ dA.1 _ _ SA).mono ?_
  rintro e wB ⟨rfl, hbB⟩
  have dB := dA.call hbB
  go_wp2
  go_ret
  exact ⟨rfl, dB.1⟩
set_option maxRecDepth 100000 in
set_option maxHeartbeats 4000000 in
theorem back_nn (w : World) (p : Pf) (ok : PfOk p) (yp : PfY p) (s1 s2 : Option Addr) (c1 c2 : Nat) (hS : Src w s1 c1 p.vs) (hT : SrcD w s2 c2 p.ss) (hv : p.vs.length ≤ 140737488355000) (hm0 : p.ss.length ≤ 4398046511104) (t : List Int) (yt : Bys t) (lp : Option Addr) (lc : Nat) (hR : Src w lp lc t) (hw : ¬ WellP p) (hm : decP t = none) :
    Calls Try.prog 3 #[.agg (pfC p (.slice s1 p.vs.length c1) (.slice s2 p.ss.length c2)).toArray, .slice lp t.length lc] w fun e w' => e = .returned (.bool true) ∧ Below w.heap.size w w' := by
  have AP := hid allocPf
  have LZ := hid (show (pfC pf0 (.slice none 0 0) (.slice none 0 0)).length = 35 from rfl)
  have B0 := hid built_pf0
  have hvl : p.vs.length ≤ 9223372036854775807 := by omega
  have hsl : p.ss.length ≤ 9223372036854775807 := by omega
  have htl : (t.length : Int) ≤ 9223372036854775807 := by have h1 := hR.1; have h2 := hR.2.1; unfold maxLen at h2; omega
  have d0 := (BK.nil w).alloc (pfC p (.slice s1 p.vs.length c1) (.slice s2 p.ss.length c2)) 26
  have SF := hid (fun v s => show (Try.prog.info? 26).map (·.size) = some (pfC p v s).toArray.size by rw [Try.sizeP, List.size_toArray, pfC_len ok])
  have LF := hid (fun v s => pfC_len ok v s)
  have OF := hid (fun a b c d e f => pfC_one p (.slice a b c) (.slice d e f) rfl rfl)
  have KC := hid (fun w1 (hb : Below w.heap.size w w1) => copyProof_any w1 p ok s1 s2 c1 c2 (hS.below hb (Nat.le_refl _)) (hT.below hb (Nat.le_refl _)) hv hm0)
  have KE := hid (fun w1 a b c d (h1 : Src w1 a c p.vs) h2 (h3 : SrcD w1 b d p.ss) => encode_any w1 p ok yp a b c d h1 h2 h3)
  have KW := hid (fun w1 => well_any w1 p ok yp s1 s2 c1 c2 hvl hsl)
  have eE : encE p = 120 := by unfold encE; rw [if_neg hw]
  have eL : encL p = [] := by unfold encL; rw [if_neg hw]
  rw [eE, eL] at KE
  rw [decide_eq_false hw] at KW
  clear eE eL
  have eV : decV t = pf0 := by unfold decV; rw [hm]; rfl
  have eD : decE t = 120 := by unfold decE; rw [hm]; rfl
  have KDm := hid (fun w1 (hb : Below w.heap.size w w1) => decode_any w1 t yt lp lc (hR.below hb (Nat.le_refl _)))
  unfold DecP at KDm
  rw [eV, eD] at KDm
  have SFm := hid (fun v s => show (Try.prog.info? 26).map (·.size) = some (pfC pf0 v s).toArray.size by rw [Try.sizeP, List.size_toArray, pfC_len pf0_ok])
  have LFm := hid (fun v s => pfC_len pf0_ok v s)
  have OFm := hid (fun a b c d e f => pfC_one pf0 (.slice a b c) (.slice d e f) rfl rfl)
  have KPm := hid (fun w1 a b c d (h1 : Src w1 a c pf0.vs) (h2 : SrcD w1 b d pf0.ss) => sameProof_self w1 pf0 pf0_ok a none b none c 0 d 0 h1 (Src.nil w1) h2 (SrcD.nil w1))
  clear eV eD
  have r0 := d0.row (.head _)
  generalize pfC p = PF at *
  clear hm
  go_enter Try.func3, Try.ntmps3
  go_wp2_with (first
    | refine wpList_load_row_w (by rfl) 26 _ (by rfl) _ (by rfl) 26 _ _ _ r0 Try.underlying26 rfl (SF.out _ _) ?_)
  refine (KC.out _ d0.1).mono ?_
  rintro e w1 ⟨a1, b1, a2, b2, rfl, hO1, hQ1, hb1⟩
  obtain ⟨x1, y1, e1, S1, n1⟩ := hO1.form
  cases e1
  obtain ⟨x2, y2, e2, S2, n2⟩ := hQ1.form
  cases e2
  have d1 := d0.call hb1
  go_wp2_with fail
  refine (KE.out _ _ _ _ _ S1 n1 S2).mono ?_
  rintro e w2 ⟨v2, rfl, hO2, hb2⟩
  obtain ⟨x3, y3, rfl, S3, n3⟩ := hO2.form
  have d2 := d1.call hb2
  have r0 := d2.row (.head _)
  go_wp2_with (first
    | refine wpList_load_row_w (by rfl) 26 _ (by rfl) _ (by rfl) 26 _ _ _ r0 Try.underlying26 rfl (SF.out _ _) ?_)
  refine (KW.out _).mono ?_
  rintro e w3 ⟨rfl, hb3⟩
  have d3 := d2.call hb3
  have S3 := S3.below hb3 (Nat.le_refl _)
  have d6 := d3
  clear r0
  go_wp2_with fail
  refine (KDm.out _ d6.1).mono ?_
  rintro e w7 ⟨a7, b7, a8, b8, rfl, hO7, hQ7, hb7⟩
  obtain ⟨x7, y7, e7, S7, n7⟩ := hO7.form
  cases e7
  obtain ⟨x8, y8, e8, S8, n8⟩ := hQ7.form
  cases e8
  have d7 := d6.call hb7
  clear hO7 hQ7
  go_wp2_with (first
    | (refine wpList_new AP.out LZ.out Try.sizeP rfl rfl rfl _ _ rfl rfl (pfC pf0 (.slice a7 pf0.vs.length b7) (.slice a8 pf0.ss.length b8)) rfl rfl (LFm.out _ _) (OFm.out _ _ _ _ _ _) ?_; refine Hid.out ?_))
  refine hid ?_
  have d8 := d7.alloc (pfC pf0 (.slice a7 pf0.vs.length b7) (.slice a8 pf0.ss.length b8)) 26
  have bl8 : Below w7.heap.size w7 (w7.alloc (.cells (pfC pf0 (.slice a7 pf0.vs.length b7) (.slice a8 pf0.ss.length b8)).toArray 26)) := (Below.refl _ _).alloc (Nat.le_refl _) _
  have S7 := S7.below bl8 (Nat.le_refl _)
  have S8 := S8.below bl8 (Nat.le_refl _)
  have r8 := d8.row (.head _)
  clear bl8
  generalize w7.alloc (.cells (pfC pf0 (.slice a7 pf0.vs.length b7) (.slice a8 pf0.ss.length b8)).toArray 26) = w8 at *
  generalize w7.heap.size = g7 at *
  go_wp2_with (first
    | refine wpList_load_row_w (by rfl) 26 _ (by rfl) _ (by rfl) 26 _ _ _ r8 Try.underlying26 rfl (SFm.out _ _) ?_
    | refine wpList_built (by rfl) 26 _ (by rfl) _ (by rfl) _ B0.out ?_)
  refine (KPm.out _ _ _ _ _ S7 S8).mono ?_
  rintro e w9 ⟨rfl, hb9⟩
  have d9 := d8.call hb9
  go_wp2
  go_ret
  exact ⟨rfl, d9.1⟩
set_option maxRecDepth 100000 in
set_option maxHeartbeats 4000000 in
theorem back_ny (w : World) (p : Pf) (ok : PfOk p) (yp : PfY p) (s1 s2 : Option Addr) (c1 c2 : Nat) (hS : Src w s1 c1 p.vs) (hT : SrcD w s2 c2 p.ss) (hv : p.vs.length ≤ 140737488355000) (hm0 : p.ss.length ≤ 4398046511104) (t : List Int) (yt : Bys t) (lp : Option Addr) (lc : Nat) (hR : Src w lp lc t) (hw : ¬ WellP p) (m : Pf) (hm : decP t = some m) :
    Calls Try.prog 3 #[.agg (pfC p (.slice s1 p.vs.length c1) (.slice s2 p.ss.length c2)).toArray, .slice lp t.length lc] w fun e w' => e = .returned (.bool true) ∧ Below w.heap.size w w' := by
  have AP := hid allocPf
  have LZ := hid (show (pfC pf0 (.slice none 0 0) (.slice none 0 0)).length = 35 from rfl)
  have B0 := hid built_pf0
  have hvl : p.vs.length ≤ 9223372036854775807 := by omega
  have hsl : p.ss.length ≤ 9223372036854775807 := by omega
  have htl : (t.length : Int) ≤ 9223372036854775807 := by have h1 := hR.1; have h2 := hR.2.1; unfold maxLen at h2; omega
  have d0 := (BK.nil w).alloc (pfC p (.slice s1 p.vs.length c1) (.slice s2 p.ss.length c2)) 26
  have SF := hid (fun v s => show (Try.prog.info? 26).map (·.size) = some (pfC p v s).toArray.size by rw [Try.sizeP, List.size_toArray, pfC_len ok])
  have LF := hid (fun v s => pfC_len ok v s)
  have OF := hid (fun a b c d e f => pfC_one p (.slice a b c) (.slice d e f) rfl rfl)
  have KC := hid (fun w1 (hb : Below w.heap.size w w1) => copyProof_any w1 p ok s1 s2 c1 c2 (hS.below hb (Nat.le_refl _)) (hT.below hb (Nat.le_refl _)) hv hm0)
  have KE := hid (fun w1 a b c d (h1 : Src w1 a c p.vs) h2 (h3 : SrcD w1 b d p.ss) => encode_any w1 p ok yp a b c d h1 h2 h3)
  have KW := hid (fun w1 => well_any w1 p ok yp s1 s2 c1 c2 hvl hsl)
  have eE : encE p = 120 := by unfold encE; rw [if_neg hw]
  have eL : encL p = [] := by unfold encL; rw [if_neg hw]
  rw [eE, eL] at KE
  rw [decide_eq_false hw] at KW
  clear eE eL
  obtain ⟨mok, my, mw, hme⟩ := dec_some yt hm
  have eV : decV t = m := by unfold decV; rw [hm]; rfl
  have eD : decE t = 0 := by unfold decE; rw [hm]; rfl
  have eE : encE m = 0 := by unfold encE; rw [if_pos mw]
  have eL : encL m = t := by unfold encL; rw [if_pos mw, hme]
  have KDm := hid (fun w1 (hb : Below w.heap.size w w1) => decode_any w1 t yt lp lc (hR.below hb (Nat.le_refl _)))
  unfold DecP at KDm
  rw [eV, eD] at KDm
  have SFm := hid (fun v s => show (Try.prog.info? 26).map (·.size) = some (pfC m v s).toArray.size by rw [Try.sizeP, List.size_toArray, pfC_len mok])
  have LFm := hid (fun v s => pfC_len mok v s)
  have OFm := hid (fun a b c d e f => pfC_one m (.slice a b c) (.slice d e f) rfl rfl)
  have KEm := hid (fun w1 a b c d (h1 : Src w1 a c m.vs) h2 (h3 : SrcD w1 b d m.ss) => encode_any w1 m mok my a b c d h1 h2 h3)
  rw [eE, eL] at KEm
  have mv := mw.len
  have ms := mw.num
  have mo := onesN_le m.bs
  have mb := mok.bs
  have KWm := hid (fun w1 a b c d => well_any w1 m mok my a b c d (by omega) (by omega))
  rw [decide_eq_true mw] at KWm
  have KSm := hid (fun w1 (hb : Below w.heap.size w w1) a c (h : Src w1 a c t) => same_self w1 t a lp c lc h (hR.below hb (Nat.le_refl _)))
  clear eV eD eE eL mv ms mo mb hme
  generalize pfC m = MF at *
  have r0 := d0.row (.head _)
  generalize pfC p = PF at *
  clear hm
  go_enter Try.func3, Try.ntmps3
  go_wp2_with (first
    | refine wpList_load_row_w (by rfl) 26 _ (by rfl) _ (by rfl) 26 _ _ _ r0 Try.underlying26 rfl (SF.out _ _) ?_)
  refine (KC.out _ d0.1).mono ?_
  rintro e w1 ⟨a1, b1, a2, b2, rfl, hO1, hQ1, hb1⟩
  obtain ⟨x1, y1, e1, S1, n1⟩ := hO1.form
  cases e1
  obtain ⟨x2, y2, e2, S2, n2⟩ := hQ1.form
  cases e2
  have d1 := d0.call hb1
  go_wp2_with fail
  refine (KE.out _ _ _ _ _ S1 n1 S2).mono ?_
  rintro e w2 ⟨v2, rfl, hO2, hb2⟩
  obtain ⟨x3, y3, rfl, S3, n3⟩ := hO2.form
  have d2 := d1.call hb2
  have r0 := d2.row (.head _)
  go_wp2_with (first
    | refine wpList_load_row_w (by rfl) 26 _ (by rfl) _ (by rfl) 26 _ _ _ r0 Try.underlying26 rfl (SF.out _ _) ?_)
  refine (KW.out _).mono ?_
  rintro e w3 ⟨rfl, hb3⟩
  have d3 := d2.call hb3
  have S3 := S3.below hb3 (Nat.le_refl _)
  have d6 := d3
  clear r0
  go_wp2_with fail
  refine (KDm.out _ d6.1).mono ?_
  rintro e w7 ⟨a7, b7, a8, b8, rfl, hO7, hQ7, hb7⟩
  obtain ⟨x7, y7, e7, S7, n7⟩ := hO7.form
  cases e7
  obtain ⟨x8, y8, e8, S8, n8⟩ := hQ7.form
  cases e8
  have d7 := d6.call hb7
  clear hO7 hQ7
  go_wp2_with (first
    | (refine wpList_new AP.out LZ.out Try.sizeP rfl rfl rfl _ _ rfl rfl (MF (.slice a7 m.vs.length b7) (.slice a8 m.ss.length b8)) rfl rfl (LFm.out _ _) (OFm.out _ _ _ _ _ _) ?_; refine Hid.out ?_))
  refine hid ?_
  have d8 := d7.alloc (MF (.slice a7 m.vs.length b7) (.slice a8 m.ss.length b8)) 26
  have bl8 : Below w7.heap.size w7 (w7.alloc (.cells (MF (.slice a7 m.vs.length b7) (.slice a8 m.ss.length b8)).toArray 26)) := (Below.refl _ _).alloc (Nat.le_refl _) _
  have S7 := S7.below bl8 (Nat.le_refl _)
  have S8 := S8.below bl8 (Nat.le_refl _)
  have r8 := d8.row (.head _)
  clear bl8
  generalize w7.alloc (.cells (MF (.slice a7 m.vs.length b7) (.slice a8 m.ss.length b8)).toArray 26) = w8 at *
  generalize w7.heap.size = g7 at *
  go_wp2_with (first
    | refine wpList_load_row_w (by rfl) 26 _ (by rfl) _ (by rfl) 26 _ _ _ r8 Try.underlying26 rfl (SFm.out _ _) ?_)
  refine (KEm.out _ _ _ _ _ S7 n7 S8).mono ?_
  rintro e w9 ⟨v9, rfl, hO9, hb9⟩
  obtain ⟨x9, y9, rfl, S9, n9⟩ := hO9.form
  have d9 := d8.call hb9
  have r8 := d9.row (.head _)
  go_wp2_with (first
    | refine wpList_load_row_w (by rfl) 26 _ (by rfl) _ (by rfl) 26 _ _ _ r8 Try.underlying26 rfl (SFm.out _ _) ?_)
  refine (KWm.out _ _ _ _ _).mono ?_
  rintro e wA ⟨rfl, hbA⟩
  have dA := d9.call hbA
  have SA := S9.below hbA (Nat.le_refl _)
  go_wp2_with fail
  refine (KSm.out _ dA.1 _ _ SA).mono ?_
  rintro e wB ⟨rfl, hbB⟩
  have dB := dA.call hbB
  go_wp2
  go_ret
  exact ⟨rfl, dB.1⟩
theorem proofBack_any (w : World) (p : Pf) (ok : PfOk p) (yp : PfY p) (s1 s2 : Option Addr) (c1 c2 : Nat) (hS : Src w s1 c1 p.vs) (hT : SrcD w s2 c2 p.ss) (hv : p.vs.length ≤ 140737488355000) (hm0 : p.ss.length ≤ 4398046511104) (t : List Int) (yt : Bys t) (lp : Option Addr) (lc : Nat) (hR : Src w lp lc t) :
    Calls Try.prog 3 #[.agg (pfC p (.slice s1 p.vs.length c1) (.slice s2 p.ss.length c2)).toArray, .slice lp t.length lc] w fun e w' => e = .returned (.bool true) ∧ Below w.heap.size w w' := by
  by_cases hw : WellP p
  · cases hm : decP t with
    | none => exact back_yn w p ok yp s1 s2 c1 c2 hS hT hv hm0 t yt lp lc hR hw hm
    | some m => exact back_yy w p ok yp s1 s2 c1 c2 hS hT hv hm0 t yt lp lc hR hw m hm
  · cases hm : decP t with
    | none => exact back_nn w p ok yp s1 s2 c1 c2 hS hT hv hm0 t yt lp lc hR hw hm
    | some m => exact back_ny w p ok yp s1 s2 c1 c2 hS hT hv hm0 t yt lp lc hR hw m hm
end Go.Proofs.Ytlhmhpkgdcdjkaa
