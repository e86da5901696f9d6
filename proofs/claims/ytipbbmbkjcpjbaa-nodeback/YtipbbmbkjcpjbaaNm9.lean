import Derived.Test.YtipbbmbkjcpjbaaNlz9
namespace Go.Proofs.Ytipbbmbkjcpjbaa
set_option linter.unusedVariables false
set_option linter.unusedSimpArgs false
open Go.RowKit
attribute [local go_sem ↓] Go.wp_at_zero Go.wp_at_succ

set_option maxRecDepth 100000 in
set_option maxHeartbeats 4000000 in
theorem sameNode_self (w : World) (n : Nd) (ok : NdOk n) (s1 s2 : Option Addr) (c1 c2 : Nat) (h1 : Src w s1 c1 n.vs) (h2 : Src w s2 c2 n.vs) :
    Calls Try.prog 7 #[.agg (ndC n (.slice s1 n.vs.length c1)).toArray, .agg (ndC n (.slice s2 n.vs.length c2)).toArray] w fun e w' => e = .returned (.bool true) ∧ Below w.heap.size w w' := by
  have d0 := ((BK.nil w).alloc (ndC n (.slice s1 n.vs.length c1)) 27).alloc (ndC n (.slice s2 n.vs.length c2)) 27
  rw [show (w.alloc (.cells (ndC n (.slice s1 n.vs.length c1)).toArray 27)).heap.size = w.heap.size + 1 by simp] at d0
  have SL := hid (show (Try.prog.info? 23).map (·.size) = some (ints .u8 n.ls).length by rw [Try.sizeD, ints_len, ok.ls])
  have SR := hid (show (Try.prog.info? 23).map (·.size) = some (ints .u8 n.rs).length by rw [Try.sizeD, ints_len, ok.rs])
  have SK := hid (show (Try.prog.info? 24).map (·.size) = some (ints .u8 n.k).length by rw [Try.sizeKy, ints_len, ok.k])
  have qL := eqDg_self n.ls ok.ls
  have qR := eqDg_self n.rs ok.rs
  have qK := eqKy_self n.k ok.k
  have gD := Try.guardDg
  have gK := Try.guardK
  have KS := hid (fun w1 (h1 : Src w1 s1 c1 n.vs) (h2 : Src w1 s2 c2 n.vs) => same_self w1 n.vs s1 s2 c1 c2 h1 h2)
  have x0 := d0.cell (.tail _ (.head _)) (v := .int .i64 n.kd) (j := 0) rfl
  have x1 := d0.cell (.tail _ (.head _)) (v := .int .i64 n.l) (j := 1) rfl
  have x2 := d0.cell (.tail _ (.head _)) (v := .int .i64 n.r) (j := 2) rfl
  have x3 := d0.cell (.tail _ (.head _)) (v := .int .i64 n.lc) (j := 3) rfl
  have x4 := d0.cell (.tail _ (.head _)) (v := .int .i64 n.rc) (j := 4) rfl
  have x101 := d0.cell (.tail _ (.head _)) (ndC_v ok (.slice s1 n.vs.length c1))
  have xls := d0.rng (.tail _ (.head _)) (ndC_ls ok (.slice s1 n.vs.length c1))
  have xrs := d0.rng (.tail _ (.head _)) (ndC_rs ok (.slice s1 n.vs.length c1))
  have xk := d0.rng (.tail _ (.head _)) (ndC_k ok (.slice s1 n.vs.length c1))
  have y0 := d0.cell (.head _) (v := .int .i64 n.kd) (j := 0) rfl
  have y1 := d0.cell (.head _) (v := .int .i64 n.l) (j := 1) rfl
  have y2 := d0.cell (.head _) (v := .int .i64 n.r) (j := 2) rfl
  have y3 := d0.cell (.head _) (v := .int .i64 n.lc) (j := 3) rfl
  have y4 := d0.cell (.head _) (v := .int .i64 n.rc) (j := 4) rfl
  have y101 := d0.cell (.head _) (ndC_v ok (.slice s2 n.vs.length c2))
  have yls := d0.rng (.head _) (ndC_ls ok (.slice s2 n.vs.length c2))
  have yrs := d0.rng (.head _) (ndC_rs ok (.slice s2 n.vs.length c2))
  have yk := d0.rng (.head _) (ndC_k ok (.slice s2 n.vs.length c2))
  have S1 := hid (h1.below d0.1 (Nat.le_refl _))
  have S2 := hid (h2.below d0.1 (Nat.le_refl _))
  generalize ndC n (.slice s1 n.vs.length c1) = N1 at *
  generalize ndC n (.slice s2 n.vs.length c2) = N2 at *
  generalize ints .u8 n.ls = IL at *
  generalize ints .u8 n.rs = IR at *
  generalize ints .u8 n.k = IK at *
  generalize n.kd = vk at *
  generalize n.l = vl at *
  generalize n.r = vr at *
  generalize n.lc = vlc at *
  generalize n.rc = vrc at *
  go_enter Try.func7, Try.ntmps7
  go_wp2_with (first
    | refine wpList_load_mid_w (by rfl) 23 _ (by rfl) w.heap.size 5 (by rfl) _ _ xls Try.underlying23 rfl SL.out ?_
    | refine wpList_load_mid_w (by rfl) 23 _ (by rfl) w.heap.size 37 (by rfl) _ _ xrs Try.underlying23 rfl SR.out ?_
    | refine wpList_load_mid_w (by rfl) 24 _ (by rfl) w.heap.size 69 (by rfl) _ _ xk Try.underlying24 rfl SK.out ?_
    | refine wpList_load_mid_w (by rfl) 23 _ (by rfl) (w.heap.size + 1) 5 (by rfl) _ _ yls Try.underlying23 rfl SL.out ?_
    | refine wpList_load_mid_w (by rfl) 23 _ (by rfl) (w.heap.size + 1) 37 (by rfl) _ _ yrs Try.underlying23 rfl SR.out ?_
    | refine wpList_load_mid_w (by rfl) 24 _ (by rfl) (w.heap.size + 1) 69 (by rfl) _ _ yk Try.underlying24 rfl SK.out ?_)
  refine (KS.out _ S1.out S2.out).mono ?_
  rintro e w1 ⟨rfl, hb1⟩
  have d1 := d0.call hb1
  go_wp2
  go_ret
  exact ⟨rfl, d1.1⟩
theorem four_bys (x : Int) : Bys (four x) := fun y hy => by
  simp only [four, List.mem_cons, List.not_mem_nil, or_false] at hy
  rcases hy with rfl | rfl | rfl | rfl <;> omega
theorem Bys.app {a b : List Int} (ha : Bys a) (hb : Bys b) : Bys (a ++ b) := fun x hx => (List.mem_append.1 hx).elim (ha x) (hb x)
structure NdY (n : Nd) : Prop where
  ls : Bys n.ls
  rs : Bys n.rs
  k : Bys n.k
  vs : Bys n.vs
theorem loadP_bys {n : Nd} (h : NdY n) : Bys (loadP n) := by
  unfold loadP
  split
  · exact h.k.app h.vs
  · exact (four_bys _).app ((four_bys _).app ((four_bys _).app ((four_bys _).app (h.ls.app h.rs))))
set_option maxRecDepth 100000 in
set_option maxHeartbeats 4000000 in
theorem back_yn (w : World) (n : Nd) (ok : NdOk n) (yn : NdY n) (sp : Option Addr) (cap : Nat) (hS : Src w sp cap n.vs) (hnil : sp = none → cap = 0) (kd : Int) (t : List Int) (yt : Bys t) (lp : Option Addr) (lc : Nat) (hT : Src w lp lc t) (hr : RightP n) (hm : decN kd t = none) :
    Calls Try.prog 3 #[.agg (ndC n (.slice sp n.vs.length cap)).toArray, .int .i64 kd, .slice lp t.length lc] w fun e w' => e = .returned (.bool true) ∧ Below w.heap.size w w' := by
  have hn : n.vs.length ≤ 9223372036854775807 := by have h1 := hS.1; have h2 := hS.2.1; unfold maxLen at h2; omega
  have hz2 : (t.length : Int) ≤ 9223372036854775807 := by have h1 := hT.1; have h2 := hT.2.1; unfold maxLen at h2; omega
  have AN := hid allocNd
  have L0 := hid (show (ndC nd0 (.slice none 0 0)).length = 102 from rfl)
  have B0 := hid built_nd0
  have d0 := (BK.nil w).alloc (ndC n (.slice sp n.vs.length cap)) 27
  have SN := hid (show (Try.prog.info? 27).map (·.size) = some (ndC n (.slice sp n.vs.length cap)).toArray.size by rw [Try.sizeNd, List.size_toArray, ndC_len ok])
  have K0 := hid (show (ndC n (.slice sp n.vs.length cap))[0]? = some (.int .i64 n.kd) from rfl)
  have KE := hid (fun w1 (hb : Below w.heap.size w w1) => encode_any w1 n ok sp cap (hS.below hb (Nat.le_refl _)) hnil)
  have KR := hid (fun w1 => right_any w1 n ok sp cap hn)
  have eE : encE n = 0 := by unfold encE; rw [if_pos hr]
  have eL : encL n = loadP n := by unfold encL; rw [if_pos hr]
  rw [eE, eL] at KE
  rw [decide_eq_true hr] at KR
  have hd := dec_load ok hr
  have eV : decV n.kd (loadP n) = n := by unfold decV; rw [hd]; rfl
  have eD : decE n.kd (loadP n) = 0 := by unfold decE; rw [hd]; rfl
  have KD := hid (fun w1 s c (h : Src w1 s c (loadP n)) => decode_any w1 n.kd (loadP n) (loadP_bys yn) s c h)
  unfold DecP at KD
  rw [eV, eD] at KD
  have hlen := load_len ok hr
  have KSN := hid (fun w1 (hb : Below w.heap.size w w1) s c (h : Src w1 s c n.vs) => sameNode_self w1 n ok s sp c cap h (hS.below hb (Nat.le_refl _)))
  have LM := hid (fun v => ndC_len ok v)
  have OM := hid (fun s m c => ndC_one n (.slice s m c) rfl)
  have iL : ((loadP n).length : Int) ≤ 160 := by omega
  generalize hX : loadP n = X at *
  clear hX hd eV eD eE eL
  have eV : decV kd t = nd0 := by unfold decV; rw [hm]; rfl
  have eD : decE kd t = 90 := by unfold decE; rw [hm]; rfl
  have KDm := hid (fun w1 (hb : Below w.heap.size w w1) => decode_any w1 kd t yt lp lc (hT.below hb (Nat.le_refl _)))
  unfold DecP at KDm
  rw [eV, eD] at KDm
  have KZ := hid (fun w1 s c (h : Src w1 s c nd0.vs) => sameNode_self w1 nd0 nd0_ok s none c 0 h (Src.nil w1))
  have LMm := hid (fun v => ndC_len nd0_ok v)
  have OMm := hid (fun s n c => ndC_one nd0 (.slice s n c) rfl)
  clear eV eD hm
  generalize ndC n = NF at *
  have r0 := d0.row (.head _)
  go_enter Try.func3, Try.ntmps3
  go_wp2_with (first
    | refine wpList_load_row_w (by rfl) 27 _ (by rfl) _ (by rfl) 27 _ _ _ r0 Try.underlying27 rfl SN.out ?_)
  refine (KE.out _ d0.1).mono ?_
  rintro e w1 ⟨v1, rfl, hO1, hb1⟩
  obtain ⟨s1, c1, rfl, S1, n1⟩ := hO1.form
  have d1 := d0.call hb1
  have r0 := d1.row (.head _)
  go_wp2_with (first
    | refine wpList_load_row_w (by rfl) 27 _ (by rfl) _ (by rfl) 27 _ _ _ r0 Try.underlying27 rfl SN.out ?_)
  refine (KR.out _).mono ?_
  rintro e w2 ⟨rfl, hb2⟩
  have d2 := d1.call hb2
  have S1 := S1.below hb2 (Nat.le_refl _)
  have c0 := d2.cell (.head _) K0.out
  go_wp2_with fail
  refine (KD.out _ _ _ S1).mono ?_
  rintro e w3 ⟨s3, c3, rfl, hO3, hb3⟩
  obtain ⟨s3', c3', e3, S3, n3⟩ := hO3.form
  cases e3
  have d3 := d2.call hb3
  have S1 := S1.below hb3 (Nat.le_refl _)
  go_wp2_with (first
    | (refine wpList_new AN.out L0.out Try.sizeNd rfl rfl rfl _ _ rfl rfl (NF (.slice s3 n.vs.length c3)) rfl rfl (LM.out _) (OM.out _ _ _) ?_; refine Hid.out ?_))
  refine hid ?_
  have d4 := d3.alloc (NF (.slice s3 n.vs.length c3)) 27
  have bl4 : Below w3.heap.size w3 (w3.alloc (.cells (NF (.slice s3 n.vs.length c3)).toArray 27)) := (Below.refl _ _).alloc (Nat.le_refl _) _
  have S1 := S1.below bl4 (Nat.le_refl _)
  have S3 := S3.below bl4 (Nat.le_refl _)
  have r4 := d4.row (.head _)
  have r0 := d4.row (.tail _ (.head _))
  have SM := hid (show (Try.prog.info? 27).map (·.size) = some (NF (.slice s3 n.vs.length c3)).toArray.size by rw [Try.sizeNd, List.size_toArray, LM.out])
  generalize w3.alloc (.cells (NF (.slice s3 n.vs.length c3)).toArray 27) = w4 at *
  generalize w3.heap.size = g3 at *
  clear bl4 hO3
  go_wp2_with (first
    | refine wpList_load_row_w (by rfl) 27 _ (by rfl) _ (by rfl) 27 _ _ _ r4 Try.underlying27 rfl SM.out ?_
    | refine wpList_load_row_w (by rfl) 27 _ (by rfl) _ (by rfl) 27 _ _ _ r0 Try.underlying27 rfl SN.out ?_)
  refine (KSN.out _ d4.1 _ _ S3).mono ?_
  rintro e w5 ⟨rfl, hb5⟩
  have d5 := d4.call hb5
  go_wp2_with fail
  refine (KDm.out _ d5.1).mono ?_
  rintro e w6 ⟨s6, c6, rfl, hO6, hb6⟩
  obtain ⟨s6', c6', e6, S6, n6⟩ := hO6.form
  cases e6
  have d6 := d5.call hb6
  go_wp2_with (first
    | (refine wpList_new AN.out L0.out Try.sizeNd rfl rfl rfl _ _ rfl rfl (ndC nd0 (.slice s6 nd0.vs.length c6)) rfl rfl (LMm.out _) (OMm.out _ _ _) ?_; refine Hid.out ?_))
  refine hid ?_
  have d7 := d6.alloc (ndC nd0 (.slice s6 nd0.vs.length c6)) 27
  have bl7 : Below w6.heap.size w6 (w6.alloc (.cells (ndC nd0 (.slice s6 nd0.vs.length c6)).toArray 27)) := (Below.refl _ _).alloc (Nat.le_refl _) _
  have S6 := S6.below bl7 (Nat.le_refl _)
  have r7 := d7.row (.head _)
  have SM7 := hid (show (Try.prog.info? 27).map (·.size) = some (ndC nd0 (.slice s6 nd0.vs.length c6)).toArray.size by rw [Try.sizeNd, List.size_toArray, LMm.out])
  clear bl7 hO6
  generalize w6.alloc (.cells (ndC nd0 (.slice s6 nd0.vs.length c6)).toArray 27) = w7 at *
  generalize w6.heap.size = g6 at *
  go_wp2_with (first
    | refine wpList_load_row_w (by rfl) 27 _ (by rfl) _ (by rfl) 27 _ _ _ r7 Try.underlying27 rfl SM7.out ?_
    | refine wpList_built (by rfl) 27 _ rfl _ rfl _ B0.out ?_)
  refine (KZ.out _ _ _ S6).mono ?_
  rintro e w8 ⟨rfl, hb8⟩
  have d8 := d7.call hb8
  go_wp2
  go_ret
  exact ⟨rfl, d8.1⟩
set_option maxRecDepth 100000 in
set_option maxHeartbeats 4000000 in
theorem back_yy (w : World) (n : Nd) (ok : NdOk n) (yn : NdY n) (sp : Option Addr) (cap : Nat) (hS : Src w sp cap n.vs) (hnil : sp = none → cap = 0) (kd : Int) (t : List Int) (yt : Bys t) (lp : Option Addr) (lc : Nat) (hT : Src w lp lc t) (hr : RightP n) (m : Nd) (hm : decN kd t = some m) :
    Calls Try.prog 3 #[.agg (ndC n (.slice sp n.vs.length cap)).toArray, .int .i64 kd, .slice lp t.length lc] w fun e w' => e = .returned (.bool true) ∧ Below w.heap.size w w' := by
  have hn : n.vs.length ≤ 9223372036854775807 := by have h1 := hS.1; have h2 := hS.2.1; unfold maxLen at h2; omega
  have hz2 : (t.length : Int) ≤ 9223372036854775807 := by have h1 := hT.1; have h2 := hT.2.1; unfold maxLen at h2; omega
  have AN := hid allocNd
  have L0 := hid (show (ndC nd0 (.slice none 0 0)).length = 102 from rfl)
  have B0 := hid built_nd0
  have d0 := (BK.nil w).alloc (ndC n (.slice sp n.vs.length cap)) 27
  have SN := hid (show (Try.prog.info? 27).map (·.size) = some (ndC n (.slice sp n.vs.length cap)).toArray.size by rw [Try.sizeNd, List.size_toArray, ndC_len ok])
  have K0 := hid (show (ndC n (.slice sp n.vs.length cap))[0]? = some (.int .i64 n.kd) from rfl)
  have KE := hid (fun w1 (hb : Below w.heap.size w w1) => encode_any w1 n ok sp cap (hS.below hb (Nat.le_refl _)) hnil)
  have KR := hid (fun w1 => right_any w1 n ok sp cap hn)
  have eE : encE n = 0 := by unfold encE; rw [if_pos hr]
  have eL : encL n = loadP n := by unfold encL; rw [if_pos hr]
  rw [eE, eL] at KE
  rw [decide_eq_true hr] at KR
  have hd := dec_load ok hr
  have eV : decV n.kd (loadP n) = n := by unfold decV; rw [hd]; rfl
  have eD : decE n.kd (loadP n) = 0 := by unfold decE; rw [hd]; rfl
  have KD := hid (fun w1 s c (h : Src w1 s c (loadP n)) => decode_any w1 n.kd (loadP n) (loadP_bys yn) s c h)
  unfold DecP at KD
  rw [eV, eD] at KD
  have hlen := load_len ok hr
  have KSN := hid (fun w1 (hb : Below w.heap.size w w1) s c (h : Src w1 s c n.vs) => sameNode_self w1 n ok s sp c cap h (hS.below hb (Nat.le_refl _)))
  have LM := hid (fun v => ndC_len ok v)
  have OM := hid (fun s m c => ndC_one n (.slice s m c) rfl)
  have iL : ((loadP n).length : Int) ≤ 160 := by omega
  generalize hX : loadP n = X at *
  clear hX hd eV eD eE eL
  have hok := decN_ok hm
  have hrt := decN_right hm
  have eV : decV kd t = m := by unfold decV; rw [hm]; rfl
  have eD : decE kd t = 0 := by unfold decE; rw [hm]; rfl
  have KDm := hid (fun w1 (hb : Below w.heap.size w w1) => decode_any w1 kd t yt lp lc (hT.below hb (Nat.le_refl _)))
  unfold DecP at KDm
  rw [eV, eD] at KDm
  have eE2 : encE m = 0 := by unfold encE; rw [if_pos hrt.1]
  have eL2 : encL m = t := by unfold encL; rw [if_pos hrt.1]; exact load_dec yt hm
  have KEm := hid (fun w1 s c (h : Src w1 s c m.vs) (hs : s = none → c = 0) => encode_any w1 m hok s c h hs)
  rw [eE2, eL2] at KEm
  have KRm := hid (fun w1 s c (h : Src w1 s c m.vs) => right_any w1 m hok s c (by have h1 := h.1; have h2 := h.2.1; unfold maxLen at h2; omega))
  rw [decide_eq_true hrt.1] at KRm
  have KSB := hid (fun w1 s c (h : Src w1 s c t) (hb : Below w.heap.size w w1) => same_self w1 t s lp c lc h (hT.below hb (Nat.le_refl _)))
  have LMm := hid (fun v => ndC_len hok v)
  have OMm := hid (fun s n c => ndC_one m (.slice s n c) rfl)
  have hk2 := hrt.2
  have Kk := hid (fun v => show (ndC m v)[0]? = some (.int .i64 kd) by rw [← hk2]; rfl)
  clear eV eD eE2 eL2 hrt hk2 hm
  generalize ndC n = NF at *
  have r0 := d0.row (.head _)
  go_enter Try.func3, Try.ntmps3
  go_wp2_with (first
    | refine wpList_load_row_w (by rfl) 27 _ (by rfl) _ (by rfl) 27 _ _ _ r0 Try.underlying27 rfl SN.out ?_)
  refine (KE.out _ d0.1).mono ?_
  rintro e w1 ⟨v1, rfl, hO1, hb1⟩
  obtain ⟨s1, c1, rfl, S1, n1⟩ := hO1.form
  have d1 := d0.call hb1
  have r0 := d1.row (.head _)
  go_wp2_with (first
    | refine wpList_load_row_w (by rfl) 27 _ (by rfl) _ (by rfl) 27 _ _ _ r0 Try.underlying27 rfl SN.out ?_)
  refine (KR.out _).mono ?_
  rintro e w2 ⟨rfl, hb2⟩
  have d2 := d1.call hb2
  have S1 := S1.below hb2 (Nat.le_refl _)
  have c0 := d2.cell (.head _) K0.out
  go_wp2_with fail
  refine (KD.out _ _ _ S1).mono ?_
  rintro e w3 ⟨s3, c3, rfl, hO3, hb3⟩
  obtain ⟨s3', c3', e3, S3, n3⟩ := hO3.form
  cases e3
  have d3 := d2.call hb3
  have S1 := S1.below hb3 (Nat.le_refl _)
  go_wp2_with (first
    | (refine wpList_new AN.out L0.out Try.sizeNd rfl rfl rfl _ _ rfl rfl (NF (.slice s3 n.vs.length c3)) rfl rfl (LM.out _) (OM.out _ _ _) ?_; refine Hid.out ?_))
  refine hid ?_
  have d4 := d3.alloc (NF (.slice s3 n.vs.length c3)) 27
  have bl4 : Below w3.heap.size w3 (w3.alloc (.cells (NF (.slice s3 n.vs.length c3)).toArray 27)) := (Below.refl _ _).alloc (Nat.le_refl _) _
  have S1 := S1.below bl4 (Nat.le_refl _)
  have S3 := S3.below bl4 (Nat.le_refl _)
  have r4 := d4.row (.head _)
  have r0 := d4.row (.tail _ (.head _))
  have SM := hid (show (Try.prog.info? 27).map (·.size) = some (NF (.slice s3 n.vs.length c3)).toArray.size by rw [Try.sizeNd, List.size_toArray, LM.out])
  generalize w3.alloc (.cells (NF (.slice s3 n.vs.length c3)).toArray 27) = w4 at *
  generalize w3.heap.size = g3 at *
  clear bl4 hO3
  go_wp2_with (first
    | refine wpList_load_row_w (by rfl) 27 _ (by rfl) _ (by rfl) 27 _ _ _ r4 Try.underlying27 rfl SM.out ?_
    | refine wpList_load_row_w (by rfl) 27 _ (by rfl) _ (by rfl) 27 _ _ _ r0 Try.underlying27 rfl SN.out ?_)
  refine (KSN.out _ d4.1 _ _ S3).mono ?_
  rintro e w5 ⟨rfl, hb5⟩
  have d5 := d4.call hb5
  go_wp2_with fail
  refine (KDm.out _ d5.1).mono ?_
  rintro e w6 ⟨s6, c6, rfl, hO6, hb6⟩
  obtain ⟨s6', c6', e6, S6, n6⟩ := hO6.form
  cases e6
  have d6 := d5.call hb6
  go_wp2_with (first
    | (refine wpList_new AN.out L0.out Try.sizeNd rfl rfl rfl _ _ rfl rfl (ndC m (.slice s6 m.vs.length c6)) rfl rfl (LMm.out _) (OMm.out _ _ _) ?_; refine Hid.out ?_))
  refine hid ?_
  have d7 := d6.alloc (ndC m (.slice s6 m.vs.length c6)) 27
  have bl7 : Below w6.heap.size w6 (w6.alloc (.cells (ndC m (.slice s6 m.vs.length c6)).toArray 27)) := (Below.refl _ _).alloc (Nat.le_refl _) _
  have S6 := S6.below bl7 (Nat.le_refl _)
  have r7 := d7.row (.head _)
  have SM7 := hid (show (Try.prog.info? 27).map (·.size) = some (ndC m (.slice s6 m.vs.length c6)).toArray.size by rw [Try.sizeNd, List.size_toArray, LMm.out])
  clear bl7 hO6
  have Kk := hid (Kk.out (.slice s6 m.vs.length c6))
  generalize hMC : (ndC m (.slice s6 m.vs.length c6)) = MC at *
  have HMC := hid hMC
  clear hMC
  generalize w6.alloc (.cells MC.toArray 27) = w7 at *
  generalize w6.heap.size = g6 at *
  rw [← HMC.out] at r7 SM7
  go_wp2_with (first
    | refine wpList_load_row_w (by rfl) 27 _ (by rfl) _ (by rfl) 27 _ _ _ r7 Try.underlying27 rfl SM7.out ?_)
  refine (KEm.out _ _ _ S6 n6).mono ?_
  rintro e w8 ⟨v8, rfl, hO8, hb8⟩
  obtain ⟨s8, c8, rfl, S8, n8⟩ := hO8.form
  have d8 := d7.call hb8
  have r8 := d8.row (.head _)
  rw [← HMC.out] at r8
  have S6 := S6.below hb8 (Nat.le_refl _)
  go_wp2_with (first
    | refine wpList_load_row_w (by rfl) 27 _ (by rfl) _ (by rfl) 27 _ _ _ r8 Try.underlying27 rfl SM7.out ?_)
  refine (KRm.out _ _ _ S6).mono ?_
  rintro e w9 ⟨rfl, hb9⟩
  have d9 := d8.call hb9
  have k9 := d9.cell (.head _) Kk.out
  have S8 := S8.below hb9 (Nat.le_refl _)
  go_wp2_with fail
  refine (KSB.out _ _ _ S8 d9.1).mono ?_
  rintro e wz ⟨rfl, hbz⟩
  have dz := d9.call hbz
  go_wp2
  go_ret
  exact ⟨rfl, dz.1⟩
set_option maxRecDepth 100000 in
set_option maxHeartbeats 4000000 in
theorem back_nn (w : World) (n : Nd) (ok : NdOk n) (yn : NdY n) (sp : Option Addr) (cap : Nat) (hS : Src w sp cap n.vs) (hnil : sp = none → cap = 0) (kd : Int) (t : List Int) (yt : Bys t) (lp : Option Addr) (lc : Nat) (hT : Src w lp lc t) (hr : ¬ RightP n) (hm : decN kd t = none) :
    Calls Try.prog 3 #[.agg (ndC n (.slice sp n.vs.length cap)).toArray, .int .i64 kd, .slice lp t.length lc] w fun e w' => e = .returned (.bool true) ∧ Below w.heap.size w w' := by
  have hn : n.vs.length ≤ 9223372036854775807 := by have h1 := hS.1; have h2 := hS.2.1; unfold maxLen at h2; omega
  have hz2 : (t.length : Int) ≤ 9223372036854775807 := by have h1 := hT.1; have h2 := hT.2.1; unfold maxLen at h2; omega
  have AN := hid allocNd
  have L0 := hid (show (ndC nd0 (.slice none 0 0)).length = 102 from rfl)
  have B0 := hid built_nd0
  have d0 := (BK.nil w).alloc (ndC n (.slice sp n.vs.length cap)) 27
  have SN := hid (show (Try.prog.info? 27).map (·.size) = some (ndC n (.slice sp n.vs.length cap)).toArray.size by rw [Try.sizeNd, List.size_toArray, ndC_len ok])
  have K0 := hid (show (ndC n (.slice sp n.vs.length cap))[0]? = some (.int .i64 n.kd) from rfl)
  have KE := hid (fun w1 (hb : Below w.heap.size w w1) => encode_any w1 n ok sp cap (hS.below hb (Nat.le_refl _)) hnil)
  have KR := hid (fun w1 => right_any w1 n ok sp cap hn)
  have eE : encE n = 90 := by unfold encE; rw [if_neg hr]
  have eL : encL n = [] := by unfold encL; rw [if_neg hr]
  rw [eE, eL] at KE
  rw [decide_eq_false hr] at KR
  clear eE eL
  have eV : decV kd t = nd0 := by unfold decV; rw [hm]; rfl
  have eD : decE kd t = 90 := by unfold decE; rw [hm]; rfl
  have KDm := hid (fun w1 (hb : Below w.heap.size w w1) => decode_any w1 kd t yt lp lc (hT.below hb (Nat.le_refl _)))
  unfold DecP at KDm
  rw [eV, eD] at KDm
  have KZ := hid (fun w1 s c (h : Src w1 s c nd0.vs) => sameNode_self w1 nd0 nd0_ok s none c 0 h (Src.nil w1))
  have LMm := hid (fun v => ndC_len nd0_ok v)
  have OMm := hid (fun s n c => ndC_one nd0 (.slice s n c) rfl)
  clear eV eD hm
  generalize ndC n = NF at *
  have r0 := d0.row (.head _)
  go_enter Try.func3, Try.ntmps3
  go_wp2_with (first
    | refine wpList_load_row_w (by rfl) 27 _ (by rfl) _ (by rfl) 27 _ _ _ r0 Try.underlying27 rfl SN.out ?_)
  refine (KE.out _ d0.1).mono ?_
  rintro e w1 ⟨v1, rfl, hO1, hb1⟩
  obtain ⟨s1, c1, rfl, S1, n1⟩ := hO1.form
  have d1 := d0.call hb1
  have r0 := d1.row (.head _)
  go_wp2_with (first
    | refine wpList_load_row_w (by rfl) 27 _ (by rfl) _ (by rfl) 27 _ _ _ r0 Try.underlying27 rfl SN.out ?_)
  refine (KR.out _).mono ?_
  rintro e w2 ⟨rfl, hb2⟩
  have d2 := d1.call hb2
  have S1 := S1.below hb2 (Nat.le_refl _)
  have d5 := d2
  go_wp2_with fail
  refine (KDm.out _ d5.1).mono ?_
  rintro e w6 ⟨s6, c6, rfl, hO6, hb6⟩
  obtain ⟨s6', c6', e6, S6, n6⟩ := hO6.form
  cases e6
  have d6 := d5.call hb6
  go_wp2_with (first
    | (refine wpList_new AN.out L0.out Try.sizeNd rfl rfl rfl _ _ rfl rfl (ndC nd0 (.slice s6 nd0.vs.length c6)) rfl rfl (LMm.out _) (OMm.out _ _ _) ?_; refine Hid.out ?_))
  refine hid ?_
  have d7 := d6.alloc (ndC nd0 (.slice s6 nd0.vs.length c6)) 27
  have bl7 : Below w6.heap.size w6 (w6.alloc (.cells (ndC nd0 (.slice s6 nd0.vs.length c6)).toArray 27)) := (Below.refl _ _).alloc (Nat.le_refl _) _
  have S6 := S6.below bl7 (Nat.le_refl _)
  have r7 := d7.row (.head _)
  have SM7 := hid (show (Try.prog.info? 27).map (·.size) = some (ndC nd0 (.slice s6 nd0.vs.length c6)).toArray.size by rw [Try.sizeNd, List.size_toArray, LMm.out])
  clear bl7 hO6
  generalize w6.alloc (.cells (ndC nd0 (.slice s6 nd0.vs.length c6)).toArray 27) = w7 at *
  generalize w6.heap.size = g6 at *
  go_wp2_with (first
    | refine wpList_load_row_w (by rfl) 27 _ (by rfl) _ (by rfl) 27 _ _ _ r7 Try.underlying27 rfl SM7.out ?_
    | refine wpList_built (by rfl) 27 _ rfl _ rfl _ B0.out ?_)
  refine (KZ.out _ _ _ S6).mono ?_
  rintro e w8 ⟨rfl, hb8⟩
  have d8 := d7.call hb8
  go_wp2
  go_ret
  exact ⟨rfl, d8.1⟩
set_option maxRecDepth 100000 in
set_option maxHeartbeats 4000000 in
theorem back_ny (w : World) (n : Nd) (ok : NdOk n) (yn : NdY n) (sp : Option Addr) (cap : Nat) (hS : Src w sp cap n.vs) (hnil : sp = none → cap = 0) (kd : Int) (t : List Int) (yt : Bys t) (lp : Option Addr) (lc : Nat) (hT : Src w lp lc t) (hr : ¬ RightP n) (m : Nd) (hm : decN kd t = some m) :
    Calls Try.prog 3 #[.agg (ndC n (.slice sp n.vs.length cap)).toArray, .int .i64 kd, .slice lp t.length lc] w fun e w' => e = .returned (.bool true) ∧ Below w.heap.size w w' := by
  have hn : n.vs.length ≤ 9223372036854775807 := by have h1 := hS.1; have h2 := hS.2.1; unfold maxLen at h2; omega
  have hz2 : (t.length : Int) ≤ 9223372036854775807 := by have h1 := hT.1; have h2 := hT.2.1; unfold maxLen at h2; omega
  have AN := hid allocNd
  have L0 := hid (show (ndC nd0 (.slice none 0 0)).length = 102 from rfl)
  have B0 := hid built_nd0
  have d0 := (BK.nil w).alloc (ndC n (.slice sp n.vs.length cap)) 27
  have SN := hid (show (Try.prog.info? 27).map (·.size) = some (ndC n (.slice sp n.vs.length cap)).toArray.size by rw [Try.sizeNd, List.size_toArray, ndC_len ok])
  have K0 := hid (show (ndC n (.slice sp n.vs.length cap))[0]? = some (.int .i64 n.kd) from rfl)
  have KE := hid (fun w1 (hb : Below w.heap.size w w1) => encode_any w1 n ok sp cap (hS.below hb (Nat.le_refl _)) hnil)
  have KR := hid (fun w1 => right_any w1 n ok sp cap hn)
  have eE : encE n = 90 := by unfold encE; rw [if_neg hr]
  have eL : encL n = [] := by unfold encL; rw [if_neg hr]
  rw [eE, eL] at KE
  rw [decide_eq_false hr] at KR
  clear eE eL
  have hok := decN_ok hm
  have hrt := decN_right hm
  have eV : decV kd t = m := by unfold decV; rw [hm]; rfl
  have eD : decE kd t = 0 := by unfold decE; rw [hm]; rfl
  have KDm := hid (fun w1 (hb : Below w.heap.size w w1) => decode_any w1 kd t yt lp lc (hT.below hb (Nat.le_refl _)))
  unfold DecP at KDm
  rw [eV, eD] at KDm
  have eE2 : encE m = 0 := by unfold encE; rw [if_pos hrt.1]
  have eL2 : encL m = t := by unfold encL; rw [if_pos hrt.1]; exact load_dec yt hm
  have KEm := hid (fun w1 s c (h : Src w1 s c m.vs) (hs : s = none → c = 0) => encode_any w1 m hok s c h hs)
  rw [eE2, eL2] at KEm
  have KRm := hid (fun w1 s c (h : Src w1 s c m.vs) => right_any w1 m hok s c (by have h1 := h.1; have h2 := h.2.1; unfold maxLen at h2; omega))
  rw [decide_eq_true hrt.1] at KRm
  have KSB := hid (fun w1 s c (h : Src w1 s c t) (hb : Below w.heap.size w w1) => same_self w1 t s lp c lc h (hT.below hb (Nat.le_refl _)))
  have LMm := hid (fun v => ndC_len hok v)
  have OMm := hid (fun s n c => ndC_one m (.slice s n c) rfl)
  have hk2 := hrt.2
  have Kk := hid (fun v => show (ndC m v)[0]? = some (.int .i64 kd) by rw [← hk2]; rfl)
  clear eV eD eE2 eL2 hrt hk2 hm
  generalize ndC n = NF at *
  have r0 := d0.row (.head _)
  go_enter Try.func3, Try.ntmps3
  go_wp2_with (first
    | refine wpList_load_row_w (by rfl) 27 _ (by rfl) _ (by rfl) 27 _ _ _ r0 Try.underlying27 rfl SN.out ?_)
  refine (KE.out _ d0.1).mono ?_
  rintro e w1 ⟨v1, rfl, hO1, hb1⟩
  obtain ⟨s1, c1, rfl, S1, n1⟩ := hO1.form
  have d1 := d0.call hb1
  have r0 := d1.row (.head _)
  go_wp2_with (first
    | refine wpList_load_row_w (by rfl) 27 _ (by rfl) _ (by rfl) 27 _ _ _ r0 Try.underlying27 rfl SN.out ?_)
  refine (KR.out _).mono ?_
  rintro e w2 ⟨rfl, hb2⟩
  have d2 := d1.call hb2
  have S1 := S1.below hb2 (Nat.le_refl _)
  have d5 := d2
  go_wp2_with fail
  refine (KDm.out _ d5.1).mono ?_
  rintro e w6 ⟨s6, c6, rfl, hO6, hb6⟩
  obtain ⟨s6', c6', e6, S6, n6⟩ := hO6.form
  cases e6
  have d6 := d5.call hb6
  go_wp2_with (first
    | (refine wpList_new AN.out L0.out Try.sizeNd rfl rfl rfl _ _ rfl rfl (ndC m (.slice s6 m.vs.length c6)) rfl rfl (LMm.out _) (OMm.out _ _ _) ?_; refine Hid.out ?_))
  refine hid ?_
  have d7 := d6.alloc (ndC m (.slice s6 m.vs.length c6)) 27
  have bl7 : Below w6.heap.size w6 (w6.alloc (.cells (ndC m (.slice s6 m.vs.length c6)).toArray 27)) := (Below.refl _ _).alloc (Nat.le_refl _) _
  have S6 := S6.below bl7 (Nat.le_refl _)
  have r7 := d7.row (.head _)
  have SM7 := hid (show (Try.prog.info? 27).map (·.size) = some (ndC m (.slice s6 m.vs.length c6)).toArray.size by rw [Try.sizeNd, List.size_toArray, LMm.out])
  clear bl7 hO6
  have Kk := hid (Kk.out (.slice s6 m.vs.length c6))
  generalize hMC : (ndC m (.slice s6 m.vs.length c6)) = MC at *
  have HMC := hid hMC
  clear hMC
  generalize w6.alloc (.cells MC.toArray 27) = w7 at *
  generalize w6.heap.size = g6 at *
  rw [← HMC.out] at r7 SM7
  go_wp2_with (first
    | refine wpList_load_row_w (by rfl) 27 _ (by rfl) _ (by rfl) 27 _ _ _ r7 Try.underlying27 rfl SM7.out ?_)
  refine (KEm.out _ _ _ S6 n6).mono ?_
  rintro e w8 ⟨v8, rfl, hO8, hb8⟩
  obtain ⟨s8, c8, rfl, S8, n8⟩ := hO8.form
  have d8 := d7.call hb8
  have r8 := d8.row (.head _)
  rw [← HMC.out] at r8
  have S6 := S6.below hb8 (Nat.le_refl _)
  go_wp2_with (first
    | refine wpList_load_row_w (by rfl) 27 _ (by rfl) _ (by rfl) 27 _ _ _ r8 Try.underlying27 rfl SM7.out ?_)
  refine (KRm.out _ _ _ S6).mono ?_
  rintro e w9 ⟨rfl, hb9⟩
  have d9 := d8.call hb9
  have k9 := d9.cell (.head _) Kk.out
  have S8 := S8.below hb9 (Nat.le_refl _)
  go_wp2_with fail
  refine (KSB.out _ _ _ S8 d9.1).mono ?_
  rintro e wz ⟨rfl, hbz⟩
  have dz := d9.call hbz
  go_wp2
  go_ret
  exact ⟨rfl, dz.1⟩
theorem nodeBack_any (w : World) (n : Nd) (ok : NdOk n) (yn : NdY n) (sp : Option Addr) (cap : Nat) (hS : Src w sp cap n.vs) (hnil : sp = none → cap = 0) (kd : Int) (t : List Int) (yt : Bys t) (lp : Option Addr) (lc : Nat) (hT : Src w lp lc t) :
    Calls Try.prog 3 #[.agg (ndC n (.slice sp n.vs.length cap)).toArray, .int .i64 kd, .slice lp t.length lc] w fun e w' => e = .returned (.bool true) ∧ Below w.heap.size w w' := by
  by_cases hr : RightP n
  · cases hm : decN kd t with
    | none => exact back_yn w n ok yn sp cap hS hnil kd t yt lp lc hT hr hm
    | some m => exact back_yy w n ok yn sp cap hS hnil kd t yt lp lc hT hr m hm
  · cases hm : decN kd t with
    | none => exact back_nn w n ok yn sp cap hS hnil kd t yt lp lc hT hr hm
    | some m => exact back_ny w n ok yn sp cap hS hnil kd t yt lp lc hT hr m hm
end Go.Proofs.Ytipbbmbkjcpjbaa
