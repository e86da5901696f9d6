import Derived.Test.YtbcadiecpcngdaaNl9
namespace Go.Proofs.Ytbcadiecpcngdaa
set_option linter.unusedVariables false
set_option linter.unusedSimpArgs false
open Go.RowKit
attribute [local go_sem ↓] Go.wp_at_zero Go.wp_at_succ

set_option maxRecDepth 100000 in
set_option maxHeartbeats 2000000 in
theorem right_oc (w : World) (n : Nd) (ok : NdOk n) (sp : Option Addr) (cap : Nat) (hn : n.vs.length ≤ 9223372036854775807) (h1 : ¬ n.kd = 1) (h2 : ¬ n.kd = 2) (z1 : n.ls = zD) (z2 : n.rs = zD) :
    Calls Try.prog 8 #[.agg (ndC n (.slice sp n.vs.length cap)).toArray] w fun e w' => e = .returned (.bool false) ∧ Below w.heap.size w w' := by
  have d0 := (BK.nil w).alloc (ndC n (.slice sp n.vs.length cap)) 39
  have SL := hid (show (Try.prog.info? 36).map (·.size) = some (ints .u8 n.ls).length by rw [Try.sizeD, ints_len, ok.ls])
  have SR := hid (show (Try.prog.info? 36).map (·.size) = some (ints .u8 n.rs).length by rw [Try.sizeD, ints_len, ok.rs])
  have SK := hid (show (Try.prog.info? 37).map (·.size) = some (ints .u8 n.k).length by rw [Try.sizeKy, ints_len, ok.k])
  have qL := eqDg n.ls zD ok.ls rfl
  have qR := eqDg n.rs zD ok.rs rfl
  have qK := eqKy n.k zD ok.k rfl
  have qK2 : ∀ w, (Op.equalIn 10000 37 (.agg (ints .u8 n.k).toArray) (.agg #[.int .u8 0, .int .u8 0, .int .u8 0, .int .u8 0, .int .u8 0, .int .u8 0, .int .u8 0, .int .u8 0, .int .u8 0, .int .u8 0, .int .u8 0, .int .u8 0, .int .u8 0, .int .u8 0, .int .u8 0, .int .u8 0, .int .u8 0, .int .u8 0, .int .u8 0, .int .u8 0, .int .u8 0, .int .u8 0, .int .u8 0, .int .u8 0, .int .u8 0, .int .u8 0, .int .u8 0, .int .u8 0, .int .u8 0, .int .u8 0, .int .u8 0, .int .u8 0])).run Try.prog w = .ok (decide (n.k = zD)) w := eqKy n.k zD ok.k rfl
  have gD := Try.guardDg
  have gK := Try.guardK
  have BZ := hid built_D0
  have BKz := hid built_K0
  have KL := hid (fun w1 => side_any w1 n.l n.lc n.ls ok.ls)
  have KR := hid (fun w1 => side_any w1 n.r n.rc n.rs ok.rs)
  have i0 : (n.vs.length : Int) ≤ 9223372036854775807 := by omega
  have c0 := d0.cell (.head _) (v := .int .i64 n.kd) (j := 0) rfl
  have c1 := d0.cell (.head _) (v := .int .i64 n.l) (j := 1) rfl
  have c2 := d0.cell (.head _) (v := .int .i64 n.r) (j := 2) rfl
  have c3 := d0.cell (.head _) (v := .int .i64 n.lc) (j := 3) rfl
  have c4 := d0.cell (.head _) (v := .int .i64 n.rc) (j := 4) rfl
  have c101 := d0.cell (.head _) (ndC_v ok (.slice sp n.vs.length cap))
  have rls := d0.rng (.head _) (ndC_ls ok (.slice sp n.vs.length cap))
  have rrs := d0.rng (.head _) (ndC_rs ok (.slice sp n.vs.length cap))
  have rk := d0.rng (.head _) (ndC_k ok (.slice sp n.vs.length cap))
  generalize n.kd = vk at *
  rw [decide_eq_true z1] at qL
  clear z1
  rw [decide_eq_true z2] at qR
  clear z2
  generalize ints .u8 n.ls = IL at *
  generalize ints .u8 n.rs = IR at *
  generalize ints .u8 n.k = IK at *
  generalize ints .u8 zD = KZ at *
  generalize ndC n (.slice sp n.vs.length cap) = NC at *
  generalize n.vs.length = m at *
  generalize n.l = vl at *
  generalize n.r = vr at *
  generalize n.lc = vlc at *
  generalize n.rc = vrc at *
  go_enter Try.func8, Try.ntmps8
  go_wp2_with (first
    | refine wpList_load_mid_w (by rfl) 36 _ (by rfl) w.heap.size 5 (by rfl) _ _ rls Try.underlying36 rfl SL.out ?_
    | refine wpList_load_mid_w (by rfl) 36 _ (by rfl) w.heap.size 37 (by rfl) _ _ rrs Try.underlying36 rfl SR.out ?_
    | refine wpList_built (by rfl) 36 _ rfl _ rfl _ BZ.out ?_)
  go_ret
  exact ⟨rfl, d0.1⟩
set_option maxRecDepth 100000 in
set_option maxHeartbeats 2000000 in
theorem right_pc (w : World) (n : Nd) (ok : NdOk n) (sp : Option Addr) (cap : Nat) (hn : n.vs.length ≤ 9223372036854775807) (h1 : n.kd = 2) (z1 : n.ls = zD) (z2 : n.rs = zD) (s1 : ¬ SideP n.l n.lc n.ls) :
    Calls Try.prog 8 #[.agg (ndC n (.slice sp n.vs.length cap)).toArray] w fun e w' => e = .returned (.bool false) ∧ Below w.heap.size w w' := by
  have d0 := (BK.nil w).alloc (ndC n (.slice sp n.vs.length cap)) 39
  have SL := hid (show (Try.prog.info? 36).map (·.size) = some (ints .u8 n.ls).length by rw [Try.sizeD, ints_len, ok.ls])
  have SR := hid (show (Try.prog.info? 36).map (·.size) = some (ints .u8 n.rs).length by rw [Try.sizeD, ints_len, ok.rs])
  have SK := hid (show (Try.prog.info? 37).map (·.size) = some (ints .u8 n.k).length by rw [Try.sizeKy, ints_len, ok.k])
  have qL := eqDg n.ls zD ok.ls rfl
  have qR := eqDg n.rs zD ok.rs rfl
  have qK := eqKy n.k zD ok.k rfl
  have qK2 : ∀ w, (Op.equalIn 10000 37 (.agg (ints .u8 n.k).toArray) (.agg #[.int .u8 0, .int .u8 0, .int .u8 0, .int .u8 0, .int .u8 0, .int .u8 0, .int .u8 0, .int .u8 0, .int .u8 0, .int .u8 0, .int .u8 0, .int .u8 0, .int .u8 0, .int .u8 0, .int .u8 0, .int .u8 0, .int .u8 0, .int .u8 0, .int .u8 0, .int .u8 0, .int .u8 0, .int .u8 0, .int .u8 0, .int .u8 0, .int .u8 0, .int .u8 0, .int .u8 0, .int .u8 0, .int .u8 0, .int .u8 0, .int .u8 0, .int .u8 0])).run Try.prog w = .ok (decide (n.k = zD)) w := eqKy n.k zD ok.k rfl
  have gD := Try.guardDg
  have gK := Try.guardK
  have BZ := hid built_D0
  have BKz := hid built_K0
  have KL := hid (fun w1 => side_any w1 n.l n.lc n.ls ok.ls)
  have KR := hid (fun w1 => side_any w1 n.r n.rc n.rs ok.rs)
  have i0 : (n.vs.length : Int) ≤ 9223372036854775807 := by omega
  have c0 := d0.cell (.head _) (v := .int .i64 n.kd) (j := 0) rfl
  have c1 := d0.cell (.head _) (v := .int .i64 n.l) (j := 1) rfl
  have c2 := d0.cell (.head _) (v := .int .i64 n.r) (j := 2) rfl
  have c3 := d0.cell (.head _) (v := .int .i64 n.lc) (j := 3) rfl
  have c4 := d0.cell (.head _) (v := .int .i64 n.rc) (j := 4) rfl
  have c101 := d0.cell (.head _) (ndC_v ok (.slice sp n.vs.length cap))
  have rls := d0.rng (.head _) (ndC_ls ok (.slice sp n.vs.length cap))
  have rrs := d0.rng (.head _) (ndC_rs ok (.slice sp n.vs.length cap))
  have rk := d0.rng (.head _) (ndC_k ok (.slice sp n.vs.length cap))
  rw [h1] at c0
  clear h1
  rw [decide_eq_true z1] at qL
  clear z1
  rw [decide_eq_true z2] at qR
  clear z2
  have NC1 := hid (show (ndC n (.slice sp n.vs.length cap))[1]? = some (.int .i64 n.l) from rfl)
  have NC2 := hid (show (ndC n (.slice sp n.vs.length cap))[2]? = some (.int .i64 n.r) from rfl)
  have NC3 := hid (show (ndC n (.slice sp n.vs.length cap))[3]? = some (.int .i64 n.lc) from rfl)
  have NC4 := hid (show (ndC n (.slice sp n.vs.length cap))[4]? = some (.int .i64 n.rc) from rfl)
  have NC101 := hid (ndC_v ok (.slice sp n.vs.length cap))
  have NCls := hid (ndC_ls ok (.slice sp n.vs.length cap))
  have NCrs := hid (ndC_rs ok (.slice sp n.vs.length cap))
  have NCk := hid (ndC_k ok (.slice sp n.vs.length cap))
  rw [decide_eq_false s1] at KL
  clear s1
  generalize ints .u8 n.ls = IL at *
  generalize ints .u8 n.rs = IR at *
  generalize ints .u8 n.k = IK at *
  generalize ints .u8 zD = KZ at *
  generalize ndC n (.slice sp n.vs.length cap) = NC at *
  generalize n.vs.length = m at *
  generalize n.l = vl at *
  generalize n.r = vr at *
  generalize n.lc = vlc at *
  generalize n.rc = vrc at *
  go_enter Try.func8, Try.ntmps8
  go_wp2_with (first
    | refine wpList_load_mid_w (by rfl) 36 _ (by rfl) w.heap.size 5 (by rfl) _ _ rls Try.underlying36 rfl SL.out ?_
    | refine wpList_load_mid_w (by rfl) 36 _ (by rfl) w.heap.size 37 (by rfl) _ _ rrs Try.underlying36 rfl SR.out ?_
    | refine wpList_built (by rfl) 36 _ rfl _ rfl _ BZ.out ?_)
  refine (KL.out _).mono ?_
  rintro e w1 ⟨rfl, hb1⟩
  have d1 := d0.call hb1
  clear c1 c2 c3 c4 c101 rls rrs rk
  have c1 := d1.cell (.head _) NC1.out
  have c2 := d1.cell (.head _) NC2.out
  have c3 := d1.cell (.head _) NC3.out
  have c4 := d1.cell (.head _) NC4.out
  have c101 := d1.cell (.head _) NC101.out
  have rls := d1.rng (.head _) NCls.out
  have rrs := d1.rng (.head _) NCrs.out
  have rk := d1.rng (.head _) NCk.out
  go_wp2
  go_ret
  exact ⟨rfl, d1.1⟩
set_option maxRecDepth 100000 in
set_option maxHeartbeats 2000000 in
theorem right_qc (w : World) (n : Nd) (ok : NdOk n) (sp : Option Addr) (cap : Nat) (hn : n.vs.length ≤ 9223372036854775807) (h1 : n.kd = 2) (z1 : n.ls = zD) (z2 : n.rs = zD) (s1 : SideP n.l n.lc n.ls) (s2 : ¬ SideP n.r n.rc n.rs) :
    Calls Try.prog 8 #[.agg (ndC n (.slice sp n.vs.length cap)).toArray] w fun e w' => e = .returned (.bool false) ∧ Below w.heap.size w w' := by
  have d0 := (BK.nil w).alloc (ndC n (.slice sp n.vs.length cap)) 39
  have SL := hid (show (Try.prog.info? 36).map (·.size) = some (ints .u8 n.ls).length by rw [Try.sizeD, ints_len, ok.ls])
  have SR := hid (show (Try.prog.info? 36).map (·.size) = some (ints .u8 n.rs).length by rw [Try.sizeD, ints_len, ok.rs])
  have SK := hid (show (Try.prog.info? 37).map (·.size) = some (ints .u8 n.k).length by rw [Try.sizeKy, ints_len, ok.k])
  have qL := eqDg n.ls zD ok.ls rfl
  have qR := eqDg n.rs zD ok.rs rfl
  have qK := eqKy n.k zD ok.k rfl
  have qK2 : ∀ w, (Op.equalIn 10000 37 (.agg (ints .u8 n.k).toArray) (.agg #[.int .u8 0, .int .u8 0, .int .u8 0, .int .u8 0, .int .u8 0, .int .u8 0, .int .u8 0, .int .u8 0, .int .u8 0, .int .u8 0, .int .u8 0, .int .u8 0, .int .u8 0, .int .u8 0, .int .u8 0, .int .u8 0, .int .u8 0, .int .u8 0, .int .u8 0, .int .u8 0, .int .u8 0, .int .u8 0, .int .u8 0, .int .u8 0, .int .u8 0, .int .u8 0, .int .u8 0, .int .u8 0, .int .u8 0, .int .u8 0, .int .u8 0, .int .u8 0])).run Try.prog w = .ok (decide (n.k = zD)) w := eqKy n.k zD ok.k rfl
  have gD := Try.guardDg
  have gK := Try.guardK
  have BZ := hid built_D0
  have BKz := hid built_K0
  have KL := hid (fun w1 => side_any w1 n.l n.lc n.ls ok.ls)
  have KR := hid (fun w1 => side_any w1 n.r n.rc n.rs ok.rs)
  have i0 : (n.vs.length : Int) ≤ 9223372036854775807 := by omega
  have c0 := d0.cell (.head _) (v := .int .i64 n.kd) (j := 0) rfl
  have c1 := d0.cell (.head _) (v := .int .i64 n.l) (j := 1) rfl
  have c2 := d0.cell (.head _) (v := .int .i64 n.r) (j := 2) rfl
  have c3 := d0.cell (.head _) (v := .int .i64 n.lc) (j := 3) rfl
  have c4 := d0.cell (.head _) (v := .int .i64 n.rc) (j := 4) rfl
  have c101 := d0.cell (.head _) (ndC_v ok (.slice sp n.vs.length cap))
  have rls := d0.rng (.head _) (ndC_ls ok (.slice sp n.vs.length cap))
  have rrs := d0.rng (.head _) (ndC_rs ok (.slice sp n.vs.length cap))
  have rk := d0.rng (.head _) (ndC_k ok (.slice sp n.vs.length cap))
  rw [h1] at c0
  clear h1
  rw [decide_eq_true z1] at qL
  clear z1
  rw [decide_eq_true z2] at qR
  clear z2
  have NC1 := hid (show (ndC n (.slice sp n.vs.length cap))[1]? = some (.int .i64 n.l) from rfl)
  have NC2 := hid (show (ndC n (.slice sp n.vs.length cap))[2]? = some (.int .i64 n.r) from rfl)
  have NC3 := hid (show (ndC n (.slice sp n.vs.length cap))[3]? = some (.int .i64 n.lc) from rfl)
  have NC4 := hid (show (ndC n (.slice sp n.vs.length cap))[4]? = some (.int .i64 n.rc) from rfl)
  have NC101 := hid (ndC_v ok (.slice sp n.vs.length cap))
  have NCls := hid (ndC_ls ok (.slice sp n.vs.length cap))
  have NCrs := hid (ndC_rs ok (.slice sp n.vs.length cap))
  have NCk := hid (ndC_k ok (.slice sp n.vs.length cap))
  rw [decide_eq_true s1] at KL
  clear s1
  rw [decide_eq_false s2] at KR
  clear s2
  generalize ints .u8 n.ls = IL at *
  generalize ints .u8 n.rs = IR at *
  generalize ints .u8 n.k = IK at *
  generalize ints .u8 zD = KZ at *
  generalize ndC n (.slice sp n.vs.length cap) = NC at *
  generalize n.vs.length = m at *
  generalize n.l = vl at *
  generalize n.r = vr at *
  generalize n.lc = vlc at *
  generalize n.rc = vrc at *
  go_enter Try.func8, Try.ntmps8
  go_wp2_with (first
    | refine wpList_load_mid_w (by rfl) 36 _ (by rfl) w.heap.size 5 (by rfl) _ _ rls Try.underlying36 rfl SL.out ?_
    | refine wpList_load_mid_w (by rfl) 36 _ (by rfl) w.heap.size 37 (by rfl) _ _ rrs Try.underlying36 rfl SR.out ?_
    | refine wpList_built (by rfl) 36 _ rfl _ rfl _ BZ.out ?_)
  refine (KL.out _).mono ?_
  rintro e w1 ⟨rfl, hb1⟩
  have d1 := d0.call hb1
  clear c1 c2 c3 c4 c101 rls rrs rk
  have c1 := d1.cell (.head _) NC1.out
  have c2 := d1.cell (.head _) NC2.out
  have c3 := d1.cell (.head _) NC3.out
  have c4 := d1.cell (.head _) NC4.out
  have c101 := d1.cell (.head _) NC101.out
  have rls := d1.rng (.head _) NCls.out
  have rrs := d1.rng (.head _) NCrs.out
  have rk := d1.rng (.head _) NCk.out
  go_wp2_with (first
    | refine wpList_load_mid_w (by rfl) 36 _ (by rfl) w.heap.size 37 (by rfl) _ _ rrs Try.underlying36 rfl SR.out ?_)
  refine (KR.out _).mono ?_
  rintro e w2 ⟨rfl, hb2⟩
  have d2 := d1.call hb2
  clear c1 c2 c3 c4 c101 rls rrs rk
  have c1 := d2.cell (.head _) NC1.out
  have c2 := d2.cell (.head _) NC2.out
  have c3 := d2.cell (.head _) NC3.out
  have c4 := d2.cell (.head _) NC4.out
  have c101 := d2.cell (.head _) NC101.out
  have rls := d2.rng (.head _) NCls.out
  have rrs := d2.rng (.head _) NCrs.out
  have rk := d2.rng (.head _) NCk.out
  go_wp2
  go_ret
  exact ⟨rfl, d2.1⟩
set_option maxRecDepth 100000 in
set_option maxHeartbeats 2000000 in
theorem right_rc (w : World) (n : Nd) (ok : NdOk n) (sp : Option Addr) (cap : Nat) (hn : n.vs.length ≤ 9223372036854775807) (h1 : n.kd = 2) (z1 : n.ls = zD) (z2 : n.rs = zD) (s1 : SideP n.l n.lc n.ls) (s2 : SideP n.r n.rc n.rs) (s3 : n.l = n.r) :
    Calls Try.prog 8 #[.agg (ndC n (.slice sp n.vs.length cap)).toArray] w fun e w' => e = .returned (.bool false) ∧ Below w.heap.size w w' := by
  have d0 := (BK.nil w).alloc (ndC n (.slice sp n.vs.length cap)) 39
  have SL := hid (show (Try.prog.info? 36).map (·.size) = some (ints .u8 n.ls).length by rw [Try.sizeD, ints_len, ok.ls])
  have SR := hid (show (Try.prog.info? 36).map (·.size) = some (ints .u8 n.rs).length by rw [Try.sizeD, ints_len, ok.rs])
  have SK := hid (show (Try.prog.info? 37).map (·.size) = some (ints .u8 n.k).length by rw [Try.sizeKy, ints_len, ok.k])
  have qL := eqDg n.ls zD ok.ls rfl
  have qR := eqDg n.rs zD ok.rs rfl
  have qK := eqKy n.k zD ok.k rfl
  have qK2 : ∀ w, (Op.equalIn 10000 37 (.agg (ints .u8 n.k).toArray) (.agg #[.int .u8 0, .int .u8 0, .int .u8 0, .int .u8 0, .int .u8 0, .int .u8 0, .int .u8 0, .int .u8 0, .int .u8 0, .int .u8 0, .int .u8 0, .int .u8 0, .int .u8 0, .int .u8 0, .int .u8 0, .int .u8 0, .int .u8 0, .int .u8 0, .int .u8 0, .int .u8 0, .int .u8 0, .int .u8 0, .int .u8 0, .int .u8 0, .int .u8 0, .int .u8 0, .int .u8 0, .int .u8 0, .int .u8 0, .int .u8 0, .int .u8 0, .int .u8 0])).run Try.prog w = .ok (decide (n.k = zD)) w := eqKy n.k zD ok.k rfl
  have gD := Try.guardDg
  have gK := Try.guardK
  have BZ := hid built_D0
  have BKz := hid built_K0
  have KL := hid (fun w1 => side_any w1 n.l n.lc n.ls ok.ls)
  have KR := hid (fun w1 => side_any w1 n.r n.rc n.rs ok.rs)
  have i0 : (n.vs.length : Int) ≤ 9223372036854775807 := by omega
  have c0 := d0.cell (.head _) (v := .int .i64 n.kd) (j := 0) rfl
  have c1 := d0.cell (.head _) (v := .int .i64 n.l) (j := 1) rfl
  have c2 := d0.cell (.head _) (v := .int .i64 n.r) (j := 2) rfl
  have c3 := d0.cell (.head _) (v := .int .i64 n.lc) (j := 3) rfl
  have c4 := d0.cell (.head _) (v := .int .i64 n.rc) (j := 4) rfl
  have c101 := d0.cell (.head _) (ndC_v ok (.slice sp n.vs.length cap))
  have rls := d0.rng (.head _) (ndC_ls ok (.slice sp n.vs.length cap))
  have rrs := d0.rng (.head _) (ndC_rs ok (.slice sp n.vs.length cap))
  have rk := d0.rng (.head _) (ndC_k ok (.slice sp n.vs.length cap))
  rw [h1] at c0
  clear h1
  rw [decide_eq_true z1] at qL
  clear z1
  rw [decide_eq_true z2] at qR
  clear z2
  have NC1 := hid (show (ndC n (.slice sp n.vs.length cap))[1]? = some (.int .i64 n.l) from rfl)
  have NC2 := hid (show (ndC n (.slice sp n.vs.length cap))[2]? = some (.int .i64 n.r) from rfl)
  have NC3 := hid (show (ndC n (.slice sp n.vs.length cap))[3]? = some (.int .i64 n.lc) from rfl)
  have NC4 := hid (show (ndC n (.slice sp n.vs.length cap))[4]? = some (.int .i64 n.rc) from rfl)
  have NC101 := hid (ndC_v ok (.slice sp n.vs.length cap))
  have NCls := hid (ndC_ls ok (.slice sp n.vs.length cap))
  have NCrs := hid (ndC_rs ok (.slice sp n.vs.length cap))
  have NCk := hid (ndC_k ok (.slice sp n.vs.length cap))
  have q1 := s1.le
  have q2 := s2.le
  rw [decide_eq_true s1] at KL
  clear s1
  rw [decide_eq_true s2] at KR
  clear s2
  have K3 := hid s3
  clear s3
  generalize ints .u8 n.ls = IL at *
  generalize ints .u8 n.rs = IR at *
  generalize ints .u8 n.k = IK at *
  generalize ints .u8 zD = KZ at *
  generalize ndC n (.slice sp n.vs.length cap) = NC at *
  generalize n.vs.length = m at *
  generalize n.l = vl at *
  generalize n.r = vr at *
  generalize n.lc = vlc at *
  generalize n.rc = vrc at *
  go_enter Try.func8, Try.ntmps8
  go_wp2_with (first
    | refine wpList_load_mid_w (by rfl) 36 _ (by rfl) w.heap.size 5 (by rfl) _ _ rls Try.underlying36 rfl SL.out ?_
    | refine wpList_load_mid_w (by rfl) 36 _ (by rfl) w.heap.size 37 (by rfl) _ _ rrs Try.underlying36 rfl SR.out ?_
    | refine wpList_built (by rfl) 36 _ rfl _ rfl _ BZ.out ?_)
  refine (KL.out _).mono ?_
  rintro e w1 ⟨rfl, hb1⟩
  have d1 := d0.call hb1
  clear c1 c2 c3 c4 c101 rls rrs rk
  have c1 := d1.cell (.head _) NC1.out
  have c2 := d1.cell (.head _) NC2.out
  have c3 := d1.cell (.head _) NC3.out
  have c4 := d1.cell (.head _) NC4.out
  have c101 := d1.cell (.head _) NC101.out
  have rls := d1.rng (.head _) NCls.out
  have rrs := d1.rng (.head _) NCrs.out
  have rk := d1.rng (.head _) NCk.out
  go_wp2_with (first
    | refine wpList_load_mid_w (by rfl) 36 _ (by rfl) w.heap.size 37 (by rfl) _ _ rrs Try.underlying36 rfl SR.out ?_)
  refine (KR.out _).mono ?_
  rintro e w2 ⟨rfl, hb2⟩
  have d2 := d1.call hb2
  clear c1 c2 c3 c4 c101 rls rrs rk
  have c1 := d2.cell (.head _) NC1.out
  have c2 := d2.cell (.head _) NC2.out
  have c3 := d2.cell (.head _) NC3.out
  have c4 := d2.cell (.head _) NC4.out
  have c101 := d2.cell (.head _) NC101.out
  have rls := d2.rng (.head _) NCls.out
  have rrs := d2.rng (.head _) NCrs.out
  have rk := d2.rng (.head _) NCk.out
  rw [← K3.out] at c2
  clear K3
  go_wp2_with (first
    | refine wpList_load_mid_w (by rfl) 37 _ (by rfl) w.heap.size 69 (by rfl) _ _ rk Try.underlying37 rfl SK.out ?_
    | refine wpList_built (by rfl) 37 _ rfl _ rfl _ BKz.out ?_)
  go_ret
  exact ⟨rfl, d2.1⟩
set_option maxRecDepth 100000 in
set_option maxHeartbeats 2000000 in
theorem right_sc (w : World) (n : Nd) (ok : NdOk n) (sp : Option Addr) (cap : Nat) (hn : n.vs.length ≤ 9223372036854775807) (h1 : n.kd = 2) (z1 : n.ls = zD) (z2 : n.rs = zD) (s1 : SideP n.l n.lc n.ls) (s2 : SideP n.r n.rc n.rs) (s3 : ¬ n.l = n.r) (s4 : ¬ n.k = zD) :
    Calls Try.prog 8 #[.agg (ndC n (.slice sp n.vs.length cap)).toArray] w fun e w' => e = .returned (.bool false) ∧ Below w.heap.size w w' := by
  have d0 := (BK.nil w).alloc (ndC n (.slice sp n.vs.length cap)) 39
  have SL := hid (show (Try.prog.info? 36).map (·.size) = some (ints .u8 n.ls).length by rw [Try.sizeD, ints_len, ok.ls])
  have SR := hid (show (Try.prog.info? 36).map (·.size) = some (ints .u8 n.rs).length by rw [Try.sizeD, ints_len, ok.rs])
  have SK := hid (show (Try.prog.info? 37).map (·.size) = some (ints .u8 n.k).length by rw [Try.sizeKy, ints_len, ok.k])
  have qL := eqDg n.ls zD ok.ls rfl
  have qR := eqDg n.rs zD ok.rs rfl
  have qK := eqKy n.k zD ok.k rfl
  have qK2 : ∀ w, (Op.equalIn 10000 37 (.agg (ints .u8 n.k).toArray) (.agg #[.int .u8 0, .int .u8 0, .int .u8 0, .int .u8 0, .int .u8 0, .int .u8 0, .int .u8 0, .int .u8 0, .int .u8 0, .int .u8 0, .int .u8 0, .int .u8 0, .int .u8 0, .int .u8 0, .int .u8 0, .int .u8 0, .int .u8 0, .int .u8 0, .int .u8 0, .int .u8 0, .int .u8 0, .int .u8 0, .int .u8 0, .int .u8 0, .int .u8 0, .int .u8 0, .int .u8 0, .int .u8 0, .int .u8 0, .int .u8 0, .int .u8 0, .int .u8 0])).run Try.prog w = .ok (decide (n.k = zD)) w := eqKy n.k zD ok.k rfl
  have gD := Try.guardDg
  have gK := Try.guardK
  have BZ := hid built_D0
  have BKz := hid built_K0
  have KL := hid (fun w1 => side_any w1 n.l n.lc n.ls ok.ls)
  have KR := hid (fun w1 => side_any w1 n.r n.rc n.rs ok.rs)
  have i0 : (n.vs.length : Int) ≤ 9223372036854775807 := by omega
  have c0 := d0.cell (.head _) (v := .int .i64 n.kd) (j := 0) rfl
  have c1 := d0.cell (.head _) (v := .int .i64 n.l) (j := 1) rfl
  have c2 := d0.cell (.head _) (v := .int .i64 n.r) (j := 2) rfl
  have c3 := d0.cell (.head _) (v := .int .i64 n.lc) (j := 3) rfl
  have c4 := d0.cell (.head _) (v := .int .i64 n.rc) (j := 4) rfl
  have c101 := d0.cell (.head _) (ndC_v ok (.slice sp n.vs.length cap))
  have rls := d0.rng (.head _) (ndC_ls ok (.slice sp n.vs.length cap))
  have rrs := d0.rng (.head _) (ndC_rs ok (.slice sp n.vs.length cap))
  have rk := d0.rng (.head _) (ndC_k ok (.slice sp n.vs.length cap))
  rw [h1] at c0
  clear h1
  rw [decide_eq_true z1] at qL
  clear z1
  rw [decide_eq_true z2] at qR
  clear z2
  have NC1 := hid (show (ndC n (.slice sp n.vs.length cap))[1]? = some (.int .i64 n.l) from rfl)
  have NC2 := hid (show (ndC n (.slice sp n.vs.length cap))[2]? = some (.int .i64 n.r) from rfl)
  have NC3 := hid (show (ndC n (.slice sp n.vs.length cap))[3]? = some (.int .i64 n.lc) from rfl)
  have NC4 := hid (show (ndC n (.slice sp n.vs.length cap))[4]? = some (.int .i64 n.rc) from rfl)
  have NC101 := hid (ndC_v ok (.slice sp n.vs.length cap))
  have NCls := hid (ndC_ls ok (.slice sp n.vs.length cap))
  have NCrs := hid (ndC_rs ok (.slice sp n.vs.length cap))
  have NCk := hid (ndC_k ok (.slice sp n.vs.length cap))
  have q1 := s1.le
  have q2 := s2.le
  rw [decide_eq_true s1] at KL
  clear s1
  rw [decide_eq_true s2] at KR
  clear s2
  rw [decide_eq_false s4] at qK qK2
  clear s4
  generalize ints .u8 n.ls = IL at *
  generalize ints .u8 n.rs = IR at *
  generalize ints .u8 n.k = IK at *
  generalize ints .u8 zD = KZ at *
  generalize ndC n (.slice sp n.vs.length cap) = NC at *
  generalize n.vs.length = m at *
  generalize n.l = vl at *
  generalize n.r = vr at *
  generalize n.lc = vlc at *
  generalize n.rc = vrc at *
  go_enter Try.func8, Try.ntmps8
  go_wp2_with (first
    | refine wpList_load_mid_w (by rfl) 36 _ (by rfl) w.heap.size 5 (by rfl) _ _ rls Try.underlying36 rfl SL.out ?_
    | refine wpList_load_mid_w (by rfl) 36 _ (by rfl) w.heap.size 37 (by rfl) _ _ rrs Try.underlying36 rfl SR.out ?_
    | refine wpList_built (by rfl) 36 _ rfl _ rfl _ BZ.out ?_)
  refine (KL.out _).mono ?_
  rintro e w1 ⟨rfl, hb1⟩
  have d1 := d0.call hb1
  clear c1 c2 c3 c4 c101 rls rrs rk
  have c1 := d1.cell (.head _) NC1.out
  have c2 := d1.cell (.head _) NC2.out
  have c3 := d1.cell (.head _) NC3.out
  have c4 := d1.cell (.head _) NC4.out
  have c101 := d1.cell (.head _) NC101.out
  have rls := d1.rng (.head _) NCls.out
  have rrs := d1.rng (.head _) NCrs.out
  have rk := d1.rng (.head _) NCk.out
  go_wp2_with (first
    | refine wpList_load_mid_w (by rfl) 36 _ (by rfl) w.heap.size 37 (by rfl) _ _ rrs Try.underlying36 rfl SR.out ?_)
  refine (KR.out _).mono ?_
  rintro e w2 ⟨rfl, hb2⟩
  have d2 := d1.call hb2
  clear c1 c2 c3 c4 c101 rls rrs rk
  have c1 := d2.cell (.head _) NC1.out
  have c2 := d2.cell (.head _) NC2.out
  have c3 := d2.cell (.head _) NC3.out
  have c4 := d2.cell (.head _) NC4.out
  have c101 := d2.cell (.head _) NC101.out
  have rls := d2.rng (.head _) NCls.out
  have rrs := d2.rng (.head _) NCrs.out
  have rk := d2.rng (.head _) NCk.out
  go_wp2_with (first
    | refine wpList_load_mid_w (by first | rfl | simpa [Region.wanted, yielded] using s3) 37 _ (by rfl) w.heap.size 69 (by rfl) _ _ rk Try.underlying37 rfl SK.out ?_
    | refine wpList_built (by first | rfl | simpa [Region.wanted, yielded] using s3) 37 _ rfl _ rfl _ BKz.out ?_)
  go_ret
  exact ⟨rfl, d2.1⟩
set_option maxRecDepth 100000 in
set_option maxHeartbeats 2000000 in
theorem right_tc (w : World) (n : Nd) (ok : NdOk n) (sp : Option Addr) (cap : Nat) (hn : n.vs.length ≤ 9223372036854775807) (h1 : n.kd = 2) (z1 : n.ls = zD) (z2 : n.rs = zD) (s1 : SideP n.l n.lc n.ls) (s2 : SideP n.r n.rc n.rs) (s3 : ¬ n.l = n.r) (s4 : n.k = zD) (s5 : ¬ n.vs.length = 0) :
    Calls Try.prog 8 #[.agg (ndC n (.slice sp n.vs.length cap)).toArray] w fun e w' => e = .returned (.bool false) ∧ Below w.heap.size w w' := by
  have d0 := (BK.nil w).alloc (ndC n (.slice sp n.vs.length cap)) 39
  have SL := hid (show (Try.prog.info? 36).map (·.size) = some (ints .u8 n.ls).length by rw [Try.sizeD, ints_len, ok.ls])
  have SR := hid (show (Try.prog.info? 36).map (·.size) = some (ints .u8 n.rs).length by rw [Try.sizeD, ints_len, ok.rs])
  have SK := hid (show (Try.prog.info? 37).map (·.size) = some (ints .u8 n.k).length by rw [Try.sizeKy, ints_len, ok.k])
  have qL := eqDg n.ls zD ok.ls rfl
  have qR := eqDg n.rs zD ok.rs rfl
  have qK := eqKy n.k zD ok.k rfl
  have qK2 : ∀ w, (Op.equalIn 10000 37 (.agg (ints .u8 n.k).toArray) (.agg #[.int .u8 0, .int .u8 0, .int .u8 0, .int .u8 0, .int .u8 0, .int .u8 0, .int .u8 0, .int .u8 0, .int .u8 0, .int .u8 0, .int .u8 0, .int .u8 0, .int .u8 0, .int .u8 0, .int .u8 0, .int .u8 0, .int .u8 0, .int .u8 0, .int .u8 0, .int .u8 0, .int .u8 0, .int .u8 0, .int .u8 0, .int .u8 0, .int .u8 0, .int .u8 0, .int .u8 0, .int .u8 0, .int .u8 0, .int .u8 0, .int .u8 0, .int .u8 0])).run Try.prog w = .ok (decide (n.k = zD)) w := eqKy n.k zD ok.k rfl
  have gD := Try.guardDg
  have gK := Try.guardK
  have BZ := hid built_D0
  have BKz := hid built_K0
  have KL := hid (fun w1 => side_any w1 n.l n.lc n.ls ok.ls)
  have KR := hid (fun w1 => side_any w1 n.r n.rc n.rs ok.rs)
  have i0 : (n.vs.length : Int) ≤ 9223372036854775807 := by omega
  have c0 := d0.cell (.head _) (v := .int .i64 n.kd) (j := 0) rfl
  have c1 := d0.cell (.head _) (v := .int .i64 n.l) (j := 1) rfl
  have c2 := d0.cell (.head _) (v := .int .i64 n.r) (j := 2) rfl
  have c3 := d0.cell (.head _) (v := .int .i64 n.lc) (j := 3) rfl
  have c4 := d0.cell (.head _) (v := .int .i64 n.rc) (j := 4) rfl
  have c101 := d0.cell (.head _) (ndC_v ok (.slice sp n.vs.length cap))
  have rls := d0.rng (.head _) (ndC_ls ok (.slice sp n.vs.length cap))
  have rrs := d0.rng (.head _) (ndC_rs ok (.slice sp n.vs.length cap))
  have rk := d0.rng (.head _) (ndC_k ok (.slice sp n.vs.length cap))
  rw [h1] at c0
  clear h1
  rw [decide_eq_true z1] at qL
  clear z1
  rw [decide_eq_true z2] at qR
  clear z2
  have NC1 := hid (show (ndC n (.slice sp n.vs.length cap))[1]? = some (.int .i64 n.l) from rfl)
  have NC2 := hid (show (ndC n (.slice sp n.vs.length cap))[2]? = some (.int .i64 n.r) from rfl)
  have NC3 := hid (show (ndC n (.slice sp n.vs.length cap))[3]? = some (.int .i64 n.lc) from rfl)
  have NC4 := hid (show (ndC n (.slice sp n.vs.length cap))[4]? = some (.int .i64 n.rc) from rfl)
  have NC101 := hid (ndC_v ok (.slice sp n.vs.length cap))
  have NCls := hid (ndC_ls ok (.slice sp n.vs.length cap))
  have NCrs := hid (ndC_rs ok (.slice sp n.vs.length cap))
  have NCk := hid (ndC_k ok (.slice sp n.vs.length cap))
  have q1 := s1.le
  have q2 := s2.le
  rw [decide_eq_true s1] at KL
  clear s1
  rw [decide_eq_true s2] at KR
  clear s2
  rw [decide_eq_true s4] at qK qK2
  clear s4
  have i5 : (0 : Int) < (n.vs.length : Int) := by omega
  clear s5
  generalize ints .u8 n.ls = IL at *
  generalize ints .u8 n.rs = IR at *
  generalize ints .u8 n.k = IK at *
  generalize ints .u8 zD = KZ at *
  generalize ndC n (.slice sp n.vs.length cap) = NC at *
  generalize n.vs.length = m at *
  generalize n.l = vl at *
  generalize n.r = vr at *
  generalize n.lc = vlc at *
  generalize n.rc = vrc at *
  go_enter Try.func8, Try.ntmps8
  go_wp2_with (first
    | refine wpList_load_mid_w (by rfl) 36 _ (by rfl) w.heap.size 5 (by rfl) _ _ rls Try.underlying36 rfl SL.out ?_
    | refine wpList_load_mid_w (by rfl) 36 _ (by rfl) w.heap.size 37 (by rfl) _ _ rrs Try.underlying36 rfl SR.out ?_
    | refine wpList_built (by rfl) 36 _ rfl _ rfl _ BZ.out ?_)
  refine (KL.out _).mono ?_
  rintro e w1 ⟨rfl, hb1⟩
  have d1 := d0.call hb1
  clear c1 c2 c3 c4 c101 rls rrs rk
  have c1 := d1.cell (.head _) NC1.out
  have c2 := d1.cell (.head _) NC2.out
  have c3 := d1.cell (.head _) NC3.out
  have c4 := d1.cell (.head _) NC4.out
  have c101 := d1.cell (.head _) NC101.out
  have rls := d1.rng (.head _) NCls.out
  have rrs := d1.rng (.head _) NCrs.out
  have rk := d1.rng (.head _) NCk.out
  go_wp2_with (first
    | refine wpList_load_mid_w (by rfl) 36 _ (by rfl) w.heap.size 37 (by rfl) _ _ rrs Try.underlying36 rfl SR.out ?_)
  refine (KR.out _).mono ?_
  rintro e w2 ⟨rfl, hb2⟩
  have d2 := d1.call hb2
  clear c1 c2 c3 c4 c101 rls rrs rk
  have c1 := d2.cell (.head _) NC1.out
  have c2 := d2.cell (.head _) NC2.out
  have c3 := d2.cell (.head _) NC3.out
  have c4 := d2.cell (.head _) NC4.out
  have c101 := d2.cell (.head _) NC101.out
  have rls := d2.rng (.head _) NCls.out
  have rrs := d2.rng (.head _) NCrs.out
  have rk := d2.rng (.head _) NCk.out
  go_wp2_with (first
    | refine wpList_load_mid_w (by first | rfl | simpa [Region.wanted, yielded] using s3) 37 _ (by rfl) w.heap.size 69 (by rfl) _ _ rk Try.underlying37 rfl SK.out ?_
    | refine wpList_built (by first | rfl | simpa [Region.wanted, yielded] using s3) 37 _ rfl _ rfl _ BKz.out ?_)
  go_ret
  exact ⟨rfl, d2.1⟩
set_option maxRecDepth 100000 in
set_option maxHeartbeats 2000000 in
theorem right_uc (w : World) (n : Nd) (ok : NdOk n) (sp : Option Addr) (cap : Nat) (hn : n.vs.length ≤ 9223372036854775807) (h1 : n.kd = 2) (z1 : n.ls = zD) (z2 : n.rs = zD) (s1 : SideP n.l n.lc n.ls) (s2 : SideP n.r n.rc n.rs) (s3 : ¬ n.l = n.r) (s4 : n.k = zD) (s5 : n.vs.length = 0) (s6 : n.lc + n.rc < 2) :
    Calls Try.prog 8 #[.agg (ndC n (.slice sp n.vs.length cap)).toArray] w fun e w' => e = .returned (.bool false) ∧ Below w.heap.size w w' := by
  have d0 := (BK.nil w).alloc (ndC n (.slice sp n.vs.length cap)) 39
  have SL := hid (show (Try.prog.info? 36).map (·.size) = some (ints .u8 n.ls).length by rw [Try.sizeD, ints_len, ok.ls])
  have SR := hid (show (Try.prog.info? 36).map (·.size) = some (ints .u8 n.rs).length by rw [Try.sizeD, ints_len, ok.rs])
  have SK := hid (show (Try.prog.info? 37).map (·.size) = some (ints .u8 n.k).length by rw [Try.sizeKy, ints_len, ok.k])
  have qL := eqDg n.ls zD ok.ls rfl
  have qR := eqDg n.rs zD ok.rs rfl
  have qK := eqKy n.k zD ok.k rfl
  have qK2 : ∀ w, (Op.equalIn 10000 37 (.agg (ints .u8 n.k).toArray) (.agg #[.int .u8 0, .int .u8 0, .int .u8 0, .int .u8 0, .int .u8 0, .int .u8 0, .int .u8 0, .int .u8 0, .int .u8 0, .int .u8 0, .int .u8 0, .int .u8 0, .int .u8 0, .int .u8 0, .int .u8 0, .int .u8 0, .int .u8 0, .int .u8 0, .int .u8 0, .int .u8 0, .int .u8 0, .int .u8 0, .int .u8 0, .int .u8 0, .int .u8 0, .int .u8 0, .int .u8 0, .int .u8 0, .int .u8 0, .int .u8 0, .int .u8 0, .int .u8 0])).run Try.prog w = .ok (decide (n.k = zD)) w := eqKy n.k zD ok.k rfl
  have gD := Try.guardDg
  have gK := Try.guardK
  have BZ := hid built_D0
  have BKz := hid built_K0
  have KL := hid (fun w1 => side_any w1 n.l n.lc n.ls ok.ls)
  have KR := hid (fun w1 => side_any w1 n.r n.rc n.rs ok.rs)
  have i0 : (n.vs.length : Int) ≤ 9223372036854775807 := by omega
  have c0 := d0.cell (.head _) (v := .int .i64 n.kd) (j := 0) rfl
  have c1 := d0.cell (.head _) (v := .int .i64 n.l) (j := 1) rfl
  have c2 := d0.cell (.head _) (v := .int .i64 n.r) (j := 2) rfl
  have c3 := d0.cell (.head _) (v := .int .i64 n.lc) (j := 3) rfl
  have c4 := d0.cell (.head _) (v := .int .i64 n.rc) (j := 4) rfl
  have c101 := d0.cell (.head _) (ndC_v ok (.slice sp n.vs.length cap))
  have rls := d0.rng (.head _) (ndC_ls ok (.slice sp n.vs.length cap))
  have rrs := d0.rng (.head _) (ndC_rs ok (.slice sp n.vs.length cap))
  have rk := d0.rng (.head _) (ndC_k ok (.slice sp n.vs.length cap))
  rw [h1] at c0
  clear h1
  rw [decide_eq_true z1] at qL
  clear z1
  rw [decide_eq_true z2] at qR
  clear z2
  have NC1 := hid (show (ndC n (.slice sp n.vs.length cap))[1]? = some (.int .i64 n.l) from rfl)
  have NC2 := hid (show (ndC n (.slice sp n.vs.length cap))[2]? = some (.int .i64 n.r) from rfl)
  have NC3 := hid (show (ndC n (.slice sp n.vs.length cap))[3]? = some (.int .i64 n.lc) from rfl)
  have NC4 := hid (show (ndC n (.slice sp n.vs.length cap))[4]? = some (.int .i64 n.rc) from rfl)
  have NC101 := hid (ndC_v ok (.slice sp n.vs.length cap))
  have NCls := hid (ndC_ls ok (.slice sp n.vs.length cap))
  have NCrs := hid (ndC_rs ok (.slice sp n.vs.length cap))
  have NCk := hid (ndC_k ok (.slice sp n.vs.length cap))
  have q1 := s1.le
  have q2 := s2.le
  rw [decide_eq_true s1] at KL
  clear s1
  rw [decide_eq_true s2] at KR
  clear s2
  rw [decide_eq_true s4] at qK qK2
  clear s4
  have i5 : (n.vs.length : Int) = 0 := by omega
  clear s5
  generalize ints .u8 n.ls = IL at *
  generalize ints .u8 n.rs = IR at *
  generalize ints .u8 n.k = IK at *
  generalize ints .u8 zD = KZ at *
  generalize ndC n (.slice sp n.vs.length cap) = NC at *
  generalize n.vs.length = m at *
  generalize n.l = vl at *
  generalize n.r = vr at *
  generalize n.lc = vlc at *
  generalize n.rc = vrc at *
  go_enter Try.func8, Try.ntmps8
  go_wp2_with (first
    | refine wpList_load_mid_w (by rfl) 36 _ (by rfl) w.heap.size 5 (by rfl) _ _ rls Try.underlying36 rfl SL.out ?_
    | refine wpList_load_mid_w (by rfl) 36 _ (by rfl) w.heap.size 37 (by rfl) _ _ rrs Try.underlying36 rfl SR.out ?_
    | refine wpList_built (by rfl) 36 _ rfl _ rfl _ BZ.out ?_)
  refine (KL.out _).mono ?_
  rintro e w1 ⟨rfl, hb1⟩
  have d1 := d0.call hb1
  clear c1 c2 c3 c4 c101 rls rrs rk
  have c1 := d1.cell (.head _) NC1.out
  have c2 := d1.cell (.head _) NC2.out
  have c3 := d1.cell (.head _) NC3.out
  have c4 := d1.cell (.head _) NC4.out
  have c101 := d1.cell (.head _) NC101.out
  have rls := d1.rng (.head _) NCls.out
  have rrs := d1.rng (.head _) NCrs.out
  have rk := d1.rng (.head _) NCk.out
  go_wp2_with (first
    | refine wpList_load_mid_w (by rfl) 36 _ (by rfl) w.heap.size 37 (by rfl) _ _ rrs Try.underlying36 rfl SR.out ?_)
  refine (KR.out _).mono ?_
  rintro e w2 ⟨rfl, hb2⟩
  have d2 := d1.call hb2
  clear c1 c2 c3 c4 c101 rls rrs rk
  have c1 := d2.cell (.head _) NC1.out
  have c2 := d2.cell (.head _) NC2.out
  have c3 := d2.cell (.head _) NC3.out
  have c4 := d2.cell (.head _) NC4.out
  have c101 := d2.cell (.head _) NC101.out
  have rls := d2.rng (.head _) NCls.out
  have rrs := d2.rng (.head _) NCrs.out
  have rk := d2.rng (.head _) NCk.out
  go_wp2_with (first
    | refine wpList_load_mid_w (by first | rfl | simpa [Region.wanted, yielded] using s3) 37 _ (by rfl) w.heap.size 69 (by rfl) _ _ rk Try.underlying37 rfl SK.out ?_
    | refine wpList_built (by first | rfl | simpa [Region.wanted, yielded] using s3) 37 _ rfl _ rfl _ BKz.out ?_)
  go_ret
  exact ⟨rfl, d2.1⟩
set_option maxRecDepth 100000 in
set_option maxHeartbeats 2000000 in
theorem right_vc (w : World) (n : Nd) (ok : NdOk n) (sp : Option Addr) (cap : Nat) (hn : n.vs.length ≤ 9223372036854775807) (h1 : n.kd = 2) (z1 : n.ls = zD) (z2 : n.rs = zD) (s1 : SideP n.l n.lc n.ls) (s2 : SideP n.r n.rc n.rs) (s3 : ¬ n.l = n.r) (s4 : n.k = zD) (s5 : n.vs.length = 0) (s6 : 2 ≤ n.lc + n.rc) :
    Calls Try.prog 8 #[.agg (ndC n (.slice sp n.vs.length cap)).toArray] w fun e w' => e = .returned (.bool (decide (n.lc + n.rc ≤ 4096))) ∧ Below w.heap.size w w' := by
  have d0 := (BK.nil w).alloc (ndC n (.slice sp n.vs.length cap)) 39
  have SL := hid (show (Try.prog.info? 36).map (·.size) = some (ints .u8 n.ls).length by rw [Try.sizeD, ints_len, ok.ls])
  have SR := hid (show (Try.prog.info? 36).map (·.size) = some (ints .u8 n.rs).length by rw [Try.sizeD, ints_len, ok.rs])
  have SK := hid (show (Try.prog.info? 37).map (·.size) = some (ints .u8 n.k).length by rw [Try.sizeKy, ints_len, ok.k])
  have qL := eqDg n.ls zD ok.ls rfl
  have qR := eqDg n.rs zD ok.rs rfl
  have qK := eqKy n.k zD ok.k rfl
  have qK2 : ∀ w, (Op.equalIn 10000 37 (.agg (ints .u8 n.k).toArray) (.agg #[.int .u8 0, .int .u8 0, .int .u8 0, .int .u8 0, .int .u8 0, .int .u8 0, .int .u8 0, .int .u8 0, .int .u8 0, .int .u8 0, .int .u8 0, .int .u8 0, .int .u8 0, .int .u8 0, .int .u8 0, .int .u8 0, .int .u8 0, .int .u8 0, .int .u8 0, .int .u8 0, .int .u8 0, .int .u8 0, .int .u8 0, .int .u8 0, .int .u8 0, .int .u8 0, .int .u8 0, .int .u8 0, .int .u8 0, .int .u8 0, .int .u8 0, .int .u8 0])).run Try.prog w = .ok (decide (n.k = zD)) w := eqKy n.k zD ok.k rfl
  have gD := Try.guardDg
  have gK := Try.guardK
  have BZ := hid built_D0
  have BKz := hid built_K0
  have KL := hid (fun w1 => side_any w1 n.l n.lc n.ls ok.ls)
  have KR := hid (fun w1 => side_any w1 n.r n.rc n.rs ok.rs)
  have i0 : (n.vs.length : Int) ≤ 9223372036854775807 := by omega
  have c0 := d0.cell (.head _) (v := .int .i64 n.kd) (j := 0) rfl
  have c1 := d0.cell (.head _) (v := .int .i64 n.l) (j := 1) rfl
  have c2 := d0.cell (.head _) (v := .int .i64 n.r) (j := 2) rfl
  have c3 := d0.cell (.head _) (v := .int .i64 n.lc) (j := 3) rfl
  have c4 := d0.cell (.head _) (v := .int .i64 n.rc) (j := 4) rfl
  have c101 := d0.cell (.head _) (ndC_v ok (.slice sp n.vs.length cap))
  have rls := d0.rng (.head _) (ndC_ls ok (.slice sp n.vs.length cap))
  have rrs := d0.rng (.head _) (ndC_rs ok (.slice sp n.vs.length cap))
  have rk := d0.rng (.head _) (ndC_k ok (.slice sp n.vs.length cap))
  rw [h1] at c0
  clear h1
  rw [decide_eq_true z1] at qL
  clear z1
  rw [decide_eq_true z2] at qR
  clear z2
  have NC1 := hid (show (ndC n (.slice sp n.vs.length cap))[1]? = some (.int .i64 n.l) from rfl)
  have NC2 := hid (show (ndC n (.slice sp n.vs.length cap))[2]? = some (.int .i64 n.r) from rfl)
  have NC3 := hid (show (ndC n (.slice sp n.vs.length cap))[3]? = some (.int .i64 n.lc) from rfl)
  have NC4 := hid (show (ndC n (.slice sp n.vs.length cap))[4]? = some (.int .i64 n.rc) from rfl)
  have NC101 := hid (ndC_v ok (.slice sp n.vs.length cap))
  have NCls := hid (ndC_ls ok (.slice sp n.vs.length cap))
  have NCrs := hid (ndC_rs ok (.slice sp n.vs.length cap))
  have NCk := hid (ndC_k ok (.slice sp n.vs.length cap))
  have q1 := s1.le
  have q2 := s2.le
  rw [decide_eq_true s1] at KL
  clear s1
  rw [decide_eq_true s2] at KR
  clear s2
  rw [decide_eq_true s4] at qK qK2
  clear s4
  have i5 : (n.vs.length : Int) = 0 := by omega
  clear s5
  generalize ints .u8 n.ls = IL at *
  generalize ints .u8 n.rs = IR at *
  generalize ints .u8 n.k = IK at *
  generalize ints .u8 zD = KZ at *
  generalize ndC n (.slice sp n.vs.length cap) = NC at *
  generalize n.vs.length = m at *
  generalize n.l = vl at *
  generalize n.r = vr at *
  generalize n.lc = vlc at *
  generalize n.rc = vrc at *
  go_enter Try.func8, Try.ntmps8
  go_wp2_with (first
    | refine wpList_load_mid_w (by rfl) 36 _ (by rfl) w.heap.size 5 (by rfl) _ _ rls Try.underlying36 rfl SL.out ?_
    | refine wpList_load_mid_w (by rfl) 36 _ (by rfl) w.heap.size 37 (by rfl) _ _ rrs Try.underlying36 rfl SR.out ?_
    | refine wpList_built (by rfl) 36 _ rfl _ rfl _ BZ.out ?_)
  refine (KL.out _).mono ?_
  rintro e w1 ⟨rfl, hb1⟩
  have d1 := d0.call hb1
  clear c1 c2 c3 c4 c101 rls rrs rk
  have c1 := d1.cell (.head _) NC1.out
  have c2 := d1.cell (.head _) NC2.out
  have c3 := d1.cell (.head _) NC3.out
  have c4 := d1.cell (.head _) NC4.out
  have c101 := d1.cell (.head _) NC101.out
  have rls := d1.rng (.head _) NCls.out
  have rrs := d1.rng (.head _) NCrs.out
  have rk := d1.rng (.head _) NCk.out
  go_wp2_with (first
    | refine wpList_load_mid_w (by rfl) 36 _ (by rfl) w.heap.size 37 (by rfl) _ _ rrs Try.underlying36 rfl SR.out ?_)
  refine (KR.out _).mono ?_
  rintro e w2 ⟨rfl, hb2⟩
  have d2 := d1.call hb2
  clear c1 c2 c3 c4 c101 rls rrs rk
  have c1 := d2.cell (.head _) NC1.out
  have c2 := d2.cell (.head _) NC2.out
  have c3 := d2.cell (.head _) NC3.out
  have c4 := d2.cell (.head _) NC4.out
  have c101 := d2.cell (.head _) NC101.out
  have rls := d2.rng (.head _) NCls.out
  have rrs := d2.rng (.head _) NCrs.out
  have rk := d2.rng (.head _) NCk.out
  go_wp2_with (first
    | refine wpList_load_mid_w (by first | rfl | simpa [Region.wanted, yielded] using s3) 37 _ (by rfl) w.heap.size 69 (by rfl) _ _ rk Try.underlying37 rfl SK.out ?_
    | refine wpList_built (by first | rfl | simpa [Region.wanted, yielded] using s3) 37 _ rfl _ rfl _ BKz.out ?_)
  go_ret
  exact ⟨rfl, d2.1⟩
end Go.Proofs.Ytbcadiecpcngdaa
