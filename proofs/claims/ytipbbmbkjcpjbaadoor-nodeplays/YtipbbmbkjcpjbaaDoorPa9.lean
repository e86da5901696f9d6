import Derived.Test.YtipbbmbkjcpjbaaDoorNk9
namespace Go.Proofs.YtipbbmbkjcpjbaaDoor
set_option linter.unusedVariables false
set_option linter.unusedSimpArgs false
open Go.RowKit
attribute [local go_sem ↓] Go.wp_at_zero Go.wp_at_succ

theorem eqDg (xs ys : List Int) (ha : xs.length = 32) (hb : ys.length = 32) (w : World) :
    (Op.equalIn 10000 27 (.agg (ints .u8 xs).toArray) (.agg (ints .u8 ys).toArray)).run Tryd.prog w = .ok (decide (xs = ys)) w :=
  equalIn_ints Tryd.underlying27 Tryd.underlying5 Tryd.size5 .u8 xs ys ha hb w
theorem eqDg_self (xs : List Int) (ha : xs.length = 32) (w : World) :
    (Op.equalIn 10000 27 (.agg (ints .u8 xs).toArray) (.agg (ints .u8 xs).toArray)).run Tryd.prog w = .ok true w := by
  rw [eqDg xs xs ha ha]; simp
theorem eqKy_self (xs : List Int) (ha : xs.length = 32) (w : World) :
    (Op.equalIn 10000 26 (.agg (ints .u8 xs).toArray) (.agg (ints .u8 xs).toArray)).run Tryd.prog w = .ok true w := by
  rw [eqKy xs xs ha ha]; simp
theorem Tryd.guardDg : Tryd.prog.eqGuardType Tryd.prog.depth 27 = false := by kernel_rfl
set_option maxRecDepth 100000 in
set_option maxHeartbeats 2000000 in
theorem xchild_z (w : World) (p c : Int) (s : List Int) (hs : s.length = 32) (h0 : p = 0) (h1 : c = 0) :
    Calls Tryd.prog 47 #[.int .i64 p, .int .i64 c, .agg (ints .u8 s).toArray] w fun e w' => e = .returned (.bool (decide (s = zD))) ∧ Below w.heap.size w w' := by
  have r0 := hnew w (.cells (ints .u8 s).toArray 27)
  have hB := (Below.refl w.heap.size w).alloc (Nat.le_refl _) (.cells (ints .u8 s).toArray 27)
  have SD := hid (show (Tryd.prog.info? 27).map (·.size) = some (ints .u8 s).toArray.size by rw [Tryd.sizeD, List.size_toArray, ints_len, hs])
  have qD := eqDg s zD hs rfl
  have gD := Tryd.guardDg
  have BZ := hid built_D0
  subst h0 h1
  generalize decide (s = zD) = E at *
  generalize ints .u8 s = S at *
  generalize ints .u8 zD = Z at *
  go_enter Tryd.func47, Tryd.ntmps47
  go_wp2_with (first
    | refine wpList_load_row_w (by rfl) 27 _ (by rfl) _ (by rfl) 27 _ _ _ r0 Tryd.underlying27 rfl SD.out ?_
    | refine wpList_built (by rfl) 27 _ rfl _ rfl _ BZ.out ?_)
  go_ret
  exact ⟨rfl, hB⟩
set_option maxRecDepth 100000 in
set_option maxHeartbeats 2000000 in
theorem xchild_c (w : World) (p c : Int) (s : List Int) (hs : s.length = 32) (h0 : p = 0) (h1 : ¬ c = 0) :
    Calls Tryd.prog 47 #[.int .i64 p, .int .i64 c, .agg (ints .u8 s).toArray] w fun e w' => e = .returned (.bool false) ∧ Below w.heap.size w w' := by
  have r0 := hnew w (.cells (ints .u8 s).toArray 27)
  have hB := (Below.refl w.heap.size w).alloc (Nat.le_refl _) (.cells (ints .u8 s).toArray 27)
  have SD := hid (show (Tryd.prog.info? 27).map (·.size) = some (ints .u8 s).toArray.size by rw [Tryd.sizeD, List.size_toArray, ints_len, hs])
  have qD := eqDg s zD hs rfl
  have gD := Tryd.guardDg
  have BZ := hid built_D0
  subst h0
  generalize ints .u8 s = S at *
  generalize ints .u8 zD = Z at *
  go_enter Tryd.func47, Tryd.ntmps47
  go_wp2_with (first
    | refine wpList_load_row_w (by rfl) 27 _ (by rfl) _ (by rfl) 27 _ _ _ r0 Tryd.underlying27 rfl SD.out ?_
    | refine wpList_built (by rfl) 27 _ rfl _ rfl _ BZ.out ?_)
  go_ret
  exact ⟨rfl, hB⟩
set_option maxRecDepth 100000 in
set_option maxHeartbeats 2000000 in
theorem xchild_a (w : World) (p c : Int) (s : List Int) (hs : s.length = 32) (h0 : ¬ p = 0) (h1 : ¬ 2 ≤ p) :
    Calls Tryd.prog 47 #[.int .i64 p, .int .i64 c, .agg (ints .u8 s).toArray] w fun e w' => e = .returned (.bool false) ∧ Below w.heap.size w w' := by
  have r0 := hnew w (.cells (ints .u8 s).toArray 27)
  have hB := (Below.refl w.heap.size w).alloc (Nat.le_refl _) (.cells (ints .u8 s).toArray 27)
  have SD := hid (show (Tryd.prog.info? 27).map (·.size) = some (ints .u8 s).toArray.size by rw [Tryd.sizeD, List.size_toArray, ints_len, hs])
  have qD := eqDg s zD hs rfl
  have gD := Tryd.guardDg
  have BZ := hid built_D0
  have h2 : p < 2 := by omega
  generalize ints .u8 s = S at *
  generalize ints .u8 zD = Z at *
  go_enter Tryd.func47, Tryd.ntmps47
  go_wp2_with (first
    | refine wpList_load_row_w (by rfl) 27 _ (by rfl) _ (by rfl) 27 _ _ _ r0 Tryd.underlying27 rfl SD.out ?_
    | refine wpList_built (by rfl) 27 _ rfl _ rfl _ BZ.out ?_)
  go_ret
  exact ⟨rfl, hB⟩
set_option maxRecDepth 100000 in
set_option maxHeartbeats 2000000 in
theorem xchild_b (w : World) (p c : Int) (s : List Int) (hs : s.length = 32) (h0 : ¬ p = 0) (h1 : 2 ≤ p) (h2 : ¬ p < 4096) :
    Calls Tryd.prog 47 #[.int .i64 p, .int .i64 c, .agg (ints .u8 s).toArray] w fun e w' => e = .returned (.bool false) ∧ Below w.heap.size w w' := by
  have r0 := hnew w (.cells (ints .u8 s).toArray 27)
  have hB := (Below.refl w.heap.size w).alloc (Nat.le_refl _) (.cells (ints .u8 s).toArray 27)
  have SD := hid (show (Tryd.prog.info? 27).map (·.size) = some (ints .u8 s).toArray.size by rw [Tryd.sizeD, List.size_toArray, ints_len, hs])
  have qD := eqDg s zD hs rfl
  have gD := Tryd.guardDg
  have BZ := hid built_D0
  have h3 : 4096 ≤ p := by omega
  generalize ints .u8 s = S at *
  generalize ints .u8 zD = Z at *
  go_enter Tryd.func47, Tryd.ntmps47
  go_wp2_with (first
    | refine wpList_load_row_w (by rfl) 27 _ (by rfl) _ (by rfl) 27 _ _ _ r0 Tryd.underlying27 rfl SD.out ?_
    | refine wpList_built (by rfl) 27 _ rfl _ rfl _ BZ.out ?_)
  go_ret
  exact ⟨rfl, hB⟩
set_option maxRecDepth 100000 in
set_option maxHeartbeats 2000000 in
theorem xchild_d (w : World) (p c : Int) (s : List Int) (hs : s.length = 32) (h0 : ¬ p = 0) (h1 : 2 ≤ p) (h2 : p < 4096) (h3 : ¬ 0 < c) :
    Calls Tryd.prog 47 #[.int .i64 p, .int .i64 c, .agg (ints .u8 s).toArray] w fun e w' => e = .returned (.bool false) ∧ Below w.heap.size w w' := by
  have r0 := hnew w (.cells (ints .u8 s).toArray 27)
  have hB := (Below.refl w.heap.size w).alloc (Nat.le_refl _) (.cells (ints .u8 s).toArray 27)
  have SD := hid (show (Tryd.prog.info? 27).map (·.size) = some (ints .u8 s).toArray.size by rw [Tryd.sizeD, List.size_toArray, ints_len, hs])
  have qD := eqDg s zD hs rfl
  have gD := Tryd.guardDg
  have BZ := hid built_D0
  have h4 : c ≤ 0 := by omega
  generalize ints .u8 s = S at *
  generalize ints .u8 zD = Z at *
  go_enter Tryd.func47, Tryd.ntmps47
  go_wp2_with (first
    | refine wpList_load_row_w (by rfl) 27 _ (by rfl) _ (by rfl) 27 _ _ _ r0 Tryd.underlying27 rfl SD.out ?_
    | refine wpList_built (by rfl) 27 _ rfl _ rfl _ BZ.out ?_)
  go_ret
  exact ⟨rfl, hB⟩
set_option maxRecDepth 100000 in
set_option maxHeartbeats 2000000 in
theorem xchild_e (w : World) (p c : Int) (s : List Int) (hs : s.length = 32) (h0 : ¬ p = 0) (h1 : 2 ≤ p) (h2 : p < 4096) (h3 : 0 < c) :
    Calls Tryd.prog 47 #[.int .i64 p, .int .i64 c, .agg (ints .u8 s).toArray] w fun e w' => e = .returned (.bool (decide (c ≤ 4096))) ∧ Below w.heap.size w w' := by
  have r0 := hnew w (.cells (ints .u8 s).toArray 27)
  have hB := (Below.refl w.heap.size w).alloc (Nat.le_refl _) (.cells (ints .u8 s).toArray 27)
  have SD := hid (show (Tryd.prog.info? 27).map (·.size) = some (ints .u8 s).toArray.size by rw [Tryd.sizeD, List.size_toArray, ints_len, hs])
  have qD := eqDg s zD hs rfl
  have gD := Tryd.guardDg
  have BZ := hid built_D0
  generalize ints .u8 s = S at *
  generalize ints .u8 zD = Z at *
  go_enter Tryd.func47, Tryd.ntmps47
  go_wp2_with (first
    | refine wpList_load_row_w (by rfl) 27 _ (by rfl) _ (by rfl) 27 _ _ _ r0 Tryd.underlying27 rfl SD.out ?_
    | refine wpList_built (by rfl) 27 _ rfl _ rfl _ BZ.out ?_)
  go_ret
  exact ⟨rfl, hB⟩
theorem xchild_any (w : World) (p c : Int) (s : List Int) (hs : s.length = 32) :
    Calls Tryd.prog 47 #[.int .i64 p, .int .i64 c, .agg (ints .u8 s).toArray] w fun e w' => e = .returned (.bool (decide (SideP p c s))) ∧ Below w.heap.size w w' := by
  by_cases h0 : p = 0
  · by_cases h1 : c = 0
    · have e : decide (SideP p c s) = decide (s = zD) := by rw [decide_eq_decide]; unfold SideP; constructor; rintro (h | h); exact h.2.2; omega; exact fun h => Or.inl ⟨h0, h1, h⟩
      rw [e]; exact xchild_z w p c s hs h0 h1
    · rw [decide_eq_false (by rintro (h | h) <;> omega)]; exact xchild_c w p c s hs h0 h1
  · by_cases h1 : 2 ≤ p
    · by_cases h2 : p < 4096
      · by_cases h3 : 0 < c
        · have e : decide (SideP p c s) = decide (c ≤ 4096) := by rw [decide_eq_decide]; unfold SideP; constructor; rintro (h | h) <;> omega; exact fun h => Or.inr (by omega)
          rw [e]; exact xchild_e w p c s hs h0 h1 h2 h3
        · rw [decide_eq_false (by rintro (h | h) <;> omega)]; exact xchild_d w p c s hs h0 h1 h2 h3
      · rw [decide_eq_false (by rintro (h | h) <;> omega)]; exact xchild_b w p c s hs h0 h1 h2
    · rw [decide_eq_false (by rintro (h | h) <;> omega)]; exact xchild_a w p c s hs h0 h1
set_option maxRecDepth 100000 in
set_option maxHeartbeats 2000000 in
theorem xright_la1 (w : World) (n : Nd) (ok : NdOk n) (sp : Option Addr) (cap : Nat) (hn : n.vs.length ≤ 9223372036854775807) (h1 : n.kd = 1) (z1 : ¬ n.ls = zD) (h4 : ¬ n.l = 0) :
    Calls Tryd.prog 33 #[.agg (ndC n (.slice sp n.vs.length cap)).toArray] w fun e w' => e = .returned (.bool false) ∧ Below w.heap.size w w' := by
  have d0 := (BK.nil w).alloc (ndC n (.slice sp n.vs.length cap)) 30
  have SL := hid (show (Tryd.prog.info? 27).map (·.size) = some (ints .u8 n.ls).length by rw [Tryd.sizeD, ints_len, ok.ls])
  have SR := hid (show (Tryd.prog.info? 27).map (·.size) = some (ints .u8 n.rs).length by rw [Tryd.sizeD, ints_len, ok.rs])
  have SK := hid (show (Tryd.prog.info? 26).map (·.size) = some (ints .u8 n.k).length by rw [Tryd.sizeKy, ints_len, ok.k])
  have qL := eqDg n.ls zD ok.ls rfl
  have qR := eqDg n.rs zD ok.rs rfl
  have qK := eqKy n.k zD ok.k rfl
  have gD := Tryd.guardDg
  have gK := Tryd.guardK
  have BZ := hid built_D0
  have BKz := hid built_K0
  have KL := hid (fun w1 => xchild_any w1 n.l n.lc n.ls ok.ls)
  have KR := hid (fun w1 => xchild_any w1 n.r n.rc n.rs ok.rs)
  have i0 : (n.vs.length : Int) ≤ 9223372036854775807 := by omega
  have c0 := d0.cell (.head _) (v := .int .i64 n.kd) (j := 0) rfl
  have c1 := d0.cell (.head _) (v := .int .i64 n.l) (j := 1) rfl
  have c2 := d0.cell (.head _) (v := .int .i64 n.r) (j := 2) rfl
  have c3 := d0.cell (.head _) (v := .int .i64 n.lc) (j := 3) rfl
  have c4 := d0.cell (.head _) (v := .int .i64 n.rc) (j := 4) rfl
  have c101 := d0.cell (.head _) (ndC_v ok (.slice sp n.vs.length cap))
  have rls := d0.rng (.head _) (ndC_ls ok (.slice sp n.vs.length cap))
  have rrs := d0.rng (.head _) (ndC_rs ok (.slice sp n.vs.length cap))
  have rk := d0.rng (.head _) (ndC_k ok (.slice sp n.vs.length cap))
  rw [h1] at c0
  clear h1
  rw [decide_eq_false z1] at qL
  clear z1
  generalize ints .u8 n.ls = IL at *
  generalize ints .u8 n.rs = IR at *
  generalize ints .u8 n.k = IK at *
  generalize ints .u8 zD = KZ at *
  generalize ndC n (.slice sp n.vs.length cap) = NC at *
  generalize n.vs.length = m at *
  generalize n.l = vl at *
  generalize n.r = vr at *
  generalize n.lc = vlc at *
  generalize n.rc = vrc at *
  go_enter Tryd.func33, Tryd.ntmps33
  go_wp2_with (first
    | refine wpList_load_mid_w (by rfl) 27 _ (by rfl) w.heap.size 5 (by rfl) _ _ rls Tryd.underlying27 rfl SL.out ?_
    | refine wpList_load_mid_w (by rfl) 27 _ (by rfl) w.heap.size 37 (by rfl) _ _ rrs Tryd.underlying27 rfl SR.out ?_
    | refine wpList_built (by rfl) 27 _ rfl _ rfl _ BZ.out ?_)
  go_ret
  exact ⟨rfl, d0.1⟩
set_option maxRecDepth 100000 in
set_option maxHeartbeats 2000000 in
theorem xright_la2 (w : World) (n : Nd) (ok : NdOk n) (sp : Option Addr) (cap : Nat) (hn : n.vs.length ≤ 9223372036854775807) (h1 : n.kd = 1) (z1 : ¬ n.ls = zD) (h4 : n.l = 0) (h5 : ¬ n.r = 0) :
    Calls Tryd.prog 33 #[.agg (ndC n (.slice sp n.vs.length cap)).toArray] w fun e w' => e = .returned (.bool false) ∧ Below w.heap.size w w' := by
  have d0 := (BK.nil w).alloc (ndC n (.slice sp n.vs.length cap)) 30
  have SL := hid (show (Tryd.prog.info? 27).map (·.size) = some (ints .u8 n.ls).length by rw [Tryd.sizeD, ints_len, ok.ls])
  have SR := hid (show (Tryd.prog.info? 27).map (·.size) = some (ints .u8 n.rs).length by rw [Tryd.sizeD, ints_len, ok.rs])
  have SK := hid (show (Tryd.prog.info? 26).map (·.size) = some (ints .u8 n.k).length by rw [Tryd.sizeKy, ints_len, ok.k])
  have qL := eqDg n.ls zD ok.ls rfl
  have qR := eqDg n.rs zD ok.rs rfl
  have qK := eqKy n.k zD ok.k rfl
  have gD := Tryd.guardDg
  have gK := Tryd.guardK
  have BZ := hid built_D0
  have BKz := hid built_K0
  have KL := hid (fun w1 => xchild_any w1 n.l n.lc n.ls ok.ls)
  have KR := hid (fun w1 => xchild_any w1 n.r n.rc n.rs ok.rs)
  have i0 : (n.vs.length : Int) ≤ 9223372036854775807 := by omega
  have c0 := d0.cell (.head _) (v := .int .i64 n.kd) (j := 0) rfl
  have c1 := d0.cell (.head _) (v := .int .i64 n.l) (j := 1) rfl
  have c2 := d0.cell (.head _) (v := .int .i64 n.r) (j := 2) rfl
  have c3 := d0.cell (.head _) (v := .int .i64 n.lc) (j := 3) rfl
  have c4 := d0.cell (.head _) (v := .int .i64 n.rc) (j := 4) rfl
  have c101 := d0.cell (.head _) (ndC_v ok (.slice sp n.vs.length cap))
  have rls := d0.rng (.head _) (ndC_ls ok (.slice sp n.vs.length cap))
  have rrs := d0.rng (.head _) (ndC_rs ok (.slice sp n.vs.length cap))
  have rk := d0.rng (.head _) (ndC_k ok (.slice sp n.vs.length cap))
  rw [h1] at c0
  clear h1
  rw [decide_eq_false z1] at qL
  clear z1
  rw [h4] at c1
  clear h4
  generalize ints .u8 n.ls = IL at *
  generalize ints .u8 n.rs = IR at *
  generalize ints .u8 n.k = IK at *
  generalize ints .u8 zD = KZ at *
  generalize ndC n (.slice sp n.vs.length cap) = NC at *
  generalize n.vs.length = m at *
  generalize n.l = vl at *
  generalize n.r = vr at *
  generalize n.lc = vlc at *
  generalize n.rc = vrc at *
  go_enter Tryd.func33, Tryd.ntmps33
  go_wp2_with (first
    | refine wpList_load_mid_w (by rfl) 27 _ (by rfl) w.heap.size 5 (by rfl) _ _ rls Tryd.underlying27 rfl SL.out ?_
    | refine wpList_load_mid_w (by rfl) 27 _ (by rfl) w.heap.size 37 (by rfl) _ _ rrs Tryd.underlying27 rfl SR.out ?_
    | refine wpList_built (by rfl) 27 _ rfl _ rfl _ BZ.out ?_)
  go_ret
  exact ⟨rfl, d0.1⟩
set_option maxRecDepth 100000 in
set_option maxHeartbeats 2000000 in
theorem xright_la3 (w : World) (n : Nd) (ok : NdOk n) (sp : Option Addr) (cap : Nat) (hn : n.vs.length ≤ 9223372036854775807) (h1 : n.kd = 1) (z1 : ¬ n.ls = zD) (h4 : n.l = 0) (h5 : n.r = 0) (h6 : ¬ n.lc = 0) :
    Calls Tryd.prog 33 #[.agg (ndC n (.slice sp n.vs.length cap)).toArray] w fun e w' => e = .returned (.bool false) ∧ Below w.heap.size w w' := by
  have d0 := (BK.nil w).alloc (ndC n (.slice sp n.vs.length cap)) 30
  have SL := hid (show (Tryd.prog.info? 27).map (·.size) = some (ints .u8 n.ls).length by rw [Tryd.sizeD, ints_len, ok.ls])
  have SR := hid (show (Tryd.prog.info? 27).map (·.size) = some (ints .u8 n.rs).length by rw [Tryd.sizeD, ints_len, ok.rs])
  have SK := hid (show (Tryd.prog.info? 26).map (·.size) = some (ints .u8 n.k).length by rw [Tryd.sizeKy, ints_len, ok.k])
  have qL := eqDg n.ls zD ok.ls rfl
  have qR := eqDg n.rs zD ok.rs rfl
  have qK := eqKy n.k zD ok.k rfl
  have gD := Tryd.guardDg
  have gK := Tryd.guardK
  have BZ := hid built_D0
  have BKz := hid built_K0
  have KL := hid (fun w1 => xchild_any w1 n.l n.lc n.ls ok.ls)
  have KR := hid (fun w1 => xchild_any w1 n.r n.rc n.rs ok.rs)
  have i0 : (n.vs.length : Int) ≤ 9223372036854775807 := by omega
  have c0 := d0.cell (.head _) (v := .int .i64 n.kd) (j := 0) rfl
  have c1 := d0.cell (.head _) (v := .int .i64 n.l) (j := 1) rfl
  have c2 := d0.cell (.head _) (v := .int .i64 n.r) (j := 2) rfl
  have c3 := d0.cell (.head _) (v := .int .i64 n.lc) (j := 3) rfl
  have c4 := d0.cell (.head _) (v := .int .i64 n.rc) (j := 4) rfl
  have c101 := d0.cell (.head _) (ndC_v ok (.slice sp n.vs.length cap))
  have rls := d0.rng (.head _) (ndC_ls ok (.slice sp n.vs.length cap))
  have rrs := d0.rng (.head _) (ndC_rs ok (.slice sp n.vs.length cap))
  have rk := d0.rng (.head _) (ndC_k ok (.slice sp n.vs.length cap))
  rw [h1] at c0
  clear h1
  rw [decide_eq_false z1] at qL
  clear z1
  rw [h4] at c1
  rw [h5] at c2
  clear h4 h5
  generalize ints .u8 n.ls = IL at *
  generalize ints .u8 n.rs = IR at *
  generalize ints .u8 n.k = IK at *
  generalize ints .u8 zD = KZ at *
  generalize ndC n (.slice sp n.vs.length cap) = NC at *
  generalize n.vs.length = m at *
  generalize n.l = vl at *
  generalize n.r = vr at *
  generalize n.lc = vlc at *
  generalize n.rc = vrc at *
  go_enter Tryd.func33, Tryd.ntmps33
  go_wp2_with (first
    | refine wpList_load_mid_w (by rfl) 27 _ (by rfl) w.heap.size 5 (by rfl) _ _ rls Tryd.underlying27 rfl SL.out ?_
    | refine wpList_load_mid_w (by rfl) 27 _ (by rfl) w.heap.size 37 (by rfl) _ _ rrs Tryd.underlying27 rfl SR.out ?_
    | refine wpList_built (by rfl) 27 _ rfl _ rfl _ BZ.out ?_)
  go_ret
  exact ⟨rfl, d0.1⟩
set_option maxRecDepth 100000 in
set_option maxHeartbeats 2000000 in
theorem xright_la4 (w : World) (n : Nd) (ok : NdOk n) (sp : Option Addr) (cap : Nat) (hn : n.vs.length ≤ 9223372036854775807) (h1 : n.kd = 1) (z1 : ¬ n.ls = zD) (h4 : n.l = 0) (h5 : n.r = 0) (h6 : n.lc = 0) (h7 : ¬ n.rc = 0) :
    Calls Tryd.prog 33 #[.agg (ndC n (.slice sp n.vs.length cap)).toArray] w fun e w' => e = .returned (.bool false) ∧ Below w.heap.size w w' := by
  have d0 := (BK.nil w).alloc (ndC n (.slice sp n.vs.length cap)) 30
  have SL := hid (show (Tryd.prog.info? 27).map (·.size) = some (ints .u8 n.ls).length by rw [Tryd.sizeD, ints_len, ok.ls])
  have SR := hid (show (Tryd.prog.info? 27).map (·.size) = some (ints .u8 n.rs).length by rw [Tryd.sizeD, ints_len, ok.rs])
  have SK := hid (show (Tryd.prog.info? 26).map (·.size) = some (ints .u8 n.k).length by rw [Tryd.sizeKy, ints_len, ok.k])
  have qL := eqDg n.ls zD ok.ls rfl
  have qR := eqDg n.rs zD ok.rs rfl
  have qK := eqKy n.k zD ok.k rfl
  have gD := Tryd.guardDg
  have gK := Tryd.guardK
  have BZ := hid built_D0
  have BKz := hid built_K0
  have KL := hid (fun w1 => xchild_any w1 n.l n.lc n.ls ok.ls)
  have KR := hid (fun w1 => xchild_any w1 n.r n.rc n.rs ok.rs)
  have i0 : (n.vs.length : Int) ≤ 9223372036854775807 := by omega
  have c0 := d0.cell (.head _) (v := .int .i64 n.kd) (j := 0) rfl
  have c1 := d0.cell (.head _) (v := .int .i64 n.l) (j := 1) rfl
  have c2 := d0.cell (.head _) (v := .int .i64 n.r) (j := 2) rfl
  have c3 := d0.cell (.head _) (v := .int .i64 n.lc) (j := 3) rfl
  have c4 := d0.cell (.head _) (v := .int .i64 n.rc) (j := 4) rfl
  have c101 := d0.cell (.head _) (ndC_v ok (.slice sp n.vs.length cap))
  have rls := d0.rng (.head _) (ndC_ls ok (.slice sp n.vs.length cap))
  have rrs := d0.rng (.head _) (ndC_rs ok (.slice sp n.vs.length cap))
  have rk := d0.rng (.head _) (ndC_k ok (.slice sp n.vs.length cap))
  rw [h1] at c0
  clear h1
  rw [decide_eq_false z1] at qL
  clear z1
  rw [h4] at c1
  rw [h5] at c2
  rw [h6] at c3
  clear h4 h5 h6
  generalize ints .u8 n.ls = IL at *
  generalize ints .u8 n.rs = IR at *
  generalize ints .u8 n.k = IK at *
  generalize ints .u8 zD = KZ at *
  generalize ndC n (.slice sp n.vs.length cap) = NC at *
  generalize n.vs.length = m at *
  generalize n.l = vl at *
  generalize n.r = vr at *
  generalize n.lc = vlc at *
  generalize n.rc = vrc at *
  go_enter Tryd.func33, Tryd.ntmps33
  go_wp2_with (first
    | refine wpList_load_mid_w (by rfl) 27 _ (by rfl) w.heap.size 5 (by rfl) _ _ rls Tryd.underlying27 rfl SL.out ?_
    | refine wpList_load_mid_w (by rfl) 27 _ (by rfl) w.heap.size 37 (by rfl) _ _ rrs Tryd.underlying27 rfl SR.out ?_
    | refine wpList_built (by rfl) 27 _ rfl _ rfl _ BZ.out ?_)
  go_ret
  exact ⟨rfl, d0.1⟩
set_option maxRecDepth 100000 in
set_option maxHeartbeats 2000000 in
theorem xright_la5 (w : World) (n : Nd) (ok : NdOk n) (sp : Option Addr) (cap : Nat) (hn : n.vs.length ≤ 9223372036854775807) (h1 : n.kd = 1) (z1 : ¬ n.ls = zD) (h4 : n.l = 0) (h5 : n.r = 0) (h6 : n.lc = 0) (h7 : n.rc = 0) :
    Calls Tryd.prog 33 #[.agg (ndC n (.slice sp n.vs.length cap)).toArray] w fun e w' => e = .returned (.bool false) ∧ Below w.heap.size w w' := by
  have d0 := (BK.nil w).alloc (ndC n (.slice sp n.vs.length cap)) 30
  have SL := hid (show (Tryd.prog.info? 27).map (·.size) = some (ints .u8 n.ls).length by rw [Tryd.sizeD, ints_len, ok.ls])
  have SR := hid (show (Tryd.prog.info? 27).map (·.size) = some (ints .u8 n.rs).length by rw [Tryd.sizeD, ints_len, ok.rs])
  have SK := hid (show (Tryd.prog.info? 26).map (·.size) = some (ints .u8 n.k).length by rw [Tryd.sizeKy, ints_len, ok.k])
  have qL := eqDg n.ls zD ok.ls rfl
  have qR := eqDg n.rs zD ok.rs rfl
  have qK := eqKy n.k zD ok.k rfl
  have gD := Tryd.guardDg
  have gK := Tryd.guardK
  have BZ := hid built_D0
  have BKz := hid built_K0
  have KL := hid (fun w1 => xchild_any w1 n.l n.lc n.ls ok.ls)
  have KR := hid (fun w1 => xchild_any w1 n.r n.rc n.rs ok.rs)
  have i0 : (n.vs.length : Int) ≤ 9223372036854775807 := by omega
  have c0 := d0.cell (.head _) (v := .int .i64 n.kd) (j := 0) rfl
  have c1 := d0.cell (.head _) (v := .int .i64 n.l) (j := 1) rfl
  have c2 := d0.cell (.head _) (v := .int .i64 n.r) (j := 2) rfl
  have c3 := d0.cell (.head _) (v := .int .i64 n.lc) (j := 3) rfl
  have c4 := d0.cell (.head _) (v := .int .i64 n.rc) (j := 4) rfl
  have c101 := d0.cell (.head _) (ndC_v ok (.slice sp n.vs.length cap))
  have rls := d0.rng (.head _) (ndC_ls ok (.slice sp n.vs.length cap))
  have rrs := d0.rng (.head _) (ndC_rs ok (.slice sp n.vs.length cap))
  have rk := d0.rng (.head _) (ndC_k ok (.slice sp n.vs.length cap))
  rw [h1] at c0
  clear h1
  rw [decide_eq_false z1] at qL
  clear z1
  rw [h4] at c1
  rw [h5] at c2
  rw [h6] at c3
  rw [h7] at c4
  clear h4 h5 h6 h7
  generalize ints .u8 n.ls = IL at *
  generalize ints .u8 n.rs = IR at *
  generalize ints .u8 n.k = IK at *
  generalize ints .u8 zD = KZ at *
  generalize ndC n (.slice sp n.vs.length cap) = NC at *
  generalize n.vs.length = m at *
  generalize n.l = vl at *
  generalize n.r = vr at *
  generalize n.lc = vlc at *
  generalize n.rc = vrc at *
  go_enter Tryd.func33, Tryd.ntmps33
  go_wp2_with (first
    | refine wpList_load_mid_w (by rfl) 27 _ (by rfl) w.heap.size 5 (by rfl) _ _ rls Tryd.underlying27 rfl SL.out ?_
    | refine wpList_load_mid_w (by rfl) 27 _ (by rfl) w.heap.size 37 (by rfl) _ _ rrs Tryd.underlying27 rfl SR.out ?_
    | refine wpList_built (by rfl) 27 _ rfl _ rfl _ BZ.out ?_)
  go_ret
  exact ⟨rfl, d0.1⟩
set_option maxRecDepth 100000 in
set_option maxHeartbeats 2000000 in
theorem xright_lb1 (w : World) (n : Nd) (ok : NdOk n) (sp : Option Addr) (cap : Nat) (hn : n.vs.length ≤ 9223372036854775807) (h1 : n.kd = 1) (z1 : n.ls = zD) (z2 : ¬ n.rs = zD) (h4 : ¬ n.l = 0) :
    Calls Tryd.prog 33 #[.agg (ndC n (.slice sp n.vs.length cap)).toArray] w fun e w' => e = .returned (.bool false) ∧ Below w.heap.size w w' := by
  have d0 := (BK.nil w).alloc (ndC n (.slice sp n.vs.length cap)) 30
  have SL := hid (show (Tryd.prog.info? 27).map (·.size) = some (ints .u8 n.ls).length by rw [Tryd.sizeD, ints_len, ok.ls])
  have SR := hid (show (Tryd.prog.info? 27).map (·.size) = some (ints .u8 n.rs).length by rw [Tryd.sizeD, ints_len, ok.rs])
  have SK := hid (show (Tryd.prog.info? 26).map (·.size) = some (ints .u8 n.k).length by rw [Tryd.sizeKy, ints_len, ok.k])
  have qL := eqDg n.ls zD ok.ls rfl
  have qR := eqDg n.rs zD ok.rs rfl
  have qK := eqKy n.k zD ok.k rfl
  have gD := Tryd.guardDg
  have gK := Tryd.guardK
  have BZ := hid built_D0
  have BKz := hid built_K0
  have KL := hid (fun w1 => xchild_any w1 n.l n.lc n.ls ok.ls)
  have KR := hid (fun w1 => xchild_any w1 n.r n.rc n.rs ok.rs)
  have i0 : (n.vs.length : Int) ≤ 9223372036854775807 := by omega
  have c0 := d0.cell (.head _) (v := .int .i64 n.kd) (j := 0) rfl
  have c1 := d0.cell (.head _) (v := .int .i64 n.l) (j := 1) rfl
  have c2 := d0.cell (.head _) (v := .int .i64 n.r) (j := 2) rfl
  have c3 := d0.cell (.head _) (v := .int .i64 n.lc) (j := 3) rfl
  have c4 := d0.cell (.head _) (v := .int .i64 n.rc) (j := 4) rfl
  have c101 := d0.cell (.head _) (ndC_v ok (.slice sp n.vs.length cap))
  have rls := d0.rng (.head _) (ndC_ls ok (.slice sp n.vs.length cap))
  have rrs := d0.rng (.head _) (ndC_rs ok (.slice sp n.vs.length cap))
  have rk := d0.rng (.head _) (ndC_k ok (.slice sp n.vs.length cap))
  rw [h1] at c0
  clear h1
  rw [decide_eq_true z1] at qL
  clear z1
  rw [decide_eq_false z2] at qR
  clear z2
  generalize ints .u8 n.ls = IL at *
  generalize ints .u8 n.rs = IR at *
  generalize ints .u8 n.k = IK at *
  generalize ints .u8 zD = KZ at *
  generalize ndC n (.slice sp n.vs.length cap) = NC at *
  generalize n.vs.length = m at *
  generalize n.l = vl at *
  generalize n.r = vr at *
  generalize n.lc = vlc at *
  generalize n.rc = vrc at *
  go_enter Tryd.func33, Tryd.ntmps33
  go_wp2_with (first
    | refine wpList_load_mid_w (by rfl) 27 _ (by rfl) w.heap.size 5 (by rfl) _ _ rls Tryd.underlying27 rfl SL.out ?_
    | refine wpList_load_mid_w (by rfl) 27 _ (by rfl) w.heap.size 37 (by rfl) _ _ rrs Tryd.underlying27 rfl SR.out ?_
    | refine wpList_built (by rfl) 27 _ rfl _ rfl _ BZ.out ?_)
  go_ret
  exact ⟨rfl, d0.1⟩
set_option maxRecDepth 100000 in
set_option maxHeartbeats 2000000 in
theorem xright_lb2 (w : World) (n : Nd) (ok : NdOk n) (sp : Option Addr) (cap : Nat) (hn : n.vs.length ≤ 9223372036854775807) (h1 : n.kd = 1) (z1 : n.ls = zD) (z2 : ¬ n.rs = zD) (h4 : n.l = 0) (h5 : ¬ n.r = 0) :
    Calls Tryd.prog 33 #[.agg (ndC n (.slice sp n.vs.length cap)).toArray] w fun e w' => e = .returned (.bool false) ∧ Below w.heap.size w w' := by
  have d0 := (BK.nil w).alloc (ndC n (.slice sp n.vs.length cap)) 30
  have SL := hid (show (Tryd.prog.info? 27).map (·.size) = some (ints .u8 n.ls).length by rw [Tryd.sizeD, ints_len, ok.ls])
  have SR := hid (show (Tryd.prog.info? 27).map (·.size) = some (ints .u8 n.rs).length by rw [Tryd.sizeD, ints_len, ok.rs])
  have SK := hid (show (Tryd.prog.info? 26).map (·.size) = some (ints .u8 n.k).length by rw [Tryd.sizeKy, ints_len, ok.k])
  have qL := eqDg n.ls zD ok.ls rfl
  have qR := eqDg n.rs zD ok.rs rfl
  have qK := eqKy n.k zD ok.k rfl
  have gD := Tryd.guardDg
  have gK := Tryd.guardK
  have BZ := hid built_D0
  have BKz := hid built_K0
  have KL := hid (fun w1 => xchild_any w1 n.l n.lc n.ls ok.ls)
  have KR := hid (fun w1 => xchild_any w1 n.r n.rc n.rs ok.rs)
  have i0 : (n.vs.length : Int) ≤ 9223372036854775807 := by omega
  have c0 := d0.cell (.head _) (v := .int .i64 n.kd) (j := 0) rfl
  have c1 := d0.cell (.head _) (v := .int .i64 n.l) (j := 1) rfl
  have c2 := d0.cell (.head _) (v := .int .i64 n.r) (j := 2) rfl
  have c3 := d0.cell (.head _) (v := .int .i64 n.lc) (j := 3) rfl
  have c4 := d0.cell (.head _) (v := .int .i64 n.rc) (j := 4) rfl
  have c101 := d0.cell (.head _) (ndC_v ok (.slice sp n.vs.length cap))
  have rls := d0.rng (.head _) (ndC_ls ok (.slice sp n.vs.length cap))
  have rrs := d0.rng (.head _) (ndC_rs ok (.slice sp n.vs.length cap))
  have rk := d0.rng (.head _) (ndC_k ok (.slice sp n.vs.length cap))
  rw [h1] at c0
  clear h1
  rw [decide_eq_true z1] at qL
  clear z1
  rw [decide_eq_false z2] at qR
  clear z2
  rw [h4] at c1
  clear h4
  generalize ints .u8 n.ls = IL at *
  generalize ints .u8 n.rs = IR at *
  generalize ints .u8 n.k = IK at *
  generalize ints .u8 zD = KZ at *
  generalize ndC n (.slice sp n.vs.length cap) = NC at *
  generalize n.vs.length = m at *
  generalize n.l = vl at *
  generalize n.r = vr at *
  generalize n.lc = vlc at *
  generalize n.rc = vrc at *
  go_enter Tryd.func33, Tryd.ntmps33
  go_wp2_with (first
    | refine wpList_load_mid_w (by rfl) 27 _ (by rfl) w.heap.size 5 (by rfl) _ _ rls Tryd.underlying27 rfl SL.out ?_
    | refine wpList_load_mid_w (by rfl) 27 _ (by rfl) w.heap.size 37 (by rfl) _ _ rrs Tryd.underlying27 rfl SR.out ?_
    | refine wpList_built (by rfl) 27 _ rfl _ rfl _ BZ.out ?_)
  go_ret
  exact ⟨rfl, d0.1⟩
set_option maxRecDepth 100000 in
set_option maxHeartbeats 2000000 in
theorem xright_lb3 (w : World) (n : Nd) (ok : NdOk n) (sp : Option Addr) (cap : Nat) (hn : n.vs.length ≤ 9223372036854775807) (h1 : n.kd = 1) (z1 : n.ls = zD) (z2 : ¬ n.rs = zD) (h4 : n.l = 0) (h5 : n.r = 0) (h6 : ¬ n.lc = 0) :
    Calls Tryd.prog 33 #[.agg (ndC n (.slice sp n.vs.length cap)).toArray] w fun e w' => e = .returned (.bool false) ∧ Below w.heap.size w w' := by
  have d0 := (BK.nil w).alloc (ndC n (.slice sp n.vs.length cap)) 30
  have SL := hid (show (Tryd.prog.info? 27).map (·.size) = some (ints .u8 n.ls).length by rw [Tryd.sizeD, ints_len, ok.ls])
  have SR := hid (show (Tryd.prog.info? 27).map (·.size) = some (ints .u8 n.rs).length by rw [Tryd.sizeD, ints_len, ok.rs])
  have SK := hid (show (Tryd.prog.info? 26).map (·.size) = some (ints .u8 n.k).length by rw [Tryd.sizeKy, ints_len, ok.k])
  have qL := eqDg n.ls zD ok.ls rfl
  have qR := eqDg n.rs zD ok.rs rfl
  have qK := eqKy n.k zD ok.k rfl
  have gD := Tryd.guardDg
  have gK := Tryd.guardK
  have BZ := hid built_D0
  have BKz := hid built_K0
  have KL := hid (fun w1 => xchild_any w1 n.l n.lc n.ls ok.ls)
  have KR := hid (fun w1 => xchild_any w1 n.r n.rc n.rs ok.rs)
  have i0 : (n.vs.length : Int) ≤ 9223372036854775807 := by omega
  have c0 := d0.cell (.head _) (v := .int .i64 n.kd) (j := 0) rfl
  have c1 := d0.cell (.head _) (v := .int .i64 n.l) (j := 1) rfl
  have c2 := d0.cell (.head _) (v := .int .i64 n.r) (j := 2) rfl
  have c3 := d0.cell (.head _) (v := .int .i64 n.lc) (j := 3) rfl
  have c4 := d0.cell (.head _) (v := .int .i64 n.rc) (j := 4) rfl
  have c101 := d0.cell (.head _) (ndC_v ok (.slice sp n.vs.length cap))
  have rls := d0.rng (.head _) (ndC_ls ok (.slice sp n.vs.length cap))
  have rrs := d0.rng (.head _) (ndC_rs ok (.slice sp n.vs.length cap))
  have rk := d0.rng (.head _) (ndC_k ok (.slice sp n.vs.length cap))
  rw [h1] at c0
  clear h1
  rw [decide_eq_true z1] at qL
  clear z1
  rw [decide_eq_false z2] at qR
  clear z2
  rw [h4] at c1
  rw [h5] at c2
  clear h4 h5
  generalize ints .u8 n.ls = IL at *
  generalize ints .u8 n.rs = IR at *
  generalize ints .u8 n.k = IK at *
  generalize ints .u8 zD = KZ at *
  generalize ndC n (.slice sp n.vs.length cap) = NC at *
  generalize n.vs.length = m at *
  generalize n.l = vl at *
  generalize n.r = vr at *
  generalize n.lc = vlc at *
  generalize n.rc = vrc at *
  go_enter Tryd.func33, Tryd.ntmps33
  go_wp2_with (first
    | refine wpList_load_mid_w (by rfl) 27 _ (by rfl) w.heap.size 5 (by rfl) _ _ rls Tryd.underlying27 rfl SL.out ?_
    | refine wpList_load_mid_w (by rfl) 27 _ (by rfl) w.heap.size 37 (by rfl) _ _ rrs Tryd.underlying27 rfl SR.out ?_
    | refine wpList_built (by rfl) 27 _ rfl _ rfl _ BZ.out ?_)
  go_ret
  exact ⟨rfl, d0.1⟩
set_option maxRecDepth 100000 in
set_option maxHeartbeats 2000000 in
theorem xright_lb4 (w : World) (n : Nd) (ok : NdOk n) (sp : Option Addr) (cap : Nat) (hn : n.vs.length ≤ 9223372036854775807) (h1 : n.kd = 1) (z1 : n.ls = zD) (z2 : ¬ n.rs = zD) (h4 : n.l = 0) (h5 : n.r = 0) (h6 : n.lc = 0) (h7 : ¬ n.rc = 0) :
    Calls Tryd.prog 33 #[.agg (ndC n (.slice sp n.vs.length cap)).toArray] w fun e w' => e = .returned (.bool false) ∧ Below w.heap.size w w' := by
  have d0 := (BK.nil w).alloc (ndC n (.slice sp n.vs.length cap)) 30
  have SL := hid (show (Tryd.prog.info? 27).map (·.size) = some (ints .u8 n.ls).length by rw [Tryd.sizeD, ints_len, ok.ls])
  have SR := hid (show (Tryd.prog.info? 27).map (·.size) = some (ints .u8 n.rs).length by rw [Tryd.sizeD, ints_len, ok.rs])
  have SK := hid (show (Tryd.prog.info? 26).map (·.size) = some (ints .u8 n.k).length by rw [Tryd.sizeKy, ints_len, ok.k])
  have qL := eqDg n.ls zD ok.ls rfl
  have qR := eqDg n.rs zD ok.rs rfl
  have qK := eqKy n.k zD ok.k rfl
  have gD := Tryd.guardDg
  have gK := Tryd.guardK
  have BZ := hid built_D0
  have BKz := hid built_K0
  have KL := hid (fun w1 => xchild_any w1 n.l n.lc n.ls ok.ls)
  have KR := hid (fun w1 => xchild_any w1 n.r n.rc n.rs ok.rs)
  have i0 : (n.vs.length : Int) ≤ 9223372036854775807 := by omega
  have c0 := d0.cell (.head _) (v := .int .i64 n.kd) (j := 0) rfl
  have c1 := d0.cell (.head _) (v := .int .i64 n.l) (j := 1) rfl
  have c2 := d0.cell (.head _) (v := .int .i64 n.r) (j := 2) rfl
  have c3 := d0.cell (.head _) (v := .int .i64 n.lc) (j := 3) rfl
  have c4 := d0.cell (.head _) (v := .int .i64 n.rc) (j := 4) rfl
  have c101 := d0.cell (.head _) (ndC_v ok (.slice sp n.vs.length cap))
  have rls := d0.rng (.head _) (ndC_ls ok (.slice sp n.vs.length cap))
  have rrs := d0.rng (.head _) (ndC_rs ok (.slice sp n.vs.length cap))
  have rk := d0.rng (.head _) (ndC_k ok (.slice sp n.vs.length cap))
  rw [h1] at c0
  clear h1
  rw [decide_eq_true z1] at qL
  clear z1
  rw [decide_eq_false z2] at qR
  clear z2
  rw [h4] at c1
  rw [h5] at c2
  rw [h6] at c3
  clear h4 h5 h6
  generalize ints .u8 n.ls = IL at *
  generalize ints .u8 n.rs = IR at *
  generalize ints .u8 n.k = IK at *
  generalize ints .u8 zD = KZ at *
  generalize ndC n (.slice sp n.vs.length cap) = NC at *
  generalize n.vs.length = m at *
  generalize n.l = vl at *
  generalize n.r = vr at *
  generalize n.lc = vlc at *
  generalize n.rc = vrc at *
  go_enter Tryd.func33, Tryd.ntmps33
  go_wp2_with (first
    | refine wpList_load_mid_w (by rfl) 27 _ (by rfl) w.heap.size 5 (by rfl) _ _ rls Tryd.underlying27 rfl SL.out ?_
    | refine wpList_load_mid_w (by rfl) 27 _ (by rfl) w.heap.size 37 (by rfl) _ _ rrs Tryd.underlying27 rfl SR.out ?_
    | refine wpList_built (by rfl) 27 _ rfl _ rfl _ BZ.out ?_)
  go_ret
  exact ⟨rfl, d0.1⟩
set_option maxRecDepth 100000 in
set_option maxHeartbeats 2000000 in
theorem xright_lb5 (w : World) (n : Nd) (ok : NdOk n) (sp : Option Addr) (cap : Nat) (hn : n.vs.length ≤ 9223372036854775807) (h1 : n.kd = 1) (z1 : n.ls = zD) (z2 : ¬ n.rs = zD) (h4 : n.l = 0) (h5 : n.r = 0) (h6 : n.lc = 0) (h7 : n.rc = 0) :
    Calls Tryd.prog 33 #[.agg (ndC n (.slice sp n.vs.length cap)).toArray] w fun e w' => e = .returned (.bool false) ∧ Below w.heap.size w w' := by
  have d0 := (BK.nil w).alloc (ndC n (.slice sp n.vs.length cap)) 30
  have SL := hid (show (Tryd.prog.info? 27).map (·.size) = some (ints .u8 n.ls).length by rw [Tryd.sizeD, ints_len, ok.ls])
  have SR := hid (show (Tryd.prog.info? 27).map (·.size) = some (ints .u8 n.rs).length by rw [Tryd.sizeD, ints_len, ok.rs])
  have SK := hid (show (Tryd.prog.info? 26).map (·.size) = some (ints .u8 n.k).length by rw [Tryd.sizeKy, ints_len, ok.k])
  have qL := eqDg n.ls zD ok.ls rfl
  have qR := eqDg n.rs zD ok.rs rfl
  have qK := eqKy n.k zD ok.k rfl
  have gD := Tryd.guardDg
  have gK := Tryd.guardK
  have BZ := hid built_D0
  have BKz := hid built_K0
  have KL := hid (fun w1 => xchild_any w1 n.l n.lc n.ls ok.ls)
  have KR := hid (fun w1 => xchild_any w1 n.r n.rc n.rs ok.rs)
  have i0 : (n.vs.length : Int) ≤ 9223372036854775807 := by omega
  have c0 := d0.cell (.head _) (v := .int .i64 n.kd) (j := 0) rfl
  have c1 := d0.cell (.head _) (v := .int .i64 n.l) (j := 1) rfl
  have c2 := d0.cell (.head _) (v := .int .i64 n.r) (j := 2) rfl
  have c3 := d0.cell (.head _) (v := .int .i64 n.lc) (j := 3) rfl
  have c4 := d0.cell (.head _) (v := .int .i64 n.rc) (j := 4) rfl
  have c101 := d0.cell (.head _) (ndC_v ok (.slice sp n.vs.length cap))
  have rls := d0.rng (.head _) (ndC_ls ok (.slice sp n.vs.length cap))
  have rrs := d0.rng (.head _) (ndC_rs ok (.slice sp n.vs.length cap))
  have rk := d0.rng (.head _) (ndC_k ok (.slice sp n.vs.length cap))
  rw [h1] at c0
  clear h1
  rw [decide_eq_true z1] at qL
  clear z1
  rw [decide_eq_false z2] at qR
  clear z2
  rw [h4] at c1
  rw [h5] at c2
  rw [h6] at c3
  rw [h7] at c4
  clear h4 h5 h6 h7
  generalize ints .u8 n.ls = IL at *
  generalize ints .u8 n.rs = IR at *
  generalize ints .u8 n.k = IK at *
  generalize ints .u8 zD = KZ at *
  generalize ndC n (.slice sp n.vs.length cap) = NC at *
  generalize n.vs.length = m at *
  generalize n.l = vl at *
  generalize n.r = vr at *
  generalize n.lc = vlc at *
  generalize n.rc = vrc at *
  go_enter Tryd.func33, Tryd.ntmps33
  go_wp2_with (first
    | refine wpList_load_mid_w (by rfl) 27 _ (by rfl) w.heap.size 5 (by rfl) _ _ rls Tryd.underlying27 rfl SL.out ?_
    | refine wpList_load_mid_w (by rfl) 27 _ (by rfl) w.heap.size 37 (by rfl) _ _ rrs Tryd.underlying27 rfl SR.out ?_
    | refine wpList_built (by rfl) 27 _ rfl _ rfl _ BZ.out ?_)
  go_ret
  exact ⟨rfl, d0.1⟩
set_option maxRecDepth 100000 in
set_option maxHeartbeats 2000000 in
theorem xright_lc1 (w : World) (n : Nd) (ok : NdOk n) (sp : Option Addr) (cap : Nat) (hn : n.vs.length ≤ 9223372036854775807) (h1 : n.kd = 1) (z1 : n.ls = zD) (z2 : n.rs = zD) (h4 : ¬ n.l = 0) :
    Calls Tryd.prog 33 #[.agg (ndC n (.slice sp n.vs.length cap)).toArray] w fun e w' => e = .returned (.bool false) ∧ Below w.heap.size w w' := by
  have d0 := (BK.nil w).alloc (ndC n (.slice sp n.vs.length cap)) 30
  have SL := hid (show (Tryd.prog.info? 27).map (·.size) = some (ints .u8 n.ls).length by rw [Tryd.sizeD, ints_len, ok.ls])
  have SR := hid (show (Tryd.prog.info? 27).map (·.size) = some (ints .u8 n.rs).length by rw [Tryd.sizeD, ints_len, ok.rs])
  have SK := hid (show (Tryd.prog.info? 26).map (·.size) = some (ints .u8 n.k).length by rw [Tryd.sizeKy, ints_len, ok.k])
  have qL := eqDg n.ls zD ok.ls rfl
  have qR := eqDg n.rs zD ok.rs rfl
  have qK := eqKy n.k zD ok.k rfl
  have gD := Tryd.guardDg
  have gK := Tryd.guardK
  have BZ := hid built_D0
  have BKz := hid built_K0
  have KL := hid (fun w1 => xchild_any w1 n.l n.lc n.ls ok.ls)
  have KR := hid (fun w1 => xchild_any w1 n.r n.rc n.rs ok.rs)
  have i0 : (n.vs.length : Int) ≤ 9223372036854775807 := by omega
  have c0 := d0.cell (.head _) (v := .int .i64 n.kd) (j := 0) rfl
  have c1 := d0.cell (.head _) (v := .int .i64 n.l) (j := 1) rfl
  have c2 := d0.cell (.head _) (v := .int .i64 n.r) (j := 2) rfl
  have c3 := d0.cell (.head _) (v := .int .i64 n.lc) (j := 3) rfl
  have c4 := d0.cell (.head _) (v := .int .i64 n.rc) (j := 4) rfl
  have c101 := d0.cell (.head _) (ndC_v ok (.slice sp n.vs.length cap))
  have rls := d0.rng (.head _) (ndC_ls ok (.slice sp n.vs.length cap))
  have rrs := d0.rng (.head _) (ndC_rs ok (.slice sp n.vs.length cap))
  have rk := d0.rng (.head _) (ndC_k ok (.slice sp n.vs.length cap))
  rw [h1] at c0
  clear h1
  rw [decide_eq_true z1] at qL
  clear z1
  rw [decide_eq_true z2] at qR
  clear z2
  generalize ints .u8 n.ls = IL at *
  generalize ints .u8 n.rs = IR at *
  generalize ints .u8 n.k = IK at *
  generalize ints .u8 zD = KZ at *
  generalize ndC n (.slice sp n.vs.length cap) = NC at *
  generalize n.vs.length = m at *
  generalize n.l = vl at *
  generalize n.r = vr at *
  generalize n.lc = vlc at *
  generalize n.rc = vrc at *
  go_enter Tryd.func33, Tryd.ntmps33
  go_wp2_with (first
    | refine wpList_load_mid_w (by rfl) 27 _ (by rfl) w.heap.size 5 (by rfl) _ _ rls Tryd.underlying27 rfl SL.out ?_
    | refine wpList_load_mid_w (by rfl) 27 _ (by rfl) w.heap.size 37 (by rfl) _ _ rrs Tryd.underlying27 rfl SR.out ?_
    | refine wpList_built (by rfl) 27 _ rfl _ rfl _ BZ.out ?_)
  go_ret
  exact ⟨rfl, d0.1⟩
set_option maxRecDepth 100000 in
set_option maxHeartbeats 2000000 in
theorem xright_lc2 (w : World) (n : Nd) (ok : NdOk n) (sp : Option Addr) (cap : Nat) (hn : n.vs.length ≤ 9223372036854775807) (h1 : n.kd = 1) (z1 : n.ls = zD) (z2 : n.rs = zD) (h4 : n.l = 0) (h5 : ¬ n.r = 0) :
    Calls Tryd.prog 33 #[.agg (ndC n (.slice sp n.vs.length cap)).toArray] w fun e w' => e = .returned (.bool false) ∧ Below w.heap.size w w' := by
  have d0 := (BK.nil w).alloc (ndC n (.slice sp n.vs.length cap)) 30
  have SL := hid (show (Tryd.prog.info? 27).map (·.size) = some (ints .u8 n.ls).length by rw [Tryd.sizeD, ints_len, ok.ls])
  have SR := hid (show (Tryd.prog.info? 27).map (·.size) = some (ints .u8 n.rs).length by rw [Tryd.sizeD, ints_len, ok.rs])
  have SK := hid (show (Tryd.prog.info? 26).map (·.size) = some (ints .u8 n.k).length by rw [Tryd.sizeKy, ints_len, ok.k])
  have qL := eqDg n.ls zD ok.ls rfl
  have qR := eqDg n.rs zD ok.rs rfl
  have qK := eqKy n.k zD ok.k rfl
  have gD := Tryd.guardDg
  have gK := Tryd.guardK
  have BZ := hid built_D0
  have BKz := hid built_K0
  have KL := hid (fun w1 => xchild_any w1 n.l n.lc n.ls ok.ls)
  have KR := hid (fun w1 => xchild_any w1 n.r n.rc n.rs ok.rs)
  have i0 : (n.vs.length : Int) ≤ 9223372036854775807 := by omega
  have c0 := d0.cell (.head _) (v := .int .i64 n.kd) (j := 0) rfl
  have c1 := d0.cell (.head _) (v := .int .i64 n.l) (j := 1) rfl
  have c2 := d0.cell (.head _) (v := .int .i64 n.r) (j := 2) rfl
  have c3 := d0.cell (.head _) (v := .int .i64 n.lc) (j := 3) rfl
  have c4 := d0.cell (.head _) (v := .int .i64 n.rc) (j := 4) rfl
  have c101 := d0.cell (.head _) (ndC_v ok (.slice sp n.vs.length cap))
  have rls := d0.rng (.head _) (ndC_ls ok (.slice sp n.vs.length cap))
  have rrs := d0.rng (.head _) (ndC_rs ok (.slice sp n.vs.length cap))
  have rk := d0.rng (.head _) (ndC_k ok (.slice sp n.vs.length cap))
  rw [h1] at c0
  clear h1
  rw [decide_eq_true z1] at qL
  clear z1
  rw [decide_eq_true z2] at qR
  clear z2
  rw [h4] at c1
  clear h4
  generalize ints .u8 n.ls = IL at *
  generalize ints .u8 n.rs = IR at *
  generalize ints .u8 n.k = IK at *
  generalize ints .u8 zD = KZ at *
  generalize ndC n (.slice sp n.vs.length cap) = NC at *
  generalize n.vs.length = m at *
  generalize n.l = vl at *
  generalize n.r = vr at *
  generalize n.lc = vlc at *
  generalize n.rc = vrc at *
  go_enter Tryd.func33, Tryd.ntmps33
  go_wp2_with (first
    | refine wpList_load_mid_w (by rfl) 27 _ (by rfl) w.heap.size 5 (by rfl) _ _ rls Tryd.underlying27 rfl SL.out ?_
    | refine wpList_load_mid_w (by rfl) 27 _ (by rfl) w.heap.size 37 (by rfl) _ _ rrs Tryd.underlying27 rfl SR.out ?_
    | refine wpList_built (by rfl) 27 _ rfl _ rfl _ BZ.out ?_)
  go_ret
  exact ⟨rfl, d0.1⟩
set_option maxRecDepth 100000 in
set_option maxHeartbeats 2000000 in
theorem xright_lc3 (w : World) (n : Nd) (ok : NdOk n) (sp : Option Addr) (cap : Nat) (hn : n.vs.length ≤ 9223372036854775807) (h1 : n.kd = 1) (z1 : n.ls = zD) (z2 : n.rs = zD) (h4 : n.l = 0) (h5 : n.r = 0) (h6 : ¬ n.lc = 0) :
    Calls Tryd.prog 33 #[.agg (ndC n (.slice sp n.vs.length cap)).toArray] w fun e w' => e = .returned (.bool false) ∧ Below w.heap.size w w' := by
  have d0 := (BK.nil w).alloc (ndC n (.slice sp n.vs.length cap)) 30
  have SL := hid (show (Tryd.prog.info? 27).map (·.size) = some (ints .u8 n.ls).length by rw [Tryd.sizeD, ints_len, ok.ls])
  have SR := hid (show (Tryd.prog.info? 27).map (·.size) = some (ints .u8 n.rs).length by rw [Tryd.sizeD, ints_len, ok.rs])
  have SK := hid (show (Tryd.prog.info? 26).map (·.size) = some (ints .u8 n.k).length by rw [Tryd.sizeKy, ints_len, ok.k])
  have qL := eqDg n.ls zD ok.ls rfl
  have qR := eqDg n.rs zD ok.rs rfl
  have qK := eqKy n.k zD ok.k rfl
  have gD := Tryd.guardDg
  have gK := Tryd.guardK
  have BZ := hid built_D0
  have BKz := hid built_K0
  have KL := hid (fun w1 => xchild_any w1 n.l n.lc n.ls ok.ls)
  have KR := hid (fun w1 => xchild_any w1 n.r n.rc n.rs ok.rs)
  have i0 : (n.vs.length : Int) ≤ 9223372036854775807 := by omega
  have c0 := d0.cell (.head _) (v := .int .i64 n.kd) (j := 0) rfl
  have c1 := d0.cell (.head _) (v := .int .i64 n.l) (j := 1) rfl
  have c2 := d0.cell (.head _) (v := .int .i64 n.r) (j := 2) rfl
  have c3 := d0.cell (.head _) (v := .int .i64 n.lc) (j := 3) rfl
  have c4 := d0.cell (.head _) (v := .int .i64 n.rc) (j := 4) rfl
  have c101 := d0.cell (.head _) (ndC_v ok (.slice sp n.vs.length cap))
  have rls := d0.rng (.head _) (ndC_ls ok (.slice sp n.vs.length cap))
  have rrs := d0.rng (.head _) (ndC_rs ok (.slice sp n.vs.length cap))
  have rk := d0.rng (.head _) (ndC_k ok (.slice sp n.vs.length cap))
  rw [h1] at c0
  clear h1
  rw [decide_eq_true z1] at qL
  clear z1
  rw [decide_eq_true z2] at qR
  clear z2
  rw [h4] at c1
  rw [h5] at c2
  clear h4 h5
  generalize ints .u8 n.ls = IL at *
  generalize ints .u8 n.rs = IR at *
  generalize ints .u8 n.k = IK at *
  generalize ints .u8 zD = KZ at *
  generalize ndC n (.slice sp n.vs.length cap) = NC at *
  generalize n.vs.length = m at *
  generalize n.l = vl at *
  generalize n.r = vr at *
  generalize n.lc = vlc at *
  generalize n.rc = vrc at *
  go_enter Tryd.func33, Tryd.ntmps33
  go_wp2_with (first
    | refine wpList_load_mid_w (by rfl) 27 _ (by rfl) w.heap.size 5 (by rfl) _ _ rls Tryd.underlying27 rfl SL.out ?_
    | refine wpList_load_mid_w (by rfl) 27 _ (by rfl) w.heap.size 37 (by rfl) _ _ rrs Tryd.underlying27 rfl SR.out ?_
    | refine wpList_built (by rfl) 27 _ rfl _ rfl _ BZ.out ?_)
  go_ret
  exact ⟨rfl, d0.1⟩
set_option maxRecDepth 100000 in
set_option maxHeartbeats 2000000 in
theorem xright_lc4 (w : World) (n : Nd) (ok : NdOk n) (sp : Option Addr) (cap : Nat) (hn : n.vs.length ≤ 9223372036854775807) (h1 : n.kd = 1) (z1 : n.ls = zD) (z2 : n.rs = zD) (h4 : n.l = 0) (h5 : n.r = 0) (h6 : n.lc = 0) (h7 : ¬ n.rc = 0) :
    Calls Tryd.prog 33 #[.agg (ndC n (.slice sp n.vs.length cap)).toArray] w fun e w' => e = .returned (.bool false) ∧ Below w.heap.size w w' := by
  have d0 := (BK.nil w).alloc (ndC n (.slice sp n.vs.length cap)) 30
  have SL := hid (show (Tryd.prog.info? 27).map (·.size) = some (ints .u8 n.ls).length by rw [Tryd.sizeD, ints_len, ok.ls])
  have SR := hid (show (Tryd.prog.info? 27).map (·.size) = some (ints .u8 n.rs).length by rw [Tryd.sizeD, ints_len, ok.rs])
  have SK := hid (show (Tryd.prog.info? 26).map (·.size) = some (ints .u8 n.k).length by rw [Tryd.sizeKy, ints_len, ok.k])
  have qL := eqDg n.ls zD ok.ls rfl
  have qR := eqDg n.rs zD ok.rs rfl
  have qK := eqKy n.k zD ok.k rfl
  have gD := Tryd.guardDg
  have gK := Tryd.guardK
  have BZ := hid built_D0
  have BKz := hid built_K0
  have KL := hid (fun w1 => xchild_any w1 n.l n.lc n.ls ok.ls)
  have KR := hid (fun w1 => xchild_any w1 n.r n.rc n.rs ok.rs)
  have i0 : (n.vs.length : Int) ≤ 9223372036854775807 := by omega
  have c0 := d0.cell (.head _) (v := .int .i64 n.kd) (j := 0) rfl
  have c1 := d0.cell (.head _) (v := .int .i64 n.l) (j := 1) rfl
  have c2 := d0.cell (.head _) (v := .int .i64 n.r) (j := 2) rfl
  have c3 := d0.cell (.head _) (v := .int .i64 n.lc) (j := 3) rfl
  have c4 := d0.cell (.head _) (v := .int .i64 n.rc) (j := 4) rfl
  have c101 := d0.cell (.head _) (ndC_v ok (.slice sp n.vs.length cap))
  have rls := d0.rng (.head _) (ndC_ls ok (.slice sp n.vs.length cap))
  have rrs := d0.rng (.head _) (ndC_rs ok (.slice sp n.vs.length cap))
  have rk := d0.rng (.head _) (ndC_k ok (.slice sp n.vs.length cap))
  rw [h1] at c0
  clear h1
  rw [decide_eq_true z1] at qL
  clear z1
  rw [decide_eq_true z2] at qR
  clear z2
  rw [h4] at c1
  rw [h5] at c2
  rw [h6] at c3
  clear h4 h5 h6
  generalize ints .u8 n.ls = IL at *
  generalize ints .u8 n.rs = IR at *
  generalize ints .u8 n.k = IK at *
  generalize ints .u8 zD = KZ at *
  generalize ndC n (.slice sp n.vs.length cap) = NC at *
  generalize n.vs.length = m at *
  generalize n.l = vl at *
  generalize n.r = vr at *
  generalize n.lc = vlc at *
  generalize n.rc = vrc at *
  go_enter Tryd.func33, Tryd.ntmps33
  go_wp2_with (first
    | refine wpList_load_mid_w (by rfl) 27 _ (by rfl) w.heap.size 5 (by rfl) _ _ rls Tryd.underlying27 rfl SL.out ?_
    | refine wpList_load_mid_w (by rfl) 27 _ (by rfl) w.heap.size 37 (by rfl) _ _ rrs Tryd.underlying27 rfl SR.out ?_
    | refine wpList_built (by rfl) 27 _ rfl _ rfl _ BZ.out ?_)
  go_ret
  exact ⟨rfl, d0.1⟩
set_option maxRecDepth 100000 in
set_option maxHeartbeats 2000000 in
theorem xright_lc5 (w : World) (n : Nd) (ok : NdOk n) (sp : Option Addr) (cap : Nat) (hn : n.vs.length ≤ 9223372036854775807) (h1 : n.kd = 1) (z1 : n.ls = zD) (z2 : n.rs = zD) (h4 : n.l = 0) (h5 : n.r = 0) (h6 : n.lc = 0) (h7 : n.rc = 0) :
    Calls Tryd.prog 33 #[.agg (ndC n (.slice sp n.vs.length cap)).toArray] w fun e w' => e = .returned (.bool (decide (n.vs.length ≤ 128))) ∧ Below w.heap.size w w' := by
  have d0 := (BK.nil w).alloc (ndC n (.slice sp n.vs.length cap)) 30
  have SL := hid (show (Tryd.prog.info? 27).map (·.size) = some (ints .u8 n.ls).length by rw [Tryd.sizeD, ints_len, ok.ls])
  have SR := hid (show (Tryd.prog.info? 27).map (·.size) = some (ints .u8 n.rs).length by rw [Tryd.sizeD, ints_len, ok.rs])
  have SK := hid (show (Tryd.prog.info? 26).map (·.size) = some (ints .u8 n.k).length by rw [Tryd.sizeKy, ints_len, ok.k])
  have qL := eqDg n.ls zD ok.ls rfl
  have qR := eqDg n.rs zD ok.rs rfl
  have qK := eqKy n.k zD ok.k rfl
  have gD := Tryd.guardDg
  have gK := Tryd.guardK
  have BZ := hid built_D0
  have BKz := hid built_K0
  have KL := hid (fun w1 => xchild_any w1 n.l n.lc n.ls ok.ls)
  have KR := hid (fun w1 => xchild_any w1 n.r n.rc n.rs ok.rs)
  have i0 : (n.vs.length : Int) ≤ 9223372036854775807 := by omega
  have c0 := d0.cell (.head _) (v := .int .i64 n.kd) (j := 0) rfl
  have c1 := d0.cell (.head _) (v := .int .i64 n.l) (j := 1) rfl
  have c2 := d0.cell (.head _) (v := .int .i64 n.r) (j := 2) rfl
  have c3 := d0.cell (.head _) (v := .int .i64 n.lc) (j := 3) rfl
  have c4 := d0.cell (.head _) (v := .int .i64 n.rc) (j := 4) rfl
  have c101 := d0.cell (.head _) (ndC_v ok (.slice sp n.vs.length cap))
  have rls := d0.rng (.head _) (ndC_ls ok (.slice sp n.vs.length cap))
  have rrs := d0.rng (.head _) (ndC_rs ok (.slice sp n.vs.length cap))
  have rk := d0.rng (.head _) (ndC_k ok (.slice sp n.vs.length cap))
  rw [h1] at c0
  clear h1
  rw [decide_eq_true z1] at qL
  clear z1
  rw [decide_eq_true z2] at qR
  clear z2
  rw [h4] at c1
  rw [h5] at c2
  rw [h6] at c3
  rw [h7] at c4
  clear h4 h5 h6 h7
  have HD := hid (show decide (n.vs.length ≤ 128) = decide ((n.vs.length : Int) ≤ 128) by rw [decide_eq_decide]; omega)
  generalize ints .u8 n.ls = IL at *
  generalize ints .u8 n.rs = IR at *
  generalize ints .u8 n.k = IK at *
  generalize ints .u8 zD = KZ at *
  generalize ndC n (.slice sp n.vs.length cap) = NC at *
  generalize n.vs.length = m at *
  generalize n.l = vl at *
  generalize n.r = vr at *
  generalize n.lc = vlc at *
  generalize n.rc = vrc at *
  go_enter Tryd.func33, Tryd.ntmps33
  go_wp2_with (first
    | refine wpList_load_mid_w (by rfl) 27 _ (by rfl) w.heap.size 5 (by rfl) _ _ rls Tryd.underlying27 rfl SL.out ?_
    | refine wpList_load_mid_w (by rfl) 27 _ (by rfl) w.heap.size 37 (by rfl) _ _ rrs Tryd.underlying27 rfl SR.out ?_
    | refine wpList_built (by rfl) 27 _ rfl _ rfl _ BZ.out ?_)
  go_ret
  exact ⟨by rw [HD.out]; rfl, d0.1⟩
set_option maxRecDepth 100000 in
set_option maxHeartbeats 2000000 in
theorem xright_o (w : World) (n : Nd) (ok : NdOk n) (sp : Option Addr) (cap : Nat) (hn : n.vs.length ≤ 9223372036854775807) (h1 : ¬ n.kd = 1) (h2 : ¬ n.kd = 2) :
    Calls Tryd.prog 33 #[.agg (ndC n (.slice sp n.vs.length cap)).toArray] w fun e w' => e = .returned (.bool false) ∧ Below w.heap.size w w' := by
  have d0 := (BK.nil w).alloc (ndC n (.slice sp n.vs.length cap)) 30
  have SL := hid (show (Tryd.prog.info? 27).map (·.size) = some (ints .u8 n.ls).length by rw [Tryd.sizeD, ints_len, ok.ls])
  have SR := hid (show (Tryd.prog.info? 27).map (·.size) = some (ints .u8 n.rs).length by rw [Tryd.sizeD, ints_len, ok.rs])
  have SK := hid (show (Tryd.prog.info? 26).map (·.size) = some (ints .u8 n.k).length by rw [Tryd.sizeKy, ints_len, ok.k])
  have qL := eqDg n.ls zD ok.ls rfl
  have qR := eqDg n.rs zD ok.rs rfl
  have qK := eqKy n.k zD ok.k rfl
  have gD := Tryd.guardDg
  have gK := Tryd.guardK
  have BZ := hid built_D0
  have BKz := hid built_K0
  have KL := hid (fun w1 => xchild_any w1 n.l n.lc n.ls ok.ls)
  have KR := hid (fun w1 => xchild_any w1 n.r n.rc n.rs ok.rs)
  have i0 : (n.vs.length : Int) ≤ 9223372036854775807 := by omega
  have c0 := d0.cell (.head _) (v := .int .i64 n.kd) (j := 0) rfl
  have c1 := d0.cell (.head _) (v := .int .i64 n.l) (j := 1) rfl
  have c2 := d0.cell (.head _) (v := .int .i64 n.r) (j := 2) rfl
  have c3 := d0.cell (.head _) (v := .int .i64 n.lc) (j := 3) rfl
  have c4 := d0.cell (.head _) (v := .int .i64 n.rc) (j := 4) rfl
  have c101 := d0.cell (.head _) (ndC_v ok (.slice sp n.vs.length cap))
  have rls := d0.rng (.head _) (ndC_ls ok (.slice sp n.vs.length cap))
  have rrs := d0.rng (.head _) (ndC_rs ok (.slice sp n.vs.length cap))
  have rk := d0.rng (.head _) (ndC_k ok (.slice sp n.vs.length cap))
  generalize n.kd = vk at *
  generalize ints .u8 n.ls = IL at *
  generalize ints .u8 n.rs = IR at *
  generalize ints .u8 n.k = IK at *
  generalize ints .u8 zD = KZ at *
  generalize ndC n (.slice sp n.vs.length cap) = NC at *
  generalize n.vs.length = m at *
  generalize n.l = vl at *
  generalize n.r = vr at *
  generalize n.lc = vlc at *
  generalize n.rc = vrc at *
  go_enter Tryd.func33, Tryd.ntmps33
  go_wp2
  go_ret
  exact ⟨rfl, d0.1⟩
set_option maxRecDepth 100000 in
set_option maxHeartbeats 2000000 in
theorem xright_k (w : World) (n : Nd) (ok : NdOk n) (sp : Option Addr) (cap : Nat) (hn : n.vs.length ≤ 9223372036854775807) (h1 : n.kd = 2) (s4 : ¬ n.k = zD) :
    Calls Tryd.prog 33 #[.agg (ndC n (.slice sp n.vs.length cap)).toArray] w fun e w' => e = .returned (.bool false) ∧ Below w.heap.size w w' := by
  have d0 := (BK.nil w).alloc (ndC n (.slice sp n.vs.length cap)) 30
  have SL := hid (show (Tryd.prog.info? 27).map (·.size) = some (ints .u8 n.ls).length by rw [Tryd.sizeD, ints_len, ok.ls])
  have SR := hid (show (Tryd.prog.info? 27).map (·.size) = some (ints .u8 n.rs).length by rw [Tryd.sizeD, ints_len, ok.rs])
  have SK := hid (show (Tryd.prog.info? 26).map (·.size) = some (ints .u8 n.k).length by rw [Tryd.sizeKy, ints_len, ok.k])
  have qL := eqDg n.ls zD ok.ls rfl
  have qR := eqDg n.rs zD ok.rs rfl
  have qK := eqKy n.k zD ok.k rfl
  have gD := Tryd.guardDg
  have gK := Tryd.guardK
  have BZ := hid built_D0
  have BKz := hid built_K0
  have KL := hid (fun w1 => xchild_any w1 n.l n.lc n.ls ok.ls)
  have KR := hid (fun w1 => xchild_any w1 n.r n.rc n.rs ok.rs)
  have i0 : (n.vs.length : Int) ≤ 9223372036854775807 := by omega
  have c0 := d0.cell (.head _) (v := .int .i64 n.kd) (j := 0) rfl
  have c1 := d0.cell (.head _) (v := .int .i64 n.l) (j := 1) rfl
  have c2 := d0.cell (.head _) (v := .int .i64 n.r) (j := 2) rfl
  have c3 := d0.cell (.head _) (v := .int .i64 n.lc) (j := 3) rfl
  have c4 := d0.cell (.head _) (v := .int .i64 n.rc) (j := 4) rfl
  have c101 := d0.cell (.head _) (ndC_v ok (.slice sp n.vs.length cap))
  have rls := d0.rng (.head _) (ndC_ls ok (.slice sp n.vs.length cap))
  have rrs := d0.rng (.head _) (ndC_rs ok (.slice sp n.vs.length cap))
  have rk := d0.rng (.head _) (ndC_k ok (.slice sp n.vs.length cap))
  rw [h1] at c0
  clear h1
  rw [decide_eq_false s4] at qK
  clear s4
  generalize ints .u8 n.ls = IL at *
  generalize ints .u8 n.rs = IR at *
  generalize ints .u8 n.k = IK at *
  generalize ints .u8 zD = KZ at *
  generalize ndC n (.slice sp n.vs.length cap) = NC at *
  generalize n.vs.length = m at *
  generalize n.l = vl at *
  generalize n.r = vr at *
  generalize n.lc = vlc at *
  generalize n.rc = vrc at *
  go_enter Tryd.func33, Tryd.ntmps33
  go_wp2_with (first
    | refine wpList_load_mid_w (by rfl) 26 _ (by rfl) w.heap.size 69 (by rfl) _ _ rk Tryd.underlying26 rfl SK.out ?_
    | refine wpList_built (by rfl) 26 _ rfl _ rfl _ BKz.out ?_)
  go_ret
  exact ⟨rfl, d0.1⟩
set_option maxRecDepth 100000 in
set_option maxHeartbeats 2000000 in
theorem xright_v (w : World) (n : Nd) (ok : NdOk n) (sp : Option Addr) (cap : Nat) (hn : n.vs.length ≤ 9223372036854775807) (h1 : n.kd = 2) (s4 : n.k = zD) (s5 : ¬ n.vs.length = 0) :
    Calls Tryd.prog 33 #[.agg (ndC n (.slice sp n.vs.length cap)).toArray] w fun e w' => e = .returned (.bool false) ∧ Below w.heap.size w w' := by
  have d0 := (BK.nil w).alloc (ndC n (.slice sp n.vs.length cap)) 30
  have SL := hid (show (Tryd.prog.info? 27).map (·.size) = some (ints .u8 n.ls).length by rw [Tryd.sizeD, ints_len, ok.ls])
  have SR := hid (show (Tryd.prog.info? 27).map (·.size) = some (ints .u8 n.rs).length by rw [Tryd.sizeD, ints_len, ok.rs])
  have SK := hid (show (Tryd.prog.info? 26).map (·.size) = some (ints .u8 n.k).length by rw [Tryd.sizeKy, ints_len, ok.k])
  have qL := eqDg n.ls zD ok.ls rfl
  have qR := eqDg n.rs zD ok.rs rfl
  have qK := eqKy n.k zD ok.k rfl
  have gD := Tryd.guardDg
  have gK := Tryd.guardK
  have BZ := hid built_D0
  have BKz := hid built_K0
  have KL := hid (fun w1 => xchild_any w1 n.l n.lc n.ls ok.ls)
  have KR := hid (fun w1 => xchild_any w1 n.r n.rc n.rs ok.rs)
  have i0 : (n.vs.length : Int) ≤ 9223372036854775807 := by omega
  have c0 := d0.cell (.head _) (v := .int .i64 n.kd) (j := 0) rfl
  have c1 := d0.cell (.head _) (v := .int .i64 n.l) (j := 1) rfl
  have c2 := d0.cell (.head _) (v := .int .i64 n.r) (j := 2) rfl
  have c3 := d0.cell (.head _) (v := .int .i64 n.lc) (j := 3) rfl
  have c4 := d0.cell (.head _) (v := .int .i64 n.rc) (j := 4) rfl
  have c101 := d0.cell (.head _) (ndC_v ok (.slice sp n.vs.length cap))
  have rls := d0.rng (.head _) (ndC_ls ok (.slice sp n.vs.length cap))
  have rrs := d0.rng (.head _) (ndC_rs ok (.slice sp n.vs.length cap))
  have rk := d0.rng (.head _) (ndC_k ok (.slice sp n.vs.length cap))
  rw [h1] at c0
  clear h1
  rw [decide_eq_true s4] at qK
  clear s4
  have i5 : (0 : Int) < (n.vs.length : Int) := by omega
  clear s5
  generalize ints .u8 n.ls = IL at *
  generalize ints .u8 n.rs = IR at *
  generalize ints .u8 n.k = IK at *
  generalize ints .u8 zD = KZ at *
  generalize ndC n (.slice sp n.vs.length cap) = NC at *
  generalize n.vs.length = m at *
  generalize n.l = vl at *
  generalize n.r = vr at *
  generalize n.lc = vlc at *
  generalize n.rc = vrc at *
  go_enter Tryd.func33, Tryd.ntmps33
  go_wp2_with (first
    | refine wpList_load_mid_w (by rfl) 26 _ (by rfl) w.heap.size 69 (by rfl) _ _ rk Tryd.underlying26 rfl SK.out ?_
    | refine wpList_built (by rfl) 26 _ rfl _ rfl _ BKz.out ?_)
  go_ret
  exact ⟨rfl, d0.1⟩
set_option maxRecDepth 100000 in
set_option maxHeartbeats 2000000 in
theorem xright_e (w : World) (n : Nd) (ok : NdOk n) (sp : Option Addr) (cap : Nat) (hn : n.vs.length ≤ 9223372036854775807) (h1 : n.kd = 2) (s4 : n.k = zD) (s5 : n.vs.length = 0) (s3 : n.l = n.r) :
    Calls Tryd.prog 33 #[.agg (ndC n (.slice sp n.vs.length cap)).toArray] w fun e w' => e = .returned (.bool false) ∧ Below w.heap.size w w' := by
  have d0 := (BK.nil w).alloc (ndC n (.slice sp n.vs.length cap)) 30
  have SL := hid (show (Tryd.prog.info? 27).map (·.size) = some (ints .u8 n.ls).length by rw [Tryd.sizeD, ints_len, ok.ls])
  have SR := hid (show (Tryd.prog.info? 27).map (·.size) = some (ints .u8 n.rs).length by rw [Tryd.sizeD, ints_len, ok.rs])
  have SK := hid (show (Tryd.prog.info? 26).map (·.size) = some (ints .u8 n.k).length by rw [Tryd.sizeKy, ints_len, ok.k])
  have qL := eqDg n.ls zD ok.ls rfl
  have qR := eqDg n.rs zD ok.rs rfl
  have qK := eqKy n.k zD ok.k rfl
  have gD := Tryd.guardDg
  have gK := Tryd.guardK
  have BZ := hid built_D0
  have BKz := hid built_K0
  have KL := hid (fun w1 => xchild_any w1 n.l n.lc n.ls ok.ls)
  have KR := hid (fun w1 => xchild_any w1 n.r n.rc n.rs ok.rs)
  have i0 : (n.vs.length : Int) ≤ 9223372036854775807 := by omega
  have c0 := d0.cell (.head _) (v := .int .i64 n.kd) (j := 0) rfl
  have c1 := d0.cell (.head _) (v := .int .i64 n.l) (j := 1) rfl
  have c2 := d0.cell (.head _) (v := .int .i64 n.r) (j := 2) rfl
  have c3 := d0.cell (.head _) (v := .int .i64 n.lc) (j := 3) rfl
  have c4 := d0.cell (.head _) (v := .int .i64 n.rc) (j := 4) rfl
  have c101 := d0.cell (.head _) (ndC_v ok (.slice sp n.vs.length cap))
  have rls := d0.rng (.head _) (ndC_ls ok (.slice sp n.vs.length cap))
  have rrs := d0.rng (.head _) (ndC_rs ok (.slice sp n.vs.length cap))
  have rk := d0.rng (.head _) (ndC_k ok (.slice sp n.vs.length cap))
  rw [h1] at c0
  clear h1
  rw [decide_eq_true s4] at qK
  clear s4
  have i5 : (n.vs.length : Int) = 0 := by omega
  clear s5
  rw [← s3] at c2
  clear s3
  generalize ints .u8 n.ls = IL at *
  generalize ints .u8 n.rs = IR at *
  generalize ints .u8 n.k = IK at *
  generalize ints .u8 zD = KZ at *
  generalize ndC n (.slice sp n.vs.length cap) = NC at *
  generalize n.vs.length = m at *
  generalize n.l = vl at *
  generalize n.r = vr at *
  generalize n.lc = vlc at *
  generalize n.rc = vrc at *
  go_enter Tryd.func33, Tryd.ntmps33
  go_wp2_with (first
    | refine wpList_load_mid_w (by rfl) 26 _ (by rfl) w.heap.size 69 (by rfl) _ _ rk Tryd.underlying26 rfl SK.out ?_
    | refine wpList_built (by rfl) 26 _ rfl _ rfl _ BKz.out ?_)
  go_ret
  exact ⟨rfl, d0.1⟩
set_option maxRecDepth 100000 in
set_option maxHeartbeats 2000000 in
theorem xright_p (w : World) (n : Nd) (ok : NdOk n) (sp : Option Addr) (cap : Nat) (hn : n.vs.length ≤ 9223372036854775807) (h1 : n.kd = 2) (s4 : n.k = zD) (s5 : n.vs.length = 0) (s3 : ¬ n.l = n.r) (s1 : ¬ SideP n.l n.lc n.ls) (s2 : SideP n.r n.rc n.rs) :
    Calls Tryd.prog 33 #[.agg (ndC n (.slice sp n.vs.length cap)).toArray] w fun e w' => e = .returned (.bool false) ∧ Below w.heap.size w w' := by
  have d0 := (BK.nil w).alloc (ndC n (.slice sp n.vs.length cap)) 30
  have SL := hid (show (Tryd.prog.info? 27).map (·.size) = some (ints .u8 n.ls).length by rw [Tryd.sizeD, ints_len, ok.ls])
  have SR := hid (show (Tryd.prog.info? 27).map (·.size) = some (ints .u8 n.rs).length by rw [Tryd.sizeD, ints_len, ok.rs])
  have SK := hid (show (Tryd.prog.info? 26).map (·.size) = some (ints .u8 n.k).length by rw [Tryd.sizeKy, ints_len, ok.k])
  have qL := eqDg n.ls zD ok.ls rfl
  have qR := eqDg n.rs zD ok.rs rfl
  have qK := eqKy n.k zD ok.k rfl
  have gD := Tryd.guardDg
  have gK := Tryd.guardK
  have BZ := hid built_D0
  have BKz := hid built_K0
  have KL := hid (fun w1 => xchild_any w1 n.l n.lc n.ls ok.ls)
  have KR := hid (fun w1 => xchild_any w1 n.r n.rc n.rs ok.rs)
  have i0 : (n.vs.length : Int) ≤ 9223372036854775807 := by omega
  have c0 := d0.cell (.head _) (v := .int .i64 n.kd) (j := 0) rfl
  have c1 := d0.cell (.head _) (v := .int .i64 n.l) (j := 1) rfl
  have c2 := d0.cell (.head _) (v := .int .i64 n.r) (j := 2) rfl
  have c3 := d0.cell (.head _) (v := .int .i64 n.lc) (j := 3) rfl
  have c4 := d0.cell (.head _) (v := .int .i64 n.rc) (j := 4) rfl
  have c101 := d0.cell (.head _) (ndC_v ok (.slice sp n.vs.length cap))
  have rls := d0.rng (.head _) (ndC_ls ok (.slice sp n.vs.length cap))
  have rrs := d0.rng (.head _) (ndC_rs ok (.slice sp n.vs.length cap))
  have rk := d0.rng (.head _) (ndC_k ok (.slice sp n.vs.length cap))
  rw [h1] at c0
  clear h1
  rw [decide_eq_true s4] at qK
  clear s4
  have i5 : (n.vs.length : Int) = 0 := by omega
  clear s5
  have NC1 := hid (show (ndC n (.slice sp n.vs.length cap))[1]? = some (.int .i64 n.l) from rfl)
  have NC2 := hid (show (ndC n (.slice sp n.vs.length cap))[2]? = some (.int .i64 n.r) from rfl)
  have NC3 := hid (show (ndC n (.slice sp n.vs.length cap))[3]? = some (.int .i64 n.lc) from rfl)
  have NC4 := hid (show (ndC n (.slice sp n.vs.length cap))[4]? = some (.int .i64 n.rc) from rfl)
  have NCrs := hid (ndC_rs ok (.slice sp n.vs.length cap))
  rw [decide_eq_false s1] at KL
  clear s1
  rw [decide_eq_true s2] at KR
  clear s2
  generalize ints .u8 n.ls = IL at *
  generalize ints .u8 n.rs = IR at *
  generalize ints .u8 n.k = IK at *
  generalize ints .u8 zD = KZ at *
  generalize ndC n (.slice sp n.vs.length cap) = NC at *
  generalize n.vs.length = m at *
  generalize n.l = vl at *
  generalize n.r = vr at *
  generalize n.lc = vlc at *
  generalize n.rc = vrc at *
  go_enter Tryd.func33, Tryd.ntmps33
  go_wp2_with (first
    | refine wpList_load_mid_w (by rfl) 26 _ (by rfl) w.heap.size 69 (by rfl) _ _ rk Tryd.underlying26 rfl SK.out ?_
    | refine wpList_built (by rfl) 26 _ rfl _ rfl _ BKz.out ?_
    | refine wpList_load_mid_w (by rfl) 27 _ (by rfl) w.heap.size 5 (by rfl) _ _ rls Tryd.underlying27 rfl SL.out ?_)
  refine (KL.out _).mono ?_
  rintro e w1 ⟨rfl, hb1⟩
  have d1 := d0.call hb1
  clear c1 c2 c3 c4 c101 rls rrs rk
  have c2 := d1.cell (.head _) NC2.out
  have c4 := d1.cell (.head _) NC4.out
  have rrs := d1.rng (.head _) NCrs.out
  go_wp2_with (first
    | refine wpList_load_mid_w (by rfl) 27 _ (by rfl) w.heap.size 37 (by rfl) _ _ rrs Tryd.underlying27 rfl SR.out ?_)
  refine (KR.out _).mono ?_
  rintro e w2 ⟨rfl, hb2⟩
  have d2 := d1.call hb2
  clear c2 c4 rrs
  have c3 := d2.cell (.head _) NC3.out
  have c4 := d2.cell (.head _) NC4.out
  go_wp2
  go_ret
  exact ⟨rfl, d2.1⟩
set_option maxRecDepth 100000 in
set_option maxHeartbeats 2000000 in
theorem xright_p2 (w : World) (n : Nd) (ok : NdOk n) (sp : Option Addr) (cap : Nat) (hn : n.vs.length ≤ 9223372036854775807) (h1 : n.kd = 2) (s4 : n.k = zD) (s5 : n.vs.length = 0) (s3 : ¬ n.l = n.r) (s1 : ¬ SideP n.l n.lc n.ls) (s2 : ¬ SideP n.r n.rc n.rs) :
    Calls Tryd.prog 33 #[.agg (ndC n (.slice sp n.vs.length cap)).toArray] w fun e w' => e = .returned (.bool false) ∧ Below w.heap.size w w' := by
  have d0 := (BK.nil w).alloc (ndC n (.slice sp n.vs.length cap)) 30
  have SL := hid (show (Tryd.prog.info? 27).map (·.size) = some (ints .u8 n.ls).length by rw [Tryd.sizeD, ints_len, ok.ls])
  have SR := hid (show (Tryd.prog.info? 27).map (·.size) = some (ints .u8 n.rs).length by rw [Tryd.sizeD, ints_len, ok.rs])
  have SK := hid (show (Tryd.prog.info? 26).map (·.size) = some (ints .u8 n.k).length by rw [Tryd.sizeKy, ints_len, ok.k])
  have qL := eqDg n.ls zD ok.ls rfl
  have qR := eqDg n.rs zD ok.rs rfl
  have qK := eqKy n.k zD ok.k rfl
  have gD := Tryd.guardDg
  have gK := Tryd.guardK
  have BZ := hid built_D0
  have BKz := hid built_K0
  have KL := hid (fun w1 => xchild_any w1 n.l n.lc n.ls ok.ls)
  have KR := hid (fun w1 => xchild_any w1 n.r n.rc n.rs ok.rs)
  have i0 : (n.vs.length : Int) ≤ 9223372036854775807 := by omega
  have c0 := d0.cell (.head _) (v := .int .i64 n.kd) (j := 0) rfl
  have c1 := d0.cell (.head _) (v := .int .i64 n.l) (j := 1) rfl
  have c2 := d0.cell (.head _) (v := .int .i64 n.r) (j := 2) rfl
  have c3 := d0.cell (.head _) (v := .int .i64 n.lc) (j := 3) rfl
  have c4 := d0.cell (.head _) (v := .int .i64 n.rc) (j := 4) rfl
  have c101 := d0.cell (.head _) (ndC_v ok (.slice sp n.vs.length cap))
  have rls := d0.rng (.head _) (ndC_ls ok (.slice sp n.vs.length cap))
  have rrs := d0.rng (.head _) (ndC_rs ok (.slice sp n.vs.length cap))
  have rk := d0.rng (.head _) (ndC_k ok (.slice sp n.vs.length cap))
  rw [h1] at c0
  clear h1
  rw [decide_eq_true s4] at qK
  clear s4
  have i5 : (n.vs.length : Int) = 0 := by omega
  clear s5
  have NC1 := hid (show (ndC n (.slice sp n.vs.length cap))[1]? = some (.int .i64 n.l) from rfl)
  have NC2 := hid (show (ndC n (.slice sp n.vs.length cap))[2]? = some (.int .i64 n.r) from rfl)
  have NC3 := hid (show (ndC n (.slice sp n.vs.length cap))[3]? = some (.int .i64 n.lc) from rfl)
  have NC4 := hid (show (ndC n (.slice sp n.vs.length cap))[4]? = some (.int .i64 n.rc) from rfl)
  have NCrs := hid (ndC_rs ok (.slice sp n.vs.length cap))
  rw [decide_eq_false s1] at KL
  clear s1
  rw [decide_eq_false s2] at KR
  clear s2
  generalize ints .u8 n.ls = IL at *
  generalize ints .u8 n.rs = IR at *
  generalize ints .u8 n.k = IK at *
  generalize ints .u8 zD = KZ at *
  generalize ndC n (.slice sp n.vs.length cap) = NC at *
  generalize n.vs.length = m at *
  generalize n.l = vl at *
  generalize n.r = vr at *
  generalize n.lc = vlc at *
  generalize n.rc = vrc at *
  go_enter Tryd.func33, Tryd.ntmps33
  go_wp2_with (first
    | refine wpList_load_mid_w (by rfl) 26 _ (by rfl) w.heap.size 69 (by rfl) _ _ rk Tryd.underlying26 rfl SK.out ?_
    | refine wpList_built (by rfl) 26 _ rfl _ rfl _ BKz.out ?_
    | refine wpList_load_mid_w (by rfl) 27 _ (by rfl) w.heap.size 5 (by rfl) _ _ rls Tryd.underlying27 rfl SL.out ?_)
  refine (KL.out _).mono ?_
  rintro e w1 ⟨rfl, hb1⟩
  have d1 := d0.call hb1
  clear c1 c2 c3 c4 c101 rls rrs rk
  have c2 := d1.cell (.head _) NC2.out
  have c4 := d1.cell (.head _) NC4.out
  have rrs := d1.rng (.head _) NCrs.out
  go_wp2_with (first
    | refine wpList_load_mid_w (by rfl) 27 _ (by rfl) w.heap.size 37 (by rfl) _ _ rrs Tryd.underlying27 rfl SR.out ?_)
  refine (KR.out _).mono ?_
  rintro e w2 ⟨rfl, hb2⟩
  have d2 := d1.call hb2
  clear c2 c4 rrs
  have c3 := d2.cell (.head _) NC3.out
  have c4 := d2.cell (.head _) NC4.out
  go_wp2
  go_ret
  exact ⟨rfl, d2.1⟩
set_option maxRecDepth 100000 in
set_option maxHeartbeats 2000000 in
theorem xright_q (w : World) (n : Nd) (ok : NdOk n) (sp : Option Addr) (cap : Nat) (hn : n.vs.length ≤ 9223372036854775807) (h1 : n.kd = 2) (s4 : n.k = zD) (s5 : n.vs.length = 0) (s3 : ¬ n.l = n.r) (s1 : SideP n.l n.lc n.ls) (s2 : ¬ SideP n.r n.rc n.rs) :
    Calls Tryd.prog 33 #[.agg (ndC n (.slice sp n.vs.length cap)).toArray] w fun e w' => e = .returned (.bool false) ∧ Below w.heap.size w w' := by
  have d0 := (BK.nil w).alloc (ndC n (.slice sp n.vs.length cap)) 30
  have SL := hid (show (Tryd.prog.info? 27).map (·.size) = some (ints .u8 n.ls).length by rw [Tryd.sizeD, ints_len, ok.ls])
  have SR := hid (show (Tryd.prog.info? 27).map (·.size) = some (ints .u8 n.rs).length by rw [Tryd.sizeD, ints_len, ok.rs])
  have SK := hid (show (Tryd.prog.info? 26).map (·.size) = some (ints .u8 n.k).length by rw [Tryd.sizeKy, ints_len, ok.k])
  have qL := eqDg n.ls zD ok.ls rfl
  have qR := eqDg n.rs zD ok.rs rfl
  have qK := eqKy n.k zD ok.k rfl
  have gD := Tryd.guardDg
  have gK := Tryd.guardK
  have BZ := hid built_D0
  have BKz := hid built_K0
  have KL := hid (fun w1 => xchild_any w1 n.l n.lc n.ls ok.ls)
  have KR := hid (fun w1 => xchild_any w1 n.r n.rc n.rs ok.rs)
  have i0 : (n.vs.length : Int) ≤ 9223372036854775807 := by omega
  have c0 := d0.cell (.head _) (v := .int .i64 n.kd) (j := 0) rfl
  have c1 := d0.cell (.head _) (v := .int .i64 n.l) (j := 1) rfl
  have c2 := d0.cell (.head _) (v := .int .i64 n.r) (j := 2) rfl
  have c3 := d0.cell (.head _) (v := .int .i64 n.lc) (j := 3) rfl
  have c4 := d0.cell (.head _) (v := .int .i64 n.rc) (j := 4) rfl
  have c101 := d0.cell (.head _) (ndC_v ok (.slice sp n.vs.length cap))
  have rls := d0.rng (.head _) (ndC_ls ok (.slice sp n.vs.length cap))
  have rrs := d0.rng (.head _) (ndC_rs ok (.slice sp n.vs.length cap))
  have rk := d0.rng (.head _) (ndC_k ok (.slice sp n.vs.length cap))
  rw [h1] at c0
  clear h1
  rw [decide_eq_true s4] at qK
  clear s4
  have i5 : (n.vs.length : Int) = 0 := by omega
  clear s5
  have NC1 := hid (show (ndC n (.slice sp n.vs.length cap))[1]? = some (.int .i64 n.l) from rfl)
  have NC2 := hid (show (ndC n (.slice sp n.vs.length cap))[2]? = some (.int .i64 n.r) from rfl)
  have NC3 := hid (show (ndC n (.slice sp n.vs.length cap))[3]? = some (.int .i64 n.lc) from rfl)
  have NC4 := hid (show (ndC n (.slice sp n.vs.length cap))[4]? = some (.int .i64 n.rc) from rfl)
  have NCrs := hid (ndC_rs ok (.slice sp n.vs.length cap))
  rw [decide_eq_true s1] at KL
  clear s1
  rw [decide_eq_false s2] at KR
  clear s2
  generalize ints .u8 n.ls = IL at *
  generalize ints .u8 n.rs = IR at *
  generalize ints .u8 n.k = IK at *
  generalize ints .u8 zD = KZ at *
  generalize ndC n (.slice sp n.vs.length cap) = NC at *
  generalize n.vs.length = m at *
  generalize n.l = vl at *
  generalize n.r = vr at *
  generalize n.lc = vlc at *
  generalize n.rc = vrc at *
  go_enter Tryd.func33, Tryd.ntmps33
  go_wp2_with (first
    | refine wpList_load_mid_w (by rfl) 26 _ (by rfl) w.heap.size 69 (by rfl) _ _ rk Tryd.underlying26 rfl SK.out ?_
    | refine wpList_built (by rfl) 26 _ rfl _ rfl _ BKz.out ?_
    | refine wpList_load_mid_w (by rfl) 27 _ (by rfl) w.heap.size 5 (by rfl) _ _ rls Tryd.underlying27 rfl SL.out ?_)
  refine (KL.out _).mono ?_
  rintro e w1 ⟨rfl, hb1⟩
  have d1 := d0.call hb1
  clear c1 c2 c3 c4 c101 rls rrs rk
  have c2 := d1.cell (.head _) NC2.out
  have c4 := d1.cell (.head _) NC4.out
  have rrs := d1.rng (.head _) NCrs.out
  go_wp2_with (first
    | refine wpList_load_mid_w (by rfl) 27 _ (by rfl) w.heap.size 37 (by rfl) _ _ rrs Tryd.underlying27 rfl SR.out ?_)
  refine (KR.out _).mono ?_
  rintro e w2 ⟨rfl, hb2⟩
  have d2 := d1.call hb2
  clear c2 c4 rrs
  have c3 := d2.cell (.head _) NC3.out
  have c4 := d2.cell (.head _) NC4.out
  go_wp2
  go_ret
  exact ⟨rfl, d2.1⟩
set_option maxRecDepth 100000 in
set_option maxHeartbeats 2000000 in
theorem xright_u (w : World) (n : Nd) (ok : NdOk n) (sp : Option Addr) (cap : Nat) (hn : n.vs.length ≤ 9223372036854775807) (h1 : n.kd = 2) (s4 : n.k = zD) (s5 : n.vs.length = 0) (s3 : ¬ n.l = n.r) (s1 : SideP n.l n.lc n.ls) (s2 : SideP n.r n.rc n.rs) (s6 : n.lc + n.rc < 2) :
    Calls Tryd.prog 33 #[.agg (ndC n (.slice sp n.vs.length cap)).toArray] w fun e w' => e = .returned (.bool false) ∧ Below w.heap.size w w' := by
  have d0 := (BK.nil w).alloc (ndC n (.slice sp n.vs.length cap)) 30
  have SL := hid (show (Tryd.prog.info? 27).map (·.size) = some (ints .u8 n.ls).length by rw [Tryd.sizeD, ints_len, ok.ls])
  have SR := hid (show (Tryd.prog.info? 27).map (·.size) = some (ints .u8 n.rs).length by rw [Tryd.sizeD, ints_len, ok.rs])
  have SK := hid (show (Tryd.prog.info? 26).map (·.size) = some (ints .u8 n.k).length by rw [Tryd.sizeKy, ints_len, ok.k])
  have qL := eqDg n.ls zD ok.ls rfl
  have qR := eqDg n.rs zD ok.rs rfl
  have qK := eqKy n.k zD ok.k rfl
  have gD := Tryd.guardDg
  have gK := Tryd.guardK
  have BZ := hid built_D0
  have BKz := hid built_K0
  have KL := hid (fun w1 => xchild_any w1 n.l n.lc n.ls ok.ls)
  have KR := hid (fun w1 => xchild_any w1 n.r n.rc n.rs ok.rs)
  have i0 : (n.vs.length : Int) ≤ 9223372036854775807 := by omega
  have c0 := d0.cell (.head _) (v := .int .i64 n.kd) (j := 0) rfl
  have c1 := d0.cell (.head _) (v := .int .i64 n.l) (j := 1) rfl
  have c2 := d0.cell (.head _) (v := .int .i64 n.r) (j := 2) rfl
  have c3 := d0.cell (.head _) (v := .int .i64 n.lc) (j := 3) rfl
  have c4 := d0.cell (.head _) (v := .int .i64 n.rc) (j := 4) rfl
  have c101 := d0.cell (.head _) (ndC_v ok (.slice sp n.vs.length cap))
  have rls := d0.rng (.head _) (ndC_ls ok (.slice sp n.vs.length cap))
  have rrs := d0.rng (.head _) (ndC_rs ok (.slice sp n.vs.length cap))
  have rk := d0.rng (.head _) (ndC_k ok (.slice sp n.vs.length cap))
  rw [h1] at c0
  clear h1
  rw [decide_eq_true s4] at qK
  clear s4
  have i5 : (n.vs.length : Int) = 0 := by omega
  clear s5
  have NC1 := hid (show (ndC n (.slice sp n.vs.length cap))[1]? = some (.int .i64 n.l) from rfl)
  have NC2 := hid (show (ndC n (.slice sp n.vs.length cap))[2]? = some (.int .i64 n.r) from rfl)
  have NC3 := hid (show (ndC n (.slice sp n.vs.length cap))[3]? = some (.int .i64 n.lc) from rfl)
  have NC4 := hid (show (ndC n (.slice sp n.vs.length cap))[4]? = some (.int .i64 n.rc) from rfl)
  have NCrs := hid (ndC_rs ok (.slice sp n.vs.length cap))
  have q1 := s1.le
  have q2 := s2.le
  rw [decide_eq_true s1] at KL
  clear s1
  rw [decide_eq_true s2] at KR
  clear s2
  generalize ints .u8 n.ls = IL at *
  generalize ints .u8 n.rs = IR at *
  generalize ints .u8 n.k = IK at *
  generalize ints .u8 zD = KZ at *
  generalize ndC n (.slice sp n.vs.length cap) = NC at *
  generalize n.vs.length = m at *
  generalize n.l = vl at *
  generalize n.r = vr at *
  generalize n.lc = vlc at *
  generalize n.rc = vrc at *
  go_enter Tryd.func33, Tryd.ntmps33
  go_wp2_with (first
    | refine wpList_load_mid_w (by rfl) 26 _ (by rfl) w.heap.size 69 (by rfl) _ _ rk Tryd.underlying26 rfl SK.out ?_
    | refine wpList_built (by rfl) 26 _ rfl _ rfl _ BKz.out ?_
    | refine wpList_load_mid_w (by rfl) 27 _ (by rfl) w.heap.size 5 (by rfl) _ _ rls Tryd.underlying27 rfl SL.out ?_)
  refine (KL.out _).mono ?_
  rintro e w1 ⟨rfl, hb1⟩
  have d1 := d0.call hb1
  clear c1 c2 c3 c4 c101 rls rrs rk
  have c2 := d1.cell (.head _) NC2.out
  have c4 := d1.cell (.head _) NC4.out
  have rrs := d1.rng (.head _) NCrs.out
  go_wp2_with (first
    | refine wpList_load_mid_w (by rfl) 27 _ (by rfl) w.heap.size 37 (by rfl) _ _ rrs Tryd.underlying27 rfl SR.out ?_)
  refine (KR.out _).mono ?_
  rintro e w2 ⟨rfl, hb2⟩
  have d2 := d1.call hb2
  clear c2 c4 rrs
  have c3 := d2.cell (.head _) NC3.out
  have c4 := d2.cell (.head _) NC4.out
  go_wp2
  go_ret
  exact ⟨rfl, d2.1⟩
set_option maxRecDepth 100000 in
set_option maxHeartbeats 2000000 in
theorem xright_w (w : World) (n : Nd) (ok : NdOk n) (sp : Option Addr) (cap : Nat) (hn : n.vs.length ≤ 9223372036854775807) (h1 : n.kd = 2) (s4 : n.k = zD) (s5 : n.vs.length = 0) (s3 : ¬ n.l = n.r) (s1 : SideP n.l n.lc n.ls) (s2 : SideP n.r n.rc n.rs) (s6 : 2 ≤ n.lc + n.rc) :
    Calls Tryd.prog 33 #[.agg (ndC n (.slice sp n.vs.length cap)).toArray] w fun e w' => e = .returned (.bool (decide (n.lc + n.rc ≤ 4096))) ∧ Below w.heap.size w w' := by
  have d0 := (BK.nil w).alloc (ndC n (.slice sp n.vs.length cap)) 30
  have SL := hid (show (Tryd.prog.info? 27).map (·.size) = some (ints .u8 n.ls).length by rw [Tryd.sizeD, ints_len, ok.ls])
  have SR := hid (show (Tryd.prog.info? 27).map (·.size) = some (ints .u8 n.rs).length by rw [Tryd.sizeD, ints_len, ok.rs])
  have SK := hid (show (Tryd.prog.info? 26).map (·.size) = some (ints .u8 n.k).length by rw [Tryd.sizeKy, ints_len, ok.k])
  have qL := eqDg n.ls zD ok.ls rfl
  have qR := eqDg n.rs zD ok.rs rfl
  have qK := eqKy n.k zD ok.k rfl
  have gD := Tryd.guardDg
  have gK := Tryd.guardK
  have BZ := hid built_D0
  have BKz := hid built_K0
  have KL := hid (fun w1 => xchild_any w1 n.l n.lc n.ls ok.ls)
  have KR := hid (fun w1 => xchild_any w1 n.r n.rc n.rs ok.rs)
  have i0 : (n.vs.length : Int) ≤ 9223372036854775807 := by omega
  have c0 := d0.cell (.head _) (v := .int .i64 n.kd) (j := 0) rfl
  have c1 := d0.cell (.head _) (v := .int .i64 n.l) (j := 1) rfl
  have c2 := d0.cell (.head _) (v := .int .i64 n.r) (j := 2) rfl
  have c3 := d0.cell (.head _) (v := .int .i64 n.lc) (j := 3) rfl
  have c4 := d0.cell (.head _) (v := .int .i64 n.rc) (j := 4) rfl
  have c101 := d0.cell (.head _) (ndC_v ok (.slice sp n.vs.length cap))
  have rls := d0.rng (.head _) (ndC_ls ok (.slice sp n.vs.length cap))
  have rrs := d0.rng (.head _) (ndC_rs ok (.slice sp n.vs.length cap))
  have rk := d0.rng (.head _) (ndC_k ok (.slice sp n.vs.length cap))
  rw [h1] at c0
  clear h1
  rw [decide_eq_true s4] at qK
  clear s4
  have i5 : (n.vs.length : Int) = 0 := by omega
  clear s5
  have NC1 := hid (show (ndC n (.slice sp n.vs.length cap))[1]? = some (.int .i64 n.l) from rfl)
  have NC2 := hid (show (ndC n (.slice sp n.vs.length cap))[2]? = some (.int .i64 n.r) from rfl)
  have NC3 := hid (show (ndC n (.slice sp n.vs.length cap))[3]? = some (.int .i64 n.lc) from rfl)
  have NC4 := hid (show (ndC n (.slice sp n.vs.length cap))[4]? = some (.int .i64 n.rc) from rfl)
  have NCrs := hid (ndC_rs ok (.slice sp n.vs.length cap))
  have q1 := s1.le
  have q2 := s2.le
  rw [decide_eq_true s1] at KL
  clear s1
  rw [decide_eq_true s2] at KR
  clear s2
  generalize ints .u8 n.ls = IL at *
  generalize ints .u8 n.rs = IR at *
  generalize ints .u8 n.k = IK at *
  generalize ints .u8 zD = KZ at *
  generalize ndC n (.slice sp n.vs.length cap) = NC at *
  generalize n.vs.length = m at *
  generalize n.l = vl at *
  generalize n.r = vr at *
  generalize n.lc = vlc at *
  generalize n.rc = vrc at *
  go_enter Tryd.func33, Tryd.ntmps33
  go_wp2_with (first
    | refine wpList_load_mid_w (by rfl) 26 _ (by rfl) w.heap.size 69 (by rfl) _ _ rk Tryd.underlying26 rfl SK.out ?_
    | refine wpList_built (by rfl) 26 _ rfl _ rfl _ BKz.out ?_
    | refine wpList_load_mid_w (by rfl) 27 _ (by rfl) w.heap.size 5 (by rfl) _ _ rls Tryd.underlying27 rfl SL.out ?_)
  refine (KL.out _).mono ?_
  rintro e w1 ⟨rfl, hb1⟩
  have d1 := d0.call hb1
  clear c1 c2 c3 c4 c101 rls rrs rk
  have c2 := d1.cell (.head _) NC2.out
  have c4 := d1.cell (.head _) NC4.out
  have rrs := d1.rng (.head _) NCrs.out
  go_wp2_with (first
    | refine wpList_load_mid_w (by rfl) 27 _ (by rfl) w.heap.size 37 (by rfl) _ _ rrs Tryd.underlying27 rfl SR.out ?_)
  refine (KR.out _).mono ?_
  rintro e w2 ⟨rfl, hb2⟩
  have d2 := d1.call hb2
  clear c2 c4 rrs
  have c3 := d2.cell (.head _) NC3.out
  have c4 := d2.cell (.head _) NC4.out
  go_wp2
  go_ret
  exact ⟨rfl, d2.1⟩
theorem xright_any (w : World) (n : Nd) (ok : NdOk n) (sp : Option Addr) (cap : Nat) (hn : n.vs.length ≤ 9223372036854775807) :
    Calls Tryd.prog 33 #[.agg (ndC n (.slice sp n.vs.length cap)).toArray] w fun e w' => e = .returned (.bool (decide (RightP n))) ∧ Below w.heap.size w w' := by
  by_cases h1 : n.kd = 1
  · have nb : ¬ BranchP n := fun h => by have := h.1; omega
    have go : ∀ {p : Prop}, (LeafP n → p) → ¬ p → decide (RightP n) = false := fun hp hn => decide_eq_false (fun h => h.elim (fun h => hn (hp h)) nb)
    by_cases h2 : n.ls = zD
    · by_cases h3 : n.rs = zD
      · by_cases h4 : n.l = 0
        · by_cases h5 : n.r = 0
          · by_cases h6 : n.lc = 0
            · by_cases h7 : n.rc = 0
              · have e : decide (RightP n) = decide (n.vs.length ≤ 128) := by
                  rw [decide_eq_decide]
                  exact ⟨fun h => h.elim (fun h => h.2.2.2.2.2.2.2) (fun h => absurd h nb), fun h => Or.inl ⟨h1, h4, h6, h2, h5, h7, h3, h⟩⟩
                rw [e]; exact xright_lc5 w n ok sp cap hn h1 h2 h3 h4 h5 h6 h7
              · rw [go (fun h => h.2.2.2.2.2.1) h7]; exact xright_lc4 w n ok sp cap hn h1 h2 h3 h4 h5 h6 h7
            · rw [go (fun h => h.2.2.1) h6]; exact xright_lc3 w n ok sp cap hn h1 h2 h3 h4 h5 h6
          · rw [go (fun h => h.2.2.2.2.1) h5]; exact xright_lc2 w n ok sp cap hn h1 h2 h3 h4 h5
        · rw [go (fun h => h.2.1) h4]; exact xright_lc1 w n ok sp cap hn h1 h2 h3 h4
      · rw [go (fun h => h.2.2.2.2.2.2.1) h3]
        by_cases h4 : n.l = 0
        · by_cases h5 : n.r = 0
          · by_cases h6 : n.lc = 0
            · by_cases h7 : n.rc = 0
              · exact xright_lb5 w n ok sp cap hn h1 h2 h3 h4 h5 h6 h7
              · exact xright_lb4 w n ok sp cap hn h1 h2 h3 h4 h5 h6 h7
            · exact xright_lb3 w n ok sp cap hn h1 h2 h3 h4 h5 h6
          · exact xright_lb2 w n ok sp cap hn h1 h2 h3 h4 h5
        · exact xright_lb1 w n ok sp cap hn h1 h2 h3 h4
    · rw [go (fun h => h.2.2.2.1) h2]
      by_cases h4 : n.l = 0
      · by_cases h5 : n.r = 0
        · by_cases h6 : n.lc = 0
          · by_cases h7 : n.rc = 0
            · exact xright_la5 w n ok sp cap hn h1 h2 h4 h5 h6 h7
            · exact xright_la4 w n ok sp cap hn h1 h2 h4 h5 h6 h7
          · exact xright_la3 w n ok sp cap hn h1 h2 h4 h5 h6
        · exact xright_la2 w n ok sp cap hn h1 h2 h4 h5
      · exact xright_la1 w n ok sp cap hn h1 h2 h4
  · have nl : ¬ LeafP n := fun h => h1 h.1
    by_cases h2 : n.kd = 2
    · by_cases s4 : n.k = zD
      · by_cases s5 : n.vs.length = 0
        · by_cases s3 : n.l = n.r
          · rw [decide_eq_false (fun h => h.elim nl (fun h => h.2.2.2.2.2.1 s3))]; exact xright_e w n ok sp cap hn h2 s4 s5 s3
          · by_cases s1 : SideP n.l n.lc n.ls
            · by_cases s2 : SideP n.r n.rc n.rs
              · by_cases s6 : n.lc + n.rc < 2
                · rw [decide_eq_false (fun h => h.elim nl (fun h => by have := h.2.2.2.2.2.2.1; omega))]; exact xright_u w n ok sp cap hn h2 s4 s5 s3 s1 s2 s6
                · have e : decide (RightP n) = decide (n.lc + n.rc ≤ 4096) := by
                    rw [decide_eq_decide]
                    exact ⟨fun h => h.elim (fun h => absurd h nl) (fun h => h.2.2.2.2.2.2.2), fun h => Or.inr ⟨h2, s4, List.eq_nil_of_length_eq_zero s5, s1, s2, s3, by omega, h⟩⟩
                  rw [e]; exact xright_w w n ok sp cap hn h2 s4 s5 s3 s1 s2 (by omega)
              · rw [decide_eq_false (fun h => h.elim nl (fun h => s2 h.2.2.2.2.1))]; exact xright_q w n ok sp cap hn h2 s4 s5 s3 s1 s2
            · rw [decide_eq_false (fun h => h.elim nl (fun h => s1 h.2.2.2.1))]
              by_cases s2 : SideP n.r n.rc n.rs
              · exact xright_p w n ok sp cap hn h2 s4 s5 s3 s1 s2
              · exact xright_p2 w n ok sp cap hn h2 s4 s5 s3 s1 s2
        · rw [decide_eq_false (fun h => h.elim nl (fun h => s5 (by rw [h.2.2.1]; rfl)))]; exact xright_v w n ok sp cap hn h2 s4 s5
      · rw [decide_eq_false (fun h => h.elim nl (fun h => s4 h.2.1))]; exact xright_k w n ok sp cap hn h2 s4
    · rw [decide_eq_false (fun h => h.elim nl (fun h => h2 h.1))]; exact xright_o w n ok sp cap hn h1 h2
end Go.Proofs.YtipbbmbkjcpjbaaDoor
