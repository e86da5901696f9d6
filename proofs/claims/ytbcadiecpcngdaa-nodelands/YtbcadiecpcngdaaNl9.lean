import Derived.Test.YtbcadiecpcngdaaNk9
import Derived.Test.YtbcadiecpcngdaaMr9
namespace Go.Proofs.Ytbcadiecpcngdaa
set_option linter.unusedVariables false
set_option linter.unusedSimpArgs false
open Go.RowKit
attribute [local go_sem ↓] Go.wp_at_zero Go.wp_at_succ

theorem eqDg (xs ys : List Int) (ha : xs.length = 32) (hb : ys.length = 32) (w : World) :
    (Op.equalIn 10000 36 (.agg (ints .u8 xs).toArray) (.agg (ints .u8 ys).toArray)).run Try.prog w = .ok (decide (xs = ys)) w :=
  equalIn_ints Try.underlying36 Try.underlying5 Try.size5 .u8 xs ys ha hb w
theorem eqDg_self (xs : List Int) (ha : xs.length = 32) (w : World) :
    (Op.equalIn 10000 36 (.agg (ints .u8 xs).toArray) (.agg (ints .u8 xs).toArray)).run Try.prog w = .ok true w := by
  rw [eqDg xs xs ha ha]; simp
theorem eqKy_self (xs : List Int) (ha : xs.length = 32) (w : World) :
    (Op.equalIn 10000 37 (.agg (ints .u8 xs).toArray) (.agg (ints .u8 xs).toArray)).run Try.prog w = .ok true w := by
  rw [eqKy xs xs ha ha]; simp
theorem Try.guardDg : Try.prog.eqGuardType Try.prog.depth 36 = false := by kernel_rfl
set_option maxRecDepth 100000 in
set_option maxHeartbeats 2000000 in
theorem side_z (w : World) (p c : Int) (s : List Int) (hs : s.length = 32) (h0 : p = 0) (h1 : c = 0) :
    Calls Try.prog 25 #[.int .i64 p, .int .i64 c, .agg (ints .u8 s).toArray] w fun e w' => e = .returned (.bool (decide (s = zD))) ∧ Below w.heap.size w w' := by
  have r0 := hnew w (.cells (ints .u8 s).toArray 36)
  have hB := (Below.refl w.heap.size w).alloc (Nat.le_refl _) (.cells (ints .u8 s).toArray 36)
  have SD := hid (show (Try.prog.info? 36).map (·.size) = some (ints .u8 s).toArray.size by rw [Try.sizeD, List.size_toArray, ints_len, hs])
  have qD := eqDg s zD hs rfl
  have gD := Try.guardDg
  have BZ := hid built_D0
  subst h0 h1
  generalize decide (s = zD) = E at *
  generalize ints .u8 s = S at *
  generalize ints .u8 zD = Z at *
  go_enter Try.func25, Try.ntmps25
  go_wp2_with (first
    | refine wpList_load_row_w (by rfl) 36 _ (by rfl) _ (by rfl) 36 _ _ _ r0 Try.underlying36 rfl SD.out ?_
    | refine wpList_built (by rfl) 36 _ rfl _ rfl _ BZ.out ?_)
  go_ret
  exact ⟨rfl, hB⟩
set_option maxRecDepth 100000 in
set_option maxHeartbeats 2000000 in
theorem side_c (w : World) (p c : Int) (s : List Int) (hs : s.length = 32) (h0 : p = 0) (h1 : ¬ c = 0) :
    Calls Try.prog 25 #[.int .i64 p, .int .i64 c, .agg (ints .u8 s).toArray] w fun e w' => e = .returned (.bool false) ∧ Below w.heap.size w w' := by
  have r0 := hnew w (.cells (ints .u8 s).toArray 36)
  have hB := (Below.refl w.heap.size w).alloc (Nat.le_refl _) (.cells (ints .u8 s).toArray 36)
  have SD := hid (show (Try.prog.info? 36).map (·.size) = some (ints .u8 s).toArray.size by rw [Try.sizeD, List.size_toArray, ints_len, hs])
  have qD := eqDg s zD hs rfl
  have gD := Try.guardDg
  have BZ := hid built_D0
  subst h0
  generalize ints .u8 s = S at *
  generalize ints .u8 zD = Z at *
  go_enter Try.func25, Try.ntmps25
  go_wp2_with (first
    | refine wpList_load_row_w (by rfl) 36 _ (by rfl) _ (by rfl) 36 _ _ _ r0 Try.underlying36 rfl SD.out ?_
    | refine wpList_built (by rfl) 36 _ rfl _ rfl _ BZ.out ?_)
  go_ret
  exact ⟨rfl, hB⟩
set_option maxRecDepth 100000 in
set_option maxHeartbeats 2000000 in
theorem side_a (w : World) (p c : Int) (s : List Int) (hs : s.length = 32) (h0 : ¬ p = 0) (h1 : ¬ 2 ≤ p) :
    Calls Try.prog 25 #[.int .i64 p, .int .i64 c, .agg (ints .u8 s).toArray] w fun e w' => e = .returned (.bool false) ∧ Below w.heap.size w w' := by
  have r0 := hnew w (.cells (ints .u8 s).toArray 36)
  have hB := (Below.refl w.heap.size w).alloc (Nat.le_refl _) (.cells (ints .u8 s).toArray 36)
  have SD := hid (show (Try.prog.info? 36).map (·.size) = some (ints .u8 s).toArray.size by rw [Try.sizeD, List.size_toArray, ints_len, hs])
  have qD := eqDg s zD hs rfl
  have gD := Try.guardDg
  have BZ := hid built_D0
  have h2 : p < 2 := by omega
  generalize ints .u8 s = S at *
  generalize ints .u8 zD = Z at *
  go_enter Try.func25, Try.ntmps25
  go_wp2_with (first
    | refine wpList_load_row_w (by rfl) 36 _ (by rfl) _ (by rfl) 36 _ _ _ r0 Try.underlying36 rfl SD.out ?_
    | refine wpList_built (by rfl) 36 _ rfl _ rfl _ BZ.out ?_)
  go_ret
  exact ⟨rfl, hB⟩
set_option maxRecDepth 100000 in
set_option maxHeartbeats 2000000 in
theorem side_b (w : World) (p c : Int) (s : List Int) (hs : s.length = 32) (h0 : ¬ p = 0) (h1 : 2 ≤ p) (h2 : ¬ p ≤ 4095) :
    Calls Try.prog 25 #[.int .i64 p, .int .i64 c, .agg (ints .u8 s).toArray] w fun e w' => e = .returned (.bool false) ∧ Below w.heap.size w w' := by
  have r0 := hnew w (.cells (ints .u8 s).toArray 36)
  have hB := (Below.refl w.heap.size w).alloc (Nat.le_refl _) (.cells (ints .u8 s).toArray 36)
  have SD := hid (show (Try.prog.info? 36).map (·.size) = some (ints .u8 s).toArray.size by rw [Try.sizeD, List.size_toArray, ints_len, hs])
  have qD := eqDg s zD hs rfl
  have gD := Try.guardDg
  have BZ := hid built_D0
  have h3 : 4095 < p := by omega
  generalize ints .u8 s = S at *
  generalize ints .u8 zD = Z at *
  go_enter Try.func25, Try.ntmps25
  go_wp2_with (first
    | refine wpList_load_row_w (by rfl) 36 _ (by rfl) _ (by rfl) 36 _ _ _ r0 Try.underlying36 rfl SD.out ?_
    | refine wpList_built (by rfl) 36 _ rfl _ rfl _ BZ.out ?_)
  go_ret
  exact ⟨rfl, hB⟩
set_option maxRecDepth 100000 in
set_option maxHeartbeats 2000000 in
theorem side_d (w : World) (p c : Int) (s : List Int) (hs : s.length = 32) (h0 : ¬ p = 0) (h1 : 2 ≤ p) (h2 : p ≤ 4095) (h3 : ¬ 1 ≤ c) :
    Calls Try.prog 25 #[.int .i64 p, .int .i64 c, .agg (ints .u8 s).toArray] w fun e w' => e = .returned (.bool false) ∧ Below w.heap.size w w' := by
  have r0 := hnew w (.cells (ints .u8 s).toArray 36)
  have hB := (Below.refl w.heap.size w).alloc (Nat.le_refl _) (.cells (ints .u8 s).toArray 36)
  have SD := hid (show (Try.prog.info? 36).map (·.size) = some (ints .u8 s).toArray.size by rw [Try.sizeD, List.size_toArray, ints_len, hs])
  have qD := eqDg s zD hs rfl
  have gD := Try.guardDg
  have BZ := hid built_D0
  have h4 : c < 1 := by omega
  generalize ints .u8 s = S at *
  generalize ints .u8 zD = Z at *
  go_enter Try.func25, Try.ntmps25
  go_wp2_with (first
    | refine wpList_load_row_w (by rfl) 36 _ (by rfl) _ (by rfl) 36 _ _ _ r0 Try.underlying36 rfl SD.out ?_
    | refine wpList_built (by rfl) 36 _ rfl _ rfl _ BZ.out ?_)
  go_ret
  exact ⟨rfl, hB⟩
set_option maxRecDepth 100000 in
set_option maxHeartbeats 2000000 in
theorem side_e (w : World) (p c : Int) (s : List Int) (hs : s.length = 32) (h0 : ¬ p = 0) (h1 : 2 ≤ p) (h2 : p ≤ 4095) (h3 : 1 ≤ c) :
    Calls Try.prog 25 #[.int .i64 p, .int .i64 c, .agg (ints .u8 s).toArray] w fun e w' => e = .returned (.bool (decide (c ≤ 4096))) ∧ Below w.heap.size w w' := by
  have r0 := hnew w (.cells (ints .u8 s).toArray 36)
  have hB := (Below.refl w.heap.size w).alloc (Nat.le_refl _) (.cells (ints .u8 s).toArray 36)
  have SD := hid (show (Try.prog.info? 36).map (·.size) = some (ints .u8 s).toArray.size by rw [Try.sizeD, List.size_toArray, ints_len, hs])
  have qD := eqDg s zD hs rfl
  have gD := Try.guardDg
  have BZ := hid built_D0
  generalize ints .u8 s = S at *
  generalize ints .u8 zD = Z at *
  go_enter Try.func25, Try.ntmps25
  go_wp2_with (first
    | refine wpList_load_row_w (by rfl) 36 _ (by rfl) _ (by rfl) 36 _ _ _ r0 Try.underlying36 rfl SD.out ?_
    | refine wpList_built (by rfl) 36 _ rfl _ rfl _ BZ.out ?_)
  go_ret
  exact ⟨rfl, hB⟩
theorem side_any (w : World) (p c : Int) (s : List Int) (hs : s.length = 32) :
    Calls Try.prog 25 #[.int .i64 p, .int .i64 c, .agg (ints .u8 s).toArray] w fun e w' => e = .returned (.bool (decide (SideP p c s))) ∧ Below w.heap.size w w' := by
  by_cases h0 : p = 0
  · by_cases h1 : c = 0
    · have e : decide (SideP p c s) = decide (s = zD) := by rw [decide_eq_decide]; unfold SideP; constructor; rintro (h | h); exact h.2.2; omega; exact fun h => Or.inl ⟨h0, h1, h⟩
      rw [e]; exact side_z w p c s hs h0 h1
    · rw [decide_eq_false (by rintro (h | h) <;> omega)]; exact side_c w p c s hs h0 h1
  · by_cases h1 : 2 ≤ p
    · by_cases h2 : p ≤ 4095
      · by_cases h3 : 1 ≤ c
        · have e : decide (SideP p c s) = decide (c ≤ 4096) := by rw [decide_eq_decide]; unfold SideP; constructor; rintro (h | h) <;> omega; exact fun h => Or.inr (by omega)
          rw [e]; exact side_e w p c s hs h0 h1 h2 h3
        · rw [decide_eq_false (by rintro (h | h) <;> omega)]; exact side_d w p c s hs h0 h1 h2 h3
      · rw [decide_eq_false (by rintro (h | h) <;> omega)]; exact side_b w p c s hs h0 h1 h2
    · rw [decide_eq_false (by rintro (h | h) <;> omega)]; exact side_a w p c s hs h0 h1
set_option maxRecDepth 100000 in
set_option maxHeartbeats 2000000 in
theorem right_l1 (w : World) (n : Nd) (ok : NdOk n) (sp : Option Addr) (cap : Nat) (hn : n.vs.length ≤ 9223372036854775807) (h1 : n.kd = 1) (h2 : ¬ n.ls = zD) :
    Calls Try.prog 8 #[.agg (ndC n (.slice sp n.vs.length cap)).toArray] w fun e w' => e = .returned (.bool false) ∧ Below w.heap.size w w' := by
  have d0 := (BK.nil w).alloc (ndC n (.slice sp n.vs.length cap)) 39
  have SL := hid (show (Try.prog.info? 36).map (·.size) = some (ints .u8 n.ls).length by rw [Try.sizeD, ints_len, ok.ls])
  have SR := hid (show (Try.prog.info? 36).map (·.size) = some (ints .u8 n.rs).length by rw [Try.sizeD, ints_len, ok.rs])
  have SK := hid (show (Try.prog.info? 37).map (·.size) = some (ints .u8 n.k).length by rw [Try.sizeKy, ints_len, ok.k])
  have qL := eqDg n.ls zD ok.ls rfl
  have qR := eqDg n.rs zD ok.rs rfl
  have qK := eqKy n.k zD ok.k rfl
  have qK2 : ∀ w, (Op.equalIn 10000 37 (.agg (ints .u8 n.k).toArray) (.agg #[.int .u8 0, .int .u8 0, .int .u8 0, .int .u8 0, .int .u8 0, .int .u8 0, .int .u8 0, .int .u8 0, .int .u8 0, .int .u8 0, .int .u8 0, .int .u8 0, .int .u8 0, .int .u8 0, .int .u8 0, .int .u8 0, .int .u8 0, .int .u8 0, .int .u8 0, .int .u8 0, .int .u8 0, .int .u8 0, .int .u8 0, .int .u8 0, .int .u8 0, .int .u8 0, .int .u8 0, .int .u8 0, .int .u8 0, .int .u8 0, .int .u8 0, .int .u8 0])).run Try.prog w = .ok (decide (n.k = zD)) w := eqKy n.k zD ok.k rfl
  have gD := Try.guardDg
  have gK := Try.guardK
  have BZ := hid built_D0
  have BKz := hid built_K0
  have KL := hid (fun w1 => side_any w1 n.l n.lc n.ls ok.ls)
  have KR := hid (fun w1 => side_any w1 n.r n.rc n.rs ok.rs)
  have i0 : (n.vs.length : Int) ≤ 9223372036854775807 := by omega
  have c0 := d0.cell (.head _) (v := .int .i64 n.kd) (j := 0) rfl
  have c1 := d0.cell (.head _) (v := .int .i64 n.l) (j := 1) rfl
  have c2 := d0.cell (.head _) (v := .int .i64 n.r) (j := 2) rfl
  have c3 := d0.cell (.head _) (v := .int .i64 n.lc) (j := 3) rfl
  have c4 := d0.cell (.head _) (v := .int .i64 n.rc) (j := 4) rfl
  have c101 := d0.cell (.head _) (ndC_v ok (.slice sp n.vs.length cap))
  have rls := d0.rng (.head _) (ndC_ls ok (.slice sp n.vs.length cap))
  have rrs := d0.rng (.head _) (ndC_rs ok (.slice sp n.vs.length cap))
  have rk := d0.rng (.head _) (ndC_k ok (.slice sp n.vs.length cap))
  rw [h1] at c0
  clear h1
  rw [decide_eq_false h2] at qL
  clear h2
  generalize ints .u8 n.ls = IL at *
  generalize ints .u8 n.rs = IR at *
  generalize ints .u8 n.k = IK at *
  generalize ints .u8 zD = KZ at *
  generalize ndC n (.slice sp n.vs.length cap) = NC at *
  generalize n.vs.length = m at *
  generalize n.l = vl at *
  generalize n.r = vr at *
  generalize n.lc = vlc at *
  generalize n.rc = vrc at *
  go_enter Try.func8, Try.ntmps8
  go_wp2_with (first
    | refine wpList_load_mid_w (by rfl) 36 _ (by rfl) w.heap.size 5 (by rfl) _ _ rls Try.underlying36 rfl SL.out ?_
    | refine wpList_load_mid_w (by rfl) 36 _ (by rfl) w.heap.size 37 (by rfl) _ _ rrs Try.underlying36 rfl SR.out ?_
    | refine wpList_built (by rfl) 36 _ rfl _ rfl _ BZ.out ?_)
  go_ret
  exact ⟨rfl, d0.1⟩
set_option maxRecDepth 100000 in
set_option maxHeartbeats 2000000 in
theorem right_l2 (w : World) (n : Nd) (ok : NdOk n) (sp : Option Addr) (cap : Nat) (hn : n.vs.length ≤ 9223372036854775807) (h1 : n.kd = 1) (h2 : n.ls = zD) (h3 : ¬ n.rs = zD) :
    Calls Try.prog 8 #[.agg (ndC n (.slice sp n.vs.length cap)).toArray] w fun e w' => e = .returned (.bool false) ∧ Below w.heap.size w w' := by
  have d0 := (BK.nil w).alloc (ndC n (.slice sp n.vs.length cap)) 39
  have SL := hid (show (Try.prog.info? 36).map (·.size) = some (ints .u8 n.ls).length by rw [Try.sizeD, ints_len, ok.ls])
  have SR := hid (show (Try.prog.info? 36).map (·.size) = some (ints .u8 n.rs).length by rw [Try.sizeD, ints_len, ok.rs])
  have SK := hid (show (Try.prog.info? 37).map (·.size) = some (ints .u8 n.k).length by rw [Try.sizeKy, ints_len, ok.k])
  have qL := eqDg n.ls zD ok.ls rfl
  have qR := eqDg n.rs zD ok.rs rfl
  have qK := eqKy n.k zD ok.k rfl
  have qK2 : ∀ w, (Op.equalIn 10000 37 (.agg (ints .u8 n.k).toArray) (.agg #[.int .u8 0, .int .u8 0, .int .u8 0, .int .u8 0, .int .u8 0, .int .u8 0, .int .u8 0, .int .u8 0, .int .u8 0, .int .u8 0, .int .u8 0, .int .u8 0, .int .u8 0, .int .u8 0, .int .u8 0, .int .u8 0, .int .u8 0, .int .u8 0, .int .u8 0, .int .u8 0, .int .u8 0, .int .u8 0, .int .u8 0, .int .u8 0, .int .u8 0, .int .u8 0, .int .u8 0, .int .u8 0, .int .u8 0, .int .u8 0, .int .u8 0, .int .u8 0])).run Try.prog w = .ok (decide (n.k = zD)) w := eqKy n.k zD ok.k rfl
  have gD := Try.guardDg
  have gK := Try.guardK
  have BZ := hid built_D0
  have BKz := hid built_K0
  have KL := hid (fun w1 => side_any w1 n.l n.lc n.ls ok.ls)
  have KR := hid (fun w1 => side_any w1 n.r n.rc n.rs ok.rs)
  have i0 : (n.vs.length : Int) ≤ 9223372036854775807 := by omega
  have c0 := d0.cell (.head _) (v := .int .i64 n.kd) (j := 0) rfl
  have c1 := d0.cell (.head _) (v := .int .i64 n.l) (j := 1) rfl
  have c2 := d0.cell (.head _) (v := .int .i64 n.r) (j := 2) rfl
  have c3 := d0.cell (.head _) (v := .int .i64 n.lc) (j := 3) rfl
  have c4 := d0.cell (.head _) (v := .int .i64 n.rc) (j := 4) rfl
  have c101 := d0.cell (.head _) (ndC_v ok (.slice sp n.vs.length cap))
  have rls := d0.rng (.head _) (ndC_ls ok (.slice sp n.vs.length cap))
  have rrs := d0.rng (.head _) (ndC_rs ok (.slice sp n.vs.length cap))
  have rk := d0.rng (.head _) (ndC_k ok (.slice sp n.vs.length cap))
  rw [h1] at c0
  clear h1
  rw [decide_eq_true h2] at qL
  clear h2
  rw [decide_eq_false h3] at qR
  clear h3
  generalize ints .u8 n.ls = IL at *
  generalize ints .u8 n.rs = IR at *
  generalize ints .u8 n.k = IK at *
  generalize ints .u8 zD = KZ at *
  generalize ndC n (.slice sp n.vs.length cap) = NC at *
  generalize n.vs.length = m at *
  generalize n.l = vl at *
  generalize n.r = vr at *
  generalize n.lc = vlc at *
  generalize n.rc = vrc at *
  go_enter Try.func8, Try.ntmps8
  go_wp2_with (first
    | refine wpList_load_mid_w (by rfl) 36 _ (by rfl) w.heap.size 5 (by rfl) _ _ rls Try.underlying36 rfl SL.out ?_
    | refine wpList_load_mid_w (by rfl) 36 _ (by rfl) w.heap.size 37 (by rfl) _ _ rrs Try.underlying36 rfl SR.out ?_
    | refine wpList_built (by rfl) 36 _ rfl _ rfl _ BZ.out ?_)
  go_ret
  exact ⟨rfl, d0.1⟩
set_option maxRecDepth 100000 in
set_option maxHeartbeats 2000000 in
theorem right_l3 (w : World) (n : Nd) (ok : NdOk n) (sp : Option Addr) (cap : Nat) (hn : n.vs.length ≤ 9223372036854775807) (h1 : n.kd = 1) (h2 : n.ls = zD) (h3 : n.rs = zD) (h4 : ¬ n.l = 0) :
    Calls Try.prog 8 #[.agg (ndC n (.slice sp n.vs.length cap)).toArray] w fun e w' => e = .returned (.bool false) ∧ Below w.heap.size w w' := by
  have d0 := (BK.nil w).alloc (ndC n (.slice sp n.vs.length cap)) 39
  have SL := hid (show (Try.prog.info? 36).map (·.size) = some (ints .u8 n.ls).length by rw [Try.sizeD, ints_len, ok.ls])
  have SR := hid (show (Try.prog.info? 36).map (·.size) = some (ints .u8 n.rs).length by rw [Try.sizeD, ints_len, ok.rs])
  have SK := hid (show (Try.prog.info? 37).map (·.size) = some (ints .u8 n.k).length by rw [Try.sizeKy, ints_len, ok.k])
  have qL := eqDg n.ls zD ok.ls rfl
  have qR := eqDg n.rs zD ok.rs rfl
  have qK := eqKy n.k zD ok.k rfl
  have qK2 : ∀ w, (Op.equalIn 10000 37 (.agg (ints .u8 n.k).toArray) (.agg #[.int .u8 0, .int .u8 0, .int .u8 0, .int .u8 0, .int .u8 0, .int .u8 0, .int .u8 0, .int .u8 0, .int .u8 0, .int .u8 0, .int .u8 0, .int .u8 0, .int .u8 0, .int .u8 0, .int .u8 0, .int .u8 0, .int .u8 0, .int .u8 0, .int .u8 0, .int .u8 0, .int .u8 0, .int .u8 0, .int .u8 0, .int .u8 0, .int .u8 0, .int .u8 0, .int .u8 0, .int .u8 0, .int .u8 0, .int .u8 0, .int .u8 0, .int .u8 0])).run Try.prog w = .ok (decide (n.k = zD)) w := eqKy n.k zD ok.k rfl
  have gD := Try.guardDg
  have gK := Try.guardK
  have BZ := hid built_D0
  have BKz := hid built_K0
  have KL := hid (fun w1 => side_any w1 n.l n.lc n.ls ok.ls)
  have KR := hid (fun w1 => side_any w1 n.r n.rc n.rs ok.rs)
  have i0 : (n.vs.length : Int) ≤ 9223372036854775807 := by omega
  have c0 := d0.cell (.head _) (v := .int .i64 n.kd) (j := 0) rfl
  have c1 := d0.cell (.head _) (v := .int .i64 n.l) (j := 1) rfl
  have c2 := d0.cell (.head _) (v := .int .i64 n.r) (j := 2) rfl
  have c3 := d0.cell (.head _) (v := .int .i64 n.lc) (j := 3) rfl
  have c4 := d0.cell (.head _) (v := .int .i64 n.rc) (j := 4) rfl
  have c101 := d0.cell (.head _) (ndC_v ok (.slice sp n.vs.length cap))
  have rls := d0.rng (.head _) (ndC_ls ok (.slice sp n.vs.length cap))
  have rrs := d0.rng (.head _) (ndC_rs ok (.slice sp n.vs.length cap))
  have rk := d0.rng (.head _) (ndC_k ok (.slice sp n.vs.length cap))
  rw [h1] at c0
  clear h1
  rw [decide_eq_true h2] at qL
  clear h2
  rw [decide_eq_true h3] at qR
  clear h3
  generalize ints .u8 n.ls = IL at *
  generalize ints .u8 n.rs = IR at *
  generalize ints .u8 n.k = IK at *
  generalize ints .u8 zD = KZ at *
  generalize ndC n (.slice sp n.vs.length cap) = NC at *
  generalize n.vs.length = m at *
  generalize n.l = vl at *
  generalize n.r = vr at *
  generalize n.lc = vlc at *
  generalize n.rc = vrc at *
  go_enter Try.func8, Try.ntmps8
  go_wp2_with (first
    | refine wpList_load_mid_w (by rfl) 36 _ (by rfl) w.heap.size 5 (by rfl) _ _ rls Try.underlying36 rfl SL.out ?_
    | refine wpList_load_mid_w (by rfl) 36 _ (by rfl) w.heap.size 37 (by rfl) _ _ rrs Try.underlying36 rfl SR.out ?_
    | refine wpList_built (by rfl) 36 _ rfl _ rfl _ BZ.out ?_)
  go_ret
  exact ⟨rfl, d0.1⟩
set_option maxRecDepth 100000 in
set_option maxHeartbeats 2000000 in
theorem right_l4 (w : World) (n : Nd) (ok : NdOk n) (sp : Option Addr) (cap : Nat) (hn : n.vs.length ≤ 9223372036854775807) (h1 : n.kd = 1) (h2 : n.ls = zD) (h3 : n.rs = zD) (h4 : n.l = 0) (h5 : ¬ n.r = 0) :
    Calls Try.prog 8 #[.agg (ndC n (.slice sp n.vs.length cap)).toArray] w fun e w' => e = .returned (.bool false) ∧ Below w.heap.size w w' := by
  have d0 := (BK.nil w).alloc (ndC n (.slice sp n.vs.length cap)) 39
  have SL := hid (show (Try.prog.info? 36).map (·.size) = some (ints .u8 n.ls).length by rw [Try.sizeD, ints_len, ok.ls])
  have SR := hid (show (Try.prog.info? 36).map (·.size) = some (ints .u8 n.rs).length by rw [Try.sizeD, ints_len, ok.rs])
  have SK := hid (show (Try.prog.info? 37).map (·.size) = some (ints .u8 n.k).length by rw [Try.sizeKy, ints_len, ok.k])
  have qL := eqDg n.ls zD ok.ls rfl
  have qR := eqDg n.rs zD ok.rs rfl
  have qK := eqKy n.k zD ok.k rfl
  have qK2 : ∀ w, (Op.equalIn 10000 37 (.agg (ints .u8 n.k).toArray) (.agg #[.int .u8 0, .int .u8 0, .int .u8 0, .int .u8 0, .int .u8 0, .int .u8 0, .int .u8 0, .int .u8 0, .int .u8 0, .int .u8 0, .int .u8 0, .int .u8 0, .int .u8 0, .int .u8 0, .int .u8 0, .int .u8 0, .int .u8 0, .int .u8 0, .int .u8 0, .int .u8 0, .int .u8 0, .int .u8 0, .int .u8 0, .int .u8 0, .int .u8 0, .int .u8 0, .int .u8 0, .int .u8 0, .int .u8 0, .int .u8 0, .int .u8 0, .int .u8 0])).run Try.prog w = .ok (decide (n.k = zD)) w := eqKy n.k zD ok.k rfl
  have gD := Try.guardDg
  have gK := Try.guardK
  have BZ := hid built_D0
  have BKz := hid built_K0
  have KL := hid (fun w1 => side_any w1 n.l n.lc n.ls ok.ls)
  have KR := hid (fun w1 => side_any w1 n.r n.rc n.rs ok.rs)
  have i0 : (n.vs.length : Int) ≤ 9223372036854775807 := by omega
  have c0 := d0.cell (.head _) (v := .int .i64 n.kd) (j := 0) rfl
  have c1 := d0.cell (.head _) (v := .int .i64 n.l) (j := 1) rfl
  have c2 := d0.cell (.head _) (v := .int .i64 n.r) (j := 2) rfl
  have c3 := d0.cell (.head _) (v := .int .i64 n.lc) (j := 3) rfl
  have c4 := d0.cell (.head _) (v := .int .i64 n.rc) (j := 4) rfl
  have c101 := d0.cell (.head _) (ndC_v ok (.slice sp n.vs.length cap))
  have rls := d0.rng (.head _) (ndC_ls ok (.slice sp n.vs.length cap))
  have rrs := d0.rng (.head _) (ndC_rs ok (.slice sp n.vs.length cap))
  have rk := d0.rng (.head _) (ndC_k ok (.slice sp n.vs.length cap))
  rw [h1] at c0
  clear h1
  rw [decide_eq_true h2] at qL
  clear h2
  rw [decide_eq_true h3] at qR
  clear h3
  rw [h4] at c1
  clear h4
  generalize ints .u8 n.ls = IL at *
  generalize ints .u8 n.rs = IR at *
  generalize ints .u8 n.k = IK at *
  generalize ints .u8 zD = KZ at *
  generalize ndC n (.slice sp n.vs.length cap) = NC at *
  generalize n.vs.length = m at *
  generalize n.l = vl at *
  generalize n.r = vr at *
  generalize n.lc = vlc at *
  generalize n.rc = vrc at *
  go_enter Try.func8, Try.ntmps8
  go_wp2_with (first
    | refine wpList_load_mid_w (by rfl) 36 _ (by rfl) w.heap.size 5 (by rfl) _ _ rls Try.underlying36 rfl SL.out ?_
    | refine wpList_load_mid_w (by rfl) 36 _ (by rfl) w.heap.size 37 (by rfl) _ _ rrs Try.underlying36 rfl SR.out ?_
    | refine wpList_built (by rfl) 36 _ rfl _ rfl _ BZ.out ?_)
  go_ret
  exact ⟨rfl, d0.1⟩
set_option maxRecDepth 100000 in
set_option maxHeartbeats 2000000 in
theorem right_l5 (w : World) (n : Nd) (ok : NdOk n) (sp : Option Addr) (cap : Nat) (hn : n.vs.length ≤ 9223372036854775807) (h1 : n.kd = 1) (h2 : n.ls = zD) (h3 : n.rs = zD) (h4 : n.l = 0) (h5 : n.r = 0) (h6 : ¬ n.lc = 0) :
    Calls Try.prog 8 #[.agg (ndC n (.slice sp n.vs.length cap)).toArray] w fun e w' => e = .returned (.bool false) ∧ Below w.heap.size w w' := by
  have d0 := (BK.nil w).alloc (ndC n (.slice sp n.vs.length cap)) 39
  have SL := hid (show (Try.prog.info? 36).map (·.size) = some (ints .u8 n.ls).length by rw [Try.sizeD, ints_len, ok.ls])
  have SR := hid (show (Try.prog.info? 36).map (·.size) = some (ints .u8 n.rs).length by rw [Try.sizeD, ints_len, ok.rs])
  have SK := hid (show (Try.prog.info? 37).map (·.size) = some (ints .u8 n.k).length by rw [Try.sizeKy, ints_len, ok.k])
  have qL := eqDg n.ls zD ok.ls rfl
  have qR := eqDg n.rs zD ok.rs rfl
  have qK := eqKy n.k zD ok.k rfl
  have qK2 : ∀ w, (Op.equalIn 10000 37 (.agg (ints .u8 n.k).toArray) (.agg #[.int .u8 0, .int .u8 0, .int .u8 0, .int .u8 0, .int .u8 0, .int .u8 0, .int .u8 0, .int .u8 0, .int .u8 0, .int .u8 0, .int .u8 0, .int .u8 0, .int .u8 0, .int .u8 0, .int .u8 0, .int .u8 0, .int .u8 0, .int .u8 0, .int .u8 0, .int .u8 0, .int .u8 0, .int .u8 0, .int .u8 0, .int .u8 0, .int .u8 0, .int .u8 0, .int .u8 0, .int .u8 0, .int .u8 0, .int .u8 0, .int .u8 0, .int .u8 0])).run Try.prog w = .ok (decide (n.k = zD)) w := eqKy n.k zD ok.k rfl
  have gD := Try.guardDg
  have gK := Try.guardK
  have BZ := hid built_D0
  have BKz := hid built_K0
  have KL := hid (fun w1 => side_any w1 n.l n.lc n.ls ok.ls)
  have KR := hid (fun w1 => side_any w1 n.r n.rc n.rs ok.rs)
  have i0 : (n.vs.length : Int) ≤ 9223372036854775807 := by omega
  have c0 := d0.cell (.head _) (v := .int .i64 n.kd) (j := 0) rfl
  have c1 := d0.cell (.head _) (v := .int .i64 n.l) (j := 1) rfl
  have c2 := d0.cell (.head _) (v := .int .i64 n.r) (j := 2) rfl
  have c3 := d0.cell (.head _) (v := .int .i64 n.lc) (j := 3) rfl
  have c4 := d0.cell (.head _) (v := .int .i64 n.rc) (j := 4) rfl
  have c101 := d0.cell (.head _) (ndC_v ok (.slice sp n.vs.length cap))
  have rls := d0.rng (.head _) (ndC_ls ok (.slice sp n.vs.length cap))
  have rrs := d0.rng (.head _) (ndC_rs ok (.slice sp n.vs.length cap))
  have rk := d0.rng (.head _) (ndC_k ok (.slice sp n.vs.length cap))
  rw [h1] at c0
  clear h1
  rw [decide_eq_true h2] at qL
  clear h2
  rw [decide_eq_true h3] at qR
  clear h3
  rw [h4] at c1
  rw [h5] at c2
  clear h4 h5
  generalize ints .u8 n.ls = IL at *
  generalize ints .u8 n.rs = IR at *
  generalize ints .u8 n.k = IK at *
  generalize ints .u8 zD = KZ at *
  generalize ndC n (.slice sp n.vs.length cap) = NC at *
  generalize n.vs.length = m at *
  generalize n.l = vl at *
  generalize n.r = vr at *
  generalize n.lc = vlc at *
  generalize n.rc = vrc at *
  go_enter Try.func8, Try.ntmps8
  go_wp2_with (first
    | refine wpList_load_mid_w (by rfl) 36 _ (by rfl) w.heap.size 5 (by rfl) _ _ rls Try.underlying36 rfl SL.out ?_
    | refine wpList_load_mid_w (by rfl) 36 _ (by rfl) w.heap.size 37 (by rfl) _ _ rrs Try.underlying36 rfl SR.out ?_
    | refine wpList_built (by rfl) 36 _ rfl _ rfl _ BZ.out ?_)
  go_ret
  exact ⟨rfl, d0.1⟩
set_option maxRecDepth 100000 in
set_option maxHeartbeats 2000000 in
theorem right_l6 (w : World) (n : Nd) (ok : NdOk n) (sp : Option Addr) (cap : Nat) (hn : n.vs.length ≤ 9223372036854775807) (h1 : n.kd = 1) (h2 : n.ls = zD) (h3 : n.rs = zD) (h4 : n.l = 0) (h5 : n.r = 0) (h6 : n.lc = 0) (h7 : ¬ n.rc = 0) :
    Calls Try.prog 8 #[.agg (ndC n (.slice sp n.vs.length cap)).toArray] w fun e w' => e = .returned (.bool false) ∧ Below w.heap.size w w' := by
  have d0 := (BK.nil w).alloc (ndC n (.slice sp n.vs.length cap)) 39
  have SL := hid (show (Try.prog.info? 36).map (·.size) = some (ints .u8 n.ls).length by rw [Try.sizeD, ints_len, ok.ls])
  have SR := hid (show (Try.prog.info? 36).map (·.size) = some (ints .u8 n.rs).length by rw [Try.sizeD, ints_len, ok.rs])
  have SK := hid (show (Try.prog.info? 37).map (·.size) = some (ints .u8 n.k).length by rw [Try.sizeKy, ints_len, ok.k])
  have qL := eqDg n.ls zD ok.ls rfl
  have qR := eqDg n.rs zD ok.rs rfl
  have qK := eqKy n.k zD ok.k rfl
  have qK2 : ∀ w, (Op.equalIn 10000 37 (.agg (ints .u8 n.k).toArray) (.agg #[.int .u8 0, .int .u8 0, .int .u8 0, .int .u8 0, .int .u8 0, .int .u8 0, .int .u8 0, .int .u8 0, .int .u8 0, .int .u8 0, .int .u8 0, .int .u8 0, .int .u8 0, .int .u8 0, .int .u8 0, .int .u8 0, .int .u8 0, .int .u8 0, .int .u8 0, .int .u8 0, .int .u8 0, .int .u8 0, .int .u8 0, .int .u8 0, .int .u8 0, .int .u8 0, .int .u8 0, .int .u8 0, .int .u8 0, .int .u8 0, .int .u8 0, .int .u8 0])).run Try.prog w = .ok (decide (n.k = zD)) w := eqKy n.k zD ok.k rfl
  have gD := Try.guardDg
  have gK := Try.guardK
  have BZ := hid built_D0
  have BKz := hid built_K0
  have KL := hid (fun w1 => side_any w1 n.l n.lc n.ls ok.ls)
  have KR := hid (fun w1 => side_any w1 n.r n.rc n.rs ok.rs)
  have i0 : (n.vs.length : Int) ≤ 9223372036854775807 := by omega
  have c0 := d0.cell (.head _) (v := .int .i64 n.kd) (j := 0) rfl
  have c1 := d0.cell (.head _) (v := .int .i64 n.l) (j := 1) rfl
  have c2 := d0.cell (.head _) (v := .int .i64 n.r) (j := 2) rfl
  have c3 := d0.cell (.head _) (v := .int .i64 n.lc) (j := 3) rfl
  have c4 := d0.cell (.head _) (v := .int .i64 n.rc) (j := 4) rfl
  have c101 := d0.cell (.head _) (ndC_v ok (.slice sp n.vs.length cap))
  have rls := d0.rng (.head _) (ndC_ls ok (.slice sp n.vs.length cap))
  have rrs := d0.rng (.head _) (ndC_rs ok (.slice sp n.vs.length cap))
  have rk := d0.rng (.head _) (ndC_k ok (.slice sp n.vs.length cap))
  rw [h1] at c0
  clear h1
  rw [decide_eq_true h2] at qL
  clear h2
  rw [decide_eq_true h3] at qR
  clear h3
  rw [h4] at c1
  rw [h5] at c2
  rw [h6] at c3
  clear h4 h5 h6
  generalize ints .u8 n.ls = IL at *
  generalize ints .u8 n.rs = IR at *
  generalize ints .u8 n.k = IK at *
  generalize ints .u8 zD = KZ at *
  generalize ndC n (.slice sp n.vs.length cap) = NC at *
  generalize n.vs.length = m at *
  generalize n.l = vl at *
  generalize n.r = vr at *
  generalize n.lc = vlc at *
  generalize n.rc = vrc at *
  go_enter Try.func8, Try.ntmps8
  go_wp2_with (first
    | refine wpList_load_mid_w (by rfl) 36 _ (by rfl) w.heap.size 5 (by rfl) _ _ rls Try.underlying36 rfl SL.out ?_
    | refine wpList_load_mid_w (by rfl) 36 _ (by rfl) w.heap.size 37 (by rfl) _ _ rrs Try.underlying36 rfl SR.out ?_
    | refine wpList_built (by rfl) 36 _ rfl _ rfl _ BZ.out ?_)
  go_ret
  exact ⟨rfl, d0.1⟩
set_option maxRecDepth 100000 in
set_option maxHeartbeats 2000000 in
theorem right_l7 (w : World) (n : Nd) (ok : NdOk n) (sp : Option Addr) (cap : Nat) (hn : n.vs.length ≤ 9223372036854775807) (h1 : n.kd = 1) (h2 : n.ls = zD) (h3 : n.rs = zD) (h4 : n.l = 0) (h5 : n.r = 0) (h6 : n.lc = 0) (h7 : n.rc = 0) :
    Calls Try.prog 8 #[.agg (ndC n (.slice sp n.vs.length cap)).toArray] w fun e w' => e = .returned (.bool (decide (n.vs.length ≤ 128))) ∧ Below w.heap.size w w' := by
  have d0 := (BK.nil w).alloc (ndC n (.slice sp n.vs.length cap)) 39
  have SL := hid (show (Try.prog.info? 36).map (·.size) = some (ints .u8 n.ls).length by rw [Try.sizeD, ints_len, ok.ls])
  have SR := hid (show (Try.prog.info? 36).map (·.size) = some (ints .u8 n.rs).length by rw [Try.sizeD, ints_len, ok.rs])
  have SK := hid (show (Try.prog.info? 37).map (·.size) = some (ints .u8 n.k).length by rw [Try.sizeKy, ints_len, ok.k])
  have qL := eqDg n.ls zD ok.ls rfl
  have qR := eqDg n.rs zD ok.rs rfl
  have qK := eqKy n.k zD ok.k rfl
  have qK2 : ∀ w, (Op.equalIn 10000 37 (.agg (ints .u8 n.k).toArray) (.agg #[.int .u8 0, .int .u8 0, .int .u8 0, .int .u8 0, .int .u8 0, .int .u8 0, .int .u8 0, .int .u8 0, .int .u8 0, .int .u8 0, .int .u8 0, .int .u8 0, .int .u8 0, .int .u8 0, .int .u8 0, .int .u8 0, .int .u8 0, .int .u8 0, .int .u8 0, .int .u8 0, .int .u8 0, .int .u8 0, .int .u8 0, .int .u8 0, .int .u8 0, .int .u8 0, .int .u8 0, .int .u8 0, .int .u8 0, .int .u8 0, .int .u8 0, .int .u8 0])).run Try.prog w = .ok (decide (n.k = zD)) w := eqKy n.k zD ok.k rfl
  have gD := Try.guardDg
  have gK := Try.guardK
  have BZ := hid built_D0
  have BKz := hid built_K0
  have KL := hid (fun w1 => side_any w1 n.l n.lc n.ls ok.ls)
  have KR := hid (fun w1 => side_any w1 n.r n.rc n.rs ok.rs)
  have i0 : (n.vs.length : Int) ≤ 9223372036854775807 := by omega
  have c0 := d0.cell (.head _) (v := .int .i64 n.kd) (j := 0) rfl
  have c1 := d0.cell (.head _) (v := .int .i64 n.l) (j := 1) rfl
  have c2 := d0.cell (.head _) (v := .int .i64 n.r) (j := 2) rfl
  have c3 := d0.cell (.head _) (v := .int .i64 n.lc) (j := 3) rfl
  have c4 := d0.cell (.head _) (v := .int .i64 n.rc) (j := 4) rfl
  have c101 := d0.cell (.head _) (ndC_v ok (.slice sp n.vs.length cap))
  have rls := d0.rng (.head _) (ndC_ls ok (.slice sp n.vs.length cap))
  have rrs := d0.rng (.head _) (ndC_rs ok (.slice sp n.vs.length cap))
  have rk := d0.rng (.head _) (ndC_k ok (.slice sp n.vs.length cap))
  rw [h1] at c0
  clear h1
  rw [decide_eq_true h2] at qL
  clear h2
  rw [decide_eq_true h3] at qR
  clear h3
  rw [h4] at c1
  rw [h5] at c2
  rw [h6] at c3
  rw [h7] at c4
  clear h4 h5 h6 h7
  have HD := hid (show decide (n.vs.length ≤ 128) = decide ((n.vs.length : Int) ≤ 128) by rw [decide_eq_decide]; omega)
  generalize ints .u8 n.ls = IL at *
  generalize ints .u8 n.rs = IR at *
  generalize ints .u8 n.k = IK at *
  generalize ints .u8 zD = KZ at *
  generalize ndC n (.slice sp n.vs.length cap) = NC at *
  generalize n.vs.length = m at *
  generalize n.l = vl at *
  generalize n.r = vr at *
  generalize n.lc = vlc at *
  generalize n.rc = vrc at *
  go_enter Try.func8, Try.ntmps8
  go_wp2_with (first
    | refine wpList_load_mid_w (by rfl) 36 _ (by rfl) w.heap.size 5 (by rfl) _ _ rls Try.underlying36 rfl SL.out ?_
    | refine wpList_load_mid_w (by rfl) 36 _ (by rfl) w.heap.size 37 (by rfl) _ _ rrs Try.underlying36 rfl SR.out ?_
    | refine wpList_built (by rfl) 36 _ rfl _ rfl _ BZ.out ?_)
  go_ret
  exact ⟨by rw [HD.out]; rfl, d0.1⟩
end Go.Proofs.Ytbcadiecpcngdaa
