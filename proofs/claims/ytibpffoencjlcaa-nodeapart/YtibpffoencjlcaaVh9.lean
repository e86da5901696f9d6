import Derived.Test.YtibpffoencjlcaaVs9
namespace Go.Proofs.Ytibpffoencjlcaa
set_option linter.unusedVariables false
set_option linter.unusedSimpArgs false
open Go.RowKit
attribute [local go_sem ↓] Go.wp_at_zero Go.wp_at_succ

theorem eqK (xs ys : List Int) (ha : xs.length = 32) (hb : ys.length = 32) (w : World) :
    (Op.equalIn 10000 23 (.agg (ints .u8 xs).toArray) (.agg (ints .u8 ys).toArray)).run Try.prog w = .ok (decide (xs = ys)) w :=
  equalIn_ints Try.underlying23 Try.underlying5 Try.size5 .u8 xs ys ha hb w
theorem eqK_self (xs : List Int) (ha : xs.length = 32) (w : World) :
    (Op.equalIn 10000 23 (.agg (ints .u8 xs).toArray) (.agg (ints .u8 xs).toArray)).run Try.prog w = .ok true w := by
  rw [eqK xs xs ha ha]; simp
theorem eqK_eq (xs ys : List Int) (ha : xs.length = 32) (hb : ys.length = 32) (h : xs = ys) (w : World) :
    (Op.equalIn 10000 23 (.agg (ints .u8 xs).toArray) (.agg (ints .u8 ys).toArray)).run Try.prog w = .ok true w := by
  rw [eqK xs ys ha hb]; simp [h]
theorem eqK_ne (xs ys : List Int) (ha : xs.length = 32) (hb : ys.length = 32) (h : xs ≠ ys) (w : World) :
    (Op.equalIn 10000 23 (.agg (ints .u8 xs).toArray) (.agg (ints .u8 ys).toArray)).run Try.prog w = .ok false w := by
  rw [eqK xs ys ha hb]; simp [h]
set_option maxRecDepth 100000 in
set_option maxHeartbeats 4000000 in
theorem apart_ff (w : World) (k : Int) (ks ls us vs a0 a1 a2 a3 : List Int) (hk : ks.length = 32) (hl : ls.length = 32) (spu spv : Option Addr) (cau cav : Nat) (hU : Src w spu cau us) (hV : Src w spv cav vs) (hnu : spu = none → cau = 0) (hnv : spv = none → cav = 0) (hlu : us.length ≤ 140737488351232) (hlv : vs.length ≤ 140737488351232)
    (ab ao na ca : Nat) (hab : ab < w.heap.size) (hna : 4 ≤ na) (hna2 : (na : Int) ≤ 9223372036854775807) (hca : (ca : Int) ≤ 9223372036854775807) (e0 : a0.length = 32) (e1 : a1.length = 32) (e2 : a2.length = 32) (e3 : a3.length = 32) (R0 : w.rangeAt ab ao (ints .u8 a0)) (R1 : w.rangeAt ab (ao + 32) (ints .u8 a1)) (R2 : w.rangeAt ab (ao + 64) (ints .u8 a2)) (R3 : w.rangeAt ab (ao + 96) (ints .u8 a3))
    (hq : ks ≠ ls) (hr : cutZ a0 (kept k) ≠ cutZ a2 (kept k)) :
    Calls Try.prog 3 #[.int .i64 k, .agg (ints .u8 ks).toArray, .agg (ints .u8 ls).toArray, .slice spu us.length cau, .slice spv vs.length cav, .slice (some ⟨ab, ao, none⟩) na ca] w fun e w' => e = .returned (.bool true) ∧ Below w.heap.size w w' := by
  have d0 := ((DR.nil w).alloc ks 23).alloc ls 23
  rw [show (w.alloc (.cells (ints .u8 ks).toArray 23)).heap.size = w.heap.size + 1 by simp] at d0
  have hkn := kept_le k
  have KX := hid (fun w1 (h : Src w1 spu cau us) => leafText_any w1 ks us hk spu cau h hnu hlu)
  have KY := hid (fun w1 (h : Src w1 spv cav vs) => leafText_any w1 ls vs hl spv cav h hnv hlv)
  have KP := hid (fun w1 => branchText_any w1 k a0 a1 e0 e1)
  have KQ := hid (fun w1 => branchText_any w1 k a2 a3 e2 e3)
  have KW := hid (fun w1 => lwithin_any k 0 32 (by decide) w1)
  rw [show min (max k 0) 32 = ((kept k : Nat) : Int) by unfold kept; omega] at KW
  have hXl : (leafT ks us).length = 33 + us.length := by simp [leafT, hk]; omega
  have hYl : (leafT ls vs).length = 33 + vs.length := by simp [leafT, hl]; omega
  have hPl : (branchT (kept k) a0 a1).length = 1 + 2 * kept k := by simp [branchT]; omega
  have hQl : (branchT (kept k) a2 a3).length = 1 + 2 * kept k := by simp [branchT]; omega
  have hX0 : (leafT ks us).getD 0 0 = 0 := rfl
  have hY0 : (leafT ls vs).getD 0 0 = 0 := rfl
  have hP0 : (branchT (kept k) a0 a1).getD 0 0 = 1 := rfl
  have hQ0 : (branchT (kept k) a2 a3).getD 0 0 = 1 := rfl
  have iX := leafT_inj ks ls us vs (by omega)
  have iP := branchT_inj (kept k) a0 a1 a2 a3 e0 e1 e2 e3 hkn
  have nXP := hid (show decide (leafT ks us = branchT (kept k) a0 a1) = false by simp [leafT, branchT])
  have nX2 := hid (show decide (leafT ks us = [2]) = false by simp [leafT])
  have nP2 := hid (show decide (branchT (kept k) a0 a1 = [2]) = false by simp [branchT])
  have HXY := hid (show decide (leafT ks us = leafT ls vs) = false by simp [iX, hq])
  have HPQ := hid (show decide (branchT (kept k) a0 a1 = branchT (kept k) a2 a3) = false by simp [iP, hr])
  have C0 := hid (fun w1 => cutD_any a0 e0 k w1)
  have C1 := hid (fun w1 => cutD_any a1 e1 k w1)
  have C2 := hid (fun w1 => cutD_any a2 e2 k w1)
  have C3 := hid (fun w1 => cutD_any a3 e3 k w1)
  have l0 := cutZ_len a0 (kept k) e0
  have l1 := cutZ_len a1 (kept k) e1
  have l2 := cutZ_len a2 (kept k) e2
  have l3 := cutZ_len a3 (kept k) e3
  have gK : Try.prog.eqGuardType Try.prog.depth 23 = false := by kernel_rfl
  have gD := Try.guardD
  have qK := eqK_ne ks ls hk hl hq
  have q02 := eqD_ne (cutZ a0 (kept k)) (cutZ a2 (kept k)) l0 l2 hr
  clear iX iP hq hr
  generalize leafT ks us = X at *
  generalize leafT ls vs = Y at *
  generalize branchT (kept k) a0 a1 = P at *
  generalize branchT (kept k) a2 a3 = Q at *
  generalize cutZ a0 (kept k) = D0 at *
  generalize cutZ a1 (kept k) = D1 at *
  generalize cutZ a2 (kept k) = D2 at *
  generalize cutZ a3 (kept k) = D3 at *
  generalize kept k = m at *
  have i4 : ¬ ((na : Int) < 4) := by omega
  have iu : (us.length : Int) ≤ 140737488351232 := by omega
  have iv : (vs.length : Int) ≤ 140737488351232 := by omega
  have im : (m : Int) ≤ 32 := by omega
  go_enter Try.func3, Try.ntmps3
  have r0 := d0.row (.tail _ (.head _))
  have r1 := d0.row (.head _)
  go_wp2_with (first | refine wpList_load_row rfl 23 _ rfl _ rfl 23 _ _ _ r0 Try.underlying23 rfl (by rw [ints_size, hk]; rfl) ?_)
  generalize (w.alloc (.cells (ints .u8 ks).toArray 23)).alloc (.cells (ints .u8 ls).toArray 23) = w1 at *
  refine (KX.out w1 (d0.src hU)).mono ?_
  rintro e w2 ⟨v, rfl, hO2, hB2⟩
  obtain ⟨gx, cx, rfl, cX, sX, bX⟩ := hO2.pos (by omega)
  have d1 := d0.call hB2
  have r1 := d1.row (.head _)
  clear d0 hB2 hO2 KX r0
  rw [hX0] at cX
  rw [hXl]
  go_wp2_with (first | refine wpList_load_row rfl 23 _ rfl _ rfl 23 _ _ _ r1 Try.underlying23 rfl (by rw [ints_size, hl]; rfl) ?_)
  refine (KY.out w2 (d1.src hV)).mono ?_
  rintro e w3 ⟨v, rfl, hO3, hB3⟩
  obtain ⟨gy, cy, rfl, cY, sY, bY⟩ := hO3.pos (by omega)
  have d2 := d1.call hB3
  have cX := (hB3.cell (p := ⟨gx, 0, none⟩) bX).trans cX
  have sX := sX.below hB3 (Nat.le_refl _)
  clear d1 hB3 hO3 KY r1
  rw [hY0] at cY
  rw [hYl]
  go_wp2
  have sX : Src w3.drew (some ⟨gx, 0, none⟩) cx X := sX
  have sY : Src w3.drew (some ⟨gy, 0, none⟩) cy Y := sY
  have KS := hid (fun w1 (h1 : Src w1 (some ⟨gx, 0, none⟩) cx X) (h2 : Src w1 (some ⟨gy, 0, none⟩) cy Y) => sameBytes_any w1 X Y (some ⟨gx, 0, none⟩) (some ⟨gy, 0, none⟩) cx cy h1 h2)
  rw [HXY.out, hXl, hYl] at KS
  refine wp_region_noPanic ?_
  refine wp_region_held_drew (S := (fun w' => DR w w' [(w.heap.size + 1, ls, 23), (w.heap.size, ks, 23)])) (by kernel_rfl) d2.drew (fun hHeld => ?_)
  refine wpAnyH_take (i := 0) (oi := { dst := some 54, op := Op.move (Operand.tmp 13), type := 24, pos := "outright.go:78", after := #[], guard := none }) (v := .slice (some ⟨gx, 0, none⟩) (33 + us.length) cx) rfl (by kernel_rfl) (by kernel_rfl) (by kernel_rfl) (fun _ _ _ h => h) (Or.inl ⟨by rfl, by intro w hS; go_simp⟩) hHeld ?_
  try simp only [Act.put, List.setIfInBounds_toArray, List.set_cons_zero, List.set_cons_succ]
  refine wpAnyH_take (i := 1) (oi := { dst := some 55, op := Op.move (Operand.tmp 14), type := 24, pos := "outright.go:78", after := #[], guard := none }) (v := .slice (some ⟨gy, 0, none⟩) (33 + vs.length) cy) rfl (by kernel_rfl) (by kernel_rfl) (by kernel_rfl) (fun _ _ _ h => h) (Or.inl ⟨by rfl, by intro w hS; go_simp⟩) hHeld ?_
  try simp only [Act.put, List.setIfInBounds_toArray, List.set_cons_zero, List.set_cons_succ]
  refine wpAnyH_take (i := 3) (oi := { dst := some 57, op := Op.load 23 (Operand.tmp 7), type := 23, pos := "outright.go:78", after := #[], guard := none }) (v := .agg (ints .u8 ks).toArray) rfl (by kernel_rfl) (by kernel_rfl) (by kernel_rfl) (fun _ _ _ h => h) (yieldsIf_load_mid (by rfl) 23 _ rfl w.heap.size (0) rfl (ints .u8 ks) _ (fun w hS => (DR.rng hS (.tail _ (.head _)))) Try.underlying23 rfl (by rw [ints_len, hk]; rfl)) hHeld ?_
  try simp only [Act.put, List.setIfInBounds_toArray, List.set_cons_zero, List.set_cons_succ]
  refine wpAnyH_take (i := 4) (oi := { dst := some 58, op := Op.load 23 (Operand.tmp 8), type := 23, pos := "outright.go:78", after := #[], guard := none }) (v := .agg (ints .u8 ls).toArray) rfl (by kernel_rfl) (by kernel_rfl) (by kernel_rfl) (fun _ _ _ h => h) (yieldsIf_load_mid (by rfl) 23 _ rfl (w.heap.size + 1) (0) rfl (ints .u8 ls) _ (fun w hS => (DR.rng hS (.head _))) Try.underlying23 rfl (by rw [ints_len, hl]; rfl)) hHeld ?_
  try simp only [Act.put, List.setIfInBounds_toArray, List.set_cons_zero, List.set_cons_succ]
  refine wpAnyH_take (i := 5) (oi := { dst := some 59, op := Op.binOp BinOp.eql 23 (Operand.tmp 57) (Operand.tmp 58) 23, type := 4, pos := "outright.go:78", after := #[{ on := 3, ground := Ground.data }, { on := 4, ground := Ground.data }], guard := none }) (v := .bool false) rfl (by kernel_rfl) (by kernel_rfl) (by kernel_rfl) (fun _ _ _ h => h) (Or.inl ⟨by rfl, by intro w hS; go_simp⟩) hHeld ?_
  try simp only [Act.put, List.setIfInBounds_toArray, List.set_cons_zero, List.set_cons_succ]
  refine wpAnyH_ready (rs := [2]) (by kernel_rfl) (by simp) ?_
  refine (AllReadyH.cons (o := { dst := some 56, op := Op.call { callee := Callee.value (Operand.func 7), args := #[Operand.tmp 54, Operand.tmp 55], argTypes := #[24, 24] }, type := 4, pos := "outright.go:78", after := #[{ on := 0, ground := Ground.data }, { on := 1, ground := Ground.data }], guard := none }) rfl (fun K hK => ?_) AllReadyH.nil)
  go_simp
  go_at_call 7
  refine (KS.out _ sX sY).mono ?_
  rintro e w4 ⟨rfl, hb4⟩
  have sX := sX.below hb4 (Nat.le_refl _)
  have sY := sY.below hb4 (Nat.le_refl _)
  go_wp2_with fail
  refine hK.out _ _ (DR.call hHeld hb4) (fun hHeld2 => ?_)
  clear hK K hHeld
  have hHeld := hHeld2
  clear hHeld2
  try simp only [Act.put, List.setIfInBounds_toArray, List.set_cons_zero, List.set_cons_succ]
  refine wpAnyH_take (i := 6) (oi := { dst := some 60, op := Op.move (Operand.tmp 59), type := 4, pos := "outright.go:78", after := #[{ on := 5, ground := Ground.data }, { on := 2, ground := Ground.chain }], guard := none }) (v := .bool false) rfl (by kernel_rfl) (by kernel_rfl) (by kernel_rfl) (fun _ _ _ h => h) (Or.inl ⟨by rfl, by intro w hS; go_simp⟩) hHeld ?_
  try simp only [Act.put, List.setIfInBounds_toArray, List.set_cons_zero, List.set_cons_succ]
  refine wpAnyH_take (i := 7) (oi := { dst := some 61, op := Op.move (Operand.tmp 3), type := 24, pos := "outright.go:78", after := #[{ on := 6, ground := Ground.guard }], guard := some (6, true) }) (v := undef) rfl (by kernel_rfl) (by kernel_rfl) (by kernel_rfl) (fun _ _ _ h => h) (Or.inr ⟨by rfl, rfl⟩) hHeld ?_
  try simp only [Act.put, List.setIfInBounds_toArray, List.set_cons_zero, List.set_cons_succ]
  refine wpAnyH_take (i := 8) (oi := { dst := some 62, op := Op.move (Operand.tmp 4), type := 24, pos := "outright.go:78", after := #[{ on := 6, ground := Ground.guard }], guard := some (6, true) }) (v := undef) rfl (by kernel_rfl) (by kernel_rfl) (by kernel_rfl) (fun _ _ _ h => h) (Or.inr ⟨by rfl, rfl⟩) hHeld ?_
  try simp only [Act.put, List.setIfInBounds_toArray, List.set_cons_zero, List.set_cons_succ]
  refine wpAnyH_take (i := 9) (oi := { dst := some 63, op := Op.call { callee := Callee.value (Operand.func 7), args := #[Operand.tmp 61, Operand.tmp 62], argTypes := #[24, 24] }, type := 4, pos := "outright.go:78", after := #[{ on := 7, ground := Ground.data }, { on := 8, ground := Ground.data }, { on := 6, ground := Ground.chain }, { on := 6, ground := Ground.guard }], guard := some (6, true) }) (v := undef) rfl (by kernel_rfl) (by kernel_rfl) (by kernel_rfl) (fun _ _ _ h => h) (Or.inr ⟨by rfl, rfl⟩) hHeld ?_
  try simp only [Act.put, List.setIfInBounds_toArray, List.set_cons_zero, List.set_cons_succ]
  refine wpAnyH_take (i := 10) (oi := { dst := some 64, op := Op.pick (Operand.tmp 60) (Operand.tmp 63) (Operand.const (Value.bool false)), type := 4, pos := "outright.go:78", after := #[{ on := 6, ground := Ground.data }, { on := 9, ground := Ground.data }], guard := none }) (v := .bool false) rfl (by kernel_rfl) (by kernel_rfl) (by kernel_rfl) (fun _ _ _ h => h) (Or.inl ⟨by rfl, by intro w hS; go_simp⟩) hHeld ?_
  try simp only [Act.put, List.setIfInBounds_toArray, List.set_cons_zero, List.set_cons_succ]
  refine wpAnyH_take (i := 11) (oi := { dst := some 65, op := Op.binOp BinOp.neq 4 (Operand.tmp 56) (Operand.tmp 64) 4, type := 4, pos := "outright.go:78", after := #[{ on := 2, ground := Ground.data }, { on := 10, ground := Ground.data }], guard := none }) (v := .bool false) rfl (by kernel_rfl) (by kernel_rfl) (by kernel_rfl) (fun _ _ _ h => h) (Or.inl ⟨by rfl, by intro w hS; go_simp⟩) hHeld ?_
  try simp only [Act.put, List.setIfInBounds_toArray, List.set_cons_zero, List.set_cons_succ]
  refine wpAnyH_done (by kernel_rfl) ?_ _
  refine NoPanic.normal ?_
  have d3 := hHeld
  clear hHeld d2 KS
  go_wp2
  have sX : Src w4.drew (some ⟨gx, 0, none⟩) cx X := sX
  refine wp_region_noPanic ?_
  refine wp_region_held_drew (S := (fun w' => DR w w' [(w.heap.size + 1, ls, 23), (w.heap.size, ks, 23)])) (by kernel_rfl) d3.drew (fun hHeld => ?_)
  refine wpAnyH_take (i := 0) (oi := { dst := some 66, op := Op.move (Operand.tmp 0), type := 3, pos := "outright.go:81", after := #[], guard := none }) (v := .int .i64 k) rfl (by kernel_rfl) (by kernel_rfl) (by kernel_rfl) (fun _ _ _ h => h) (Or.inl ⟨by rfl, by intro w hS; go_simp⟩) hHeld ?_
  try simp only [Act.put, List.setIfInBounds_toArray, List.set_cons_zero, List.set_cons_succ]
  refine wpAnyH_take (i := 1) (oi := { dst := some 67, op := Op.move (Operand.tmp 5), type := 25, pos := "outright.go:81", after := #[], guard := none }) (v := .slice (some ⟨ab, ao, none⟩) na ca) rfl (by kernel_rfl) (by kernel_rfl) (by kernel_rfl) (fun _ _ _ h => h) (Or.inl ⟨by rfl, by intro w hS; go_simp⟩) hHeld ?_
  try simp only [Act.put, List.setIfInBounds_toArray, List.set_cons_zero, List.set_cons_succ]
  refine wpAnyH_take (i := 4) (oi := { dst := some 70, op := Op.move (Operand.tmp 5), type := 25, pos := "outright.go:81", after := #[], guard := none }) (v := .slice (some ⟨ab, ao, none⟩) na ca) rfl (by kernel_rfl) (by kernel_rfl) (by kernel_rfl) (fun _ _ _ h => h) (Or.inl ⟨by rfl, by intro w hS; go_simp⟩) hHeld ?_
  try simp only [Act.put, List.setIfInBounds_toArray, List.set_cons_zero, List.set_cons_succ]
  refine wpAnyH_take (i := 2) (oi := { dst := some 68, op := Op.indexAddr 25 (Operand.tmp 67) (Operand.const (Value.int IntKind.i64 0)), type := 0, pos := "outright.go:81", after := #[{ on := 1, ground := Ground.data }], guard := none }) (v := .pointer (some ⟨ab, ao, none⟩)) rfl (by kernel_rfl) (by kernel_rfl) (by kernel_rfl) (fun _ _ _ h => h) (Or.inl ⟨by rfl, by intro w hS; (go_simp <;> (intro h; exfalso; omega))⟩) hHeld ?_
  try simp only [Act.put, List.setIfInBounds_toArray, List.set_cons_zero, List.set_cons_succ]
  refine wpAnyH_take (i := 5) (oi := { dst := some 71, op := Op.indexAddr 25 (Operand.tmp 70) (Operand.const (Value.int IntKind.i64 1)), type := 0, pos := "outright.go:81", after := #[{ on := 4, ground := Ground.data }], guard := none }) (v := .pointer (some ⟨ab, ao + 32, none⟩)) rfl (by kernel_rfl) (by kernel_rfl) (by kernel_rfl) (fun _ _ _ h => h) (Or.inl ⟨by rfl, by intro w hS; (go_simp <;> (intro h; exfalso; omega))⟩) hHeld ?_
  try simp only [Act.put, List.setIfInBounds_toArray, List.set_cons_zero, List.set_cons_succ]
  refine wpAnyH_take (i := 3) (oi := { dst := some 69, op := Op.load 29 (Operand.tmp 68), type := 29, pos := "outright.go:81", after := #[{ on := 2, ground := Ground.data }], guard := none }) (v := .agg (ints .u8 a0).toArray) rfl (by kernel_rfl) (by kernel_rfl) (by kernel_rfl) (fun _ _ _ h => h) (yieldsIf_load_mid (by rfl) 29 _ rfl ab (ao) rfl (ints .u8 a0) _ (fun w hS => (rng_below R0 hS.1 hab)) Try.underlying29 rfl (by rw [ints_len, e0]; rfl)) hHeld ?_
  try simp only [Act.put, List.setIfInBounds_toArray, List.set_cons_zero, List.set_cons_succ]
  refine wpAnyH_take (i := 6) (oi := { dst := some 72, op := Op.load 29 (Operand.tmp 71), type := 29, pos := "outright.go:81", after := #[{ on := 5, ground := Ground.data }], guard := none }) (v := .agg (ints .u8 a1).toArray) rfl (by kernel_rfl) (by kernel_rfl) (by kernel_rfl) (fun _ _ _ h => h) (yieldsIf_load_mid (by rfl) 29 _ rfl ab (ao + 32) rfl (ints .u8 a1) _ (fun w hS => (rng_below R1 hS.1 hab)) Try.underlying29 rfl (by rw [ints_len, e1]; rfl)) hHeld ?_
  try simp only [Act.put, List.setIfInBounds_toArray, List.set_cons_zero, List.set_cons_succ]
  refine wpAnyH_ready (rs := [7]) (by kernel_rfl) (by simp) ?_
  refine (AllReadyH.cons (o := { dst := some 73, op := Op.call { callee := Callee.value (Operand.func 8), args := #[Operand.tmp 66, Operand.tmp 69, Operand.tmp 72], argTypes := #[3, 29, 29] }, type := 24, pos := "outright.go:81", after := #[{ on := 0, ground := Ground.data }, { on := 3, ground := Ground.data }, { on := 6, ground := Ground.data }], guard := none }) rfl (fun K hK => ?_) AllReadyH.nil)
  go_simp
  go_at_call 8
  refine (KP.out _).mono ?_
  rintro e w4 ⟨v, rfl, hO5, hb4⟩
  obtain ⟨gp, cp, rfl, cP, sP, bP⟩ := hO5.pos (by omega)
  rw [hP0] at cP
  rw [hPl]
  have sX := sX.below hb4 (Nat.le_refl _)
  have d3 := d3
  go_wp2_with fail
  refine hK.out _ _ (DR.call hHeld hb4) (fun hHeld2 => ?_)
  clear hK K hHeld
  have hHeld := hHeld2
  clear hHeld2
  try simp only [Act.put, List.setIfInBounds_toArray, List.set_cons_zero, List.set_cons_succ]
  refine wpAnyH_take (i := 8) (oi := { dst := some 15, op := Op.assign (Operand.tmp 73), type := 24, pos := "outright.go:81", after := #[{ on := 7, ground := Ground.data }, { on := 7, ground := Ground.chain }, { on := 0, ground := Ground.phase }, { on := 1, ground := Ground.phase }, { on := 2, ground := Ground.phase }, { on := 3, ground := Ground.phase }, { on := 4, ground := Ground.phase }, { on := 5, ground := Ground.phase }, { on := 6, ground := Ground.phase }, { on := 7, ground := Ground.phase }], guard := none }) (v := .slice (some ⟨gp, 0, none⟩) (1 + 2 * m) cp) rfl (by kernel_rfl) (by kernel_rfl) (by kernel_rfl) (fun _ _ _ h => h) (Or.inl ⟨by rfl, by intro w hS; go_simp⟩) hHeld ?_
  try simp only [Act.put, List.setIfInBounds_toArray, List.set_cons_zero, List.set_cons_succ]
  refine wpAnyH_done (by kernel_rfl) ?_ _
  refine NoPanic.normal ?_
  have d4 := hHeld
  clear hHeld
  go_wp2
  have sX : Src w4.drew (some ⟨gx, 0, none⟩) cx X := sX
  have sP : Src w4.drew (some ⟨gp, 0, none⟩) cp P := sP
  refine wp_region_noPanic ?_
  refine wp_region_held_drew (S := (fun w' => DR w w' [(w.heap.size + 1, ls, 23), (w.heap.size, ks, 23)])) (by kernel_rfl) d4.drew (fun hHeld => ?_)
  refine wpAnyH_take (i := 0) (oi := { dst := some 74, op := Op.move (Operand.tmp 0), type := 3, pos := "outright.go:82", after := #[], guard := none }) (v := .int .i64 k) rfl (by kernel_rfl) (by kernel_rfl) (by kernel_rfl) (fun _ _ _ h => h) (Or.inl ⟨by rfl, by intro w hS; go_simp⟩) hHeld ?_
  try simp only [Act.put, List.setIfInBounds_toArray, List.set_cons_zero, List.set_cons_succ]
  refine wpAnyH_take (i := 1) (oi := { dst := some 75, op := Op.move (Operand.tmp 5), type := 25, pos := "outright.go:82", after := #[], guard := none }) (v := .slice (some ⟨ab, ao, none⟩) na ca) rfl (by kernel_rfl) (by kernel_rfl) (by kernel_rfl) (fun _ _ _ h => h) (Or.inl ⟨by rfl, by intro w hS; go_simp⟩) hHeld ?_
  try simp only [Act.put, List.setIfInBounds_toArray, List.set_cons_zero, List.set_cons_succ]
  refine wpAnyH_take (i := 4) (oi := { dst := some 78, op := Op.move (Operand.tmp 5), type := 25, pos := "outright.go:82", after := #[], guard := none }) (v := .slice (some ⟨ab, ao, none⟩) na ca) rfl (by kernel_rfl) (by kernel_rfl) (by kernel_rfl) (fun _ _ _ h => h) (Or.inl ⟨by rfl, by intro w hS; go_simp⟩) hHeld ?_
  try simp only [Act.put, List.setIfInBounds_toArray, List.set_cons_zero, List.set_cons_succ]
  refine wpAnyH_take (i := 2) (oi := { dst := some 76, op := Op.indexAddr 25 (Operand.tmp 75) (Operand.const (Value.int IntKind.i64 2)), type := 0, pos := "outright.go:82", after := #[{ on := 1, ground := Ground.data }], guard := none }) (v := .pointer (some ⟨ab, ao + 64, none⟩)) rfl (by kernel_rfl) (by kernel_rfl) (by kernel_rfl) (fun _ _ _ h => h) (Or.inl ⟨by rfl, by intro w hS; (go_simp <;> (intro h; exfalso; omega))⟩) hHeld ?_
  try simp only [Act.put, List.setIfInBounds_toArray, List.set_cons_zero, List.set_cons_succ]
  refine wpAnyH_take (i := 5) (oi := { dst := some 79, op := Op.indexAddr 25 (Operand.tmp 78) (Operand.const (Value.int IntKind.i64 3)), type := 0, pos := "outright.go:82", after := #[{ on := 4, ground := Ground.data }], guard := none }) (v := .pointer (some ⟨ab, ao + 96, none⟩)) rfl (by kernel_rfl) (by kernel_rfl) (by kernel_rfl) (fun _ _ _ h => h) (Or.inl ⟨by rfl, by intro w hS; (go_simp <;> (intro h; exfalso; omega))⟩) hHeld ?_
  try simp only [Act.put, List.setIfInBounds_toArray, List.set_cons_zero, List.set_cons_succ]
  refine wpAnyH_take (i := 3) (oi := { dst := some 77, op := Op.load 29 (Operand.tmp 76), type := 29, pos := "outright.go:82", after := #[{ on := 2, ground := Ground.data }], guard := none }) (v := .agg (ints .u8 a2).toArray) rfl (by kernel_rfl) (by kernel_rfl) (by kernel_rfl) (fun _ _ _ h => h) (yieldsIf_load_mid (by rfl) 29 _ rfl ab (ao + 64) rfl (ints .u8 a2) _ (fun w hS => (rng_below R2 hS.1 hab)) Try.underlying29 rfl (by rw [ints_len, e2]; rfl)) hHeld ?_
  try simp only [Act.put, List.setIfInBounds_toArray, List.set_cons_zero, List.set_cons_succ]
  refine wpAnyH_take (i := 6) (oi := { dst := some 80, op := Op.load 29 (Operand.tmp 79), type := 29, pos := "outright.go:82", after := #[{ on := 5, ground := Ground.data }], guard := none }) (v := .agg (ints .u8 a3).toArray) rfl (by kernel_rfl) (by kernel_rfl) (by kernel_rfl) (fun _ _ _ h => h) (yieldsIf_load_mid (by rfl) 29 _ rfl ab (ao + 96) rfl (ints .u8 a3) _ (fun w hS => (rng_below R3 hS.1 hab)) Try.underlying29 rfl (by rw [ints_len, e3]; rfl)) hHeld ?_
  try simp only [Act.put, List.setIfInBounds_toArray, List.set_cons_zero, List.set_cons_succ]
  refine wpAnyH_ready (rs := [7]) (by kernel_rfl) (by simp) ?_
  refine (AllReadyH.cons (o := { dst := some 81, op := Op.call { callee := Callee.value (Operand.func 8), args := #[Operand.tmp 74, Operand.tmp 77, Operand.tmp 80], argTypes := #[3, 29, 29] }, type := 24, pos := "outright.go:82", after := #[{ on := 0, ground := Ground.data }, { on := 3, ground := Ground.data }, { on := 6, ground := Ground.data }], guard := none }) rfl (fun K hK => ?_) AllReadyH.nil)
  go_simp
  go_at_call 8
  refine (KQ.out _).mono ?_
  rintro e w4 ⟨v, rfl, hO6, hb4⟩
  obtain ⟨gq, cq, rfl, cQ, sQ, bQ⟩ := hO6.pos (by omega)
  rw [hQ0] at cQ
  rw [hQl]
  have sX := sX.below hb4 (Nat.le_refl _)
  have sP := sP.below hb4 (Nat.le_refl _)
  have cP := (hb4.cell (p := ⟨gp, 0, none⟩) bP).trans cP
  go_wp2_with fail
  refine hK.out _ _ (DR.call hHeld hb4) (fun hHeld2 => ?_)
  clear hK K hHeld
  have hHeld := hHeld2
  clear hHeld2
  try simp only [Act.put, List.setIfInBounds_toArray, List.set_cons_zero, List.set_cons_succ]
  refine wpAnyH_take (i := 8) (oi := { dst := some 16, op := Op.assign (Operand.tmp 81), type := 24, pos := "outright.go:82", after := #[{ on := 7, ground := Ground.data }, { on := 7, ground := Ground.chain }, { on := 0, ground := Ground.phase }, { on := 1, ground := Ground.phase }, { on := 2, ground := Ground.phase }, { on := 3, ground := Ground.phase }, { on := 4, ground := Ground.phase }, { on := 5, ground := Ground.phase }, { on := 6, ground := Ground.phase }, { on := 7, ground := Ground.phase }], guard := none }) (v := .slice (some ⟨gq, 0, none⟩) (1 + 2 * m) cq) rfl (by kernel_rfl) (by kernel_rfl) (by kernel_rfl) (fun _ _ _ h => h) (Or.inl ⟨by rfl, by intro w hS; go_simp⟩) hHeld ?_
  try simp only [Act.put, List.setIfInBounds_toArray, List.set_cons_zero, List.set_cons_succ]
  refine wpAnyH_done (by kernel_rfl) ?_ _
  refine NoPanic.normal ?_
  have d5 := hHeld
  clear hHeld
  go_wp2_with (first | (go_at_call 9; refine (KW.out _).mono ?_; rintro e w8 ⟨rfl, hw8⟩; obtain rfl := hw8.symm))
  have sX : Src w4.drew (some ⟨gx, 0, none⟩) cx X := sX
  have sP : Src w4.drew (some ⟨gp, 0, none⟩) cp P := sP
  have sQ : Src w4.drew (some ⟨gq, 0, none⟩) cq Q := sQ
  refine wp_region_noPanic ?_
  refine wp_region_held_drew (S := (fun w' => DR w w' [(w.heap.size + 1, ls, 23), (w.heap.size, ks, 23)])) (by kernel_rfl) d5.drew (fun hHeld => ?_)
  refine wpAnyH_take (i := 0) (oi := { dst := some 110, op := Op.move (Operand.tmp 5), type := 25, pos := "outright.go:87", after := #[], guard := none }) (v := .slice (some ⟨ab, ao, none⟩) na ca) rfl (by kernel_rfl) (by kernel_rfl) (by kernel_rfl) (fun _ _ _ h => h) (Or.inl ⟨by rfl, by intro w hS; go_simp⟩) hHeld ?_
  try simp only [Act.put, List.setIfInBounds_toArray, List.set_cons_zero, List.set_cons_succ]
  refine wpAnyH_take (i := 3) (oi := { dst := some 113, op := Op.move (Operand.tmp 0), type := 3, pos := "outright.go:87", after := #[], guard := none }) (v := .int .i64 k) rfl (by kernel_rfl) (by kernel_rfl) (by kernel_rfl) (fun _ _ _ h => h) (Or.inl ⟨by rfl, by intro w hS; go_simp⟩) hHeld ?_
  try simp only [Act.put, List.setIfInBounds_toArray, List.set_cons_zero, List.set_cons_succ]
  refine wpAnyH_take (i := 5) (oi := { dst := some 115, op := Op.move (Operand.tmp 5), type := 25, pos := "outright.go:87", after := #[], guard := none }) (v := .slice (some ⟨ab, ao, none⟩) na ca) rfl (by kernel_rfl) (by kernel_rfl) (by kernel_rfl) (fun _ _ _ h => h) (Or.inl ⟨by rfl, by intro w hS; go_simp⟩) hHeld ?_
  try simp only [Act.put, List.setIfInBounds_toArray, List.set_cons_zero, List.set_cons_succ]
  refine wpAnyH_take (i := 8) (oi := { dst := some 118, op := Op.move (Operand.tmp 0), type := 3, pos := "outright.go:87", after := #[], guard := none }) (v := .int .i64 k) rfl (by kernel_rfl) (by kernel_rfl) (by kernel_rfl) (fun _ _ _ h => h) (Or.inl ⟨by rfl, by intro w hS; go_simp⟩) hHeld ?_
  try simp only [Act.put, List.setIfInBounds_toArray, List.set_cons_zero, List.set_cons_succ]
  refine wpAnyH_take (i := 1) (oi := { dst := some 111, op := Op.indexAddr 25 (Operand.tmp 110) (Operand.const (Value.int IntKind.i64 0)), type := 0, pos := "outright.go:87", after := #[{ on := 0, ground := Ground.data }], guard := none }) (v := .pointer (some ⟨ab, ao, none⟩)) rfl (by kernel_rfl) (by kernel_rfl) (by kernel_rfl) (fun _ _ _ h => h) (Or.inl ⟨by rfl, by intro w hS; (go_simp <;> (intro h; exfalso; omega))⟩) hHeld ?_
  try simp only [Act.put, List.setIfInBounds_toArray, List.set_cons_zero, List.set_cons_succ]
  refine wpAnyH_take (i := 6) (oi := { dst := some 116, op := Op.indexAddr 25 (Operand.tmp 115) (Operand.const (Value.int IntKind.i64 2)), type := 0, pos := "outright.go:87", after := #[{ on := 5, ground := Ground.data }], guard := none }) (v := .pointer (some ⟨ab, ao + 64, none⟩)) rfl (by kernel_rfl) (by kernel_rfl) (by kernel_rfl) (fun _ _ _ h => h) (Or.inl ⟨by rfl, by intro w hS; (go_simp <;> (intro h; exfalso; omega))⟩) hHeld ?_
  try simp only [Act.put, List.setIfInBounds_toArray, List.set_cons_zero, List.set_cons_succ]
  refine wpAnyH_take (i := 2) (oi := { dst := some 112, op := Op.load 29 (Operand.tmp 111), type := 29, pos := "outright.go:87", after := #[{ on := 1, ground := Ground.data }], guard := none }) (v := .agg (ints .u8 a0).toArray) rfl (by kernel_rfl) (by kernel_rfl) (by kernel_rfl) (fun _ _ _ h => h) (yieldsIf_load_mid (by rfl) 29 _ rfl ab (ao) rfl (ints .u8 a0) _ (fun w hS => (rng_below R0 hS.1 hab)) Try.underlying29 rfl (by rw [ints_len, e0]; rfl)) hHeld ?_
  try simp only [Act.put, List.setIfInBounds_toArray, List.set_cons_zero, List.set_cons_succ]
  refine wpAnyH_take (i := 7) (oi := { dst := some 117, op := Op.load 29 (Operand.tmp 116), type := 29, pos := "outright.go:87", after := #[{ on := 6, ground := Ground.data }], guard := none }) (v := .agg (ints .u8 a2).toArray) rfl (by kernel_rfl) (by kernel_rfl) (by kernel_rfl) (fun _ _ _ h => h) (yieldsIf_load_mid (by rfl) 29 _ rfl ab (ao + 64) rfl (ints .u8 a2) _ (fun w hS => (rng_below R2 hS.1 hab)) Try.underlying29 rfl (by rw [ints_len, e2]; rfl)) hHeld ?_
  try simp only [Act.put, List.setIfInBounds_toArray, List.set_cons_zero, List.set_cons_succ]
  refine wpAnyH_ready (rs := [4]) (by kernel_rfl) (by simp) ?_
  refine (AllReadyH.cons (o := { dst := some 114, op := Op.call { callee := Callee.value (Operand.func 10), args := #[Operand.tmp 112, Operand.tmp 113], argTypes := #[29, 3] }, type := 29, pos := "outright.go:87", after := #[{ on := 2, ground := Ground.data }, { on := 3, ground := Ground.data }], guard := none }) rfl (fun K hK => ?_) AllReadyH.nil)
  go_simp
  go_at_call 10
  refine (C0.out _).mono ?_
  rintro e w4 ⟨rfl, hb4⟩
  have sX := sX.below hb4 (Nat.le_refl _)
  have sP := sP.below hb4 (Nat.le_refl _)
  have sQ := sQ.below hb4 (Nat.le_refl _)
  go_wp2_with fail
  refine hK.out _ _ (DR.call hHeld hb4) (fun hHeld2 => ?_)
  clear hK K hHeld
  have hHeld := hHeld2
  clear hHeld2
  try simp only [Act.put, List.setIfInBounds_toArray, List.set_cons_zero, List.set_cons_succ]
  refine wpAnyH_ready (rs := [9]) (by kernel_rfl) (by simp) ?_
  refine (AllReadyH.cons (o := { dst := some 119, op := Op.call { callee := Callee.value (Operand.func 10), args := #[Operand.tmp 117, Operand.tmp 118], argTypes := #[29, 3] }, type := 29, pos := "outright.go:87", after := #[{ on := 7, ground := Ground.data }, { on := 8, ground := Ground.data }, { on := 4, ground := Ground.chain }], guard := none }) rfl (fun K hK => ?_) AllReadyH.nil)
  go_simp
  go_at_call 10
  refine (C2.out _).mono ?_
  rintro e w4 ⟨rfl, hb4⟩
  have sX := sX.below hb4 (Nat.le_refl _)
  have sP := sP.below hb4 (Nat.le_refl _)
  have sQ := sQ.below hb4 (Nat.le_refl _)
  go_wp2_with fail
  refine hK.out _ _ (DR.call hHeld hb4) (fun hHeld2 => ?_)
  clear hK K hHeld
  have hHeld := hHeld2
  clear hHeld2
  try simp only [Act.put, List.setIfInBounds_toArray, List.set_cons_zero, List.set_cons_succ]
  refine wpAnyH_take (i := 10) (oi := { dst := some 120, op := Op.binOp BinOp.eql 29 (Operand.tmp 114) (Operand.tmp 119) 29, type := 4, pos := "outright.go:87", after := #[{ on := 4, ground := Ground.data }, { on := 9, ground := Ground.data }], guard := none }) (v := .bool false) rfl (by kernel_rfl) (by kernel_rfl) (by kernel_rfl) (fun _ _ _ h => h) (Or.inl ⟨by rfl, by intro w hS; go_simp⟩) hHeld ?_
  try simp only [Act.put, List.setIfInBounds_toArray, List.set_cons_zero, List.set_cons_succ]
  refine wpAnyH_take (i := 11) (oi := { dst := some 121, op := Op.move (Operand.tmp 120), type := 4, pos := "outright.go:87", after := #[{ on := 10, ground := Ground.data }, { on := 9, ground := Ground.chain }], guard := none }) (v := .bool false) rfl (by kernel_rfl) (by kernel_rfl) (by kernel_rfl) (fun _ _ _ h => h) (Or.inl ⟨by rfl, by intro w hS; go_simp⟩) hHeld ?_
  try simp only [Act.put, List.setIfInBounds_toArray, List.set_cons_zero, List.set_cons_succ]
  refine wpAnyH_take (i := 12) (oi := { dst := some 122, op := Op.move (Operand.tmp 5), type := 25, pos := "outright.go:87", after := #[{ on := 11, ground := Ground.guard }], guard := some (11, true) }) (v := undef) rfl (by kernel_rfl) (by kernel_rfl) (by kernel_rfl) (fun _ _ _ h => h) (Or.inr ⟨by rfl, rfl⟩) hHeld ?_
  try simp only [Act.put, List.setIfInBounds_toArray, List.set_cons_zero, List.set_cons_succ]
  refine wpAnyH_take (i := 15) (oi := { dst := some 125, op := Op.move (Operand.tmp 0), type := 3, pos := "outright.go:87", after := #[{ on := 11, ground := Ground.guard }], guard := some (11, true) }) (v := undef) rfl (by kernel_rfl) (by kernel_rfl) (by kernel_rfl) (fun _ _ _ h => h) (Or.inr ⟨by rfl, rfl⟩) hHeld ?_
  try simp only [Act.put, List.setIfInBounds_toArray, List.set_cons_zero, List.set_cons_succ]
  refine wpAnyH_take (i := 17) (oi := { dst := some 127, op := Op.move (Operand.tmp 5), type := 25, pos := "outright.go:87", after := #[{ on := 11, ground := Ground.guard }], guard := some (11, true) }) (v := undef) rfl (by kernel_rfl) (by kernel_rfl) (by kernel_rfl) (fun _ _ _ h => h) (Or.inr ⟨by rfl, rfl⟩) hHeld ?_
  try simp only [Act.put, List.setIfInBounds_toArray, List.set_cons_zero, List.set_cons_succ]
  refine wpAnyH_take (i := 20) (oi := { dst := some 130, op := Op.move (Operand.tmp 0), type := 3, pos := "outright.go:87", after := #[{ on := 11, ground := Ground.guard }], guard := some (11, true) }) (v := undef) rfl (by kernel_rfl) (by kernel_rfl) (by kernel_rfl) (fun _ _ _ h => h) (Or.inr ⟨by rfl, rfl⟩) hHeld ?_
  try simp only [Act.put, List.setIfInBounds_toArray, List.set_cons_zero, List.set_cons_succ]
  refine wpAnyH_take (i := 13) (oi := { dst := some 123, op := Op.indexAddr 25 (Operand.tmp 122) (Operand.const (Value.int IntKind.i64 1)), type := 0, pos := "outright.go:87", after := #[{ on := 12, ground := Ground.data }, { on := 11, ground := Ground.guard }], guard := some (11, true) }) (v := undef) rfl (by kernel_rfl) (by kernel_rfl) (by kernel_rfl) (fun _ _ _ h => h) (Or.inr ⟨by rfl, rfl⟩) hHeld ?_
  try simp only [Act.put, List.setIfInBounds_toArray, List.set_cons_zero, List.set_cons_succ]
  refine wpAnyH_take (i := 18) (oi := { dst := some 128, op := Op.indexAddr 25 (Operand.tmp 127) (Operand.const (Value.int IntKind.i64 3)), type := 0, pos := "outright.go:87", after := #[{ on := 17, ground := Ground.data }, { on := 11, ground := Ground.guard }], guard := some (11, true) }) (v := undef) rfl (by kernel_rfl) (by kernel_rfl) (by kernel_rfl) (fun _ _ _ h => h) (Or.inr ⟨by rfl, rfl⟩) hHeld ?_
  try simp only [Act.put, List.setIfInBounds_toArray, List.set_cons_zero, List.set_cons_succ]
  refine wpAnyH_take (i := 14) (oi := { dst := some 124, op := Op.load 29 (Operand.tmp 123), type := 29, pos := "outright.go:87", after := #[{ on := 13, ground := Ground.data }, { on := 11, ground := Ground.guard }], guard := some (11, true) }) (v := undef) rfl (by kernel_rfl) (by kernel_rfl) (by kernel_rfl) (fun _ _ _ h => h) (Or.inr ⟨by rfl, rfl⟩) hHeld ?_
  try simp only [Act.put, List.setIfInBounds_toArray, List.set_cons_zero, List.set_cons_succ]
  refine wpAnyH_take (i := 19) (oi := { dst := some 129, op := Op.load 29 (Operand.tmp 128), type := 29, pos := "outright.go:87", after := #[{ on := 18, ground := Ground.data }, { on := 11, ground := Ground.guard }], guard := some (11, true) }) (v := undef) rfl (by kernel_rfl) (by kernel_rfl) (by kernel_rfl) (fun _ _ _ h => h) (Or.inr ⟨by rfl, rfl⟩) hHeld ?_
  try simp only [Act.put, List.setIfInBounds_toArray, List.set_cons_zero, List.set_cons_succ]
  refine wpAnyH_take (i := 16) (oi := { dst := some 126, op := Op.call { callee := Callee.value (Operand.func 10), args := #[Operand.tmp 124, Operand.tmp 125], argTypes := #[29, 3] }, type := 29, pos := "outright.go:87", after := #[{ on := 14, ground := Ground.data }, { on := 15, ground := Ground.data }, { on := 11, ground := Ground.chain }, { on := 11, ground := Ground.guard }], guard := some (11, true) }) (v := undef) rfl (by kernel_rfl) (by kernel_rfl) (by kernel_rfl) (fun _ _ _ h => h) (Or.inr ⟨by rfl, rfl⟩) hHeld ?_
  try simp only [Act.put, List.setIfInBounds_toArray, List.set_cons_zero, List.set_cons_succ]
  refine wpAnyH_take (i := 21) (oi := { dst := some 131, op := Op.call { callee := Callee.value (Operand.func 10), args := #[Operand.tmp 129, Operand.tmp 130], argTypes := #[29, 3] }, type := 29, pos := "outright.go:87", after := #[{ on := 19, ground := Ground.data }, { on := 20, ground := Ground.data }, { on := 16, ground := Ground.chain }, { on := 11, ground := Ground.guard }], guard := some (11, true) }) (v := undef) rfl (by kernel_rfl) (by kernel_rfl) (by kernel_rfl) (fun _ _ _ h => h) (Or.inr ⟨by rfl, rfl⟩) hHeld ?_
  try simp only [Act.put, List.setIfInBounds_toArray, List.set_cons_zero, List.set_cons_succ]
  refine wpAnyH_take (i := 22) (oi := { dst := some 132, op := Op.binOp BinOp.eql 29 (Operand.tmp 126) (Operand.tmp 131) 29, type := 4, pos := "outright.go:87", after := #[{ on := 16, ground := Ground.data }, { on := 21, ground := Ground.data }, { on := 11, ground := Ground.guard }], guard := some (11, true) }) (v := undef) rfl (by kernel_rfl) (by kernel_rfl) (by kernel_rfl) (fun _ _ _ h => h) (Or.inr ⟨by rfl, rfl⟩) hHeld ?_
  try simp only [Act.put, List.setIfInBounds_toArray, List.set_cons_zero, List.set_cons_succ]
  refine wpAnyH_take (i := 23) (oi := { dst := some 133, op := Op.pick (Operand.tmp 121) (Operand.tmp 132) (Operand.const (Value.bool false)), type := 4, pos := "outright.go:87", after := #[{ on := 11, ground := Ground.data }, { on := 22, ground := Ground.data }], guard := none }) (v := .bool false) rfl (by kernel_rfl) (by kernel_rfl) (by kernel_rfl) (fun _ _ _ h => h) (Or.inl ⟨by rfl, by intro w hS; go_simp⟩) hHeld ?_
  try simp only [Act.put, List.setIfInBounds_toArray, List.set_cons_zero, List.set_cons_succ]
  refine wpAnyH_take (i := 24) (oi := { dst := some 18, op := Op.assign (Operand.tmp 133), type := 4, pos := "outright.go:87", after := #[{ on := 23, ground := Ground.data }, { on := 21, ground := Ground.chain }, { on := 0, ground := Ground.phase }, { on := 1, ground := Ground.phase }, { on := 2, ground := Ground.phase }, { on := 3, ground := Ground.phase }, { on := 4, ground := Ground.phase }, { on := 5, ground := Ground.phase }, { on := 6, ground := Ground.phase }, { on := 7, ground := Ground.phase }, { on := 8, ground := Ground.phase }, { on := 9, ground := Ground.phase }, { on := 10, ground := Ground.phase }, { on := 11, ground := Ground.phase }, { on := 12, ground := Ground.phase }, { on := 13, ground := Ground.phase }, { on := 14, ground := Ground.phase }, { on := 15, ground := Ground.phase }, { on := 16, ground := Ground.phase }, { on := 17, ground := Ground.phase }, { on := 18, ground := Ground.phase }, { on := 19, ground := Ground.phase }, { on := 20, ground := Ground.phase }, { on := 21, ground := Ground.phase }, { on := 22, ground := Ground.phase }, { on := 23, ground := Ground.phase }], guard := none }) (v := .bool false) rfl (by kernel_rfl) (by kernel_rfl) (by kernel_rfl) (fun _ _ _ h => h) (Or.inl ⟨by rfl, by intro w hS; go_simp⟩) hHeld ?_
  try simp only [Act.put, List.setIfInBounds_toArray, List.set_cons_zero, List.set_cons_succ]
  refine wpAnyH_done (by kernel_rfl) ?_ _
  refine NoPanic.normal ?_
  have d6 := hHeld
  clear hHeld
  have KS1 := hid (fun w1 (h1 : Src w1 (some ⟨gp, 0, none⟩) cp P) (h2 : Src w1 (some ⟨gq, 0, none⟩) cq Q) => sameBytes_any w1 P Q (some ⟨gp, 0, none⟩) (some ⟨gq, 0, none⟩) cp cq h1 h2)
  rw [HPQ.out, hPl, hQl] at KS1
  have KS2 := hid (fun w1 (h1 : Src w1 (some ⟨gx, 0, none⟩) cx X) (h2 : Src w1 (some ⟨gp, 0, none⟩) cp P) => sameBytes_any w1 X P (some ⟨gx, 0, none⟩) (some ⟨gp, 0, none⟩) cx cp h1 h2)
  rw [nXP.out, hPl, hXl] at KS2
  have KS3 := hid (fun w1 sp (h1 : Src w1 (some ⟨gx, 0, none⟩) cx X) (h2 : Src w1 sp 1 [2]) => sameBytes_any w1 X [2] (some ⟨gx, 0, none⟩) sp cx 1 h1 h2)
  rw [nX2.out, hXl, show ([2] : List Int).length = 1 from rfl] at KS3
  have KS4 := hid (fun w1 sp (h1 : Src w1 (some ⟨gp, 0, none⟩) cp P) (h2 : Src w1 sp 1 [2]) => sameBytes_any w1 P [2] (some ⟨gp, 0, none⟩) sp cp 1 h1 h2)
  rw [nP2.out, hPl, show ([2] : List Int).length = 1 from rfl] at KS4
  go_wp2_with fail
  refine (KS1.out _ sP sQ).mono ?_
  rintro e wa ⟨rfl, hba⟩
  have d7 := d6.call hba
  have sX := sX.below hba (Nat.le_refl _)
  have sP := sP.below hba (Nat.le_refl _)
  clear KS1 sQ
  go_wp2_with fail
  refine (KS2.out _ sX sP).mono ?_
  rintro e wb ⟨rfl, hbb⟩
  have d8 := d7.call hbb
  have sX := sX.below hbb (Nat.le_refl _)
  have sP := sP.below hbb (Nat.le_refl _)
  clear KS2
  go_wp2_with fail
  show Calls Try.prog 7 _ (wb.alloc (.cells (ints .u8 ([2] ++ [])).toArray 5)) _
  have sT := src_row (hnew wb (.cells (ints .u8 ([2] ++ [])).toArray 5)) 1 (by simp) (by simp [maxLen])
  have sX := sX.below ((Below.refl wb.heap.size wb).alloc (Nat.le_refl _) (.cells (ints .u8 ([2] ++ [])).toArray 5)) (Nat.le_refl _)
  have sP := sP.below ((Below.refl wb.heap.size wb).alloc (Nat.le_refl _) (.cells (ints .u8 ([2] ++ [])).toArray 5)) (Nat.le_refl _)
  have d9 := d8.other (.cells (ints .u8 ([2] ++ [])).toArray 5)
  generalize wb.alloc (.cells (ints .u8 ([2] ++ [])).toArray 5) = wc at *
  refine (KS3.out _ _ sX sT).mono ?_
  rintro e wd ⟨rfl, hbd⟩
  have da := d9.call hbd
  have sP := sP.below hbd (Nat.le_refl _)
  clear KS3 sT
  go_wp2_with fail
  show Calls Try.prog 7 _ (wd.alloc (.cells (ints .u8 ([2] ++ [])).toArray 5)) _
  have sT := src_row (hnew wd (.cells (ints .u8 ([2] ++ [])).toArray 5)) 1 (by simp) (by simp [maxLen])
  have sP := sP.below ((Below.refl wd.heap.size wd).alloc (Nat.le_refl _) (.cells (ints .u8 ([2] ++ [])).toArray 5)) (Nat.le_refl _)
  have db := da.other (.cells (ints .u8 ([2] ++ [])).toArray 5)
  generalize wd.alloc (.cells (ints .u8 ([2] ++ [])).toArray 5) = we at *
  refine (KS4.out _ _ sP sT).mono ?_
  rintro e wf ⟨rfl, hbf⟩
  have dc := db.call hbf
  go_wp2_with fail
  go_ret
  exact ⟨rfl, dc.1⟩
set_option maxRecDepth 100000 in
set_option maxHeartbeats 4000000 in
theorem apart_ft (w : World) (k : Int) (ks ls us vs a0 a1 a2 a3 : List Int) (hk : ks.length = 32) (hl : ls.length = 32) (spu spv : Option Addr) (cau cav : Nat) (hU : Src w spu cau us) (hV : Src w spv cav vs) (hnu : spu = none → cau = 0) (hnv : spv = none → cav = 0) (hlu : us.length ≤ 140737488351232) (hlv : vs.length ≤ 140737488351232)
    (ab ao na ca : Nat) (hab : ab < w.heap.size) (hna : 4 ≤ na) (hna2 : (na : Int) ≤ 9223372036854775807) (hca : (ca : Int) ≤ 9223372036854775807) (e0 : a0.length = 32) (e1 : a1.length = 32) (e2 : a2.length = 32) (e3 : a3.length = 32) (R0 : w.rangeAt ab ao (ints .u8 a0)) (R1 : w.rangeAt ab (ao + 32) (ints .u8 a1)) (R2 : w.rangeAt ab (ao + 64) (ints .u8 a2)) (R3 : w.rangeAt ab (ao + 96) (ints .u8 a3))
    (hq : ks ≠ ls) (hr : cutZ a0 (kept k) = cutZ a2 (kept k)) :
    Calls Try.prog 3 #[.int .i64 k, .agg (ints .u8 ks).toArray, .agg (ints .u8 ls).toArray, .slice spu us.length cau, .slice spv vs.length cav, .slice (some ⟨ab, ao, none⟩) na ca] w fun e w' => e = .returned (.bool true) ∧ Below w.heap.size w w' := by
  have d0 := ((DR.nil w).alloc ks 23).alloc ls 23
  rw [show (w.alloc (.cells (ints .u8 ks).toArray 23)).heap.size = w.heap.size + 1 by simp] at d0
  have hkn := kept_le k
  have KX := hid (fun w1 (h : Src w1 spu cau us) => leafText_any w1 ks us hk spu cau h hnu hlu)
  have KY := hid (fun w1 (h : Src w1 spv cav vs) => leafText_any w1 ls vs hl spv cav h hnv hlv)
  have KP := hid (fun w1 => branchText_any w1 k a0 a1 e0 e1)
  have KQ := hid (fun w1 => branchText_any w1 k a2 a3 e2 e3)
  have KW := hid (fun w1 => lwithin_any k 0 32 (by decide) w1)
  rw [show min (max k 0) 32 = ((kept k : Nat) : Int) by unfold kept; omega] at KW
  have hXl : (leafT ks us).length = 33 + us.length := by simp [leafT, hk]; omega
  have hYl : (leafT ls vs).length = 33 + vs.length := by simp [leafT, hl]; omega
  have hPl : (branchT (kept k) a0 a1).length = 1 + 2 * kept k := by simp [branchT]; omega
  have hQl : (branchT (kept k) a2 a3).length = 1 + 2 * kept k := by simp [branchT]; omega
  have hX0 : (leafT ks us).getD 0 0 = 0 := rfl
  have hY0 : (leafT ls vs).getD 0 0 = 0 := rfl
  have hP0 : (branchT (kept k) a0 a1).getD 0 0 = 1 := rfl
  have hQ0 : (branchT (kept k) a2 a3).getD 0 0 = 1 := rfl
  have iX := leafT_inj ks ls us vs (by omega)
  have iP := branchT_inj (kept k) a0 a1 a2 a3 e0 e1 e2 e3 hkn
  have nXP := hid (show decide (leafT ks us = branchT (kept k) a0 a1) = false by simp [leafT, branchT])
  have nX2 := hid (show decide (leafT ks us = [2]) = false by simp [leafT])
  have nP2 := hid (show decide (branchT (kept k) a0 a1 = [2]) = false by simp [branchT])
  have HXY := hid (show decide (leafT ks us = leafT ls vs) = false by simp [iX, hq])
  have HPQ := hid (show decide (branchT (kept k) a0 a1 = branchT (kept k) a2 a3) = decide (cutZ a1 (kept k) = cutZ a3 (kept k)) by rw [decide_eq_decide, iP]; simp [hr])
  have C0 := hid (fun w1 => cutD_any a0 e0 k w1)
  have C1 := hid (fun w1 => cutD_any a1 e1 k w1)
  have C2 := hid (fun w1 => cutD_any a2 e2 k w1)
  have C3 := hid (fun w1 => cutD_any a3 e3 k w1)
  have l0 := cutZ_len a0 (kept k) e0
  have l1 := cutZ_len a1 (kept k) e1
  have l2 := cutZ_len a2 (kept k) e2
  have l3 := cutZ_len a3 (kept k) e3
  have gK : Try.prog.eqGuardType Try.prog.depth 23 = false := by kernel_rfl
  have gD := Try.guardD
  have qK := eqK_ne ks ls hk hl hq
  have q02 := eqD_self (cutZ a0 (kept k)) l0
  have q13 := eqD (cutZ a1 (kept k)) (cutZ a3 (kept k)) l1 l3
  have HR := hid hr
  clear iX iP hq hr
  generalize leafT ks us = X at *
  generalize leafT ls vs = Y at *
  generalize branchT (kept k) a0 a1 = P at *
  generalize branchT (kept k) a2 a3 = Q at *
  generalize cutZ a0 (kept k) = D0 at *
  generalize cutZ a1 (kept k) = D1 at *
  generalize cutZ a2 (kept k) = D2 at *
  generalize cutZ a3 (kept k) = D3 at *
  generalize kept k = m at *
  generalize hC : decide (D1 = D3) = C at *
  have HC := hid hC
  clear hC
  have i4 : ¬ ((na : Int) < 4) := by omega
  have iu : (us.length : Int) ≤ 140737488351232 := by omega
  have iv : (vs.length : Int) ≤ 140737488351232 := by omega
  have im : (m : Int) ≤ 32 := by omega
  go_enter Try.func3, Try.ntmps3
  have r0 := d0.row (.tail _ (.head _))
  have r1 := d0.row (.head _)
  go_wp2_with (first | refine wpList_load_row rfl 23 _ rfl _ rfl 23 _ _ _ r0 Try.underlying23 rfl (by rw [ints_size, hk]; rfl) ?_)
  generalize (w.alloc (.cells (ints .u8 ks).toArray 23)).alloc (.cells (ints .u8 ls).toArray 23) = w1 at *
  refine (KX.out w1 (d0.src hU)).mono ?_
  rintro e w2 ⟨v, rfl, hO2, hB2⟩
  obtain ⟨gx, cx, rfl, cX, sX, bX⟩ := hO2.pos (by omega)
  have d1 := d0.call hB2
  have r1 := d1.row (.head _)
  clear d0 hB2 hO2 KX r0
  rw [hX0] at cX
  rw [hXl]
  go_wp2_with (first | refine wpList_load_row rfl 23 _ rfl _ rfl 23 _ _ _ r1 Try.underlying23 rfl (by rw [ints_size, hl]; rfl) ?_)
  refine (KY.out w2 (d1.src hV)).mono ?_
  rintro e w3 ⟨v, rfl, hO3, hB3⟩
  obtain ⟨gy, cy, rfl, cY, sY, bY⟩ := hO3.pos (by omega)
  have d2 := d1.call hB3
  have cX := (hB3.cell (p := ⟨gx, 0, none⟩) bX).trans cX
  have sX := sX.below hB3 (Nat.le_refl _)
  clear d1 hB3 hO3 KY r1
  rw [hY0] at cY
  rw [hYl]
  go_wp2
  have sX : Src w3.drew (some ⟨gx, 0, none⟩) cx X := sX
  have sY : Src w3.drew (some ⟨gy, 0, none⟩) cy Y := sY
  have KS := hid (fun w1 (h1 : Src w1 (some ⟨gx, 0, none⟩) cx X) (h2 : Src w1 (some ⟨gy, 0, none⟩) cy Y) => sameBytes_any w1 X Y (some ⟨gx, 0, none⟩) (some ⟨gy, 0, none⟩) cx cy h1 h2)
  rw [HXY.out, hXl, hYl] at KS
  refine wp_region_noPanic ?_
  refine wp_region_held_drew (S := (fun w' => DR w w' [(w.heap.size + 1, ls, 23), (w.heap.size, ks, 23)])) (by kernel_rfl) d2.drew (fun hHeld => ?_)
  refine wpAnyH_take (i := 0) (oi := { dst := some 54, op := Op.move (Operand.tmp 13), type := 24, pos := "outright.go:78", after := #[], guard := none }) (v := .slice (some ⟨gx, 0, none⟩) (33 + us.length) cx) rfl (by kernel_rfl) (by kernel_rfl) (by kernel_rfl) (fun _ _ _ h => h) (Or.inl ⟨by rfl, by intro w hS; go_simp⟩) hHeld ?_
  try simp only [Act.put, List.setIfInBounds_toArray, List.set_cons_zero, List.set_cons_succ]
  refine wpAnyH_take (i := 1) (oi := { dst := some 55, op := Op.move (Operand.tmp 14), type := 24, pos := "outright.go:78", after := #[], guard := none }) (v := .slice (some ⟨gy, 0, none⟩) (33 + vs.length) cy) rfl (by kernel_rfl) (by kernel_rfl) (by kernel_rfl) (fun _ _ _ h => h) (Or.inl ⟨by rfl, by intro w hS; go_simp⟩) hHeld ?_
  try simp only [Act.put, List.setIfInBounds_toArray, List.set_cons_zero, List.set_cons_succ]
  refine wpAnyH_take (i := 3) (oi := { dst := some 57, op := Op.load 23 (Operand.tmp 7), type := 23, pos := "outright.go:78", after := #[], guard := none }) (v := .agg (ints .u8 ks).toArray) rfl (by kernel_rfl) (by kernel_rfl) (by kernel_rfl) (fun _ _ _ h => h) (yieldsIf_load_mid (by rfl) 23 _ rfl w.heap.size (0) rfl (ints .u8 ks) _ (fun w hS => (DR.rng hS (.tail _ (.head _)))) Try.underlying23 rfl (by rw [ints_len, hk]; rfl)) hHeld ?_
  try simp only [Act.put, List.setIfInBounds_toArray, List.set_cons_zero, List.set_cons_succ]
  refine wpAnyH_take (i := 4) (oi := { dst := some 58, op := Op.load 23 (Operand.tmp 8), type := 23, pos := "outright.go:78", after := #[], guard := none }) (v := .agg (ints .u8 ls).toArray) rfl (by kernel_rfl) (by kernel_rfl) (by kernel_rfl) (fun _ _ _ h => h) (yieldsIf_load_mid (by rfl) 23 _ rfl (w.heap.size + 1) (0) rfl (ints .u8 ls) _ (fun w hS => (DR.rng hS (.head _))) Try.underlying23 rfl (by rw [ints_len, hl]; rfl)) hHeld ?_
  try simp only [Act.put, List.setIfInBounds_toArray, List.set_cons_zero, List.set_cons_succ]
  refine wpAnyH_take (i := 5) (oi := { dst := some 59, op := Op.binOp BinOp.eql 23 (Operand.tmp 57) (Operand.tmp 58) 23, type := 4, pos := "outright.go:78", after := #[{ on := 3, ground := Ground.data }, { on := 4, ground := Ground.data }], guard := none }) (v := .bool false) rfl (by kernel_rfl) (by kernel_rfl) (by kernel_rfl) (fun _ _ _ h => h) (Or.inl ⟨by rfl, by intro w hS; go_simp⟩) hHeld ?_
  try simp only [Act.put, List.setIfInBounds_toArray, List.set_cons_zero, List.set_cons_succ]
  refine wpAnyH_ready (rs := [2]) (by kernel_rfl) (by simp) ?_
  refine (AllReadyH.cons (o := { dst := some 56, op := Op.call { callee := Callee.value (Operand.func 7), args := #[Operand.tmp 54, Operand.tmp 55], argTypes := #[24, 24] }, type := 4, pos := "outright.go:78", after := #[{ on := 0, ground := Ground.data }, { on := 1, ground := Ground.data }], guard := none }) rfl (fun K hK => ?_) AllReadyH.nil)
  go_simp
  go_at_call 7
  refine (KS.out _ sX sY).mono ?_
  rintro e w4 ⟨rfl, hb4⟩
  have sX := sX.below hb4 (Nat.le_refl _)
  have sY := sY.below hb4 (Nat.le_refl _)
  go_wp2_with fail
  refine hK.out _ _ (DR.call hHeld hb4) (fun hHeld2 => ?_)
  clear hK K hHeld
  have hHeld := hHeld2
  clear hHeld2
  try simp only [Act.put, List.setIfInBounds_toArray, List.set_cons_zero, List.set_cons_succ]
  refine wpAnyH_take (i := 6) (oi := { dst := some 60, op := Op.move (Operand.tmp 59), type := 4, pos := "outright.go:78", after := #[{ on := 5, ground := Ground.data }, { on := 2, ground := Ground.chain }], guard := none }) (v := .bool false) rfl (by kernel_rfl) (by kernel_rfl) (by kernel_rfl) (fun _ _ _ h => h) (Or.inl ⟨by rfl, by intro w hS; go_simp⟩) hHeld ?_
  try simp only [Act.put, List.setIfInBounds_toArray, List.set_cons_zero, List.set_cons_succ]
  refine wpAnyH_take (i := 7) (oi := { dst := some 61, op := Op.move (Operand.tmp 3), type := 24, pos := "outright.go:78", after := #[{ on := 6, ground := Ground.guard }], guard := some (6, true) }) (v := undef) rfl (by kernel_rfl) (by kernel_rfl) (by kernel_rfl) (fun _ _ _ h => h) (Or.inr ⟨by rfl, rfl⟩) hHeld ?_
  try simp only [Act.put, List.setIfInBounds_toArray, List.set_cons_zero, List.set_cons_succ]
  refine wpAnyH_take (i := 8) (oi := { dst := some 62, op := Op.move (Operand.tmp 4), type := 24, pos := "outright.go:78", after := #[{ on := 6, ground := Ground.guard }], guard := some (6, true) }) (v := undef) rfl (by kernel_rfl) (by kernel_rfl) (by kernel_rfl) (fun _ _ _ h => h) (Or.inr ⟨by rfl, rfl⟩) hHeld ?_
  try simp only [Act.put, List.setIfInBounds_toArray, List.set_cons_zero, List.set_cons_succ]
  refine wpAnyH_take (i := 9) (oi := { dst := some 63, op := Op.call { callee := Callee.value (Operand.func 7), args := #[Operand.tmp 61, Operand.tmp 62], argTypes := #[24, 24] }, type := 4, pos := "outright.go:78", after := #[{ on := 7, ground := Ground.data }, { on := 8, ground := Ground.data }, { on := 6, ground := Ground.chain }, { on := 6, ground := Ground.guard }], guard := some (6, true) }) (v := undef) rfl (by kernel_rfl) (by kernel_rfl) (by kernel_rfl) (fun _ _ _ h => h) (Or.inr ⟨by rfl, rfl⟩) hHeld ?_
  try simp only [Act.put, List.setIfInBounds_toArray, List.set_cons_zero, List.set_cons_succ]
  refine wpAnyH_take (i := 10) (oi := { dst := some 64, op := Op.pick (Operand.tmp 60) (Operand.tmp 63) (Operand.const (Value.bool false)), type := 4, pos := "outright.go:78", after := #[{ on := 6, ground := Ground.data }, { on := 9, ground := Ground.data }], guard := none }) (v := .bool false) rfl (by kernel_rfl) (by kernel_rfl) (by kernel_rfl) (fun _ _ _ h => h) (Or.inl ⟨by rfl, by intro w hS; go_simp⟩) hHeld ?_
  try simp only [Act.put, List.setIfInBounds_toArray, List.set_cons_zero, List.set_cons_succ]
  refine wpAnyH_take (i := 11) (oi := { dst := some 65, op := Op.binOp BinOp.neq 4 (Operand.tmp 56) (Operand.tmp 64) 4, type := 4, pos := "outright.go:78", after := #[{ on := 2, ground := Ground.data }, { on := 10, ground := Ground.data }], guard := none }) (v := .bool false) rfl (by kernel_rfl) (by kernel_rfl) (by kernel_rfl) (fun _ _ _ h => h) (Or.inl ⟨by rfl, by intro w hS; go_simp⟩) hHeld ?_
  try simp only [Act.put, List.setIfInBounds_toArray, List.set_cons_zero, List.set_cons_succ]
  refine wpAnyH_done (by kernel_rfl) ?_ _
  refine NoPanic.normal ?_
  have d3 := hHeld
  clear hHeld d2 KS
  go_wp2
  have sX : Src w4.drew (some ⟨gx, 0, none⟩) cx X := sX
  refine wp_region_noPanic ?_
  refine wp_region_held_drew (S := (fun w' => DR w w' [(w.heap.size + 1, ls, 23), (w.heap.size, ks, 23)])) (by kernel_rfl) d3.drew (fun hHeld => ?_)
  refine wpAnyH_take (i := 0) (oi := { dst := some 66, op := Op.move (Operand.tmp 0), type := 3, pos := "outright.go:81", after := #[], guard := none }) (v := .int .i64 k) rfl (by kernel_rfl) (by kernel_rfl) (by kernel_rfl) (fun _ _ _ h => h) (Or.inl ⟨by rfl, by intro w hS; go_simp⟩) hHeld ?_
  try simp only [Act.put, List.setIfInBounds_toArray, List.set_cons_zero, List.set_cons_succ]
  refine wpAnyH_take (i := 1) (oi := { dst := some 67, op := Op.move (Operand.tmp 5), type := 25, pos := "outright.go:81", after := #[], guard := none }) (v := .slice (some ⟨ab, ao, none⟩) na ca) rfl (by kernel_rfl) (by kernel_rfl) (by kernel_rfl) (fun _ _ _ h => h) (Or.inl ⟨by rfl, by intro w hS; go_simp⟩) hHeld ?_
  try simp only [Act.put, List.setIfInBounds_toArray, List.set_cons_zero, List.set_cons_succ]
  refine wpAnyH_take (i := 4) (oi := { dst := some 70, op := Op.move (Operand.tmp 5), type := 25, pos := "outright.go:81", after := #[], guard := none }) (v := .slice (some ⟨ab, ao, none⟩) na ca) rfl (by kernel_rfl) (by kernel_rfl) (by kernel_rfl) (fun _ _ _ h => h) (Or.inl ⟨by rfl, by intro w hS; go_simp⟩) hHeld ?_
  try simp only [Act.put, List.setIfInBounds_toArray, List.set_cons_zero, List.set_cons_succ]
  refine wpAnyH_take (i := 2) (oi := { dst := some 68, op := Op.indexAddr 25 (Operand.tmp 67) (Operand.const (Value.int IntKind.i64 0)), type := 0, pos := "outright.go:81", after := #[{ on := 1, ground := Ground.data }], guard := none }) (v := .pointer (some ⟨ab, ao, none⟩)) rfl (by kernel_rfl) (by kernel_rfl) (by kernel_rfl) (fun _ _ _ h => h) (Or.inl ⟨by rfl, by intro w hS; (go_simp <;> (intro h; exfalso; omega))⟩) hHeld ?_
  try simp only [Act.put, List.setIfInBounds_toArray, List.set_cons_zero, List.set_cons_succ]
  refine wpAnyH_take (i := 5) (oi := { dst := some 71, op := Op.indexAddr 25 (Operand.tmp 70) (Operand.const (Value.int IntKind.i64 1)), type := 0, pos := "outright.go:81", after := #[{ on := 4, ground := Ground.data }], guard := none }) (v := .pointer (some ⟨ab, ao + 32, none⟩)) rfl (by kernel_rfl) (by kernel_rfl) (by kernel_rfl) (fun _ _ _ h => h) (Or.inl ⟨by rfl, by intro w hS; (go_simp <;> (intro h; exfalso; omega))⟩) hHeld ?_
  try simp only [Act.put, List.setIfInBounds_toArray, List.set_cons_zero, List.set_cons_succ]
  refine wpAnyH_take (i := 3) (oi := { dst := some 69, op := Op.load 29 (Operand.tmp 68), type := 29, pos := "outright.go:81", after := #[{ on := 2, ground := Ground.data }], guard := none }) (v := .agg (ints .u8 a0).toArray) rfl (by kernel_rfl) (by kernel_rfl) (by kernel_rfl) (fun _ _ _ h => h) (yieldsIf_load_mid (by rfl) 29 _ rfl ab (ao) rfl (ints .u8 a0) _ (fun w hS => (rng_below R0 hS.1 hab)) Try.underlying29 rfl (by rw [ints_len, e0]; rfl)) hHeld ?_
  try simp only [Act.put, List.setIfInBounds_toArray, List.set_cons_zero, List.set_cons_succ]
  refine wpAnyH_take (i := 6) (oi := { dst := some 72, op := Op.load 29 (Operand.tmp 71), type := 29, pos := "outright.go:81", after := #[{ on := 5, ground := Ground.data }], guard := none }) (v := .agg (ints .u8 a1).toArray) rfl (by kernel_rfl) (by kernel_rfl) (by kernel_rfl) (fun _ _ _ h => h) (yieldsIf_load_mid (by rfl) 29 _ rfl ab (ao + 32) rfl (ints .u8 a1) _ (fun w hS => (rng_below R1 hS.1 hab)) Try.underlying29 rfl (by rw [ints_len, e1]; rfl)) hHeld ?_
  try simp only [Act.put, List.setIfInBounds_toArray, List.set_cons_zero, List.set_cons_succ]
  refine wpAnyH_ready (rs := [7]) (by kernel_rfl) (by simp) ?_
  refine (AllReadyH.cons (o := { dst := some 73, op := Op.call { callee := Callee.value (Operand.func 8), args := #[Operand.tmp 66, Operand.tmp 69, Operand.tmp 72], argTypes := #[3, 29, 29] }, type := 24, pos := "outright.go:81", after := #[{ on := 0, ground := Ground.data }, { on := 3, ground := Ground.data }, { on := 6, ground := Ground.data }], guard := none }) rfl (fun K hK => ?_) AllReadyH.nil)
  go_simp
  go_at_call 8
  refine (KP.out _).mono ?_
  rintro e w4 ⟨v, rfl, hO5, hb4⟩
  obtain ⟨gp, cp, rfl, cP, sP, bP⟩ := hO5.pos (by omega)
  rw [hP0] at cP
  rw [hPl]
  have sX := sX.below hb4 (Nat.le_refl _)
  have d3 := d3
  go_wp2_with fail
  refine hK.out _ _ (DR.call hHeld hb4) (fun hHeld2 => ?_)
  clear hK K hHeld
  have hHeld := hHeld2
  clear hHeld2
  try simp only [Act.put, List.setIfInBounds_toArray, List.set_cons_zero, List.set_cons_succ]
  refine wpAnyH_take (i := 8) (oi := { dst := some 15, op := Op.assign (Operand.tmp 73), type := 24, pos := "outright.go:81", after := #[{ on := 7, ground := Ground.data }, { on := 7, ground := Ground.chain }, { on := 0, ground := Ground.phase }, { on := 1, ground := Ground.phase }, { on := 2, ground := Ground.phase }, { on := 3, ground := Ground.phase }, { on := 4, ground := Ground.phase }, { on := 5, ground := Ground.phase }, { on := 6, ground := Ground.phase }, { on := 7, ground := Ground.phase }], guard := none }) (v := .slice (some ⟨gp, 0, none⟩) (1 + 2 * m) cp) rfl (by kernel_rfl) (by kernel_rfl) (by kernel_rfl) (fun _ _ _ h => h) (Or.inl ⟨by rfl, by intro w hS; go_simp⟩) hHeld ?_
  try simp only [Act.put, List.setIfInBounds_toArray, List.set_cons_zero, List.set_cons_succ]
  refine wpAnyH_done (by kernel_rfl) ?_ _
  refine NoPanic.normal ?_
  have d4 := hHeld
  clear hHeld
  go_wp2
  have sX : Src w4.drew (some ⟨gx, 0, none⟩) cx X := sX
  have sP : Src w4.drew (some ⟨gp, 0, none⟩) cp P := sP
  refine wp_region_noPanic ?_
  refine wp_region_held_drew (S := (fun w' => DR w w' [(w.heap.size + 1, ls, 23), (w.heap.size, ks, 23)])) (by kernel_rfl) d4.drew (fun hHeld => ?_)
  refine wpAnyH_take (i := 0) (oi := { dst := some 74, op := Op.move (Operand.tmp 0), type := 3, pos := "outright.go:82", after := #[], guard := none }) (v := .int .i64 k) rfl (by kernel_rfl) (by kernel_rfl) (by kernel_rfl) (fun _ _ _ h => h) (Or.inl ⟨by rfl, by intro w hS; go_simp⟩) hHeld ?_
  try simp only [Act.put, List.setIfInBounds_toArray, List.set_cons_zero, List.set_cons_succ]
  refine wpAnyH_take (i := 1) (oi := { dst := some 75, op := Op.move (Operand.tmp 5), type := 25, pos := "outright.go:82", after := #[], guard := none }) (v := .slice (some ⟨ab, ao, none⟩) na ca) rfl (by kernel_rfl) (by kernel_rfl) (by kernel_rfl) (fun _ _ _ h => h) (Or.inl ⟨by rfl, by intro w hS; go_simp⟩) hHeld ?_
  try simp only [Act.put, List.setIfInBounds_toArray, List.set_cons_zero, List.set_cons_succ]
  refine wpAnyH_take (i := 4) (oi := { dst := some 78, op := Op.move (Operand.tmp 5), type := 25, pos := "outright.go:82", after := #[], guard := none }) (v := .slice (some ⟨ab, ao, none⟩) na ca) rfl (by kernel_rfl) (by kernel_rfl) (by kernel_rfl) (fun _ _ _ h => h) (Or.inl ⟨by rfl, by intro w hS; go_simp⟩) hHeld ?_
  try simp only [Act.put, List.setIfInBounds_toArray, List.set_cons_zero, List.set_cons_succ]
  refine wpAnyH_take (i := 2) (oi := { dst := some 76, op := Op.indexAddr 25 (Operand.tmp 75) (Operand.const (Value.int IntKind.i64 2)), type := 0, pos := "outright.go:82", after := #[{ on := 1, ground := Ground.data }], guard := none }) (v := .pointer (some ⟨ab, ao + 64, none⟩)) rfl (by kernel_rfl) (by kernel_rfl) (by kernel_rfl) (fun _ _ _ h => h) (Or.inl ⟨by rfl, by intro w hS; (go_simp <;> (intro h; exfalso; omega))⟩) hHeld ?_
  try simp only [Act.put, List.setIfInBounds_toArray, List.set_cons_zero, List.set_cons_succ]
  refine wpAnyH_take (i := 5) (oi := { dst := some 79, op := Op.indexAddr 25 (Operand.tmp 78) (Operand.const (Value.int IntKind.i64 3)), type := 0, pos := "outright.go:82", after := #[{ on := 4, ground := Ground.data }], guard := none }) (v := .pointer (some ⟨ab, ao + 96, none⟩)) rfl (by kernel_rfl) (by kernel_rfl) (by kernel_rfl) (fun _ _ _ h => h) (Or.inl ⟨by rfl, by intro w hS; (go_simp <;> (intro h; exfalso; omega))⟩) hHeld ?_
  try simp only [Act.put, List.setIfInBounds_toArray, List.set_cons_zero, List.set_cons_succ]
  refine wpAnyH_take (i := 3) (oi := { dst := some 77, op := Op.load 29 (Operand.tmp 76), type := 29, pos := "outright.go:82", after := #[{ on := 2, ground := Ground.data }], guard := none }) (v := .agg (ints .u8 a2).toArray) rfl (by kernel_rfl) (by kernel_rfl) (by kernel_rfl) (fun _ _ _ h => h) (yieldsIf_load_mid (by rfl) 29 _ rfl ab (ao + 64) rfl (ints .u8 a2) _ (fun w hS => (rng_below R2 hS.1 hab)) Try.underlying29 rfl (by rw [ints_len, e2]; rfl)) hHeld ?_
  try simp only [Act.put, List.setIfInBounds_toArray, List.set_cons_zero, List.set_cons_succ]
  refine wpAnyH_take (i := 6) (oi := { dst := some 80, op := Op.load 29 (Operand.tmp 79), type := 29, pos := "outright.go:82", after := #[{ on := 5, ground := Ground.data }], guard := none }) (v := .agg (ints .u8 a3).toArray) rfl (by kernel_rfl) (by kernel_rfl) (by kernel_rfl) (fun _ _ _ h => h) (yieldsIf_load_mid (by rfl) 29 _ rfl ab (ao + 96) rfl (ints .u8 a3) _ (fun w hS => (rng_below R3 hS.1 hab)) Try.underlying29 rfl (by rw [ints_len, e3]; rfl)) hHeld ?_
  try simp only [Act.put, List.setIfInBounds_toArray, List.set_cons_zero, List.set_cons_succ]
  refine wpAnyH_ready (rs := [7]) (by kernel_rfl) (by simp) ?_
  refine (AllReadyH.cons (o := { dst := some 81, op := Op.call { callee := Callee.value (Operand.func 8), args := #[Operand.tmp 74, Operand.tmp 77, Operand.tmp 80], argTypes := #[3, 29, 29] }, type := 24, pos := "outright.go:82", after := #[{ on := 0, ground := Ground.data }, { on := 3, ground := Ground.data }, { on := 6, ground := Ground.data }], guard := none }) rfl (fun K hK => ?_) AllReadyH.nil)
  go_simp
  go_at_call 8
  refine (KQ.out _).mono ?_
  rintro e w4 ⟨v, rfl, hO6, hb4⟩
  obtain ⟨gq, cq, rfl, cQ, sQ, bQ⟩ := hO6.pos (by omega)
  rw [hQ0] at cQ
  rw [hQl]
  have sX := sX.below hb4 (Nat.le_refl _)
  have sP := sP.below hb4 (Nat.le_refl _)
  have cP := (hb4.cell (p := ⟨gp, 0, none⟩) bP).trans cP
  go_wp2_with fail
  refine hK.out _ _ (DR.call hHeld hb4) (fun hHeld2 => ?_)
  clear hK K hHeld
  have hHeld := hHeld2
  clear hHeld2
  try simp only [Act.put, List.setIfInBounds_toArray, List.set_cons_zero, List.set_cons_succ]
  refine wpAnyH_take (i := 8) (oi := { dst := some 16, op := Op.assign (Operand.tmp 81), type := 24, pos := "outright.go:82", after := #[{ on := 7, ground := Ground.data }, { on := 7, ground := Ground.chain }, { on := 0, ground := Ground.phase }, { on := 1, ground := Ground.phase }, { on := 2, ground := Ground.phase }, { on := 3, ground := Ground.phase }, { on := 4, ground := Ground.phase }, { on := 5, ground := Ground.phase }, { on := 6, ground := Ground.phase }, { on := 7, ground := Ground.phase }], guard := none }) (v := .slice (some ⟨gq, 0, none⟩) (1 + 2 * m) cq) rfl (by kernel_rfl) (by kernel_rfl) (by kernel_rfl) (fun _ _ _ h => h) (Or.inl ⟨by rfl, by intro w hS; go_simp⟩) hHeld ?_
  try simp only [Act.put, List.setIfInBounds_toArray, List.set_cons_zero, List.set_cons_succ]
  refine wpAnyH_done (by kernel_rfl) ?_ _
  refine NoPanic.normal ?_
  have d5 := hHeld
  clear hHeld
  go_wp2_with (first | (go_at_call 9; refine (KW.out _).mono ?_; rintro e w8 ⟨rfl, hw8⟩; obtain rfl := hw8.symm))
  have sX : Src w4.drew (some ⟨gx, 0, none⟩) cx X := sX
  have sP : Src w4.drew (some ⟨gp, 0, none⟩) cp P := sP
  have sQ : Src w4.drew (some ⟨gq, 0, none⟩) cq Q := sQ
  refine wp_region_noPanic ?_
  refine wp_region_held_drew (S := (fun w' => DR w w' [(w.heap.size + 1, ls, 23), (w.heap.size, ks, 23)])) (by kernel_rfl) d5.drew (fun hHeld => ?_)
  refine wpAnyH_take (i := 0) (oi := { dst := some 110, op := Op.move (Operand.tmp 5), type := 25, pos := "outright.go:87", after := #[], guard := none }) (v := .slice (some ⟨ab, ao, none⟩) na ca) rfl (by kernel_rfl) (by kernel_rfl) (by kernel_rfl) (fun _ _ _ h => h) (Or.inl ⟨by rfl, by intro w hS; go_simp⟩) hHeld ?_
  try simp only [Act.put, List.setIfInBounds_toArray, List.set_cons_zero, List.set_cons_succ]
  refine wpAnyH_take (i := 3) (oi := { dst := some 113, op := Op.move (Operand.tmp 0), type := 3, pos := "outright.go:87", after := #[], guard := none }) (v := .int .i64 k) rfl (by kernel_rfl) (by kernel_rfl) (by kernel_rfl) (fun _ _ _ h => h) (Or.inl ⟨by rfl, by intro w hS; go_simp⟩) hHeld ?_
  try simp only [Act.put, List.setIfInBounds_toArray, List.set_cons_zero, List.set_cons_succ]
  refine wpAnyH_take (i := 5) (oi := { dst := some 115, op := Op.move (Operand.tmp 5), type := 25, pos := "outright.go:87", after := #[], guard := none }) (v := .slice (some ⟨ab, ao, none⟩) na ca) rfl (by kernel_rfl) (by kernel_rfl) (by kernel_rfl) (fun _ _ _ h => h) (Or.inl ⟨by rfl, by intro w hS; go_simp⟩) hHeld ?_
  try simp only [Act.put, List.setIfInBounds_toArray, List.set_cons_zero, List.set_cons_succ]
  refine wpAnyH_take (i := 8) (oi := { dst := some 118, op := Op.move (Operand.tmp 0), type := 3, pos := "outright.go:87", after := #[], guard := none }) (v := .int .i64 k) rfl (by kernel_rfl) (by kernel_rfl) (by kernel_rfl) (fun _ _ _ h => h) (Or.inl ⟨by rfl, by intro w hS; go_simp⟩) hHeld ?_
  try simp only [Act.put, List.setIfInBounds_toArray, List.set_cons_zero, List.set_cons_succ]
  refine wpAnyH_take (i := 1) (oi := { dst := some 111, op := Op.indexAddr 25 (Operand.tmp 110) (Operand.const (Value.int IntKind.i64 0)), type := 0, pos := "outright.go:87", after := #[{ on := 0, ground := Ground.data }], guard := none }) (v := .pointer (some ⟨ab, ao, none⟩)) rfl (by kernel_rfl) (by kernel_rfl) (by kernel_rfl) (fun _ _ _ h => h) (Or.inl ⟨by rfl, by intro w hS; (go_simp <;> (intro h; exfalso; omega))⟩) hHeld ?_
  try simp only [Act.put, List.setIfInBounds_toArray, List.set_cons_zero, List.set_cons_succ]
  refine wpAnyH_take (i := 6) (oi := { dst := some 116, op := Op.indexAddr 25 (Operand.tmp 115) (Operand.const (Value.int IntKind.i64 2)), type := 0, pos := "outright.go:87", after := #[{ on := 5, ground := Ground.data }], guard := none }) (v := .pointer (some ⟨ab, ao + 64, none⟩)) rfl (by kernel_rfl) (by kernel_rfl) (by kernel_rfl) (fun _ _ _ h => h) (Or.inl ⟨by rfl, by intro w hS; (go_simp <;> (intro h; exfalso; omega))⟩) hHeld ?_
  try simp only [Act.put, List.setIfInBounds_toArray, List.set_cons_zero, List.set_cons_succ]
  refine wpAnyH_take (i := 2) (oi := { dst := some 112, op := Op.load 29 (Operand.tmp 111), type := 29, pos := "outright.go:87", after := #[{ on := 1, ground := Ground.data }], guard := none }) (v := .agg (ints .u8 a0).toArray) rfl (by kernel_rfl) (by kernel_rfl) (by kernel_rfl) (fun _ _ _ h => h) (yieldsIf_load_mid (by rfl) 29 _ rfl ab (ao) rfl (ints .u8 a0) _ (fun w hS => (rng_below R0 hS.1 hab)) Try.underlying29 rfl (by rw [ints_len, e0]; rfl)) hHeld ?_
  try simp only [Act.put, List.setIfInBounds_toArray, List.set_cons_zero, List.set_cons_succ]
  refine wpAnyH_take (i := 7) (oi := { dst := some 117, op := Op.load 29 (Operand.tmp 116), type := 29, pos := "outright.go:87", after := #[{ on := 6, ground := Ground.data }], guard := none }) (v := .agg (ints .u8 a2).toArray) rfl (by kernel_rfl) (by kernel_rfl) (by kernel_rfl) (fun _ _ _ h => h) (yieldsIf_load_mid (by rfl) 29 _ rfl ab (ao + 64) rfl (ints .u8 a2) _ (fun w hS => (rng_below R2 hS.1 hab)) Try.underlying29 rfl (by rw [ints_len, e2]; rfl)) hHeld ?_
  try simp only [Act.put, List.setIfInBounds_toArray, List.set_cons_zero, List.set_cons_succ]
  refine wpAnyH_ready (rs := [4]) (by kernel_rfl) (by simp) ?_
  refine (AllReadyH.cons (o := { dst := some 114, op := Op.call { callee := Callee.value (Operand.func 10), args := #[Operand.tmp 112, Operand.tmp 113], argTypes := #[29, 3] }, type := 29, pos := "outright.go:87", after := #[{ on := 2, ground := Ground.data }, { on := 3, ground := Ground.data }], guard := none }) rfl (fun K hK => ?_) AllReadyH.nil)
  go_simp
  go_at_call 10
  refine (C0.out _).mono ?_
  rintro e w4 ⟨rfl, hb4⟩
  have sX := sX.below hb4 (Nat.le_refl _)
  have sP := sP.below hb4 (Nat.le_refl _)
  have sQ := sQ.below hb4 (Nat.le_refl _)
  go_wp2_with fail
  refine hK.out _ _ (DR.call hHeld hb4) (fun hHeld2 => ?_)
  clear hK K hHeld
  have hHeld := hHeld2
  clear hHeld2
  try simp only [Act.put, List.setIfInBounds_toArray, List.set_cons_zero, List.set_cons_succ]
  refine wpAnyH_ready (rs := [9]) (by kernel_rfl) (by simp) ?_
  refine (AllReadyH.cons (o := { dst := some 119, op := Op.call { callee := Callee.value (Operand.func 10), args := #[Operand.tmp 117, Operand.tmp 118], argTypes := #[29, 3] }, type := 29, pos := "outright.go:87", after := #[{ on := 7, ground := Ground.data }, { on := 8, ground := Ground.data }, { on := 4, ground := Ground.chain }], guard := none }) rfl (fun K hK => ?_) AllReadyH.nil)
  go_simp
  go_at_call 10
  refine (C2.out _).mono ?_
  rintro e w4 ⟨rfl, hb4⟩
  have sX := sX.below hb4 (Nat.le_refl _)
  have sP := sP.below hb4 (Nat.le_refl _)
  have sQ := sQ.below hb4 (Nat.le_refl _)
  rw [← HR.out]
  go_wp2_with fail
  refine hK.out _ _ (DR.call hHeld hb4) (fun hHeld2 => ?_)
  clear hK K hHeld
  have hHeld := hHeld2
  clear hHeld2
  try simp only [Act.put, List.setIfInBounds_toArray, List.set_cons_zero, List.set_cons_succ]
  refine wpAnyH_take (i := 10) (oi := { dst := some 120, op := Op.binOp BinOp.eql 29 (Operand.tmp 114) (Operand.tmp 119) 29, type := 4, pos := "outright.go:87", after := #[{ on := 4, ground := Ground.data }, { on := 9, ground := Ground.data }], guard := none }) (v := .bool true) rfl (by kernel_rfl) (by kernel_rfl) (by kernel_rfl) (fun _ _ _ h => h) (Or.inl ⟨by rfl, by intro w hS; go_simp⟩) hHeld ?_
  try simp only [Act.put, List.setIfInBounds_toArray, List.set_cons_zero, List.set_cons_succ]
  refine wpAnyH_take (i := 11) (oi := { dst := some 121, op := Op.move (Operand.tmp 120), type := 4, pos := "outright.go:87", after := #[{ on := 10, ground := Ground.data }, { on := 9, ground := Ground.chain }], guard := none }) (v := .bool true) rfl (by kernel_rfl) (by kernel_rfl) (by kernel_rfl) (fun _ _ _ h => h) (Or.inl ⟨by rfl, by intro w hS; go_simp⟩) hHeld ?_
  try simp only [Act.put, List.setIfInBounds_toArray, List.set_cons_zero, List.set_cons_succ]
  refine wpAnyH_take (i := 12) (oi := { dst := some 122, op := Op.move (Operand.tmp 5), type := 25, pos := "outright.go:87", after := #[{ on := 11, ground := Ground.guard }], guard := some (11, true) }) (v := .slice (some ⟨ab, ao, none⟩) na ca) rfl (by kernel_rfl) (by kernel_rfl) (by kernel_rfl) (fun _ _ _ h => h) (Or.inl ⟨by rfl, by intro w hS; go_simp⟩) hHeld ?_
  try simp only [Act.put, List.setIfInBounds_toArray, List.set_cons_zero, List.set_cons_succ]
  refine wpAnyH_take (i := 15) (oi := { dst := some 125, op := Op.move (Operand.tmp 0), type := 3, pos := "outright.go:87", after := #[{ on := 11, ground := Ground.guard }], guard := some (11, true) }) (v := .int .i64 k) rfl (by kernel_rfl) (by kernel_rfl) (by kernel_rfl) (fun _ _ _ h => h) (Or.inl ⟨by rfl, by intro w hS; go_simp⟩) hHeld ?_
  try simp only [Act.put, List.setIfInBounds_toArray, List.set_cons_zero, List.set_cons_succ]
  refine wpAnyH_take (i := 17) (oi := { dst := some 127, op := Op.move (Operand.tmp 5), type := 25, pos := "outright.go:87", after := #[{ on := 11, ground := Ground.guard }], guard := some (11, true) }) (v := .slice (some ⟨ab, ao, none⟩) na ca) rfl (by kernel_rfl) (by kernel_rfl) (by kernel_rfl) (fun _ _ _ h => h) (Or.inl ⟨by rfl, by intro w hS; go_simp⟩) hHeld ?_
  try simp only [Act.put, List.setIfInBounds_toArray, List.set_cons_zero, List.set_cons_succ]
  refine wpAnyH_take (i := 20) (oi := { dst := some 130, op := Op.move (Operand.tmp 0), type := 3, pos := "outright.go:87", after := #[{ on := 11, ground := Ground.guard }], guard := some (11, true) }) (v := .int .i64 k) rfl (by kernel_rfl) (by kernel_rfl) (by kernel_rfl) (fun _ _ _ h => h) (Or.inl ⟨by rfl, by intro w hS; go_simp⟩) hHeld ?_
  try simp only [Act.put, List.setIfInBounds_toArray, List.set_cons_zero, List.set_cons_succ]
  refine wpAnyH_take (i := 13) (oi := { dst := some 123, op := Op.indexAddr 25 (Operand.tmp 122) (Operand.const (Value.int IntKind.i64 1)), type := 0, pos := "outright.go:87", after := #[{ on := 12, ground := Ground.data }, { on := 11, ground := Ground.guard }], guard := some (11, true) }) (v := .pointer (some ⟨ab, ao + 32, none⟩)) rfl (by kernel_rfl) (by kernel_rfl) (by kernel_rfl) (fun _ _ _ h => h) (Or.inl ⟨by rfl, by intro w hS; (go_simp <;> (intro h; exfalso; omega))⟩) hHeld ?_
  try simp only [Act.put, List.setIfInBounds_toArray, List.set_cons_zero, List.set_cons_succ]
  refine wpAnyH_take (i := 18) (oi := { dst := some 128, op := Op.indexAddr 25 (Operand.tmp 127) (Operand.const (Value.int IntKind.i64 3)), type := 0, pos := "outright.go:87", after := #[{ on := 17, ground := Ground.data }, { on := 11, ground := Ground.guard }], guard := some (11, true) }) (v := .pointer (some ⟨ab, ao + 96, none⟩)) rfl (by kernel_rfl) (by kernel_rfl) (by kernel_rfl) (fun _ _ _ h => h) (Or.inl ⟨by rfl, by intro w hS; (go_simp <;> (intro h; exfalso; omega))⟩) hHeld ?_
  try simp only [Act.put, List.setIfInBounds_toArray, List.set_cons_zero, List.set_cons_succ]
  refine wpAnyH_take (i := 14) (oi := { dst := some 124, op := Op.load 29 (Operand.tmp 123), type := 29, pos := "outright.go:87", after := #[{ on := 13, ground := Ground.data }, { on := 11, ground := Ground.guard }], guard := some (11, true) }) (v := .agg (ints .u8 a1).toArray) rfl (by kernel_rfl) (by kernel_rfl) (by kernel_rfl) (fun _ _ _ h => h) (yieldsIf_load_mid (by rfl) 29 _ rfl ab (ao + 32) rfl (ints .u8 a1) _ (fun w hS => (rng_below R1 hS.1 hab)) Try.underlying29 rfl (by rw [ints_len, e1]; rfl)) hHeld ?_
  try simp only [Act.put, List.setIfInBounds_toArray, List.set_cons_zero, List.set_cons_succ]
  refine wpAnyH_take (i := 19) (oi := { dst := some 129, op := Op.load 29 (Operand.tmp 128), type := 29, pos := "outright.go:87", after := #[{ on := 18, ground := Ground.data }, { on := 11, ground := Ground.guard }], guard := some (11, true) }) (v := .agg (ints .u8 a3).toArray) rfl (by kernel_rfl) (by kernel_rfl) (by kernel_rfl) (fun _ _ _ h => h) (yieldsIf_load_mid (by rfl) 29 _ rfl ab (ao + 96) rfl (ints .u8 a3) _ (fun w hS => (rng_below R3 hS.1 hab)) Try.underlying29 rfl (by rw [ints_len, e3]; rfl)) hHeld ?_
  try simp only [Act.put, List.setIfInBounds_toArray, List.set_cons_zero, List.set_cons_succ]
  refine wpAnyH_ready (rs := [16]) (by kernel_rfl) (by simp) ?_
  refine (AllReadyH.cons (o := { dst := some 126, op := Op.call { callee := Callee.value (Operand.func 10), args := #[Operand.tmp 124, Operand.tmp 125], argTypes := #[29, 3] }, type := 29, pos := "outright.go:87", after := #[{ on := 14, ground := Ground.data }, { on := 15, ground := Ground.data }, { on := 11, ground := Ground.chain }, { on := 11, ground := Ground.guard }], guard := some (11, true) }) rfl (fun K hK => ?_) AllReadyH.nil)
  go_simp
  go_at_call 10
  refine (C1.out _).mono ?_
  rintro e w4 ⟨rfl, hb4⟩
  have sX := sX.below hb4 (Nat.le_refl _)
  have sP := sP.below hb4 (Nat.le_refl _)
  have sQ := sQ.below hb4 (Nat.le_refl _)
  go_wp2_with fail
  refine hK.out _ _ (DR.call hHeld hb4) (fun hHeld2 => ?_)
  clear hK K hHeld
  have hHeld := hHeld2
  clear hHeld2
  try simp only [Act.put, List.setIfInBounds_toArray, List.set_cons_zero, List.set_cons_succ]
  refine wpAnyH_ready (rs := [21]) (by kernel_rfl) (by simp) ?_
  refine (AllReadyH.cons (o := { dst := some 131, op := Op.call { callee := Callee.value (Operand.func 10), args := #[Operand.tmp 129, Operand.tmp 130], argTypes := #[29, 3] }, type := 29, pos := "outright.go:87", after := #[{ on := 19, ground := Ground.data }, { on := 20, ground := Ground.data }, { on := 16, ground := Ground.chain }, { on := 11, ground := Ground.guard }], guard := some (11, true) }) rfl (fun K hK => ?_) AllReadyH.nil)
  go_simp
  go_at_call 10
  refine (C3.out _).mono ?_
  rintro e w4 ⟨rfl, hb4⟩
  have sX := sX.below hb4 (Nat.le_refl _)
  have sP := sP.below hb4 (Nat.le_refl _)
  have sQ := sQ.below hb4 (Nat.le_refl _)
  go_wp2_with fail
  refine hK.out _ _ (DR.call hHeld hb4) (fun hHeld2 => ?_)
  clear hK K hHeld
  have hHeld := hHeld2
  clear hHeld2
  try simp only [Act.put, List.setIfInBounds_toArray, List.set_cons_zero, List.set_cons_succ]
  refine wpAnyH_take (i := 22) (oi := { dst := some 132, op := Op.binOp BinOp.eql 29 (Operand.tmp 126) (Operand.tmp 131) 29, type := 4, pos := "outright.go:87", after := #[{ on := 16, ground := Ground.data }, { on := 21, ground := Ground.data }, { on := 11, ground := Ground.guard }], guard := some (11, true) }) (v := .bool C) rfl (by kernel_rfl) (by kernel_rfl) (by kernel_rfl) (fun _ _ _ h => h) (Or.inl ⟨by rfl, by intro w hS; go_simp⟩) hHeld ?_
  try simp only [Act.put, List.setIfInBounds_toArray, List.set_cons_zero, List.set_cons_succ]
  refine wpAnyH_take (i := 23) (oi := { dst := some 133, op := Op.pick (Operand.tmp 121) (Operand.tmp 132) (Operand.const (Value.bool false)), type := 4, pos := "outright.go:87", after := #[{ on := 11, ground := Ground.data }, { on := 22, ground := Ground.data }], guard := none }) (v := .bool C) rfl (by kernel_rfl) (by kernel_rfl) (by kernel_rfl) (fun _ _ _ h => h) (Or.inl ⟨by rfl, by intro w hS; go_simp⟩) hHeld ?_
  try simp only [Act.put, List.setIfInBounds_toArray, List.set_cons_zero, List.set_cons_succ]
  refine wpAnyH_take (i := 24) (oi := { dst := some 18, op := Op.assign (Operand.tmp 133), type := 4, pos := "outright.go:87", after := #[{ on := 23, ground := Ground.data }, { on := 21, ground := Ground.chain }, { on := 0, ground := Ground.phase }, { on := 1, ground := Ground.phase }, { on := 2, ground := Ground.phase }, { on := 3, ground := Ground.phase }, { on := 4, ground := Ground.phase }, { on := 5, ground := Ground.phase }, { on := 6, ground := Ground.phase }, { on := 7, ground := Ground.phase }, { on := 8, ground := Ground.phase }, { on := 9, ground := Ground.phase }, { on := 10, ground := Ground.phase }, { on := 11, ground := Ground.phase }, { on := 12, ground := Ground.phase }, { on := 13, ground := Ground.phase }, { on := 14, ground := Ground.phase }, { on := 15, ground := Ground.phase }, { on := 16, ground := Ground.phase }, { on := 17, ground := Ground.phase }, { on := 18, ground := Ground.phase }, { on := 19, ground := Ground.phase }, { on := 20, ground := Ground.phase }, { on := 21, ground := Ground.phase }, { on := 22, ground := Ground.phase }, { on := 23, ground := Ground.phase }], guard := none }) (v := .bool C) rfl (by kernel_rfl) (by kernel_rfl) (by kernel_rfl) (fun _ _ _ h => h) (Or.inl ⟨by rfl, by intro w hS; go_simp⟩) hHeld ?_
  try simp only [Act.put, List.setIfInBounds_toArray, List.set_cons_zero, List.set_cons_succ]
  refine wpAnyH_done (by kernel_rfl) ?_ _
  refine NoPanic.normal ?_
  have d6 := hHeld
  clear hHeld
  have KS1 := hid (fun w1 (h1 : Src w1 (some ⟨gp, 0, none⟩) cp P) (h2 : Src w1 (some ⟨gq, 0, none⟩) cq Q) => sameBytes_any w1 P Q (some ⟨gp, 0, none⟩) (some ⟨gq, 0, none⟩) cp cq h1 h2)
  rw [HPQ.out, hPl, hQl] at KS1
  have KS2 := hid (fun w1 (h1 : Src w1 (some ⟨gx, 0, none⟩) cx X) (h2 : Src w1 (some ⟨gp, 0, none⟩) cp P) => sameBytes_any w1 X P (some ⟨gx, 0, none⟩) (some ⟨gp, 0, none⟩) cx cp h1 h2)
  rw [nXP.out, hPl, hXl] at KS2
  have KS3 := hid (fun w1 sp (h1 : Src w1 (some ⟨gx, 0, none⟩) cx X) (h2 : Src w1 sp 1 [2]) => sameBytes_any w1 X [2] (some ⟨gx, 0, none⟩) sp cx 1 h1 h2)
  rw [nX2.out, hXl, show ([2] : List Int).length = 1 from rfl] at KS3
  have KS4 := hid (fun w1 sp (h1 : Src w1 (some ⟨gp, 0, none⟩) cp P) (h2 : Src w1 sp 1 [2]) => sameBytes_any w1 P [2] (some ⟨gp, 0, none⟩) sp cp 1 h1 h2)
  rw [nP2.out, hPl, show ([2] : List Int).length = 1 from rfl] at KS4
  clear HC
  cases C
  · go_wp2_with fail
    refine (KS1.out _ sP sQ).mono ?_
    rintro e wa ⟨rfl, hba⟩
    have d7 := d6.call hba
    have sX := sX.below hba (Nat.le_refl _)
    have sP := sP.below hba (Nat.le_refl _)
    clear KS1 sQ
    go_wp2_with fail
    refine (KS2.out _ sX sP).mono ?_
    rintro e wb ⟨rfl, hbb⟩
    have d8 := d7.call hbb
    have sX := sX.below hbb (Nat.le_refl _)
    have sP := sP.below hbb (Nat.le_refl _)
    clear KS2
    go_wp2_with fail
    show Calls Try.prog 7 _ (wb.alloc (.cells (ints .u8 ([2] ++ [])).toArray 5)) _
    have sT := src_row (hnew wb (.cells (ints .u8 ([2] ++ [])).toArray 5)) 1 (by simp) (by simp [maxLen])
    have sX := sX.below ((Below.refl wb.heap.size wb).alloc (Nat.le_refl _) (.cells (ints .u8 ([2] ++ [])).toArray 5)) (Nat.le_refl _)
    have sP := sP.below ((Below.refl wb.heap.size wb).alloc (Nat.le_refl _) (.cells (ints .u8 ([2] ++ [])).toArray 5)) (Nat.le_refl _)
    have d9 := d8.other (.cells (ints .u8 ([2] ++ [])).toArray 5)
    generalize wb.alloc (.cells (ints .u8 ([2] ++ [])).toArray 5) = wc at *
    refine (KS3.out _ _ sX sT).mono ?_
    rintro e wd ⟨rfl, hbd⟩
    have da := d9.call hbd
    have sP := sP.below hbd (Nat.le_refl _)
    clear KS3 sT
    go_wp2_with fail
    show Calls Try.prog 7 _ (wd.alloc (.cells (ints .u8 ([2] ++ [])).toArray 5)) _
    have sT := src_row (hnew wd (.cells (ints .u8 ([2] ++ [])).toArray 5)) 1 (by simp) (by simp [maxLen])
    have sP := sP.below ((Below.refl wd.heap.size wd).alloc (Nat.le_refl _) (.cells (ints .u8 ([2] ++ [])).toArray 5)) (Nat.le_refl _)
    have db := da.other (.cells (ints .u8 ([2] ++ [])).toArray 5)
    generalize wd.alloc (.cells (ints .u8 ([2] ++ [])).toArray 5) = we at *
    refine (KS4.out _ _ sP sT).mono ?_
    rintro e wf ⟨rfl, hbf⟩
    have dc := db.call hbf
    go_wp2_with fail
    go_ret
    exact ⟨rfl, dc.1⟩
  · go_wp2_with fail
    refine (KS1.out _ sP sQ).mono ?_
    rintro e wa ⟨rfl, hba⟩
    have d7 := d6.call hba
    have sX := sX.below hba (Nat.le_refl _)
    have sP := sP.below hba (Nat.le_refl _)
    clear KS1 sQ
    go_wp2_with fail
    refine (KS2.out _ sX sP).mono ?_
    rintro e wb ⟨rfl, hbb⟩
    have d8 := d7.call hbb
    have sX := sX.below hbb (Nat.le_refl _)
    have sP := sP.below hbb (Nat.le_refl _)
    clear KS2
    go_wp2_with fail
    show Calls Try.prog 7 _ (wb.alloc (.cells (ints .u8 ([2] ++ [])).toArray 5)) _
    have sT := src_row (hnew wb (.cells (ints .u8 ([2] ++ [])).toArray 5)) 1 (by simp) (by simp [maxLen])
    have sX := sX.below ((Below.refl wb.heap.size wb).alloc (Nat.le_refl _) (.cells (ints .u8 ([2] ++ [])).toArray 5)) (Nat.le_refl _)
    have sP := sP.below ((Below.refl wb.heap.size wb).alloc (Nat.le_refl _) (.cells (ints .u8 ([2] ++ [])).toArray 5)) (Nat.le_refl _)
    have d9 := d8.other (.cells (ints .u8 ([2] ++ [])).toArray 5)
    generalize wb.alloc (.cells (ints .u8 ([2] ++ [])).toArray 5) = wc at *
    refine (KS3.out _ _ sX sT).mono ?_
    rintro e wd ⟨rfl, hbd⟩
    have da := d9.call hbd
    have sP := sP.below hbd (Nat.le_refl _)
    clear KS3 sT
    go_wp2_with fail
    show Calls Try.prog 7 _ (wd.alloc (.cells (ints .u8 ([2] ++ [])).toArray 5)) _
    have sT := src_row (hnew wd (.cells (ints .u8 ([2] ++ [])).toArray 5)) 1 (by simp) (by simp [maxLen])
    have sP := sP.below ((Below.refl wd.heap.size wd).alloc (Nat.le_refl _) (.cells (ints .u8 ([2] ++ [])).toArray 5)) (Nat.le_refl _)
    have db := da.other (.cells (ints .u8 ([2] ++ [])).toArray 5)
    generalize wd.alloc (.cells (ints .u8 ([2] ++ [])).toArray 5) = we at *
    refine (KS4.out _ _ sP sT).mono ?_
    rintro e wf ⟨rfl, hbf⟩
    have dc := db.call hbf
    go_wp2_with fail
    go_ret
    exact ⟨rfl, dc.1⟩
set_option maxRecDepth 100000 in
set_option maxHeartbeats 4000000 in
theorem apart_tf (w : World) (k : Int) (ks ls us vs a0 a1 a2 a3 : List Int) (hk : ks.length = 32) (hl : ls.length = 32) (spu spv : Option Addr) (cau cav : Nat) (hU : Src w spu cau us) (hV : Src w spv cav vs) (hnu : spu = none → cau = 0) (hnv : spv = none → cav = 0) (hlu : us.length ≤ 140737488351232) (hlv : vs.length ≤ 140737488351232)
    (ab ao na ca : Nat) (hab : ab < w.heap.size) (hna : 4 ≤ na) (hna2 : (na : Int) ≤ 9223372036854775807) (hca : (ca : Int) ≤ 9223372036854775807) (e0 : a0.length = 32) (e1 : a1.length = 32) (e2 : a2.length = 32) (e3 : a3.length = 32) (R0 : w.rangeAt ab ao (ints .u8 a0)) (R1 : w.rangeAt ab (ao + 32) (ints .u8 a1)) (R2 : w.rangeAt ab (ao + 64) (ints .u8 a2)) (R3 : w.rangeAt ab (ao + 96) (ints .u8 a3))
    (hq : ks = ls) (hr : cutZ a0 (kept k) ≠ cutZ a2 (kept k)) :
    Calls Try.prog 3 #[.int .i64 k, .agg (ints .u8 ks).toArray, .agg (ints .u8 ls).toArray, .slice spu us.length cau, .slice spv vs.length cav, .slice (some ⟨ab, ao, none⟩) na ca] w fun e w' => e = .returned (.bool true) ∧ Below w.heap.size w w' := by
  have d0 := ((DR.nil w).alloc ks 23).alloc ls 23
  rw [show (w.alloc (.cells (ints .u8 ks).toArray 23)).heap.size = w.heap.size + 1 by simp] at d0
  have hkn := kept_le k
  have KX := hid (fun w1 (h : Src w1 spu cau us) => leafText_any w1 ks us hk spu cau h hnu hlu)
  have KY := hid (fun w1 (h : Src w1 spv cav vs) => leafText_any w1 ls vs hl spv cav h hnv hlv)
  have KP := hid (fun w1 => branchText_any w1 k a0 a1 e0 e1)
  have KQ := hid (fun w1 => branchText_any w1 k a2 a3 e2 e3)
  have KW := hid (fun w1 => lwithin_any k 0 32 (by decide) w1)
  rw [show min (max k 0) 32 = ((kept k : Nat) : Int) by unfold kept; omega] at KW
  have hXl : (leafT ks us).length = 33 + us.length := by simp [leafT, hk]; omega
  have hYl : (leafT ls vs).length = 33 + vs.length := by simp [leafT, hl]; omega
  have hPl : (branchT (kept k) a0 a1).length = 1 + 2 * kept k := by simp [branchT]; omega
  have hQl : (branchT (kept k) a2 a3).length = 1 + 2 * kept k := by simp [branchT]; omega
  have hX0 : (leafT ks us).getD 0 0 = 0 := rfl
  have hY0 : (leafT ls vs).getD 0 0 = 0 := rfl
  have hP0 : (branchT (kept k) a0 a1).getD 0 0 = 1 := rfl
  have hQ0 : (branchT (kept k) a2 a3).getD 0 0 = 1 := rfl
  have iX := leafT_inj ks ls us vs (by omega)
  have iP := branchT_inj (kept k) a0 a1 a2 a3 e0 e1 e2 e3 hkn
  have nXP := hid (show decide (leafT ks us = branchT (kept k) a0 a1) = false by simp [leafT, branchT])
  have nX2 := hid (show decide (leafT ks us = [2]) = false by simp [leafT])
  have nP2 := hid (show decide (branchT (kept k) a0 a1 = [2]) = false by simp [branchT])
  have HXY := hid (show decide (leafT ks us = leafT ls vs) = decide (us = vs) by rw [decide_eq_decide, iX]; simp [hq])
  have HPQ := hid (show decide (branchT (kept k) a0 a1 = branchT (kept k) a2 a3) = false by simp [iP, hr])
  have C0 := hid (fun w1 => cutD_any a0 e0 k w1)
  have C1 := hid (fun w1 => cutD_any a1 e1 k w1)
  have C2 := hid (fun w1 => cutD_any a2 e2 k w1)
  have C3 := hid (fun w1 => cutD_any a3 e3 k w1)
  have l0 := cutZ_len a0 (kept k) e0
  have l1 := cutZ_len a1 (kept k) e1
  have l2 := cutZ_len a2 (kept k) e2
  have l3 := cutZ_len a3 (kept k) e3
  have gK : Try.prog.eqGuardType Try.prog.depth 23 = false := by kernel_rfl
  have gD := Try.guardD
  have qK := eqK_eq ks ls hk hl hq
  have q02 := eqD_ne (cutZ a0 (kept k)) (cutZ a2 (kept k)) l0 l2 hr
  have HQ := hid hq
  clear iX iP hq hr
  generalize leafT ks us = X at *
  generalize leafT ls vs = Y at *
  generalize branchT (kept k) a0 a1 = P at *
  generalize branchT (kept k) a2 a3 = Q at *
  generalize cutZ a0 (kept k) = D0 at *
  generalize cutZ a1 (kept k) = D1 at *
  generalize cutZ a2 (kept k) = D2 at *
  generalize cutZ a3 (kept k) = D3 at *
  generalize kept k = m at *
  generalize hE : decide (us = vs) = E at *
  have HE := hid hE
  clear hE
  have i4 : ¬ ((na : Int) < 4) := by omega
  have iu : (us.length : Int) ≤ 140737488351232 := by omega
  have iv : (vs.length : Int) ≤ 140737488351232 := by omega
  have im : (m : Int) ≤ 32 := by omega
  go_enter Try.func3, Try.ntmps3
  have r0 := d0.row (.tail _ (.head _))
  have r1 := d0.row (.head _)
  go_wp2_with (first | refine wpList_load_row rfl 23 _ rfl _ rfl 23 _ _ _ r0 Try.underlying23 rfl (by rw [ints_size, hk]; rfl) ?_)
  generalize (w.alloc (.cells (ints .u8 ks).toArray 23)).alloc (.cells (ints .u8 ls).toArray 23) = w1 at *
  refine (KX.out w1 (d0.src hU)).mono ?_
  rintro e w2 ⟨v, rfl, hO2, hB2⟩
  obtain ⟨gx, cx, rfl, cX, sX, bX⟩ := hO2.pos (by omega)
  have d1 := d0.call hB2
  have r1 := d1.row (.head _)
  clear d0 hB2 hO2 KX r0
  rw [hX0] at cX
  rw [hXl]
  go_wp2_with (first | refine wpList_load_row rfl 23 _ rfl _ rfl 23 _ _ _ r1 Try.underlying23 rfl (by rw [ints_size, hl]; rfl) ?_)
  refine (KY.out w2 (d1.src hV)).mono ?_
  rintro e w3 ⟨v, rfl, hO3, hB3⟩
  obtain ⟨gy, cy, rfl, cY, sY, bY⟩ := hO3.pos (by omega)
  have d2 := d1.call hB3
  have cX := (hB3.cell (p := ⟨gx, 0, none⟩) bX).trans cX
  have sX := sX.below hB3 (Nat.le_refl _)
  clear d1 hB3 hO3 KY r1
  rw [hY0] at cY
  rw [hYl]
  go_wp2
  have sX : Src w3.drew (some ⟨gx, 0, none⟩) cx X := sX
  have sY : Src w3.drew (some ⟨gy, 0, none⟩) cy Y := sY
  have KS := hid (fun w1 (h1 : Src w1 (some ⟨gx, 0, none⟩) cx X) (h2 : Src w1 (some ⟨gy, 0, none⟩) cy Y) => sameBytes_any w1 X Y (some ⟨gx, 0, none⟩) (some ⟨gy, 0, none⟩) cx cy h1 h2)
  rw [HXY.out, hXl, hYl] at KS
  have KUV := hid (fun w1 (h1 : Src w1 spu cau us) (h2 : Src w1 spv cav vs) => sameBytes_any w1 us vs spu spv cau cav h1 h2)
  rw [HE.out] at KUV
  refine wp_region_noPanic ?_
  refine wp_region_held_drew (S := (fun w' => DR w w' [(w.heap.size + 1, ls, 23), (w.heap.size, ks, 23)])) (by kernel_rfl) d2.drew (fun hHeld => ?_)
  refine wpAnyH_take (i := 0) (oi := { dst := some 54, op := Op.move (Operand.tmp 13), type := 24, pos := "outright.go:78", after := #[], guard := none }) (v := .slice (some ⟨gx, 0, none⟩) (33 + us.length) cx) rfl (by kernel_rfl) (by kernel_rfl) (by kernel_rfl) (fun _ _ _ h => h) (Or.inl ⟨by rfl, by intro w hS; go_simp⟩) hHeld ?_
  try simp only [Act.put, List.setIfInBounds_toArray, List.set_cons_zero, List.set_cons_succ]
  refine wpAnyH_take (i := 1) (oi := { dst := some 55, op := Op.move (Operand.tmp 14), type := 24, pos := "outright.go:78", after := #[], guard := none }) (v := .slice (some ⟨gy, 0, none⟩) (33 + vs.length) cy) rfl (by kernel_rfl) (by kernel_rfl) (by kernel_rfl) (fun _ _ _ h => h) (Or.inl ⟨by rfl, by intro w hS; go_simp⟩) hHeld ?_
  try simp only [Act.put, List.setIfInBounds_toArray, List.set_cons_zero, List.set_cons_succ]
  refine wpAnyH_take (i := 3) (oi := { dst := some 57, op := Op.load 23 (Operand.tmp 7), type := 23, pos := "outright.go:78", after := #[], guard := none }) (v := .agg (ints .u8 ks).toArray) rfl (by kernel_rfl) (by kernel_rfl) (by kernel_rfl) (fun _ _ _ h => h) (yieldsIf_load_mid (by rfl) 23 _ rfl w.heap.size (0) rfl (ints .u8 ks) _ (fun w hS => (DR.rng hS (.tail _ (.head _)))) Try.underlying23 rfl (by rw [ints_len, hk]; rfl)) hHeld ?_
  try simp only [Act.put, List.setIfInBounds_toArray, List.set_cons_zero, List.set_cons_succ]
  refine wpAnyH_take (i := 4) (oi := { dst := some 58, op := Op.load 23 (Operand.tmp 8), type := 23, pos := "outright.go:78", after := #[], guard := none }) (v := .agg (ints .u8 ls).toArray) rfl (by kernel_rfl) (by kernel_rfl) (by kernel_rfl) (fun _ _ _ h => h) (yieldsIf_load_mid (by rfl) 23 _ rfl (w.heap.size + 1) (0) rfl (ints .u8 ls) _ (fun w hS => (DR.rng hS (.head _))) Try.underlying23 rfl (by rw [ints_len, hl]; rfl)) hHeld ?_
  try simp only [Act.put, List.setIfInBounds_toArray, List.set_cons_zero, List.set_cons_succ]
  refine wpAnyH_take (i := 5) (oi := { dst := some 59, op := Op.binOp BinOp.eql 23 (Operand.tmp 57) (Operand.tmp 58) 23, type := 4, pos := "outright.go:78", after := #[{ on := 3, ground := Ground.data }, { on := 4, ground := Ground.data }], guard := none }) (v := .bool true) rfl (by kernel_rfl) (by kernel_rfl) (by kernel_rfl) (fun _ _ _ h => h) (Or.inl ⟨by rfl, by intro w hS; go_simp⟩) hHeld ?_
  try simp only [Act.put, List.setIfInBounds_toArray, List.set_cons_zero, List.set_cons_succ]
  refine wpAnyH_ready (rs := [2]) (by kernel_rfl) (by simp) ?_
  refine (AllReadyH.cons (o := { dst := some 56, op := Op.call { callee := Callee.value (Operand.func 7), args := #[Operand.tmp 54, Operand.tmp 55], argTypes := #[24, 24] }, type := 4, pos := "outright.go:78", after := #[{ on := 0, ground := Ground.data }, { on := 1, ground := Ground.data }], guard := none }) rfl (fun K hK => ?_) AllReadyH.nil)
  go_simp
  go_at_call 7
  refine (KS.out _ sX sY).mono ?_
  rintro e w4 ⟨rfl, hb4⟩
  have sX := sX.below hb4 (Nat.le_refl _)
  have sY := sY.below hb4 (Nat.le_refl _)
  go_wp2_with fail
  refine hK.out _ _ (DR.call hHeld hb4) (fun hHeld2 => ?_)
  clear hK K hHeld
  have hHeld := hHeld2
  clear hHeld2
  try simp only [Act.put, List.setIfInBounds_toArray, List.set_cons_zero, List.set_cons_succ]
  refine wpAnyH_take (i := 6) (oi := { dst := some 60, op := Op.move (Operand.tmp 59), type := 4, pos := "outright.go:78", after := #[{ on := 5, ground := Ground.data }, { on := 2, ground := Ground.chain }], guard := none }) (v := .bool true) rfl (by kernel_rfl) (by kernel_rfl) (by kernel_rfl) (fun _ _ _ h => h) (Or.inl ⟨by rfl, by intro w hS; go_simp⟩) hHeld ?_
  try simp only [Act.put, List.setIfInBounds_toArray, List.set_cons_zero, List.set_cons_succ]
  refine wpAnyH_take (i := 7) (oi := { dst := some 61, op := Op.move (Operand.tmp 3), type := 24, pos := "outright.go:78", after := #[{ on := 6, ground := Ground.guard }], guard := some (6, true) }) (v := .slice spu us.length cau) rfl (by kernel_rfl) (by kernel_rfl) (by kernel_rfl) (fun _ _ _ h => h) (Or.inl ⟨by rfl, by intro w hS; go_simp⟩) hHeld ?_
  try simp only [Act.put, List.setIfInBounds_toArray, List.set_cons_zero, List.set_cons_succ]
  refine wpAnyH_take (i := 8) (oi := { dst := some 62, op := Op.move (Operand.tmp 4), type := 24, pos := "outright.go:78", after := #[{ on := 6, ground := Ground.guard }], guard := some (6, true) }) (v := .slice spv vs.length cav) rfl (by kernel_rfl) (by kernel_rfl) (by kernel_rfl) (fun _ _ _ h => h) (Or.inl ⟨by rfl, by intro w hS; go_simp⟩) hHeld ?_
  try simp only [Act.put, List.setIfInBounds_toArray, List.set_cons_zero, List.set_cons_succ]
  refine wpAnyH_ready (rs := [9]) (by kernel_rfl) (by simp) ?_
  refine (AllReadyH.cons (o := { dst := some 63, op := Op.call { callee := Callee.value (Operand.func 7), args := #[Operand.tmp 61, Operand.tmp 62], argTypes := #[24, 24] }, type := 4, pos := "outright.go:78", after := #[{ on := 7, ground := Ground.data }, { on := 8, ground := Ground.data }, { on := 6, ground := Ground.chain }, { on := 6, ground := Ground.guard }], guard := some (6, true) }) rfl (fun K hK => ?_) AllReadyH.nil)
  go_simp
  go_at_call 7
  refine (KUV.out _ (DR.src hHeld hU) (DR.src hHeld hV)).mono ?_
  rintro e w4 ⟨rfl, hb4⟩
  have sX := sX.below hb4 (Nat.le_refl _)
  have sY := sY.below hb4 (Nat.le_refl _)
  go_wp2_with fail
  refine hK.out _ _ (DR.call hHeld hb4) (fun hHeld2 => ?_)
  clear hK K hHeld
  have hHeld := hHeld2
  clear hHeld2
  try simp only [Act.put, List.setIfInBounds_toArray, List.set_cons_zero, List.set_cons_succ]
  refine wpAnyH_take (i := 10) (oi := { dst := some 64, op := Op.pick (Operand.tmp 60) (Operand.tmp 63) (Operand.const (Value.bool false)), type := 4, pos := "outright.go:78", after := #[{ on := 6, ground := Ground.data }, { on := 9, ground := Ground.data }], guard := none }) (v := .bool E) rfl (by kernel_rfl) (by kernel_rfl) (by kernel_rfl) (fun _ _ _ h => h) (Or.inl ⟨by rfl, by intro w hS; go_simp⟩) hHeld ?_
  try simp only [Act.put, List.setIfInBounds_toArray, List.set_cons_zero, List.set_cons_succ]
  refine wpAnyH_take (i := 11) (oi := { dst := some 65, op := Op.binOp BinOp.neq 4 (Operand.tmp 56) (Operand.tmp 64) 4, type := 4, pos := "outright.go:78", after := #[{ on := 2, ground := Ground.data }, { on := 10, ground := Ground.data }], guard := none }) (v := .bool false) rfl (by kernel_rfl) (by kernel_rfl) (by kernel_rfl) (fun _ _ _ h => h) (Or.inl ⟨by rfl, by intro w hS; cases E <;> go_simp⟩) hHeld ?_
  try simp only [Act.put, List.setIfInBounds_toArray, List.set_cons_zero, List.set_cons_succ]
  refine wpAnyH_done (by kernel_rfl) ?_ _
  refine NoPanic.normal ?_
  have d3 := hHeld
  clear hHeld d2 KS KUV
  go_wp2
  have sX : Src w4.drew (some ⟨gx, 0, none⟩) cx X := sX
  refine wp_region_noPanic ?_
  refine wp_region_held_drew (S := (fun w' => DR w w' [(w.heap.size + 1, ls, 23), (w.heap.size, ks, 23)])) (by kernel_rfl) d3.drew (fun hHeld => ?_)
  refine wpAnyH_take (i := 0) (oi := { dst := some 66, op := Op.move (Operand.tmp 0), type := 3, pos := "outright.go:81", after := #[], guard := none }) (v := .int .i64 k) rfl (by kernel_rfl) (by kernel_rfl) (by kernel_rfl) (fun _ _ _ h => h) (Or.inl ⟨by rfl, by intro w hS; go_simp⟩) hHeld ?_
  try simp only [Act.put, List.setIfInBounds_toArray, List.set_cons_zero, List.set_cons_succ]
  refine wpAnyH_take (i := 1) (oi := { dst := some 67, op := Op.move (Operand.tmp 5), type := 25, pos := "outright.go:81", after := #[], guard := none }) (v := .slice (some ⟨ab, ao, none⟩) na ca) rfl (by kernel_rfl) (by kernel_rfl) (by kernel_rfl) (fun _ _ _ h => h) (Or.inl ⟨by rfl, by intro w hS; go_simp⟩) hHeld ?_
  try simp only [Act.put, List.setIfInBounds_toArray, List.set_cons_zero, List.set_cons_succ]
  refine wpAnyH_take (i := 4) (oi := { dst := some 70, op := Op.move (Operand.tmp 5), type := 25, pos := "outright.go:81", after := #[], guard := none }) (v := .slice (some ⟨ab, ao, none⟩) na ca) rfl (by kernel_rfl) (by kernel_rfl) (by kernel_rfl) (fun _ _ _ h => h) (Or.inl ⟨by rfl, by intro w hS; go_simp⟩) hHeld ?_
  try simp only [Act.put, List.setIfInBounds_toArray, List.set_cons_zero, List.set_cons_succ]
  refine wpAnyH_take (i := 2) (oi := { dst := some 68, op := Op.indexAddr 25 (Operand.tmp 67) (Operand.const (Value.int IntKind.i64 0)), type := 0, pos := "outright.go:81", after := #[{ on := 1, ground := Ground.data }], guard := none }) (v := .pointer (some ⟨ab, ao, none⟩)) rfl (by kernel_rfl) (by kernel_rfl) (by kernel_rfl) (fun _ _ _ h => h) (Or.inl ⟨by rfl, by intro w hS; (go_simp <;> (intro h; exfalso; omega))⟩) hHeld ?_
  try simp only [Act.put, List.setIfInBounds_toArray, List.set_cons_zero, List.set_cons_succ]
  refine wpAnyH_take (i := 5) (oi := { dst := some 71, op := Op.indexAddr 25 (Operand.tmp 70) (Operand.const (Value.int IntKind.i64 1)), type := 0, pos := "outright.go:81", after := #[{ on := 4, ground := Ground.data }], guard := none }) (v := .pointer (some ⟨ab, ao + 32, none⟩)) rfl (by kernel_rfl) (by kernel_rfl) (by kernel_rfl) (fun _ _ _ h => h) (Or.inl ⟨by rfl, by intro w hS; (go_simp <;> (intro h; exfalso; omega))⟩) hHeld ?_
  try simp only [Act.put, List.setIfInBounds_toArray, List.set_cons_zero, List.set_cons_succ]
  refine wpAnyH_take (i := 3) (oi := { dst := some 69, op := Op.load 29 (Operand.tmp 68), type := 29, pos := "outright.go:81", after := #[{ on := 2, ground := Ground.data }], guard := none }) (v := .agg (ints .u8 a0).toArray) rfl (by kernel_rfl) (by kernel_rfl) (by kernel_rfl) (fun _ _ _ h => h) (yieldsIf_load_mid (by rfl) 29 _ rfl ab (ao) rfl (ints .u8 a0) _ (fun w hS => (rng_below R0 hS.1 hab)) Try.underlying29 rfl (by rw [ints_len, e0]; rfl)) hHeld ?_
  try simp only [Act.put, List.setIfInBounds_toArray, List.set_cons_zero, List.set_cons_succ]
  refine wpAnyH_take (i := 6) (oi := { dst := some 72, op := Op.load 29 (Operand.tmp 71), type := 29, pos := "outright.go:81", after := #[{ on := 5, ground := Ground.data }], guard := none }) (v := .agg (ints .u8 a1).toArray) rfl (by kernel_rfl) (by kernel_rfl) (by kernel_rfl) (fun _ _ _ h => h) (yieldsIf_load_mid (by rfl) 29 _ rfl ab (ao + 32) rfl (ints .u8 a1) _ (fun w hS => (rng_below R1 hS.1 hab)) Try.underlying29 rfl (by rw [ints_len, e1]; rfl)) hHeld ?_
  try simp only [Act.put, List.setIfInBounds_toArray, List.set_cons_zero, List.set_cons_succ]
  refine wpAnyH_ready (rs := [7]) (by kernel_rfl) (by simp) ?_
  refine (AllReadyH.cons (o := { dst := some 73, op := Op.call { callee := Callee.value (Operand.func 8), args := #[Operand.tmp 66, Operand.tmp 69, Operand.tmp 72], argTypes := #[3, 29, 29] }, type := 24, pos := "outright.go:81", after := #[{ on := 0, ground := Ground.data }, { on := 3, ground := Ground.data }, { on := 6, ground := Ground.data }], guard := none }) rfl (fun K hK => ?_) AllReadyH.nil)
  go_simp
  go_at_call 8
  refine (KP.out _).mono ?_
  rintro e w4 ⟨v, rfl, hO5, hb4⟩
  obtain ⟨gp, cp, rfl, cP, sP, bP⟩ := hO5.pos (by omega)
  rw [hP0] at cP
  rw [hPl]
  have sX := sX.below hb4 (Nat.le_refl _)
  have d3 := d3
  go_wp2_with fail
  refine hK.out _ _ (DR.call hHeld hb4) (fun hHeld2 => ?_)
  clear hK K hHeld
  have hHeld := hHeld2
  clear hHeld2
  try simp only [Act.put, List.setIfInBounds_toArray, List.set_cons_zero, List.set_cons_succ]
  refine wpAnyH_take (i := 8) (oi := { dst := some 15, op := Op.assign (Operand.tmp 73), type := 24, pos := "outright.go:81", after := #[{ on := 7, ground := Ground.data }, { on := 7, ground := Ground.chain }, { on := 0, ground := Ground.phase }, { on := 1, ground := Ground.phase }, { on := 2, ground := Ground.phase }, { on := 3, ground := Ground.phase }, { on := 4, ground := Ground.phase }, { on := 5, ground := Ground.phase }, { on := 6, ground := Ground.phase }, { on := 7, ground := Ground.phase }], guard := none }) (v := .slice (some ⟨gp, 0, none⟩) (1 + 2 * m) cp) rfl (by kernel_rfl) (by kernel_rfl) (by kernel_rfl) (fun _ _ _ h => h) (Or.inl ⟨by rfl, by intro w hS; go_simp⟩) hHeld ?_
  try simp only [Act.put, List.setIfInBounds_toArray, List.set_cons_zero, List.set_cons_succ]
  refine wpAnyH_done (by kernel_rfl) ?_ _
  refine NoPanic.normal ?_
  have d4 := hHeld
  clear hHeld
  go_wp2
  have sX : Src w4.drew (some ⟨gx, 0, none⟩) cx X := sX
  have sP : Src w4.drew (some ⟨gp, 0, none⟩) cp P := sP
  refine wp_region_noPanic ?_
  refine wp_region_held_drew (S := (fun w' => DR w w' [(w.heap.size + 1, ls, 23), (w.heap.size, ks, 23)])) (by kernel_rfl) d4.drew (fun hHeld => ?_)
  refine wpAnyH_take (i := 0) (oi := { dst := some 74, op := Op.move (Operand.tmp 0), type := 3, pos := "outright.go:82", after := #[], guard := none }) (v := .int .i64 k) rfl (by kernel_rfl) (by kernel_rfl) (by kernel_rfl) (fun _ _ _ h => h) (Or.inl ⟨by rfl, by intro w hS; go_simp⟩) hHeld ?_
  try simp only [Act.put, List.setIfInBounds_toArray, List.set_cons_zero, List.set_cons_succ]
  refine wpAnyH_take (i := 1) (oi := { dst := some 75, op := Op.move (Operand.tmp 5), type := 25, pos := "outright.go:82", after := #[], guard := none }) (v := .slice (some ⟨ab, ao, none⟩) na ca) rfl (by kernel_rfl) (by kernel_rfl) (by kernel_rfl) (fun _ _ _ h => h) (Or.inl ⟨by rfl, by intro w hS; go_simp⟩) hHeld ?_
  try simp only [Act.put, List.setIfInBounds_toArray, List.set_cons_zero, List.set_cons_succ]
  refine wpAnyH_take (i := 4) (oi := { dst := some 78, op := Op.move (Operand.tmp 5), type := 25, pos := "outright.go:82", after := #[], guard := none }) (v := .slice (some ⟨ab, ao, none⟩) na ca) rfl (by kernel_rfl) (by kernel_rfl) (by kernel_rfl) (fun _ _ _ h => h) (Or.inl ⟨by rfl, by intro w hS; go_simp⟩) hHeld ?_
  try simp only [Act.put, List.setIfInBounds_toArray, List.set_cons_zero, List.set_cons_succ]
  refine wpAnyH_take (i := 2) (oi := { dst := some 76, op := Op.indexAddr 25 (Operand.tmp 75) (Operand.const (Value.int IntKind.i64 2)), type := 0, pos := "outright.go:82", after := #[{ on := 1, ground := Ground.data }], guard := none }) (v := .pointer (some ⟨ab, ao + 64, none⟩)) rfl (by kernel_rfl) (by kernel_rfl) (by kernel_rfl) (fun _ _ _ h => h) (Or.inl ⟨by rfl, by intro w hS; (go_simp <;> (intro h; exfalso; omega))⟩) hHeld ?_
  try simp only [Act.put, List.setIfInBounds_toArray, List.set_cons_zero, List.set_cons_succ]
  refine wpAnyH_take (i := 5) (oi := { dst := some 79, op := Op.indexAddr 25 (Operand.tmp 78) (Operand.const (Value.int IntKind.i64 3)), type := 0, pos := "outright.go:82", after := #[{ on := 4, ground := Ground.data }], guard := none }) (v := .pointer (some ⟨ab, ao + 96, none⟩)) rfl (by kernel_rfl) (by kernel_rfl) (by kernel_rfl) (fun _ _ _ h => h) (Or.inl ⟨by rfl, by intro w hS; (go_simp <;> (intro h; exfalso; omega))⟩) hHeld ?_
  try simp only [Act.put, List.setIfInBounds_toArray, List.set_cons_zero, List.set_cons_succ]
  refine wpAnyH_take (i := 3) (oi := { dst := some 77, op := Op.load 29 (Operand.tmp 76), type := 29, pos := "outright.go:82", after := #[{ on := 2, ground := Ground.data }], guard := none }) (v := .agg (ints .u8 a2).toArray) rfl (by kernel_rfl) (by kernel_rfl) (by kernel_rfl) (fun _ _ _ h => h) (yieldsIf_load_mid (by rfl) 29 _ rfl ab (ao + 64) rfl (ints .u8 a2) _ (fun w hS => (rng_below R2 hS.1 hab)) Try.underlying29 rfl (by rw [ints_len, e2]; rfl)) hHeld ?_
  try simp only [Act.put, List.setIfInBounds_toArray, List.set_cons_zero, List.set_cons_succ]
  refine wpAnyH_take (i := 6) (oi := { dst := some 80, op := Op.load 29 (Operand.tmp 79), type := 29, pos := "outright.go:82", after := #[{ on := 5, ground := Ground.data }], guard := none }) (v := .agg (ints .u8 a3).toArray) rfl (by kernel_rfl) (by kernel_rfl) (by kernel_rfl) (fun _ _ _ h => h) (yieldsIf_load_mid (by rfl) 29 _ rfl ab (ao + 96) rfl (ints .u8 a3) _ (fun w hS => (rng_below R3 hS.1 hab)) Try.underlying29 rfl (by rw [ints_len, e3]; rfl)) hHeld ?_
  try simp only [Act.put, List.setIfInBounds_toArray, List.set_cons_zero, List.set_cons_succ]
  refine wpAnyH_ready (rs := [7]) (by kernel_rfl) (by simp) ?_
  refine (AllReadyH.cons (o := { dst := some 81, op := Op.call { callee := Callee.value (Operand.func 8), args := #[Operand.tmp 74, Operand.tmp 77, Operand.tmp 80], argTypes := #[3, 29, 29] }, type := 24, pos := "outright.go:82", after := #[{ on := 0, ground := Ground.data }, { on := 3, ground := Ground.data }, { on := 6, ground := Ground.data }], guard := none }) rfl (fun K hK => ?_) AllReadyH.nil)
  go_simp
  go_at_call 8
  refine (KQ.out _).mono ?_
  rintro e w4 ⟨v, rfl, hO6, hb4⟩
  obtain ⟨gq, cq, rfl, cQ, sQ, bQ⟩ := hO6.pos (by omega)
  rw [hQ0] at cQ
  rw [hQl]
  have sX := sX.below hb4 (Nat.le_refl _)
  have sP := sP.below hb4 (Nat.le_refl _)
  have cP := (hb4.cell (p := ⟨gp, 0, none⟩) bP).trans cP
  go_wp2_with fail
  refine hK.out _ _ (DR.call hHeld hb4) (fun hHeld2 => ?_)
  clear hK K hHeld
  have hHeld := hHeld2
  clear hHeld2
  try simp only [Act.put, List.setIfInBounds_toArray, List.set_cons_zero, List.set_cons_succ]
  refine wpAnyH_take (i := 8) (oi := { dst := some 16, op := Op.assign (Operand.tmp 81), type := 24, pos := "outright.go:82", after := #[{ on := 7, ground := Ground.data }, { on := 7, ground := Ground.chain }, { on := 0, ground := Ground.phase }, { on := 1, ground := Ground.phase }, { on := 2, ground := Ground.phase }, { on := 3, ground := Ground.phase }, { on := 4, ground := Ground.phase }, { on := 5, ground := Ground.phase }, { on := 6, ground := Ground.phase }, { on := 7, ground := Ground.phase }], guard := none }) (v := .slice (some ⟨gq, 0, none⟩) (1 + 2 * m) cq) rfl (by kernel_rfl) (by kernel_rfl) (by kernel_rfl) (fun _ _ _ h => h) (Or.inl ⟨by rfl, by intro w hS; go_simp⟩) hHeld ?_
  try simp only [Act.put, List.setIfInBounds_toArray, List.set_cons_zero, List.set_cons_succ]
  refine wpAnyH_done (by kernel_rfl) ?_ _
  refine NoPanic.normal ?_
  have d5 := hHeld
  clear hHeld
  go_wp2_with (first | (go_at_call 9; refine (KW.out _).mono ?_; rintro e w8 ⟨rfl, hw8⟩; obtain rfl := hw8.symm))
  have sX : Src w4.drew (some ⟨gx, 0, none⟩) cx X := sX
  have sP : Src w4.drew (some ⟨gp, 0, none⟩) cp P := sP
  have sQ : Src w4.drew (some ⟨gq, 0, none⟩) cq Q := sQ
  refine wp_region_noPanic ?_
  refine wp_region_held_drew (S := (fun w' => DR w w' [(w.heap.size + 1, ls, 23), (w.heap.size, ks, 23)])) (by kernel_rfl) d5.drew (fun hHeld => ?_)
  refine wpAnyH_take (i := 0) (oi := { dst := some 110, op := Op.move (Operand.tmp 5), type := 25, pos := "outright.go:87", after := #[], guard := none }) (v := .slice (some ⟨ab, ao, none⟩) na ca) rfl (by kernel_rfl) (by kernel_rfl) (by kernel_rfl) (fun _ _ _ h => h) (Or.inl ⟨by rfl, by intro w hS; go_simp⟩) hHeld ?_
  try simp only [Act.put, List.setIfInBounds_toArray, List.set_cons_zero, List.set_cons_succ]
  refine wpAnyH_take (i := 3) (oi := { dst := some 113, op := Op.move (Operand.tmp 0), type := 3, pos := "outright.go:87", after := #[], guard := none }) (v := .int .i64 k) rfl (by kernel_rfl) (by kernel_rfl) (by kernel_rfl) (fun _ _ _ h => h) (Or.inl ⟨by rfl, by intro w hS; go_simp⟩) hHeld ?_
  try simp only [Act.put, List.setIfInBounds_toArray, List.set_cons_zero, List.set_cons_succ]
  refine wpAnyH_take (i := 5) (oi := { dst := some 115, op := Op.move (Operand.tmp 5), type := 25, pos := "outright.go:87", after := #[], guard := none }) (v := .slice (some ⟨ab, ao, none⟩) na ca) rfl (by kernel_rfl) (by kernel_rfl) (by kernel_rfl) (fun _ _ _ h => h) (Or.inl ⟨by rfl, by intro w hS; go_simp⟩) hHeld ?_
  try simp only [Act.put, List.setIfInBounds_toArray, List.set_cons_zero, List.set_cons_succ]
  refine wpAnyH_take (i := 8) (oi := { dst := some 118, op := Op.move (Operand.tmp 0), type := 3, pos := "outright.go:87", after := #[], guard := none }) (v := .int .i64 k) rfl (by kernel_rfl) (by kernel_rfl) (by kernel_rfl) (fun _ _ _ h => h) (Or.inl ⟨by rfl, by intro w hS; go_simp⟩) hHeld ?_
  try simp only [Act.put, List.setIfInBounds_toArray, List.set_cons_zero, List.set_cons_succ]
  refine wpAnyH_take (i := 1) (oi := { dst := some 111, op := Op.indexAddr 25 (Operand.tmp 110) (Operand.const (Value.int IntKind.i64 0)), type := 0, pos := "outright.go:87", after := #[{ on := 0, ground := Ground.data }], guard := none }) (v := .pointer (some ⟨ab, ao, none⟩)) rfl (by kernel_rfl) (by kernel_rfl) (by kernel_rfl) (fun _ _ _ h => h) (Or.inl ⟨by rfl, by intro w hS; (go_simp <;> (intro h; exfalso; omega))⟩) hHeld ?_
  try simp only [Act.put, List.setIfInBounds_toArray, List.set_cons_zero, List.set_cons_succ]
  refine wpAnyH_take (i := 6) (oi := { dst := some 116, op := Op.indexAddr 25 (Operand.tmp 115) (Operand.const (Value.int IntKind.i64 2)), type := 0, pos := "outright.go:87", after := #[{ on := 5, ground := Ground.data }], guard := none }) (v := .pointer (some ⟨ab, ao + 64, none⟩)) rfl (by kernel_rfl) (by kernel_rfl) (by kernel_rfl) (fun _ _ _ h => h) (Or.inl ⟨by rfl, by intro w hS; (go_simp <;> (intro h; exfalso; omega))⟩) hHeld ?_
  try simp only [Act.put, List.setIfInBounds_toArray, List.set_cons_zero, List.set_cons_succ]
  refine wpAnyH_take (i := 2) (oi := { dst := some 112, op := Op.load 29 (Operand.tmp 111), type := 29, pos := "outright.go:87", after := #[{ on := 1, ground := Ground.data }], guard := none }) (v := .agg (ints .u8 a0).toArray) rfl (by kernel_rfl) (by kernel_rfl) (by kernel_rfl) (fun _ _ _ h => h) (yieldsIf_load_mid (by rfl) 29 _ rfl ab (ao) rfl (ints .u8 a0) _ (fun w hS => (rng_below R0 hS.1 hab)) Try.underlying29 rfl (by rw [ints_len, e0]; rfl)) hHeld ?_
  try simp only [Act.put, List.setIfInBounds_toArray, List.set_cons_zero, List.set_cons_succ]
  refine wpAnyH_take (i := 7) (oi := { dst := some 117, op := Op.load 29 (Operand.tmp 116), type := 29, pos := "outright.go:87", after := #[{ on := 6, ground := Ground.data }], guard := none }) (v := .agg (ints .u8 a2).toArray) rfl (by kernel_rfl) (by kernel_rfl) (by kernel_rfl) (fun _ _ _ h => h) (yieldsIf_load_mid (by rfl) 29 _ rfl ab (ao + 64) rfl (ints .u8 a2) _ (fun w hS => (rng_below R2 hS.1 hab)) Try.underlying29 rfl (by rw [ints_len, e2]; rfl)) hHeld ?_
  try simp only [Act.put, List.setIfInBounds_toArray, List.set_cons_zero, List.set_cons_succ]
  refine wpAnyH_ready (rs := [4]) (by kernel_rfl) (by simp) ?_
  refine (AllReadyH.cons (o := { dst := some 114, op := Op.call { callee := Callee.value (Operand.func 10), args := #[Operand.tmp 112, Operand.tmp 113], argTypes := #[29, 3] }, type := 29, pos := "outright.go:87", after := #[{ on := 2, ground := Ground.data }, { on := 3, ground := Ground.data }], guard := none }) rfl (fun K hK => ?_) AllReadyH.nil)
  go_simp
  go_at_call 10
  refine (C0.out _).mono ?_
  rintro e w4 ⟨rfl, hb4⟩
  have sX := sX.below hb4 (Nat.le_refl _)
  have sP := sP.below hb4 (Nat.le_refl _)
  have sQ := sQ.below hb4 (Nat.le_refl _)
  go_wp2_with fail
  refine hK.out _ _ (DR.call hHeld hb4) (fun hHeld2 => ?_)
  clear hK K hHeld
  have hHeld := hHeld2
  clear hHeld2
  try simp only [Act.put, List.setIfInBounds_toArray, List.set_cons_zero, List.set_cons_succ]
  refine wpAnyH_ready (rs := [9]) (by kernel_rfl) (by simp) ?_
  refine (AllReadyH.cons (o := { dst := some 119, op := Op.call { callee := Callee.value (Operand.func 10), args := #[Operand.tmp 117, Operand.tmp 118], argTypes := #[29, 3] }, type := 29, pos := "outright.go:87", after := #[{ on := 7, ground := Ground.data }, { on := 8, ground := Ground.data }, { on := 4, ground := Ground.chain }], guard := none }) rfl (fun K hK => ?_) AllReadyH.nil)
  go_simp
  go_at_call 10
  refine (C2.out _).mono ?_
  rintro e w4 ⟨rfl, hb4⟩
  have sX := sX.below hb4 (Nat.le_refl _)
  have sP := sP.below hb4 (Nat.le_refl _)
  have sQ := sQ.below hb4 (Nat.le_refl _)
  go_wp2_with fail
  refine hK.out _ _ (DR.call hHeld hb4) (fun hHeld2 => ?_)
  clear hK K hHeld
  have hHeld := hHeld2
  clear hHeld2
  try simp only [Act.put, List.setIfInBounds_toArray, List.set_cons_zero, List.set_cons_succ]
  refine wpAnyH_take (i := 10) (oi := { dst := some 120, op := Op.binOp BinOp.eql 29 (Operand.tmp 114) (Operand.tmp 119) 29, type := 4, pos := "outright.go:87", after := #[{ on := 4, ground := Ground.data }, { on := 9, ground := Ground.data }], guard := none }) (v := .bool false) rfl (by kernel_rfl) (by kernel_rfl) (by kernel_rfl) (fun _ _ _ h => h) (Or.inl ⟨by rfl, by intro w hS; go_simp⟩) hHeld ?_
  try simp only [Act.put, List.setIfInBounds_toArray, List.set_cons_zero, List.set_cons_succ]
  refine wpAnyH_take (i := 11) (oi := { dst := some 121, op := Op.move (Operand.tmp 120), type := 4, pos := "outright.go:87", after := #[{ on := 10, ground := Ground.data }, { on := 9, ground := Ground.chain }], guard := none }) (v := .bool false) rfl (by kernel_rfl) (by kernel_rfl) (by kernel_rfl) (fun _ _ _ h => h) (Or.inl ⟨by rfl, by intro w hS; go_simp⟩) hHeld ?_
  try simp only [Act.put, List.setIfInBounds_toArray, List.set_cons_zero, List.set_cons_succ]
  refine wpAnyH_take (i := 12) (oi := { dst := some 122, op := Op.move (Operand.tmp 5), type := 25, pos := "outright.go:87", after := #[{ on := 11, ground := Ground.guard }], guard := some (11, true) }) (v := undef) rfl (by kernel_rfl) (by kernel_rfl) (by kernel_rfl) (fun _ _ _ h => h) (Or.inr ⟨by rfl, rfl⟩) hHeld ?_
  try simp only [Act.put, List.setIfInBounds_toArray, List.set_cons_zero, List.set_cons_succ]
  refine wpAnyH_take (i := 15) (oi := { dst := some 125, op := Op.move (Operand.tmp 0), type := 3, pos := "outright.go:87", after := #[{ on := 11, ground := Ground.guard }], guard := some (11, true) }) (v := undef) rfl (by kernel_rfl) (by kernel_rfl) (by kernel_rfl) (fun _ _ _ h => h) (Or.inr ⟨by rfl, rfl⟩) hHeld ?_
  try simp only [Act.put, List.setIfInBounds_toArray, List.set_cons_zero, List.set_cons_succ]
  refine wpAnyH_take (i := 17) (oi := { dst := some 127, op := Op.move (Operand.tmp 5), type := 25, pos := "outright.go:87", after := #[{ on := 11, ground := Ground.guard }], guard := some (11, true) }) (v := undef) rfl (by kernel_rfl) (by kernel_rfl) (by kernel_rfl) (fun _ _ _ h => h) (Or.inr ⟨by rfl, rfl⟩) hHeld ?_
  try simp only [Act.put, List.setIfInBounds_toArray, List.set_cons_zero, List.set_cons_succ]
  refine wpAnyH_take (i := 20) (oi := { dst := some 130, op := Op.move (Operand.tmp 0), type := 3, pos := "outright.go:87", after := #[{ on := 11, ground := Ground.guard }], guard := some (11, true) }) (v := undef) rfl (by kernel_rfl) (by kernel_rfl) (by kernel_rfl) (fun _ _ _ h => h) (Or.inr ⟨by rfl, rfl⟩) hHeld ?_
  try simp only [Act.put, List.setIfInBounds_toArray, List.set_cons_zero, List.set_cons_succ]
  refine wpAnyH_take (i := 13) (oi := { dst := some 123, op := Op.indexAddr 25 (Operand.tmp 122) (Operand.const (Value.int IntKind.i64 1)), type := 0, pos := "outright.go:87", after := #[{ on := 12, ground := Ground.data }, { on := 11, ground := Ground.guard }], guard := some (11, true) }) (v := undef) rfl (by kernel_rfl) (by kernel_rfl) (by kernel_rfl) (fun _ _ _ h => h) (Or.inr ⟨by rfl, rfl⟩) hHeld ?_
  try simp only [Act.put, List.setIfInBounds_toArray, List.set_cons_zero, List.set_cons_succ]
  refine wpAnyH_take (i := 18) (oi := { dst := some 128, op := Op.indexAddr 25 (Operand.tmp 127) (Operand.const (Value.int IntKind.i64 3)), type := 0, pos := "outright.go:87", after := #[{ on := 17, ground := Ground.data }, { on := 11, ground := Ground.guard }], guard := some (11, true) }) (v := undef) rfl (by kernel_rfl) (by kernel_rfl) (by kernel_rfl) (fun _ _ _ h => h) (Or.inr ⟨by rfl, rfl⟩) hHeld ?_
  try simp only [Act.put, List.setIfInBounds_toArray, List.set_cons_zero, List.set_cons_succ]
  refine wpAnyH_take (i := 14) (oi := { dst := some 124, op := Op.load 29 (Operand.tmp 123), type := 29, pos := "outright.go:87", after := #[{ on := 13, ground := Ground.data }, { on := 11, ground := Ground.guard }], guard := some (11, true) }) (v := undef) rfl (by kernel_rfl) (by kernel_rfl) (by kernel_rfl) (fun _ _ _ h => h) (Or.inr ⟨by rfl, rfl⟩) hHeld ?_
  try simp only [Act.put, List.setIfInBounds_toArray, List.set_cons_zero, List.set_cons_succ]
  refine wpAnyH_take (i := 19) (oi := { dst := some 129, op := Op.load 29 (Operand.tmp 128), type := 29, pos := "outright.go:87", after := #[{ on := 18, ground := Ground.data }, { on := 11, ground := Ground.guard }], guard := some (11, true) }) (v := undef) rfl (by kernel_rfl) (by kernel_rfl) (by kernel_rfl) (fun _ _ _ h => h) (Or.inr ⟨by rfl, rfl⟩) hHeld ?_
  try simp only [Act.put, List.setIfInBounds_toArray, List.set_cons_zero, List.set_cons_succ]
  refine wpAnyH_take (i := 16) (oi := { dst := some 126, op := Op.call { callee := Callee.value (Operand.func 10), args := #[Operand.tmp 124, Operand.tmp 125], argTypes := #[29, 3] }, type := 29, pos := "outright.go:87", after := #[{ on := 14, ground := Ground.data }, { on := 15, ground := Ground.data }, { on := 11, ground := Ground.chain }, { on := 11, ground := Ground.guard }], guard := some (11, true) }) (v := undef) rfl (by kernel_rfl) (by kernel_rfl) (by kernel_rfl) (fun _ _ _ h => h) (Or.inr ⟨by rfl, rfl⟩) hHeld ?_
  try simp only [Act.put, List.setIfInBounds_toArray, List.set_cons_zero, List.set_cons_succ]
  refine wpAnyH_take (i := 21) (oi := { dst := some 131, op := Op.call { callee := Callee.value (Operand.func 10), args := #[Operand.tmp 129, Operand.tmp 130], argTypes := #[29, 3] }, type := 29, pos := "outright.go:87", after := #[{ on := 19, ground := Ground.data }, { on := 20, ground := Ground.data }, { on := 16, ground := Ground.chain }, { on := 11, ground := Ground.guard }], guard := some (11, true) }) (v := undef) rfl (by kernel_rfl) (by kernel_rfl) (by kernel_rfl) (fun _ _ _ h => h) (Or.inr ⟨by rfl, rfl⟩) hHeld ?_
  try simp only [Act.put, List.setIfInBounds_toArray, List.set_cons_zero, List.set_cons_succ]
  refine wpAnyH_take (i := 22) (oi := { dst := some 132, op := Op.binOp BinOp.eql 29 (Operand.tmp 126) (Operand.tmp 131) 29, type := 4, pos := "outright.go:87", after := #[{ on := 16, ground := Ground.data }, { on := 21, ground := Ground.data }, { on := 11, ground := Ground.guard }], guard := some (11, true) }) (v := undef) rfl (by kernel_rfl) (by kernel_rfl) (by kernel_rfl) (fun _ _ _ h => h) (Or.inr ⟨by rfl, rfl⟩) hHeld ?_
  try simp only [Act.put, List.setIfInBounds_toArray, List.set_cons_zero, List.set_cons_succ]
  refine wpAnyH_take (i := 23) (oi := { dst := some 133, op := Op.pick (Operand.tmp 121) (Operand.tmp 132) (Operand.const (Value.bool false)), type := 4, pos := "outright.go:87", after := #[{ on := 11, ground := Ground.data }, { on := 22, ground := Ground.data }], guard := none }) (v := .bool false) rfl (by kernel_rfl) (by kernel_rfl) (by kernel_rfl) (fun _ _ _ h => h) (Or.inl ⟨by rfl, by intro w hS; go_simp⟩) hHeld ?_
  try simp only [Act.put, List.setIfInBounds_toArray, List.set_cons_zero, List.set_cons_succ]
  refine wpAnyH_take (i := 24) (oi := { dst := some 18, op := Op.assign (Operand.tmp 133), type := 4, pos := "outright.go:87", after := #[{ on := 23, ground := Ground.data }, { on := 21, ground := Ground.chain }, { on := 0, ground := Ground.phase }, { on := 1, ground := Ground.phase }, { on := 2, ground := Ground.phase }, { on := 3, ground := Ground.phase }, { on := 4, ground := Ground.phase }, { on := 5, ground := Ground.phase }, { on := 6, ground := Ground.phase }, { on := 7, ground := Ground.phase }, { on := 8, ground := Ground.phase }, { on := 9, ground := Ground.phase }, { on := 10, ground := Ground.phase }, { on := 11, ground := Ground.phase }, { on := 12, ground := Ground.phase }, { on := 13, ground := Ground.phase }, { on := 14, ground := Ground.phase }, { on := 15, ground := Ground.phase }, { on := 16, ground := Ground.phase }, { on := 17, ground := Ground.phase }, { on := 18, ground := Ground.phase }, { on := 19, ground := Ground.phase }, { on := 20, ground := Ground.phase }, { on := 21, ground := Ground.phase }, { on := 22, ground := Ground.phase }, { on := 23, ground := Ground.phase }], guard := none }) (v := .bool false) rfl (by kernel_rfl) (by kernel_rfl) (by kernel_rfl) (fun _ _ _ h => h) (Or.inl ⟨by rfl, by intro w hS; go_simp⟩) hHeld ?_
  try simp only [Act.put, List.setIfInBounds_toArray, List.set_cons_zero, List.set_cons_succ]
  refine wpAnyH_done (by kernel_rfl) ?_ _
  refine NoPanic.normal ?_
  have d6 := hHeld
  clear hHeld
  have KS1 := hid (fun w1 (h1 : Src w1 (some ⟨gp, 0, none⟩) cp P) (h2 : Src w1 (some ⟨gq, 0, none⟩) cq Q) => sameBytes_any w1 P Q (some ⟨gp, 0, none⟩) (some ⟨gq, 0, none⟩) cp cq h1 h2)
  rw [HPQ.out, hPl, hQl] at KS1
  have KS2 := hid (fun w1 (h1 : Src w1 (some ⟨gx, 0, none⟩) cx X) (h2 : Src w1 (some ⟨gp, 0, none⟩) cp P) => sameBytes_any w1 X P (some ⟨gx, 0, none⟩) (some ⟨gp, 0, none⟩) cx cp h1 h2)
  rw [nXP.out, hPl, hXl] at KS2
  have KS3 := hid (fun w1 sp (h1 : Src w1 (some ⟨gx, 0, none⟩) cx X) (h2 : Src w1 sp 1 [2]) => sameBytes_any w1 X [2] (some ⟨gx, 0, none⟩) sp cx 1 h1 h2)
  rw [nX2.out, hXl, show ([2] : List Int).length = 1 from rfl] at KS3
  have KS4 := hid (fun w1 sp (h1 : Src w1 (some ⟨gp, 0, none⟩) cp P) (h2 : Src w1 sp 1 [2]) => sameBytes_any w1 P [2] (some ⟨gp, 0, none⟩) sp cp 1 h1 h2)
  rw [nP2.out, hPl, show ([2] : List Int).length = 1 from rfl] at KS4
  go_wp2_with fail
  refine (KS1.out _ sP sQ).mono ?_
  rintro e wa ⟨rfl, hba⟩
  have d7 := d6.call hba
  have sX := sX.below hba (Nat.le_refl _)
  have sP := sP.below hba (Nat.le_refl _)
  clear KS1 sQ
  go_wp2_with fail
  refine (KS2.out _ sX sP).mono ?_
  rintro e wb ⟨rfl, hbb⟩
  have d8 := d7.call hbb
  have sX := sX.below hbb (Nat.le_refl _)
  have sP := sP.below hbb (Nat.le_refl _)
  clear KS2
  go_wp2_with fail
  show Calls Try.prog 7 _ (wb.alloc (.cells (ints .u8 ([2] ++ [])).toArray 5)) _
  have sT := src_row (hnew wb (.cells (ints .u8 ([2] ++ [])).toArray 5)) 1 (by simp) (by simp [maxLen])
  have sX := sX.below ((Below.refl wb.heap.size wb).alloc (Nat.le_refl _) (.cells (ints .u8 ([2] ++ [])).toArray 5)) (Nat.le_refl _)
  have sP := sP.below ((Below.refl wb.heap.size wb).alloc (Nat.le_refl _) (.cells (ints .u8 ([2] ++ [])).toArray 5)) (Nat.le_refl _)
  have d9 := d8.other (.cells (ints .u8 ([2] ++ [])).toArray 5)
  generalize wb.alloc (.cells (ints .u8 ([2] ++ [])).toArray 5) = wc at *
  refine (KS3.out _ _ sX sT).mono ?_
  rintro e wd ⟨rfl, hbd⟩
  have da := d9.call hbd
  have sP := sP.below hbd (Nat.le_refl _)
  clear KS3 sT
  go_wp2_with fail
  show Calls Try.prog 7 _ (wd.alloc (.cells (ints .u8 ([2] ++ [])).toArray 5)) _
  have sT := src_row (hnew wd (.cells (ints .u8 ([2] ++ [])).toArray 5)) 1 (by simp) (by simp [maxLen])
  have sP := sP.below ((Below.refl wd.heap.size wd).alloc (Nat.le_refl _) (.cells (ints .u8 ([2] ++ [])).toArray 5)) (Nat.le_refl _)
  have db := da.other (.cells (ints .u8 ([2] ++ [])).toArray 5)
  generalize wd.alloc (.cells (ints .u8 ([2] ++ [])).toArray 5) = we at *
  refine (KS4.out _ _ sP sT).mono ?_
  rintro e wf ⟨rfl, hbf⟩
  have dc := db.call hbf
  go_wp2_with fail
  go_ret
  exact ⟨rfl, dc.1⟩
set_option maxRecDepth 100000 in
set_option maxHeartbeats 4000000 in
theorem apart_tt (w : World) (k : Int) (ks ls us vs a0 a1 a2 a3 : List Int) (hk : ks.length = 32) (hl : ls.length = 32) (spu spv : Option Addr) (cau cav : Nat) (hU : Src w spu cau us) (hV : Src w spv cav vs) (hnu : spu = none → cau = 0) (hnv : spv = none → cav = 0) (hlu : us.length ≤ 140737488351232) (hlv : vs.length ≤ 140737488351232)
    (ab ao na ca : Nat) (hab : ab < w.heap.size) (hna : 4 ≤ na) (hna2 : (na : Int) ≤ 9223372036854775807) (hca : (ca : Int) ≤ 9223372036854775807) (e0 : a0.length = 32) (e1 : a1.length = 32) (e2 : a2.length = 32) (e3 : a3.length = 32) (R0 : w.rangeAt ab ao (ints .u8 a0)) (R1 : w.rangeAt ab (ao + 32) (ints .u8 a1)) (R2 : w.rangeAt ab (ao + 64) (ints .u8 a2)) (R3 : w.rangeAt ab (ao + 96) (ints .u8 a3))
    (hq : ks = ls) (hr : cutZ a0 (kept k) = cutZ a2 (kept k)) :
    Calls Try.prog 3 #[.int .i64 k, .agg (ints .u8 ks).toArray, .agg (ints .u8 ls).toArray, .slice spu us.length cau, .slice spv vs.length cav, .slice (some ⟨ab, ao, none⟩) na ca] w fun e w' => e = .returned (.bool true) ∧ Below w.heap.size w w' := by
  have d0 := ((DR.nil w).alloc ks 23).alloc ls 23
  rw [show (w.alloc (.cells (ints .u8 ks).toArray 23)).heap.size = w.heap.size + 1 by simp] at d0
  have hkn := kept_le k
  have KX := hid (fun w1 (h : Src w1 spu cau us) => leafText_any w1 ks us hk spu cau h hnu hlu)
  have KY := hid (fun w1 (h : Src w1 spv cav vs) => leafText_any w1 ls vs hl spv cav h hnv hlv)
  have KP := hid (fun w1 => branchText_any w1 k a0 a1 e0 e1)
  have KQ := hid (fun w1 => branchText_any w1 k a2 a3 e2 e3)
  have KW := hid (fun w1 => lwithin_any k 0 32 (by decide) w1)
  rw [show min (max k 0) 32 = ((kept k : Nat) : Int) by unfold kept; omega] at KW
  have hXl : (leafT ks us).length = 33 + us.length := by simp [leafT, hk]; omega
  have hYl : (leafT ls vs).length = 33 + vs.length := by simp [leafT, hl]; omega
  have hPl : (branchT (kept k) a0 a1).length = 1 + 2 * kept k := by simp [branchT]; omega
  have hQl : (branchT (kept k) a2 a3).length = 1 + 2 * kept k := by simp [branchT]; omega
  have hX0 : (leafT ks us).getD 0 0 = 0 := rfl
  have hY0 : (leafT ls vs).getD 0 0 = 0 := rfl
  have hP0 : (branchT (kept k) a0 a1).getD 0 0 = 1 := rfl
  have hQ0 : (branchT (kept k) a2 a3).getD 0 0 = 1 := rfl
  have iX := leafT_inj ks ls us vs (by omega)
  have iP := branchT_inj (kept k) a0 a1 a2 a3 e0 e1 e2 e3 hkn
  have nXP := hid (show decide (leafT ks us = branchT (kept k) a0 a1) = false by simp [leafT, branchT])
  have nX2 := hid (show decide (leafT ks us = [2]) = false by simp [leafT])
  have nP2 := hid (show decide (branchT (kept k) a0 a1 = [2]) = false by simp [branchT])
  have HXY := hid (show decide (leafT ks us = leafT ls vs) = decide (us = vs) by rw [decide_eq_decide, iX]; simp [hq])
  have HPQ := hid (show decide (branchT (kept k) a0 a1 = branchT (kept k) a2 a3) = decide (cutZ a1 (kept k) = cutZ a3 (kept k)) by rw [decide_eq_decide, iP]; simp [hr])
  have C0 := hid (fun w1 => cutD_any a0 e0 k w1)
  have C1 := hid (fun w1 => cutD_any a1 e1 k w1)
  have C2 := hid (fun w1 => cutD_any a2 e2 k w1)
  have C3 := hid (fun w1 => cutD_any a3 e3 k w1)
  have l0 := cutZ_len a0 (kept k) e0
  have l1 := cutZ_len a1 (kept k) e1
  have l2 := cutZ_len a2 (kept k) e2
  have l3 := cutZ_len a3 (kept k) e3
  have gK : Try.prog.eqGuardType Try.prog.depth 23 = false := by kernel_rfl
  have gD := Try.guardD
  have qK := eqK_eq ks ls hk hl hq
  have q02 := eqD_self (cutZ a0 (kept k)) l0
  have q13 := eqD (cutZ a1 (kept k)) (cutZ a3 (kept k)) l1 l3
  have HR := hid hr
  have HQ := hid hq
  clear iX iP hq hr
  generalize leafT ks us = X at *
  generalize leafT ls vs = Y at *
  generalize branchT (kept k) a0 a1 = P at *
  generalize branchT (kept k) a2 a3 = Q at *
  generalize cutZ a0 (kept k) = D0 at *
  generalize cutZ a1 (kept k) = D1 at *
  generalize cutZ a2 (kept k) = D2 at *
  generalize cutZ a3 (kept k) = D3 at *
  generalize kept k = m at *
  generalize hE : decide (us = vs) = E at *
  have HE := hid hE
  clear hE
  generalize hC : decide (D1 = D3) = C at *
  have HC := hid hC
  clear hC
  have i4 : ¬ ((na : Int) < 4) := by omega
  have iu : (us.length : Int) ≤ 140737488351232 := by omega
  have iv : (vs.length : Int) ≤ 140737488351232 := by omega
  have im : (m : Int) ≤ 32 := by omega
  go_enter Try.func3, Try.ntmps3
  have r0 := d0.row (.tail _ (.head _))
  have r1 := d0.row (.head _)
  go_wp2_with (first | refine wpList_load_row rfl 23 _ rfl _ rfl 23 _ _ _ r0 Try.underlying23 rfl (by rw [ints_size, hk]; rfl) ?_)
  generalize (w.alloc (.cells (ints .u8 ks).toArray 23)).alloc (.cells (ints .u8 ls).toArray 23) = w1 at *
  refine (KX.out w1 (d0.src hU)).mono ?_
  rintro e w2 ⟨v, rfl, hO2, hB2⟩
  obtain ⟨gx, cx, rfl, cX, sX, bX⟩ := hO2.pos (by omega)
  have d1 := d0.call hB2
  have r1 := d1.row (.head _)
  clear d0 hB2 hO2 KX r0
  rw [hX0] at cX
  rw [hXl]
  go_wp2_with (first | refine wpList_load_row rfl 23 _ rfl _ rfl 23 _ _ _ r1 Try.underlying23 rfl (by rw [ints_size, hl]; rfl) ?_)
  refine (KY.out w2 (d1.src hV)).mono ?_
  rintro e w3 ⟨v, rfl, hO3, hB3⟩
  obtain ⟨gy, cy, rfl, cY, sY, bY⟩ := hO3.pos (by omega)
  have d2 := d1.call hB3
  have cX := (hB3.cell (p := ⟨gx, 0, none⟩) bX).trans cX
  have sX := sX.below hB3 (Nat.le_refl _)
  clear d1 hB3 hO3 KY r1
  rw [hY0] at cY
  rw [hYl]
  go_wp2
  have sX : Src w3.drew (some ⟨gx, 0, none⟩) cx X := sX
  have sY : Src w3.drew (some ⟨gy, 0, none⟩) cy Y := sY
  have KS := hid (fun w1 (h1 : Src w1 (some ⟨gx, 0, none⟩) cx X) (h2 : Src w1 (some ⟨gy, 0, none⟩) cy Y) => sameBytes_any w1 X Y (some ⟨gx, 0, none⟩) (some ⟨gy, 0, none⟩) cx cy h1 h2)
  rw [HXY.out, hXl, hYl] at KS
  have KUV := hid (fun w1 (h1 : Src w1 spu cau us) (h2 : Src w1 spv cav vs) => sameBytes_any w1 us vs spu spv cau cav h1 h2)
  rw [HE.out] at KUV
  refine wp_region_noPanic ?_
  refine wp_region_held_drew (S := (fun w' => DR w w' [(w.heap.size + 1, ls, 23), (w.heap.size, ks, 23)])) (by kernel_rfl) d2.drew (fun hHeld => ?_)
  refine wpAnyH_take (i := 0) (oi := { dst := some 54, op := Op.move (Operand.tmp 13), type := 24, pos := "outright.go:78", after := #[], guard := none }) (v := .slice (some ⟨gx, 0, none⟩) (33 + us.length) cx) rfl (by kernel_rfl) (by kernel_rfl) (by kernel_rfl) (fun _ _ _ h => h) (Or.inl ⟨by rfl, by intro w hS; go_simp⟩) hHeld ?_
  try simp only [Act.put, List.setIfInBounds_toArray, List.set_cons_zero, List.set_cons_succ]
  refine wpAnyH_take (i := 1) (oi := { dst := some 55, op := Op.move (Operand.tmp 14), type := 24, pos := "outright.go:78", after := #[], guard := none }) (v := .slice (some ⟨gy, 0, none⟩) (33 + vs.length) cy) rfl (by kernel_rfl) (by kernel_rfl) (by kernel_rfl) (fun _ _ _ h => h) (Or.inl ⟨by rfl, by intro w hS; go_simp⟩) hHeld ?_
  try simp only [Act.put, List.setIfInBounds_toArray, List.set_cons_zero, List.set_cons_succ]
  refine wpAnyH_take (i := 3) (oi := { dst := some 57, op := Op.load 23 (Operand.tmp 7), type := 23, pos := "outright.go:78", after := #[], guard := none }) (v := .agg (ints .u8 ks).toArray) rfl (by kernel_rfl) (by kernel_rfl) (by kernel_rfl) (fun _ _ _ h => h) (yieldsIf_load_mid (by rfl) 23 _ rfl w.heap.size (0) rfl (ints .u8 ks) _ (fun w hS => (DR.rng hS (.tail _ (.head _)))) Try.underlying23 rfl (by rw [ints_len, hk]; rfl)) hHeld ?_
  try simp only [Act.put, List.setIfInBounds_toArray, List.set_cons_zero, List.set_cons_succ]
  refine wpAnyH_take (i := 4) (oi := { dst := some 58, op := Op.load 23 (Operand.tmp 8), type := 23, pos := "outright.go:78", after := #[], guard := none }) (v := .agg (ints .u8 ls).toArray) rfl (by kernel_rfl) (by kernel_rfl) (by kernel_rfl) (fun _ _ _ h => h) (yieldsIf_load_mid (by rfl) 23 _ rfl (w.heap.size + 1) (0) rfl (ints .u8 ls) _ (fun w hS => (DR.rng hS (.head _))) Try.underlying23 rfl (by rw [ints_len, hl]; rfl)) hHeld ?_
  try simp only [Act.put, List.setIfInBounds_toArray, List.set_cons_zero, List.set_cons_succ]
  refine wpAnyH_take (i := 5) (oi := { dst := some 59, op := Op.binOp BinOp.eql 23 (Operand.tmp 57) (Operand.tmp 58) 23, type := 4, pos := "outright.go:78", after := #[{ on := 3, ground := Ground.data }, { on := 4, ground := Ground.data }], guard := none }) (v := .bool true) rfl (by kernel_rfl) (by kernel_rfl) (by kernel_rfl) (fun _ _ _ h => h) (Or.inl ⟨by rfl, by intro w hS; go_simp⟩) hHeld ?_
  try simp only [Act.put, List.setIfInBounds_toArray, List.set_cons_zero, List.set_cons_succ]
  refine wpAnyH_ready (rs := [2]) (by kernel_rfl) (by simp) ?_
  refine (AllReadyH.cons (o := { dst := some 56, op := Op.call { callee := Callee.value (Operand.func 7), args := #[Operand.tmp 54, Operand.tmp 55], argTypes := #[24, 24] }, type := 4, pos := "outright.go:78", after := #[{ on := 0, ground := Ground.data }, { on := 1, ground := Ground.data }], guard := none }) rfl (fun K hK => ?_) AllReadyH.nil)
  go_simp
  go_at_call 7
  refine (KS.out _ sX sY).mono ?_
  rintro e w4 ⟨rfl, hb4⟩
  have sX := sX.below hb4 (Nat.le_refl _)
  have sY := sY.below hb4 (Nat.le_refl _)
  go_wp2_with fail
  refine hK.out _ _ (DR.call hHeld hb4) (fun hHeld2 => ?_)
  clear hK K hHeld
  have hHeld := hHeld2
  clear hHeld2
  try simp only [Act.put, List.setIfInBounds_toArray, List.set_cons_zero, List.set_cons_succ]
  refine wpAnyH_take (i := 6) (oi := { dst := some 60, op := Op.move (Operand.tmp 59), type := 4, pos := "outright.go:78", after := #[{ on := 5, ground := Ground.data }, { on := 2, ground := Ground.chain }], guard := none }) (v := .bool true) rfl (by kernel_rfl) (by kernel_rfl) (by kernel_rfl) (fun _ _ _ h => h) (Or.inl ⟨by rfl, by intro w hS; go_simp⟩) hHeld ?_
  try simp only [Act.put, List.setIfInBounds_toArray, List.set_cons_zero, List.set_cons_succ]
  refine wpAnyH_take (i := 7) (oi := { dst := some 61, op := Op.move (Operand.tmp 3), type := 24, pos := "outright.go:78", after := #[{ on := 6, ground := Ground.guard }], guard := some (6, true) }) (v := .slice spu us.length cau) rfl (by kernel_rfl) (by kernel_rfl) (by kernel_rfl) (fun _ _ _ h => h) (Or.inl ⟨by rfl, by intro w hS; go_simp⟩) hHeld ?_
  try simp only [Act.put, List.setIfInBounds_toArray, List.set_cons_zero, List.set_cons_succ]
  refine wpAnyH_take (i := 8) (oi := { dst := some 62, op := Op.move (Operand.tmp 4), type := 24, pos := "outright.go:78", after := #[{ on := 6, ground := Ground.guard }], guard := some (6, true) }) (v := .slice spv vs.length cav) rfl (by kernel_rfl) (by kernel_rfl) (by kernel_rfl) (fun _ _ _ h => h) (Or.inl ⟨by rfl, by intro w hS; go_simp⟩) hHeld ?_
  try simp only [Act.put, List.setIfInBounds_toArray, List.set_cons_zero, List.set_cons_succ]
  refine wpAnyH_ready (rs := [9]) (by kernel_rfl) (by simp) ?_
  refine (AllReadyH.cons (o := { dst := some 63, op := Op.call { callee := Callee.value (Operand.func 7), args := #[Operand.tmp 61, Operand.tmp 62], argTypes := #[24, 24] }, type := 4, pos := "outright.go:78", after := #[{ on := 7, ground := Ground.data }, { on := 8, ground := Ground.data }, { on := 6, ground := Ground.chain }, { on := 6, ground := Ground.guard }], guard := some (6, true) }) rfl (fun K hK => ?_) AllReadyH.nil)
  go_simp
  go_at_call 7
  refine (KUV.out _ (DR.src hHeld hU) (DR.src hHeld hV)).mono ?_
  rintro e w4 ⟨rfl, hb4⟩
  have sX := sX.below hb4 (Nat.le_refl _)
  have sY := sY.below hb4 (Nat.le_refl _)
  go_wp2_with fail
  refine hK.out _ _ (DR.call hHeld hb4) (fun hHeld2 => ?_)
  clear hK K hHeld
  have hHeld := hHeld2
  clear hHeld2
  try simp only [Act.put, List.setIfInBounds_toArray, List.set_cons_zero, List.set_cons_succ]
  refine wpAnyH_take (i := 10) (oi := { dst := some 64, op := Op.pick (Operand.tmp 60) (Operand.tmp 63) (Operand.const (Value.bool false)), type := 4, pos := "outright.go:78", after := #[{ on := 6, ground := Ground.data }, { on := 9, ground := Ground.data }], guard := none }) (v := .bool E) rfl (by kernel_rfl) (by kernel_rfl) (by kernel_rfl) (fun _ _ _ h => h) (Or.inl ⟨by rfl, by intro w hS; go_simp⟩) hHeld ?_
  try simp only [Act.put, List.setIfInBounds_toArray, List.set_cons_zero, List.set_cons_succ]
  refine wpAnyH_take (i := 11) (oi := { dst := some 65, op := Op.binOp BinOp.neq 4 (Operand.tmp 56) (Operand.tmp 64) 4, type := 4, pos := "outright.go:78", after := #[{ on := 2, ground := Ground.data }, { on := 10, ground := Ground.data }], guard := none }) (v := .bool false) rfl (by kernel_rfl) (by kernel_rfl) (by kernel_rfl) (fun _ _ _ h => h) (Or.inl ⟨by rfl, by intro w hS; cases E <;> go_simp⟩) hHeld ?_
  try simp only [Act.put, List.setIfInBounds_toArray, List.set_cons_zero, List.set_cons_succ]
  refine wpAnyH_done (by kernel_rfl) ?_ _
  refine NoPanic.normal ?_
  have d3 := hHeld
  clear hHeld d2 KS KUV
  go_wp2
  have sX : Src w4.drew (some ⟨gx, 0, none⟩) cx X := sX
  refine wp_region_noPanic ?_
  refine wp_region_held_drew (S := (fun w' => DR w w' [(w.heap.size + 1, ls, 23), (w.heap.size, ks, 23)])) (by kernel_rfl) d3.drew (fun hHeld => ?_)
  refine wpAnyH_take (i := 0) (oi := { dst := some 66, op := Op.move (Operand.tmp 0), type := 3, pos := "outright.go:81", after := #[], guard := none }) (v := .int .i64 k) rfl (by kernel_rfl) (by kernel_rfl) (by kernel_rfl) (fun _ _ _ h => h) (Or.inl ⟨by rfl, by intro w hS; go_simp⟩) hHeld ?_
  try simp only [Act.put, List.setIfInBounds_toArray, List.set_cons_zero, List.set_cons_succ]
  refine wpAnyH_take (i := 1) (oi := { dst := some 67, op := Op.move (Operand.tmp 5), type := 25, pos := "outright.go:81", after := #[], guard := none }) (v := .slice (some ⟨ab, ao, none⟩) na ca) rfl (by kernel_rfl) (by kernel_rfl) (by kernel_rfl) (fun _ _ _ h => h) (Or.inl ⟨by rfl, by intro w hS; go_simp⟩) hHeld ?_
  try simp only [Act.put, List.setIfInBounds_toArray, List.set_cons_zero, List.set_cons_succ]
  refine wpAnyH_take (i := 4) (oi := { dst := some 70, op := Op.move (Operand.tmp 5), type := 25, pos := "outright.go:81", after := #[], guard := none }) (v := .slice (some ⟨ab, ao, none⟩) na ca) rfl (by kernel_rfl) (by kernel_rfl) (by kernel_rfl) (fun _ _ _ h => h) (Or.inl ⟨by rfl, by intro w hS; go_simp⟩) hHeld ?_
  try simp only [Act.put, List.setIfInBounds_toArray, List.set_cons_zero, List.set_cons_succ]
  refine wpAnyH_take (i := 2) (oi := { dst := some 68, op := Op.indexAddr 25 (Operand.tmp 67) (Operand.const (Value.int IntKind.i64 0)), type := 0, pos := "outright.go:81", after := #[{ on := 1, ground := Ground.data }], guard := none }) (v := .pointer (some ⟨ab, ao, none⟩)) rfl (by kernel_rfl) (by kernel_rfl) (by kernel_rfl) (fun _ _ _ h => h) (Or.inl ⟨by rfl, by intro w hS; (go_simp <;> (intro h; exfalso; omega))⟩) hHeld ?_
  try simp only [Act.put, List.setIfInBounds_toArray, List.set_cons_zero, List.set_cons_succ]
  refine wpAnyH_take (i := 5) (oi := { dst := some 71, op := Op.indexAddr 25 (Operand.tmp 70) (Operand.const (Value.int IntKind.i64 1)), type := 0, pos := "outright.go:81", after := #[{ on := 4, ground := Ground.data }], guard := none }) (v := .pointer (some ⟨ab, ao + 32, none⟩)) rfl (by kernel_rfl) (by kernel_rfl) (by kernel_rfl) (fun _ _ _ h => h) (Or.inl ⟨by rfl, by intro w hS; (go_simp <;> (intro h; exfalso; omega))⟩) hHeld ?_
  try simp only [Act.put, List.setIfInBounds_toArray, List.set_cons_zero, List.set_cons_succ]
  refine wpAnyH_take (i := 3) (oi := { dst := some 69, op := Op.load 29 (Operand.tmp 68), type := 29, pos := "outright.go:81", after := #[{ on := 2, ground := Ground.data }], guard := none }) (v := .agg (ints .u8 a0).toArray) rfl (by kernel_rfl) (by kernel_rfl) (by kernel_rfl) (fun _ _ _ h => h) (yieldsIf_load_mid (by rfl) 29 _ rfl ab (ao) rfl (ints .u8 a0) _ (fun w hS => (rng_below R0 hS.1 hab)) Try.underlying29 rfl (by rw [ints_len, e0]; rfl)) hHeld ?_
  try simp only [Act.put, List.setIfInBounds_toArray, List.set_cons_zero, List.set_cons_succ]
  refine wpAnyH_take (i := 6) (oi := { dst := some 72, op := Op.load 29 (Operand.tmp 71), type := 29, pos := "outright.go:81", after := #[{ on := 5, ground := Ground.data }], guard := none }) (v := .agg (ints .u8 a1).toArray) rfl (by kernel_rfl) (by kernel_rfl) (by kernel_rfl) (fun _ _ _ h => h) (yieldsIf_load_mid (by rfl) 29 _ rfl ab (ao + 32) rfl (ints .u8 a1) _ (fun w hS => (rng_below R1 hS.1 hab)) Try.underlying29 rfl (by rw [ints_len, e1]; rfl)) hHeld ?_
  try simp only [Act.put, List.setIfInBounds_toArray, List.set_cons_zero, List.set_cons_succ]
  refine wpAnyH_ready (rs := [7]) (by kernel_rfl) (by simp) ?_
  refine (AllReadyH.cons (o := { dst := some 73, op := Op.call { callee := Callee.value (Operand.func 8), args := #[Operand.tmp 66, Operand.tmp 69, Operand.tmp 72], argTypes := #[3, 29, 29] }, type := 24, pos := "outright.go:81", after := #[{ on := 0, ground := Ground.data }, { on := 3, ground := Ground.data }, { on := 6, ground := Ground.data }], guard := none }) rfl (fun K hK => ?_) AllReadyH.nil)
  go_simp
  go_at_call 8
  refine (KP.out _).mono ?_
  rintro e w4 ⟨v, rfl, hO5, hb4⟩
  obtain ⟨gp, cp, rfl, cP, sP, bP⟩ := hO5.pos (by omega)
  rw [hP0] at cP
  rw [hPl]
  have sX := sX.below hb4 (Nat.le_refl _)
  have d3 := d3
  go_wp2_with fail
  refine hK.out _ _ (DR.call hHeld hb4) (fun hHeld2 => ?_)
  clear hK K hHeld
  have hHeld := hHeld2
  clear hHeld2
  try simp only [Act.put, List.setIfInBounds_toArray, List.set_cons_zero, List.set_cons_succ]
  refine wpAnyH_take (i := 8) (oi := { dst := some 15, op := Op.assign (Operand.tmp 73), type := 24, pos := "outright.go:81", after := #[{ on := 7, ground := Ground.data }, { on := 7, ground := Ground.chain }, { on := 0, ground := Ground.phase }, { on := 1, ground := Ground.phase }, { on := 2, ground := Ground.phase }, { on := 3, ground := Ground.phase }, { on := 4, ground := Ground.phase }, { on := 5, ground := Ground.phase }, { on := 6, ground := Ground.phase }, { on := 7, ground := Ground.phase }], guard := none }) (v := .slice (some ⟨gp, 0, none⟩) (1 + 2 * m) cp) rfl (by kernel_rfl) (by kernel_rfl) (by kernel_rfl) (fun _ _ _ h => h) (Or.inl ⟨by rfl, by intro w hS; go_simp⟩) hHeld ?_
  try simp only [Act.put, List.setIfInBounds_toArray, List.set_cons_zero, List.set_cons_succ]
  refine wpAnyH_done (by kernel_rfl) ?_ _
  refine NoPanic.normal ?_
  have d4 := hHeld
  clear hHeld
  go_wp2
  have sX : Src w4.drew (some ⟨gx, 0, none⟩) cx X := sX
  have sP : Src w4.drew (some ⟨gp, 0, none⟩) cp P := sP
  refine wp_region_noPanic ?_
  refine wp_region_held_drew (S := (fun w' => DR w w' [(w.heap.size + 1, ls, 23), (w.heap.size, ks, 23)])) (by kernel_rfl) d4.drew (fun hHeld => ?_)
  refine wpAnyH_take (i := 0) (oi := { dst := some 74, op := Op.move (Operand.tmp 0), type := 3, pos := "outright.go:82", after := #[], guard := none }) (v := .int .i64 k) rfl (by kernel_rfl) (by kernel_rfl) (by kernel_rfl) (fun _ _ _ h => h) (Or.inl ⟨by rfl, by intro w hS; go_simp⟩) hHeld ?_
  try simp only [Act.put, List.setIfInBounds_toArray, List.set_cons_zero, List.set_cons_succ]
  refine wpAnyH_take (i := 1) (oi := { dst := some 75, op := Op.move (Operand.tmp 5), type := 25, pos := "outright.go:82", after := #[], guard := none }) (v := .slice (some ⟨ab, ao, none⟩) na ca) rfl (by kernel_rfl) (by kernel_rfl) (by kernel_rfl) (fun _ _ _ h => h) (Or.inl ⟨by rfl, by intro w hS; go_simp⟩) hHeld ?_
  try simp only [Act.put, List.setIfInBounds_toArray, List.set_cons_zero, List.set_cons_succ]
  refine wpAnyH_take (i := 4) (oi := { dst := some 78, op := Op.move (Operand.tmp 5), type := 25, pos := "outright.go:82", after := #[], guard := none }) (v := .slice (some ⟨ab, ao, none⟩) na ca) rfl (by kernel_rfl) (by kernel_rfl) (by kernel_rfl) (fun _ _ _ h => h) (Or.inl ⟨by rfl, by intro w hS; go_simp⟩) hHeld ?_
  try simp only [Act.put, List.setIfInBounds_toArray, List.set_cons_zero, List.set_cons_succ]
  refine wpAnyH_take (i := 2) (oi := { dst := some 76, op := Op.indexAddr 25 (Operand.tmp 75) (Operand.const (Value.int IntKind.i64 2)), type := 0, pos := "outright.go:82", after := #[{ on := 1, ground := Ground.data }], guard := none }) (v := .pointer (some ⟨ab, ao + 64, none⟩)) rfl (by kernel_rfl) (by kernel_rfl) (by kernel_rfl) (fun _ _ _ h => h) (Or.inl ⟨by rfl, by intro w hS; (go_simp <;> (intro h; exfalso; omega))⟩) hHeld ?_
  try simp only [Act.put, List.setIfInBounds_toArray, List.set_cons_zero, List.set_cons_succ]
  refine wpAnyH_take (i := 5) (oi := { dst := some 79, op := Op.indexAddr 25 (Operand.tmp 78) (Operand.const (Value.int IntKind.i64 3)), type := 0, pos := "outright.go:82", after := #[{ on := 4, ground := Ground.data }], guard := none }) (v := .pointer (some ⟨ab, ao + 96, none⟩)) rfl (by kernel_rfl) (by kernel_rfl) (by kernel_rfl) (fun _ _ _ h => h) (Or.inl ⟨by rfl, by intro w hS; (go_simp <;> (intro h; exfalso; omega))⟩) hHeld ?_
  try simp only [Act.put, List.setIfInBounds_toArray, List.set_cons_zero, List.set_cons_succ]
  refine wpAnyH_take (i := 3) (oi := { dst := some 77, op := Op.load 29 (Operand.tmp 76), type := 29, pos := "outright.go:82", after := #[{ on := 2, ground := Ground.data }], guard := none }) (v := .agg (ints .u8 a2).toArray) rfl (by kernel_rfl) (by kernel_rfl) (by kernel_rfl) (fun _ _ _ h => h) (yieldsIf_load_mid (by rfl) 29 _ rfl ab (ao + 64) rfl (ints .u8 a2) _ (fun w hS => (rng_below R2 hS.1 hab)) Try.underlying29 rfl (by rw [ints_len, e2]; rfl)) hHeld ?_
  try simp only [Act.put, List.setIfInBounds_toArray, List.set_cons_zero, List.set_cons_succ]
  refine wpAnyH_take (i := 6) (oi := { dst := some 80, op := Op.load 29 (Operand.tmp 79), type := 29, pos := "outright.go:82", after := #[{ on := 5, ground := Ground.data }], guard := none }) (v := .agg (ints .u8 a3).toArray) rfl (by kernel_rfl) (by kernel_rfl) (by kernel_rfl) (fun _ _ _ h => h) (yieldsIf_load_mid (by rfl) 29 _ rfl ab (ao + 96) rfl (ints .u8 a3) _ (fun w hS => (rng_below R3 hS.1 hab)) Try.underlying29 rfl (by rw [ints_len, e3]; rfl)) hHeld ?_
  try simp only [Act.put, List.setIfInBounds_toArray, List.set_cons_zero, List.set_cons_succ]
  refine wpAnyH_ready (rs := [7]) (by kernel_rfl) (by simp) ?_
  refine (AllReadyH.cons (o := { dst := some 81, op := Op.call { callee := Callee.value (Operand.func 8), args := #[Operand.tmp 74, Operand.tmp 77, Operand.tmp 80], argTypes := #[3, 29, 29] }, type := 24, pos := "outright.go:82", after := #[{ on := 0, ground := Ground.data }, { on := 3, ground := Ground.data }, { on := 6, ground := Ground.data }], guard := none }) rfl (fun K hK => ?_) AllReadyH.nil)
  go_simp
  go_at_call 8
  refine (KQ.out _).mono ?_
  rintro e w4 ⟨v, rfl, hO6, hb4⟩
  obtain ⟨gq, cq, rfl, cQ, sQ, bQ⟩ := hO6.pos (by omega)
  rw [hQ0] at cQ
  rw [hQl]
  have sX := sX.below hb4 (Nat.le_refl _)
  have sP := sP.below hb4 (Nat.le_refl _)
  have cP := (hb4.cell (p := ⟨gp, 0, none⟩) bP).trans cP
  go_wp2_with fail
  refine hK.out _ _ (DR.call hHeld hb4) (fun hHeld2 => ?_)
  clear hK K hHeld
  have hHeld := hHeld2
  clear hHeld2
  try simp only [Act.put, List.setIfInBounds_toArray, List.set_cons_zero, List.set_cons_succ]
  refine wpAnyH_take (i := 8) (oi := { dst := some 16, op := Op.assign (Operand.tmp 81), type := 24, pos := "outright.go:82", after := #[{ on := 7, ground := Ground.data }, { on := 7, ground := Ground.chain }, { on := 0, ground := Ground.phase }, { on := 1, ground := Ground.phase }, { on := 2, ground := Ground.phase }, { on := 3, ground := Ground.phase }, { on := 4, ground := Ground.phase }, { on := 5, ground := Ground.phase }, { on := 6, ground := Ground.phase }, { on := 7, ground := Ground.phase }], guard := none }) (v := .slice (some ⟨gq, 0, none⟩) (1 + 2 * m) cq) rfl (by kernel_rfl) (by kernel_rfl) (by kernel_rfl) (fun _ _ _ h => h) (Or.inl ⟨by rfl, by intro w hS; go_simp⟩) hHeld ?_
  try simp only [Act.put, List.setIfInBounds_toArray, List.set_cons_zero, List.set_cons_succ]
  refine wpAnyH_done (by kernel_rfl) ?_ _
  refine NoPanic.normal ?_
  have d5 := hHeld
  clear hHeld
  go_wp2_with (first | (go_at_call 9; refine (KW.out _).mono ?_; rintro e w8 ⟨rfl, hw8⟩; obtain rfl := hw8.symm))
  have sX : Src w4.drew (some ⟨gx, 0, none⟩) cx X := sX
  have sP : Src w4.drew (some ⟨gp, 0, none⟩) cp P := sP
  have sQ : Src w4.drew (some ⟨gq, 0, none⟩) cq Q := sQ
  refine wp_region_noPanic ?_
  refine wp_region_held_drew (S := (fun w' => DR w w' [(w.heap.size + 1, ls, 23), (w.heap.size, ks, 23)])) (by kernel_rfl) d5.drew (fun hHeld => ?_)
  refine wpAnyH_take (i := 0) (oi := { dst := some 110, op := Op.move (Operand.tmp 5), type := 25, pos := "outright.go:87", after := #[], guard := none }) (v := .slice (some ⟨ab, ao, none⟩) na ca) rfl (by kernel_rfl) (by kernel_rfl) (by kernel_rfl) (fun _ _ _ h => h) (Or.inl ⟨by rfl, by intro w hS; go_simp⟩) hHeld ?_
  try simp only [Act.put, List.setIfInBounds_toArray, List.set_cons_zero, List.set_cons_succ]
  refine wpAnyH_take (i := 3) (oi := { dst := some 113, op := Op.move (Operand.tmp 0), type := 3, pos := "outright.go:87", after := #[], guard := none }) (v := .int .i64 k) rfl (by kernel_rfl) (by kernel_rfl) (by kernel_rfl) (fun _ _ _ h => h) (Or.inl ⟨by rfl, by intro w hS; go_simp⟩) hHeld ?_
  try simp only [Act.put, List.setIfInBounds_toArray, List.set_cons_zero, List.set_cons_succ]
  refine wpAnyH_take (i := 5) (oi := { dst := some 115, op := Op.move (Operand.tmp 5), type := 25, pos := "outright.go:87", after := #[], guard := none }) (v := .slice (some ⟨ab, ao, none⟩) na ca) rfl (by kernel_rfl) (by kernel_rfl) (by kernel_rfl) (fun _ _ _ h => h) (Or.inl ⟨by rfl, by intro w hS; go_simp⟩) hHeld ?_
  try simp only [Act.put, List.setIfInBounds_toArray, List.set_cons_zero, List.set_cons_succ]
  refine wpAnyH_take (i := 8) (oi := { dst := some 118, op := Op.move (Operand.tmp 0), type := 3, pos := "outright.go:87", after := #[], guard := none }) (v := .int .i64 k) rfl (by kernel_rfl) (by kernel_rfl) (by kernel_rfl) (fun _ _ _ h => h) (Or.inl ⟨by rfl, by intro w hS; go_simp⟩) hHeld ?_
  try simp only [Act.put, List.setIfInBounds_toArray, List.set_cons_zero, List.set_cons_succ]
  refine wpAnyH_take (i := 1) (oi := { dst := some 111, op := Op.indexAddr 25 (Operand.tmp 110) (Operand.const (Value.int IntKind.i64 0)), type := 0, pos := "outright.go:87", after := #[{ on := 0, ground := Ground.data }], guard := none }) (v := .pointer (some ⟨ab, ao, none⟩)) rfl (by kernel_rfl) (by kernel_rfl) (by kernel_rfl) (fun _ _ _ h => h) (Or.inl ⟨by rfl, by intro w hS; (go_simp <;> (intro h; exfalso; omega))⟩) hHeld ?_
  try simp only [Act.put, List.setIfInBounds_toArray, List.set_cons_zero, List.set_cons_succ]
  refine wpAnyH_take (i := 6) (oi := { dst := some 116, op := Op.indexAddr 25 (Operand.tmp 115) (Operand.const (Value.int IntKind.i64 2)), type := 0, pos := "outright.go:87", after := #[{ on := 5, ground := Ground.data }], guard := none }) (v := .pointer (some ⟨ab, ao + 64, none⟩)) rfl (by kernel_rfl) (by kernel_rfl) (by kernel_rfl) (fun _ _ _ h => h) (Or.inl ⟨by rfl, by intro w hS; (go_simp <;> (intro h; exfalso; omega))⟩) hHeld ?_
  try simp only [Act.put, List.setIfInBounds_toArray, List.set_cons_zero, List.set_cons_succ]
  refine wpAnyH_take (i := 2) (oi := { dst := some 112, op := Op.load 29 (Operand.tmp 111), type := 29, pos := "outright.go:87", after := #[{ on := 1, ground := Ground.data }], guard := none }) (v := .agg (ints .u8 a0).toArray) rfl (by kernel_rfl) (by kernel_rfl) (by kernel_rfl) (fun _ _ _ h => h) (yieldsIf_load_mid (by rfl) 29 _ rfl ab (ao) rfl (ints .u8 a0) _ (fun w hS => (rng_below R0 hS.1 hab)) Try.underlying29 rfl (by rw [ints_len, e0]; rfl)) hHeld ?_
  try simp only [Act.put, List.setIfInBounds_toArray, List.set_cons_zero, List.set_cons_succ]
  refine wpAnyH_take (i := 7) (oi := { dst := some 117, op := Op.load 29 (Operand.tmp 116), type := 29, pos := "outright.go:87", after := #[{ on := 6, ground := Ground.data }], guard := none }) (v := .agg (ints .u8 a2).toArray) rfl (by kernel_rfl) (by kernel_rfl) (by kernel_rfl) (fun _ _ _ h => h) (yieldsIf_load_mid (by rfl) 29 _ rfl ab (ao + 64) rfl (ints .u8 a2) _ (fun w hS => (rng_below R2 hS.1 hab)) Try.underlying29 rfl (by rw [ints_len, e2]; rfl)) hHeld ?_
  try simp only [Act.put, List.setIfInBounds_toArray, List.set_cons_zero, List.set_cons_succ]
  refine wpAnyH_ready (rs := [4]) (by kernel_rfl) (by simp) ?_
  refine (AllReadyH.cons (o := { dst := some 114, op := Op.call { callee := Callee.value (Operand.func 10), args := #[Operand.tmp 112, Operand.tmp 113], argTypes := #[29, 3] }, type := 29, pos := "outright.go:87", after := #[{ on := 2, ground := Ground.data }, { on := 3, ground := Ground.data }], guard := none }) rfl (fun K hK => ?_) AllReadyH.nil)
  go_simp
  go_at_call 10
  refine (C0.out _).mono ?_
  rintro e w4 ⟨rfl, hb4⟩
  have sX := sX.below hb4 (Nat.le_refl _)
  have sP := sP.below hb4 (Nat.le_refl _)
  have sQ := sQ.below hb4 (Nat.le_refl _)
  go_wp2_with fail
  refine hK.out _ _ (DR.call hHeld hb4) (fun hHeld2 => ?_)
  clear hK K hHeld
  have hHeld := hHeld2
  clear hHeld2
  try simp only [Act.put, List.setIfInBounds_toArray, List.set_cons_zero, List.set_cons_succ]
  refine wpAnyH_ready (rs := [9]) (by kernel_rfl) (by simp) ?_
  refine (AllReadyH.cons (o := { dst := some 119, op := Op.call { callee := Callee.value (Operand.func 10), args := #[Operand.tmp 117, Operand.tmp 118], argTypes := #[29, 3] }, type := 29, pos := "outright.go:87", after := #[{ on := 7, ground := Ground.data }, { on := 8, ground := Ground.data }, { on := 4, ground := Ground.chain }], guard := none }) rfl (fun K hK => ?_) AllReadyH.nil)
  go_simp
  go_at_call 10
  refine (C2.out _).mono ?_
  rintro e w4 ⟨rfl, hb4⟩
  have sX := sX.below hb4 (Nat.le_refl _)
  have sP := sP.below hb4 (Nat.le_refl _)
  have sQ := sQ.below hb4 (Nat.le_refl _)
  rw [← HR.out]
  go_wp2_with fail
  refine hK.out _ _ (DR.call hHeld hb4) (fun hHeld2 => ?_)
  clear hK K hHeld
  have hHeld := hHeld2
  clear hHeld2
  try simp only [Act.put, List.setIfInBounds_toArray, List.set_cons_zero, List.set_cons_succ]
  refine wpAnyH_take (i := 10) (oi := { dst := some 120, op := Op.binOp BinOp.eql 29 (Operand.tmp 114) (Operand.tmp 119) 29, type := 4, pos := "outright.go:87", after := #[{ on := 4, ground := Ground.data }, { on := 9, ground := Ground.data }], guard := none }) (v := .bool true) rfl (by kernel_rfl) (by kernel_rfl) (by kernel_rfl) (fun _ _ _ h => h) (Or.inl ⟨by rfl, by intro w hS; go_simp⟩) hHeld ?_
  try simp only [Act.put, List.setIfInBounds_toArray, List.set_cons_zero, List.set_cons_succ]
  refine wpAnyH_take (i := 11) (oi := { dst := some 121, op := Op.move (Operand.tmp 120), type := 4, pos := "outright.go:87", after := #[{ on := 10, ground := Ground.data }, { on := 9, ground := Ground.chain }], guard := none }) (v := .bool true) rfl (by kernel_rfl) (by kernel_rfl) (by kernel_rfl) (fun _ _ _ h => h) (Or.inl ⟨by rfl, by intro w hS; go_simp⟩) hHeld ?_
  try simp only [Act.put, List.setIfInBounds_toArray, List.set_cons_zero, List.set_cons_succ]
  refine wpAnyH_take (i := 12) (oi := { dst := some 122, op := Op.move (Operand.tmp 5), type := 25, pos := "outright.go:87", after := #[{ on := 11, ground := Ground.guard }], guard := some (11, true) }) (v := .slice (some ⟨ab, ao, none⟩) na ca) rfl (by kernel_rfl) (by kernel_rfl) (by kernel_rfl) (fun _ _ _ h => h) (Or.inl ⟨by rfl, by intro w hS; go_simp⟩) hHeld ?_
  try simp only [Act.put, List.setIfInBounds_toArray, List.set_cons_zero, List.set_cons_succ]
  refine wpAnyH_take (i := 15) (oi := { dst := some 125, op := Op.move (Operand.tmp 0), type := 3, pos := "outright.go:87", after := #[{ on := 11, ground := Ground.guard }], guard := some (11, true) }) (v := .int .i64 k) rfl (by kernel_rfl) (by kernel_rfl) (by kernel_rfl) (fun _ _ _ h => h) (Or.inl ⟨by rfl, by intro w hS; go_simp⟩) hHeld ?_
  try simp only [Act.put, List.setIfInBounds_toArray, List.set_cons_zero, List.set_cons_succ]
  refine wpAnyH_take (i := 17) (oi := { dst := some 127, op := Op.move (Operand.tmp 5), type := 25, pos := "outright.go:87", after := #[{ on := 11, ground := Ground.guard }], guard := some (11, true) }) (v := .slice (some ⟨ab, ao, none⟩) na ca) rfl (by kernel_rfl) (by kernel_rfl) (by kernel_rfl) (fun _ _ _ h => h) (Or.inl ⟨by rfl, by intro w hS; go_simp⟩) hHeld ?_
  try simp only [Act.put, List.setIfInBounds_toArray, List.set_cons_zero, List.set_cons_succ]
  refine wpAnyH_take (i := 20) (oi := { dst := some 130, op := Op.move (Operand.tmp 0), type := 3, pos := "outright.go:87", after := #[{ on := 11, ground := Ground.guard }], guard := some (11, true) }) (v := .int .i64 k) rfl (by kernel_rfl) (by kernel_rfl) (by kernel_rfl) (fun _ _ _ h => h) (Or.inl ⟨by rfl, by intro w hS; go_simp⟩) hHeld ?_
  try simp only [Act.put, List.setIfInBounds_toArray, List.set_cons_zero, List.set_cons_succ]
  refine wpAnyH_take (i := 13) (oi := { dst := some 123, op := Op.indexAddr 25 (Operand.tmp 122) (Operand.const (Value.int IntKind.i64 1)), type := 0, pos := "outright.go:87", after := #[{ on := 12, ground := Ground.data }, { on := 11, ground := Ground.guard }], guard := some (11, true) }) (v := .pointer (some ⟨ab, ao + 32, none⟩)) rfl (by kernel_rfl) (by kernel_rfl) (by kernel_rfl) (fun _ _ _ h => h) (Or.inl ⟨by rfl, by intro w hS; (go_simp <;> (intro h; exfalso; omega))⟩) hHeld ?_
  try simp only [Act.put, List.setIfInBounds_toArray, List.set_cons_zero, List.set_cons_succ]
  refine wpAnyH_take (i := 18) (oi := { dst := some 128, op := Op.indexAddr 25 (Operand.tmp 127) (Operand.const (Value.int IntKind.i64 3)), type := 0, pos := "outright.go:87", after := #[{ on := 17, ground := Ground.data }, { on := 11, ground := Ground.guard }], guard := some (11, true) }) (v := .pointer (some ⟨ab, ao + 96, none⟩)) rfl (by kernel_rfl) (by kernel_rfl) (by kernel_rfl) (fun _ _ _ h => h) (Or.inl ⟨by rfl, by intro w hS; (go_simp <;> (intro h; exfalso; omega))⟩) hHeld ?_
  try simp only [Act.put, List.setIfInBounds_toArray, List.set_cons_zero, List.set_cons_succ]
  refine wpAnyH_take (i := 14) (oi := { dst := some 124, op := Op.load 29 (Operand.tmp 123), type := 29, pos := "outright.go:87", after := #[{ on := 13, ground := Ground.data }, { on := 11, ground := Ground.guard }], guard := some (11, true) }) (v := .agg (ints .u8 a1).toArray) rfl (by kernel_rfl) (by kernel_rfl) (by kernel_rfl) (fun _ _ _ h => h) (yieldsIf_load_mid (by rfl) 29 _ rfl ab (ao + 32) rfl (ints .u8 a1) _ (fun w hS => (rng_below R1 hS.1 hab)) Try.underlying29 rfl (by rw [ints_len, e1]; rfl)) hHeld ?_
  try simp only [Act.put, List.setIfInBounds_toArray, List.set_cons_zero, List.set_cons_succ]
  refine wpAnyH_take (i := 19) (oi := { dst := some 129, op := Op.load 29 (Operand.tmp 128), type := 29, pos := "outright.go:87", after := #[{ on := 18, ground := Ground.data }, { on := 11, ground := Ground.guard }], guard := some (11, true) }) (v := .agg (ints .u8 a3).toArray) rfl (by kernel_rfl) (by kernel_rfl) (by kernel_rfl) (fun _ _ _ h => h) (yieldsIf_load_mid (by rfl) 29 _ rfl ab (ao + 96) rfl (ints .u8 a3) _ (fun w hS => (rng_below R3 hS.1 hab)) Try.underlying29 rfl (by rw [ints_len, e3]; rfl)) hHeld ?_
  try simp only [Act.put, List.setIfInBounds_toArray, List.set_cons_zero, List.set_cons_succ]
  refine wpAnyH_ready (rs := [16]) (by kernel_rfl) (by simp) ?_
  refine (AllReadyH.cons (o := { dst := some 126, op := Op.call { callee := Callee.value (Operand.func 10), args := #[Operand.tmp 124, Operand.tmp 125], argTypes := #[29, 3] }, type := 29, pos := "outright.go:87", after := #[{ on := 14, ground := Ground.data }, { on := 15, ground := Ground.data }, { on := 11, ground := Ground.chain }, { on := 11, ground := Ground.guard }], guard := some (11, true) }) rfl (fun K hK => ?_) AllReadyH.nil)
  go_simp
  go_at_call 10
  refine (C1.out _).mono ?_
  rintro e w4 ⟨rfl, hb4⟩
  have sX := sX.below hb4 (Nat.le_refl _)
  have sP := sP.below hb4 (Nat.le_refl _)
  have sQ := sQ.below hb4 (Nat.le_refl _)
  go_wp2_with fail
  refine hK.out _ _ (DR.call hHeld hb4) (fun hHeld2 => ?_)
  clear hK K hHeld
  have hHeld := hHeld2
  clear hHeld2
  try simp only [Act.put, List.setIfInBounds_toArray, List.set_cons_zero, List.set_cons_succ]
  refine wpAnyH_ready (rs := [21]) (by kernel_rfl) (by simp) ?_
  refine (AllReadyH.cons (o := { dst := some 131, op := Op.call { callee := Callee.value (Operand.func 10), args := #[Operand.tmp 129, Operand.tmp 130], argTypes := #[29, 3] }, type := 29, pos := "outright.go:87", after := #[{ on := 19, ground := Ground.data }, { on := 20, ground := Ground.data }, { on := 16, ground := Ground.chain }, { on := 11, ground := Ground.guard }], guard := some (11, true) }) rfl (fun K hK => ?_) AllReadyH.nil)
  go_simp
  go_at_call 10
  refine (C3.out _).mono ?_
  rintro e w4 ⟨rfl, hb4⟩
  have sX := sX.below hb4 (Nat.le_refl _)
  have sP := sP.below hb4 (Nat.le_refl _)
  have sQ := sQ.below hb4 (Nat.le_refl _)
  go_wp2_with fail
  refine hK.out _ _ (DR.call hHeld hb4) (fun hHeld2 => ?_)
  clear hK K hHeld
  have hHeld := hHeld2
  clear hHeld2
  try simp only [Act.put, List.setIfInBounds_toArray, List.set_cons_zero, List.set_cons_succ]
  refine wpAnyH_take (i := 22) (oi := { dst := some 132, op := Op.binOp BinOp.eql 29 (Operand.tmp 126) (Operand.tmp 131) 29, type := 4, pos := "outright.go:87", after := #[{ on := 16, ground := Ground.data }, { on := 21, ground := Ground.data }, { on := 11, ground := Ground.guard }], guard := some (11, true) }) (v := .bool C) rfl (by kernel_rfl) (by kernel_rfl) (by kernel_rfl) (fun _ _ _ h => h) (Or.inl ⟨by rfl, by intro w hS; go_simp⟩) hHeld ?_
  try simp only [Act.put, List.setIfInBounds_toArray, List.set_cons_zero, List.set_cons_succ]
  refine wpAnyH_take (i := 23) (oi := { dst := some 133, op := Op.pick (Operand.tmp 121) (Operand.tmp 132) (Operand.const (Value.bool false)), type := 4, pos := "outright.go:87", after := #[{ on := 11, ground := Ground.data }, { on := 22, ground := Ground.data }], guard := none }) (v := .bool C) rfl (by kernel_rfl) (by kernel_rfl) (by kernel_rfl) (fun _ _ _ h => h) (Or.inl ⟨by rfl, by intro w hS; go_simp⟩) hHeld ?_
  try simp only [Act.put, List.setIfInBounds_toArray, List.set_cons_zero, List.set_cons_succ]
  refine wpAnyH_take (i := 24) (oi := { dst := some 18, op := Op.assign (Operand.tmp 133), type := 4, pos := "outright.go:87", after := #[{ on := 23, ground := Ground.data }, { on := 21, ground := Ground.chain }, { on := 0, ground := Ground.phase }, { on := 1, ground := Ground.phase }, { on := 2, ground := Ground.phase }, { on := 3, ground := Ground.phase }, { on := 4, ground := Ground.phase }, { on := 5, ground := Ground.phase }, { on := 6, ground := Ground.phase }, { on := 7, ground := Ground.phase }, { on := 8, ground := Ground.phase }, { on := 9, ground := Ground.phase }, { on := 10, ground := Ground.phase }, { on := 11, ground := Ground.phase }, { on := 12, ground := Ground.phase }, { on := 13, ground := Ground.phase }, { on := 14, ground := Ground.phase }, { on := 15, ground := Ground.phase }, { on := 16, ground := Ground.phase }, { on := 17, ground := Ground.phase }, { on := 18, ground := Ground.phase }, { on := 19, ground := Ground.phase }, { on := 20, ground := Ground.phase }, { on := 21, ground := Ground.phase }, { on := 22, ground := Ground.phase }, { on := 23, ground := Ground.phase }], guard := none }) (v := .bool C) rfl (by kernel_rfl) (by kernel_rfl) (by kernel_rfl) (fun _ _ _ h => h) (Or.inl ⟨by rfl, by intro w hS; go_simp⟩) hHeld ?_
  try simp only [Act.put, List.setIfInBounds_toArray, List.set_cons_zero, List.set_cons_succ]
  refine wpAnyH_done (by kernel_rfl) ?_ _
  refine NoPanic.normal ?_
  have d6 := hHeld
  clear hHeld
  have KS1 := hid (fun w1 (h1 : Src w1 (some ⟨gp, 0, none⟩) cp P) (h2 : Src w1 (some ⟨gq, 0, none⟩) cq Q) => sameBytes_any w1 P Q (some ⟨gp, 0, none⟩) (some ⟨gq, 0, none⟩) cp cq h1 h2)
  rw [HPQ.out, hPl, hQl] at KS1
  have KS2 := hid (fun w1 (h1 : Src w1 (some ⟨gx, 0, none⟩) cx X) (h2 : Src w1 (some ⟨gp, 0, none⟩) cp P) => sameBytes_any w1 X P (some ⟨gx, 0, none⟩) (some ⟨gp, 0, none⟩) cx cp h1 h2)
  rw [nXP.out, hPl, hXl] at KS2
  have KS3 := hid (fun w1 sp (h1 : Src w1 (some ⟨gx, 0, none⟩) cx X) (h2 : Src w1 sp 1 [2]) => sameBytes_any w1 X [2] (some ⟨gx, 0, none⟩) sp cx 1 h1 h2)
  rw [nX2.out, hXl, show ([2] : List Int).length = 1 from rfl] at KS3
  have KS4 := hid (fun w1 sp (h1 : Src w1 (some ⟨gp, 0, none⟩) cp P) (h2 : Src w1 sp 1 [2]) => sameBytes_any w1 P [2] (some ⟨gp, 0, none⟩) sp cp 1 h1 h2)
  rw [nP2.out, hPl, show ([2] : List Int).length = 1 from rfl] at KS4
  clear HC
  cases C
  · go_wp2_with fail
    refine (KS1.out _ sP sQ).mono ?_
    rintro e wa ⟨rfl, hba⟩
    have d7 := d6.call hba
    have sX := sX.below hba (Nat.le_refl _)
    have sP := sP.below hba (Nat.le_refl _)
    clear KS1 sQ
    go_wp2_with fail
    refine (KS2.out _ sX sP).mono ?_
    rintro e wb ⟨rfl, hbb⟩
    have d8 := d7.call hbb
    have sX := sX.below hbb (Nat.le_refl _)
    have sP := sP.below hbb (Nat.le_refl _)
    clear KS2
    go_wp2_with fail
    show Calls Try.prog 7 _ (wb.alloc (.cells (ints .u8 ([2] ++ [])).toArray 5)) _
    have sT := src_row (hnew wb (.cells (ints .u8 ([2] ++ [])).toArray 5)) 1 (by simp) (by simp [maxLen])
    have sX := sX.below ((Below.refl wb.heap.size wb).alloc (Nat.le_refl _) (.cells (ints .u8 ([2] ++ [])).toArray 5)) (Nat.le_refl _)
    have sP := sP.below ((Below.refl wb.heap.size wb).alloc (Nat.le_refl _) (.cells (ints .u8 ([2] ++ [])).toArray 5)) (Nat.le_refl _)
    have d9 := d8.other (.cells (ints .u8 ([2] ++ [])).toArray 5)
    generalize wb.alloc (.cells (ints .u8 ([2] ++ [])).toArray 5) = wc at *
    refine (KS3.out _ _ sX sT).mono ?_
    rintro e wd ⟨rfl, hbd⟩
    have da := d9.call hbd
    have sP := sP.below hbd (Nat.le_refl _)
    clear KS3 sT
    go_wp2_with fail
    show Calls Try.prog 7 _ (wd.alloc (.cells (ints .u8 ([2] ++ [])).toArray 5)) _
    have sT := src_row (hnew wd (.cells (ints .u8 ([2] ++ [])).toArray 5)) 1 (by simp) (by simp [maxLen])
    have sP := sP.below ((Below.refl wd.heap.size wd).alloc (Nat.le_refl _) (.cells (ints .u8 ([2] ++ [])).toArray 5)) (Nat.le_refl _)
    have db := da.other (.cells (ints .u8 ([2] ++ [])).toArray 5)
    generalize wd.alloc (.cells (ints .u8 ([2] ++ [])).toArray 5) = we at *
    refine (KS4.out _ _ sP sT).mono ?_
    rintro e wf ⟨rfl, hbf⟩
    have dc := db.call hbf
    go_wp2_with fail
    go_ret
    exact ⟨rfl, dc.1⟩
  · go_wp2_with fail
    refine (KS1.out _ sP sQ).mono ?_
    rintro e wa ⟨rfl, hba⟩
    have d7 := d6.call hba
    have sX := sX.below hba (Nat.le_refl _)
    have sP := sP.below hba (Nat.le_refl _)
    clear KS1 sQ
    go_wp2_with fail
    refine (KS2.out _ sX sP).mono ?_
    rintro e wb ⟨rfl, hbb⟩
    have d8 := d7.call hbb
    have sX := sX.below hbb (Nat.le_refl _)
    have sP := sP.below hbb (Nat.le_refl _)
    clear KS2
    go_wp2_with fail
    show Calls Try.prog 7 _ (wb.alloc (.cells (ints .u8 ([2] ++ [])).toArray 5)) _
    have sT := src_row (hnew wb (.cells (ints .u8 ([2] ++ [])).toArray 5)) 1 (by simp) (by simp [maxLen])
    have sX := sX.below ((Below.refl wb.heap.size wb).alloc (Nat.le_refl _) (.cells (ints .u8 ([2] ++ [])).toArray 5)) (Nat.le_refl _)
    have sP := sP.below ((Below.refl wb.heap.size wb).alloc (Nat.le_refl _) (.cells (ints .u8 ([2] ++ [])).toArray 5)) (Nat.le_refl _)
    have d9 := d8.other (.cells (ints .u8 ([2] ++ [])).toArray 5)
    generalize wb.alloc (.cells (ints .u8 ([2] ++ [])).toArray 5) = wc at *
    refine (KS3.out _ _ sX sT).mono ?_
    rintro e wd ⟨rfl, hbd⟩
    have da := d9.call hbd
    have sP := sP.below hbd (Nat.le_refl _)
    clear KS3 sT
    go_wp2_with fail
    show Calls Try.prog 7 _ (wd.alloc (.cells (ints .u8 ([2] ++ [])).toArray 5)) _
    have sT := src_row (hnew wd (.cells (ints .u8 ([2] ++ [])).toArray 5)) 1 (by simp) (by simp [maxLen])
    have sP := sP.below ((Below.refl wd.heap.size wd).alloc (Nat.le_refl _) (.cells (ints .u8 ([2] ++ [])).toArray 5)) (Nat.le_refl _)
    have db := da.other (.cells (ints .u8 ([2] ++ [])).toArray 5)
    generalize wd.alloc (.cells (ints .u8 ([2] ++ [])).toArray 5) = we at *
    refine (KS4.out _ _ sP sT).mono ?_
    rintro e wf ⟨rfl, hbf⟩
    have dc := db.call hbf
    go_wp2_with fail
    go_ret
    exact ⟨rfl, dc.1⟩
end Go.Proofs.Ytibpffoencjlcaa
