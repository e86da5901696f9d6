import Derived.Test.YtipbbmbkjcpjbaaDoorMx9
import Derived.Test.YtipbbmbkjcpjbaaDoorXf9
namespace Go.Proofs.YtipbbmbkjcpjbaaDoor
set_option linter.unusedVariables false
set_option linter.unusedSimpArgs false
open Go.RowKit
attribute [local go_sem ↓] Go.wp_at_zero Go.wp_at_succ

theorem stepD_cut (k : Int) (ks : List Int) (h : Nat) (d : List Int) (hd : d.length = 32) : stepD k ks h (cutZ d (kept k)) = stepD k ks h d := by
  unfold stepD; split
  · exact branchD_cutl k d _ hd
  · exact branchD_cutr k _ d hd
theorem climbTo_cut (k : Int) (ks : List Int) (a : Nat) (d : List Int) (hd : d.length = 32) : ∀ j, climbTo k ks a (cutZ d (kept k)) (j + 1) = climbTo k ks a d (j + 1)
  | 0 => by show stepD _ _ _ _ = stepD _ _ _ _; exact stepD_cut k ks _ d hd
  | j + 1 => by show stepD _ _ _ (climbTo k ks a _ (j + 1)) = stepD _ _ _ (climbTo k ks a _ (j + 1)); rw [climbTo_cut k ks a d hd j]
/-- What the law works out. -/
theorem climbD_want (k : Int) (ks : List Int) (a : Nat) (d : List Int) (c : Nat) (hd : d.length = 32) : climbD k ks a d c = climbTo k ks a (cutZ d (kept k)) (c - a) := by
  unfold climbD; split
  · rw [show c - a = 0 by omega]; rfl
  · obtain ⟨j, hj⟩ : ∃ j, c - a = j + 1 := ⟨c - a - 1, by omega⟩
    rw [hj, climbTo_cut k ks a d hd]
set_option maxRecDepth 100000 in
set_option maxHeartbeats 4000000 in
theorem numbers_climb (w : World) (hG : Gb w) (o : NOp) (ok : NOk o) (hkd : o.kd = 8) :
    Calls Tryd.prog 11 #[.agg (opC o).toArray] w fun e w' => e = .returned (.bool true) ∧ Below w.heap.size w w' := by
  have d0 := NR.box (w := w) ok
  have c0 := d0.ck
  rw [hkd] at c0
  have KC := hid (fun w1 (h : Glob w1) => climb_any w1 h o.wd o.k ok.k ok.yk o.n o.m o.d ok.d)
  have KX := hid (fun w1 (h : Gb w1) => xclimb_any w1 h o.wd o.k ok.k ok.yk o.n o.m o.d ok.d)
  rw [← climbD_want o.wd o.k (hgt o.n) o.d (hgt o.m) ok.d] at KX
  have hDl := climbD_len o.wd o.k (hgt o.n) o.d (hgt o.m) ok.d
  generalize climbD o.wd o.k (hgt o.n) o.d (hgt o.m) = D at *
  have q := eqD_self D hDl
  have gD := Tryd.guardD
  go_enter Tryd.func11, Tryd.ntmps11
  go_wp2
  generalize w.alloc (.cells (opC o).toArray 32) = w1 at *
  refine wp_region_noPanic ?_
  refine wp_region_held_drew (S := (fun w' => NR w w' w.heap.size o)) (by kernel_rfl) d0.drew (fun hHeld => ?_)
  refine wpAnyH_take (i := 0) (oi := { dst := some 52, op := Op.fieldAddr 32 (Operand.tmp 1) 1, type := 0, pos := "law.go:110", after := #[], guard := none }) (v := .pointer (some ⟨w.heap.size, 1, none⟩)) rfl (by kernel_rfl) (by kernel_rfl) (by kernel_rfl) (fun _ _ _ h => h) (Or.inl ⟨by rfl, by intro w hS; go_simp⟩) hHeld ?_
  try simp only [Act.put, List.setIfInBounds_toArray, List.set_cons_zero, List.set_cons_succ]
  refine wpAnyH_take (i := 2) (oi := { dst := some 54, op := Op.fieldAddr 32 (Operand.tmp 1) 4, type := 0, pos := "law.go:110", after := #[], guard := none }) (v := .pointer (some ⟨w.heap.size, 4, none⟩)) rfl (by kernel_rfl) (by kernel_rfl) (by kernel_rfl) (fun _ _ _ h => h) (Or.inl ⟨by rfl, by intro w hS; go_simp⟩) hHeld ?_
  try simp only [Act.put, List.setIfInBounds_toArray, List.set_cons_zero, List.set_cons_succ]
  refine wpAnyH_take (i := 4) (oi := { dst := some 56, op := Op.fieldAddr 32 (Operand.tmp 1) 2, type := 0, pos := "law.go:110", after := #[], guard := none }) (v := .pointer (some ⟨w.heap.size, 2, none⟩)) rfl (by kernel_rfl) (by kernel_rfl) (by kernel_rfl) (fun _ _ _ h => h) (Or.inl ⟨by rfl, by intro w hS; go_simp⟩) hHeld ?_
  try simp only [Act.put, List.setIfInBounds_toArray, List.set_cons_zero, List.set_cons_succ]
  refine wpAnyH_take (i := 6) (oi := { dst := some 58, op := Op.fieldAddr 32 (Operand.tmp 1) 5, type := 0, pos := "law.go:110", after := #[], guard := none }) (v := .pointer (some ⟨w.heap.size, 36, none⟩)) rfl (by kernel_rfl) (by kernel_rfl) (by kernel_rfl) (fun _ _ _ h => h) (Or.inl ⟨by rfl, by intro w hS; go_simp⟩) hHeld ?_
  try simp only [Act.put, List.setIfInBounds_toArray, List.set_cons_zero, List.set_cons_succ]
  refine wpAnyH_take (i := 8) (oi := { dst := some 60, op := Op.fieldAddr 32 (Operand.tmp 1) 3, type := 0, pos := "law.go:110", after := #[], guard := none }) (v := .pointer (some ⟨w.heap.size, 3, none⟩)) rfl (by kernel_rfl) (by kernel_rfl) (by kernel_rfl) (fun _ _ _ h => h) (Or.inl ⟨by rfl, by intro w hS; go_simp⟩) hHeld ?_
  try simp only [Act.put, List.setIfInBounds_toArray, List.set_cons_zero, List.set_cons_succ]
  refine wpAnyH_take (i := 11) (oi := { dst := some 63, op := Op.fieldAddr 32 (Operand.tmp 1) 1, type := 0, pos := "law.go:110", after := #[], guard := none }) (v := .pointer (some ⟨w.heap.size, 1, none⟩)) rfl (by kernel_rfl) (by kernel_rfl) (by kernel_rfl) (fun _ _ _ h => h) (Or.inl ⟨by rfl, by intro w hS; go_simp⟩) hHeld ?_
  try simp only [Act.put, List.setIfInBounds_toArray, List.set_cons_zero, List.set_cons_succ]
  refine wpAnyH_take (i := 13) (oi := { dst := some 65, op := Op.fieldAddr 32 (Operand.tmp 1) 4, type := 0, pos := "law.go:110", after := #[], guard := none }) (v := .pointer (some ⟨w.heap.size, 4, none⟩)) rfl (by kernel_rfl) (by kernel_rfl) (by kernel_rfl) (fun _ _ _ h => h) (Or.inl ⟨by rfl, by intro w hS; go_simp⟩) hHeld ?_
  try simp only [Act.put, List.setIfInBounds_toArray, List.set_cons_zero, List.set_cons_succ]
  refine wpAnyH_take (i := 15) (oi := { dst := some 67, op := Op.fieldAddr 32 (Operand.tmp 1) 2, type := 0, pos := "law.go:110", after := #[], guard := none }) (v := .pointer (some ⟨w.heap.size, 2, none⟩)) rfl (by kernel_rfl) (by kernel_rfl) (by kernel_rfl) (fun _ _ _ h => h) (Or.inl ⟨by rfl, by intro w hS; go_simp⟩) hHeld ?_
  try simp only [Act.put, List.setIfInBounds_toArray, List.set_cons_zero, List.set_cons_succ]
  refine wpAnyH_take (i := 17) (oi := { dst := some 69, op := Op.fieldAddr 32 (Operand.tmp 1) 5, type := 0, pos := "law.go:110", after := #[], guard := none }) (v := .pointer (some ⟨w.heap.size, 36, none⟩)) rfl (by kernel_rfl) (by kernel_rfl) (by kernel_rfl) (fun _ _ _ h => h) (Or.inl ⟨by rfl, by intro w hS; go_simp⟩) hHeld ?_
  try simp only [Act.put, List.setIfInBounds_toArray, List.set_cons_zero, List.set_cons_succ]
  refine wpAnyH_take (i := 19) (oi := { dst := some 71, op := Op.fieldAddr 32 (Operand.tmp 1) 3, type := 0, pos := "law.go:110", after := #[], guard := none }) (v := .pointer (some ⟨w.heap.size, 3, none⟩)) rfl (by kernel_rfl) (by kernel_rfl) (by kernel_rfl) (fun _ _ _ h => h) (Or.inl ⟨by rfl, by intro w hS; go_simp⟩) hHeld ?_
  try simp only [Act.put, List.setIfInBounds_toArray, List.set_cons_zero, List.set_cons_succ]
  refine wpAnyH_take (i := 1) (oi := { dst := some 53, op := Op.load 3 (Operand.tmp 52), type := 3, pos := "law.go:110", after := #[{ on := 0, ground := Ground.data }], guard := none }) (v := .int .i64 o.wd) rfl (by kernel_rfl) (by kernel_rfl) (by kernel_rfl) (fun _ _ _ h => h) (Or.inl ⟨by rfl, by intro w hS; have hc := hS.cw; go_simp⟩) hHeld ?_
  try simp only [Act.put, List.setIfInBounds_toArray, List.set_cons_zero, List.set_cons_succ]
  refine wpAnyH_take (i := 3) (oi := { dst := some 55, op := Op.load 26 (Operand.tmp 54), type := 26, pos := "law.go:110", after := #[{ on := 2, ground := Ground.data }], guard := none }) (v := .agg (ints .u8 o.k).toArray) rfl (by kernel_rfl) (by kernel_rfl) (by kernel_rfl) (fun _ _ _ h => h) (yieldsIf_load_mid (by rfl) 26 _ rfl w.heap.size (4) rfl (ints .u8 o.k) _ (fun w hS => hS.rk) Tryd.underlying26 rfl (by rw [ints_len, ok.k]; rfl)) hHeld ?_
  try simp only [Act.put, List.setIfInBounds_toArray, List.set_cons_zero, List.set_cons_succ]
  refine wpAnyH_take (i := 5) (oi := { dst := some 57, op := Op.load 3 (Operand.tmp 56), type := 3, pos := "law.go:110", after := #[{ on := 4, ground := Ground.data }], guard := none }) (v := .int .i64 o.n) rfl (by kernel_rfl) (by kernel_rfl) (by kernel_rfl) (fun _ _ _ h => h) (Or.inl ⟨by rfl, by intro w hS; have hc := hS.cn; go_simp⟩) hHeld ?_
  try simp only [Act.put, List.setIfInBounds_toArray, List.set_cons_zero, List.set_cons_succ]
  refine wpAnyH_take (i := 7) (oi := { dst := some 59, op := Op.load 27 (Operand.tmp 58), type := 27, pos := "law.go:110", after := #[{ on := 6, ground := Ground.data }], guard := none }) (v := .agg (ints .u8 o.d).toArray) rfl (by kernel_rfl) (by kernel_rfl) (by kernel_rfl) (fun _ _ _ h => h) (yieldsIf_load_mid (by rfl) 27 _ rfl w.heap.size (36) rfl (ints .u8 o.d) _ (fun w hS => hS.rd) Tryd.underlying27 rfl (by rw [ints_len, ok.d]; rfl)) hHeld ?_
  try simp only [Act.put, List.setIfInBounds_toArray, List.set_cons_zero, List.set_cons_succ]
  refine wpAnyH_take (i := 9) (oi := { dst := some 61, op := Op.load 3 (Operand.tmp 60), type := 3, pos := "law.go:110", after := #[{ on := 8, ground := Ground.data }], guard := none }) (v := .int .i64 o.m) rfl (by kernel_rfl) (by kernel_rfl) (by kernel_rfl) (fun _ _ _ h => h) (Or.inl ⟨by rfl, by intro w hS; have hc := hS.cm; go_simp⟩) hHeld ?_
  try simp only [Act.put, List.setIfInBounds_toArray, List.set_cons_zero, List.set_cons_succ]
  refine wpAnyH_take (i := 12) (oi := { dst := some 64, op := Op.load 3 (Operand.tmp 63), type := 3, pos := "law.go:110", after := #[{ on := 11, ground := Ground.data }], guard := none }) (v := .int .i64 o.wd) rfl (by kernel_rfl) (by kernel_rfl) (by kernel_rfl) (fun _ _ _ h => h) (Or.inl ⟨by rfl, by intro w hS; have hc := hS.cw; go_simp⟩) hHeld ?_
  try simp only [Act.put, List.setIfInBounds_toArray, List.set_cons_zero, List.set_cons_succ]
  refine wpAnyH_take (i := 14) (oi := { dst := some 66, op := Op.load 26 (Operand.tmp 65), type := 26, pos := "law.go:110", after := #[{ on := 13, ground := Ground.data }], guard := none }) (v := .agg (ints .u8 o.k).toArray) rfl (by kernel_rfl) (by kernel_rfl) (by kernel_rfl) (fun _ _ _ h => h) (yieldsIf_load_mid (by rfl) 26 _ rfl w.heap.size (4) rfl (ints .u8 o.k) _ (fun w hS => hS.rk) Tryd.underlying26 rfl (by rw [ints_len, ok.k]; rfl)) hHeld ?_
  try simp only [Act.put, List.setIfInBounds_toArray, List.set_cons_zero, List.set_cons_succ]
  refine wpAnyH_take (i := 16) (oi := { dst := some 68, op := Op.load 3 (Operand.tmp 67), type := 3, pos := "law.go:110", after := #[{ on := 15, ground := Ground.data }], guard := none }) (v := .int .i64 o.n) rfl (by kernel_rfl) (by kernel_rfl) (by kernel_rfl) (fun _ _ _ h => h) (Or.inl ⟨by rfl, by intro w hS; have hc := hS.cn; go_simp⟩) hHeld ?_
  try simp only [Act.put, List.setIfInBounds_toArray, List.set_cons_zero, List.set_cons_succ]
  refine wpAnyH_take (i := 18) (oi := { dst := some 70, op := Op.load 27 (Operand.tmp 69), type := 27, pos := "law.go:110", after := #[{ on := 17, ground := Ground.data }], guard := none }) (v := .agg (ints .u8 o.d).toArray) rfl (by kernel_rfl) (by kernel_rfl) (by kernel_rfl) (fun _ _ _ h => h) (yieldsIf_load_mid (by rfl) 27 _ rfl w.heap.size (36) rfl (ints .u8 o.d) _ (fun w hS => hS.rd) Tryd.underlying27 rfl (by rw [ints_len, ok.d]; rfl)) hHeld ?_
  try simp only [Act.put, List.setIfInBounds_toArray, List.set_cons_zero, List.set_cons_succ]
  refine wpAnyH_take (i := 20) (oi := { dst := some 72, op := Op.load 3 (Operand.tmp 71), type := 3, pos := "law.go:110", after := #[{ on := 19, ground := Ground.data }], guard := none }) (v := .int .i64 o.m) rfl (by kernel_rfl) (by kernel_rfl) (by kernel_rfl) (fun _ _ _ h => h) (Or.inl ⟨by rfl, by intro w hS; have hc := hS.cm; go_simp⟩) hHeld ?_
  try simp only [Act.put, List.setIfInBounds_toArray, List.set_cons_zero, List.set_cons_succ]
  refine wpAnyH_ready (rs := [10]) (by kernel_rfl) (by simp) ?_
  refine (AllReadyH.cons (o := { dst := some 62, op := Op.call { callee := Callee.value (Operand.func 30), args := #[Operand.tmp 53, Operand.tmp 55, Operand.tmp 57, Operand.tmp 59, Operand.tmp 61], argTypes := #[3, 26, 3, 27, 3] }, type := 27, pos := "law.go:110", after := #[{ on := 1, ground := Ground.data }, { on := 3, ground := Ground.data }, { on := 5, ground := Ground.data }, { on := 7, ground := Ground.data }, { on := 9, ground := Ground.data }], guard := none }) rfl (fun K hK => ?_) AllReadyH.nil)
  go_simp
  go_at_call 30
  refine (KC.out _ (NR.gb hHeld hG).1).mono ?_
  rintro e w4 ⟨rfl, hb4⟩
  go_wp2_with fail
  refine hK.out _ _ (NR.call hHeld hb4) (fun hHeld2 => ?_)
  clear hK K hHeld
  have hHeld := hHeld2
  clear hHeld2
  try simp only [Act.put, List.setIfInBounds_toArray, List.set_cons_zero, List.set_cons_succ]
  refine wpAnyH_ready (rs := [21]) (by kernel_rfl) (by simp) ?_
  refine (AllReadyH.cons (o := { dst := some 73, op := Op.call { callee := Callee.value (Operand.func 31), args := #[Operand.tmp 64, Operand.tmp 66, Operand.tmp 68, Operand.tmp 70, Operand.tmp 72], argTypes := #[3, 26, 3, 27, 3] }, type := 27, pos := "law.go:110", after := #[{ on := 12, ground := Ground.data }, { on := 14, ground := Ground.data }, { on := 16, ground := Ground.data }, { on := 18, ground := Ground.data }, { on := 20, ground := Ground.data }, { on := 10, ground := Ground.chain }], guard := none }) rfl (fun K hK => ?_) AllReadyH.nil)
  go_simp
  go_at_call 31
  refine (KX.out _ (NR.gb hHeld hG)).mono ?_
  rintro e w4 ⟨rfl, hb4⟩
  go_wp2_with fail
  refine hK.out _ _ (NR.call hHeld hb4) (fun hHeld2 => ?_)
  clear hK K hHeld
  have hHeld := hHeld2
  clear hHeld2
  try simp only [Act.put, List.setIfInBounds_toArray, List.set_cons_zero, List.set_cons_succ]
  refine wpAnyH_take (i := 22) (oi := { dst := some 74, op := Op.binOp BinOp.eql 27 (Operand.tmp 62) (Operand.tmp 73) 27, type := 4, pos := "law.go:110", after := #[{ on := 10, ground := Ground.data }, { on := 21, ground := Ground.data }], guard := none }) (v := .bool true) rfl (by kernel_rfl) (by kernel_rfl) (by kernel_rfl) (fun _ _ _ h => h) (Or.inl ⟨by rfl, by intro w hS; go_simp⟩) hHeld ?_
  try simp only [Act.put, List.setIfInBounds_toArray, List.set_cons_zero, List.set_cons_succ]
  refine wpAnyH_take (i := 23) (oi := { dst := some 2, op := Op.assign (Operand.tmp 74), type := 4, pos := "law.go:110", after := #[{ on := 22, ground := Ground.data }, { on := 21, ground := Ground.chain }, { on := 0, ground := Ground.phase }, { on := 1, ground := Ground.phase }, { on := 2, ground := Ground.phase }, { on := 3, ground := Ground.phase }, { on := 4, ground := Ground.phase }, { on := 5, ground := Ground.phase }, { on := 6, ground := Ground.phase }, { on := 7, ground := Ground.phase }, { on := 8, ground := Ground.phase }, { on := 9, ground := Ground.phase }, { on := 10, ground := Ground.phase }, { on := 11, ground := Ground.phase }, { on := 12, ground := Ground.phase }, { on := 13, ground := Ground.phase }, { on := 14, ground := Ground.phase }, { on := 15, ground := Ground.phase }, { on := 16, ground := Ground.phase }, { on := 17, ground := Ground.phase }, { on := 18, ground := Ground.phase }, { on := 19, ground := Ground.phase }, { on := 20, ground := Ground.phase }, { on := 21, ground := Ground.phase }, { on := 22, ground := Ground.phase }], guard := none }) (v := .bool true) rfl (by kernel_rfl) (by kernel_rfl) (by kernel_rfl) (fun _ _ _ h => h) (Or.inl ⟨by rfl, by intro w hS; go_simp⟩) hHeld ?_
  try simp only [Act.put, List.setIfInBounds_toArray, List.set_cons_zero, List.set_cons_succ]
  refine wpAnyH_done (by kernel_rfl) ?_ _
  refine NoPanic.normal ?_
  go_wp2
  go_ret
  exact ⟨rfl, hHeld.2.1⟩
set_option maxRecDepth 100000 in
set_option maxHeartbeats 4000000 in
theorem plays_climb (w : World) (hG : Gb w) (o : NOp) (ok : NOk o) (hkd : o.kd = 8) :
    Calls Tryd.prog 7 #[.agg (opC o).toArray] w fun e w' => e = .returned (.bool true) ∧ Below w.heap.size w w' := by
  have d0 := NR.box (w := w) ok
  have c0 := d0.ck
  rw [hkd] at c0
  have HK := hid hkd
  have KN := hid (fun w1 (h : Gb w1) (i : Nat) => numbers_climb w1 h (nearD o i) (nearD_ok ok i) (by rw [nearD_kd, hkd]))
  clear hkd
  go_enter Tryd.func7, Tryd.ntmps7
  go_wp2
  generalize w.alloc (.cells (opC o).toArray 32) = w1 at *
  go_loopw [7] (fun i wr => ∃ j : Nat, j ≤ 4 ∧ i = .int .i64 j ∧ NR w wr w.heap.size o) (fun i _ => 4 - (intOf i).toNat)
  case atStart => exact ⟨0, by omega, rfl, d0⟩
  case round =>
    clear c0 d0
    obtain ⟨j, hj, rfl, dr⟩ := hrel
    have c0 := dr.ck
    rw [HK.out] at c0
    have g0 := dr.2.2
    match j, hj with
    | 0, _ =>
      rw [show ((0 : Nat) : Int) = 0 from rfl]
      go_wp2_with (first | refine wpList_load_row_w (by rfl) 32 _ (by rfl) _ (by rfl) 32 _ _ _ g0 Tryd.underlying32 rfl (by rw [Tryd.sizeOp, opC_size ok]) ?_)
      refine (nearly_0 _ o ok).mono ?_
      rintro e w2 ⟨rfl, hb2⟩
      have d2 := dr.call hb2
      have ok2 := nearD_ok ok 0
      have KM := hid (KN.out w2 (d2.gb hG) 0)
      generalize nearD o 0 = o2 at *
      go_wp2_with fail
      refine KM.out.mono ?_
      rintro e w3 ⟨rfl, hb3⟩
      have d3 := d2.call hb3
      go_wp2
      go_roundw
      case rel => exact ⟨1, by omega, by go_num, d3⟩
      case measure => simp [intOf]
    | 1, _ =>
      rw [show ((1 : Nat) : Int) = 1 from rfl]
      go_wp2_with (first | refine wpList_load_row_w (by rfl) 32 _ (by rfl) _ (by rfl) 32 _ _ _ g0 Tryd.underlying32 rfl (by rw [Tryd.sizeOp, opC_size ok]) ?_)
      refine (nearly_1 _ o ok).mono ?_
      rintro e w2 ⟨rfl, hb2⟩
      have d2 := dr.call hb2
      have ok2 := nearD_ok ok 1
      have KM := hid (KN.out w2 (d2.gb hG) 1)
      generalize nearD o 1 = o2 at *
      go_wp2_with fail
      refine KM.out.mono ?_
      rintro e w3 ⟨rfl, hb3⟩
      have d3 := d2.call hb3
      go_wp2
      go_roundw
      case rel => exact ⟨2, by omega, by go_num, d3⟩
      case measure => simp [intOf]
    | 2, _ =>
      rw [show ((2 : Nat) : Int) = 2 from rfl]
      go_wp2_with (first | refine wpList_load_row_w (by rfl) 32 _ (by rfl) _ (by rfl) 32 _ _ _ g0 Tryd.underlying32 rfl (by rw [Tryd.sizeOp, opC_size ok]) ?_)
      refine (nearly_2 _ o ok).mono ?_
      rintro e w2 ⟨rfl, hb2⟩
      have d2 := dr.call hb2
      have ok2 := nearD_ok ok 2
      have KM := hid (KN.out w2 (d2.gb hG) 2)
      generalize nearD o 2 = o2 at *
      go_wp2_with fail
      refine KM.out.mono ?_
      rintro e w3 ⟨rfl, hb3⟩
      have d3 := d2.call hb3
      go_wp2
      go_roundw
      case rel => exact ⟨3, by omega, by go_num, d3⟩
      case measure => simp [intOf]
    | 3, _ =>
      rw [show ((3 : Nat) : Int) = 3 from rfl]
      go_wp2
      go_roundw
      case rel => exact ⟨4, by omega, by go_num, dr⟩
      case measure => simp [intOf]
    | 4, _ =>
      rw [show ((4 : Nat) : Int) = 4 from rfl]
      have KM := hid (KN.out wr (dr.gb hG) 0)
      rw [show nearD o 0 = o from rfl] at KM
      go_wp2_with (first | refine wpList_load_row_w (by rfl) 32 _ (by rfl) _ (by rfl) 32 _ _ _ g0 Tryd.underlying32 rfl (by rw [Tryd.sizeOp, opC_size ok]) ?_)
      refine KM.out.mono ?_
      rintro e w3 ⟨rfl, hb3⟩
      have d3 := dr.call hb3
      go_wp2
      go_ret
      exact ⟨rfl, d3.2.1⟩
    | n + 5, h => exact absurd h (by omega)
end Go.Proofs.YtipbbmbkjcpjbaaDoor
