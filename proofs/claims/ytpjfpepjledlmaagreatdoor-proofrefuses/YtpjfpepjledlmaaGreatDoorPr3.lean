import Derived.Test.YtpjfpepjledlmaaGreatDoorPr2
namespace Go.Proofs.YtpjfpepjledlmaaGreatDoor
set_option linter.unusedVariables false
set_option linter.unusedSimpArgs false
open Go.RowKit
open Go.Proofs.YtpjfpepjledlmaaGreatDoor.Ca (Ct ct0 ctC argV AS)
attribute [local go_sem ↓] Go.wp_at_zero Go.wp_at_succ

theorem part_row {P : Program} {e t : TypeId} {n : Nat} (hu : P.underlying t = some (.array n e)) {m : Nat} (hs : (P.info? t).map (·.size) = some m) (xs : Array Value) (o : Nat) (w : World) : (part t xs o).run P w = .ok (.agg (xs.extract o (o + m))) w := by
  have hagg : (isAgg t).run P w = .ok true w := by
    unfold isAgg
    rw [Sem.run_bind, run_underlying hu w]
    rfl
  obtain ⟨i, hi, rfl⟩ := Option.map_eq_some_iff.1 hs
  simp [part, Sem.run_bind, hagg, sizeOf, typeInfo, hi]
/-- A row of bytes compared, at any depth. -/
theorem eqIn_ints {P : Program} {t e : TypeId} {kd : IntKind} {n : Nat} (ht : P.underlying t = some (.array n e)) (hu : P.underlying e = some (.int kd)) (hs : (P.info? e).map (·.size) = some 1) (k : IntKind) (d : Nat) (ax bs : List Int) (ha : ax.length = n) (hb : bs.length = n) (w : World) :
    (Op.equalIn (d + 1 + 1) t (.agg (ax.map (Value.int k)).toArray) (.agg (bs.map (Value.int k)).toArray)).run P w = .ok (decide (ax = bs)) w := by
  obtain ⟨i, hi⟩ := info_of_underlying hu
  have hc : P.cellsOf e = 1 := by simp [Program.cellsOf, hi] at hs ⊢; exact hs
  rw [run_equalIn_array w (d + 1) _ _ ht hi, hc, eqItems_ints hu d k ax bs w _ (fun j hj => by simp at hj; omega), all_range_eq ax bs n ha hb]
set_option maxRecDepth 100000 in
set_option maxHeartbeats 2000000 in
theorem pfollow_zero (w : World) (v : Value) (X : List Value) (lX : X.length = 32) (oX : ∀ v ∈ X, v.oneCell' = true) :
    Calls Tryz.prog 13 #[v, .int .i64 0, .agg X.toArray] w fun e w' => e = .returned (.tuple #[.agg (ptK X).toArray, .int .i64 0]) ∧ Below w.heap.size w w' := by
  have hb1 : Below w.heap.size w (w.alloc (.cells X.toArray 23)) := (Below.refl _ w).alloc (Nat.le_refl _) _
  have hb2 := hb1.alloc hb1.size (.cells (ptK (ints .u8 z32)).toArray 49)
  have hr5 : ((w.alloc (.cells X.toArray 23)).alloc (.cells (ptK (ints .u8 z32)).toArray 49)).heap[w.heap.size]? = some (.cells X.toArray 23 (0, 0)) := hold (hnew w _)
  have hr6 := hnew (w.alloc (.cells X.toArray 23)) (.cells (ptK (ints .u8 z32)).toArray 49)
  rw [show (w.alloc (.cells X.toArray 23)).heap.size = w.heap.size + 1 by simp] at hr6
  have hr8 := hnew ((w.alloc (.cells X.toArray 23)).alloc (.cells (ptK (ints .u8 z32)).toArray 49)) (.cells (ptK X).toArray 49)
  rw [show ((w.alloc (.cells X.toArray 23)).alloc (.cells (ptK (ints .u8 z32)).toArray 49)).heap.size = w.heap.size + 1 + 1 by simp] at hr8
  have AP := hid allocPt
  have BP := hid (built_ptK X lX)
  have LX := hid (ptK_len lX)
  have OX := hid (ptK_one oX)
  have LZ := hid (ptK_len (K := ints .u8 z32) rfl)
  have hS5 := hid (show (Tryz.prog.info? 23).map (·.size) = some X.toArray.size by rw [List.size_toArray, lX]; kernel_rfl)
  have hN := hid (show (Tryz.prog.info? 49).map (·.size) = some (ptK X).toArray.size by rw [Tryz.sizePt, List.size_toArray, LX.out])
  have hZY := hid (show (ptK (ints .u8 z32)).toArray.size = (ptK X).toArray.size by rw [List.size_toArray, List.size_toArray, LX.out, LZ.out])
  generalize ptK (ints .u8 z32) = Z at *
  generalize ptK X = Y at *
  go_enter Tryz.func13, Tryz.ntmps13
  go_wp2_with (first
    | (refine wpList_new AP.out LZ.out Tryz.sizePt rfl rfl rfl _ _ rfl rfl Y rfl rfl LX.out OX.out ?_; refine Hid.out ?_)
    | refine wpList_allocAny AP.out rfl rfl ?_
    | refine wpList_load_row_w (by rfl) 23 _ (by rfl) _ (by rfl) 23 _ _ _ hr5 Tryz.underlying23 rfl hS5.out ?_
    | refine wpList_built (by rfl) 49 _ rfl _ rfl _ BP.out ?_)
  refine hid ?_
  have hb3 := hb2.alloc hb2.size (.cells Y.toArray 49)
  have q6 := hold (o := .cells Y.toArray 49) hr6
  generalize ((w.alloc (.cells X.toArray 23)).alloc (.cells Z.toArray 49)).alloc (.cells Y.toArray 49) = w3 at *
  clear hb1 hb2 hr5 hr6
  have hb4 := hb3.alloc hb3.size (.cells #[.int .i64 0, .int .i64 0, .int .i64 4096, .int .i64 0] 86)
  have r6 := hold (o := .cells #[.int .i64 0, .int .i64 0, .int .i64 4096, .int .i64 0] 86) q6
  have r8 := hold (o := .cells #[.int .i64 0, .int .i64 0, .int .i64 4096, .int .i64 0] 86) hr8
  have R9 := hid (hnew w3 (.cells #[.int .i64 0, .int .i64 0, .int .i64 4096, .int .i64 0] 86))
  have HB4 := hid hb4
  have R6 := hid r6
  have R8 := hid r8
  clear q6 hr8 hb3 hb4 r6 r8
  go_wp2_with fail
  generalize hW : w3.alloc (.cells #[.int .i64 0, .int .i64 0, .int .i64 4096, .int .i64 0] 86) = w4 at *
  have c0 : w4.cell? ⟨w3.heap.size, 0, none⟩ = some (.int .i64 0) := by rw [cell_of_row _ _ _ _ _ _ R9.out]; rfl
  clear hW
  go_loopw [10] (fun _ w' => w' = w4) (fun _ _ => 0)
  case atStart => rfl
  case round =>
    obtain rfl := hrel
    have r6 := R6.out
    have r8 := R8.out
    have hb5 := below_setRow HB4.out (show w.heap.size ≤ w.heap.size + 1 by omega) Y.toArray
    rename_i wr
    have r7 : (_ : World).heap[w.heap.size + 1]? = _ := setRow_heap _ _ _ Y.toArray _ _ r6
    have R7 := hid r7
    have HB5 := hid hb5
    clear hb5 r7
    go_wp2_with (first
      | refine wpList_load_row_w (by rfl) 49 _ (by rfl) _ (by rfl) 49 _ _ _ r8 Tryz.underlying49 rfl hN.out ?_
      | refine wpList_store_row (by rfl) 49 (.tmp 6) (.tmp 69) (by rfl) (w.heap.size + 1) Y.toArray (by rfl) (by rfl) 49 Z.toArray (by exact r6) hN.out hZY.out (all_oneCell_toArray OX.out) ?_)
    exact bodyPost_ret (v := .tuple #[.agg Y.toArray, .int .i64 0]) (results_c2 Tryz.results13 _ _ (w.heap.size + 1) 49 _ _ _ rfl R7.out Tryz.underlying49 rfl hN.out) rfl ⟨rfl, HB5.out⟩
set_option maxRecDepth 100000 in
set_option maxHeartbeats 2000000 in
theorem pproof_zero (w : World) (hG : Glob w) (X : List Value) (lX : X.length = 32) (k : Int) :
    Calls Tryz.prog 14 #[.agg (ptK X).toArray, .int .i64 k] w fun e w' => e = .returned (.agg pf0.toArray) ∧ Below w.heap.size w w' := by
  have C33 : (ptK X).toArray[33]? = some (.int .i64 0) := by unfold ptK; rw [List.getElem?_toArray, List.getElem?_append_right (by omega), lX]; rfl
  have C32 : (ptK X).toArray[32]? = some (.slice none 0 0) := by unfold ptK; rw [List.getElem?_toArray, List.getElem?_append_right (by omega), lX]; rfl
  have hb1 : Below w.heap.size w (w.alloc (.cells (ptK X).toArray 49)) := (Below.refl _ w).alloc (Nat.le_refl _) _
  have hb2 := hb1.alloc hb1.size (.cells pf0.toArray 28)
  have hr2 : ((w.alloc (.cells (ptK X).toArray 49)).alloc (.cells pf0.toArray 28)).heap[w.heap.size]? = some (.cells (ptK X).toArray 49 (0, 0)) := hold (hnew w _)
  have hr4 := hnew (w.alloc (.cells (ptK X).toArray 49)) (.cells pf0.toArray 28)
  rw [show (w.alloc (.cells (ptK X).toArray 49)).heap.size = w.heap.size + 1 by simp] at hr4
  have c33 : ((w.alloc (.cells (ptK X).toArray 49)).alloc (.cells pf0.toArray 28)).cell? ⟨w.heap.size, 33, none⟩ = some (.int .i64 0) := by rw [cell_of_row _ _ _ _ _ _ hr2]; exact C33
  have c32 : ((w.alloc (.cells (ptK X).toArray 49)).alloc (.cells pf0.toArray 28)).cell? ⟨w.heap.size, 32, none⟩ = some (.slice none 0 0) := by rw [cell_of_row _ _ _ _ _ _ hr2]; exact C32
  have NM := hid (fun w1 (hb : Below w.heap.size w w1) => named_nil w1 (hG.below hb hG.1) k)
  have AP := hid allocPf
  have AZ := hid alloc22
  have LZ := hid (show (ints .u8 z32).length = 32 from rfl)
  have OZ := hid (ints_one .u8 z32)
  have BZ := hid built_pfZ
  have OP := hid pf0_one
  have S22 := hid (show (Tryz.prog.info? 22).map (·.size) = some (ints .u8 z32).toArray.size by rw [List.size_toArray, LZ.out]; kernel_rfl)
  have S22b := hid (show (Tryz.prog.info? 22).map (·.size) = some 32 by kernel_rfl)
  have hN := hid (show (Tryz.prog.info? 28).map (·.size) = some pf0.toArray.size by rw [Tryz.sizePf, List.size_toArray, pf0_len])
  generalize ptK X = Y at *
  generalize pf0 = C at *
  generalize ints .u8 z32 = Z at *
  have HR4 := hid hr4
  have HB2 := hid hb2
  clear hG hb1 hb2 hr2 hr4 C33 C32
  go_enter Tryz.func14, Tryz.ntmps14
  go_wp2_with (first | refine wpList_allocAny AP.out rfl rfl ?_)
  refine (NM.out _ HB2.out).mono ?_
  rintro e w3 ⟨rfl, hb3⟩
  have R43 := hid ((hb3.block _ (hlt HR4.out)).trans HR4.out)
  have HB3 := hid (HB2.out.trans (hb3.mono HB2.out.size))
  clear hb3 HR4 HB2 NM c33 c32
  go_wp2_with (first
    | (refine wpList_new AZ.out LZ.out S22b.out rfl rfl rfl _ _ rfl rfl Z rfl rfl LZ.out OZ.out ?_; refine Hid.out ?_))
  refine hid ?_
  have hbn := HB3.out.alloc HB3.out.size (.cells Z.toArray 22)
  have r4 := hold (o := .cells Z.toArray 22) R43.out
  have r8 := hnew w3 (.cells Z.toArray 22)
  generalize w3.alloc (.cells Z.toArray 22) = w4 at *
  have HB5 := hid (below_setRow hbn (show w.heap.size ≤ w.heap.size + 1 by omega) C.toArray)
  have r7 : (w4.setRow (w.heap.size + 1) C.toArray).heap[w.heap.size + 1]? = _ := setRow_heap _ _ _ _ _ _ r4
  have R7 := hid r7
  clear hbn R43 HB3 r7
  go_wp2_with (first
    | refine wpList_load_row_w (by rfl) 22 _ (by rfl) _ (by rfl) 22 _ _ _ r8 Tryz.underlying22 rfl S22.out ?_
    | refine wpList_built (by rfl) 28 _ rfl _ rfl _ BZ.out ?_
    | refine wpList_store_row (by rfl) 28 (.tmp 4) (.tmp 58) (by rfl) (w.heap.size + 1) C.toArray (by rfl) (by rfl) 28 C.toArray (by exact r4) hN.out rfl (all_oneCell_toArray OP.out) ?_)
  exact bodyPost_ret (v := .agg C.toArray) (results_c1 Tryz.results14 _ _ (w.heap.size + 1) 28 _ _ _ rfl R7.out Tryz.underlying28 rfl hN.out) rfl ⟨rfl, HB5.out⟩
set_option maxRecDepth 100000 in
set_option maxHeartbeats 2000000 in
theorem prove_zero (w : World) (hG : Glob w) (base : Nat) (S : Sto) (st p n : Nat) (h : Q1 w base S st p n) (X : List Value) (lX : X.length = 32) (oX : ∀ v ∈ X, v.oneCell' = true) :
    Calls Tryz.prog 5 #[.pointer (some ⟨st, 0, none⟩), .int .i64 0, .agg X.toArray] w fun e w' => e = .returned (.tuple #[.agg pf0.toArray, .int .i64 0]) ∧ Below w.heap.size w w' := by
  have hb1 : Below w.heap.size w (w.alloc (.cells X.toArray 23)) := (Below.refl _ w).alloc (Nat.le_refl _) _
  have hb2 := hb1.alloc hb1.size (.cells pf0.toArray 28)
  have hr5 : ((w.alloc (.cells X.toArray 23)).alloc (.cells pf0.toArray 28)).heap[w.heap.size]? = some (.cells X.toArray 23 (0, 0)) := hold (hnew w _)
  have hr6 := hnew (w.alloc (.cells X.toArray 23)) (.cells pf0.toArray 28)
  rw [show (w.alloc (.cells X.toArray 23)).heap.size = w.heap.size + 1 by simp] at hr6
  have HRD := hid (ready_zero w st h.live _ hb2)
  have FO := hid (fun w1 => pfollow_zero w1 (.pointer (some ⟨st, 0, none⟩)) X lX oX)
  have HPZ := hid (fun w1 (hb : Below w.heap.size w w1) => pproof_zero w1 (hG.below hb hG.1) X lX S.s.wd)
  have HSU := hid (fun w1 (hb : Below w.heap.size w w1) => show Calls Tryz.prog 15 #[.pointer (some ⟨st, 0, none⟩)] w1 fun e w' => e = .returned (.agg (supC S.s)) ∧ Below w1.heap.size w1 w' by
    have := oSuper_any w1 base S (h.sk.below hb)
    rw [h.st] at this; exact this)
  generalize S.s = sF at *
  have HB2 := hid hb2
  have AP := hid allocPf
  have AT := hid allocPt
  have OP := hid pf0_one
  have LY := hid (ptK_len lX)
  have OY := hid (ptK_one oX)
  have LZ := hid (ptK_len (K := ints .u8 z32) rfl)
  have hS5 := hid (show (Tryz.prog.info? 23).map (·.size) = some X.toArray.size by rw [List.size_toArray, lX]; kernel_rfl)
  have hN := hid (show (Tryz.prog.info? 28).map (·.size) = some pf0.toArray.size by rw [Tryz.sizePf, List.size_toArray, pf0_len])
  generalize ptK (ints .u8 z32) = Z at *
  generalize ptK X = Y at *
  generalize pf0 = C at *
  have HR5 := hid hr5
  have HR6 := hid hr6
  clear h hG hb1 hb2 hr5 hr6
  go_enter Tryz.func5, Tryz.ntmps5
  go_wp2_with (first | refine wpList_allocAny AP.out rfl rfl ?_)
  refine HRD.out.mono ?_
  rintro e w3 ⟨rfl, hb3⟩
  have r5 := (hb3.block _ (hlt HR5.out)).trans HR5.out
  have R63 := hid ((hb3.block _ (hlt HR6.out)).trans HR6.out)
  have HB3 := hid (HB2.out.trans (hb3.mono HB2.out.size))
  clear hb3 HR5 HR6 HB2 HRD
  go_wp2_with (first | refine wpList_load_row_w (by rfl) 23 _ (by rfl) _ (by rfl) 23 _ _ _ r5 Tryz.underlying23 rfl hS5.out ?_)
  refine (FO.out w3).mono ?_
  rintro e w4 ⟨rfl, hb4⟩
  have R64 := hid ((hb4.block _ (hlt R63.out)).trans R63.out)
  have HB4 := hid (HB3.out.trans (hb4.mono HB3.out.size))
  clear hb4 r5 R63 HB3 FO
  go_wp2_with (first
    | (refine wpList_new AT.out LZ.out Tryz.sizePt rfl rfl rfl _ _ rfl rfl Y rfl rfl LY.out OY.out ?_; refine Hid.out ?_))
  refine hid ?_
  have HBX := hid (HB4.out.alloc HB4.out.size (.cells Y.toArray 49))
  have R6 := hid (hold (o := .cells Y.toArray 49) R64.out)
  have R9 := hid (hnew w4 (.cells Y.toArray 49))
  have N69 := hid (show w4.heap.size ≠ w.heap.size + 1 by have := hlt R64.out; omega)
  have LO6 := hid (show w.heap.size ≤ w.heap.size + 1 by omega)
  generalize w4.alloc (.cells Y.toArray 49) = w5 at *
  clear R64 HB4
  go_wp2_with fail
  generalize w4.heap.size = G9 at *
  generalize hG6 : w.heap.size + 1 = G6 at *
  refine wp_region_noPanic ?_
  refine wp_region_held_drew (S := fun w' => (w'.heap[G6]? = some (.cells C.toArray 28 (0, 0)) ∧ w'.heap[G9]? = some (.cells Y.toArray 49 (0, 0))) ∧ Below w.heap.size w w') (by kernel_rfl) ⟨⟨R6.out, R9.out⟩, HBX.out.drew⟩ (fun hHeld => ?_)
  refine wpAnyH_take (i := 0) (oi := { dst := some 29, op := Op.load 49 (Operand.tmp 9), type := 49, pos := "proof.go:21", after := #[], guard := none }) (v := .agg Y.toArray) rfl (by kernel_rfl) (by kernel_rfl) (by kernel_rfl) (fun _ _ _ h => h) (yieldsIf_load_mid (by rfl) 49 (.tmp 9) rfl G9 0 rfl Y _ (fun w1 hS => rng hS.1.2) Tryz.underlying49 rfl (by rw [LY.out]; kernel_rfl)) hHeld ?_
  try simp only [Act.put, List.setIfInBounds_toArray, List.set_cons_zero, List.set_cons_succ]
  refine wpAnyH_take (i := 1) (oi := { dst := some 30, op := Op.move (Operand.tmp 0), type := 34, pos := "proof.go:21", after := #[], guard := none }) (v := .pointer (some ⟨st, 0, none⟩)) rfl (by kernel_rfl) (by kernel_rfl) (by kernel_rfl) (fun _ _ _ h => h) (Or.inl ⟨by rfl, by intro w hS; go_simp⟩) hHeld ?_
  try simp only [Act.put, List.setIfInBounds_toArray, List.set_cons_zero, List.set_cons_succ]
  refine wpAnyH_ready (rs := [2]) (by kernel_rfl) (by simp) ?_
  refine (AllReadyH.cons (o := { dst := some 31, op := Op.call { callee := Callee.value (Operand.func 15), args := #[Operand.tmp 30], argTypes := #[34] }, type := 54, pos := "proof.go:21", after := #[{ on := 1, ground := Ground.data }], guard := none }) rfl (fun K hK => ?_) AllReadyH.nil)
  go_simp
  go_at_call 15
  refine (HSU.out _ hHeld.2).mono ?_
  rintro e x1 ⟨rfl, hbx⟩
  go_wp2_with fail
  refine hK.out _ _ (⟨⟨(hbx.block _ (hlt hHeld.1.1)).trans hHeld.1.1, (hbx.block _ (hlt hHeld.1.2)).trans hHeld.1.2⟩, hHeld.2.trans (hbx.mono hHeld.2.size)⟩) (fun hHeld2 => ?_)
  clear hK K hHeld
  have hHeld := hHeld2
  clear hHeld2
  clear hbx
  try simp only [Act.put, List.setIfInBounds_toArray, List.set_cons_zero, List.set_cons_succ]
  refine wpAnyH_take (i := 3) (oi := { dst := some 32, op := Op.field 54 (Operand.tmp 31) 0, type := 3, pos := "proof.go:21", after := #[{ on := 2, ground := Ground.data }], guard := none }) (v := .int .i64 sF.wd) rfl (by kernel_rfl) (by kernel_rfl) (by kernel_rfl) (fun _ _ _ h => h) (Or.inl ⟨by rfl, by intro w hS; kernel_rfl⟩) hHeld ?_
  try simp only [Act.put, List.setIfInBounds_toArray, List.set_cons_zero, List.set_cons_succ]
  refine wpAnyH_ready (rs := [4]) (by kernel_rfl) (by simp) ?_
  refine (AllReadyH.cons (o := { dst := some 33, op := Op.call { callee := Callee.value (Operand.func 14), args := #[Operand.tmp 29, Operand.tmp 32], argTypes := #[49, 3] }, type := 28, pos := "proof.go:21", after := #[{ on := 0, ground := Ground.data }, { on := 3, ground := Ground.data }, { on := 2, ground := Ground.chain }], guard := none }) rfl (fun K hK => ?_) AllReadyH.nil)
  go_simp
  go_at_call 14
  refine (HPZ.out _ hHeld.2).mono ?_
  rintro e x2 ⟨rfl, hbx⟩
  go_wp2_with fail
  refine hK.out _ _ (⟨⟨(hbx.block _ (hlt hHeld.1.1)).trans hHeld.1.1, (hbx.block _ (hlt hHeld.1.2)).trans hHeld.1.2⟩, hHeld.2.trans (hbx.mono hHeld.2.size)⟩) (fun hHeld2 => ?_)
  clear hK K hHeld
  have hHeld := hHeld2
  clear hHeld2
  clear hbx
  try simp only [Act.put, List.setIfInBounds_toArray, List.set_cons_zero, List.set_cons_succ]
  refine wpAnyH_ready (rs := [5]) (by kernel_rfl) (by simp) ?_
  refine (AllReadyH.cons (o := { dst := none, op := Op.store 28 (Operand.tmp 6) (Operand.tmp 33), type := 0, pos := "proof.go:21", after := #[{ on := 4, ground := Ground.data }, { on := 4, ground := Ground.chain }, { on := 0, ground := Ground.phase }, { on := 1, ground := Ground.phase }, { on := 2, ground := Ground.phase }, { on := 3, ground := Ground.phase }, { on := 4, ground := Ground.phase }], guard := none }) rfl (fun K hK => ?_) AllReadyH.nil)
  refine step_storeRowC rfl 28 (.tmp 6) (.tmp 33) rfl G6 C.toArray rfl rfl 28 C.toArray hHeld.1.1 hN.out rfl (all_oneCell_toArray OP.out) ?_
  refine hK.out _ _ (⟨⟨setRow_heap _ _ _ _ _ _ hHeld.1.1, (setRow_other _ _ _ _ N69.out).trans hHeld.1.2⟩, below_setRow hHeld.2 LO6.out _⟩) (fun hHeld2 => ?_)
  clear hK K hHeld
  have hHeld := hHeld2
  clear hHeld2
  try simp only [Act.put, List.setIfInBounds_toArray, List.set_cons_zero, List.set_cons_succ]
  refine wpAnyH_take (i := 6) (oi := { dst := some 7, op := Op.assign (Operand.const (Value.int IntKind.i64 0)), type := 29, pos := "proof.go:21", after := #[{ on := 5, ground := Ground.chain }, { on := 0, ground := Ground.phase }, { on := 1, ground := Ground.phase }, { on := 2, ground := Ground.phase }, { on := 3, ground := Ground.phase }, { on := 4, ground := Ground.phase }, { on := 5, ground := Ground.phase }], guard := none }) (v := .int IntKind.i64 0) rfl (by kernel_rfl) (by kernel_rfl) (by kernel_rfl) (fun _ _ _ h => h) (Or.inl ⟨by rfl, by intro w hS; go_simp⟩) hHeld ?_
  try simp only [Act.put, List.setIfInBounds_toArray, List.set_cons_zero, List.set_cons_succ]
  refine wpAnyH_done (by kernel_rfl) ?_ _
  refine NoPanic.normal ?_
  go_wp2_with fail
  exact bodyPost_ret (v := .tuple #[.agg C.toArray, .int .i64 0]) (results_c2 Tryz.results5 _ _ G6 28 _ _ _ rfl hHeld.1.1 Tryz.underlying28 rfl hN.out) rfl ⟨rfl, hHeld.2⟩
set_option maxRecDepth 100000 in
set_option maxHeartbeats 2000000 in
theorem sameB_nil (w : World) : Calls Tryz.prog 16 #[.slice none 0 0, .slice none 0 0] w fun e w' => e = .returned (.bool true) ∧ w = w' := by
  go_enter Tryz.func16, Tryz.ntmps16
  go_wp2
  go_loopw [5] (fun i w' => i = .int .i64 0 ∧ w' = w) (fun _ _ => 0)
  case atStart => exact ⟨rfl, rfl⟩
  case round =>
    obtain ⟨rfl, rfl⟩ := hrel
    go_wp2
    go_ret
    exact ⟨rfl, rfl⟩
set_option maxRecDepth 100000 in
set_option maxHeartbeats 2000000 in
theorem sameP_zero (w : World) : Calls Tryz.prog 6 #[.agg pf0.toArray, .agg pf0.toArray] w fun e w' => e = .returned (.bool true) ∧ Below w.heap.size w w' := by
  have hb1 : Below w.heap.size w (w.alloc (.cells pf0.toArray 28)) := (Below.refl _ w).alloc (Nat.le_refl _) _
  have hb2 := hb1.alloc hb1.size (.cells pf0.toArray 28)
  have r2 : ((w.alloc (.cells pf0.toArray 28)).alloc (.cells pf0.toArray 28)).heap[w.heap.size]? = some (.cells pf0.toArray 28 (0, 0)) := hold (hnew w _)
  have r3 := hnew (w.alloc (.cells pf0.toArray 28)) (.cells pf0.toArray 28)
  rw [show (w.alloc (.cells pf0.toArray 28)).heap.size = w.heap.size + 1 by simp] at r3
  have cell := fun (g : Nat) (hr : ((w.alloc (.cells pf0.toArray 28)).alloc (.cells pf0.toArray 28)).heap[g]? = some (.cells pf0.toArray 28 (0, 0))) (j : Nat) (v : Value) (hv : pf0.toArray[j]? = some v) => (cell_of_row _ g j _ _ _ hr).trans hv
  have a0 := cell _ r2 0 (.bool false) rfl
  have a1 := cell _ r2 1 (.slice none 0 0) rfl
  have a34 := cell _ r2 34 (.slice none 0 0) rfl
  have b0 := cell _ r3 0 (.bool false) rfl
  have b1 := cell _ r3 1 (.slice none 0 0) rfl
  have b34 := cell _ r3 34 (.slice none 0 0) rfl
  have rg : ∀ g, ((w.alloc (.cells pf0.toArray 28)).alloc (.cells pf0.toArray 28)).heap[g]? = some (.cells pf0.toArray 28 (0, 0)) → ((w.alloc (.cells pf0.toArray 28)).alloc (.cells pf0.toArray 28)).rangeAt g 2 (ints .u8 z32) := fun g hr j v hv => by
    rw [cell_of_row _ _ _ _ _ _ hr, List.getElem?_toArray]
    have hj := (List.getElem?_eq_some_iff.1 hv).1
    show pf0[2 + j]? = some v
    unfold pf0
    rw [List.getElem?_append_right (by simp), List.getElem?_append_left (by simpa using hj)]
    simpa using hv
  have g2 := rg _ r2
  have g3 := rg _ r3
  have EQ := hid (show ∀ w1 : World, (Op.equalIn 10000 22 (.agg (ints .u8 z32).toArray) (.agg (ints .u8 z32).toArray)).run Tryz.prog w1 = .ok true w1 from fun w1 => (eqIn_ints (P := Tryz.prog) Tryz.underlying22 Tryz.underlying5 Tryz.size5 .u8 9998 z32 z32 rfl rfl w1).trans (by rw [decide_eq_true rfl]))
  have GR := hid (show Tryz.prog.eqGuardType Tryz.prog.depth 22 = false by kernel_rfl)
  have S22 := hid (show (Tryz.prog.info? 22).map (·.size) = some (ints .u8 z32).length by kernel_rfl)
  have HB := hid hb2
  generalize pf0.toArray = C at *
  generalize hw2 : (w.alloc (.cells C 28)).alloc (.cells C 28) = w2 at *
  clear hb1 hb2 r2 r3 cell rg
  go_enter Tryz.func6, Tryz.ntmps6
  go_wp2_with fail
  refine (sameB_nil w2).mono ?_
  rintro e wx ⟨rfl, hw⟩
  obtain rfl := hw
  have KQ := EQ.out
  have KG := GR.out
  generalize ints .u8 z32 = Z at *
  clear hw2
  go_wp2_with (first
    | refine wpList_load_mid_w (by rfl) 22 _ (by rfl) w.heap.size 2 (by rfl) Z _ g2 Tryz.underlying22 rfl S22.out ?_
    | refine wpList_load_mid_w (by rfl) 22 _ (by rfl) (w.heap.size + 1) 2 (by rfl) Z _ g3 Tryz.underlying22 rfl S22.out ?_)
  go_loopw [5] (fun i w' => i = .int .i64 0 ∧ w' = w2) (fun _ _ => 0)
  case atStart => exact ⟨rfl, rfl⟩
  case round =>
    obtain ⟨rfl, rfl⟩ := hrel
    go_wp2
    go_ret
    exact ⟨rfl, HB.out⟩
end Go.Proofs.YtpjfpepjledlmaaGreatDoor
