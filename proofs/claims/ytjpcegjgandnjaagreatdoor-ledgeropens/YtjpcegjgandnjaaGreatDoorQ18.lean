import Derived.Test.YtjpcegjgandnjaaGreatDoorQ17
namespace Go.Proofs.YtjpcegjgandnjaaGreatDoor
set_option linter.unusedVariables false
set_option linter.unusedSimpArgs false
open Go.RowKit
attribute [local go_sem ↓] Go.wp_at_zero Go.wp_at_succ

set_option maxRecDepth 100000 in
set_option maxHeartbeats 2000000 in
theorem mayBePage_any (w : World) (p : Int) : Calls Tryz.prog 190 #[.int .i64 p] w fun e w' => e = .returned (.bool (decide (PgR p))) ∧ Below w.heap.size w w' := by
  by_cases h1 : 2 ≤ p
  · by_cases h2 : p < 4096
    · have HD := hid (decide_eq_true (show PgR p by unfold PgR; omega))
      generalize decide (PgR p) = D at *
      subst HD
      go_enter Tryz.func190, Tryz.ntmps190
      go_wp2
      go_ret
      exact ⟨rfl, Below.refl _ _⟩
    · have HD := hid (decide_eq_false (show ¬ PgR p by unfold PgR; omega))
      generalize decide (PgR p) = D at *
      subst HD
      go_enter Tryz.func190, Tryz.ntmps190
      go_wp2
      go_ret
      exact ⟨rfl, Below.refl _ _⟩
  · have HD := hid (decide_eq_false (show ¬ PgR p by unfold PgR; omega))
    generalize decide (PgR p) = D at *
    subst HD
    go_enter Tryz.func190, Tryz.ntmps190
    go_wp2
    go_ret
    exact ⟨rfl, Below.refl _ _⟩
set_option maxRecDepth 100000 in
set_option maxHeartbeats 2000000 in
theorem number_any (w : World) (v g : Int) (h1 : 0 ≤ g) (h2 : g ≤ v) (h3 : v ≤ 1073741824) : Calls Tryz.prog 94 #[.int .i64 v, .int .i64 g] w fun e w' => e = .returned (.int .i64 (numR v g)) ∧ Below w.heap.size w w' := by
  unfold numR
  by_cases h0 : g = 0
  · subst h0
    rw [if_pos rfl]
    go_enter Tryz.func94, Tryz.ntmps94
    go_wp2
    go_ret
    exact ⟨rfl, Below.refl _ _⟩
  · rw [if_neg h0]
    go_enter Tryz.func94, Tryz.ntmps94
    go_wp2
    go_ret
    exact ⟨rfl, Below.refl _ _⟩
set_option maxRecDepth 100000 in
set_option maxHeartbeats 2000000 in
theorem skipped_any (w : World) (i : Int) (h1 : 1 ≤ i) (h2 : i ≤ 1073741825) : Calls Tryz.prog 206 #[.int .i64 i] w fun e w' => e = .returned (.int .i64 (far i)) ∧ Below w.heap.size w w' := by
  have HF := hid (show far i = bits .and .i64 i (i - 1) from rfl)
  generalize far i = F at *
  go_enter Tryz.func206, Tryz.ntmps206
  go_wp2
  go_ret
  exact ⟨by rw [HF.out]; rfl, Below.refl _ _⟩
theorem cell_new (w : World) (cs : List Value) (t : TypeId) (j : Nat) (v : Value) (h : cs[j]? = some v) : (w.alloc (.cells cs.toArray t)).cell? ⟨w.heap.size, j, none⟩ = some v := by
  rw [cell_of_row _ _ _ _ _ _ (hnew w (.cells cs.toArray t))]; simpa using h
set_option maxRecDepth 100000 in
set_option maxHeartbeats 2000000 in
theorem versionFits_any (w : World) (x : Rc) (ok : RcOk x) : Calls Tryz.prog 189 #[.agg (rcC x).toArray] w fun e w' => e = .returned (.bool (decide (VerR x))) ∧ Below w.heap.size w w' := by
  have c0 := cell_new w (rcC x) 94 0 (.int .i64 x.v) rfl
  have c1 := cell_new w (rcC x) 94 1 (.int .i64 x.f) rfl
  have c2 := cell_new w (rcC x) 94 2 (.int .i64 x.p) rfl
  have c3 := cell_new w (rcC x) 94 3 (.int .i64 x.s) rfl
  have c4 := cell_new w (rcC x) 94 4 (.int .i64 x.r) rfl
  have c5 := cell_new w (rcC x) 94 5 (.int .i64 x.c) rfl
  have r0 := hnew w (.cells (rcC x).toArray 94)
  have hB := (Below.refl w.heap.size w).alloc (Nat.le_refl _) (.cells (rcC x).toArray 94)
  have HS := hid (show (Tryz.prog.info? 94).map (·.size) = some (rcC x).toArray.size by rw [Tryz.sizeRc, List.size_toArray, rcC_len ok])
  by_cases h1 : 0 ≤ x.f
  · by_cases h2 : 1 ≤ x.f
    · by_cases h3 : x.f ≤ x.v
      · by_cases h4 : x.v ≤ 1073741824
        · have HD := hid (decide_eq_true (show VerR x by unfold VerR; omega))
          generalize decide (VerR x) = D at *
          subst HD
          generalize rcC x = C at *
          go_enter Tryz.func189, Tryz.ntmps189
          go_wp2
          go_ret
          refine ⟨?_, hB⟩
          exact congrArg (fun b => Ending.returned (Value.bool b)) (by first | rfl | (simp; done) | (simp; omega))
        · have HD := hid (decide_eq_false (show ¬ VerR x by unfold VerR; omega))
          generalize decide (VerR x) = D at *
          subst HD
          generalize rcC x = C at *
          go_enter Tryz.func189, Tryz.ntmps189
          go_wp2
          go_ret
          refine ⟨?_, hB⟩
          exact congrArg (fun b => Ending.returned (Value.bool b)) (by first | rfl | (simp; done) | (simp; omega))
      · have HD := hid (decide_eq_false (show ¬ VerR x by unfold VerR; omega))
        generalize decide (VerR x) = D at *
        subst HD
        generalize rcC x = C at *
        go_enter Tryz.func189, Tryz.ntmps189
        go_wp2
        go_ret
        refine ⟨?_, hB⟩
        exact congrArg (fun b => Ending.returned (Value.bool b)) (by first | rfl | (simp; done) | (simp; omega))
    · by_cases h3 : 1 ≤ x.v
      · by_cases h4 : x.v ≤ 1073741824
        · have HD := hid (decide_eq_true (show VerR x by unfold VerR; omega))
          generalize decide (VerR x) = D at *
          subst HD
          generalize rcC x = C at *
          go_enter Tryz.func189, Tryz.ntmps189
          go_wp2
          go_ret
          refine ⟨?_, hB⟩
          exact congrArg (fun b => Ending.returned (Value.bool b)) (by first | rfl | (simp; done) | (simp; omega))
        · have HD := hid (decide_eq_false (show ¬ VerR x by unfold VerR; omega))
          generalize decide (VerR x) = D at *
          subst HD
          generalize rcC x = C at *
          go_enter Tryz.func189, Tryz.ntmps189
          go_wp2
          go_ret
          refine ⟨?_, hB⟩
          exact congrArg (fun b => Ending.returned (Value.bool b)) (by first | rfl | (simp; done) | (simp; omega))
      · have HD := hid (decide_eq_false (show ¬ VerR x by unfold VerR; omega))
        generalize decide (VerR x) = D at *
        subst HD
        generalize rcC x = C at *
        go_enter Tryz.func189, Tryz.ntmps189
        go_wp2
        go_ret
        refine ⟨?_, hB⟩
        exact congrArg (fun b => Ending.returned (Value.bool b)) (by first | rfl | (simp; done) | (simp; omega))
  · have HD := hid (decide_eq_false (show ¬ VerR x by unfold VerR; omega))
    generalize decide (VerR x) = D at *
    subst HD
    generalize rcC x = C at *
    go_enter Tryz.func189, Tryz.ntmps189
    go_wp2
    go_ret
    refine ⟨?_, hB⟩
    exact congrArg (fun b => Ending.returned (Value.bool b)) (by first | rfl | (simp; done) | (simp; omega))
set_option maxRecDepth 100000 in
set_option maxHeartbeats 2000000 in
theorem countFits_any (w : World) (x : Rc) (ok : RcOk x) : Calls Tryz.prog 191 #[.agg (rcC x).toArray] w fun e w' => e = .returned (.bool (decide (CntR x))) ∧ Below w.heap.size w w' := by
  have c0 := cell_new w (rcC x) 94 0 (.int .i64 x.v) rfl
  have c1 := cell_new w (rcC x) 94 1 (.int .i64 x.f) rfl
  have c2 := cell_new w (rcC x) 94 2 (.int .i64 x.p) rfl
  have c3 := cell_new w (rcC x) 94 3 (.int .i64 x.s) rfl
  have c4 := cell_new w (rcC x) 94 4 (.int .i64 x.r) rfl
  have c5 := cell_new w (rcC x) 94 5 (.int .i64 x.c) rfl
  have r0 := hnew w (.cells (rcC x).toArray 94)
  have hB := (Below.refl w.heap.size w).alloc (Nat.le_refl _) (.cells (rcC x).toArray 94)
  have HS := hid (show (Tryz.prog.info? 94).map (·.size) = some (rcC x).toArray.size by rw [Tryz.sizeRc, List.size_toArray, rcC_len ok])
  by_cases h1 : x.r = 0
  · by_cases h2 : x.c = 0
    · have HD := hid (decide_eq_true (show CntR x by unfold CntR; omega))
      generalize decide (CntR x) = D at *
      subst HD
      generalize rcC x = C at *
      go_enter Tryz.func191, Tryz.ntmps191
      go_wp2
      go_ret
      refine ⟨?_, hB⟩
      exact congrArg (fun b => Ending.returned (Value.bool b)) (by first | rfl | (simp; done) | (simp; omega))
    · have HD := hid (decide_eq_false (show ¬ CntR x by unfold CntR; omega))
      generalize decide (CntR x) = D at *
      subst HD
      generalize rcC x = C at *
      go_enter Tryz.func191, Tryz.ntmps191
      go_wp2
      go_ret
      refine ⟨?_, hB⟩
      exact congrArg (fun b => Ending.returned (Value.bool b)) (by first | rfl | (simp; done) | (simp; omega))
  · by_cases h2 : 1 ≤ x.c
    · by_cases h3 : x.c ≤ 4096
      · have HD := hid (decide_eq_true (show CntR x by unfold CntR; omega))
        generalize decide (CntR x) = D at *
        subst HD
        generalize rcC x = C at *
        go_enter Tryz.func191, Tryz.ntmps191
        go_wp2
        go_ret
        refine ⟨?_, hB⟩
        exact congrArg (fun b => Ending.returned (Value.bool b)) (by first | rfl | (simp; done) | (simp; omega))
      · have HD := hid (decide_eq_false (show ¬ CntR x by unfold CntR; omega))
        generalize decide (CntR x) = D at *
        subst HD
        generalize rcC x = C at *
        go_enter Tryz.func191, Tryz.ntmps191
        go_wp2
        go_ret
        refine ⟨?_, hB⟩
        exact congrArg (fun b => Ending.returned (Value.bool b)) (by first | rfl | (simp; done) | (simp; omega))
    · have HD := hid (decide_eq_false (show ¬ CntR x by unfold CntR; omega))
      generalize decide (CntR x) = D at *
      subst HD
      generalize rcC x = C at *
      go_enter Tryz.func191, Tryz.ntmps191
      go_wp2
      go_ret
      refine ⟨?_, hB⟩
      exact congrArg (fun b => Ending.returned (Value.bool b)) (by first | rfl | (simp; done) | (simp; omega))
set_option maxRecDepth 100000 in
set_option maxHeartbeats 2000000 in
theorem inumberOf_any (w : World) (x : Rc) (ok : RcOk x) (hv : VerR x) : Calls Tryz.prog 193 #[.agg (rcC x).toArray] w fun e w' => e = .returned (.int .i64 (numR x.v x.f)) ∧ Below w.heap.size w w' := by
  have c0 := cell_new w (rcC x) 94 0 (.int .i64 x.v) rfl
  have c1 := cell_new w (rcC x) 94 1 (.int .i64 x.f) rfl
  have c2 := cell_new w (rcC x) 94 2 (.int .i64 x.p) rfl
  have c3 := cell_new w (rcC x) 94 3 (.int .i64 x.s) rfl
  have c4 := cell_new w (rcC x) 94 4 (.int .i64 x.r) rfl
  have c5 := cell_new w (rcC x) 94 5 (.int .i64 x.c) rfl
  have r0 := hnew w (.cells (rcC x).toArray 94)
  have hB := (Below.refl w.heap.size w).alloc (Nat.le_refl _) (.cells (rcC x).toArray 94)
  have HS := hid (show (Tryz.prog.info? 94).map (·.size) = some (rcC x).toArray.size by rw [Tryz.sizeRc, List.size_toArray, rcC_len ok])
  have KN := hid (fun w1 => number_any w1 x.v x.f hv.1 hv.2.1 hv.2.2.2)
  generalize rcC x = C at *
  generalize numR x.v x.f = I at *
  go_enter Tryz.func193, Tryz.ntmps193
  go_wp2_with fail
  refine (KN.out _).mono ?_
  rintro e w2 ⟨rfl, hb2⟩
  go_wp2
  go_ret
  exact ⟨rfl, hB.trans (hb2.mono hB.size)⟩
set_option maxRecDepth 100000 in
set_option maxHeartbeats 2000000 in
theorem linksFit_any (w : World) (x : Rc) (ok : RcOk x) (hv : VerR x) : Calls Tryz.prog 192 #[.agg (rcC x).toArray] w fun e w' => e = .returned (.bool (decide (LnkR x))) ∧ Below w.heap.size w w' := by
  have c0 := cell_new w (rcC x) 94 0 (.int .i64 x.v) rfl
  have c1 := cell_new w (rcC x) 94 1 (.int .i64 x.f) rfl
  have c2 := cell_new w (rcC x) 94 2 (.int .i64 x.p) rfl
  have c3 := cell_new w (rcC x) 94 3 (.int .i64 x.s) rfl
  have c4 := cell_new w (rcC x) 94 4 (.int .i64 x.r) rfl
  have c5 := cell_new w (rcC x) 94 5 (.int .i64 x.c) rfl
  have r0 := hnew w (.cells (rcC x).toArray 94)
  have hB := (Below.refl w.heap.size w).alloc (Nat.le_refl _) (.cells (rcC x).toArray 94)
  have HS := hid (show (Tryz.prog.info? 94).map (·.size) = some (rcC x).toArray.size by rw [Tryz.sizeRc, List.size_toArray, rcC_len ok])
  have KN := hid (fun w1 => inumberOf_any w1 x ok hv)
  have hI := numR_bd hv
  have hF := far_bd _ hI.1 hI.2
  have KS := hid (fun w1 => skipped_any w1 (numR x.v x.f) hI.1 hI.2)
  have KP := hid (fun w1 => mayBePage_any w1 x.p)
  have HL := hid (show LnkR x ↔ _ from by unfold LnkR; exact Iff.rfl)
  generalize decide_eq : decide (LnkR x) = D at *
  generalize rcC x = C at *
  generalize numR x.v x.f = I at *
  generalize far I = F at *
  go_enter Tryz.func192, Tryz.ntmps192
  go_wp2_with (first | refine wpList_load_row rfl 94 _ rfl _ rfl 94 _ _ _ r0 Tryz.underlying94 rfl HS.out ?_)
  refine (KN.out _).mono ?_
  rintro e w2 ⟨rfl, hb2⟩
  have B2 := hB.trans (hb2.mono hB.size)
  have hz : w.heap.size < (w.alloc (.cells C.toArray 94)).heap.size := by simp
  have d2 := (hb2.cell (p := ⟨w.heap.size, 2, none⟩) hz).trans c2
  have d3 := (hb2.cell (p := ⟨w.heap.size, 3, none⟩) hz).trans c3
  have hz2 := Nat.lt_of_lt_of_le hz hb2.size
  clear c0 c1 c2 c3 c4 c5 r0
  by_cases h1 : I = 1
  · by_cases h2 : x.p = 0
    · by_cases h3 : x.s = 0
      · go_wp2
        go_ret
        refine ⟨?_, B2⟩
        rw [← decide_eq, decide_eq_true (show LnkR x by rw [HL.out]; unfold PgR; omega)]
        exact congrArg (fun b => Ending.returned (Value.bool b)) (by first | rfl | (simp; done) | (simp; omega))
      · go_wp2
        go_ret
        refine ⟨?_, B2⟩
        rw [← decide_eq, decide_eq_false (show ¬ LnkR x by rw [HL.out]; unfold PgR; omega)]
        exact congrArg (fun b => Ending.returned (Value.bool b)) (by first | rfl | (simp; done) | (simp; omega))
    · go_wp2
      go_ret
      refine ⟨?_, B2⟩
      rw [← decide_eq, decide_eq_false (show ¬ LnkR x by rw [HL.out]; unfold PgR; omega)]
      exact congrArg (fun b => Ending.returned (Value.bool b)) (by first | rfl | (simp; done) | (simp; omega))
  · by_cases h2 : PgR x.p
    · rw [decide_eq_true h2] at KP
      go_wp2_with fail
      refine (KP.out _).mono ?_
      rintro e w3 ⟨rfl, hb3⟩
      have d2 := (hb3.cell (p := ⟨w.heap.size, 2, none⟩) hz2).trans d2
      have d3 := (hb3.cell (p := ⟨w.heap.size, 3, none⟩) hz2).trans d3
      have B3 := B2.trans (hb3.mono B2.size)
      have hz3 := Nat.lt_of_lt_of_le hz2 hb3.size
      go_wp2_with fail
      refine (KS.out _).mono ?_
      rintro e w4 ⟨rfl, hb4⟩
      have d2 := (hb4.cell (p := ⟨w.heap.size, 2, none⟩) hz3).trans d2
      have d3 := (hb4.cell (p := ⟨w.heap.size, 3, none⟩) hz3).trans d3
      have B4 := B3.trans (hb4.mono B3.size)
      have h2' := h2
      unfold PgR at h2'
      by_cases h3 : F = 0
      · by_cases h4 : x.s = 0
        · go_wp2
          go_ret
          refine ⟨?_, B4⟩
          rw [← decide_eq, decide_eq_true (show LnkR x by rw [HL.out]; unfold PgR; omega)]
          exact congrArg (fun b => Ending.returned (Value.bool b)) (by first | rfl | (simp; done) | (simp; omega))
        · go_wp2
          go_ret
          refine ⟨?_, B4⟩
          rw [← decide_eq, decide_eq_false (show ¬ LnkR x by rw [HL.out]; unfold PgR; omega)]
          exact congrArg (fun b => Ending.returned (Value.bool b)) (by first | rfl | (simp; done) | (simp; omega))
      · by_cases h4 : F = I - 1
        · by_cases h5 : x.s = x.p
          · go_wp2
            go_ret
            refine ⟨?_, B4⟩
            rw [← decide_eq, decide_eq_true (show LnkR x by rw [HL.out]; unfold PgR; omega)]
            exact congrArg (fun b => Ending.returned (Value.bool b)) (by first | rfl | (simp; done) | (simp; omega))
          · go_wp2
            go_ret
            refine ⟨?_, B4⟩
            rw [← decide_eq, decide_eq_false (show ¬ LnkR x by rw [HL.out]; unfold PgR; omega)]
            exact congrArg (fun b => Ending.returned (Value.bool b)) (by first | rfl | (simp; done) | (simp; omega))
        · by_cases h5 : 2 ≤ x.s
          · by_cases h6 : x.s < x.p
            · go_wp2
              go_ret
              refine ⟨?_, B4⟩
              rw [← decide_eq, decide_eq_true (show LnkR x by rw [HL.out]; unfold PgR; omega)]
              exact congrArg (fun b => Ending.returned (Value.bool b)) (by first | rfl | (simp; done) | (simp; omega))
            · go_wp2
              go_ret
              refine ⟨?_, B4⟩
              rw [← decide_eq, decide_eq_false (show ¬ LnkR x by rw [HL.out]; unfold PgR; omega)]
              exact congrArg (fun b => Ending.returned (Value.bool b)) (by first | rfl | (simp; done) | (simp; omega))
          · go_wp2
            go_ret
            refine ⟨?_, B4⟩
            rw [← decide_eq, decide_eq_false (show ¬ LnkR x by rw [HL.out]; unfold PgR; omega)]
            exact congrArg (fun b => Ending.returned (Value.bool b)) (by first | rfl | (simp; done) | (simp; omega))
    · rw [decide_eq_false h2] at KP
      go_wp2_with fail
      refine (KP.out _).mono ?_
      rintro e w3 ⟨rfl, hb3⟩
      have B3 := B2.trans (hb3.mono B2.size)
      unfold PgR at h2
      go_wp2
      go_ret
      refine ⟨?_, B3⟩
      rw [← decide_eq, decide_eq_false (show ¬ LnkR x by rw [HL.out]; unfold PgR; omega)]
      exact congrArg (fun b => Ending.returned (Value.bool b)) (by first | rfl | (simp; done) | (simp; omega))
end Go.Proofs.YtjpcegjgandnjaaGreatDoor
namespace Go.Proofs.YtjpcegjgandnjaaGreatDoor
set_option linter.unusedVariables false
set_option linter.unusedSimpArgs false
open Go.RowKit
attribute [local go_sem ↓] Go.wp_at_zero Go.wp_at_succ

set_option maxRecDepth 100000 in
set_option maxHeartbeats 4000000 in
theorem iright_any (w : World) (x : Rc) (ok : RcOk x) : Calls Tryz.prog 162 #[.agg (rcC x).toArray] w fun e w' => e = .returned (.bool (decide (RightR x))) ∧ Below w.heap.size w w' := by
  have d0 := (BK.nil w).alloc (rcC x) 94
  have k0 := hid (show (rcC x)[0]? = some (.int .i64 x.v) from rfl)
  have k1 := hid (show (rcC x)[1]? = some (.int .i64 x.f) from rfl)
  have k2 := hid (show (rcC x)[2]? = some (.int .i64 x.p) from rfl)
  have k3 := hid (show (rcC x)[3]? = some (.int .i64 x.s) from rfl)
  have k4 := hid (show (rcC x)[4]? = some (.int .i64 x.r) from rfl)
  have k5 := hid (show (rcC x)[5]? = some (.int .i64 x.c) from rfl)
  have HS := hid (show (Tryz.prog.info? 94).map (·.size) = some (rcC x).toArray.size by rw [Tryz.sizeRc, List.size_toArray, rcC_len ok])
  have KV := hid (fun w1 => versionFits_any w1 x ok)
  have KP := hid (fun w1 => mayBePage_any w1 x.r)
  have KC := hid (fun w1 => countFits_any w1 x ok)
  have KL := hid (fun hv w1 => linksFit_any w1 x ok hv)
  have HR := hid (show RightR x ↔ (VerR x ∧ (x.r = 0 ∨ PgR x.r) ∧ CntR x ∧ LnkR x) from Iff.rfl)
  generalize hD : decide (RightR x) = D at *
  generalize rcC x = C at *
  go_enter Tryz.func162, Tryz.ntmps162
  have r0 := d0.row (.head _)
  go_wp2_with (first | refine wpList_load_row_w (by rfl) 94 _ (by rfl) _ (by rfl) 94 _ _ _ r0 Tryz.underlying94 rfl HS.out ?_)
  refine (KV.out _).mono ?_
  rintro e w1 ⟨rfl, hb⟩
  have d1 := d0.call hb
  clear hb r0
  by_cases hv : VerR x
  · simp only [decide_eq_true hv]
    have c4 := d1.cell (.head _) k4.out
    by_cases h0 : x.r = 0
    · have r0 := d1.row (.head _)
      go_wp2_with (first | refine wpList_load_row_w (by rfl) 94 _ (by rfl) _ (by rfl) 94 _ _ _ r0 Tryz.underlying94 rfl HS.out ?_)
      refine (KC.out _).mono ?_
      rintro e w3 ⟨rfl, hb⟩
      have d3 := d1.call hb
      clear hb r0
      by_cases hc : CntR x
      · simp only [decide_eq_true hc]
        have r0 := d3.row (.head _)
        have KL := hid (KL.out hv)
        go_wp2_with (first | refine wpList_load_row_w (by rfl) 94 _ (by rfl) _ (by rfl) 94 _ _ _ r0 Tryz.underlying94 rfl HS.out ?_)
        refine (KL.out _).mono ?_
        rintro e w4 ⟨rfl, hb⟩
        have d4 := d3.call hb
        clear hb r0
        by_cases hl : LnkR x
        · simp only [decide_eq_true hl]
          go_wp2
          go_ret
          refine ⟨?_, d4.1⟩
          rw [← hD, decide_eq_true (show RightR x by rw [HR.out]; simp [*])]
          exact congrArg (fun b => Ending.returned (Value.bool b)) (by first | rfl | (simp; done) | (simp; omega))
        · simp only [decide_eq_false hl]
          go_wp2
          go_ret
          refine ⟨?_, d4.1⟩
          rw [← hD, decide_eq_false (show ¬ RightR x by rw [HR.out]; simp [*])]
          exact congrArg (fun b => Ending.returned (Value.bool b)) (by first | rfl | (simp; done) | (simp; omega))
      · simp only [decide_eq_false hc]
        go_wp2
        go_ret
        refine ⟨?_, d3.1⟩
        rw [← hD, decide_eq_false (show ¬ RightR x by rw [HR.out]; simp [*])]
        exact congrArg (fun b => Ending.returned (Value.bool b)) (by first | rfl | (simp; done) | (simp; omega))
    · go_wp2_with fail
      refine (KP.out _).mono ?_
      rintro e w2 ⟨rfl, hb⟩
      have d2 := d1.call hb
      clear hb
      clear c4
      by_cases hp : PgR x.r
      · simp only [decide_eq_true hp]
        have r0 := d2.row (.head _)
        go_wp2_with (first | refine wpList_load_row_w (by rfl) 94 _ (by rfl) _ (by rfl) 94 _ _ _ r0 Tryz.underlying94 rfl HS.out ?_)
        refine (KC.out _).mono ?_
        rintro e w3 ⟨rfl, hb⟩
        have d3 := d2.call hb
        clear hb r0
        by_cases hc : CntR x
        · simp only [decide_eq_true hc]
          have r0 := d3.row (.head _)
          have KL := hid (KL.out hv)
          go_wp2_with (first | refine wpList_load_row_w (by rfl) 94 _ (by rfl) _ (by rfl) 94 _ _ _ r0 Tryz.underlying94 rfl HS.out ?_)
          refine (KL.out _).mono ?_
          rintro e w4 ⟨rfl, hb⟩
          have d4 := d3.call hb
          clear hb r0
          by_cases hl : LnkR x
          · simp only [decide_eq_true hl]
            go_wp2
            go_ret
            refine ⟨?_, d4.1⟩
            rw [← hD, decide_eq_true (show RightR x by rw [HR.out]; simp [*])]
            exact congrArg (fun b => Ending.returned (Value.bool b)) (by first | rfl | (simp; done) | (simp; omega))
          · simp only [decide_eq_false hl]
            go_wp2
            go_ret
            refine ⟨?_, d4.1⟩
            rw [← hD, decide_eq_false (show ¬ RightR x by rw [HR.out]; simp [*])]
            exact congrArg (fun b => Ending.returned (Value.bool b)) (by first | rfl | (simp; done) | (simp; omega))
        · simp only [decide_eq_false hc]
          go_wp2
          go_ret
          refine ⟨?_, d3.1⟩
          rw [← hD, decide_eq_false (show ¬ RightR x by rw [HR.out]; simp [*])]
          exact congrArg (fun b => Ending.returned (Value.bool b)) (by first | rfl | (simp; done) | (simp; omega))
      · simp only [decide_eq_false hp]
        go_wp2
        go_ret
        refine ⟨?_, d2.1⟩
        rw [← hD, decide_eq_false (show ¬ RightR x by rw [HR.out]; simp [*])]
        exact congrArg (fun b => Ending.returned (Value.bool b)) (by first | rfl | (simp; done) | (simp; omega))
  · simp only [decide_eq_false hv]
    go_wp2
    go_ret
    refine ⟨?_, d1.1⟩
    rw [← hD, decide_eq_false (show ¬ RightR x by rw [HR.out]; simp [*])]
    exact congrArg (fun b => Ending.returned (Value.bool b)) (by first | rfl | (simp; done) | (simp; omega))
end Go.Proofs.YtjpcegjgandnjaaGreatDoor
