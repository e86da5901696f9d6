import Derived.Test.YtpohgnblikkagaaIx1
namespace Go.Proofs.Ytpohgnblikkagaa
set_option linter.unusedVariables false
set_option linter.unusedSimpArgs false
open Go.RowKit
attribute [local go_sem ↓] Go.wp_at_zero Go.wp_at_succ

set_option maxRecDepth 100000 in
set_option maxHeartbeats 2000000 in
theorem mayBePage_any (w : World) (p : Int) : Calls Try.prog 19 #[.int .i64 p] w fun e w' => e = .returned (.bool (decide (PgR p))) ∧ Below w.heap.size w w' := by
  by_cases h1 : 2 ≤ p
  · by_cases h2 : p < 4096
    · have HD := hid (decide_eq_true (show PgR p by unfold PgR; omega))
      generalize decide (PgR p) = D at *
      subst HD
      go_enter Try.func19, Try.ntmps19
      go_wp2
      go_ret
      exact ⟨rfl, Below.refl _ _⟩
    · have HD := hid (decide_eq_false (show ¬ PgR p by unfold PgR; omega))
      generalize decide (PgR p) = D at *
      subst HD
      go_enter Try.func19, Try.ntmps19
      go_wp2
      go_ret
      exact ⟨rfl, Below.refl _ _⟩
  · have HD := hid (decide_eq_false (show ¬ PgR p by unfold PgR; omega))
    generalize decide (PgR p) = D at *
    subst HD
    go_enter Try.func19, Try.ntmps19
    go_wp2
    go_ret
    exact ⟨rfl, Below.refl _ _⟩
set_option maxRecDepth 100000 in
set_option maxHeartbeats 2000000 in
theorem lpage_any (w : World) (p : Int) : Calls Try.prog 12 #[.int .i64 p] w fun e w' => e = .returned (.bool (decide (PgR p))) ∧ Below w.heap.size w w' := by
  by_cases h1 : 2 ≤ p
  · by_cases h2 : p ≤ 4095
    · have HD := hid (decide_eq_true (show PgR p by unfold PgR; omega))
      generalize decide (PgR p) = D at *
      subst HD
      go_enter Try.func12, Try.ntmps12
      go_wp2
      go_ret
      exact ⟨rfl, Below.refl _ _⟩
    · have HD := hid (decide_eq_false (show ¬ PgR p by unfold PgR; omega))
      generalize decide (PgR p) = D at *
      subst HD
      go_enter Try.func12, Try.ntmps12
      go_wp2
      go_ret
      exact ⟨rfl, Below.refl _ _⟩
  · have HD := hid (decide_eq_false (show ¬ PgR p by unfold PgR; omega))
    generalize decide (PgR p) = D at *
    subst HD
    go_enter Try.func12, Try.ntmps12
    go_wp2
    go_ret
    exact ⟨rfl, Below.refl _ _⟩
set_option maxRecDepth 100000 in
set_option maxHeartbeats 2000000 in
theorem number_any (w : World) (v g : Int) (h1 : 0 ≤ g) (h2 : g ≤ v) (h3 : v ≤ 1073741824) : Calls Try.prog 24 #[.int .i64 v, .int .i64 g] w fun e w' => e = .returned (.int .i64 (numR v g)) ∧ Below w.heap.size w w' := by
  unfold numR
  by_cases h0 : g = 0
  · subst h0
    rw [if_pos rfl]
    go_enter Try.func24, Try.ntmps24
    go_wp2
    go_ret
    exact ⟨rfl, Below.refl _ _⟩
  · rw [if_neg h0]
    go_enter Try.func24, Try.ntmps24
    go_wp2
    go_ret
    exact ⟨rfl, Below.refl _ _⟩
set_option maxRecDepth 100000 in
set_option maxHeartbeats 2000000 in
theorem lnumberOf_any (w : World) (v g : Int) (h1 : 0 ≤ g) (h2 : g ≤ v) (h3 : v ≤ 1073741824) : Calls Try.prog 13 #[.int .i64 v, .int .i64 g] w fun e w' => e = .returned (.int .i64 (numR v g)) ∧ Below w.heap.size w w' := by
  unfold numR
  by_cases h0 : g = 0
  · subst h0
    rw [if_pos rfl]
    go_enter Try.func13, Try.ntmps13
    go_wp2
    go_ret
    exact ⟨rfl, Below.refl _ _⟩
  · rw [if_neg h0]
    go_enter Try.func13, Try.ntmps13
    go_wp2
    go_ret
    exact ⟨rfl, Below.refl _ _⟩
set_option maxRecDepth 100000 in
set_option maxHeartbeats 2000000 in
theorem skipped_any (w : World) (i : Int) (h1 : 1 ≤ i) (h2 : i ≤ 1073741825) : Calls Try.prog 23 #[.int .i64 i] w fun e w' => e = .returned (.int .i64 (far i)) ∧ Below w.heap.size w w' := by
  have HF := hid (show far i = bits .and .i64 i (i - 1) from rfl)
  generalize far i = F at *
  go_enter Try.func23, Try.ntmps23
  go_wp2
  go_ret
  exact ⟨by rw [HF.out]; rfl, Below.refl _ _⟩
theorem cell_new (w : World) (cs : List Value) (t : TypeId) (j : Nat) (v : Value) (h : cs[j]? = some v) : (w.alloc (.cells cs.toArray t)).cell? ⟨w.heap.size, j, none⟩ = some v := by
  rw [cell_of_row _ _ _ _ _ _ (hnew w (.cells cs.toArray t))]; simpa using h
set_option maxRecDepth 100000 in
set_option maxHeartbeats 2000000 in
theorem versionFits_any (w : World) (x : Rc) (ok : RcOk x) : Calls Try.prog 18 #[.agg (rcC x).toArray] w fun e w' => e = .returned (.bool (decide (VerR x))) ∧ Below w.heap.size w w' := by
  have c0 := cell_new w (rcC x) 25 0 (.int .i64 x.v) rfl
  have c1 := cell_new w (rcC x) 25 1 (.int .i64 x.f) rfl
  have c2 := cell_new w (rcC x) 25 2 (.int .i64 x.p) rfl
  have c3 := cell_new w (rcC x) 25 3 (.int .i64 x.s) rfl
  have c4 := cell_new w (rcC x) 25 4 (.int .i64 x.r) rfl
  have c5 := cell_new w (rcC x) 25 5 (.int .i64 x.c) rfl
  have r0 := hnew w (.cells (rcC x).toArray 25)
  have hB := (Below.refl w.heap.size w).alloc (Nat.le_refl _) (.cells (rcC x).toArray 25)
  have HS := hid (show (Try.prog.info? 25).map (·.size) = some (rcC x).toArray.size by rw [Try.sizeRc, List.size_toArray, rcC_len ok])
  by_cases h1 : 0 ≤ x.f
  · by_cases h2 : 1 ≤ x.f
    · by_cases h3 : x.f ≤ x.v
      · by_cases h4 : x.v ≤ 1073741824
        · have HD := hid (decide_eq_true (show VerR x by unfold VerR; omega))
          generalize decide (VerR x) = D at *
          subst HD
          generalize rcC x = C at *
          go_enter Try.func18, Try.ntmps18
          go_wp2
          go_ret
          refine ⟨?_, hB⟩
          exact congrArg (fun b => Ending.returned (Value.bool b)) (by first | rfl | (simp; done) | (simp; omega))
        · have HD := hid (decide_eq_false (show ¬ VerR x by unfold VerR; omega))
          generalize decide (VerR x) = D at *
          subst HD
          generalize rcC x = C at *
          go_enter Try.func18, Try.ntmps18
          go_wp2
          go_ret
          refine ⟨?_, hB⟩
          exact congrArg (fun b => Ending.returned (Value.bool b)) (by first | rfl | (simp; done) | (simp; omega))
      · have HD := hid (decide_eq_false (show ¬ VerR x by unfold VerR; omega))
        generalize decide (VerR x) = D at *
        subst HD
        generalize rcC x = C at *
        go_enter Try.func18, Try.ntmps18
        go_wp2
        go_ret
        refine ⟨?_, hB⟩
        exact congrArg (fun b => Ending.returned (Value.bool b)) (by first | rfl | (simp; done) | (simp; omega))
    · by_cases h3 : 1 ≤ x.v
      · by_cases h4 : x.v ≤ 1073741824
        · have HD := hid (decide_eq_true (show VerR x by unfold VerR; omega))
          generalize decide (VerR x) = D at *
          subst HD
          generalize rcC x = C at *
          go_enter Try.func18, Try.ntmps18
          go_wp2
          go_ret
          refine ⟨?_, hB⟩
          exact congrArg (fun b => Ending.returned (Value.bool b)) (by first | rfl | (simp; done) | (simp; omega))
        · have HD := hid (decide_eq_false (show ¬ VerR x by unfold VerR; omega))
          generalize decide (VerR x) = D at *
          subst HD
          generalize rcC x = C at *
          go_enter Try.func18, Try.ntmps18
          go_wp2
          go_ret
          refine ⟨?_, hB⟩
          exact congrArg (fun b => Ending.returned (Value.bool b)) (by first | rfl | (simp; done) | (simp; omega))
      · have HD := hid (decide_eq_false (show ¬ VerR x by unfold VerR; omega))
        generalize decide (VerR x) = D at *
        subst HD
        generalize rcC x = C at *
        go_enter Try.func18, Try.ntmps18
        go_wp2
        go_ret
        refine ⟨?_, hB⟩
        exact congrArg (fun b => Ending.returned (Value.bool b)) (by first | rfl | (simp; done) | (simp; omega))
  · have HD := hid (decide_eq_false (show ¬ VerR x by unfold VerR; omega))
    generalize decide (VerR x) = D at *
    subst HD
    generalize rcC x = C at *
    go_enter Try.func18, Try.ntmps18
    go_wp2
    go_ret
    refine ⟨?_, hB⟩
    exact congrArg (fun b => Ending.returned (Value.bool b)) (by first | rfl | (simp; done) | (simp; omega))
set_option maxRecDepth 100000 in
set_option maxHeartbeats 2000000 in
theorem countFits_any (w : World) (x : Rc) (ok : RcOk x) : Calls Try.prog 20 #[.agg (rcC x).toArray] w fun e w' => e = .returned (.bool (decide (CntR x))) ∧ Below w.heap.size w w' := by
  have c0 := cell_new w (rcC x) 25 0 (.int .i64 x.v) rfl
  have c1 := cell_new w (rcC x) 25 1 (.int .i64 x.f) rfl
  have c2 := cell_new w (rcC x) 25 2 (.int .i64 x.p) rfl
  have c3 := cell_new w (rcC x) 25 3 (.int .i64 x.s) rfl
  have c4 := cell_new w (rcC x) 25 4 (.int .i64 x.r) rfl
  have c5 := cell_new w (rcC x) 25 5 (.int .i64 x.c) rfl
  have r0 := hnew w (.cells (rcC x).toArray 25)
  have hB := (Below.refl w.heap.size w).alloc (Nat.le_refl _) (.cells (rcC x).toArray 25)
  have HS := hid (show (Try.prog.info? 25).map (·.size) = some (rcC x).toArray.size by rw [Try.sizeRc, List.size_toArray, rcC_len ok])
  by_cases h1 : x.r = 0
  · by_cases h2 : x.c = 0
    · have HD := hid (decide_eq_true (show CntR x by unfold CntR; omega))
      generalize decide (CntR x) = D at *
      subst HD
      generalize rcC x = C at *
      go_enter Try.func20, Try.ntmps20
      go_wp2
      go_ret
      refine ⟨?_, hB⟩
      exact congrArg (fun b => Ending.returned (Value.bool b)) (by first | rfl | (simp; done) | (simp; omega))
    · have HD := hid (decide_eq_false (show ¬ CntR x by unfold CntR; omega))
      generalize decide (CntR x) = D at *
      subst HD
      generalize rcC x = C at *
      go_enter Try.func20, Try.ntmps20
      go_wp2
      go_ret
      refine ⟨?_, hB⟩
      exact congrArg (fun b => Ending.returned (Value.bool b)) (by first | rfl | (simp; done) | (simp; omega))
  · by_cases h2 : 1 ≤ x.c
    · by_cases h3 : x.c ≤ 4096
      · have HD := hid (decide_eq_true (show CntR x by unfold CntR; omega))
        generalize decide (CntR x) = D at *
        subst HD
        generalize rcC x = C at *
        go_enter Try.func20, Try.ntmps20
        go_wp2
        go_ret
        refine ⟨?_, hB⟩
        exact congrArg (fun b => Ending.returned (Value.bool b)) (by first | rfl | (simp; done) | (simp; omega))
      · have HD := hid (decide_eq_false (show ¬ CntR x by unfold CntR; omega))
        generalize decide (CntR x) = D at *
        subst HD
        generalize rcC x = C at *
        go_enter Try.func20, Try.ntmps20
        go_wp2
        go_ret
        refine ⟨?_, hB⟩
        exact congrArg (fun b => Ending.returned (Value.bool b)) (by first | rfl | (simp; done) | (simp; omega))
    · have HD := hid (decide_eq_false (show ¬ CntR x by unfold CntR; omega))
      generalize decide (CntR x) = D at *
      subst HD
      generalize rcC x = C at *
      go_enter Try.func20, Try.ntmps20
      go_wp2
      go_ret
      refine ⟨?_, hB⟩
      exact congrArg (fun b => Ending.returned (Value.bool b)) (by first | rfl | (simp; done) | (simp; omega))
set_option maxRecDepth 100000 in
set_option maxHeartbeats 2000000 in
theorem inumberOf_any (w : World) (x : Rc) (ok : RcOk x) (hv : VerR x) : Calls Try.prog 22 #[.agg (rcC x).toArray] w fun e w' => e = .returned (.int .i64 (numR x.v x.f)) ∧ Below w.heap.size w w' := by
  have c0 := cell_new w (rcC x) 25 0 (.int .i64 x.v) rfl
  have c1 := cell_new w (rcC x) 25 1 (.int .i64 x.f) rfl
  have c2 := cell_new w (rcC x) 25 2 (.int .i64 x.p) rfl
  have c3 := cell_new w (rcC x) 25 3 (.int .i64 x.s) rfl
  have c4 := cell_new w (rcC x) 25 4 (.int .i64 x.r) rfl
  have c5 := cell_new w (rcC x) 25 5 (.int .i64 x.c) rfl
  have r0 := hnew w (.cells (rcC x).toArray 25)
  have hB := (Below.refl w.heap.size w).alloc (Nat.le_refl _) (.cells (rcC x).toArray 25)
  have HS := hid (show (Try.prog.info? 25).map (·.size) = some (rcC x).toArray.size by rw [Try.sizeRc, List.size_toArray, rcC_len ok])
  have KN := hid (fun w1 => number_any w1 x.v x.f hv.1 hv.2.1 hv.2.2.2)
  generalize rcC x = C at *
  generalize numR x.v x.f = I at *
  go_enter Try.func22, Try.ntmps22
  go_wp2_with fail
  refine (KN.out _).mono ?_
  rintro e w2 ⟨rfl, hb2⟩
  go_wp2
  go_ret
  exact ⟨rfl, hB.trans (hb2.mono hB.size)⟩
set_option maxRecDepth 100000 in
set_option maxHeartbeats 2000000 in
theorem linksFit_any (w : World) (x : Rc) (ok : RcOk x) (hv : VerR x) : Calls Try.prog 21 #[.agg (rcC x).toArray] w fun e w' => e = .returned (.bool (decide (LnkR x))) ∧ Below w.heap.size w w' := by
  have c0 := cell_new w (rcC x) 25 0 (.int .i64 x.v) rfl
  have c1 := cell_new w (rcC x) 25 1 (.int .i64 x.f) rfl
  have c2 := cell_new w (rcC x) 25 2 (.int .i64 x.p) rfl
  have c3 := cell_new w (rcC x) 25 3 (.int .i64 x.s) rfl
  have c4 := cell_new w (rcC x) 25 4 (.int .i64 x.r) rfl
  have c5 := cell_new w (rcC x) 25 5 (.int .i64 x.c) rfl
  have r0 := hnew w (.cells (rcC x).toArray 25)
  have hB := (Below.refl w.heap.size w).alloc (Nat.le_refl _) (.cells (rcC x).toArray 25)
  have HS := hid (show (Try.prog.info? 25).map (·.size) = some (rcC x).toArray.size by rw [Try.sizeRc, List.size_toArray, rcC_len ok])
  have KN := hid (fun w1 => inumberOf_any w1 x ok hv)
  have hI := numR_bd hv
  have hF := far_bd _ hI.1 hI.2
  have KS := hid (fun w1 => skipped_any w1 (numR x.v x.f) hI.1 hI.2)
  have KP := hid (fun w1 => mayBePage_any w1 x.p)
  have HL := hid (show LnkR x ↔ _ from by unfold LnkR; exact Iff.rfl)
  generalize decide_eq : decide (LnkR x) = D at *
  generalize rcC x = C at *
  generalize numR x.v x.f = I at *
  generalize far I = F at *
  go_enter Try.func21, Try.ntmps21
  go_wp2_with (first | refine wpList_load_row rfl 25 _ rfl _ rfl 25 _ _ _ r0 Try.underlying25 rfl HS.out ?_)
  refine (KN.out _).mono ?_
  rintro e w2 ⟨rfl, hb2⟩
  have B2 := hB.trans (hb2.mono hB.size)
  have hz : w.heap.size < (w.alloc (.cells C.toArray 25)).heap.size := by simp
  have d2 := (hb2.cell (p := ⟨w.heap.size, 2, none⟩) hz).trans c2
  have d3 := (hb2.cell (p := ⟨w.heap.size, 3, none⟩) hz).trans c3
  have hz2 := Nat.lt_of_lt_of_le hz hb2.size
  clear c0 c1 c2 c3 c4 c5 r0
  by_cases h1 : I = 1
  · by_cases h2 : x.p = 0
    · by_cases h3 : x.s = 0
      · go_wp2
        go_ret
        refine ⟨?_, B2⟩
        rw [← decide_eq, decide_eq_true (show LnkR x by rw [HL.out]; unfold PgR; omega)]
        exact congrArg (fun b => Ending.returned (Value.bool b)) (by first | rfl | (simp; done) | (simp; omega))
      · go_wp2
        go_ret
        refine ⟨?_, B2⟩
        rw [← decide_eq, decide_eq_false (show ¬ LnkR x by rw [HL.out]; unfold PgR; omega)]
        exact congrArg (fun b => Ending.returned (Value.bool b)) (by first | rfl | (simp; done) | (simp; omega))
    · go_wp2
      go_ret
      refine ⟨?_, B2⟩
      rw [← decide_eq, decide_eq_false (show ¬ LnkR x by rw [HL.out]; unfold PgR; omega)]
      exact congrArg (fun b => Ending.returned (Value.bool b)) (by first | rfl | (simp; done) | (simp; omega))
  · by_cases h2 : PgR x.p
    · rw [decide_eq_true h2] at KP
      go_wp2_with fail
      refine (KP.out _).mono ?_
      rintro e w3 ⟨rfl, hb3⟩
      have d2 := (hb3.cell (p := ⟨w.heap.size, 2, none⟩) hz2).trans d2
      have d3 := (hb3.cell (p := ⟨w.heap.size, 3, none⟩) hz2).trans d3
      have B3 := B2.trans (hb3.mono B2.size)
      have hz3 := Nat.lt_of_lt_of_le hz2 hb3.size
      go_wp2_with fail
      refine (KS.out _).mono ?_
      rintro e w4 ⟨rfl, hb4⟩
      have d2 := (hb4.cell (p := ⟨w.heap.size, 2, none⟩) hz3).trans d2
      have d3 := (hb4.cell (p := ⟨w.heap.size, 3, none⟩) hz3).trans d3
      have B4 := B3.trans (hb4.mono B3.size)
      have h2' := h2
      unfold PgR at h2'
      by_cases h3 : F = 0
      · by_cases h4 : x.s = 0
        · go_wp2
          go_ret
          refine ⟨?_, B4⟩
          rw [← decide_eq, decide_eq_true (show LnkR x by rw [HL.out]; unfold PgR; omega)]
          exact congrArg (fun b => Ending.returned (Value.bool b)) (by first | rfl | (simp; done) | (simp; omega))
        · go_wp2
          go_ret
          refine ⟨?_, B4⟩
          rw [← decide_eq, decide_eq_false (show ¬ LnkR x by rw [HL.out]; unfold PgR; omega)]
          exact congrArg (fun b => Ending.returned (Value.bool b)) (by first | rfl | (simp; done) | (simp; omega))
      · by_cases h4 : F = I - 1
        · by_cases h5 : x.s = x.p
          · go_wp2
            go_ret
            refine ⟨?_, B4⟩
            rw [← decide_eq, decide_eq_true (show LnkR x by rw [HL.out]; unfold PgR; omega)]
            exact congrArg (fun b => Ending.returned (Value.bool b)) (by first | rfl | (simp; done) | (simp; omega))
          · go_wp2
            go_ret
            refine ⟨?_, B4⟩
            rw [← decide_eq, decide_eq_false (show ¬ LnkR x by rw [HL.out]; unfold PgR; omega)]
            exact congrArg (fun b => Ending.returned (Value.bool b)) (by first | rfl | (simp; done) | (simp; omega))
        · by_cases h5 : 2 ≤ x.s
          · by_cases h6 : x.s < x.p
            · go_wp2
              go_ret
              refine ⟨?_, B4⟩
              rw [← decide_eq, decide_eq_true (show LnkR x by rw [HL.out]; unfold PgR; omega)]
              exact congrArg (fun b => Ending.returned (Value.bool b)) (by first | rfl | (simp; done) | (simp; omega))
            · go_wp2
              go_ret
              refine ⟨?_, B4⟩
              rw [← decide_eq, decide_eq_false (show ¬ LnkR x by rw [HL.out]; unfold PgR; omega)]
              exact congrArg (fun b => Ending.returned (Value.bool b)) (by first | rfl | (simp; done) | (simp; omega))
          · go_wp2
            go_ret
            refine ⟨?_, B4⟩
            rw [← decide_eq, decide_eq_false (show ¬ LnkR x by rw [HL.out]; unfold PgR; omega)]
            exact congrArg (fun b => Ending.returned (Value.bool b)) (by first | rfl | (simp; done) | (simp; omega))
    · rw [decide_eq_false h2] at KP
      go_wp2_with fail
      refine (KP.out _).mono ?_
      rintro e w3 ⟨rfl, hb3⟩
      have B3 := B2.trans (hb3.mono B2.size)
      unfold PgR at h2
      go_wp2
      go_ret
      refine ⟨?_, B3⟩
      rw [← decide_eq, decide_eq_false (show ¬ LnkR x by rw [HL.out]; unfold PgR; omega)]
      exact congrArg (fun b => Ending.returned (Value.bool b)) (by first | rfl | (simp; done) | (simp; omega))
end Go.Proofs.Ytpohgnblikkagaa
