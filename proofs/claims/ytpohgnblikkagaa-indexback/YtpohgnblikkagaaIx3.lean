import Derived.Test.YtpohgnblikkagaaIx2
namespace Go.Proofs.Ytpohgnblikkagaa
set_option linter.unusedVariables false
set_option linter.unusedSimpArgs false
open Go.RowKit
attribute [local go_sem ↓] Go.wp_at_zero Go.wp_at_succ

set_option maxRecDepth 100000 in
set_option maxHeartbeats 4000000 in
theorem iright_any (w : World) (x : Rc) (ok : RcOk x) : Calls Try.prog 11 #[.agg (rcC x).toArray] w fun e w' => e = .returned (.bool (decide (RightR x))) ∧ Below w.heap.size w w' := by
  have d0 := (BK.nil w).alloc (rcC x) 25
  have k0 := hid (show (rcC x)[0]? = some (.int .i64 x.v) from rfl)
  have k1 := hid (show (rcC x)[1]? = some (.int .i64 x.f) from rfl)
  have k2 := hid (show (rcC x)[2]? = some (.int .i64 x.p) from rfl)
  have k3 := hid (show (rcC x)[3]? = some (.int .i64 x.s) from rfl)
  have k4 := hid (show (rcC x)[4]? = some (.int .i64 x.r) from rfl)
  have k5 := hid (show (rcC x)[5]? = some (.int .i64 x.c) from rfl)
  have HS := hid (show (Try.prog.info? 25).map (·.size) = some (rcC x).toArray.size by rw [Try.sizeRc, List.size_toArray, rcC_len ok])
  have KV := hid (fun w1 => versionFits_any w1 x ok)
  have KP := hid (fun w1 => mayBePage_any w1 x.r)
  have KC := hid (fun w1 => countFits_any w1 x ok)
  have KL := hid (fun hv w1 => linksFit_any w1 x ok hv)
  have HR := hid (show RightR x ↔ (VerR x ∧ (x.r = 0 ∨ PgR x.r) ∧ CntR x ∧ LnkR x) from Iff.rfl)
  generalize hD : decide (RightR x) = D at *
  generalize rcC x = C at *
  go_enter Try.func11, Try.ntmps11
  have r0 := d0.row (.head _)
  go_wp2_with (first | refine wpList_load_row_w (by rfl) 25 _ (by rfl) _ (by rfl) 25 _ _ _ r0 Try.underlying25 rfl HS.out ?_)
  refine (KV.out _).mono ?_
  rintro e w1 ⟨rfl, hb⟩
  have d1 := d0.call hb
  clear hb r0
  by_cases hv : VerR x
  · simp only [decide_eq_true hv]
    have c4 := d1.cell (.head _) k4.out
    by_cases h0 : x.r = 0
    · have r0 := d1.row (.head _)
      go_wp2_with (first | refine wpList_load_row_w (by rfl) 25 _ (by rfl) _ (by rfl) 25 _ _ _ r0 Try.underlying25 rfl HS.out ?_)
      refine (KC.out _).mono ?_
      rintro e w3 ⟨rfl, hb⟩
      have d3 := d1.call hb
      clear hb r0
      by_cases hc : CntR x
      · simp only [decide_eq_true hc]
        have r0 := d3.row (.head _)
        have KL := hid (KL.out hv)
        go_wp2_with (first | refine wpList_load_row_w (by rfl) 25 _ (by rfl) _ (by rfl) 25 _ _ _ r0 Try.underlying25 rfl HS.out ?_)
        refine (KL.out _).mono ?_
        rintro e w4 ⟨rfl, hb⟩
        have d4 := d3.call hb
        clear hb r0
        by_cases hl : LnkR x
        · simp only [decide_eq_true hl]
          go_wp2
          go_ret
          refine ⟨?_, d4.1⟩
          rw [← hD, decide_eq_true (show RightR x by rw [HR.out]; simp [*])]
          exact congrArg (fun b => Ending.returned (Value.bool b)) (by first | rfl | (simp; done) | (simp; omega))
        · simp only [decide_eq_false hl]
          go_wp2
          go_ret
          refine ⟨?_, d4.1⟩
          rw [← hD, decide_eq_false (show ¬ RightR x by rw [HR.out]; simp [*])]
          exact congrArg (fun b => Ending.returned (Value.bool b)) (by first | rfl | (simp; done) | (simp; omega))
      · simp only [decide_eq_false hc]
        go_wp2
        go_ret
        refine ⟨?_, d3.1⟩
        rw [← hD, decide_eq_false (show ¬ RightR x by rw [HR.out]; simp [*])]
        exact congrArg (fun b => Ending.returned (Value.bool b)) (by first | rfl | (simp; done) | (simp; omega))
    · go_wp2_with fail
      refine (KP.out _).mono ?_
      rintro e w2 ⟨rfl, hb⟩
      have d2 := d1.call hb
      clear hb
      clear c4
      by_cases hp : PgR x.r
      · simp only [decide_eq_true hp]
        have r0 := d2.row (.head _)
        go_wp2_with (first | refine wpList_load_row_w (by rfl) 25 _ (by rfl) _ (by rfl) 25 _ _ _ r0 Try.underlying25 rfl HS.out ?_)
        refine (KC.out _).mono ?_
        rintro e w3 ⟨rfl, hb⟩
        have d3 := d2.call hb
        clear hb r0
        by_cases hc : CntR x
        · simp only [decide_eq_true hc]
          have r0 := d3.row (.head _)
          have KL := hid (KL.out hv)
          go_wp2_with (first | refine wpList_load_row_w (by rfl) 25 _ (by rfl) _ (by rfl) 25 _ _ _ r0 Try.underlying25 rfl HS.out ?_)
          refine (KL.out _).mono ?_
          rintro e w4 ⟨rfl, hb⟩
          have d4 := d3.call hb
          clear hb r0
          by_cases hl : LnkR x
          · simp only [decide_eq_true hl]
            go_wp2
            go_ret
            refine ⟨?_, d4.1⟩
            rw [← hD, decide_eq_true (show RightR x by rw [HR.out]; simp [*])]
            exact congrArg (fun b => Ending.returned (Value.bool b)) (by first | rfl | (simp; done) | (simp; omega))
          · simp only [decide_eq_false hl]
            go_wp2
            go_ret
            refine ⟨?_, d4.1⟩
            rw [← hD, decide_eq_false (show ¬ RightR x by rw [HR.out]; simp [*])]
            exact congrArg (fun b => Ending.returned (Value.bool b)) (by first | rfl | (simp; done) | (simp; omega))
        · simp only [decide_eq_false hc]
          go_wp2
          go_ret
          refine ⟨?_, d3.1⟩
          rw [← hD, decide_eq_false (show ¬ RightR x by rw [HR.out]; simp [*])]
          exact congrArg (fun b => Ending.returned (Value.bool b)) (by first | rfl | (simp; done) | (simp; omega))
      · simp only [decide_eq_false hp]
        go_wp2
        go_ret
        refine ⟨?_, d2.1⟩
        rw [← hD, decide_eq_false (show ¬ RightR x by rw [HR.out]; simp [*])]
        exact congrArg (fun b => Ending.returned (Value.bool b)) (by first | rfl | (simp; done) | (simp; omega))
  · simp only [decide_eq_false hv]
    go_wp2
    go_ret
    refine ⟨?_, d1.1⟩
    rw [← hD, decide_eq_false (show ¬ RightR x by rw [HR.out]; simp [*])]
    exact congrArg (fun b => Ending.returned (Value.bool b)) (by first | rfl | (simp; done) | (simp; omega))
set_option maxRecDepth 100000 in
set_option maxHeartbeats 4000000 in
theorem lright_any (w : World) (x : Rc) (ok : RcOk x) : Calls Try.prog 5 #[.agg (rcC x).toArray] w fun e w' => e = .returned (.bool (decide (RightR x))) ∧ Below w.heap.size w w' := by
  have d0 := (BK.nil w).alloc (rcC x) 25
  have k0 := hid (show (rcC x)[0]? = some (.int .i64 x.v) from rfl)
  have k1 := hid (show (rcC x)[1]? = some (.int .i64 x.f) from rfl)
  have k2 := hid (show (rcC x)[2]? = some (.int .i64 x.p) from rfl)
  have k3 := hid (show (rcC x)[3]? = some (.int .i64 x.s) from rfl)
  have k4 := hid (show (rcC x)[4]? = some (.int .i64 x.r) from rfl)
  have k5 := hid (show (rcC x)[5]? = some (.int .i64 x.c) from rfl)
  have HS := hid (show (Try.prog.info? 25).map (·.size) = some (rcC x).toArray.size by rw [Try.sizeRc, List.size_toArray, rcC_len ok])
  have KR := hid (fun w1 => lpage_any w1 x.r)
  have KP := hid (fun w1 => lpage_any w1 x.p)
  have KS := hid (fun w1 => lpage_any w1 x.s)
  have KN := hid (fun h1 h2 h3 w1 => lnumberOf_any w1 x.v x.f h1 h2 h3)
  have HI := hid (fun h => numR_bd (x := x) h)
  have HF := hid (fun h => far_bd (numR x.v x.f) (numR_bd (x := x) h).1 (numR_bd (x := x) h).2)
  have HB := hid (show bits .and .i64 (numR x.v x.f) (numR x.v x.f - 1) = far (numR x.v x.f) from rfl)
  have HR := hid (show RightR x ↔ ((0 ≤ x.f ∧ x.f ≤ x.v ∧ 1 ≤ x.v ∧ x.v ≤ 1073741824) ∧ (x.r = 0 ∨ PgR x.r) ∧ ((x.r = 0 ∧ x.c = 0) ∨ (x.r ≠ 0 ∧ 1 ≤ x.c ∧ x.c ≤ 4096)) ∧ ((numR x.v x.f = 1 ∧ x.p = 0 ∧ x.s = 0) ∨ (numR x.v x.f ≠ 1 ∧ PgR x.p ∧ ((far (numR x.v x.f) = 0 ∧ x.s = 0) ∨ (far (numR x.v x.f) ≠ 0 ∧ ((far (numR x.v x.f) = numR x.v x.f - 1 ∧ x.s = x.p) ∨ (far (numR x.v x.f) ≠ numR x.v x.f - 1 ∧ 2 ≤ x.s ∧ x.s < x.p))))))) from Iff.rfl)
  unfold VerR at HI HF
  generalize hD : decide (RightR x) = D at *
  generalize rcC x = C at *
  generalize numR x.v x.f = I at *
  generalize far I = F at *
  have c0 := d0.cell (.head _) k0.out
  have c1 := d0.cell (.head _) k1.out
  have c4 := d0.cell (.head _) k4.out
  have c5 := d0.cell (.head _) k5.out
  go_enter Try.func5, Try.ntmps5
  by_cases q0 : x.f < 0
  · go_wp2
    go_ret
    refine ⟨?_, d0.1⟩
    rw [← hD, decide_eq_false (show ¬ RightR x by rw [HR.out]; unfold PgR; omega)]
    exact congrArg (fun b => Ending.returned (Value.bool b)) (by first | rfl | (simp; done) | (simp; omega))
  · by_cases q1 : 1073741824 < x.f
    · go_wp2
      go_ret
      refine ⟨?_, d0.1⟩
      rw [← hD, decide_eq_false (show ¬ RightR x by rw [HR.out]; unfold PgR; omega)]
      exact congrArg (fun b => Ending.returned (Value.bool b)) (by first | rfl | (simp; done) | (simp; omega))
    · by_cases q2 : x.v < 1
      · go_wp2
        go_ret
        refine ⟨?_, d0.1⟩
        rw [← hD, decide_eq_false (show ¬ RightR x by rw [HR.out]; unfold PgR; omega)]
        exact congrArg (fun b => Ending.returned (Value.bool b)) (by first | rfl | (simp; done) | (simp; omega))
      · by_cases q3 : 1073741824 < x.v
        · go_wp2
          go_ret
          refine ⟨?_, d0.1⟩
          rw [← hD, decide_eq_false (show ¬ RightR x by rw [HR.out]; unfold PgR; omega)]
          exact congrArg (fun b => Ending.returned (Value.bool b)) (by first | rfl | (simp; done) | (simp; omega))
        · by_cases q4 : x.v < x.f
          · go_wp2
            go_ret
            refine ⟨?_, d0.1⟩
            rw [← hD, decide_eq_false (show ¬ RightR x by rw [HR.out]; unfold PgR; omega)]
            exact congrArg (fun b => Ending.returned (Value.bool b)) (by first | rfl | (simp; done) | (simp; omega))
          · by_cases q5 : x.c < 0
            · go_wp2
              go_ret
              refine ⟨?_, d0.1⟩
              rw [← hD, decide_eq_false (show ¬ RightR x by rw [HR.out]; unfold PgR; omega)]
              exact congrArg (fun b => Ending.returned (Value.bool b)) (by first | rfl | (simp; done) | (simp; omega))
            · by_cases q6 : 4096 < x.c
              · go_wp2
                go_ret
                refine ⟨?_, d0.1⟩
                rw [← hD, decide_eq_false (show ¬ RightR x by rw [HR.out]; unfold PgR; omega)]
                exact congrArg (fun b => Ending.returned (Value.bool b)) (by first | rfl | (simp; done) | (simp; omega))
              · by_cases h0 : x.r = 0
                · by_cases hc : x.c = 0
                  · have hI := HI.out ⟨by omega, by omega, by omega, by omega⟩
                    have hF := HF.out ⟨by omega, by omega, by omega, by omega⟩
                    have KN := hid (KN.out (by omega) (by omega) (by omega))
                    go_wp2_with fail
                    refine (KN.out _).mono ?_
                    rintro e w5 ⟨rfl, hb⟩
                    have d5 := d0.call hb
                    clear hb
                    clear c0 c1 c4 c5
                    have c2 := d5.cell (.head _) k2.out
                    have c3 := d5.cell (.head _) k3.out
                    by_cases h1 : I = 1
                    · by_cases h2 : x.p = 0
                      · by_cases h3 : x.s = 0
                        · go_wp2
                          go_ret
                          refine ⟨?_, d5.1⟩
                          rw [← hD, decide_eq_true (show RightR x by rw [HR.out]; unfold PgR; omega)]
                          exact congrArg (fun b => Ending.returned (Value.bool b)) (by first | rfl | (simp; done) | (simp; omega))
                        · go_wp2
                          go_ret
                          refine ⟨?_, d5.1⟩
                          rw [← hD, decide_eq_false (show ¬ RightR x by rw [HR.out]; unfold PgR; omega)]
                          exact congrArg (fun b => Ending.returned (Value.bool b)) (by first | rfl | (simp; done) | (simp; omega))
                      · go_wp2
                        go_ret
                        refine ⟨?_, d5.1⟩
                        rw [← hD, decide_eq_false (show ¬ RightR x by rw [HR.out]; unfold PgR; omega)]
                        exact congrArg (fun b => Ending.returned (Value.bool b)) (by first | rfl | (simp; done) | (simp; omega))
                    · go_wp2_with fail
                      skip
                      refine (KP.out _).mono ?_
                      rintro e w6 ⟨rfl, hb⟩
                      have d6 := d5.call hb
                      clear hb c2 c3
                      have c2 := d6.cell (.head _) k2.out
                      have c3 := d6.cell (.head _) k3.out
                      simp only [HB.out]
                      by_cases hp : PgR x.p
                      · simp only [decide_eq_true hp]
                        have hp2 := hp
                        unfold PgR at hp2
                        by_cases h2 : F = 0
                        · have b2 : (F == (0 : Int)) = true := by simp [h2]
                          by_cases h3 : x.s = 0
                          · have b3 : (x.s == (0 : Int)) = true := by simp [h3]
                            go_wp2
                            go_ret
                            refine ⟨?_, d6.1⟩
                            rw [← hD, decide_eq_true (show RightR x by rw [HR.out]; unfold PgR; omega)]
                            exact congrArg (fun b => Ending.returned (Value.bool b)) (by first | rfl | (simp; done) | (simp; omega))
                          · have b3 : (x.s == (0 : Int)) = false := by simp [h3]
                            go_wp2
                            go_ret
                            refine ⟨?_, d6.1⟩
                            rw [← hD, decide_eq_false (show ¬ RightR x by rw [HR.out]; unfold PgR; omega)]
                            exact congrArg (fun b => Ending.returned (Value.bool b)) (by first | rfl | (simp; done) | (simp; omega))
                        · have b2 : (F == (0 : Int)) = false := by simp [h2]
                          by_cases h3 : x.s = 0
                          · have b3 : (x.s == (0 : Int)) = true := by simp [h3]
                            go_wp2
                            go_ret
                            refine ⟨?_, d6.1⟩
                            rw [← hD, decide_eq_false (show ¬ RightR x by rw [HR.out]; unfold PgR; omega)]
                            exact congrArg (fun b => Ending.returned (Value.bool b)) (by first | rfl | (simp; done) | (simp; omega))
                          · have b3 : (x.s == (0 : Int)) = false := by simp [h3]
                            by_cases h4 : F = I - 1
                            · have b4 : ((I - 1 : Int) == 0) = false := by simp; omega
                              have b5 : (x.p == (0 : Int)) = false := by simp; omega
                              by_cases h5 : x.s = x.p
                              · go_wp2
                                go_ret
                                refine ⟨?_, d6.1⟩
                                rw [← hD, decide_eq_true (show RightR x by rw [HR.out]; unfold PgR; omega)]
                                exact congrArg (fun b => Ending.returned (Value.bool b)) (by first | rfl | (simp; done) | (simp; omega))
                              · go_wp2
                                go_ret
                                refine ⟨?_, d6.1⟩
                                rw [← hD, decide_eq_false (show ¬ RightR x by rw [HR.out]; unfold PgR; omega)]
                                exact congrArg (fun b => Ending.returned (Value.bool b)) (by first | rfl | (simp; done) | (simp; omega))
                            · go_wp2_with fail
                              refine (KS.out _).mono ?_
                              rintro e w7 ⟨rfl, hb⟩
                              have d7 := d6.call hb
                              clear hb
                              clear c2 c3
                              have c2 := d7.cell (.head _) k2.out
                              have c3 := d7.cell (.head _) k3.out
                              by_cases hs : PgR x.s
                              · simp only [decide_eq_true hs]
                                have hs2 := hs
                                unfold PgR at hs2
                                by_cases h6 : x.s < x.p
                                · go_wp2
                                  go_ret
                                  refine ⟨?_, d7.1⟩
                                  rw [← hD, decide_eq_true (show RightR x by rw [HR.out]; unfold PgR; omega)]
                                  exact congrArg (fun b => Ending.returned (Value.bool b)) (by first | rfl | (simp; done) | (simp; omega))
                                · go_wp2
                                  go_ret
                                  refine ⟨?_, d7.1⟩
                                  rw [← hD, decide_eq_false (show ¬ RightR x by rw [HR.out]; unfold PgR; omega)]
                                  exact congrArg (fun b => Ending.returned (Value.bool b)) (by first | rfl | (simp; done) | (simp; omega))
                              · simp only [decide_eq_false hs]
                                have hs2 := hs
                                unfold PgR at hs2
                                go_wp2
                                go_ret
                                refine ⟨?_, d7.1⟩
                                rw [← hD, decide_eq_false (show ¬ RightR x by rw [HR.out]; unfold PgR; omega)]
                                exact congrArg (fun b => Ending.returned (Value.bool b)) (by first | rfl | (simp; done) | (simp; omega))
                      · simp only [decide_eq_false hp]
                        have hp2 := hp
                        unfold PgR at hp2
                        go_wp2
                        go_ret
                        refine ⟨?_, d6.1⟩
                        rw [← hD, decide_eq_false (show ¬ RightR x by rw [HR.out]; unfold PgR; omega)]
                        exact congrArg (fun b => Ending.returned (Value.bool b)) (by first | rfl | (simp; done) | (simp; omega))
                  · go_wp2
                    go_ret
                    refine ⟨?_, d0.1⟩
                    rw [← hD, decide_eq_false (show ¬ RightR x by rw [HR.out]; unfold PgR; omega)]
                    exact congrArg (fun b => Ending.returned (Value.bool b)) (by first | rfl | (simp; done) | (simp; omega))
                · by_cases hc : x.c = 0
                  · go_wp2
                    go_ret
                    refine ⟨?_, d0.1⟩
                    rw [← hD, decide_eq_false (show ¬ RightR x by rw [HR.out]; unfold PgR; omega)]
                    exact congrArg (fun b => Ending.returned (Value.bool b)) (by first | rfl | (simp; done) | (simp; omega))
                  · have b0 : (x.r == (0 : Int)) = false := by simp [h0]
                    have bc : (x.c == (0 : Int)) = false := by simp [hc]
                    go_wp2_with fail
                    refine (KR.out _).mono ?_
                    rintro e w2 ⟨rfl, hb⟩
                    have d2 := d0.call hb
                    clear hb
                    clear c0 c1 c4 c5
                    have c0 := d2.cell (.head _) k0.out
                    have c1 := d2.cell (.head _) k1.out
                    have c4 := d2.cell (.head _) k4.out
                    have c5 := d2.cell (.head _) k5.out
                    by_cases hr : PgR x.r
                    · simp only [decide_eq_true hr]
                      have hr2 := hr
                      unfold PgR at hr2
                      have hI := HI.out ⟨by omega, by omega, by omega, by omega⟩
                      have hF := HF.out ⟨by omega, by omega, by omega, by omega⟩
                      have KN := hid (KN.out (by omega) (by omega) (by omega))
                      go_wp2_with fail
                      refine (KN.out _).mono ?_
                      rintro e w5 ⟨rfl, hb⟩
                      have d5 := d2.call hb
                      clear hb
                      clear c0 c1 c4 c5
                      have c2 := d5.cell (.head _) k2.out
                      have c3 := d5.cell (.head _) k3.out
                      by_cases h1 : I = 1
                      · by_cases h2 : x.p = 0
                        · by_cases h3 : x.s = 0
                          · go_wp2
                            go_ret
                            refine ⟨?_, d5.1⟩
                            rw [← hD, decide_eq_true (show RightR x by rw [HR.out]; unfold PgR; omega)]
                            exact congrArg (fun b => Ending.returned (Value.bool b)) (by first | rfl | (simp; done) | (simp; omega))
                          · go_wp2
                            go_ret
                            refine ⟨?_, d5.1⟩
                            rw [← hD, decide_eq_false (show ¬ RightR x by rw [HR.out]; unfold PgR; omega)]
                            exact congrArg (fun b => Ending.returned (Value.bool b)) (by first | rfl | (simp; done) | (simp; omega))
                        · go_wp2
                          go_ret
                          refine ⟨?_, d5.1⟩
                          rw [← hD, decide_eq_false (show ¬ RightR x by rw [HR.out]; unfold PgR; omega)]
                          exact congrArg (fun b => Ending.returned (Value.bool b)) (by first | rfl | (simp; done) | (simp; omega))
                      · go_wp2_with fail
                        skip
                        refine (KP.out _).mono ?_
                        rintro e w6 ⟨rfl, hb⟩
                        have d6 := d5.call hb
                        clear hb c2 c3
                        have c2 := d6.cell (.head _) k2.out
                        have c3 := d6.cell (.head _) k3.out
                        simp only [HB.out]
                        by_cases hp : PgR x.p
                        · simp only [decide_eq_true hp]
                          have hp2 := hp
                          unfold PgR at hp2
                          by_cases h2 : F = 0
                          · have b2 : (F == (0 : Int)) = true := by simp [h2]
                            by_cases h3 : x.s = 0
                            · have b3 : (x.s == (0 : Int)) = true := by simp [h3]
                              go_wp2
                              go_ret
                              refine ⟨?_, d6.1⟩
                              rw [← hD, decide_eq_true (show RightR x by rw [HR.out]; unfold PgR; omega)]
                              exact congrArg (fun b => Ending.returned (Value.bool b)) (by first | rfl | (simp; done) | (simp; omega))
                            · have b3 : (x.s == (0 : Int)) = false := by simp [h3]
                              go_wp2
                              go_ret
                              refine ⟨?_, d6.1⟩
                              rw [← hD, decide_eq_false (show ¬ RightR x by rw [HR.out]; unfold PgR; omega)]
                              exact congrArg (fun b => Ending.returned (Value.bool b)) (by first | rfl | (simp; done) | (simp; omega))
                          · have b2 : (F == (0 : Int)) = false := by simp [h2]
                            by_cases h3 : x.s = 0
                            · have b3 : (x.s == (0 : Int)) = true := by simp [h3]
                              go_wp2
                              go_ret
                              refine ⟨?_, d6.1⟩
                              rw [← hD, decide_eq_false (show ¬ RightR x by rw [HR.out]; unfold PgR; omega)]
                              exact congrArg (fun b => Ending.returned (Value.bool b)) (by first | rfl | (simp; done) | (simp; omega))
                            · have b3 : (x.s == (0 : Int)) = false := by simp [h3]
                              by_cases h4 : F = I - 1
                              · have b4 : ((I - 1 : Int) == 0) = false := by simp; omega
                                have b5 : (x.p == (0 : Int)) = false := by simp; omega
                                by_cases h5 : x.s = x.p
                                · go_wp2
                                  go_ret
                                  refine ⟨?_, d6.1⟩
                                  rw [← hD, decide_eq_true (show RightR x by rw [HR.out]; unfold PgR; omega)]
                                  exact congrArg (fun b => Ending.returned (Value.bool b)) (by first | rfl | (simp; done) | (simp; omega))
                                · go_wp2
                                  go_ret
                                  refine ⟨?_, d6.1⟩
                                  rw [← hD, decide_eq_false (show ¬ RightR x by rw [HR.out]; unfold PgR; omega)]
                                  exact congrArg (fun b => Ending.returned (Value.bool b)) (by first | rfl | (simp; done) | (simp; omega))
                              · go_wp2_with fail
                                refine (KS.out _).mono ?_
                                rintro e w7 ⟨rfl, hb⟩
                                have d7 := d6.call hb
                                clear hb
                                clear c2 c3
                                have c2 := d7.cell (.head _) k2.out
                                have c3 := d7.cell (.head _) k3.out
                                by_cases hs : PgR x.s
                                · simp only [decide_eq_true hs]
                                  have hs2 := hs
                                  unfold PgR at hs2
                                  by_cases h6 : x.s < x.p
                                  · go_wp2
                                    go_ret
                                    refine ⟨?_, d7.1⟩
                                    rw [← hD, decide_eq_true (show RightR x by rw [HR.out]; unfold PgR; omega)]
                                    exact congrArg (fun b => Ending.returned (Value.bool b)) (by first | rfl | (simp; done) | (simp; omega))
                                  · go_wp2
                                    go_ret
                                    refine ⟨?_, d7.1⟩
                                    rw [← hD, decide_eq_false (show ¬ RightR x by rw [HR.out]; unfold PgR; omega)]
                                    exact congrArg (fun b => Ending.returned (Value.bool b)) (by first | rfl | (simp; done) | (simp; omega))
                                · simp only [decide_eq_false hs]
                                  have hs2 := hs
                                  unfold PgR at hs2
                                  go_wp2
                                  go_ret
                                  refine ⟨?_, d7.1⟩
                                  rw [← hD, decide_eq_false (show ¬ RightR x by rw [HR.out]; unfold PgR; omega)]
                                  exact congrArg (fun b => Ending.returned (Value.bool b)) (by first | rfl | (simp; done) | (simp; omega))
                        · simp only [decide_eq_false hp]
                          have hp2 := hp
                          unfold PgR at hp2
                          go_wp2
                          go_ret
                          refine ⟨?_, d6.1⟩
                          rw [← hD, decide_eq_false (show ¬ RightR x by rw [HR.out]; unfold PgR; omega)]
                          exact congrArg (fun b => Ending.returned (Value.bool b)) (by first | rfl | (simp; done) | (simp; omega))
                    · simp only [decide_eq_false hr]
                      have hr2 := hr
                      unfold PgR at hr2
                      go_wp2
                      go_ret
                      refine ⟨?_, d2.1⟩
                      rw [← hD, decide_eq_false (show ¬ RightR x by rw [HR.out]; unfold PgR; omega)]
                      exact congrArg (fun b => Ending.returned (Value.bool b)) (by first | rfl | (simp; done) | (simp; omega))
end Go.Proofs.Ytpohgnblikkagaa
