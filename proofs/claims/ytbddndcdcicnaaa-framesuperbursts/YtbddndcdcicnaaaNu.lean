import Derived.Test.YtbddndcdcicnaaaNt
namespace Go.Proofs.Ytbddndcdcicnaaa
set_option linter.unusedVariables false
set_option linter.unusedSimpArgs false
open Go.RowKit
attribute [local go_sem ↓] Go.wp_at_zero Go.wp_at_succ

set_option maxRecDepth 100000 in
set_option maxHeartbeats 2000000 in
theorem superBursts_walk (w : World) (s : Sup) (a : Int) (pt : Nat) (hpt : pt < 4294967296) (i j m n : Int)
    (hi : -9223372036854775808 ≤ i ∧ i ≤ 9223372036854775807) (hj : -9223372036854775808 ≤ j ∧ j ≤ 9223372036854775807) (hm : -9223372036854775808 ≤ m ∧ m ≤ 9223372036854775807) (hn : -9223372036854775808 ≤ n ∧ n ≤ 9223372036854775807) :
    Calls Try.prog 5 #[.agg (supC s), .int .i64 a, .int .u32 pt, .int .i64 i, .int .i64 j, .int .i64 m, .int .i64 n] w fun e w' => e = .returned (.bool true) ∧ Below w.heap.size w w' := by
  have r0 := hnew w (.cells (supC s) 23)
  have b0 := below_new w (.cells (supC s) 23)
  have KSU := hid (show (Try.prog.info? 23).map (·.size) = some (supC s).size by rw [size_super]; rfl)
  have KZ1 := hid (show (Try.prog.info? 23).map (·.size) = some (supC sup0).size by rw [size_super]; rfl)
  have KZ2 := hid (show (supC sup0).all (·.oneCell') = true by simp [supC, Value.oneCell'])
  have KQ : ∀ w, (Op.equalIn 10000 23 (.agg (supC sup0)) (.agg #[.int .i64 0, .int .i64 0, .int .i64 0, .int .i64 0, .int .i64 0])).run Try.prog w = .ok true w := fun w => by
    have := eqSup sup0 sup0 w; rwa [show decide (sup0 = sup0) = true by simp] at this
  have KG := guardU
  go_enter Try.func5, Try.ntmps5
  go_wp2_with fail
  refine (knownSuper_any _).mono ?_
  rintro e w1 ⟨rfl, b1⟩
  have B1 := b0.trans (b1.mono b0.size)
  have r1 := hbel b1 r0 (hlt r0)
  clear b1 b0 r0
  cases hv : validS s
  · have hpk := packSuper_bad w1 s hv
    go_wp2_with (first
      | (refine wpList_load_row_w rfl 23 (.tmp 7) rfl w.heap.size rfl 23 (supC s) (0, 0) _ r1 Try.underlying23 rfl KSU.out ?_))
    refine hpk.mono ?_
    rintro e w2 ⟨rfl, b2⟩
    have B2 := B1.trans (b2.mono B1.size)
    clear hpk b2 B1 r1
    go_wp2
    go_ret
    exact ⟨rfl, B2⟩
  have hpk := packSuper_ok w1 s hv
  have hX8 := secS_byts s hv
  have hXY := superP_byts s hv
  have hXl := secS_len s
  have hXYl := superP_len s
  have hXC : feed ones (secS s) = CR := seal_CR _ (bodyS_byts s hv)
  replace hv := hid hv
  go_wp2_with (first
    | (refine wpList_load_row_w rfl 23 (.tmp 7) rfl w.heap.size rfl 23 (supC s) (0, 0) _ r1 Try.underlying23 rfl KSU.out ?_))
  refine hpk.mono ?_
  rintro e w2 ⟨g, rfl, hg, hr, b2⟩
  have B2 := B1.trans (b2.mono B1.size)
  clear hpk b2 B1 r1
  generalize secS s = X at *
  obtain ⟨Y, hY⟩ : ∃ Y : List Int, Y = List.replicate 192 0 := ⟨_, rfl⟩
  rw [← hY] at hXY hXYl hr
  have hYl : Y.length = 192 := by rw [hY, List.length_replicate]
  have hY8 : Byts Y := by rw [hY]; exact rep_byts _
  clear hY
  have hP2 := src_rowf hr 256 (by omega) (by decide)
  clear hr
  have KT := hid (fun (A : Int) (x1 : -31 ≤ A) (x2 : A < 512) => turned_burst w2 X Y hXY (by omega) 256 hXYl (by omega) hXC _ 256 hP2 A pt hpt x1 (by omega) 512 (by omega))
  have KO := hid (fun (X' : List Int) (x8 : Byts X') (xl : X'.length = 64) (A : Int) (hA : -9223372036854775808 ≤ A ∧ A ≤ 9223372036854775807) (w' : World) (sp' : Option Addr) (cap' : Nat) (hs' : Src w' sp' cap' (X' ++ Y)) =>
    turned_one w' X' Y (byts_app x8 hY8) (by omega) 256 (by rw [List.length_append, xl, hYl]) (by omega) sp' cap' hs' A hA 512 (by omega))
  have KW := hid (fun (w' : World) (R : List Int) (h8 : Byts R) (hR : R.length = 64) (hC : feed ones R ≠ CR) (sp : Option Addr) (cap : Nat) (hS : Src w' sp cap (R ++ Y)) => unSuper_wrong w' R Y (byts_app h8 hY8) hR hYl hC sp cap hS)
  have KM := hid (few_main i j m n X hX8 (by omega) (by omega) hXC)
  have l1 : (flO X i).length = 64 := by rw [flO_len, hXl]
  have l2 : (flO (flO X i) j).length = 64 := by rw [flO_len, l1]
  have l3 : (flO (flO (flO X i) j) m).length = 64 := by rw [flO_len, l2]
  have l4 : (flO (flO (flO (flO X i) j) m) n).length = 64 := by rw [flO_len, l3]
  have z1 : Byts (flO X i) := flO_byts hX8 i
  have z2 := flO_byts z1 j
  have z3 := flO_byts z2 m
  have z4 := flO_byts z3 n
  have hA : a < -31 ∨ (-31 ≤ a ∧ 512 ≤ a) ∨ (-31 ≤ a ∧ a < 512) := by omega
  rcases hA with a1 | ⟨a1, a2⟩ | ⟨a1, a2⟩
  all_goals
    go_wp2_with fail
    refine (KT.out _ (by omega) (by omega)).mono ?_
    rintro e w3 ⟨g5, uc, R, c, rfl, hs5, hR8, hRl, _, hRC, hc32, b5⟩
    have B3 := B2.trans (b5.mono B2.size)
    have hP3 := hP2.below b5 (Nat.le_refl _)
    rw [hXl] at hRl
    clear b5 B2 KT hP2
    have i32 : (c : Int) ≤ 32 := by omega
    by_cases hc : c = 0
    case' pos =>
      subst hc
      clear hs5 hRC
      have BW := B3
      have hPW := hP3
      clear B3 hP3
      go_wp2_with fail
    case' neg =>
      have huw := KW.out w3 R hR8 hRl (hRC hc) _ _ hs5
      have hc2 : (0 : Int) < (c : Int) := by omega
      clear hc hRC hs5
      go_wp2_with fail
      refine huw.mono ?_
      rintro e w4 ⟨rfl, b4⟩
      have B4 := B3.trans (b4.mono B3.size)
      have hP4 := hP3.below b4 (Nat.le_refl _)
      have rZ := hnew w4 (.cells (supC sup0) 23)
      have bZ := below_new w4 (.cells (supC sup0) 23)
      have B5 := B4.trans (bZ.mono B4.size)
      have hP5 := hP4.below bZ (Nat.le_refl _)
      clear b4 B3 huw hP3 B4 hP4 bZ
      go_wp2_with (first
        | (refine wpList_store_row rfl 23 _ _ rfl _ (supC sup0) rfl rfl 23 _ (by exact hnew _ _) KZ1.out rfl KZ2.out ?_; rw [setRow_alloc]; generalize w4.alloc (.cells (supC sup0) 23) = w5 at *; generalize w4.heap.size = G4 at *)
        | (refine wpList_load_row_w rfl 23 (.tmp 19) rfl G4 rfl 23 (supC sup0) (0, 0) _ rZ Try.underlying23 rfl KZ1.out ?_))
      have BW := B5
      have hPW := hP5
      clear B5 hP5 rZ
  all_goals
    refine (KO.out X hX8 hXl i hi _ _ _ hPW).mono ?_
    rintro e v1 ⟨g1, c1, q1, rfl, hs1, d1⟩
    have B1 := BW.trans (d1.mono BW.size)
    have hP1 := hPW.below d1 (Nat.le_refl _)
    clear d1 BW hPW
    go_wp2_with fail
    refine (KO.out _ z1 l1 j hj _ _ _ hs1).mono ?_
    rintro e v2 ⟨g2, c2, q2, rfl, hs2, d2⟩
    have B2 := B1.trans (d2.mono B1.size)
    have hP2 := hP1.below d2 (Nat.le_refl _)
    clear d2 B1 hP1 hs1
    go_wp2_with fail
    refine (KO.out _ z2 l2 m hm _ _ _ hs2).mono ?_
    rintro e v3 ⟨g3, c3, q3, rfl, hs3, d3⟩
    have B3 := B2.trans (d3.mono B2.size)
    have hP3 := hP2.below d3 (Nat.le_refl _)
    clear d3 B2 hP2 hs2
    go_wp2_with fail
    refine (KO.out _ z3 l3 n hn _ _ _ hs3).mono ?_
    rintro e v4 ⟨g4, c4, q4, rfl, hs4, d4⟩
    have B4 := B3.trans (d4.mono B3.size)
    have hP4 := hP3.below d4 (Nat.le_refl _)
    clear d4 B3 hP3 hs3 KO
    generalize flO (flO (flO (flO X i) j) m) n = R' at *
    have hsm := same_any v4 (X ++ Y) (R' ++ Y) _ _ _ _ hP4 hs4
    rw [hXYl, show (R' ++ Y).length = 256 by rw [List.length_append, l4, hYl]] at hsm
    rw [show decide (X ++ Y = R' ++ Y) = decide (X = R') by rw [decide_eq_decide]; exact List.append_left_inj Y] at hsm
    go_wp2_with fail
    refine hsm.mono ?_
    rintro e v5 ⟨rfl, d5⟩
    have B5 := B4.trans (d5.mono B4.size)
    have hs5 := hs4.below d5 (Nat.le_refl _)
    clear d5 B4 hs4 hP4 hsm
    by_cases hXR : X = R'
    · rw [show decide (X = R') = true by simpa using hXR]
      clear hXR KM
      go_wp2
      go_ret
      exact ⟨rfl, B5⟩
    · rw [show decide (X = R') = false by simpa using hXR]
      have huw := KW.out v5 R' z4 l4 (KM.out (fun h => hXR h.symm)) _ _ hs5
      clear hXR KM hs5 KW
      go_wp2_with fail
      refine huw.mono ?_
      rintro e v6 ⟨rfl, d6⟩
      have B6 := B5.trans (d6.mono B5.size)
      have rZ := hnew v6 (.cells (supC sup0) 23)
      have bZ := below_new v6 (.cells (supC sup0) 23)
      have B7 := B6.trans (bZ.mono B6.size)
      clear d6 B5 huw B6 bZ
      go_wp2_with (first
        | (refine wpList_store_row rfl 23 _ _ rfl _ (supC sup0) rfl rfl 23 _ (by exact hnew _ _) KZ1.out rfl KZ2.out ?_; rw [setRow_alloc]; generalize v6.alloc (.cells (supC sup0) 23) = v7 at *; generalize v6.heap.size = G6 at *)
        | (refine wpList_load_row_w rfl 23 (.tmp 23) rfl G6 rfl 23 (supC sup0) (0, 0) _ rZ Try.underlying23 rfl KZ1.out ?_))
      go_ret
      exact ⟨rfl, B7⟩
end Go.Proofs.Ytbddndcdcicnaaa
