import Derived.Test.YtbddndcdcicnaabN5
namespace Go.Proofs.Ytbddndcdcicnaab
set_option linter.unusedVariables false
set_option linter.unusedSimpArgs false
open Go.RowKit
attribute [local go_sem ↓] Go.wp_at_zero Go.wp_at_succ

set_option maxRecDepth 100000 in
set_option maxHeartbeats 4000000 in
theorem one_d (w : World) (s : Sup) (hv : validS s = true) (hg : s.ge < 1099511627776) (rise wh a : Int) (hr : -9223372036854775808 ≤ rise ∧ rise ≤ 9223372036854775807) (pt : Nat) (hpt : pt < 4294967296) (hpar : s.ge.tmod 2 = 1) (TW : Int) (hTW : wh.tmod 2 = TW) (hwh : (TW == 0) = false) (hTW2 : IntKind.i64.wrap TW = TW) :
    Calls Try.prog 4 #[.agg (supC s), .int .i64 rise, .int .i64 wh, .int .i64 a, .int .u32 pt] w fun e w' => e = .returned (.bool true) ∧ Below w.heap.size w w' := by
  have r5 := hnew w (.cells (supC s) 27)
  have B := below_new w (.cells (supC s) 27)
  have hvv := (validS_iff s).1 hv
  have HV := hid hv
  clear hv
  have g1 : 0 ≤ s.ge := by omega
  have g2 : ¬ (1099511627776 ≤ s.ge) := by omega
  have g3 : s.ge + 1 ≤ 9223372036854775807 := by omega
  have hq2 : (s.ge + 1).tmod 2 = 0 := by
    rw [Int.tmod_eq_emod_of_nonneg g1] at hpar
    rw [Int.tmod_eq_emod_of_nonneg (by omega)]
    omega
  have HQ2 := hid hq2
  clear hq2
  have KG := guardU
  go_enter Try.func4, Try.ntmps4
  go_wp2_with fail
  refine (knownSuper_any _).mono ?_
  rintro e w1 ⟨rfl, b1⟩
  replace r5 := hbel b1 r5 (hlt r5)
  replace B := B.trans (b1.mono B.size)
  clear b1
  go_wp2_with (first
    | (refine wpList_load_row_w (by rfl) 27 (.tmp 5) (by rfl) w.heap.size (by rfl) 27 (supC s) (0, 0) _ (by exact r5) Try.underlying27 rfl (supN s) ?_))
  refine (packSuper_ok w1 s HV.out).mono ?_
  rintro e w2 ⟨gA, rfl, hgA, rA, b2⟩
  replace r5 := hbel b2 r5 (hlt r5)
  replace B := B.trans (b2.mono B.size)
  clear b2
  have c5 : w2.cell? ⟨w.heap.size, 1, none⟩ = some (.int .i64 s.ge) := cell_of_row w2 _ 1 _ _ _ r5
  have r13 := hnew w2 (.cells (supC s) 27)
  have b3 := below_new w2 (.cells (supC s) 27)
  have n5 : w.heap.size ≠ w2.heap.size := fun h => absurd (hlt r5) (by omega)
  have hGw : w.heap.size ≤ w2.heap.size := Nat.le_of_lt (hlt r5)
  have nA : gA ≠ w2.heap.size := fun h => absurd (hlt rA) (by omega)
  have r5' := r5
  replace r5 := hbel b3 r5 (hlt r5)
  replace rA := hbel b3 rA (hlt rA)
  replace B := B.trans (b3.mono B.size)
  clear b3
  go_wp2_with (first
    | (refine wpList_load_row_w (by rfl) 27 (.tmp 5) (by rfl) w.heap.size (by rfl) 27 (supC s) (0, 0) _ (by first | exact r5 | exact r5') Try.underlying27 rfl (supN s) ?_)
    | (refine wpList_store_row (by rfl) 27 (.tmp 13) (.tmp 33) (by rfl) w2.heap.size (supC s) (by rfl) (by rfl) 27 _ (by exact hnew _ _) (supN s) (supZ s) (supO s) ?_; rw [setRow_alloc]; clear r5' c5; generalize w2.alloc (.cells (supC s) 27) = w3 at *; generalize w2.heap.size = G at *; have c5 : w3.cell? ⟨w.heap.size, 2, none⟩ = some (.int .i64 s.ma) := cell_of_row w3 _ 2 _ _ _ r5; have c6 : w3.cell? ⟨w.heap.size, 4, none⟩ = some (.int .i64 s.pg) := cell_of_row w3 _ 4 _ _ _ r5; have c13 : w3.cell? ⟨G, 1, none⟩ = some (.int .i64 s.ge) := cell_of_row w3 _ 1 _ _ _ r13; have f13 : w3.frozen? ⟨G, 1, none⟩ = false := frozen_of_row _ _ _ _ _ r13))
  replace r13 := heap_setCell_same w3 _ 1 _ _ (.int .i64 (s.ge + 1)) r13
  replace r5 := heap_set_far r5 ⟨G, 1, none⟩ (.int .i64 (s.ge + 1)) n5
  replace rA := heap_set_far rA ⟨G, 1, none⟩ (.int .i64 (s.ge + 1)) nA
  replace B := B.setCell (p := ⟨G, 1, none⟩) hGw (.int .i64 (s.ge + 1))
  generalize w3.setCell ⟨G, 1, none⟩ (.int .i64 (s.ge + 1)) = w4 at *
  clear c13 f13 c5 c6
  refine (whole_num w4 rise s.ma s.pg (by omega) (by omega) (by omega) hr).mono ?_
  rintro e w5 ⟨m, rfl, m1, m2, rfl⟩
  have c13 : w5.cell? ⟨G, 2, none⟩ = some (.int .i64 s.ma) := cell_of_row w5 _ 2 _ _ _ r13
  have f13 : w5.frozen? ⟨G, 2, none⟩ = false := frozen_of_row _ _ _ _ _ r13
  obtain ⟨u, hu⟩ : ∃ u : Sup, u = ⟨s.wd, s.ge + 1, m, s.hd, s.pg⟩ := ⟨_, rfl⟩
  have hvu : validS u = true := by rw [hu, validS_iff]; simp only; omega
  have hfol : Fol u s := by rw [hu]; exact ⟨rfl, rfl, rfl, m1⟩
  have huge : u.ge = s.ge + 1 := by rw [hu]
  have s13 : (w5.setCell ⟨G, 2, none⟩ (.int .i64 m)).heap[G]? = some (.cells (supC u) 27 (0, 0)) := by rw [hu]; exact heap_setCell_same w5 _ 2 _ _ (.int .i64 m) r13
  have HVU := hid hvu
  have HFO := hid hfol
  have HUG := hid huge
  clear hu hvu hfol huge
  have s5 := heap_set_far r5 ⟨G, 2, none⟩ (.int .i64 m) n5
  have sA := heap_set_far rA ⟨G, 2, none⟩ (.int .i64 m) nA
  have Bs := B.setCell (p := ⟨G, 2, none⟩) hGw (.int .i64 m)
  clear r13 r5 rA B
  go_wp2_with (first
    | (refine wpList_load_row_w (by rfl) 27 (.tmp 13) (by rfl) G (by rfl) 27 (supC u) (0, 0) _ (by exact s13) Try.underlying27 rfl (supN u) ?_))
  generalize w5.setCell ⟨G, 2, none⟩ (.int .i64 m) = w6 at *
  have r13 := s13
  have r5 := s5
  have rA := sA
  have B := Bs
  clear s13 s5 sA Bs c13 f13
  refine (packSuper_ok w6 u HVU.out).mono ?_
  rintro e w7 ⟨gB, rfl, hgB, rB, b7⟩
  replace r5 := hbel b7 r5 (hlt r5)
  replace r13 := hbel b7 r13 (hlt r13)
  replace rA := hbel b7 rA (hlt rA)
  replace B := B.trans (b7.mono B.size)
  clear b7
  have c5 : w7.cell? ⟨w.heap.size, 1, none⟩ = some (.int .i64 s.ge) := cell_of_row w7 _ 1 _ _ _ r5
  obtain ⟨Y, hY⟩ : ∃ Y : List Int, Y = List.replicate 192 0 := ⟨_, rfl⟩
  rw [← hY] at rA rB
  have hYl : Y.length = 192 := by rw [hY, List.length_replicate]
  have hY8 : Byts Y := by rw [hY]; exact rep_byts _
  clear hY
  have hsA := src_rowf rA 256 (by rw [List.length_append, secS_len, hYl]; exact Nat.le_refl _) (by decide)
  have hsB := src_rowf rB 256 (by rw [List.length_append, secS_len, hYl]; exact Nat.le_refl _) (by decide)
  have p8 := byts_app (secS_byts _ HV.out) hY8
  have q8 := byts_app (secS_byts _ HVU.out) hY8
  have pl : (secS s ++ Y).length = 256 := by rw [List.length_append, secS_len, hYl]
  have ql : (secS u ++ Y).length = 256 := by rw [List.length_append, secS_len, hYl]
  have hch := choose_any w7 (secS u ++ Y) (secS s ++ Y) q8 p8 _ _ 256 256 hsB hsA
  rw [ql, pl, choose_odd s u Y Y hYl hYl HV.out HVU.out HFO.out (by rw [HUG.out]; exact HQ2.out)] at hch
  go_wp2_with fail
  refine hch.mono ?_
  rintro e w8 ⟨rfl, b8⟩
  clear hch c5
  replace r13 := hbel b8 r13 (hlt r13)
  replace hsA := hsA.below b8 (Nat.le_refl _)
  replace hsB := hsB.below b8 (Nat.le_refl _)
  replace B := B.trans (b8.mono B.size)
  clear b8
  have r16 := hnew w8 (.cells (supC u) 27)
  have b9 := below_new w8 (.cells (supC u) 27)
  have hG16 : w.heap.size ≤ w8.heap.size := B.size
  have n13 : G ≠ w8.heap.size := fun h => absurd (hlt r13) (by omega)
  replace r13 := hbel b9 r13 (hlt r13)
  replace hsA := hsA.below b9 (Nat.le_refl _)
  replace hsB := hsB.below b9 (Nat.le_refl _)
  replace B := B.trans (b9.mono B.size)
  clear b9
  have KQ : ∀ w, (Op.equalIn 10000 27 (.agg (supC u)) (.agg (supC u))).run Try.prog w = .ok true w := fun w => by
    have := eqSup u u w; rwa [show decide (u = u) = true by simp] at this
  have KQ0 : ∀ w, (Op.equalIn 10000 27 (.agg (supC sup0)) (.agg #[.int .i64 0, .int .i64 0, .int .i64 0, .int .i64 0, .int .i64 0])).run Try.prog w = .ok true w := fun w => by
    have := eqSup sup0 sup0 w; rwa [show decide (sup0 = sup0) = true by simp] at this
  have HE16 := hid (show w8.alloc (.cells #[.int .i64 0, .int .i64 0, .int .i64 0, .int .i64 0, .int .i64 0] 27) = w8.alloc (.cells (supC sup0) 27) from rfl)
  have KT := hid (fun (w' : World) (sp : Option Addr) (h : Src w' sp 256 (secS s ++ Y)) (A : Int) (x1 : -31 ≤ A) (x2 : A < 512) => turned_brst w' (secS s) Y p8 (by rw [secS_len]; omega) 256 pl (by omega) (seal_CR _ (bodyS_byts _ HV.out)) sp 256 h A pt hpt x1 (by rw [secS_len]; omega) 512 (by rw [secS_len]; rfl))
  have hod : s.ge.tmod 2 = 1 := by exact hpar
  have hA : a < -31 ∨ (-31 ≤ a ∧ 512 ≤ a) ∨ (-31 ≤ a ∧ a < 512) := by omega
  replace hpar := hid hpar
  rcases hA with a1 | ⟨a1, a2⟩ | ⟨a1, a2⟩
  all_goals
    go_wp2_with (first
      | (refine wpList_store_row (by rfl) 27 (.tmp 16) (.tmp 72) (by rfl) w8.heap.size (supC u) (by rfl) (by rfl) 27 _ (by exact hnew _ _) (supN u) (supZ u) (supO u) ?_; rw [setRow_alloc]; generalize w8.alloc (.cells (supC u) 27) = w9 at *; generalize w8.heap.size = G16 at *)
      | (refine wpList_load_row_w (by rfl) 27 (.tmp 16) (by rfl) G16 (by rfl) 27 (supC u) (0, 0) _ (by exact r16) Try.underlying27 rfl (supN u) ?_)
      | (refine wpList_load_row_w (by rfl) 27 (.tmp 13) (by rfl) G (by rfl) 27 (supC u) (0, 0) _ (by exact r13) Try.underlying27 rfl (supN u) ?_))
    refine (KT.out _ _ hsA _ (by omega) (by omega)).mono ?_
    rintro e w10 ⟨gT, uc, c, rfl, hsT, hR0, hRC, hc32, b10⟩
    replace r13 := hbel b10 r13 (hlt r13)
    replace r16 := hbel b10 r16 (hlt r16)
    replace hsB := hsB.below b10 (Nat.le_refl _)
    replace B := B.trans (b10.mono B.size)
    clear b10
    have hbl : ∀ A : Int, (brst (secS s) A pt 32 ++ Y).length = 256 := fun A => by rw [List.length_append, brst_len, secS_len, hYl]
    have hT8 := fun (A : Int) => byts_app (brst_byts (secS s) (secS_byts _ HV.out) A pt 32) hY8
    have hch := choose_any w10 (secS u ++ Y) _ q8 (hT8 _) _ _ _ _ hsB hsT
    rw [ql, hbl] at hch
    have hcb : (c : Int) ≤ 32 := by omega
    by_cases hc : c = 0
    · subst hc
      rw [hR0 rfl, choose_odd s u Y Y hYl hYl HV.out HVU.out HFO.out (by rw [HUG.out]; exact HQ2.out)] at hch
      clear hRC hR0 hT8
      go_wp2_with fail
      refine hch.mono ?_
      rintro e w11 ⟨rfl, b11⟩
      replace r13 := hbel b11 r13 (hlt r13)
      replace r16 := hbel b11 r16 (hlt r16)
      replace B := B.trans (b11.mono B.size)
      clear b11
      replace B := below_setRow B hG16 (supC u)
      have R16 := setRow_heap w11 _ _ (supC u) _ _ r16
      have R13 := (setRow_other w11 G16 G (supC u) n13).trans r13
      clear hch
      go_wp2_with (first
        | (refine wpList_store_row (by rfl) 27 (.tmp 16) (.tmp 108) (by rfl) G16 (supC u) (by rfl) (by rfl) 27 (supC u) (by exact r16) (supN u) (supS _ _) (supO u) ?_)
        | (refine wpList_load_row_w (by rfl) 27 (.tmp 16) (by rfl) G16 (by rfl) 27 (supC u) (0, 0) _ (by exact R16) Try.underlying27 rfl (supN u) ?_)
        | (refine wpList_load_row_w (by rfl) 27 (.tmp 13) (by rfl) G (by rfl) 27 (supC u) (0, 0) _ (by exact R13) Try.underlying27 rfl (supN u) ?_))
      go_ret
      exact ⟨rfl, B⟩
    · replace hRC := hRC hc
      rw [choose_badB (brst (secS s) _ pt 32) Y Y u (by rw [brst_len, secS_len]) hYl hYl hRC HVU.out (brst_not_empty s HV.out hod _ pt Y)] at hch
      have hc2 : ((c : Int) == 0) = false := by simp; omega
      clear hc hR0 hT8 hRC
      go_wp2_with fail
      refine hch.mono ?_
      rintro e w11 ⟨rfl, b11⟩
      replace r13 := hbel b11 r13 (hlt r13)
      replace r16 := hbel b11 r16 (hlt r16)
      replace B := B.trans (b11.mono B.size)
      clear b11
      replace B := below_setRow B hG16 (supC sup0)
      have R16 := setRow_heap w11 _ _ (supC sup0) _ _ r16
      clear hch
      go_wp2_with (first
        | (refine wpList_store_row (by rfl) 27 (.tmp 16) (.tmp 108) (by rfl) G16 (supC sup0) (by rfl) (by rfl) 27 (supC u) (by exact r16) (supN sup0) (supS _ _) (supO sup0) ?_)
        | (refine wpList_load_row_w (by rfl) 27 (.tmp 16) (by rfl) G16 (by rfl) 27 (supC sup0) (0, 0) _ (by exact R16) Try.underlying27 rfl (supN sup0) ?_))
      go_ret
      exact ⟨rfl, B⟩
end Go.Proofs.Ytbddndcdcicnaab
