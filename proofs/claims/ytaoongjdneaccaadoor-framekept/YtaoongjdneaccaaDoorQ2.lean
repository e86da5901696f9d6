import Derived.Test.YtaoongjdneaccaaDoorQ1
namespace Go.Proofs.YtaoongjdneaccaaDoor
set_option linter.unusedVariables false
set_option linter.unusedSimpArgs false
open Go.RowKit
attribute [local go_sem ↓] Go.wp_at_zero Go.wp_at_succ

set_option maxRecDepth 100000 in
set_option maxHeartbeats 2000000 in
theorem qChoose_any (w : World) (hG : Gl w) (xs ys : List Int) (x8 : Byts xs) (y8 : Byts ys) (sp sq : Option Addr) (cp cq : Nat) (hX : Src w sp cp xs) (hY : Src w sq cq ys) :
    Calls Tryd.prog 21 #[.slice sp xs.length cp, .slice sq ys.length cq] w fun e w' => e = .returned (.tuple #[.agg (supC (chooseF xs ys).1), .int .i64 (chooseF xs ys).2]) ∧ Below w.heap.size w w' := by
  have HC := hid (show chooseF xs ys = if (unSuperF xs).2 = 0 ∧ (unSuperF ys).2 = 0 then newerF (unSuperF xs).1 (unSuperF ys).1
    else if ((unSuperF xs).2 = 0 ∧ (unSuperF xs).1.ge = 0) ∨ emptyF xs = true then (if emptyF ys = true then (sup0, 55) else (sup0, 4)) else (sup0, 4) from rfl)
  have hu1 := fun (w' : World) (hG' : Gl w') (h : Src w' sp cp xs) => qUnSuper_any w' hG' xs x8 sp cp h
  have hu2 := fun (w' : World) (hG' : Gl w') (h : Src w' sq cq ys) => qUnSuper_any w' hG' ys y8 sq cq h
  have VX := hid (fun h => ((validS_iff _).1 (unSuper_ok xs h).2.1))
  have VY := hid (fun h => ((validS_iff _).1 (unSuper_ok ys h).2.1))
  generalize unSuperF xs = U at *
  generalize unSuperF ys = V at *
  obtain ⟨x, ex⟩ := U
  obtain ⟨y, ey⟩ := V
  simp only at hu1 hu2 HC VX VY
  have r0 := hnew w (.cells (supC sup0) 31)
  have b0 := below_new w (.cells (supC sup0) 31)
  have hX0 := hX.below b0 (Nat.le_refl _)
  have hY0 := hY.below b0 (Nat.le_refl _)
  go_enter Tryd.func21, Tryd.ntmps21
  go_wp2_with fail
  refine (hu1 _ (hG.below b0 hG.1) hX0).mono ?_
  rintro e w1 ⟨rfl, b1⟩
  have r1 := hbel b1 r0 (hlt r0)
  have B1 := b0.trans (b1.mono b0.size)
  have hY1 := hY0.below b1 (Nat.le_refl _)
  have hX1 := hX0.below b1 (Nat.le_refl _)
  have z1 := hnew w1 (.cells (supC x) 31)
  have d1 := below_new w1 (.cells (supC x) 31)
  have r2 := hbel d1 r1 (hlt r1)
  have B2 := B1.trans (d1.mono B1.size)
  have hY2 := hY1.below d1 (Nat.le_refl _)
  have hX2 := hX1.below d1 (Nat.le_refl _)
  clear r0 b0 b1 r1 B1 hY1 d1 hu1 hX0 hY0 hX1
  go_wp2_with (first
    | (refine wpList_store_row (by rfl) 31 (.tmp 6) (.tmp 13) (by rfl) w1.heap.size (supC x) (by rfl) (by rfl) 31 _ (by exact hnew _ _) (supN x) (supZ x) (supO x) ?_; rw [setRow_alloc]; generalize w1.alloc (.cells (supC x) 31) = w2 at *; generalize w1.heap.size = G6 at *))
  refine (hu2 _ (hG.below B2 hG.1) hY2).mono ?_
  rintro e w3 ⟨rfl, b3⟩
  have r3 := hbel b3 r2 (hlt r2)
  have z3 := hbel b3 z1 (hlt z1)
  have B3 := B2.trans (b3.mono B2.size)
  have hX3 := hX2.below b3 (Nat.le_refl _)
  have hY3 := hY2.below b3 (Nat.le_refl _)
  have s4 := hnew w3 (.cells (supC y) 31)
  have d4 := below_new w3 (.cells (supC y) 31)
  have C4 : CW w (w3.alloc (.cells (supC y) 31)) x y G6 w3.heap.size := ⟨hbel d4 r3 (hlt r3), hbel d4 z3 (hlt z3), s4, B3.trans (d4.mono B3.size)⟩
  have hX4 := hX3.below d4 (Nat.le_refl _)
  have hY4 := hY3.below d4 (Nat.le_refl _)
  clear r2 z1 b3 B2 hX2 hY2 r3 z3 B3 hX3 hY3 s4 d4 hu2
  have EX := hid (fun (w' : World) (h : Src w' sp cp xs) => qEmpty_any w' xs sp cp h)
  have EY := hid (fun (w' : World) (h : Src w' sq cq ys) => qEmpty_any w' ys sq cq h)
  rcases Classical.em (ex = 0) with hxe | hxe
  · subst hxe
    obtain ⟨v1, v2, v3, v4, _⟩ := VX.out rfl
    rcases Classical.em (ey = 0) with hye | hye
    · subst hye
      obtain ⟨u1, u2, u3, u4, _⟩ := VY.out rfl
      have HF := hid (show chooseF xs ys = newerF x y by rw [HC.out, if_pos ⟨rfl, rfl⟩])
      have hnw := fun w' => qnewer_any w' x y ⟨v3, v4⟩ ⟨u3, u4⟩
      have HNW := hid hnw
      clear hnw HC VX VY EX EY
      go_wp2_with (first
        | (refine wpList_store_row (by rfl) 31 (.tmp 8) (.tmp 18) (by rfl) w3.heap.size (supC y) (by rfl) (by rfl) 31 _ (by exact hnew _ _) (supN y) (supZ y) (supO y) ?_; rw [setRow_alloc]; generalize w3.alloc (.cells (supC y) 31) = w4 at *; generalize w3.heap.size = G8 at *)
        | (refine wpList_load_row_w (by rfl) 31 (.tmp 6) (by rfl) G6 (by rfl) 31 (supC x) (0, 0) _ (by exact C4.r6) Tryd.underlying31 rfl (supN x) ?_)
        | (refine wpList_load_row_w (by rfl) 31 (.tmp 8) (by rfl) G8 (by rfl) 31 (supC y) (0, 0) _ (by exact C4.r8) Tryd.underlying31 rfl (supN y) ?_))
      refine (HNW.out w4).mono ?_
      rintro e w5 ⟨rfl, b5⟩
      have C5 := C4.below b5
      obtain ⟨R9, B9⟩ := C5.done (newerF x y).1
      generalize newerF x y = NF at *
      obtain ⟨ns, ne⟩ := NF
      simp only at R9 B9
      go_wp2_with (first
        | (refine wpList_store_row (by rfl) 31 (.tmp 4) (.tmp 29) (by rfl) w.heap.size (supC ns) (by rfl) (by rfl) 31 (supC sup0) (by exact C5.r) (supN _) (supS _ _) (supO _) ?_))
      exact bodyPost_ret (v := .tuple #[.agg (supC ns), .int .i64 ne]) (results_c2 Tryd.results21 _ _ w.heap.size 31 _ _ _ rfl R9 Tryd.underlying31 rfl (supN _)) rfl ⟨by rw [HF.out], B9⟩
    · have hye2 : (ey == 0) = false := by simpa using hye
      have HU := hid (show chooseF xs ys = if emptyF ys = true then (if emptyF xs = true ∨ x.ge = 0 then (sup0, 55) else (sup0, 4)) else (sup0, 4) by
        rw [HC.out, if_neg (fun h => hye h.2)]
        cases emptyF xs <;> cases emptyF ys <;> by_cases hg : x.ge = 0 <;> simp [hg])
      rcases Classical.em (x.ge = 0) with hg | hg
      · have HG := hid hg
        clear HC hye VX VY v1 v2 v3 v4 hg
        go_wp2_with (first
          | (refine wpList_store_row (by rfl) 31 (.tmp 8) (.tmp 18) (by rfl) w3.heap.size (supC y) (by rfl) (by rfl) 31 _ (by exact hnew _ _) (supN y) (supZ y) (supO y) ?_; rw [setRow_alloc]; generalize w3.alloc (.cells (supC y) 31) = w4 at *; generalize w3.heap.size = G8 at *))
        refine (EY.out w4 hY4).mono ?_
        rintro e v1 ⟨rfl, e1⟩
        have D1 := C4.below e1
        have hXD := hX4.below e1 (Nat.le_refl _)
        cases hey : emptyF ys
        · have HF := hid (show chooseF xs ys = (sup0, 4) by rw [HU.out]; simp [hey])
          clear hey HU
          obtain ⟨R9, B9⟩ := D1.done sup0
          go_wp2_with (first
            | (refine wpList_store_row (by rfl) 31 (.tmp 4) (.tmp 47) (by rfl) w.heap.size (supC sup0) (by rfl) (by rfl) 31 (supC sup0) (by exact D1.r) (supN _) (supS _ _) (supO _) ?_))
          exact bodyPost_ret (v := .tuple #[.agg (supC sup0), .int .i64 4]) (results_c2 Tryd.results21 _ _ w.heap.size 31 _ _ _ rfl R9 Tryd.underlying31 rfl (supN _)) rfl ⟨by rw [HF.out], B9⟩
        · have HEY := hid hey
          clear hey
          go_wp2_with fail
          refine (EX.out v1 hXD).mono ?_
          rintro e v2 ⟨rfl, e2⟩
          have D2 := D1.below e2
          have cg : v2.cell? ⟨G6, 1, none⟩ = some (.int .i64 x.ge) := cell_of_row v2 _ 1 _ _ _ D2.r6
          have HF := hid (show chooseF xs ys = (sup0, 55) by rw [HU.out]; simp [HEY.out, HG.out])
          rw [HG.out] at cg
          cases hex : emptyF xs
          · clear hex HU HEY HG
            obtain ⟨R9, B9⟩ := D2.done sup0
            go_wp2_with (first
              | (refine wpList_store_row (by rfl) 31 (.tmp 4) (.tmp 46) (by rfl) w.heap.size (supC sup0) (by rfl) (by rfl) 31 (supC sup0) (by exact D2.r) (supN _) (supS _ _) (supO _) ?_))
            exact bodyPost_ret (v := .tuple #[.agg (supC sup0), .int .i64 55]) (results_c2 Tryd.results21 _ _ w.heap.size 31 _ _ _ rfl R9 Tryd.underlying31 rfl (supN _)) rfl ⟨by rw [HF.out], B9⟩
          · clear hex HU HEY HG
            obtain ⟨R9, B9⟩ := D2.done sup0
            go_wp2_with (first
              | (refine wpList_store_row (by rfl) 31 (.tmp 4) (.tmp 46) (by rfl) w.heap.size (supC sup0) (by rfl) (by rfl) 31 (supC sup0) (by exact D2.r) (supN _) (supS _ _) (supO _) ?_))
            exact bodyPost_ret (v := .tuple #[.agg (supC sup0), .int .i64 55]) (results_c2 Tryd.results21 _ _ w.heap.size 31 _ _ _ rfl R9 Tryd.underlying31 rfl (supN _)) rfl ⟨by rw [HF.out], B9⟩
      · have hg2 : (x.ge == 0) = false := by simpa using hg
        have HG := hid hg
        clear HC hye VX VY v1 v2 v3 v4 hg
        go_wp2_with (first
          | (refine wpList_store_row (by rfl) 31 (.tmp 8) (.tmp 18) (by rfl) w3.heap.size (supC y) (by rfl) (by rfl) 31 _ (by exact hnew _ _) (supN y) (supZ y) (supO y) ?_; rw [setRow_alloc]; generalize w3.alloc (.cells (supC y) 31) = w4 at *; generalize w3.heap.size = G8 at *))
        refine (EY.out w4 hY4).mono ?_
        rintro e v1 ⟨rfl, e1⟩
        have D1 := C4.below e1
        have hXD := hX4.below e1 (Nat.le_refl _)
        cases hey : emptyF ys
        · have HF := hid (show chooseF xs ys = (sup0, 4) by rw [HU.out]; simp [hey])
          clear hey HU
          obtain ⟨R9, B9⟩ := D1.done sup0
          go_wp2_with (first
            | (refine wpList_store_row (by rfl) 31 (.tmp 4) (.tmp 47) (by rfl) w.heap.size (supC sup0) (by rfl) (by rfl) 31 (supC sup0) (by exact D1.r) (supN _) (supS _ _) (supO _) ?_))
          exact bodyPost_ret (v := .tuple #[.agg (supC sup0), .int .i64 4]) (results_c2 Tryd.results21 _ _ w.heap.size 31 _ _ _ rfl R9 Tryd.underlying31 rfl (supN _)) rfl ⟨by rw [HF.out], B9⟩
        · have HEY := hid hey
          clear hey
          go_wp2_with fail
          refine (EX.out v1 hXD).mono ?_
          rintro e v2 ⟨rfl, e2⟩
          have D2 := D1.below e2
          have cg : v2.cell? ⟨G6, 1, none⟩ = some (.int .i64 x.ge) := cell_of_row v2 _ 1 _ _ _ D2.r6
          generalize x.ge = xg at *
          cases hex : emptyF xs
          · have HF := hid (show chooseF xs ys = (sup0, 4) by rw [HU.out]; simp [HEY.out, hex, HG.out])
            clear hex HU HEY
            obtain ⟨R9, B9⟩ := D2.done sup0
            go_wp2_with (first
              | (refine wpList_store_row (by rfl) 31 (.tmp 4) (.tmp 47) (by rfl) w.heap.size (supC sup0) (by rfl) (by rfl) 31 (supC sup0) (by exact D2.r) (supN _) (supS _ _) (supO _) ?_))
            exact bodyPost_ret (v := .tuple #[.agg (supC sup0), .int .i64 4]) (results_c2 Tryd.results21 _ _ w.heap.size 31 _ _ _ rfl R9 Tryd.underlying31 rfl (supN _)) rfl ⟨by rw [HF.out], B9⟩
          · have HF := hid (show chooseF xs ys = (sup0, 55) by rw [HU.out]; simp [HEY.out, hex])
            clear hex HU HEY
            obtain ⟨R9, B9⟩ := D2.done sup0
            go_wp2_with (first
              | (refine wpList_store_row (by rfl) 31 (.tmp 4) (.tmp 46) (by rfl) w.heap.size (supC sup0) (by rfl) (by rfl) 31 (supC sup0) (by exact D2.r) (supN _) (supS _ _) (supO _) ?_))
            exact bodyPost_ret (v := .tuple #[.agg (supC sup0), .int .i64 55]) (results_c2 Tryd.results21 _ _ w.heap.size 31 _ _ _ rfl R9 Tryd.underlying31 rfl (supN _)) rfl ⟨by rw [HF.out], B9⟩
  · have hxe2 : (ex == 0) = false := by simpa using hxe
    have HU := hid (show chooseF xs ys = if emptyF ys = true then (if emptyF xs = true then (sup0, 55) else (sup0, 4)) else (sup0, 4) by
      rw [HC.out, if_neg (fun h => hxe h.1)]
      cases emptyF xs <;> cases emptyF ys <;> simp [hxe])
    have HX := hid hxe
    clear HC hxe VX VY
    go_wp2_with (first
      | (refine wpList_store_row (by rfl) 31 (.tmp 8) (.tmp 18) (by rfl) w3.heap.size (supC y) (by rfl) (by rfl) 31 _ (by exact hnew _ _) (supN y) (supZ y) (supO y) ?_; rw [setRow_alloc]; generalize w3.alloc (.cells (supC y) 31) = w4 at *; generalize w3.heap.size = G8 at *))
    refine (EY.out w4 hY4).mono ?_
    rintro e v1 ⟨rfl, e1⟩
    have D1 := C4.below e1
    have hXD := hX4.below e1 (Nat.le_refl _)
    cases hey : emptyF ys
    · have HF := hid (show chooseF xs ys = (sup0, 4) by rw [HU.out]; simp [hey])
      clear hey HU
      obtain ⟨R9, B9⟩ := D1.done sup0
      go_wp2_with (first
        | (refine wpList_store_row (by rfl) 31 (.tmp 4) (.tmp 47) (by rfl) w.heap.size (supC sup0) (by rfl) (by rfl) 31 (supC sup0) (by exact D1.r) (supN _) (supS _ _) (supO _) ?_))
      exact bodyPost_ret (v := .tuple #[.agg (supC sup0), .int .i64 4]) (results_c2 Tryd.results21 _ _ w.heap.size 31 _ _ _ rfl R9 Tryd.underlying31 rfl (supN _)) rfl ⟨by rw [HF.out], B9⟩
    · have HEY := hid hey
      clear hey
      go_wp2_with fail
      refine (EX.out v1 hXD).mono ?_
      rintro e v2 ⟨rfl, e2⟩
      have D2 := D1.below e2
      have cg : v2.cell? ⟨G6, 1, none⟩ = some (.int .i64 x.ge) := cell_of_row v2 _ 1 _ _ _ D2.r6
      generalize x.ge = xg at *
      cases hex : emptyF xs
      · have HF := hid (show chooseF xs ys = (sup0, 4) by rw [HU.out]; simp [HEY.out, hex, HX.out])
        clear hex HU HEY
        obtain ⟨R9, B9⟩ := D2.done sup0
        go_wp2_with (first
          | (refine wpList_store_row (by rfl) 31 (.tmp 4) (.tmp 47) (by rfl) w.heap.size (supC sup0) (by rfl) (by rfl) 31 (supC sup0) (by exact D2.r) (supN _) (supS _ _) (supO _) ?_))
        exact bodyPost_ret (v := .tuple #[.agg (supC sup0), .int .i64 4]) (results_c2 Tryd.results21 _ _ w.heap.size 31 _ _ _ rfl R9 Tryd.underlying31 rfl (supN _)) rfl ⟨by rw [HF.out], B9⟩
      · have HF := hid (show chooseF xs ys = (sup0, 55) by rw [HU.out]; simp [HEY.out, hex])
        clear hex HU HEY
        obtain ⟨R9, B9⟩ := D2.done sup0
        go_wp2_with (first
          | (refine wpList_store_row (by rfl) 31 (.tmp 4) (.tmp 46) (by rfl) w.heap.size (supC sup0) (by rfl) (by rfl) 31 (supC sup0) (by exact D2.r) (supN _) (supS _ _) (supO _) ?_))
        exact bodyPost_ret (v := .tuple #[.agg (supC sup0), .int .i64 55]) (results_c2 Tryd.results21 _ _ w.heap.size 31 _ _ _ rfl R9 Tryd.underlying31 rfl (supN _)) rfl ⟨by rw [HF.out], B9⟩
end Go.Proofs.YtaoongjdneaccaaDoor
