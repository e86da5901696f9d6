import Derived.Test.YtihkjfbhmlfonaaMb6
namespace Go.Proofs.Ytihkjfbhmlfonaa
set_option linter.unusedVariables false
set_option linter.unusedSimpArgs false
open Go.RowKit
attribute [local go_sem ↓] Go.wp_at_zero Go.wp_at_succ

/-- Where Choose is: the answer's place, the two superblocks. -/
structure CW (w w' : World) (x y : Sup) (G6 G8 : Nat) : Prop where
  r : w'.heap[w.heap.size]? = some (.cells (supC sup0) 56 (0, 0))
  r6 : w'.heap[G6]? = some (.cells (supC x) 56 (0, 0))
  r8 : w'.heap[G8]? = some (.cells (supC y) 56 (0, 0))
  bl : Below w.heap.size w w'
theorem CW.below {w w' w2 : World} {x y : Sup} {G6 G8 : Nat} (h : CW w w' x y G6 G8) (hb : Below w'.heap.size w' w2) : CW w w2 x y G6 G8 :=
  ⟨hbel hb h.r (hlt h.r), hbel hb h.r6 (hlt h.r6), hbel hb h.r8 (hlt h.r8), h.bl.trans (hb.mono h.bl.size)⟩
theorem CW.done {w w' : World} {x y : Sup} {G6 G8 : Nat} (h : CW w w' x y G6 G8) (s : Sup) : (w'.setRow w.heap.size (supC s)).heap[w.heap.size]? = some (.cells (supC s) 56 (0, 0)) ∧ Below w.heap.size w (w'.setRow w.heap.size (supC s)) :=
  ⟨setRow_heap w' _ _ _ _ _ h.r, below_setRow h.bl (Nat.le_refl _) _⟩
set_option maxRecDepth 100000 in
set_option maxHeartbeats 2000000 in
theorem choose_any (w : World) (xs ys : List Int) (x8 : Byts xs) (y8 : Byts ys) (sp sq : Option Addr) (cp cq : Nat) (hX : Src w sp cp xs) (hY : Src w sq cq ys) :
    Calls Try.prog 55 #[.slice sp xs.length cp, .slice sq ys.length cq] w fun e w' => e = .returned (.tuple #[.agg (supC (chooseF xs ys).1), .int .i64 (chooseF xs ys).2]) ∧ Below w.heap.size w w' := by
  have HC := hid (show chooseF xs ys = if (unSuperF xs).2 = 0 ∧ (unSuperF ys).2 = 0 then newerF (unSuperF xs).1 (unSuperF ys).1
    else if ((unSuperF xs).2 = 0 ∧ (unSuperF xs).1.ge = 0) ∨ emptyF xs = true then (if emptyF ys = true then (sup0, 55) else (sup0, 4)) else (sup0, 4) from rfl)
  have hu1 := fun (w' : World) (h : Src w' sp cp xs) => unSuper_any w' xs x8 sp cp h
  have hu2 := fun (w' : World) (h : Src w' sq cq ys) => unSuper_any w' ys y8 sq cq h
  have VX := hid (fun h => ((validS_iff _).1 (unSuper_ok xs h).2.1))
  have VY := hid (fun h => ((validS_iff _).1 (unSuper_ok ys h).2.1))
  generalize unSuperF xs = U at *
  generalize unSuperF ys = V at *
  obtain ⟨x, ex⟩ := U
  obtain ⟨y, ey⟩ := V
  simp only at hu1 hu2 HC VX VY
  have r0 := hnew w (.cells (supC sup0) 56)
  have b0 := below_new w (.cells (supC sup0) 56)
  have hX0 := hX.below b0 (Nat.le_refl _)
  have hY0 := hY.below b0 (Nat.le_refl _)
  go_enter Try.func55, Try.ntmps55
  go_wp2_with fail
  refine (hu1 _ hX0).mono ?_
  rintro e w1 ⟨rfl, b1⟩
  have r1 := hbel b1 r0 (hlt r0)
  have B1 := b0.trans (b1.mono b0.size)
  have hY1 := hY0.below b1 (Nat.le_refl _)
  have hX1 := hX0.below b1 (Nat.le_refl _)
  have z1 := hnew w1 (.cells (supC x) 56)
  have d1 := below_new w1 (.cells (supC x) 56)
  have r2 := hbel d1 r1 (hlt r1)
  have B2 := B1.trans (d1.mono B1.size)
  have hY2 := hY1.below d1 (Nat.le_refl _)
  have hX2 := hX1.below d1 (Nat.le_refl _)
  clear r0 b0 b1 r1 B1 hY1 d1 hu1 hX0 hY0 hX1
  go_wp2_with (first
    | (refine wpList_store_row (by rfl) 56 (.tmp 6) (.tmp 13) (by rfl) w1.heap.size (supC x) (by rfl) (by rfl) 56 _ (by exact hnew _ _) (supN x) (supZ x) (supO x) ?_; rw [setRow_alloc]; generalize w1.alloc (.cells (supC x) 56) = w2 at *; generalize w1.heap.size = G6 at *))
  refine (hu2 _ hY2).mono ?_
  rintro e w3 ⟨rfl, b3⟩
  have r3 := hbel b3 r2 (hlt r2)
  have z3 := hbel b3 z1 (hlt z1)
  have B3 := B2.trans (b3.mono B2.size)
  have hX3 := hX2.below b3 (Nat.le_refl _)
  have hY3 := hY2.below b3 (Nat.le_refl _)
  have s4 := hnew w3 (.cells (supC y) 56)
  have d4 := below_new w3 (.cells (supC y) 56)
  have C4 : CW w (w3.alloc (.cells (supC y) 56)) x y G6 w3.heap.size := ⟨hbel d4 r3 (hlt r3), hbel d4 z3 (hlt z3), s4, B3.trans (d4.mono B3.size)⟩
  have hX4 := hX3.below d4 (Nat.le_refl _)
  have hY4 := hY3.below d4 (Nat.le_refl _)
  clear r2 z1 b3 B2 hX2 hY2 r3 z3 B3 hX3 hY3 s4 d4 hu2
  have EX := hid (fun (w' : World) (h : Src w' sp cp xs) => isEmpty_any w' xs sp cp h)
  have EY := hid (fun (w' : World) (h : Src w' sq cq ys) => isEmpty_any w' ys sq cq h)
  rcases Classical.em (ex = 0) with hxe | hxe
  · subst hxe
    obtain ⟨v1, v2, v3, v4, _⟩ := VX.out rfl
    rcases Classical.em (ey = 0) with hye | hye
    · subst hye
      obtain ⟨u1, u2, u3, u4, _⟩ := VY.out rfl
      have HF := hid (show chooseF xs ys = newerF x y by rw [HC.out, if_pos ⟨rfl, rfl⟩])
      have hnw := fun w' => newer_any w' x y ⟨v3, v4⟩ ⟨u3, u4⟩
      have HNW := hid hnw
      clear hnw HC VX VY EX EY
      go_wp2_with (first
        | (refine wpList_store_row (by rfl) 56 (.tmp 8) (.tmp 18) (by rfl) w3.heap.size (supC y) (by rfl) (by rfl) 56 _ (by exact hnew _ _) (supN y) (supZ y) (supO y) ?_; rw [setRow_alloc]; generalize w3.alloc (.cells (supC y) 56) = w4 at *; generalize w3.heap.size = G8 at *)
        | (refine wpList_load_row_w (by rfl) 56 (.tmp 6) (by rfl) G6 (by rfl) 56 (supC x) (0, 0) _ (by exact C4.r6) Try.underlying56 rfl (supN x) ?_)
        | (refine wpList_load_row_w (by rfl) 56 (.tmp 8) (by rfl) G8 (by rfl) 56 (supC y) (0, 0) _ (by exact C4.r8) Try.underlying56 rfl (supN y) ?_))
      refine (HNW.out w4).mono ?_
      rintro e w5 ⟨rfl, b5⟩
      have C5 := C4.below b5
      obtain ⟨R9, B9⟩ := C5.done (newerF x y).1
      generalize newerF x y = NF at *
      obtain ⟨ns, ne⟩ := NF
      simp only at R9 B9
      go_wp2_with (first
        | (refine wpList_store_row (by rfl) 56 (.tmp 4) (.tmp 41) (by rfl) w.heap.size (supC ns) (by rfl) (by rfl) 56 (supC sup0) (by exact C5.r) (supN _) (supS _ _) (supO _) ?_))
      exact bodyPost_ret (v := .tuple #[.agg (supC ns), .int .i64 ne]) (results_c2 Try.results55 _ _ w.heap.size 56 _ _ _ rfl R9 Try.underlying56 rfl (supN _)) rfl ⟨by rw [HF.out], B9⟩
    · have hye2 : (ey == 0) = false := by simpa using hye
      rcases Classical.em (x.ge = 0) with hg | hg
      · have HU2 := hid (show chooseF xs ys = if emptyF ys = true then (sup0, 55) else (sup0, 4) by rw [HC.out, if_neg (fun h => hye h.2), if_pos (Or.inl ⟨rfl, hg⟩)])
        have HG := hid hg
        clear HC hye VX VY EX v1 v2 v3 v4 hg
        go_wp2_with (first
          | (refine wpList_store_row (by rfl) 56 (.tmp 8) (.tmp 18) (by rfl) w3.heap.size (supC y) (by rfl) (by rfl) 56 _ (by exact hnew _ _) (supN y) (supZ y) (supO y) ?_; rw [setRow_alloc]; generalize w3.alloc (.cells (supC y) 56) = w4 at *; generalize w3.heap.size = G8 at *; have cg : w4.cell? ⟨G6, 1, none⟩ = some (.int .i64 x.ge) := cell_of_row w4 _ 1 _ _ _ C4.r6; rw [HG.out] at cg))
        clear cg HG
        refine (EY.out w4 hY4).mono ?_
        rintro e v2 ⟨rfl, e2⟩
        have D2 := C4.below e2
        cases hey : emptyF ys
        · have HF := hid (show chooseF xs ys = (sup0, 4) by rw [HU2.out, if_neg (by simp [hey])])
          clear hey HU2
          obtain ⟨R9, B9⟩ := D2.done sup0
          go_wp2_with (first
            | (refine wpList_store_row (by rfl) 56 (.tmp 4) (.tmp 46) (by rfl) w.heap.size (supC sup0) (by rfl) (by rfl) 56 (supC sup0) (by exact D2.r) (supN _) (supS _ _) (supO _) ?_))
          exact bodyPost_ret (v := .tuple #[.agg (supC sup0), .int .i64 4]) (results_c2 Try.results55 _ _ w.heap.size 56 _ _ _ rfl R9 Try.underlying56 rfl (supN _)) rfl ⟨by rw [HF.out], B9⟩
        · have HF := hid (show chooseF xs ys = (sup0, 55) by rw [HU2.out, if_pos hey])
          clear hey HU2
          obtain ⟨R9, B9⟩ := D2.done sup0
          go_wp2_with (first
            | (refine wpList_store_row (by rfl) 56 (.tmp 4) (.tmp 45) (by rfl) w.heap.size (supC sup0) (by rfl) (by rfl) 56 (supC sup0) (by exact D2.r) (supN _) (supS _ _) (supO _) ?_))
          exact bodyPost_ret (v := .tuple #[.agg (supC sup0), .int .i64 55]) (results_c2 Try.results55 _ _ w.heap.size 56 _ _ _ rfl R9 Try.underlying56 rfl (supN _)) rfl ⟨by rw [HF.out], B9⟩
      · have hg2 : (x.ge == 0) = false := by simpa using hg
        have HU := hid (show chooseF xs ys = if emptyF xs = true then (if emptyF ys = true then (sup0, 55) else (sup0, 4)) else (sup0, 4) by
          rw [HC.out, if_neg (fun h => hye h.2)]
          cases emptyF xs
          · rw [if_neg (by simp [hg]), if_neg (by simp)]
          · rw [if_pos (Or.inr rfl), if_pos rfl])
        clear HC hye VX VY v1 v2 v3 v4 hg
        go_wp2_with (first
          | (refine wpList_store_row (by rfl) 56 (.tmp 8) (.tmp 18) (by rfl) w3.heap.size (supC y) (by rfl) (by rfl) 56 _ (by exact hnew _ _) (supN y) (supZ y) (supO y) ?_; rw [setRow_alloc]; generalize w3.alloc (.cells (supC y) 56) = w4 at *; generalize w3.heap.size = G8 at *; have cg : w4.cell? ⟨G6, 1, none⟩ = some (.int .i64 x.ge) := cell_of_row w4 _ 1 _ _ _ C4.r6; generalize x.ge = xg at *))
        clear cg hg2
        refine (EX.out w4 hX4).mono ?_
        rintro e v1 ⟨rfl, e1⟩
        have D1 := C4.below e1
        have hYD := hY4.below e1 (Nat.le_refl _)
        cases hex : emptyF xs
        · have HF := hid (show chooseF xs ys = (sup0, 4) by rw [HU.out, if_neg (by simp [hex])])
          clear hex HU
          obtain ⟨R9, B9⟩ := D1.done sup0
          go_wp2_with (first
            | (refine wpList_store_row (by rfl) 56 (.tmp 4) (.tmp 46) (by rfl) w.heap.size (supC sup0) (by rfl) (by rfl) 56 (supC sup0) (by exact D1.r) (supN _) (supS _ _) (supO _) ?_))
          exact bodyPost_ret (v := .tuple #[.agg (supC sup0), .int .i64 4]) (results_c2 Try.results55 _ _ w.heap.size 56 _ _ _ rfl R9 Try.underlying56 rfl (supN _)) rfl ⟨by rw [HF.out], B9⟩
        · have HU2 := hid (show chooseF xs ys = if emptyF ys = true then (sup0, 55) else (sup0, 4) by rw [HU.out, if_pos hex])
          clear hex HU
          go_wp2_with fail
          refine (EY.out v1 hYD).mono ?_
          rintro e v2 ⟨rfl, e2⟩
          have D2 := D1.below e2
          cases hey : emptyF ys
          · have HF := hid (show chooseF xs ys = (sup0, 4) by rw [HU2.out, if_neg (by simp [hey])])
            clear hey HU2
            obtain ⟨R9, B9⟩ := D2.done sup0
            go_wp2_with (first
              | (refine wpList_store_row (by rfl) 56 (.tmp 4) (.tmp 46) (by rfl) w.heap.size (supC sup0) (by rfl) (by rfl) 56 (supC sup0) (by exact D2.r) (supN _) (supS _ _) (supO _) ?_))
            exact bodyPost_ret (v := .tuple #[.agg (supC sup0), .int .i64 4]) (results_c2 Try.results55 _ _ w.heap.size 56 _ _ _ rfl R9 Try.underlying56 rfl (supN _)) rfl ⟨by rw [HF.out], B9⟩
          · have HF := hid (show chooseF xs ys = (sup0, 55) by rw [HU2.out, if_pos hey])
            clear hey HU2
            obtain ⟨R9, B9⟩ := D2.done sup0
            go_wp2_with (first
              | (refine wpList_store_row (by rfl) 56 (.tmp 4) (.tmp 45) (by rfl) w.heap.size (supC sup0) (by rfl) (by rfl) 56 (supC sup0) (by exact D2.r) (supN _) (supS _ _) (supO _) ?_))
            exact bodyPost_ret (v := .tuple #[.agg (supC sup0), .int .i64 55]) (results_c2 Try.results55 _ _ w.heap.size 56 _ _ _ rfl R9 Try.underlying56 rfl (supN _)) rfl ⟨by rw [HF.out], B9⟩
  · have hxe2 : (ex == 0) = false := by simpa using hxe
    have HU := hid (show chooseF xs ys = if emptyF xs = true then (if emptyF ys = true then (sup0, 55) else (sup0, 4)) else (sup0, 4) by
      rw [HC.out, if_neg (fun h => hxe h.1)]
      cases emptyF xs
      · rw [if_neg (by simp [hxe]), if_neg (by simp)]
      · rw [if_pos (Or.inr rfl), if_pos rfl])
    clear HC hxe VX VY
    go_wp2_with (first
      | (refine wpList_store_row (by rfl) 56 (.tmp 8) (.tmp 18) (by rfl) w3.heap.size (supC y) (by rfl) (by rfl) 56 _ (by exact hnew _ _) (supN y) (supZ y) (supO y) ?_; rw [setRow_alloc]; generalize w3.alloc (.cells (supC y) 56) = w4 at *; generalize w3.heap.size = G8 at *))
    refine (EX.out w4 hX4).mono ?_
    rintro e v1 ⟨rfl, e1⟩
    have D1 := C4.below e1
    have hYD := hY4.below e1 (Nat.le_refl _)
    cases hex : emptyF xs
    · have HF := hid (show chooseF xs ys = (sup0, 4) by rw [HU.out, if_neg (by simp [hex])])
      clear hex HU
      obtain ⟨R9, B9⟩ := D1.done sup0
      go_wp2_with (first
        | (refine wpList_store_row (by rfl) 56 (.tmp 4) (.tmp 46) (by rfl) w.heap.size (supC sup0) (by rfl) (by rfl) 56 (supC sup0) (by exact D1.r) (supN _) (supS _ _) (supO _) ?_))
      exact bodyPost_ret (v := .tuple #[.agg (supC sup0), .int .i64 4]) (results_c2 Try.results55 _ _ w.heap.size 56 _ _ _ rfl R9 Try.underlying56 rfl (supN _)) rfl ⟨by rw [HF.out], B9⟩
    · have HU2 := hid (show chooseF xs ys = if emptyF ys = true then (sup0, 55) else (sup0, 4) by rw [HU.out, if_pos hex])
      clear hex HU
      go_wp2_with fail
      refine (EY.out v1 hYD).mono ?_
      rintro e v2 ⟨rfl, e2⟩
      have D2 := D1.below e2
      cases hey : emptyF ys
      · have HF := hid (show chooseF xs ys = (sup0, 4) by rw [HU2.out, if_neg (by simp [hey])])
        clear hey HU2
        obtain ⟨R9, B9⟩ := D2.done sup0
        go_wp2_with (first
          | (refine wpList_store_row (by rfl) 56 (.tmp 4) (.tmp 46) (by rfl) w.heap.size (supC sup0) (by rfl) (by rfl) 56 (supC sup0) (by exact D2.r) (supN _) (supS _ _) (supO _) ?_))
        exact bodyPost_ret (v := .tuple #[.agg (supC sup0), .int .i64 4]) (results_c2 Try.results55 _ _ w.heap.size 56 _ _ _ rfl R9 Try.underlying56 rfl (supN _)) rfl ⟨by rw [HF.out], B9⟩
      · have HF := hid (show chooseF xs ys = (sup0, 55) by rw [HU2.out, if_pos hey])
        clear hey HU2
        obtain ⟨R9, B9⟩ := D2.done sup0
        go_wp2_with (first
          | (refine wpList_store_row (by rfl) 56 (.tmp 4) (.tmp 45) (by rfl) w.heap.size (supC sup0) (by rfl) (by rfl) 56 (supC sup0) (by exact D2.r) (supN _) (supS _ _) (supO _) ?_))
        exact bodyPost_ret (v := .tuple #[.agg (supC sup0), .int .i64 55]) (results_c2 Try.results55 _ _ w.heap.size 56 _ _ _ rfl R9 Try.underlying56 rfl (supN _)) rfl ⟨by rw [HF.out], B9⟩
end Go.Proofs.Ytihkjfbhmlfonaa
