import Derived.Test.YtihkjfbhmlfonaaNt
namespace Go.Proofs.Ytihkjfbhmlfonaa
set_option linter.unusedVariables false
set_option linter.unusedSimpArgs false
open Go.RowKit
attribute [local go_sem ↓] Go.wp_at_zero Go.wp_at_succ

theorem supN (s : Sup) : (Try.prog.info? 56).map (·.size) = some (supC s).size := by rw [size_super]; rfl
theorem supO (s : Sup) : (supC s).all (·.oneCell') = true := by simp [supC, Value.oneCell']
theorem supZ (s : Sup) : (#[.int .i64 0, .int .i64 0, .int .i64 0, .int .i64 0, .int .i64 0] : Array Value).size = (supC s).size := rfl
theorem setRow3 (w : World) (A B : Obj) (cs ds : Array Value) (t : TypeId) (fr : Nat × Nat) : (((w.alloc A).alloc B).alloc (.cells cs t fr)).setRow (w.heap.size + 1 + 1) ds = ((w.alloc A).alloc B).alloc (.cells ds t fr) := by
  have h := setRow_alloc ((w.alloc A).alloc B) cs ds t fr
  rw [World.size_alloc, World.size_alloc] at h
  exact h
def mkN (n o : Sup) (M : Int) : Sup := { o with ge := o.ge + 1, ma := M, hd := n.hd }
theorem fin3 {w w3 : World} {n o : Sup} (r1 : w3.heap[w.heap.size]? = some (.cells (supC n) 56 (0, 0))) (r3 : w3.heap[w.heap.size + 1 + 1]? = some (.cells (supC o) 56 (0, 0))) (b3 : Below w.heap.size w w3) (M : Int) :
    (((w3.setCell ⟨w.heap.size + 1 + 1, 1, none⟩ (.int .i64 (o.ge + 1))).setCell ⟨w.heap.size + 1 + 1, 2, none⟩ (.int .i64 M)).setCell ⟨w.heap.size + 1 + 1, 3, none⟩ (.int .i64 n.hd)).heap[w.heap.size]? = some (.cells (supC n) 56 (0, 0))
    ∧ (((w3.setCell ⟨w.heap.size + 1 + 1, 1, none⟩ (.int .i64 (o.ge + 1))).setCell ⟨w.heap.size + 1 + 1, 2, none⟩ (.int .i64 M)).setCell ⟨w.heap.size + 1 + 1, 3, none⟩ (.int .i64 n.hd)).heap[w.heap.size + 1 + 1]? = some (.cells (supC (mkN n o M)) 56 (0, 0))
    ∧ Below w.heap.size w (((w3.setCell ⟨w.heap.size + 1 + 1, 1, none⟩ (.int .i64 (o.ge + 1))).setCell ⟨w.heap.size + 1 + 1, 2, none⟩ (.int .i64 M)).setCell ⟨w.heap.size + 1 + 1, 3, none⟩ (.int .i64 n.hd)) := by
  have S1 := heap_setCell_same w3 _ 1 _ _ (.int .i64 (o.ge + 1)) r3
  have S2 := heap_setCell_same _ _ 2 _ _ (.int .i64 M) S1
  have S3 := heap_setCell_same _ _ 3 _ _ (.int .i64 n.hd) S2
  refine ⟨heap_set_far (heap_set_far (heap_set_far r1 ⟨w.heap.size + 1 + 1, 1, none⟩ _ (by simp; omega)) ⟨w.heap.size + 1 + 1, 2, none⟩ _ (by simp; omega)) ⟨w.heap.size + 1 + 1, 3, none⟩ _ (by simp; omega), S3, ((b3.setCell (by simp; omega) _).setCell (by simp; omega) _).setCell (by simp; omega) _⟩
theorem foll_gt (n o : Sup) (h : o.ma < n.ma) : follF n o = decide (n = mkN n o n.ma) := by
  unfold follF mkN; rw [show max o.ma n.ma = n.ma by omega]
theorem foll_le (n o : Sup) (h : ¬ o.ma < n.ma) : follF n o = decide (n = mkN n o o.ma) := by
  unfold follF mkN; rw [show max o.ma n.ma = o.ma by omega]
set_option maxRecDepth 100000 in
set_option maxHeartbeats 1000000 in
theorem follows_any (w : World) (n o : Sup) (hb : -9223372036854775808 ≤ o.ge ∧ o.ge < 9223372036854775807) :
    Calls Try.prog 93 #[.agg (supC n), .agg (supC o)] w fun ed w' => ed = .returned (.bool (follF n o)) ∧ Below w.heap.size w w' := by
  obtain ⟨h1, h2⟩ := hb
  have h3 : o.ge + 1 ≤ 9223372036854775807 := by omega
  have KQ := fun (M : Int) => eqSup n (mkN n o M)
  have KG := guardU
  have r1 := heap3_old w (.cells (supC n) 56) (.cells (supC o) 56) (.cells (supC o) 56)
  have r2 := heap3_mid w (.cells (supC n) 56) (.cells (supC o) 56) (.cells (supC o) 56)
  have r3 := heap3_new w (.cells (supC n) 56) (.cells (supC o) 56) (.cells (supC o) 56)
  have b3 := below3 w (.cells (supC n) 56) (.cells (supC o) 56) (.cells (supC o) 56)
  have z3 := heap3_new w (.cells (supC n) 56) (.cells (supC o) 56) (.cells #[.int .i64 0, .int .i64 0, .int .i64 0, .int .i64 0, .int .i64 0] 56)
  have HSR := hid (setRow3 w (.cells (supC n) 56) (.cells (supC o) 56) #[.int .i64 0, .int .i64 0, .int .i64 0, .int .i64 0, .int .i64 0] (supC o) 56 (0, 0))
  have q3 := hnew (w.alloc (.cells (supC n) 56)) (.cells (supC o) 56)
  rw [World.size_alloc] at q3
  by_cases hm : o.ma < n.ma
  · have HF := hid (foll_gt n o hm)
    go_enter Try.func93, Try.ntmps93
    go_wp2_with (first
      | (refine wpList_load_row_w rfl 56 (.tmp 3) rfl (w.heap.size + 1) rfl 56 (supC o) (0, 0) _ q3 Try.underlying56 rfl (supN o) ?_)
      | (refine wpList_load_row_w (by rfl) 56 (.tmp 2) (by rfl) w.heap.size (by rfl) 56 (supC n) (0, 0) _ (by exact (fin3 r1 r3 b3 _).1) Try.underlying56 rfl (supN n) ?_)
      | (refine wpList_load_row_w (by rfl) 56 (.tmp 5) (by rfl) (w.heap.size + 1 + 1) (by rfl) 56 (supC (mkN n o n.ma)) (0, 0) _ (by exact (fin3 r1 r3 b3 n.ma).2.1) Try.underlying56 rfl (supN _) ?_; have B9 := (fin3 r1 r3 b3 n.ma).2.2)
      | (refine wpList_store_row rfl 56 _ _ rfl _ (supC o) rfl rfl 56 _ z3 (supN o) (supZ o) (supO o) ?_; rw [HSR.out]; clear HSR z3 q3; generalize ((w.alloc (.cells (supC n) 56)).alloc (.cells (supC o) 56)).alloc (.cells (supC o) 56) = w3 at *; have c1 : w3.cell? ⟨w.heap.size + 1 + 1, 1, none⟩ = some (.int .i64 o.ge) := cell_of_row w3 _ 1 _ _ _ r3; have c2 : w3.cell? ⟨w.heap.size + 1 + 1, 2, none⟩ = some (.int .i64 o.ma) := cell_of_row w3 _ 2 _ _ _ r3; have c3 : w3.cell? ⟨w.heap.size + 1 + 1, 3, none⟩ = some (.int .i64 o.hd) := cell_of_row w3 _ 3 _ _ _ r3; have c4 : w3.cell? ⟨w.heap.size + 1, 2, none⟩ = some (.int .i64 o.ma) := cell_of_row w3 _ 2 _ _ _ r2; have c5 : w3.cell? ⟨w.heap.size, 2, none⟩ = some (.int .i64 n.ma) := cell_of_row w3 _ 2 _ _ _ r1; have c6 : w3.cell? ⟨w.heap.size, 3, none⟩ = some (.int .i64 n.hd) := cell_of_row w3 _ 3 _ _ _ r1; have f1 : w3.frozen? ⟨w.heap.size + 1 + 1, 1, none⟩ = false := frozen_of_row _ _ _ _ _ r3; have f2 : w3.frozen? ⟨w.heap.size + 1 + 1, 2, none⟩ = false := frozen_of_row _ _ _ _ _ r3; have f3 : w3.frozen? ⟨w.heap.size + 1 + 1, 3, none⟩ = false := frozen_of_row _ _ _ _ _ r3))
    go_ret
    exact ⟨by rw [HF.out]; rfl, B9⟩
  · have HF := hid (foll_le n o hm)
    go_enter Try.func93, Try.ntmps93
    go_wp2_with (first
      | (refine wpList_load_row_w rfl 56 (.tmp 3) rfl (w.heap.size + 1) rfl 56 (supC o) (0, 0) _ q3 Try.underlying56 rfl (supN o) ?_)
      | (refine wpList_load_row_w (by rfl) 56 (.tmp 2) (by rfl) w.heap.size (by rfl) 56 (supC n) (0, 0) _ (by exact (fin3 r1 r3 b3 _).1) Try.underlying56 rfl (supN n) ?_)
      | (refine wpList_load_row_w (by rfl) 56 (.tmp 5) (by rfl) (w.heap.size + 1 + 1) (by rfl) 56 (supC (mkN n o o.ma)) (0, 0) _ (by exact (fin3 r1 r3 b3 o.ma).2.1) Try.underlying56 rfl (supN _) ?_; have B9 := (fin3 r1 r3 b3 o.ma).2.2)
      | (refine wpList_store_row rfl 56 _ _ rfl _ (supC o) rfl rfl 56 _ z3 (supN o) (supZ o) (supO o) ?_; rw [HSR.out]; clear HSR z3 q3; generalize ((w.alloc (.cells (supC n) 56)).alloc (.cells (supC o) 56)).alloc (.cells (supC o) 56) = w3 at *; have c1 : w3.cell? ⟨w.heap.size + 1 + 1, 1, none⟩ = some (.int .i64 o.ge) := cell_of_row w3 _ 1 _ _ _ r3; have c2 : w3.cell? ⟨w.heap.size + 1 + 1, 2, none⟩ = some (.int .i64 o.ma) := cell_of_row w3 _ 2 _ _ _ r3; have c3 : w3.cell? ⟨w.heap.size + 1 + 1, 3, none⟩ = some (.int .i64 o.hd) := cell_of_row w3 _ 3 _ _ _ r3; have c4 : w3.cell? ⟨w.heap.size + 1, 2, none⟩ = some (.int .i64 o.ma) := cell_of_row w3 _ 2 _ _ _ r2; have c5 : w3.cell? ⟨w.heap.size, 2, none⟩ = some (.int .i64 n.ma) := cell_of_row w3 _ 2 _ _ _ r1; have c6 : w3.cell? ⟨w.heap.size, 3, none⟩ = some (.int .i64 n.hd) := cell_of_row w3 _ 3 _ _ _ r1; have f1 : w3.frozen? ⟨w.heap.size + 1 + 1, 1, none⟩ = false := frozen_of_row _ _ _ _ _ r3; have f2 : w3.frozen? ⟨w.heap.size + 1 + 1, 2, none⟩ = false := frozen_of_row _ _ _ _ _ r3; have f3 : w3.frozen? ⟨w.heap.size + 1 + 1, 3, none⟩ = false := frozen_of_row _ _ _ _ _ r3))
    go_ret
    exact ⟨by rw [HF.out]; rfl, B9⟩
end Go.Proofs.Ytihkjfbhmlfonaa
namespace Go.Proofs.Ytihkjfbhmlfonaa
set_option linter.unusedVariables false
set_option linter.unusedSimpArgs false
open Go.RowKit
attribute [local go_sem ↓] Go.wp_at_zero Go.wp_at_succ

theorem run_build64 (a : Act) (o : Oper) (ho : o.op = .build 133 #[]) (w : World) : (execOp a.eval o).run Try.prog w = .ok (.value (.agg (ints .u8 (zz 64)).toArray)) w := by
  unfold execOp
  rw [ho]
  kernel_rfl
theorem wpList_build64 {w : World} {ops : Array Oper} {rest : List Oper} {o : Oper} {a : Act} {Q : Exit → Act → World → Prop} (hw : Region.wanted o (yielded ops a.tmps) = true) (ho : o.op = .build 133 #[])
    (h : wpList Try.prog ops Q rest (a.put o.dst (.agg (ints .u8 (zz 64)).toArray)) w) : wpList Try.prog ops Q (o :: rest) a w := by
  refine BigFrame.wpList_want hw fun K hK => ?_
  unfold Oper.wp
  rw [run_build64 a o ho w]
  exact hK _ _ h
set_option maxRecDepth 100000 in
set_option maxHeartbeats 1000000 in
theorem isEmpty_any (w : World) (r : List Int) (sp : Option Addr) (cap : Nat) (hS : Src w sp cap r) :
    Calls Try.prog 78 #[.slice sp r.length cap] w fun e w' => e = .returned (.bool (emptyF r)) ∧ Below w.heap.size w w' := by
  have hlm : (r.length : Int) ≤ 9223372036854775807 := by have := hS.1; have := hS.2.1; unfold maxLen at this; omega
  by_cases hl : r.length = 256
  · have hfs := firstSector_any w r 256 cap sp (by omega) hl.symm hS
    have HF := hid (show emptyF r = decide (r.take 64 = zz 64) by unfold emptyF zz; simp [hl])
    have hl64 : (r.take 64).length = 64 := by rw [List.length_take]; omega
    have KQ := hid (fun w => eqS (r.take 64) (zz 64) hl64 (zz_len 64) w)
    have KG := guardS
    rw [hl]
    clear hS hl hlm
    generalize r.take 64 = sec at *
    go_enter Try.func78, Try.ntmps78
    go_wp2_with fail
    refine hfs.mono ?_
    rintro e w2 ⟨rfl, b2⟩
    have KQ' := KQ.out
    go_wp2_with (first
      | (refine wpList_build64 (by rfl) (by rfl) ?_))
    go_ret
    exact ⟨by rw [HF.out]; rfl, b2⟩
  · have HF := hid (show emptyF r = false by unfold emptyF; simp [hl])
    have hl2 : ((r.length : Int) == 256) = false := by simp; omega
    clear hS hl
    go_enter Try.func78, Try.ntmps78
    go_wp2
    go_ret
    exact ⟨by rw [HF.out]; rfl, Below.refl _ _⟩
/-- Where newer is. -/
structure NW (w w' : World) (a b : Sup) : Prop where
  r1 : w'.heap[w.heap.size]? = some (.cells (supC a) 56 (0, 0))
  r2 : w'.heap[w.heap.size + 1]? = some (.cells (supC b) 56 (0, 0))
  r3 : w'.heap[w.heap.size + 1 + 1]? = some (.cells (supC sup0) 56 (0, 0))
  bl : Below w.heap.size w w'
theorem NW.start (w : World) (a b : Sup) : NW w (((w.alloc (.cells (supC a) 56)).alloc (.cells (supC b) 56)).alloc (.cells (supC sup0) 56)) a b :=
  ⟨heap3_old _ _ _ _, heap3_mid _ _ _ _, heap3_new _ _ _ _, below3 _ _ _ _⟩
theorem NW.below {w w' w2 : World} {a b : Sup} (h : NW w w' a b) (hb : Below w'.heap.size w' w2) : NW w w2 a b :=
  ⟨hbel hb h.r1 (hlt h.r1), hbel hb h.r2 (hlt h.r2), hbel hb h.r3 (hlt h.r3), h.bl.trans (hb.mono h.bl.size)⟩
theorem NW.done {w w' : World} {a b : Sup} (h : NW w w' a b) (s : Sup) : (w'.setRow (w.heap.size + 1 + 1) (supC s)).heap[w.heap.size + 1 + 1]? = some (.cells (supC s) 56 (0, 0)) ∧ Below w.heap.size w (w'.setRow (w.heap.size + 1 + 1) (supC s)) :=
  ⟨setRow_heap w' _ _ _ _ _ h.r3, below_setRow h.bl (by omega) _⟩
theorem supS (s t : Sup) : (supC s).size = (supC t).size := rfl
set_option maxRecDepth 100000 in
set_option maxHeartbeats 2000000 in
theorem newer_any (w : World) (a b : Sup) (ha : 0 ≤ a.ge ∧ a.ge ≤ 1099511627776) (hb : 0 ≤ b.ge ∧ b.ge ≤ 1099511627776) :
    Calls Try.prog 77 #[.agg (supC a), .agg (supC b)] w fun e w' => e = .returned (.tuple #[.agg (supC (newerF a b).1), .int .i64 (newerF a b).2]) ∧ Below w.heap.size w w' := by
  have HN := hid (show newerF a b = if a.ge.tmod 2 ≠ 0 then (sup0, 4) else if follF a b = true then (a, 0) else if follF b a = true then (b, 0) else (sup0, 4) from rfl)
  have h1 := fun w' => follows_any w' a b (by omega)
  have h2 := fun w' => follows_any w' b a (by omega)
  have H1 := hid h1
  have H2 := hid h2
  clear h1 h2
  have N0 := NW.start w a b
  have a1 := ha.1
  have a2 := ha.2
  obtain ⟨T, hT⟩ : ∃ T, a.ge.tmod 2 = T := ⟨_, rfl⟩
  have tb : 0 ≤ T ∧ T < 2 := by rw [← hT]; exact ⟨Int.tmod_nonneg 2 a1, Int.tmod_lt_of_pos _ (by omega)⟩
  rw [hT] at HN
  have KW : IntKind.i64.wrap T = T := wrap_i64_id T (by omega) (by omega)
  have W3 : ((w.alloc (.cells (supC a) 56)).alloc (.cells (supC b) 56)).alloc (.cells #[.int .i64 0, .int .i64 0, .int .i64 0, .int .i64 0, .int .i64 0] 56) = ((w.alloc (.cells (supC a) 56)).alloc (.cells (supC b) 56)).alloc (.cells (supC sup0) 56) := rfl
  generalize ((w.alloc (.cells (supC a) 56)).alloc (.cells (supC b) 56)).alloc (.cells (supC sup0) 56) = w3 at *
  have c1 : w3.cell? ⟨w.heap.size, 1, none⟩ = some (.int .i64 a.ge) := cell_of_row w3 _ 1 _ _ _ N0.r1
  by_cases hT0 : T = 0
  · subst hT0
    clear tb KW
    go_enter Try.func77, Try.ntmps77
    go_wp2_with (first
      | (refine wpList_load_row_w (by rfl) 56 (.tmp 2) (by rfl) w.heap.size (by rfl) 56 (supC a) (0, 0) _ (by exact N0.r1) Try.underlying56 rfl (supN a) ?_)
      | (refine wpList_load_row_w (by rfl) 56 (.tmp 3) (by rfl) (w.heap.size + 1) (by rfl) 56 (supC b) (0, 0) _ (by exact N0.r2) Try.underlying56 rfl (supN b) ?_))
    refine (H1.out w3).mono ?_
    rintro e w4 ⟨rfl, b4⟩
    have N1 := N0.below b4
    clear N0 b4 c1 W3
    cases hf1 : follF a b
    · have HF1 := hid hf1
      clear hf1
      go_wp2_with (first
        | (refine wpList_load_row_w (by rfl) 56 (.tmp 2) (by rfl) w.heap.size (by rfl) 56 (supC a) (0, 0) _ (by exact N1.r1) Try.underlying56 rfl (supN a) ?_)
        | (refine wpList_load_row_w (by rfl) 56 (.tmp 3) (by rfl) (w.heap.size + 1) (by rfl) 56 (supC b) (0, 0) _ (by exact N1.r2) Try.underlying56 rfl (supN b) ?_))
      refine (H2.out w4).mono ?_
      rintro e w5 ⟨rfl, b5⟩
      have N2 := N1.below b5
      clear N1 b5
      cases hf2 : follF b a
      · have HF := hid (show newerF a b = (sup0, 4) by rw [HN.out, if_neg (by simp), if_neg (by simp [HF1.out]), if_neg (by simp [hf2])])
        clear hf2 HN
        obtain ⟨R9, B9⟩ := N2.done sup0
        go_wp2_with (first
          | (refine wpList_store_row (by rfl) 56 (.tmp 4) (.tmp 21) (by rfl) (w.heap.size + 1 + 1) (supC sup0) (by rfl) (by rfl) 56 (supC sup0) (by exact N2.r3) (supN _) (supS _ _) (supO _) ?_))
        exact bodyPost_ret (v := .tuple #[.agg (supC sup0), .int .i64 4]) (results_c2 Try.results77 _ _ (w.heap.size + 1 + 1) 56 _ _ _ rfl R9 Try.underlying56 rfl (supN _)) rfl ⟨by rw [HF.out], B9⟩
      · have HF := hid (show newerF a b = (b, 0) by rw [HN.out, if_neg (by simp), if_neg (by simp [HF1.out]), if_pos hf2])
        clear hf2 HN
        obtain ⟨R9, B9⟩ := N2.done b
        go_wp2_with (first
          | (refine wpList_load_row_w (by rfl) 56 (.tmp 3) (by rfl) (w.heap.size + 1) (by rfl) 56 (supC b) (0, 0) _ (by exact N2.r2) Try.underlying56 rfl (supN b) ?_)
          | (refine wpList_store_row (by rfl) 56 (.tmp 4) (.tmp 20) (by rfl) (w.heap.size + 1 + 1) (supC b) (by rfl) (by rfl) 56 (supC sup0) (by exact N2.r3) (supN _) (supS _ _) (supO _) ?_))
        exact bodyPost_ret (v := .tuple #[.agg (supC b), .int .i64 0]) (results_c2 Try.results77 _ _ (w.heap.size + 1 + 1) 56 _ _ _ rfl R9 Try.underlying56 rfl (supN _)) rfl ⟨by rw [HF.out], B9⟩
    · have HF := hid (show newerF a b = (a, 0) by rw [HN.out, if_neg (by simp), if_pos hf1])
      clear hf1 HN
      obtain ⟨R9, B9⟩ := N1.done a
      go_wp2_with (first
        | (refine wpList_load_row_w (by rfl) 56 (.tmp 2) (by rfl) w.heap.size (by rfl) 56 (supC a) (0, 0) _ (by exact N1.r1) Try.underlying56 rfl (supN a) ?_)
        | (refine wpList_store_row (by rfl) 56 (.tmp 4) (.tmp 15) (by rfl) (w.heap.size + 1 + 1) (supC a) (by rfl) (by rfl) 56 (supC sup0) (by exact N1.r3) (supN _) (supS _ _) (supO _) ?_))
      exact bodyPost_ret (v := .tuple #[.agg (supC a), .int .i64 0]) (results_c2 Try.results77 _ _ (w.heap.size + 1 + 1) 56 _ _ _ rfl R9 Try.underlying56 rfl (supN _)) rfl ⟨by rw [HF.out], B9⟩
  · have HF := hid (show newerF a b = (sup0, 4) by rw [HN.out, if_pos hT0])
    have hT2 : (T != 0) = true := by simpa using hT0
    clear hT0 HN
    obtain ⟨R9, B9⟩ := N0.done sup0
    go_enter Try.func77, Try.ntmps77
    go_wp2_with (first
      | (refine wpList_store_row (by rfl) 56 (.tmp 4) (.tmp 10) (by rfl) (w.heap.size + 1 + 1) (supC sup0) (by rfl) (by rfl) 56 (supC sup0) (by exact N0.r3) (supN _) (supS _ _) (supO _) ?_))
    exact bodyPost_ret (v := .tuple #[.agg (supC sup0), .int .i64 4]) (results_c2 Try.results77 _ _ (w.heap.size + 1 + 1) 56 _ _ _ rfl R9 Try.underlying56 rfl (supN _)) rfl ⟨by rw [HF.out], B9⟩
end Go.Proofs.Ytihkjfbhmlfonaa
