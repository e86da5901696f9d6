import Derived.Test.YtjpcegjgandnjaaGreatDoorQ05
namespace Go.Proofs.YtjpcegjgandnjaaGreatDoor
set_option linter.unusedVariables false
set_option linter.unusedSimpArgs false
open Go.RowKit
attribute [local go_sem ↓] Go.wp_at_zero Go.wp_at_succ

theorem supN (s : Sup) : (Tryz.prog.info? 99).map (·.size) = some (supC s).size := by rw [size_super]; rfl
theorem supO (s : Sup) : (supC s).all (·.oneCell') = true := by simp [supC, Value.oneCell']
theorem supZ (s : Sup) : (#[.int .i64 0, .int .i64 0, .int .i64 0, .int .i64 0, .int .i64 0] : Array Value).size = (supC s).size := rfl
theorem setRow3 (w : World) (A B : Obj) (cs ds : Array Value) (t : TypeId) (fr : Nat × Nat) : (((w.alloc A).alloc B).alloc (.cells cs t fr)).setRow (w.heap.size + 1 + 1) ds = ((w.alloc A).alloc B).alloc (.cells ds t fr) := by
  have h := setRow_alloc ((w.alloc A).alloc B) cs ds t fr
  rw [World.size_alloc, World.size_alloc] at h
  exact h
def mkN (n o : Sup) (M : Int) : Sup := { o with ge := o.ge + 1, ma := M, hd := n.hd }
theorem fin3 {w w3 : World} {n o : Sup} (r1 : w3.heap[w.heap.size]? = some (.cells (supC n) 99 (0, 0))) (r3 : w3.heap[w.heap.size + 1 + 1]? = some (.cells (supC o) 99 (0, 0))) (b3 : Below w.heap.size w w3) (M : Int) :
    (((w3.setCell ⟨w.heap.size + 1 + 1, 1, none⟩ (.int .i64 (o.ge + 1))).setCell ⟨w.heap.size + 1 + 1, 2, none⟩ (.int .i64 M)).setCell ⟨w.heap.size + 1 + 1, 3, none⟩ (.int .i64 n.hd)).heap[w.heap.size]? = some (.cells (supC n) 99 (0, 0))
    ∧ (((w3.setCell ⟨w.heap.size + 1 + 1, 1, none⟩ (.int .i64 (o.ge + 1))).setCell ⟨w.heap.size + 1 + 1, 2, none⟩ (.int .i64 M)).setCell ⟨w.heap.size + 1 + 1, 3, none⟩ (.int .i64 n.hd)).heap[w.heap.size + 1 + 1]? = some (.cells (supC (mkN n o M)) 99 (0, 0))
    ∧ Below w.heap.size w (((w3.setCell ⟨w.heap.size + 1 + 1, 1, none⟩ (.int .i64 (o.ge + 1))).setCell ⟨w.heap.size + 1 + 1, 2, none⟩ (.int .i64 M)).setCell ⟨w.heap.size + 1 + 1, 3, none⟩ (.int .i64 n.hd)) := by
  have S1 := heap_setCell_same w3 _ 1 _ _ (.int .i64 (o.ge + 1)) r3
  have S2 := heap_setCell_same _ _ 2 _ _ (.int .i64 M) S1
  have S3 := heap_setCell_same _ _ 3 _ _ (.int .i64 n.hd) S2
  refine ⟨heap_set_far (heap_set_far (heap_set_far r1 ⟨w.heap.size + 1 + 1, 1, none⟩ _ (by simp; omega)) ⟨w.heap.size + 1 + 1, 2, none⟩ _ (by simp; omega)) ⟨w.heap.size + 1 + 1, 3, none⟩ _ (by simp; omega), S3, ((b3.setCell (by simp; omega) _).setCell (by simp; omega) _).setCell (by simp; omega) _⟩
theorem foll_gt (n o : Sup) (h : o.ma < n.ma) : follF n o = decide (n = mkN n o n.ma) := by
  unfold follF mkN; rw [show max o.ma n.ma = n.ma by omega]
theorem foll_le (n o : Sup) (h : ¬ o.ma < n.ma) : follF n o = decide (n = mkN n o o.ma) := by
  unfold follF mkN; rw [show max o.ma n.ma = o.ma by omega]
set_option maxRecDepth 100000 in
set_option maxHeartbeats 1000000 in
theorem follows_any (w : World) (n o : Sup) (hb : -9223372036854775808 ≤ o.ge ∧ o.ge < 9223372036854775807) :
    Calls Tryz.prog 177 #[.agg (supC n), .agg (supC o)] w fun ed w' => ed = .returned (.bool (follF n o)) ∧ Below w.heap.size w w' := by
  obtain ⟨h1, h2⟩ := hb
  have h3 : o.ge + 1 ≤ 9223372036854775807 := by omega
  have KQ := fun (M : Int) => eqSup n (mkN n o M)
  have KG := guardU
  have r1 := heap3_old w (.cells (supC n) 99) (.cells (supC o) 99) (.cells (supC o) 99)
  have r2 := heap3_mid w (.cells (supC n) 99) (.cells (supC o) 99) (.cells (supC o) 99)
  have r3 := heap3_new w (.cells (supC n) 99) (.cells (supC o) 99) (.cells (supC o) 99)
  have b3 := below3 w (.cells (supC n) 99) (.cells (supC o) 99) (.cells (supC o) 99)
  have z3 := heap3_new w (.cells (supC n) 99) (.cells (supC o) 99) (.cells #[.int .i64 0, .int .i64 0, .int .i64 0, .int .i64 0, .int .i64 0] 99)
  have HSR := hid (setRow3 w (.cells (supC n) 99) (.cells (supC o) 99) #[.int .i64 0, .int .i64 0, .int .i64 0, .int .i64 0, .int .i64 0] (supC o) 99 (0, 0))
  have q3 := hnew (w.alloc (.cells (supC n) 99)) (.cells (supC o) 99)
  rw [World.size_alloc] at q3
  by_cases hm : o.ma < n.ma
  · have HF := hid (foll_gt n o hm)
    go_enter Tryz.func177, Tryz.ntmps177
    go_wp2_with (first
      | (refine wpList_load_row_w rfl 99 (.tmp 3) rfl (w.heap.size + 1) rfl 99 (supC o) (0, 0) _ q3 Tryz.underlying99 rfl (supN o) ?_)
      | (refine wpList_load_row_w (by rfl) 99 (.tmp 2) (by rfl) w.heap.size (by rfl) 99 (supC n) (0, 0) _ (by exact (fin3 r1 r3 b3 _).1) Tryz.underlying99 rfl (supN n) ?_)
      | (refine wpList_load_row_w (by rfl) 99 (.tmp 5) (by rfl) (w.heap.size + 1 + 1) (by rfl) 99 (supC (mkN n o n.ma)) (0, 0) _ (by exact (fin3 r1 r3 b3 n.ma).2.1) Tryz.underlying99 rfl (supN _) ?_; have B9 := (fin3 r1 r3 b3 n.ma).2.2)
      | (refine wpList_store_row rfl 99 _ _ rfl _ (supC o) rfl rfl 99 _ z3 (supN o) (supZ o) (supO o) ?_; rw [HSR.out]; clear HSR z3 q3; generalize ((w.alloc (.cells (supC n) 99)).alloc (.cells (supC o) 99)).alloc (.cells (supC o) 99) = w3 at *; have c1 : w3.cell? ⟨w.heap.size + 1 + 1, 1, none⟩ = some (.int .i64 o.ge) := cell_of_row w3 _ 1 _ _ _ r3; have c2 : w3.cell? ⟨w.heap.size + 1 + 1, 2, none⟩ = some (.int .i64 o.ma) := cell_of_row w3 _ 2 _ _ _ r3; have c3 : w3.cell? ⟨w.heap.size + 1 + 1, 3, none⟩ = some (.int .i64 o.hd) := cell_of_row w3 _ 3 _ _ _ r3; have c4 : w3.cell? ⟨w.heap.size + 1, 2, none⟩ = some (.int .i64 o.ma) := cell_of_row w3 _ 2 _ _ _ r2; have c5 : w3.cell? ⟨w.heap.size, 2, none⟩ = some (.int .i64 n.ma) := cell_of_row w3 _ 2 _ _ _ r1; have c6 : w3.cell? ⟨w.heap.size, 3, none⟩ = some (.int .i64 n.hd) := cell_of_row w3 _ 3 _ _ _ r1; have f1 : w3.frozen? ⟨w.heap.size + 1 + 1, 1, none⟩ = false := frozen_of_row _ _ _ _ _ r3; have f2 : w3.frozen? ⟨w.heap.size + 1 + 1, 2, none⟩ = false := frozen_of_row _ _ _ _ _ r3; have f3 : w3.frozen? ⟨w.heap.size + 1 + 1, 3, none⟩ = false := frozen_of_row _ _ _ _ _ r3))
    go_ret
    exact ⟨by rw [HF.out]; rfl, B9⟩
  · have HF := hid (foll_le n o hm)
    go_enter Tryz.func177, Tryz.ntmps177
    go_wp2_with (first
      | (refine wpList_load_row_w rfl 99 (.tmp 3) rfl (w.heap.size + 1) rfl 99 (supC o) (0, 0) _ q3 Tryz.underlying99 rfl (supN o) ?_)
      | (refine wpList_load_row_w (by rfl) 99 (.tmp 2) (by rfl) w.heap.size (by rfl) 99 (supC n) (0, 0) _ (by exact (fin3 r1 r3 b3 _).1) Tryz.underlying99 rfl (supN n) ?_)
      | (refine wpList_load_row_w (by rfl) 99 (.tmp 5) (by rfl) (w.heap.size + 1 + 1) (by rfl) 99 (supC (mkN n o o.ma)) (0, 0) _ (by exact (fin3 r1 r3 b3 o.ma).2.1) Tryz.underlying99 rfl (supN _) ?_; have B9 := (fin3 r1 r3 b3 o.ma).2.2)
      | (refine wpList_store_row rfl 99 _ _ rfl _ (supC o) rfl rfl 99 _ z3 (supN o) (supZ o) (supO o) ?_; rw [HSR.out]; clear HSR z3 q3; generalize ((w.alloc (.cells (supC n) 99)).alloc (.cells (supC o) 99)).alloc (.cells (supC o) 99) = w3 at *; have c1 : w3.cell? ⟨w.heap.size + 1 + 1, 1, none⟩ = some (.int .i64 o.ge) := cell_of_row w3 _ 1 _ _ _ r3; have c2 : w3.cell? ⟨w.heap.size + 1 + 1, 2, none⟩ = some (.int .i64 o.ma) := cell_of_row w3 _ 2 _ _ _ r3; have c3 : w3.cell? ⟨w.heap.size + 1 + 1, 3, none⟩ = some (.int .i64 o.hd) := cell_of_row w3 _ 3 _ _ _ r3; have c4 : w3.cell? ⟨w.heap.size + 1, 2, none⟩ = some (.int .i64 o.ma) := cell_of_row w3 _ 2 _ _ _ r2; have c5 : w3.cell? ⟨w.heap.size, 2, none⟩ = some (.int .i64 n.ma) := cell_of_row w3 _ 2 _ _ _ r1; have c6 : w3.cell? ⟨w.heap.size, 3, none⟩ = some (.int .i64 n.hd) := cell_of_row w3 _ 3 _ _ _ r1; have f1 : w3.frozen? ⟨w.heap.size + 1 + 1, 1, none⟩ = false := frozen_of_row _ _ _ _ _ r3; have f2 : w3.frozen? ⟨w.heap.size + 1 + 1, 2, none⟩ = false := frozen_of_row _ _ _ _ _ r3; have f3 : w3.frozen? ⟨w.heap.size + 1 + 1, 3, none⟩ = false := frozen_of_row _ _ _ _ _ r3))
    go_ret
    exact ⟨by rw [HF.out]; rfl, B9⟩
end Go.Proofs.YtjpcegjgandnjaaGreatDoor
namespace Go.Proofs.YtjpcegjgandnjaaGreatDoor
set_option linter.unusedVariables false
set_option linter.unusedSimpArgs false
open Go.RowKit
attribute [local go_sem ↓] Go.wp_at_zero Go.wp_at_succ

theorem run_build64 (a : Act) (o : Oper) (ho : o.op = .build 273 #[]) (w : World) : (execOp a.eval o).run Tryz.prog w = .ok (.value (.agg (ints .u8 (zz 64)).toArray)) w := by
  unfold execOp
  rw [ho]
  kernel_rfl
theorem wpList_build64 {w : World} {ops : Array Oper} {rest : List Oper} {o : Oper} {a : Act} {Q : Exit → Act → World → Prop} (hw : Region.wanted o (yielded ops a.tmps) = true) (ho : o.op = .build 273 #[])
    (h : wpList Tryz.prog ops Q rest (a.put o.dst (.agg (ints .u8 (zz 64)).toArray)) w) : wpList Tryz.prog ops Q (o :: rest) a w := by
  refine BigFrame.wpList_want hw fun K hK => ?_
  unfold Oper.wp
  rw [run_build64 a o ho w]
  exact hK _ _ h
set_option maxRecDepth 100000 in
set_option maxHeartbeats 1000000 in
theorem isEmpty_any (w : World) (r : List Int) (sp : Option Addr) (cap : Nat) (hS : Src w sp cap r) :
    Calls Tryz.prog 143 #[.slice sp r.length cap] w fun e w' => e = .returned (.bool (emptyF r)) ∧ Below w.heap.size w w' := by
  have hlm : (r.length : Int) ≤ 9223372036854775807 := by have := hS.1; have := hS.2.1; unfold maxLen at this; omega
  by_cases hl : r.length = 256
  · have hfs := firstSector_any w r 256 cap sp (by omega) hl.symm hS
    have HF := hid (show emptyF r = decide (r.take 64 = zz 64) by unfold emptyF zz; simp [hl])
    have hl64 : (r.take 64).length = 64 := by rw [List.length_take]; omega
    have KQ := hid (fun w => eqS (r.take 64) (zz 64) hl64 (zz_len 64) w)
    have KG := guardS
    rw [hl]
    clear hS hl hlm
    generalize r.take 64 = sec at *
    go_enter Tryz.func143, Tryz.ntmps143
    go_wp2_with fail
    refine hfs.mono ?_
    rintro e w2 ⟨rfl, b2⟩
    have KQ' := KQ.out
    go_wp2_with (first
      | (refine wpList_build64 (by rfl) (by rfl) ?_))
    go_ret
    exact ⟨by rw [HF.out]; rfl, b2⟩
  · have HF := hid (show emptyF r = false by unfold emptyF; simp [hl])
    have hl2 : ((r.length : Int) == 256) = false := by simp; omega
    clear hS hl
    go_enter Tryz.func143, Tryz.ntmps143
    go_wp2
    go_ret
    exact ⟨by rw [HF.out]; rfl, Below.refl _ _⟩
/-- Where newer is. -/
structure NW (w w' : World) (a b : Sup) : Prop where
  r1 : w'.heap[w.heap.size]? = some (.cells (supC a) 99 (0, 0))
  r2 : w'.heap[w.heap.size + 1]? = some (.cells (supC b) 99 (0, 0))
  r3 : w'.heap[w.heap.size + 1 + 1]? = some (.cells (supC sup0) 99 (0, 0))
  bl : Below w.heap.size w w'
theorem NW.start (w : World) (a b : Sup) : NW w (((w.alloc (.cells (supC a) 99)).alloc (.cells (supC b) 99)).alloc (.cells (supC sup0) 99)) a b :=
  ⟨heap3_old _ _ _ _, heap3_mid _ _ _ _, heap3_new _ _ _ _, below3 _ _ _ _⟩
theorem NW.below {w w' w2 : World} {a b : Sup} (h : NW w w' a b) (hb : Below w'.heap.size w' w2) : NW w w2 a b :=
  ⟨hbel hb h.r1 (hlt h.r1), hbel hb h.r2 (hlt h.r2), hbel hb h.r3 (hlt h.r3), h.bl.trans (hb.mono h.bl.size)⟩
theorem NW.done {w w' : World} {a b : Sup} (h : NW w w' a b) (s : Sup) : (w'.setRow (w.heap.size + 1 + 1) (supC s)).heap[w.heap.size + 1 + 1]? = some (.cells (supC s) 99 (0, 0)) ∧ Below w.heap.size w (w'.setRow (w.heap.size + 1 + 1) (supC s)) :=
  ⟨setRow_heap w' _ _ _ _ _ h.r3, below_setRow h.bl (by omega) _⟩
theorem supS (s t : Sup) : (supC s).size = (supC t).size := rfl
set_option maxRecDepth 100000 in
set_option maxHeartbeats 2000000 in
theorem newer_any (w : World) (a b : Sup) (ha : 0 ≤ a.ge ∧ a.ge ≤ 1099511627776) (hb : 0 ≤ b.ge ∧ b.ge ≤ 1099511627776) :
    Calls Tryz.prog 142 #[.agg (supC a), .agg (supC b)] w fun e w' => e = .returned (.tuple #[.agg (supC (newerF a b).1), .int .i64 (newerF a b).2]) ∧ Below w.heap.size w w' := by
  have HN := hid (show newerF a b = if a.ge.tmod 2 ≠ 0 then (sup0, 4) else if follF a b = true then (a, 0) else if follF b a = true then (b, 0) else (sup0, 4) from rfl)
  have h1 := fun w' => follows_any w' a b (by omega)
  have h2 := fun w' => follows_any w' b a (by omega)
  have H1 := hid h1
  have H2 := hid h2
  clear h1 h2
  have N0 := NW.start w a b
  have a1 := ha.1
  have a2 := ha.2
  obtain ⟨T, hT⟩ : ∃ T, a.ge.tmod 2 = T := ⟨_, rfl⟩
  have tb : 0 ≤ T ∧ T < 2 := by rw [← hT]; exact ⟨Int.tmod_nonneg 2 a1, Int.tmod_lt_of_pos _ (by omega)⟩
  rw [hT] at HN
  have KW : IntKind.i64.wrap T = T := wrap_i64_id T (by omega) (by omega)
  have W3 : ((w.alloc (.cells (supC a) 99)).alloc (.cells (supC b) 99)).alloc (.cells #[.int .i64 0, .int .i64 0, .int .i64 0, .int .i64 0, .int .i64 0] 99) = ((w.alloc (.cells (supC a) 99)).alloc (.cells (supC b) 99)).alloc (.cells (supC sup0) 99) := rfl
  generalize ((w.alloc (.cells (supC a) 99)).alloc (.cells (supC b) 99)).alloc (.cells (supC sup0) 99) = w3 at *
  have c1 : w3.cell? ⟨w.heap.size, 1, none⟩ = some (.int .i64 a.ge) := cell_of_row w3 _ 1 _ _ _ N0.r1
  by_cases hT0 : T = 0
  · subst hT0
    clear tb KW
    go_enter Tryz.func142, Tryz.ntmps142
    go_wp2_with (first
      | (refine wpList_load_row_w (by rfl) 99 (.tmp 2) (by rfl) w.heap.size (by rfl) 99 (supC a) (0, 0) _ (by exact N0.r1) Tryz.underlying99 rfl (supN a) ?_)
      | (refine wpList_load_row_w (by rfl) 99 (.tmp 3) (by rfl) (w.heap.size + 1) (by rfl) 99 (supC b) (0, 0) _ (by exact N0.r2) Tryz.underlying99 rfl (supN b) ?_))
    refine (H1.out w3).mono ?_
    rintro e w4 ⟨rfl, b4⟩
    have N1 := N0.below b4
    clear N0 b4 c1 W3
    cases hf1 : follF a b
    · have HF1 := hid hf1
      clear hf1
      go_wp2_with (first
        | (refine wpList_load_row_w (by rfl) 99 (.tmp 2) (by rfl) w.heap.size (by rfl) 99 (supC a) (0, 0) _ (by exact N1.r1) Tryz.underlying99 rfl (supN a) ?_)
        | (refine wpList_load_row_w (by rfl) 99 (.tmp 3) (by rfl) (w.heap.size + 1) (by rfl) 99 (supC b) (0, 0) _ (by exact N1.r2) Tryz.underlying99 rfl (supN b) ?_))
      refine (H2.out w4).mono ?_
      rintro e w5 ⟨rfl, b5⟩
      have N2 := N1.below b5
      clear N1 b5
      cases hf2 : follF b a
      · have HF := hid (show newerF a b = (sup0, 4) by rw [HN.out, if_neg (by simp), if_neg (by simp [HF1.out]), if_neg (by simp [hf2])])
        clear hf2 HN
        obtain ⟨R9, B9⟩ := N2.done sup0
        go_wp2_with (first
          | (refine wpList_store_row (by rfl) 99 (.tmp 4) (.tmp 21) (by rfl) (w.heap.size + 1 + 1) (supC sup0) (by rfl) (by rfl) 99 (supC sup0) (by exact N2.r3) (supN _) (supS _ _) (supO _) ?_))
        exact bodyPost_ret (v := .tuple #[.agg (supC sup0), .int .i64 4]) (results_c2 Tryz.results142 _ _ (w.heap.size + 1 + 1) 99 _ _ _ rfl R9 Tryz.underlying99 rfl (supN _)) rfl ⟨by rw [HF.out], B9⟩
      · have HF := hid (show newerF a b = (b, 0) by rw [HN.out, if_neg (by simp), if_neg (by simp [HF1.out]), if_pos hf2])
        clear hf2 HN
        obtain ⟨R9, B9⟩ := N2.done b
        go_wp2_with (first
          | (refine wpList_load_row_w (by rfl) 99 (.tmp 3) (by rfl) (w.heap.size + 1) (by rfl) 99 (supC b) (0, 0) _ (by exact N2.r2) Tryz.underlying99 rfl (supN b) ?_)
          | (refine wpList_store_row (by rfl) 99 (.tmp 4) (.tmp 20) (by rfl) (w.heap.size + 1 + 1) (supC b) (by rfl) (by rfl) 99 (supC sup0) (by exact N2.r3) (supN _) (supS _ _) (supO _) ?_))
        exact bodyPost_ret (v := .tuple #[.agg (supC b), .int .i64 0]) (results_c2 Tryz.results142 _ _ (w.heap.size + 1 + 1) 99 _ _ _ rfl R9 Tryz.underlying99 rfl (supN _)) rfl ⟨by rw [HF.out], B9⟩
    · have HF := hid (show newerF a b = (a, 0) by rw [HN.out, if_neg (by simp), if_pos hf1])
      clear hf1 HN
      obtain ⟨R9, B9⟩ := N1.done a
      go_wp2_with (first
        | (refine wpList_load_row_w (by rfl) 99 (.tmp 2) (by rfl) w.heap.size (by rfl) 99 (supC a) (0, 0) _ (by exact N1.r1) Tryz.underlying99 rfl (supN a) ?_)
        | (refine wpList_store_row (by rfl) 99 (.tmp 4) (.tmp 15) (by rfl) (w.heap.size + 1 + 1) (supC a) (by rfl) (by rfl) 99 (supC sup0) (by exact N1.r3) (supN _) (supS _ _) (supO _) ?_))
      exact bodyPost_ret (v := .tuple #[.agg (supC a), .int .i64 0]) (results_c2 Tryz.results142 _ _ (w.heap.size + 1 + 1) 99 _ _ _ rfl R9 Tryz.underlying99 rfl (supN _)) rfl ⟨by rw [HF.out], B9⟩
  · have HF := hid (show newerF a b = (sup0, 4) by rw [HN.out, if_pos hT0])
    have hT2 : (T != 0) = true := by simpa using hT0
    clear hT0 HN
    obtain ⟨R9, B9⟩ := N0.done sup0
    go_enter Tryz.func142, Tryz.ntmps142
    go_wp2_with (first
      | (refine wpList_store_row (by rfl) 99 (.tmp 4) (.tmp 10) (by rfl) (w.heap.size + 1 + 1) (supC sup0) (by rfl) (by rfl) 99 (supC sup0) (by exact N0.r3) (supN _) (supS _ _) (supO _) ?_))
    exact bodyPost_ret (v := .tuple #[.agg (supC sup0), .int .i64 4]) (results_c2 Tryz.results142 _ _ (w.heap.size + 1 + 1) 99 _ _ _ rfl R9 Tryz.underlying99 rfl (supN _)) rfl ⟨by rw [HF.out], B9⟩
end Go.Proofs.YtjpcegjgandnjaaGreatDoor
namespace Go.Proofs.YtjpcegjgandnjaaGreatDoor
set_option linter.unusedVariables false
set_option linter.unusedSimpArgs false
open Go.RowKit
attribute [local go_sem ↓] Go.wp_at_zero Go.wp_at_succ

/-- Where Choose is: the answer's place, the two superblocks. -/
structure CW (w w' : World) (x y : Sup) (G6 G8 : Nat) : Prop where
  r : w'.heap[w.heap.size]? = some (.cells (supC sup0) 99 (0, 0))
  r6 : w'.heap[G6]? = some (.cells (supC x) 99 (0, 0))
  r8 : w'.heap[G8]? = some (.cells (supC y) 99 (0, 0))
  bl : Below w.heap.size w w'
theorem CW.below {w w' w2 : World} {x y : Sup} {G6 G8 : Nat} (h : CW w w' x y G6 G8) (hb : Below w'.heap.size w' w2) : CW w w2 x y G6 G8 :=
  ⟨hbel hb h.r (hlt h.r), hbel hb h.r6 (hlt h.r6), hbel hb h.r8 (hlt h.r8), h.bl.trans (hb.mono h.bl.size)⟩
theorem CW.done {w w' : World} {x y : Sup} {G6 G8 : Nat} (h : CW w w' x y G6 G8) (s : Sup) : (w'.setRow w.heap.size (supC s)).heap[w.heap.size]? = some (.cells (supC s) 99 (0, 0)) ∧ Below w.heap.size w (w'.setRow w.heap.size (supC s)) :=
  ⟨setRow_heap w' _ _ _ _ _ h.r, below_setRow h.bl (Nat.le_refl _) _⟩
set_option maxRecDepth 100000 in
set_option maxHeartbeats 2000000 in
theorem choose_any (w : World) (xs ys : List Int) (x8 : Byts xs) (y8 : Byts ys) (sp sq : Option Addr) (cp cq : Nat) (hX : Src w sp cp xs) (hY : Src w sq cq ys) :
    Calls Tryz.prog 106 #[.slice sp xs.length cp, .slice sq ys.length cq] w fun e w' => e = .returned (.tuple #[.agg (supC (chooseF xs ys).1), .int .i64 (chooseF xs ys).2]) ∧ Below w.heap.size w w' := by
  have HC := hid (show chooseF xs ys = if (unSuperF xs).2 = 0 ∧ (unSuperF ys).2 = 0 then newerF (unSuperF xs).1 (unSuperF ys).1
    else if ((unSuperF xs).2 = 0 ∧ (unSuperF xs).1.ge = 0) ∨ emptyF xs = true then (if emptyF ys = true then (sup0, 55) else (sup0, 4)) else (sup0, 4) from rfl)
  have hu1 := fun (w' : World) (h : Src w' sp cp xs) => unSuper_any w' xs x8 sp cp h
  have hu2 := fun (w' : World) (h : Src w' sq cq ys) => unSuper_any w' ys y8 sq cq h
  have VX := hid (fun h => ((validS_iff _).1 (unSuper_ok xs h).2.1))
  have VY := hid (fun h => ((validS_iff _).1 (unSuper_ok ys h).2.1))
  generalize unSuperF xs = U at *
  generalize unSuperF ys = V at *
  obtain ⟨x, ex⟩ := U
  obtain ⟨y, ey⟩ := V
  simp only at hu1 hu2 HC VX VY
  have r0 := hnew w (.cells (supC sup0) 99)
  have b0 := below_new w (.cells (supC sup0) 99)
  have hX0 := hX.below b0 (Nat.le_refl _)
  have hY0 := hY.below b0 (Nat.le_refl _)
  go_enter Tryz.func106, Tryz.ntmps106
  go_wp2_with fail
  refine (hu1 _ hX0).mono ?_
  rintro e w1 ⟨rfl, b1⟩
  have r1 := hbel b1 r0 (hlt r0)
  have B1 := b0.trans (b1.mono b0.size)
  have hY1 := hY0.below b1 (Nat.le_refl _)
  have hX1 := hX0.below b1 (Nat.le_refl _)
  have z1 := hnew w1 (.cells (supC x) 99)
  have d1 := below_new w1 (.cells (supC x) 99)
  have r2 := hbel d1 r1 (hlt r1)
  have B2 := B1.trans (d1.mono B1.size)
  have hY2 := hY1.below d1 (Nat.le_refl _)
  have hX2 := hX1.below d1 (Nat.le_refl _)
  clear r0 b0 b1 r1 B1 hY1 d1 hu1 hX0 hY0 hX1
  go_wp2_with (first
    | (refine wpList_store_row (by rfl) 99 (.tmp 6) (.tmp 13) (by rfl) w1.heap.size (supC x) (by rfl) (by rfl) 99 _ (by exact hnew _ _) (supN x) (supZ x) (supO x) ?_; rw [setRow_alloc]; generalize w1.alloc (.cells (supC x) 99) = w2 at *; generalize w1.heap.size = G6 at *))
  refine (hu2 _ hY2).mono ?_
  rintro e w3 ⟨rfl, b3⟩
  have r3 := hbel b3 r2 (hlt r2)
  have z3 := hbel b3 z1 (hlt z1)
  have B3 := B2.trans (b3.mono B2.size)
  have hX3 := hX2.below b3 (Nat.le_refl _)
  have hY3 := hY2.below b3 (Nat.le_refl _)
  have s4 := hnew w3 (.cells (supC y) 99)
  have d4 := below_new w3 (.cells (supC y) 99)
  have C4 : CW w (w3.alloc (.cells (supC y) 99)) x y G6 w3.heap.size := ⟨hbel d4 r3 (hlt r3), hbel d4 z3 (hlt z3), s4, B3.trans (d4.mono B3.size)⟩
  have hX4 := hX3.below d4 (Nat.le_refl _)
  have hY4 := hY3.below d4 (Nat.le_refl _)
  clear r2 z1 b3 B2 hX2 hY2 r3 z3 B3 hX3 hY3 s4 d4 hu2
  have EX := hid (fun (w' : World) (h : Src w' sp cp xs) => isEmpty_any w' xs sp cp h)
  have EY := hid (fun (w' : World) (h : Src w' sq cq ys) => isEmpty_any w' ys sq cq h)
  rcases Classical.em (ex = 0) with hxe | hxe
  · subst hxe
    obtain ⟨v1, v2, v3, v4, _⟩ := VX.out rfl
    rcases Classical.em (ey = 0) with hye | hye
    · subst hye
      obtain ⟨u1, u2, u3, u4, _⟩ := VY.out rfl
      have HF := hid (show chooseF xs ys = newerF x y by rw [HC.out, if_pos ⟨rfl, rfl⟩])
      have hnw := fun w' => newer_any w' x y ⟨v3, v4⟩ ⟨u3, u4⟩
      have HNW := hid hnw
      clear hnw HC VX VY EX EY
      go_wp2_with (first
        | (refine wpList_store_row (by rfl) 99 (.tmp 8) (.tmp 18) (by rfl) w3.heap.size (supC y) (by rfl) (by rfl) 99 _ (by exact hnew _ _) (supN y) (supZ y) (supO y) ?_; rw [setRow_alloc]; generalize w3.alloc (.cells (supC y) 99) = w4 at *; generalize w3.heap.size = G8 at *)
        | (refine wpList_load_row_w (by rfl) 99 (.tmp 6) (by rfl) G6 (by rfl) 99 (supC x) (0, 0) _ (by exact C4.r6) Tryz.underlying99 rfl (supN x) ?_)
        | (refine wpList_load_row_w (by rfl) 99 (.tmp 8) (by rfl) G8 (by rfl) 99 (supC y) (0, 0) _ (by exact C4.r8) Tryz.underlying99 rfl (supN y) ?_))
      refine (HNW.out w4).mono ?_
      rintro e w5 ⟨rfl, b5⟩
      have C5 := C4.below b5
      obtain ⟨R9, B9⟩ := C5.done (newerF x y).1
      generalize newerF x y = NF at *
      obtain ⟨ns, ne⟩ := NF
      simp only at R9 B9
      go_wp2_with (first
        | (refine wpList_store_row (by rfl) 99 (.tmp 4) (.tmp 41) (by rfl) w.heap.size (supC ns) (by rfl) (by rfl) 99 (supC sup0) (by exact C5.r) (supN _) (supS _ _) (supO _) ?_))
      exact bodyPost_ret (v := .tuple #[.agg (supC ns), .int .i64 ne]) (results_c2 Tryz.results106 _ _ w.heap.size 99 _ _ _ rfl R9 Tryz.underlying99 rfl (supN _)) rfl ⟨by rw [HF.out], B9⟩
    · have hye2 : (ey == 0) = false := by simpa using hye
      rcases Classical.em (x.ge = 0) with hg | hg
      · have HU2 := hid (show chooseF xs ys = if emptyF ys = true then (sup0, 55) else (sup0, 4) by rw [HC.out, if_neg (fun h => hye h.2), if_pos (Or.inl ⟨rfl, hg⟩)])
        have HG := hid hg
        clear HC hye VX VY EX v1 v2 v3 v4 hg
        go_wp2_with (first
          | (refine wpList_store_row (by rfl) 99 (.tmp 8) (.tmp 18) (by rfl) w3.heap.size (supC y) (by rfl) (by rfl) 99 _ (by exact hnew _ _) (supN y) (supZ y) (supO y) ?_; rw [setRow_alloc]; generalize w3.alloc (.cells (supC y) 99) = w4 at *; generalize w3.heap.size = G8 at *; have cg : w4.cell? ⟨G6, 1, none⟩ = some (.int .i64 x.ge) := cell_of_row w4 _ 1 _ _ _ C4.r6; rw [HG.out] at cg))
        clear cg HG
        refine (EY.out w4 hY4).mono ?_
        rintro e v2 ⟨rfl, e2⟩
        have D2 := C4.below e2
        cases hey : emptyF ys
        · have HF := hid (show chooseF xs ys = (sup0, 4) by rw [HU2.out, if_neg (by simp [hey])])
          clear hey HU2
          obtain ⟨R9, B9⟩ := D2.done sup0
          go_wp2_with (first
            | (refine wpList_store_row (by rfl) 99 (.tmp 4) (.tmp 46) (by rfl) w.heap.size (supC sup0) (by rfl) (by rfl) 99 (supC sup0) (by exact D2.r) (supN _) (supS _ _) (supO _) ?_))
          exact bodyPost_ret (v := .tuple #[.agg (supC sup0), .int .i64 4]) (results_c2 Tryz.results106 _ _ w.heap.size 99 _ _ _ rfl R9 Tryz.underlying99 rfl (supN _)) rfl ⟨by rw [HF.out], B9⟩
        · have HF := hid (show chooseF xs ys = (sup0, 55) by rw [HU2.out, if_pos hey])
          clear hey HU2
          obtain ⟨R9, B9⟩ := D2.done sup0
          go_wp2_with (first
            | (refine wpList_store_row (by rfl) 99 (.tmp 4) (.tmp 45) (by rfl) w.heap.size (supC sup0) (by rfl) (by rfl) 99 (supC sup0) (by exact D2.r) (supN _) (supS _ _) (supO _) ?_))
          exact bodyPost_ret (v := .tuple #[.agg (supC sup0), .int .i64 55]) (results_c2 Tryz.results106 _ _ w.heap.size 99 _ _ _ rfl R9 Tryz.underlying99 rfl (supN _)) rfl ⟨by rw [HF.out], B9⟩
      · have hg2 : (x.ge == 0) = false := by simpa using hg
        have HU := hid (show chooseF xs ys = if emptyF xs = true then (if emptyF ys = true then (sup0, 55) else (sup0, 4)) else (sup0, 4) by
          rw [HC.out, if_neg (fun h => hye h.2)]
          cases emptyF xs
          · rw [if_neg (by simp [hg]), if_neg (by simp)]
          · rw [if_pos (Or.inr rfl), if_pos rfl])
        clear HC hye VX VY v1 v2 v3 v4 hg
        go_wp2_with (first
          | (refine wpList_store_row (by rfl) 99 (.tmp 8) (.tmp 18) (by rfl) w3.heap.size (supC y) (by rfl) (by rfl) 99 _ (by exact hnew _ _) (supN y) (supZ y) (supO y) ?_; rw [setRow_alloc]; generalize w3.alloc (.cells (supC y) 99) = w4 at *; generalize w3.heap.size = G8 at *; have cg : w4.cell? ⟨G6, 1, none⟩ = some (.int .i64 x.ge) := cell_of_row w4 _ 1 _ _ _ C4.r6; generalize x.ge = xg at *))
        clear cg hg2
        refine (EX.out w4 hX4).mono ?_
        rintro e v1 ⟨rfl, e1⟩
        have D1 := C4.below e1
        have hYD := hY4.below e1 (Nat.le_refl _)
        cases hex : emptyF xs
        · have HF := hid (show chooseF xs ys = (sup0, 4) by rw [HU.out, if_neg (by simp [hex])])
          clear hex HU
          obtain ⟨R9, B9⟩ := D1.done sup0
          go_wp2_with (first
            | (refine wpList_store_row (by rfl) 99 (.tmp 4) (.tmp 46) (by rfl) w.heap.size (supC sup0) (by rfl) (by rfl) 99 (supC sup0) (by exact D1.r) (supN _) (supS _ _) (supO _) ?_))
          exact bodyPost_ret (v := .tuple #[.agg (supC sup0), .int .i64 4]) (results_c2 Tryz.results106 _ _ w.heap.size 99 _ _ _ rfl R9 Tryz.underlying99 rfl (supN _)) rfl ⟨by rw [HF.out], B9⟩
        · have HU2 := hid (show chooseF xs ys = if emptyF ys = true then (sup0, 55) else (sup0, 4) by rw [HU.out, if_pos hex])
          clear hex HU
          go_wp2_with fail
          refine (EY.out v1 hYD).mono ?_
          rintro e v2 ⟨rfl, e2⟩
          have D2 := D1.below e2
          cases hey : emptyF ys
          · have HF := hid (show chooseF xs ys = (sup0, 4) by rw [HU2.out, if_neg (by simp [hey])])
            clear hey HU2
            obtain ⟨R9, B9⟩ := D2.done sup0
            go_wp2_with (first
              | (refine wpList_store_row (by rfl) 99 (.tmp 4) (.tmp 46) (by rfl) w.heap.size (supC sup0) (by rfl) (by rfl) 99 (supC sup0) (by exact D2.r) (supN _) (supS _ _) (supO _) ?_))
            exact bodyPost_ret (v := .tuple #[.agg (supC sup0), .int .i64 4]) (results_c2 Tryz.results106 _ _ w.heap.size 99 _ _ _ rfl R9 Tryz.underlying99 rfl (supN _)) rfl ⟨by rw [HF.out], B9⟩
          · have HF := hid (show chooseF xs ys = (sup0, 55) by rw [HU2.out, if_pos hey])
            clear hey HU2
            obtain ⟨R9, B9⟩ := D2.done sup0
            go_wp2_with (first
              | (refine wpList_store_row (by rfl) 99 (.tmp 4) (.tmp 45) (by rfl) w.heap.size (supC sup0) (by rfl) (by rfl) 99 (supC sup0) (by exact D2.r) (supN _) (supS _ _) (supO _) ?_))
            exact bodyPost_ret (v := .tuple #[.agg (supC sup0), .int .i64 55]) (results_c2 Tryz.results106 _ _ w.heap.size 99 _ _ _ rfl R9 Tryz.underlying99 rfl (supN _)) rfl ⟨by rw [HF.out], B9⟩
  · have hxe2 : (ex == 0) = false := by simpa using hxe
    have HU := hid (show chooseF xs ys = if emptyF xs = true then (if emptyF ys = true then (sup0, 55) else (sup0, 4)) else (sup0, 4) by
      rw [HC.out, if_neg (fun h => hxe h.1)]
      cases emptyF xs
      · rw [if_neg (by simp [hxe]), if_neg (by simp)]
      · rw [if_pos (Or.inr rfl), if_pos rfl])
    clear HC hxe VX VY
    go_wp2_with (first
      | (refine wpList_store_row (by rfl) 99 (.tmp 8) (.tmp 18) (by rfl) w3.heap.size (supC y) (by rfl) (by rfl) 99 _ (by exact hnew _ _) (supN y) (supZ y) (supO y) ?_; rw [setRow_alloc]; generalize w3.alloc (.cells (supC y) 99) = w4 at *; generalize w3.heap.size = G8 at *))
    refine (EX.out w4 hX4).mono ?_
    rintro e v1 ⟨rfl, e1⟩
    have D1 := C4.below e1
    have hYD := hY4.below e1 (Nat.le_refl _)
    cases hex : emptyF xs
    · have HF := hid (show chooseF xs ys = (sup0, 4) by rw [HU.out, if_neg (by simp [hex])])
      clear hex HU
      obtain ⟨R9, B9⟩ := D1.done sup0
      go_wp2_with (first
        | (refine wpList_store_row (by rfl) 99 (.tmp 4) (.tmp 46) (by rfl) w.heap.size (supC sup0) (by rfl) (by rfl) 99 (supC sup0) (by exact D1.r) (supN _) (supS _ _) (supO _) ?_))
      exact bodyPost_ret (v := .tuple #[.agg (supC sup0), .int .i64 4]) (results_c2 Tryz.results106 _ _ w.heap.size 99 _ _ _ rfl R9 Tryz.underlying99 rfl (supN _)) rfl ⟨by rw [HF.out], B9⟩
    · have HU2 := hid (show chooseF xs ys = if emptyF ys = true then (sup0, 55) else (sup0, 4) by rw [HU.out, if_pos hex])
      clear hex HU
      go_wp2_with fail
      refine (EY.out v1 hYD).mono ?_
      rintro e v2 ⟨rfl, e2⟩
      have D2 := D1.below e2
      cases hey : emptyF ys
      · have HF := hid (show chooseF xs ys = (sup0, 4) by rw [HU2.out, if_neg (by simp [hey])])
        clear hey HU2
        obtain ⟨R9, B9⟩ := D2.done sup0
        go_wp2_with (first
          | (refine wpList_store_row (by rfl) 99 (.tmp 4) (.tmp 46) (by rfl) w.heap.size (supC sup0) (by rfl) (by rfl) 99 (supC sup0) (by exact D2.r) (supN _) (supS _ _) (supO _) ?_))
        exact bodyPost_ret (v := .tuple #[.agg (supC sup0), .int .i64 4]) (results_c2 Tryz.results106 _ _ w.heap.size 99 _ _ _ rfl R9 Tryz.underlying99 rfl (supN _)) rfl ⟨by rw [HF.out], B9⟩
      · have HF := hid (show chooseF xs ys = (sup0, 55) by rw [HU2.out, if_pos hey])
        clear hey HU2
        obtain ⟨R9, B9⟩ := D2.done sup0
        go_wp2_with (first
          | (refine wpList_store_row (by rfl) 99 (.tmp 4) (.tmp 45) (by rfl) w.heap.size (supC sup0) (by rfl) (by rfl) 99 (supC sup0) (by exact D2.r) (supN _) (supS _ _) (supO _) ?_))
        exact bodyPost_ret (v := .tuple #[.agg (supC sup0), .int .i64 55]) (results_c2 Tryz.results106 _ _ w.heap.size 99 _ _ _ rfl R9 Tryz.underlying99 rfl (supN _)) rfl ⟨by rw [HF.out], B9⟩
end Go.Proofs.YtjpcegjgandnjaaGreatDoor
namespace Go.Proofs.YtjpcegjgandnjaaGreatDoor
set_option linter.unusedVariables false
set_option linter.unusedSimpArgs false
open Go.RowKit
attribute [local go_sem ↓] Go.wp_at_zero Go.wp_at_succ

/-! Which superblock holds, of two that stand or one that does not. -/
theorem unS_app (s : Sup) (Y : List Int) (h : validS s = true) (hY : Y.length = 192) : unSuperF (secS s ++ Y) = (s, 0) :=
  unSuper_sec s _ h (by rw [List.length_append, secS_len, hY]) (by rw [List.take_left' (secS_len s)])
/-- u follows s. -/
def Fol (u s : Sup) : Prop := u.ge = s.ge + 1 ∧ u.wd = s.wd ∧ u.pg = s.pg ∧ s.ma ≤ u.ma
theorem Fol.yes {u s : Sup} (h : Fol u s) : follF u s = true := by
  obtain ⟨h1, h2, h3, h4⟩ := h
  unfold follF
  obtain ⟨a, b, c, d, e⟩ := u
  obtain ⟨a', b', c', d', e'⟩ := s
  simp only at h1 h2 h3 h4
  subst h1 h2 h3
  simp [Int.max_eq_right h4]
theorem Fol.no {u s : Sup} (h : Fol u s) : follF s u = false := by
  have h1 := h.1
  unfold follF
  rw [decide_eq_false_iff_not]
  intro e
  have := congrArg Sup.ge e
  simp only at this
  omega
theorem choose_even (s u : Sup) (Y Z : List Int) (hY : Y.length = 192) (hZ : Z.length = 192) (vs : validS s = true) (vu : validS u = true) (hf : Fol u s) (he : s.ge.tmod 2 = 0) : chooseF (secS s ++ Y) (secS u ++ Z) = (u, 0) := by
  unfold chooseF
  rw [unS_app s Y vs hY, unS_app u Z vu hZ, if_pos ⟨rfl, rfl⟩]
  unfold newerF
  rw [if_neg (by simp [he]), if_neg (by simp [hf.no]), if_pos hf.yes]
theorem choose_odd (s u : Sup) (Y Z : List Int) (hY : Y.length = 192) (hZ : Z.length = 192) (vs : validS s = true) (vu : validS u = true) (hf : Fol u s) (he : u.ge.tmod 2 = 0) : chooseF (secS u ++ Y) (secS s ++ Z) = (u, 0) := by
  unfold chooseF
  rw [unS_app u Y vu hY, unS_app s Z vs hZ, if_pos ⟨rfl, rfl⟩]
  unfold newerF
  rw [if_neg (by simp [he]), if_pos hf.yes]
theorem secS_cons (s : Sup) : (secS s).getD 0 0 = 76 ∧ (secS s).getD 8 0 = s.ge % 256 := by
  unfold secS sealF bodyS
  constructor
  · simp
  · simp [num]
end Go.Proofs.YtjpcegjgandnjaaGreatDoor
