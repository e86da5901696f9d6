import Derived.Test.YtjhocjjecfdphaaGreatDoorQ26
namespace Go.Proofs.YtjhocjjecfdphaaGreatDoor
set_option linter.unusedVariables false
set_option linter.unusedSimpArgs false
set_option maxRecDepth 100000
set_option maxHeartbeats 4000000
section
open Go.RowKit
attribute [local go_sem ↓] Go.wp_at_zero Go.wp_at_succ
theorem sub_take (r : List Int) (a n : Nat) (h : a + n ≤ 64) : (r.drop a).take n = ((r.take 64).drop a).take n := by
 rw [List.drop_take, List.take_take, Nat.min_eq_left (by omega)]
theorem sub_get (r : List Int) (j : Nat) (h : j < 64) : r.getD j 0 = (r.take 64).getD j 0 := by
 rw [List.getD_eq_getElem?_getD, List.getD_eq_getElem?_getD, List.getElem?_take, if_pos h]
theorem split64 (r : List Int) (h : r.length = 64) : ∃ x0 x1 x2 x3 x4 x5 x6 x7 a b c d z s, r = [x0, x1, x2, x3, x4, x5, x6, x7] ++ a ++ b ++ c ++ d ++ z ++ s ∧ a.length = 8 ∧ b.length = 4 ∧ c.length = 4 ∧ d.length = 4 ∧ z.length = 32 ∧ s.length = 4 := by
 match r, h with
 | x0 :: x1 :: x2 :: x3 :: x4 :: x5 :: x6 :: x7 :: t, h =>
   have ht : t.length = 56 := by simp at h; omega
   refine ⟨x0, x1, x2, x3, x4, x5, x6, x7, t.take 8, (t.drop 8).take 4, (t.drop 12).take 4, (t.drop 16).take 4, (t.drop 20).take 32, t.drop 52, ?_, by simp; omega, by simp; omega, by simp; omega, by simp; omega, by simp; omega, by simp; omega⟩
   simp only [List.cons_append, List.nil_append, List.cons.injEq, true_and, List.append_assoc]
   rw [show t.drop 52 = (t.drop 20).drop 32 by rw [List.drop_drop], List.take_append_drop, show t.drop 20 = (t.drop 16).drop 4 by rw [List.drop_drop], List.take_append_drop, show t.drop 16 = (t.drop 12).drop 4 by rw [List.drop_drop], List.take_append_drop, show t.drop 12 = (t.drop 8).drop 4 by rw [List.drop_drop], List.take_append_drop, List.take_append_drop]
def refS (r : List Int) : Sup := ⟨r.getD 4 0, rdF ((r.drop 8).take 8), rdF ((r.drop 16).take 4), rdF ((r.drop 20).take 4), rdF ((r.drop 24).take 4)⟩
def lettersOk (r : List Int) : Prop := r.getD 0 0 = 76 ∧ r.getD 1 0 = 68 ∧ r.getD 2 0 = 71 ∧ r.getD 3 0 = 49 ∧ (r.drop 5).take 3 = List.replicate 3 0 ∧ (r.drop 28).take 32 = List.replicate 32 0
theorem refS_take (r : List Int) : refS (r.take 64) = refS r := by
 unfold refS
 rw [sub_get r 4 (by omega), sub_take r 8 8 (by omega), sub_take r 16 4 (by omega), sub_take r 20 4 (by omega), sub_take r 24 4 (by omega)]
theorem lettersOk_take (r : List Int) : lettersOk (r.take 64) ↔ lettersOk r := by
 unfold lettersOk
 rw [sub_get r 0 (by omega), sub_get r 1 (by omega), sub_get r 2 (by omega), sub_get r 3 (by omega), sub_take r 5 3 (by omega), sub_take r 28 32 (by omega)]
theorem rd8 (L : List Int) (h8 : Byts L) (h0 : 0 ≤ rdF L) : rdF L = (le L : Int) := by
 unfold rdF at *
 split at h0
 · omega
 · rename_i hn; rw [if_neg hn]
theorem rd8' (L : List Int) (h : le L ≤ 1099511627776) : rdF L = (le L : Int) := by
 unfold rdF
 have := le_drop_le L 0 1
 rw [List.drop_zero, Nat.zero_add] at this
 rw [if_neg (by omega)]
theorem sec_parts (x0 x1 x2 x3 x4 x5 x6 x7 : Int) (a b c d z s : List Int) (ha : a.length = 8) (hb : b.length = 4) (hc : c.length = 4) (hd : d.length = 4) (hz : z.length = 32) :
   ((([x0, x1, x2, x3, x4, x5, x6, x7] ++ a ++ b ++ c ++ d ++ z ++ s).drop 5).take 3 = [x5, x6, x7]) ∧ ((([x0, x1, x2, x3, x4, x5, x6, x7] ++ a ++ b ++ c ++ d ++ z ++ s).drop 28).take 32 = z) := by
 constructor
 · simp
 · rw [show [x0, x1, x2, x3, x4, x5, x6, x7] ++ a ++ b ++ c ++ d ++ z ++ s = ([x0, x1, x2, x3, x4, x5, x6, x7] ++ a ++ b ++ c ++ d) ++ (z ++ s) by simp [List.append_assoc], List.drop_left' (by simp [ha, hb, hc, hd]), List.take_left' hz]
theorem sec_good (sec : List Int) (hl : sec.length = 64) (h8 : Byts sec) (hC : feed ones sec = CR) (hL : lettersOk sec) (hv : validS (refS sec) = true) : readS sec = refS sec ∧ secS (refS sec) = sec := by
 obtain ⟨x0, x1, x2, x3, x4, x5, x6, x7, a, b, c, d, z, s, rfl, ha, hb, hc, hd, hz, hs⟩ := split64 sec hl
 obtain ⟨f1, f2, f3, f4⟩ := split60 [x0, x1, x2, x3, x4, x5, x6, x7] s a b c d z rfl ha hb hc hd
 obtain ⟨g1, g2⟩ := sec_parts x0 x1 x2 x3 x4 x5 x6 x7 a b c d z s ha hb hc hd hz
 obtain ⟨l0, l1, l2, l3, l4, l5⟩ := hL
 rw [g1] at l4
 rw [g2] at l5
 simp at l0 l1 l2 l3 l4
 obtain ⟨rfl, rfl, rfl⟩ := l4
 subst l0 l1 l2 l3 l5
 have a8 : Byts a := fun x hx => h8 x (by simp [hx])
 have b8 : Byts b := fun x hx => h8 x (by simp [hx])
 have c8 : Byts c := fun x hx => h8 x (by simp [hx])
 have d8 : Byts d := fun x hx => h8 x (by simp [hx])
 have hR : refS ([76, 68, 71, 49, x4, 0, 0, 0] ++ a ++ b ++ c ++ d ++ List.replicate 32 0 ++ s) = ⟨x4, rdF a, le b, le c, le d⟩ := by
   unfold refS
   rw [f1, f2, f3, f4, rd4 b b8 hb, rd4 c c8 hc, rd4 d d8 hd]
   simp
 rw [hR] at hv ⊢
 have hvv := (validS_iff _).1 hv
 simp only at hvv
 have ea := rd8 a a8 hvv.2.2.1
 rw [ea] at hvv ⊢
 constructor
 · unfold readS
   rw [f1, f2, f3, f4, wrap_i64_id _ (by omega) (by omega)]
   simp
 · have hbody : bodyS ⟨x4, (le a : Int), (le b : Int), (le c : Int), (le d : Int)⟩ = [76, 68, 71, 49, x4, 0, 0, 0] ++ a ++ b ++ c ++ d ++ List.replicate 32 0 := by
     have na := num_le a a8
     have nb := num_le b b8
     have nc := num_le c c8
     have nd := num_le d d8
     rw [ha] at na
     rw [hb] at nb
     rw [hc] at nc
     rw [hd] at nd
     unfold bodyS
     simp only
     rw [na, nb, nc, nd]
   have hD := whole_D ([76, 68, 71, 49, x4, 0, 0, 0] ++ a ++ b ++ c ++ d ++ List.replicate 32 0) s h8 hs
   rw [hC] at hD
   have hsum : sbF (sumF ([76, 68, 71, 49, x4, 0, 0, 0] ++ a ++ b ++ c ++ d ++ List.replicate 32 0)) = s := by simpa using hD
   rw [secS, sealF, hbody, hsum]
theorem sec_back (s : Sup) (hv : validS s = true) : lettersOk (secS s) ∧ refS (secS s) = s := by
 have hb := bodyS_byts s hv
 have hvv := (validS_iff s).1 hv
 have e : secS s = [76, 68, 71, 49, s.wd, 0, 0, 0] ++ num s.ge 8 ++ num s.ma 4 ++ num s.hd 4 ++ num s.pg 4 ++ List.replicate 32 0 ++ sbF (sumF (bodyS s)) := rfl
 obtain ⟨f1, f2, f3, f4⟩ := split60 [76, 68, 71, 49, s.wd, 0, 0, 0] (sbF (sumF (bodyS s))) (num s.ge 8) (num s.ma 4) (num s.hd 4) (num s.pg 4) (List.replicate 32 0) rfl (num_len _ _) (num_len _ _) (num_len _ _) (num_len _ _)
 obtain ⟨g1, g2⟩ := sec_parts 76 68 71 49 s.wd 0 0 0 (num s.ge 8) (num s.ma 4) (num s.hd 4) (num s.pg 4) (List.replicate 32 0) (sbF (sumF (bodyS s))) (num_len _ _) (num_len _ _) (num_len _ _) (num_len _ _) (by simp)
 have p8 : ((256 ^ 8 : Nat) : Int) = 18446744073709551616 := by decide
 have p4 : ((256 ^ 4 : Nat) : Int) = 4294967296 := by decide
 have eg := le_num_int s.ge 8 (by omega) (by omega)
 constructor
 · rw [e]
   refine ⟨by simp, by simp, by simp, by simp, ?_, ?_⟩
   · rw [g1]; rfl
   · rw [g2]
 · rw [e]
   unfold refS
   rw [f1, f2, f3, f4, rd4 _ (num_byts _ _) (num_len _ _), rd4 _ (num_byts _ _) (num_len _ _), rd4 _ (num_byts _ _) (num_len _ _), rd8' _ (by omega), eg, le_num_int s.ma 4 (by omega) (by omega), le_num_int s.hd 4 (by omega) (by omega), le_num_int s.pg 4 (by omega) (by omega)]
   simp
theorem unS_ref (r : List Int) (h8 : Byts r) (hl : r.length = 256) (hC : feed ones (r.take 64) = CR) :
   (lettersOk r → validS (refS r) = true → unSuperF r = (refS r, 0)) ∧ (¬ (lettersOk r ∧ validS (refS r) = true) → unSuperF r = (sup0, 53)) := by
 have hl64 : (r.take 64).length = 64 := by rw [List.length_take]; omega
 have h64 := h8.take 64
 constructor
 · intro hL hv
   rw [← lettersOk_take] at hL
   rw [← refS_take] at hv ⊢
   obtain ⟨e1, e2⟩ := sec_good _ hl64 h64 hC hL hv
   unfold unSuperF
   rw [if_neg (by simp [hl]), if_neg (by simp [hC]), e1, if_neg (by simp [hv, e2])]
 · intro hn
   unfold unSuperF
   rw [if_neg (by simp [hl]), if_neg (by simp [hC])]
   by_cases hq : validS (readS (r.take 64)) = false ∨ secS (readS (r.take 64)) ≠ r.take 64
   · rw [if_pos hq]
   · exfalso
     apply hn
     have h1 : validS (readS (r.take 64)) = true := by
       cases h : validS (readS (r.take 64))
       · exact absurd (Or.inl h) hq
       · rfl
     have h2 : secS (readS (r.take 64)) = r.take 64 := Classical.byContradiction fun h => hq (Or.inr h)
     obtain ⟨b1, b2⟩ := sec_back _ h1
     rw [h2] at b1 b2
     rw [← lettersOk_take, ← refS_take, b2]
     exact ⟨b1, h1⟩
theorem supN0 (s : Sup) : (Tryz.prog.info? 39).map (·.size) = some (supC s).size := by rw [size_super]; rfl
theorem supO0 (s : Sup) : (supC s).all (·.oneCell') = true := by simp [supC, Value.oneCell']
theorem run_allocS (a : Act) (o : Oper) (ho : o.op = .alloc 39) (w : World) : (execOp a.eval o).run Tryz.prog w = .ok (.value (.pointer (some ⟨w.heap.size, 0, none⟩))) (w.alloc (.cells (supC sup0) 39)) := by
 unfold execOp
 rw [ho]
 kernel_rfl
theorem step_allocS {ops : Array Oper} {o : Oper} {a : Act} {w : World} {K : Act → World → Prop} {Q : Exit → Act → World → Prop} {E : Prop} (hw : Region.wanted o (yielded ops a.tmps) = true) (ho : o.op = .alloc 39)
   (h : ∀ G w', w'.heap[G]? = some (.cells (supC sup0) 39 (0, 0)) → Below w.heap.size w w' → w.heap.size ≤ G → K (a.put o.dst (.pointer (some ⟨G, 0, none⟩))) w') :
   if Region.wanted o (yielded ops a.tmps) = true then Oper.wp Tryz.prog o a w K Q else E := by
 rw [if_pos hw]
 unfold Oper.wp
 rw [run_allocS a o ho w]
 exact h _ _ (hnew w _) (below_new w _) (Nat.le_refl _)
theorem qUnSuper_ok (w : World) (hG : Gl w) (r : List Int) (h8 : Byts r) (hl : r.length = 256) (hC : feed ones (r.take 64) = CR) (sp : Option Addr) (cap : Nat) (hS : Src w sp cap r) :
   Calls Tryz.prog 80 #[.slice sp 256 cap] w fun e w' => e = .returned (.tuple #[.agg (supC (unSuperF r).1), .int .i64 (unSuperF r).2]) ∧ Below w.heap.size w w' := by
 obtain ⟨HGOOD0, HBAD0⟩ := unS_ref r h8 hl hC
 have HLIN := hid HBAD0
 have HGD := hid HGOOD0
 clear HGOOD0 HBAD0
 have hS' := hS
 obtain ⟨hc, hm, b, o, hb, hsp, hsrc⟩ := hS
 obtain rfl := hsp (by omega)
 replace hb := hb (by omega)
 have i1 : 64 ≤ cap := by omega
 have i2 : (64 : Int) ≤ (cap : Int) := by omega
 have r0 := hnew w (.cells (supC sup0) 39)
 have b0 := below_new w (.cells (supC sup0) 39)
 have hS0 := hS'.below b0 (Nat.le_refl _)
 have hb0 : b < (w.alloc (.cells (supC sup0) 39)).heap.size := Nat.lt_of_lt_of_le hb b0.size
 have h64 : ((r.drop 0).take 64).length = 64 := by simp [hl]
 have hM := hS0.mid 0 64 (by omega) hb0 cap (by omega) hm
 have hw := rwhole_L (w.alloc (.cells (supC sup0) 39)) (hG.below b0 hG.1) ((r.drop 0).take 64) ((h8.drop 0).take 64) (by omega) (by omega) _ _ hM
 rw [h64, List.drop_zero, Nat.add_zero, show decide (feed ones (r.take 64) = CR) = true by simpa using hC] at hw
 have CELL := hid (fun (w' : World) (hB : Below w.heap.size w w') (j : Nat) (hj : j < 256) => show w'.cell? ⟨b, o + j, none⟩ = some (.int .u8 (r.getD j 0)) from (hB.cell (p := ⟨b, o + j, none⟩) hb).trans (hsrc j (by omega)))
 have x4b : 0 ≤ r.getD 4 0 ∧ r.getD 4 0 < 256 := h8 _ (by rw [List.getD_eq_getElem?_getD, List.getElem?_eq_getElem (by omega)]; exact List.getElem_mem _)
 clear hM hS0 hb0 h64 hsrc hC
 have KS := hid (fun (w' : World) (hB : Below w.heap.size w w') => hS'.below hB (Nat.le_refl _))
 replace hl := hid hl
 go_enter Tryz.func80, Tryz.ntmps80
 go_wp2_with fail
 refine hw.mono ?_
 rintro e w2 ⟨rfl, b2⟩
 have B2 := b0.trans (b2.mono b0.size)
 have rR2 := hbel b2 r0 (hlt r0)
 have c0 := CELL.out w2 B2 0 (by omega)
 have c1 := CELL.out w2 B2 1 (by omega)
 have c2 := CELL.out w2 B2 2 (by omega)
 have c3 := CELL.out w2 B2 3 (by omega)
 rw [Nat.add_zero] at c0
 clear b2 b0 r0 hw
 rcases Classical.em (r.getD 0 0 = 76) with hx0 | hx0
 case inr =>
   have HF := hid (HLIN.out (fun h => hx0 h.1.1))
   have hxx0 : (r.getD 0 0 != 76) = true := by simpa using hx0
   clear hx0 HLIN HGD
   generalize r.getD 0 0 = y0 at *
   obtain ⟨rR, BR⟩ := (show _ ∧ _ from ⟨rR2, B2⟩)
   go_wp2_with (first | (refine wpList_store_row (by rfl) 39 (.tmp 2) (.tmp 46) (by rfl) w.heap.size (supC sup0) (by rfl) (by rfl) 39 (supC sup0) (by exact rR) (supN0 _) rfl (supO0 _) ?_))
   exact bodyPost_ret (v := .tuple #[.agg (supC sup0), .int .i64 53]) (results_c2 Tryz.results80 _ _ w.heap.size 39 _ _ _ rfl (setRow_heap _ _ _ (supC sup0) _ _ rR) Tryz.underlying39 rfl (supN0 _)) rfl ⟨by rw [HF.out], below_setRow BR (Nat.le_refl _) _⟩
 rw [hx0] at c0
 have HX0 := hid hx0
 clear hx0
 rcases Classical.em (r.getD 1 0 = 68) with hx1 | hx1
 case inr =>
   have HF := hid (HLIN.out (fun h => hx1 h.1.2.1))
   have hxx1 : (r.getD 1 0 != 68) = true := by simpa using hx1
   clear hx1 HLIN HGD
   generalize r.getD 1 0 = y1 at *
   obtain ⟨rR, BR⟩ := (show _ ∧ _ from ⟨rR2, B2⟩)
   go_wp2_with (first | (refine wpList_store_row (by rfl) 39 (.tmp 2) (.tmp 46) (by rfl) w.heap.size (supC sup0) (by rfl) (by rfl) 39 (supC sup0) (by exact rR) (supN0 _) rfl (supO0 _) ?_))
   exact bodyPost_ret (v := .tuple #[.agg (supC sup0), .int .i64 53]) (results_c2 Tryz.results80 _ _ w.heap.size 39 _ _ _ rfl (setRow_heap _ _ _ (supC sup0) _ _ rR) Tryz.underlying39 rfl (supN0 _)) rfl ⟨by rw [HF.out], below_setRow BR (Nat.le_refl _) _⟩
 rw [hx1] at c1
 have HX1 := hid hx1
 clear hx1
 rcases Classical.em (r.getD 2 0 = 71) with hx2 | hx2
 case inr =>
   have HF := hid (HLIN.out (fun h => hx2 h.1.2.2.1))
   have hxx2 : (r.getD 2 0 != 71) = true := by simpa using hx2
   clear hx2 HLIN HGD
   generalize r.getD 2 0 = y2 at *
   obtain ⟨rR, BR⟩ := (show _ ∧ _ from ⟨rR2, B2⟩)
   go_wp2_with (first | (refine wpList_store_row (by rfl) 39 (.tmp 2) (.tmp 46) (by rfl) w.heap.size (supC sup0) (by rfl) (by rfl) 39 (supC sup0) (by exact rR) (supN0 _) rfl (supO0 _) ?_))
   exact bodyPost_ret (v := .tuple #[.agg (supC sup0), .int .i64 53]) (results_c2 Tryz.results80 _ _ w.heap.size 39 _ _ _ rfl (setRow_heap _ _ _ (supC sup0) _ _ rR) Tryz.underlying39 rfl (supN0 _)) rfl ⟨by rw [HF.out], below_setRow BR (Nat.le_refl _) _⟩
 rw [hx2] at c2
 have HX2 := hid hx2
 clear hx2
 rcases Classical.em (r.getD 3 0 = 49) with hx3 | hx3
 case inr =>
   have HF := hid (HLIN.out (fun h => hx3 h.1.2.2.2.1))
   have hxx3 : (r.getD 3 0 != 49) = true := by simpa using hx3
   clear hx3 HLIN HGD
   generalize r.getD 3 0 = y3 at *
   obtain ⟨rR, BR⟩ := (show _ ∧ _ from ⟨rR2, B2⟩)
   go_wp2_with (first | (refine wpList_store_row (by rfl) 39 (.tmp 2) (.tmp 46) (by rfl) w.heap.size (supC sup0) (by rfl) (by rfl) 39 (supC sup0) (by exact rR) (supN0 _) rfl (supO0 _) ?_))
   exact bodyPost_ret (v := .tuple #[.agg (supC sup0), .int .i64 53]) (results_c2 Tryz.results80 _ _ w.heap.size 39 _ _ _ rfl (setRow_heap _ _ _ (supC sup0) _ _ rR) Tryz.underlying39 rfl (supN0 _)) rfl ⟨by rw [HF.out], below_setRow BR (Nat.le_refl _) _⟩
 rw [hx3] at c3
 have HX3 := hid hx3
 clear hx3
 have hz := qzeros_any w2 r (some ⟨b, o, none⟩) cap (KS.out w2 B2) 5 3 (by have := hl.out; omega) (by have := hl.out; omega) 5 8 rfl rfl
 rw [hl.out] at hz
 go_wp2_with fail
 refine hz.mono ?_
 rintro e w3 ⟨rfl, b3⟩
 have B3 := B2.trans (b3.mono B2.size)
 have rR3 := hbel b3 rR2 (hlt rR2)
 clear b3 B2 rR2 hz c0 c1 c2 c3
 rcases Classical.em ((r.drop 5).take 3 = List.replicate 3 0) with hz5 | hz5
 case inr =>
   have HF := hid (HLIN.out (fun h => hz5 h.1.2.2.2.2.1))
   rw [show decide ((r.drop 5).take 3 = List.replicate 3 0) = false by simpa using hz5]
   clear hz5 HLIN HGD
   obtain ⟨rR, BR⟩ := (show _ ∧ _ from ⟨rR3, B3⟩)
   go_wp2_with (first | (refine wpList_store_row (by rfl) 39 (.tmp 2) (.tmp 46) (by rfl) w.heap.size (supC sup0) (by rfl) (by rfl) 39 (supC sup0) (by exact rR) (supN0 _) rfl (supO0 _) ?_))
   exact bodyPost_ret (v := .tuple #[.agg (supC sup0), .int .i64 53]) (results_c2 Tryz.results80 _ _ w.heap.size 39 _ _ _ rfl (setRow_heap _ _ _ (supC sup0) _ _ rR) Tryz.underlying39 rfl (supN0 _)) rfl ⟨by rw [HF.out], below_setRow BR (Nat.le_refl _) _⟩
 rw [show decide ((r.drop 5).take 3 = List.replicate 3 0) = true by simpa using hz5]
 have hz := qzeros_any w3 r (some ⟨b, o, none⟩) cap (KS.out w3 B3) 28 32 (by have := hl.out; omega) (by have := hl.out; omega) 28 60 rfl rfl
 rw [hl.out] at hz
 have HZ5 := hid hz5
 clear hz5
 go_wp2_with fail
 refine hz.mono ?_
 rintro e w6 ⟨rfl, b6⟩
 have B6 := B3.trans (b6.mono B3.size)
 have rR6 := hbel b6 rR3 (hlt rR3)
 clear b6 B3 rR3 hz
 rcases Classical.em ((r.drop 28).take 32 = List.replicate 32 0) with hz8 | hz8
 case inr =>
   have HF := hid (HLIN.out (fun h => hz8 h.1.2.2.2.2.2))
   rw [show decide ((r.drop 28).take 32 = List.replicate 32 0) = false by simpa using hz8]
   clear hz8 HLIN HGD
   obtain ⟨rR, BR⟩ := (show _ ∧ _ from ⟨rR6, B6⟩)
   go_wp2_with (first | (refine wpList_store_row (by rfl) 39 (.tmp 2) (.tmp 46) (by rfl) w.heap.size (supC sup0) (by rfl) (by rfl) 39 (supC sup0) (by exact rR) (supN0 _) rfl (supO0 _) ?_))
   exact bodyPost_ret (v := .tuple #[.agg (supC sup0), .int .i64 53]) (results_c2 Tryz.results80 _ _ w.heap.size 39 _ _ _ rfl (setRow_heap _ _ _ (supC sup0) _ _ rR) Tryz.underlying39 rfl (supN0 _)) rfl ⟨by rw [HF.out], below_setRow BR (Nat.le_refl _) _⟩
 rw [show decide ((r.drop 28).take 32 = List.replicate 32 0) = true by simpa using hz8]
 have hLO : lettersOk r := ⟨HX0.out, HX1.out, HX2.out, HX3.out, HZ5.out, hz8⟩
 have HGOOD := hid (HGD.out hLO)
 have HBAD := hid (fun (h : validS (refS r) = false) => HLIN.out (fun h2 => by rw [h] at h2; exact absurd h2.2 (by simp)))
 clear hLO hz8 HGD HLIN
 obtain ⟨s1, hs1⟩ : ∃ s, s = refS r := ⟨_, rfl⟩
 rw [← hs1] at HGOOD HBAD
 obtain ⟨x4, hx4⟩ : ∃ x, x = r.getD 4 0 := ⟨_, rfl⟩
 obtain ⟨n0, hn0⟩ : ∃ x, x = rdF ((r.drop 8).take 8) := ⟨_, rfl⟩
 obtain ⟨n1, hn1⟩ : ∃ x, x = rdF ((r.drop 16).take 4) := ⟨_, rfl⟩
 obtain ⟨n2, hn2⟩ : ∃ x, x = rdF ((r.drop 20).take 4) := ⟨_, rfl⟩
 obtain ⟨n3, hn3⟩ : ∃ x, x = rdF ((r.drop 24).take 4) := ⟨_, rfl⟩
 have hsE : s1 = ⟨x4, n0, n1, n2, n3⟩ := by rw [hs1, hx4, hn0, hn1, hn2, hn3]; rfl
 subst hsE
 rw [← hx4] at x4b
 obtain ⟨xb1, xb2⟩ := x4b
 have R0 := hid (fun (w' : World) (hB : Below w6.heap.size w6 w') => by
   have h := qread_any w' r h8 (some ⟨b, o, none⟩) cap (KS.out w' (B6.trans (hB.mono B6.size))) 8 8 (by have := hl.out; omega) (by have := hl.out; omega) (by omega)
   rw [← hn0, hl.out] at h
   exact h)
 have R1 := hid (fun (w' : World) (hB : Below w6.heap.size w6 w') => by
   have h := qread_any w' r h8 (some ⟨b, o, none⟩) cap (KS.out w' (B6.trans (hB.mono B6.size))) 16 4 (by have := hl.out; omega) (by have := hl.out; omega) (by omega)
   rw [← hn1, hl.out] at h
   exact h)
 have R2 := hid (fun (w' : World) (hB : Below w6.heap.size w6 w') => by
   have h := qread_any w' r h8 (some ⟨b, o, none⟩) cap (KS.out w' (B6.trans (hB.mono B6.size))) 20 4 (by have := hl.out; omega) (by have := hl.out; omega) (by omega)
   rw [← hn2, hl.out] at h
   exact h)
 have R3 := hid (fun (w' : World) (hB : Below w6.heap.size w6 w') => by
   have h := qread_any w' r h8 (some ⟨b, o, none⟩) cap (KS.out w' (B6.trans (hB.mono B6.size))) 24 4 (by have := hl.out; omega) (by have := hl.out; omega) (by omega)
   rw [← hn3, hl.out] at h
   exact h)
 have HC := hid (fun (w' : World) (hB : Below w6.heap.size w6 w') => show w'.cell? ⟨b, o + 4, none⟩ = some (.int .u8 x4) by
   rw [hx4]; exact CELL.out w' (B6.trans (hB.mono B6.size)) 4 (by omega))
 have RES := hid (fun (w' : World) (hB : Below w6.heap.size w6 w') => show w'.heap[w.heap.size]? = some (.cells (supC sup0) 39 (0, 0)) ∧ Below w.heap.size w w' from ⟨hbel hB rR6 (hlt rR6), B6.trans (hB.mono B6.size)⟩)
 clear hx4 hn0 hn1 hn2 hn3 hs1 CELL KS rR6 B6 HX0 HX1 HX2 HX3 HZ5
 go_wp2_with fail
 refine rgA (fun w' => Below w6.heap.size w6 w' ∧ w'.cell? ⟨b, o + 4, none⟩ = some (.int .u8 x4)) ⟨(Below.refl _ _).drew, HC.out _ (Below.refl _ _).drew⟩ (fun hq0 => ?_)
 refine tkA 0 (.slice (some ⟨b, o, none⟩) 256 cap) rfl hq0 ?_
 go_frame
 refine tkA 4 (.slice (some ⟨b, o, none⟩) 256 cap) rfl hq0 ?_
 go_frame
 refine tkA 6 (.slice (some ⟨b, o, none⟩) 256 cap) rfl hq0 ?_
 go_frame
 refine tkA 8 (.slice (some ⟨b, o, none⟩) 256 cap) rfl hq0 ?_
 go_frame
 refine tkA 10 (.slice (some ⟨b, o, none⟩) 256 cap) rfl hq0 ?_
 go_frame
 refine tkA 1 (.pointer (some ⟨b, o + 4, none⟩)) rfl hq0 ?_
 go_frame
 refine tqA 2 (.int .u8 x4) rfl (yA (by intro w hS; have hc := hS.2; go_simp)) hq0 ?_
 go_frame
 refine tqA 3 (.int .i64 x4) rfl (yA (by intro w hS; go_simp; exact wrap_i64_id x4 (by omega) (by omega))) hq0 ?_
 go_frame
 refine wpAnyH_ready (rs := [5, 13]) (by kernel_rfl) (by simp) ?_
 refine (consA rfl (fun K hK => ?_) (consA rfl (fun K hK => ?_) AllReadyH.nil))
 · skip
   go_simp
   go_at_call 106
   refine (R0.out _ hq0.1).mono ?_
   rintro e v1 ⟨rfl, bb⟩
   have hH2 := hq0.1.trans (bb.mono hq0.1.size)
   try replace rG := hbel bb rG (hlt rG)
   clear bb
   go_wp2_with fail
   refine hK.out _ _ (⟨hH2, HC.out _ hH2⟩) ?_
   clear hK K hq0
   intro hq0
   try go_frame
   refine wpAnyH_ready (rs := [7, 13]) (by kernel_rfl) (by simp) ?_
   refine (consA rfl (fun K hK => ?_) (consA rfl (fun K hK => ?_) AllReadyH.nil))
   · skip
     go_simp
     go_at_call 106
     refine (R1.out _ hq0.1).mono ?_
     rintro e v2 ⟨rfl, bb⟩
     have hH2 := hq0.1.trans (bb.mono hq0.1.size)
     try replace rG := hbel bb rG (hlt rG)
     clear bb
     go_wp2_with fail
     refine hK.out _ _ (⟨hH2, HC.out _ hH2⟩) ?_
     clear hK K hq0
     intro hq0
     try go_frame
     refine wpAnyH_ready (rs := [9, 13]) (by kernel_rfl) (by simp) ?_
     refine (consA rfl (fun K hK => ?_) (consA rfl (fun K hK => ?_) AllReadyH.nil))
     · skip
       go_simp
       go_at_call 106
       refine (R2.out _ hq0.1).mono ?_
       rintro e v3 ⟨rfl, bb⟩
       have hH2 := hq0.1.trans (bb.mono hq0.1.size)
       try replace rG := hbel bb rG (hlt rG)
       clear bb
       go_wp2_with fail
       refine hK.out _ _ (⟨hH2, HC.out _ hH2⟩) ?_
       clear hK K hq0
       intro hq0
       try go_frame
       refine wpAnyH_ready (rs := [11, 13]) (by kernel_rfl) (by simp) ?_
       refine (consA rfl (fun K hK => ?_) (consA rfl (fun K hK => ?_) AllReadyH.nil))
       · skip
         go_simp
         go_at_call 106
         refine (R3.out _ hq0.1).mono ?_
         rintro e v4 ⟨rfl, bb⟩
         have hH2 := hq0.1.trans (bb.mono hq0.1.size)
         try replace rG := hbel bb rG (hlt rG)
         clear bb
         go_wp2_with fail
         refine hK.out _ _ (⟨hH2, HC.out _ hH2⟩) ?_
         clear hK K hq0
         intro hq0
         try go_frame
         refine tkA 12 (.agg #[.int .i64 x4, .int .i64 n0, .int .i64 n1, .int .i64 n2, .int .i64 n3]) rfl hq0 ?_
         go_frame
         refine rdA 13 rfl (fun K hK => ?_)
         refine step_allocS (by rfl) (by rfl) ?_
         intro G wG rG bG hGG
         have hH2 := hq0.1.trans (bG.mono hq0.1.size)
         have hWG := Nat.le_trans hq0.1.size hGG
         clear bG hGG
         refine hK.out _ _ (⟨hH2, HC.out _ hH2⟩) ?_
         clear hK K hq0
         intro hq0
         try go_frame
         refine rdA 14 rfl (fun K hK => ?_)
         refine step_store (by rfl) 39 (.tmp 4) (.tmp 59) (by rfl) G #[.int .i64 x4, .int .i64 n0, .int .i64 n1, .int .i64 n2, .int .i64 n3] (by rfl) (by rfl) 39 (supC sup0) rG (by rw [size_super]; rfl) rfl (by simp [Value.oneCell']) ?_
         have hH2 := below_setRow hq0.1 hWG #[.int .i64 x4, .int .i64 n0, .int .i64 n1, .int .i64 n2, .int .i64 n3]
         replace rG := setRow_heap _ _ _ #[.int .i64 x4, .int .i64 n0, .int .i64 n1, .int .i64 n2, .int .i64 n3] _ _ rG
         refine hK.out _ _ (⟨hH2, HC.out _ hH2⟩) ?_
         clear hK K hq0
         intro hq0
         try go_frame
         refine wdA ?_
         have BW := hq0.1
         clear hq0
         replace rG := (show _ = some (Obj.cells (supC ⟨x4, n0, n1, n2, n3⟩) 39 (0, 0)) from rG)
         generalize hWE : World.setRow _ G #[.int .i64 x4, .int .i64 n0, .int .i64 n1, .int .i64 n2, .int .i64 n3] = WE at *
         clear hWE
         go_wp2_with (first | (refine wpList_load_row_w (by rfl) 39 (.tmp 4) (by rfl) G (by rfl) 39 (supC ⟨x4, n0, n1, n2, n3⟩) (0, 0) _ (by exact rG) Tryz.underlying39 rfl (supN0 (⟨x4, n0, n1, n2, n3⟩ : Sup)) ?_))
         refine (qValid_any _ (⟨x4, n0, n1, n2, n3⟩ : Sup)).mono ?_
         rintro e u1 ⟨rfl, e1⟩
         replace rG := hbel e1 rG (hlt rG)
         replace BW := BW.trans (e1.mono BW.size)
         clear e1
         obtain ⟨rR, BR⟩ := RES.out _ BW
         cases hv : validS (⟨x4, n0, n1, n2, n3⟩ : Sup)
         · have HF := hid (HBAD.out hv)
           clear hv
           go_wp2_with (first | (refine wpList_store_row (by rfl) 39 (.tmp 2) (.tmp 63) (by rfl) w.heap.size (supC sup0) (by rfl) (by rfl) 39 (supC sup0) (by exact rR) (supN0 _) rfl (supO0 _) ?_))
           exact bodyPost_ret (v := .tuple #[.agg (supC sup0), .int .i64 53]) (results_c2 Tryz.results80 _ _ w.heap.size 39 _ _ _ rfl (setRow_heap _ _ _ (supC sup0) _ _ rR) Tryz.underlying39 rfl (supN0 _)) rfl ⟨by rw [HF.out], below_setRow BR (Nat.le_refl _) _⟩
         · have HF := hid (HGOOD.out hv)
           clear hv
           go_wp2_with (first | (refine wpList_load_row_w (by rfl) 39 (.tmp 4) (by rfl) G (by rfl) 39 (supC ⟨x4, n0, n1, n2, n3⟩) (0, 0) _ (by exact rG) Tryz.underlying39 rfl (supN0 (⟨x4, n0, n1, n2, n3⟩ : Sup)) ?_) | (refine wpList_store_row (by rfl) 39 (.tmp 2) (.tmp 64) (by rfl) w.heap.size (supC ⟨x4, n0, n1, n2, n3⟩) (by rfl) (by rfl) 39 (supC sup0) (by exact rR) (supN0 _) rfl (supO0 _) ?_))
           exact bodyPost_ret (v := .tuple #[.agg (supC ⟨x4, n0, n1, n2, n3⟩), .int .i64 0]) (results_c2 Tryz.results80 _ _ w.heap.size 39 _ _ _ rfl (setRow_heap _ _ _ (supC ⟨x4, n0, n1, n2, n3⟩) _ _ rR) Tryz.underlying39 rfl (supN0 _)) rfl ⟨by rw [HF.out], below_setRow BR (Nat.le_refl _) _⟩
       · skip
         refine step_allocS (by rfl) (by rfl) ?_
         intro G wG rG bG hGG
         have hH2 := hq0.1.trans (bG.mono hq0.1.size)
         have hWG := Nat.le_trans hq0.1.size hGG
         clear bG hGG
         refine hK.out _ _ (⟨hH2, HC.out _ hH2⟩) ?_
         clear hK K hq0
         intro hq0
         try go_frame
         refine rdA 11 rfl (fun K hK => ?_)
         go_simp
         go_at_call 106
         refine (R3.out _ hq0.1).mono ?_
         rintro e v4 ⟨rfl, bb⟩
         have hH2 := hq0.1.trans (bb.mono hq0.1.size)
         try replace rG := hbel bb rG (hlt rG)
         clear bb
         go_wp2_with fail
         refine hK.out _ _ (⟨hH2, HC.out _ hH2⟩) ?_
         clear hK K hq0
         intro hq0
         try go_frame
         refine tkA 12 (.agg #[.int .i64 x4, .int .i64 n0, .int .i64 n1, .int .i64 n2, .int .i64 n3]) rfl hq0 ?_
         go_frame
         refine rdA 14 rfl (fun K hK => ?_)
         refine step_store (by rfl) 39 (.tmp 4) (.tmp 59) (by rfl) G #[.int .i64 x4, .int .i64 n0, .int .i64 n1, .int .i64 n2, .int .i64 n3] (by rfl) (by rfl) 39 (supC sup0) rG (by rw [size_super]; rfl) rfl (by simp [Value.oneCell']) ?_
         have hH2 := below_setRow hq0.1 hWG #[.int .i64 x4, .int .i64 n0, .int .i64 n1, .int .i64 n2, .int .i64 n3]
         replace rG := setRow_heap _ _ _ #[.int .i64 x4, .int .i64 n0, .int .i64 n1, .int .i64 n2, .int .i64 n3] _ _ rG
         refine hK.out _ _ (⟨hH2, HC.out _ hH2⟩) ?_
         clear hK K hq0
         intro hq0
         try go_frame
         refine wdA ?_
         have BW := hq0.1
         clear hq0
         replace rG := (show _ = some (Obj.cells (supC ⟨x4, n0, n1, n2, n3⟩) 39 (0, 0)) from rG)
         generalize hWE : World.setRow _ G #[.int .i64 x4, .int .i64 n0, .int .i64 n1, .int .i64 n2, .int .i64 n3] = WE at *
         clear hWE
         go_wp2_with (first | (refine wpList_load_row_w (by rfl) 39 (.tmp 4) (by rfl) G (by rfl) 39 (supC ⟨x4, n0, n1, n2, n3⟩) (0, 0) _ (by exact rG) Tryz.underlying39 rfl (supN0 (⟨x4, n0, n1, n2, n3⟩ : Sup)) ?_))
         refine (qValid_any _ (⟨x4, n0, n1, n2, n3⟩ : Sup)).mono ?_
         rintro e u1 ⟨rfl, e1⟩
         replace rG := hbel e1 rG (hlt rG)
         replace BW := BW.trans (e1.mono BW.size)
         clear e1
         obtain ⟨rR, BR⟩ := RES.out _ BW
         cases hv : validS (⟨x4, n0, n1, n2, n3⟩ : Sup)
         · have HF := hid (HBAD.out hv)
           clear hv
           go_wp2_with (first | (refine wpList_store_row (by rfl) 39 (.tmp 2) (.tmp 63) (by rfl) w.heap.size (supC sup0) (by rfl) (by rfl) 39 (supC sup0) (by exact rR) (supN0 _) rfl (supO0 _) ?_))
           exact bodyPost_ret (v := .tuple #[.agg (supC sup0), .int .i64 53]) (results_c2 Tryz.results80 _ _ w.heap.size 39 _ _ _ rfl (setRow_heap _ _ _ (supC sup0) _ _ rR) Tryz.underlying39 rfl (supN0 _)) rfl ⟨by rw [HF.out], below_setRow BR (Nat.le_refl _) _⟩
         · have HF := hid (HGOOD.out hv)
           clear hv
           go_wp2_with (first | (refine wpList_load_row_w (by rfl) 39 (.tmp 4) (by rfl) G (by rfl) 39 (supC ⟨x4, n0, n1, n2, n3⟩) (0, 0) _ (by exact rG) Tryz.underlying39 rfl (supN0 (⟨x4, n0, n1, n2, n3⟩ : Sup)) ?_) | (refine wpList_store_row (by rfl) 39 (.tmp 2) (.tmp 64) (by rfl) w.heap.size (supC ⟨x4, n0, n1, n2, n3⟩) (by rfl) (by rfl) 39 (supC sup0) (by exact rR) (supN0 _) rfl (supO0 _) ?_))
           exact bodyPost_ret (v := .tuple #[.agg (supC ⟨x4, n0, n1, n2, n3⟩), .int .i64 0]) (results_c2 Tryz.results80 _ _ w.heap.size 39 _ _ _ rfl (setRow_heap _ _ _ (supC ⟨x4, n0, n1, n2, n3⟩) _ _ rR) Tryz.underlying39 rfl (supN0 _)) rfl ⟨by rw [HF.out], below_setRow BR (Nat.le_refl _) _⟩
     · skip
       refine step_allocS (by rfl) (by rfl) ?_
       intro G wG rG bG hGG
       have hH2 := hq0.1.trans (bG.mono hq0.1.size)
       have hWG := Nat.le_trans hq0.1.size hGG
       clear bG hGG
       refine hK.out _ _ (⟨hH2, HC.out _ hH2⟩) ?_
       clear hK K hq0
       intro hq0
       try go_frame
       refine rdA 9 rfl (fun K hK => ?_)
       go_simp
       go_at_call 106
       refine (R2.out _ hq0.1).mono ?_
       rintro e v3 ⟨rfl, bb⟩
       have hH2 := hq0.1.trans (bb.mono hq0.1.size)
       try replace rG := hbel bb rG (hlt rG)
       clear bb
       go_wp2_with fail
       refine hK.out _ _ (⟨hH2, HC.out _ hH2⟩) ?_
       clear hK K hq0
       intro hq0
       try go_frame
       refine rdA 11 rfl (fun K hK => ?_)
       go_simp
       go_at_call 106
       refine (R3.out _ hq0.1).mono ?_
       rintro e v4 ⟨rfl, bb⟩
       have hH2 := hq0.1.trans (bb.mono hq0.1.size)
       try replace rG := hbel bb rG (hlt rG)
       clear bb
       go_wp2_with fail
       refine hK.out _ _ (⟨hH2, HC.out _ hH2⟩) ?_
       clear hK K hq0
       intro hq0
       try go_frame
       refine tkA 12 (.agg #[.int .i64 x4, .int .i64 n0, .int .i64 n1, .int .i64 n2, .int .i64 n3]) rfl hq0 ?_
       go_frame
       refine rdA 14 rfl (fun K hK => ?_)
       refine step_store (by rfl) 39 (.tmp 4) (.tmp 59) (by rfl) G #[.int .i64 x4, .int .i64 n0, .int .i64 n1, .int .i64 n2, .int .i64 n3] (by rfl) (by rfl) 39 (supC sup0) rG (by rw [size_super]; rfl) rfl (by simp [Value.oneCell']) ?_
       have hH2 := below_setRow hq0.1 hWG #[.int .i64 x4, .int .i64 n0, .int .i64 n1, .int .i64 n2, .int .i64 n3]
       replace rG := setRow_heap _ _ _ #[.int .i64 x4, .int .i64 n0, .int .i64 n1, .int .i64 n2, .int .i64 n3] _ _ rG
       refine hK.out _ _ (⟨hH2, HC.out _ hH2⟩) ?_
       clear hK K hq0
       intro hq0
       try go_frame
       refine wdA ?_
       have BW := hq0.1
       clear hq0
       replace rG := (show _ = some (Obj.cells (supC ⟨x4, n0, n1, n2, n3⟩) 39 (0, 0)) from rG)
       generalize hWE : World.setRow _ G #[.int .i64 x4, .int .i64 n0, .int .i64 n1, .int .i64 n2, .int .i64 n3] = WE at *
       clear hWE
       go_wp2_with (first | (refine wpList_load_row_w (by rfl) 39 (.tmp 4) (by rfl) G (by rfl) 39 (supC ⟨x4, n0, n1, n2, n3⟩) (0, 0) _ (by exact rG) Tryz.underlying39 rfl (supN0 (⟨x4, n0, n1, n2, n3⟩ : Sup)) ?_))
       refine (qValid_any _ (⟨x4, n0, n1, n2, n3⟩ : Sup)).mono ?_
       rintro e u1 ⟨rfl, e1⟩
       replace rG := hbel e1 rG (hlt rG)
       replace BW := BW.trans (e1.mono BW.size)
       clear e1
       obtain ⟨rR, BR⟩ := RES.out _ BW
       cases hv : validS (⟨x4, n0, n1, n2, n3⟩ : Sup)
       · have HF := hid (HBAD.out hv)
         clear hv
         go_wp2_with (first | (refine wpList_store_row (by rfl) 39 (.tmp 2) (.tmp 63) (by rfl) w.heap.size (supC sup0) (by rfl) (by rfl) 39 (supC sup0) (by exact rR) (supN0 _) rfl (supO0 _) ?_))
         exact bodyPost_ret (v := .tuple #[.agg (supC sup0), .int .i64 53]) (results_c2 Tryz.results80 _ _ w.heap.size 39 _ _ _ rfl (setRow_heap _ _ _ (supC sup0) _ _ rR) Tryz.underlying39 rfl (supN0 _)) rfl ⟨by rw [HF.out], below_setRow BR (Nat.le_refl _) _⟩
       · have HF := hid (HGOOD.out hv)
         clear hv
         go_wp2_with (first | (refine wpList_load_row_w (by rfl) 39 (.tmp 4) (by rfl) G (by rfl) 39 (supC ⟨x4, n0, n1, n2, n3⟩) (0, 0) _ (by exact rG) Tryz.underlying39 rfl (supN0 (⟨x4, n0, n1, n2, n3⟩ : Sup)) ?_) | (refine wpList_store_row (by rfl) 39 (.tmp 2) (.tmp 64) (by rfl) w.heap.size (supC ⟨x4, n0, n1, n2, n3⟩) (by rfl) (by rfl) 39 (supC sup0) (by exact rR) (supN0 _) rfl (supO0 _) ?_))
         exact bodyPost_ret (v := .tuple #[.agg (supC ⟨x4, n0, n1, n2, n3⟩), .int .i64 0]) (results_c2 Tryz.results80 _ _ w.heap.size 39 _ _ _ rfl (setRow_heap _ _ _ (supC ⟨x4, n0, n1, n2, n3⟩) _ _ rR) Tryz.underlying39 rfl (supN0 _)) rfl ⟨by rw [HF.out], below_setRow BR (Nat.le_refl _) _⟩
   · skip
     refine step_allocS (by rfl) (by rfl) ?_
     intro G wG rG bG hGG
     have hH2 := hq0.1.trans (bG.mono hq0.1.size)
     have hWG := Nat.le_trans hq0.1.size hGG
     clear bG hGG
     refine hK.out _ _ (⟨hH2, HC.out _ hH2⟩) ?_
     clear hK K hq0
     intro hq0
     try go_frame
     refine rdA 7 rfl (fun K hK => ?_)
     go_simp
     go_at_call 106
     refine (R1.out _ hq0.1).mono ?_
     rintro e v2 ⟨rfl, bb⟩
     have hH2 := hq0.1.trans (bb.mono hq0.1.size)
     try replace rG := hbel bb rG (hlt rG)
     clear bb
     go_wp2_with fail
     refine hK.out _ _ (⟨hH2, HC.out _ hH2⟩) ?_
     clear hK K hq0
     intro hq0
     try go_frame
     refine rdA 9 rfl (fun K hK => ?_)
     go_simp
     go_at_call 106
     refine (R2.out _ hq0.1).mono ?_
     rintro e v3 ⟨rfl, bb⟩
     have hH2 := hq0.1.trans (bb.mono hq0.1.size)
     try replace rG := hbel bb rG (hlt rG)
     clear bb
     go_wp2_with fail
     refine hK.out _ _ (⟨hH2, HC.out _ hH2⟩) ?_
     clear hK K hq0
     intro hq0
     try go_frame
     refine rdA 11 rfl (fun K hK => ?_)
     go_simp
     go_at_call 106
     refine (R3.out _ hq0.1).mono ?_
     rintro e v4 ⟨rfl, bb⟩
     have hH2 := hq0.1.trans (bb.mono hq0.1.size)
     try replace rG := hbel bb rG (hlt rG)
     clear bb
     go_wp2_with fail
     refine hK.out _ _ (⟨hH2, HC.out _ hH2⟩) ?_
     clear hK K hq0
     intro hq0
     try go_frame
     refine tkA 12 (.agg #[.int .i64 x4, .int .i64 n0, .int .i64 n1, .int .i64 n2, .int .i64 n3]) rfl hq0 ?_
     go_frame
     refine rdA 14 rfl (fun K hK => ?_)
     refine step_store (by rfl) 39 (.tmp 4) (.tmp 59) (by rfl) G #[.int .i64 x4, .int .i64 n0, .int .i64 n1, .int .i64 n2, .int .i64 n3] (by rfl) (by rfl) 39 (supC sup0) rG (by rw [size_super]; rfl) rfl (by simp [Value.oneCell']) ?_
     have hH2 := below_setRow hq0.1 hWG #[.int .i64 x4, .int .i64 n0, .int .i64 n1, .int .i64 n2, .int .i64 n3]
     replace rG := setRow_heap _ _ _ #[.int .i64 x4, .int .i64 n0, .int .i64 n1, .int .i64 n2, .int .i64 n3] _ _ rG
     refine hK.out _ _ (⟨hH2, HC.out _ hH2⟩) ?_
     clear hK K hq0
     intro hq0
     try go_frame
     refine wdA ?_
     have BW := hq0.1
     clear hq0
     replace rG := (show _ = some (Obj.cells (supC ⟨x4, n0, n1, n2, n3⟩) 39 (0, 0)) from rG)
     generalize hWE : World.setRow _ G #[.int .i64 x4, .int .i64 n0, .int .i64 n1, .int .i64 n2, .int .i64 n3] = WE at *
     clear hWE
     go_wp2_with (first | (refine wpList_load_row_w (by rfl) 39 (.tmp 4) (by rfl) G (by rfl) 39 (supC ⟨x4, n0, n1, n2, n3⟩) (0, 0) _ (by exact rG) Tryz.underlying39 rfl (supN0 (⟨x4, n0, n1, n2, n3⟩ : Sup)) ?_))
     refine (qValid_any _ (⟨x4, n0, n1, n2, n3⟩ : Sup)).mono ?_
     rintro e u1 ⟨rfl, e1⟩
     replace rG := hbel e1 rG (hlt rG)
     replace BW := BW.trans (e1.mono BW.size)
     clear e1
     obtain ⟨rR, BR⟩ := RES.out _ BW
     cases hv : validS (⟨x4, n0, n1, n2, n3⟩ : Sup)
     · have HF := hid (HBAD.out hv)
       clear hv
       go_wp2_with (first | (refine wpList_store_row (by rfl) 39 (.tmp 2) (.tmp 63) (by rfl) w.heap.size (supC sup0) (by rfl) (by rfl) 39 (supC sup0) (by exact rR) (supN0 _) rfl (supO0 _) ?_))
       exact bodyPost_ret (v := .tuple #[.agg (supC sup0), .int .i64 53]) (results_c2 Tryz.results80 _ _ w.heap.size 39 _ _ _ rfl (setRow_heap _ _ _ (supC sup0) _ _ rR) Tryz.underlying39 rfl (supN0 _)) rfl ⟨by rw [HF.out], below_setRow BR (Nat.le_refl _) _⟩
     · have HF := hid (HGOOD.out hv)
       clear hv
       go_wp2_with (first | (refine wpList_load_row_w (by rfl) 39 (.tmp 4) (by rfl) G (by rfl) 39 (supC ⟨x4, n0, n1, n2, n3⟩) (0, 0) _ (by exact rG) Tryz.underlying39 rfl (supN0 (⟨x4, n0, n1, n2, n3⟩ : Sup)) ?_) | (refine wpList_store_row (by rfl) 39 (.tmp 2) (.tmp 64) (by rfl) w.heap.size (supC ⟨x4, n0, n1, n2, n3⟩) (by rfl) (by rfl) 39 (supC sup0) (by exact rR) (supN0 _) rfl (supO0 _) ?_))
       exact bodyPost_ret (v := .tuple #[.agg (supC ⟨x4, n0, n1, n2, n3⟩), .int .i64 0]) (results_c2 Tryz.results80 _ _ w.heap.size 39 _ _ _ rfl (setRow_heap _ _ _ (supC ⟨x4, n0, n1, n2, n3⟩) _ _ rR) Tryz.underlying39 rfl (supN0 _)) rfl ⟨by rw [HF.out], below_setRow BR (Nat.le_refl _) _⟩
 · skip
   refine step_allocS (by rfl) (by rfl) ?_
   intro G wG rG bG hGG
   have hH2 := hq0.1.trans (bG.mono hq0.1.size)
   have hWG := Nat.le_trans hq0.1.size hGG
   clear bG hGG
   refine hK.out _ _ (⟨hH2, HC.out _ hH2⟩) ?_
   clear hK K hq0
   intro hq0
   try go_frame
   refine rdA 5 rfl (fun K hK => ?_)
   go_simp
   go_at_call 106
   refine (R0.out _ hq0.1).mono ?_
   rintro e v1 ⟨rfl, bb⟩
   have hH2 := hq0.1.trans (bb.mono hq0.1.size)
   try replace rG := hbel bb rG (hlt rG)
   clear bb
   go_wp2_with fail
   refine hK.out _ _ (⟨hH2, HC.out _ hH2⟩) ?_
   clear hK K hq0
   intro hq0
   try go_frame
   refine rdA 7 rfl (fun K hK => ?_)
   go_simp
   go_at_call 106
   refine (R1.out _ hq0.1).mono ?_
   rintro e v2 ⟨rfl, bb⟩
   have hH2 := hq0.1.trans (bb.mono hq0.1.size)
   try replace rG := hbel bb rG (hlt rG)
   clear bb
   go_wp2_with fail
   refine hK.out _ _ (⟨hH2, HC.out _ hH2⟩) ?_
   clear hK K hq0
   intro hq0
   try go_frame
   refine rdA 9 rfl (fun K hK => ?_)
   go_simp
   go_at_call 106
   refine (R2.out _ hq0.1).mono ?_
   rintro e v3 ⟨rfl, bb⟩
   have hH2 := hq0.1.trans (bb.mono hq0.1.size)
   try replace rG := hbel bb rG (hlt rG)
   clear bb
   go_wp2_with fail
   refine hK.out _ _ (⟨hH2, HC.out _ hH2⟩) ?_
   clear hK K hq0
   intro hq0
   try go_frame
   refine rdA 11 rfl (fun K hK => ?_)
   go_simp
   go_at_call 106
   refine (R3.out _ hq0.1).mono ?_
   rintro e v4 ⟨rfl, bb⟩
   have hH2 := hq0.1.trans (bb.mono hq0.1.size)
   try replace rG := hbel bb rG (hlt rG)
   clear bb
   go_wp2_with fail
   refine hK.out _ _ (⟨hH2, HC.out _ hH2⟩) ?_
   clear hK K hq0
   intro hq0
   try go_frame
   refine tkA 12 (.agg #[.int .i64 x4, .int .i64 n0, .int .i64 n1, .int .i64 n2, .int .i64 n3]) rfl hq0 ?_
   go_frame
   refine rdA 14 rfl (fun K hK => ?_)
   refine step_store (by rfl) 39 (.tmp 4) (.tmp 59) (by rfl) G #[.int .i64 x4, .int .i64 n0, .int .i64 n1, .int .i64 n2, .int .i64 n3] (by rfl) (by rfl) 39 (supC sup0) rG (by rw [size_super]; rfl) rfl (by simp [Value.oneCell']) ?_
   have hH2 := below_setRow hq0.1 hWG #[.int .i64 x4, .int .i64 n0, .int .i64 n1, .int .i64 n2, .int .i64 n3]
   replace rG := setRow_heap _ _ _ #[.int .i64 x4, .int .i64 n0, .int .i64 n1, .int .i64 n2, .int .i64 n3] _ _ rG
   refine hK.out _ _ (⟨hH2, HC.out _ hH2⟩) ?_
   clear hK K hq0
   intro hq0
   try go_frame
   refine wdA ?_
   have BW := hq0.1
   clear hq0
   replace rG := (show _ = some (Obj.cells (supC ⟨x4, n0, n1, n2, n3⟩) 39 (0, 0)) from rG)
   generalize hWE : World.setRow _ G #[.int .i64 x4, .int .i64 n0, .int .i64 n1, .int .i64 n2, .int .i64 n3] = WE at *
   clear hWE
   go_wp2_with (first | (refine wpList_load_row_w (by rfl) 39 (.tmp 4) (by rfl) G (by rfl) 39 (supC ⟨x4, n0, n1, n2, n3⟩) (0, 0) _ (by exact rG) Tryz.underlying39 rfl (supN0 (⟨x4, n0, n1, n2, n3⟩ : Sup)) ?_))
   refine (qValid_any _ (⟨x4, n0, n1, n2, n3⟩ : Sup)).mono ?_
   rintro e u1 ⟨rfl, e1⟩
   replace rG := hbel e1 rG (hlt rG)
   replace BW := BW.trans (e1.mono BW.size)
   clear e1
   obtain ⟨rR, BR⟩ := RES.out _ BW
   cases hv : validS (⟨x4, n0, n1, n2, n3⟩ : Sup)
   · have HF := hid (HBAD.out hv)
     clear hv
     go_wp2_with (first | (refine wpList_store_row (by rfl) 39 (.tmp 2) (.tmp 63) (by rfl) w.heap.size (supC sup0) (by rfl) (by rfl) 39 (supC sup0) (by exact rR) (supN0 _) rfl (supO0 _) ?_))
     exact bodyPost_ret (v := .tuple #[.agg (supC sup0), .int .i64 53]) (results_c2 Tryz.results80 _ _ w.heap.size 39 _ _ _ rfl (setRow_heap _ _ _ (supC sup0) _ _ rR) Tryz.underlying39 rfl (supN0 _)) rfl ⟨by rw [HF.out], below_setRow BR (Nat.le_refl _) _⟩
   · have HF := hid (HGOOD.out hv)
     clear hv
     go_wp2_with (first | (refine wpList_load_row_w (by rfl) 39 (.tmp 4) (by rfl) G (by rfl) 39 (supC ⟨x4, n0, n1, n2, n3⟩) (0, 0) _ (by exact rG) Tryz.underlying39 rfl (supN0 (⟨x4, n0, n1, n2, n3⟩ : Sup)) ?_) | (refine wpList_store_row (by rfl) 39 (.tmp 2) (.tmp 64) (by rfl) w.heap.size (supC ⟨x4, n0, n1, n2, n3⟩) (by rfl) (by rfl) 39 (supC sup0) (by exact rR) (supN0 _) rfl (supO0 _) ?_))
     exact bodyPost_ret (v := .tuple #[.agg (supC ⟨x4, n0, n1, n2, n3⟩), .int .i64 0]) (results_c2 Tryz.results80 _ _ w.heap.size 39 _ _ _ rfl (setRow_heap _ _ _ (supC ⟨x4, n0, n1, n2, n3⟩) _ _ rR) Tryz.underlying39 rfl (supN0 _)) rfl ⟨by rw [HF.out], below_setRow BR (Nat.le_refl _) _⟩
end
end Go.Proofs.YtjhocjjecfdphaaGreatDoor
