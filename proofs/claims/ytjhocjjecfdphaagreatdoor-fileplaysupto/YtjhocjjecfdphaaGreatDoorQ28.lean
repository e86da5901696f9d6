import Derived.Test.YtjhocjjecfdphaaGreatDoorQ27
import Derived.Test.YtjhocjjecfdphaaGreatDoorQ25
import Derived.Test.YtjhocjjecfdphaaGreatDoorQ06
namespace Go.Proofs.YtjhocjjecfdphaaGreatDoor
set_option linter.unusedVariables false
set_option linter.unusedSimpArgs false
set_option maxRecDepth 100000
set_option maxHeartbeats 4000000
section
open Go.RowKit
attribute [local go_sem ↓] Go.wp_at_zero Go.wp_at_succ
theorem qUnSuper_any (w : World) (hG : Gl w) (r : List Int) (h8 : Byts r) (sp : Option Addr) (cap : Nat) (hS : Src w sp cap r) :
   Calls Tryz.prog 80 #[.slice sp r.length cap] w fun e w' => e = .returned (.tuple #[.agg (supC (unSuperF r).1), .int .i64 (unSuperF r).2]) ∧ Below w.heap.size w w' := by
 have r0 := hnew w (.cells (supC sup0) 39)
 have b0 := below_new w (.cells (supC sup0) 39)
 have hlm : (r.length : Int) ≤ 9223372036854775807 := by have := hS.1; have := hS.2.1; unfold maxLen at this; omega
 by_cases hl : r.length = 256
 · by_cases hC : feed ones (r.take 64) = CR
   · rw [hl]; exact qUnSuper_ok w hG r h8 hl hC sp cap hS
   · have HF := hid (unSuper_sum r hl hC)
     have hS' := hS
     obtain ⟨hc, hm, b, o, hb, hsp, hsrc⟩ := hS
     obtain rfl := hsp (by omega)
     replace hb := hb (by omega)
     have i1 : 64 ≤ cap := by omega
     have i2 : (64 : Int) ≤ (cap : Int) := by omega
     have hS0 := hS'.below b0 (Nat.le_refl _)
     have hb0 : b < (w.alloc (.cells (supC sup0) 39)).heap.size := Nat.lt_of_lt_of_le hb b0.size
     have h64 : ((r.drop 0).take 64).length = 64 := by simp [hl]
     have hM := hS0.mid 0 64 (by omega) hb0 cap (by omega) hm
     have hw := rwhole_L (w.alloc (.cells (supC sup0) 39)) (hG.below b0 hG.1) ((r.drop 0).take 64) ((h8.drop 0).take 64) (by omega) (by omega) _ _ hM
     rw [h64, List.drop_zero, Nat.add_zero, show decide (feed ones (r.take 64) = CR) = false by simpa using hC] at hw
     rw [hl]
     clear hM hS0 hb0 h64 hsrc hC hl hlm
     go_enter Tryz.func80, Tryz.ntmps80
     go_wp2_with fail
     refine hw.mono ?_
     rintro e w2 ⟨rfl, b2⟩
     have B2 := b0.trans (b2.mono b0.size)
     have rR := hbel b2 r0 (hlt r0)
     clear b2 b0 r0 hw
     go_wp2_with (first | (refine wpList_store_row (by rfl) 39 (.tmp 2) (.tmp 13) (by rfl) w.heap.size (supC sup0) (by rfl) (by rfl) 39 (supC sup0) (by exact rR) (supN0 _) rfl (supO0 _) ?_))
     exact bodyPost_ret (v := .tuple #[.agg (supC sup0), .int .i64 52]) (results_c2 Tryz.results80 _ _ w.heap.size 39 _ _ _ rfl (setRow_heap _ _ _ (supC sup0) _ _ rR) Tryz.underlying39 rfl (supN0 _)) rfl ⟨by rw [HF.out], below_setRow B2 (Nat.le_refl _) _⟩
 · have HF := hid (show unSuperF r = (sup0, 53) by rw [unSuperF, if_pos hl])
   have hl2 : ((r.length : Int) != 256) = true := by simp; omega
   clear hS hl
   go_enter Tryz.func80, Tryz.ntmps80
   go_wp2_with (first | (refine wpList_store_row (by rfl) 39 (.tmp 2) (.tmp 8) (by rfl) w.heap.size (supC sup0) (by rfl) (by rfl) 39 (supC sup0) (by exact r0) (supN0 _) rfl (supO0 _) ?_))
   exact bodyPost_ret (v := .tuple #[.agg (supC sup0), .int .i64 53]) (results_c2 Tryz.results80 _ _ w.heap.size 39 _ _ _ rfl (setRow_heap _ _ _ (supC sup0) _ _ r0) Tryz.underlying39 rfl (supN0 _)) rfl ⟨by rw [HF.out], below_setRow b0 (Nat.le_refl _) _⟩
end
section
open Go.RowKit
attribute [local go_sem ↓] Go.wp_at_zero Go.wp_at_succ
open Go.RowKit
attribute [local go_sem ↓] Go.wp_at_zero Go.wp_at_succ
theorem foll_iff (n o : Sup) : follF n o = true ↔ n.ge = o.ge + 1 ∧ n.wd = o.wd ∧ n.pg = o.pg ∧ o.ma ≤ n.ma := by
 obtain ⟨a, b, c, d, e⟩ := n
 obtain ⟨a', b', c', d', e'⟩ := o
 unfold follF
 simp only [decide_eq_true_eq, Sup.mk.injEq]
 constructor
 · rintro ⟨h1, h2, h3, _, h5⟩; exact ⟨h2, h1, h5, by omega⟩
 · rintro ⟨h1, h2, h3, h4⟩; exact ⟨h2, h1, by omega, trivial, h3⟩
theorem newer_bad (a b : Sup) (ha : 0 ≤ a.ge) (hb : 0 ≤ b.ge) (h : ¬ (a.ge % 2 = 0 ∧ b.ge % 2 = 1 ∧ a.wd = b.wd ∧ a.pg = b.pg)) : newerF a b = (sup0, 4) := by
 unfold newerF
 by_cases h0 : a.ge.tmod 2 ≠ 0
 · rw [if_pos h0]
 · rw [if_neg h0]
   have h0' : a.ge % 2 = 0 := by rw [← Int.tmod_eq_emod_of_nonneg ha]; omega
   rw [if_neg (by rw [foll_iff]; omega), if_neg (by rw [foll_iff]; omega)]
theorem newer_good (a b : Sup) (ha : 0 ≤ a.ge) (h : a.ge % 2 = 0 ∧ b.ge % 2 = 1 ∧ a.wd = b.wd ∧ a.pg = b.pg) : newerF a b = if a.ge = b.ge + 1 ∧ b.ma ≤ a.ma then (a, 0) else if b.ge = a.ge + 1 ∧ a.ma ≤ b.ma then (b, 0) else (sup0, 4) := by
 unfold newerF
 rw [if_neg (by rw [Int.tmod_eq_emod_of_nonneg ha]; omega)]
 by_cases h1 : a.ge = b.ge + 1 ∧ b.ma ≤ a.ma
 · rw [if_pos h1, if_pos ((foll_iff a b).2 (by omega))]
 · rw [if_neg h1, if_neg (by rw [foll_iff]; omega)]
   by_cases h2 : b.ge = a.ge + 1 ∧ a.ma ≤ b.ma
   · rw [if_pos h2, if_pos ((foll_iff b a).2 (by omega))]
   · rw [if_neg h2, if_neg (by rw [foll_iff]; omega)]
theorem qnewer_any (w : World) (a b : Sup) (ha : 0 ≤ a.ge ∧ a.ge ≤ 1099511627776) (hb : 0 ≤ b.ge ∧ b.ge ≤ 1099511627776) :
   Calls Tryz.prog 81 #[.agg (supC a), .agg (supC b)] w fun e w' => e = .returned (.tuple #[.agg (supC (newerF a b).1), .int .i64 (newerF a b).2]) ∧ Below w.heap.size w w' := by
 have HB := hid (newer_bad a b ha.1 hb.1)
 have HGD := hid (newer_good a b ha.1)
 have N0 := NW.start w a b
 have W3 : ((w.alloc (.cells (supC a) 39)).alloc (.cells (supC b) 39)).alloc (.cells #[.int .i64 0, .int .i64 0, .int .i64 0, .int .i64 0, .int .i64 0] 39) = ((w.alloc (.cells (supC a) 39)).alloc (.cells (supC b) 39)).alloc (.cells (supC sup0) 39) := rfl
 generalize ((w.alloc (.cells (supC a) 39)).alloc (.cells (supC b) 39)).alloc (.cells (supC sup0) 39) = w3 at *
 have c1 : w3.cell? ⟨w.heap.size, 1, none⟩ = some (.int .i64 a.ge) := cell_of_row w3 _ 1 _ _ _ N0.r1
 have c2 : w3.cell? ⟨w.heap.size + 1, 1, none⟩ = some (.int .i64 b.ge) := cell_of_row w3 _ 1 _ _ _ N0.r2
 have c3 : w3.cell? ⟨w.heap.size, 0, none⟩ = some (.int .i64 a.wd) := cell_of_row w3 _ 0 _ _ _ N0.r1
 have c4 : w3.cell? ⟨w.heap.size + 1, 0, none⟩ = some (.int .i64 b.wd) := cell_of_row w3 _ 0 _ _ _ N0.r2
 have c5 : w3.cell? ⟨w.heap.size, 4, none⟩ = some (.int .i64 a.pg) := cell_of_row w3 _ 4 _ _ _ N0.r1
 have c6 : w3.cell? ⟨w.heap.size + 1, 4, none⟩ = some (.int .i64 b.pg) := cell_of_row w3 _ 4 _ _ _ N0.r2
 have c7 : w3.cell? ⟨w.heap.size, 2, none⟩ = some (.int .i64 a.ma) := cell_of_row w3 _ 2 _ _ _ N0.r1
 have c8 : w3.cell? ⟨w.heap.size + 1, 2, none⟩ = some (.int .i64 b.ma) := cell_of_row w3 _ 2 _ _ _ N0.r2
 have ha1 := ha.1
 have ha2 := ha.2
 have hb1 := hb.1
 have hb2 := hb.2
 have ea : a.ge.tmod 2 = a.ge % 2 := Int.tmod_eq_emod_of_nonneg ha.1
 have eb : b.ge.tmod 2 = b.ge % 2 := Int.tmod_eq_emod_of_nonneg hb.1
 have ma2 : a.ge % 2 = 0 ∨ a.ge % 2 = 1 := by omega
 have mb2 : b.ge % 2 = 0 ∨ b.ge % 2 = 1 := by omega
 rcases ma2 with p1 | p1
 case inr =>
   have HF := hid (HB.out (by omega))
   clear HB HGD mb2 eb ha hb
   rw [p1] at ea
   go_enter Tryz.func81, Tryz.ntmps81
   obtain ⟨R9, B9⟩ := N0.done sup0
   go_wp2_with (first
     | (refine wpList_store_row (by rfl) 39 (.tmp 4) (.tmp 30) (by rfl) (w.heap.size + 1 + 1) (supC sup0) (by rfl) (by rfl) 39 (supC sup0) (by exact N0.r3) (supN _) (supS _ _) (supO _) ?_))
   exact bodyPost_ret (v := .tuple #[.agg (supC sup0), .int .i64 4]) (results_c2 Tryz.results81 _ _ (w.heap.size + 1 + 1) 39 _ _ _ rfl R9 Tryz.underlying39 rfl (supN _)) rfl ⟨by rw [HF.out], B9⟩
 rcases mb2 with p2 | p2
 case inl =>
   have HF := hid (HB.out (by omega))
   clear HB HGD ha hb
   rw [p1] at ea
   rw [p2] at eb
   go_enter Tryz.func81, Tryz.ntmps81
   obtain ⟨R9, B9⟩ := N0.done sup0
   go_wp2_with (first
     | (refine wpList_store_row (by rfl) 39 (.tmp 4) (.tmp 30) (by rfl) (w.heap.size + 1 + 1) (supC sup0) (by rfl) (by rfl) 39 (supC sup0) (by exact N0.r3) (supN _) (supS _ _) (supO _) ?_))
   exact bodyPost_ret (v := .tuple #[.agg (supC sup0), .int .i64 4]) (results_c2 Tryz.results81 _ _ (w.heap.size + 1 + 1) 39 _ _ _ rfl R9 Tryz.underlying39 rfl (supN _)) rfl ⟨by rw [HF.out], B9⟩
 rcases Classical.em (a.wd = b.wd) with p3 | p3
 case inr =>
   have HF := hid (HB.out (fun h => p3 h.2.2.1))
   have p3' : (a.wd != b.wd) = true := by simpa using p3
   clear HB HGD ha hb p3
   rw [p1] at ea
   rw [p2] at eb
   go_enter Tryz.func81, Tryz.ntmps81
   obtain ⟨R9, B9⟩ := N0.done sup0
   go_wp2_with (first
     | (refine wpList_store_row (by rfl) 39 (.tmp 4) (.tmp 30) (by rfl) (w.heap.size + 1 + 1) (supC sup0) (by rfl) (by rfl) 39 (supC sup0) (by exact N0.r3) (supN _) (supS _ _) (supO _) ?_))
   exact bodyPost_ret (v := .tuple #[.agg (supC sup0), .int .i64 4]) (results_c2 Tryz.results81 _ _ (w.heap.size + 1 + 1) 39 _ _ _ rfl R9 Tryz.underlying39 rfl (supN _)) rfl ⟨by rw [HF.out], B9⟩
 rcases Classical.em (a.pg = b.pg) with p4 | p4
 case inr =>
   have HF := hid (HB.out (fun h => p4 h.2.2.2))
   have p4' : (a.pg != b.pg) = true := by simpa using p4
   rw [← p3] at c4
   clear HB HGD ha hb p4 p3
   rw [p1] at ea
   rw [p2] at eb
   go_enter Tryz.func81, Tryz.ntmps81
   obtain ⟨R9, B9⟩ := N0.done sup0
   go_wp2_with (first
     | (refine wpList_store_row (by rfl) 39 (.tmp 4) (.tmp 30) (by rfl) (w.heap.size + 1 + 1) (supC sup0) (by rfl) (by rfl) 39 (supC sup0) (by exact N0.r3) (supN _) (supS _ _) (supO _) ?_))
   exact bodyPost_ret (v := .tuple #[.agg (supC sup0), .int .i64 4]) (results_c2 Tryz.results81 _ _ (w.heap.size + 1 + 1) 39 _ _ _ rfl R9 Tryz.underlying39 rfl (supN _)) rfl ⟨by rw [HF.out], B9⟩
 have HN := hid (HGD.out ⟨p1, p2, p3, p4⟩)
 rw [← p3] at c4
 rw [← p4] at c6
 clear HB HGD ha hb p3 p4
 rw [p1] at ea
 rw [p2] at eb
 have g1 : b.ge + 1 ≤ 9223372036854775807 := by omega
 have g2 : a.ge + 1 ≤ 9223372036854775807 := by omega
 rcases Classical.em (a.ge = b.ge + 1) with q1 | q1
 · have q1' : (a.ge == b.ge + 1) = true := by simpa using q1
   rcases Classical.em (b.ma ≤ a.ma) with q2 | q2
   · have HF := hid (show newerF a b = (a, 0) by rw [HN.out, if_pos ⟨q1, q2⟩])
     clear HN q1
     go_enter Tryz.func81, Tryz.ntmps81
     obtain ⟨R9, B9⟩ := N0.done a
     go_wp2_with (first
       | (refine wpList_load_row_w (by rfl) 39 (.tmp 2) (by rfl) w.heap.size (by rfl) 39 (supC a) (0, 0) _ (by exact N0.r1) Tryz.underlying39 rfl (supN a) ?_)
       | (refine wpList_store_row (by rfl) 39 (.tmp 4) (.tmp 44) (by rfl) (w.heap.size + 1 + 1) (supC a) (by rfl) (by rfl) 39 (supC sup0) (by exact N0.r3) (supN _) (supS _ _) (supO _) ?_))
     exact bodyPost_ret (v := .tuple #[.agg (supC a), .int .i64 0]) (results_c2 Tryz.results81 _ _ (w.heap.size + 1 + 1) 39 _ _ _ rfl R9 Tryz.underlying39 rfl (supN _)) rfl ⟨by rw [HF.out], B9⟩
   · have HF := hid (show newerF a b = (sup0, 4) by rw [HN.out, if_neg (fun h => q2 h.2), if_neg (by omega)])
     have q3 : (b.ge == a.ge + 1) = false := by simp; omega
     clear HN q1
     go_enter Tryz.func81, Tryz.ntmps81
     obtain ⟨R9, B9⟩ := N0.done sup0
     go_wp2_with (first
       | (refine wpList_store_row (by rfl) 39 (.tmp 4) (.tmp 59) (by rfl) (w.heap.size + 1 + 1) (supC sup0) (by rfl) (by rfl) 39 (supC sup0) (by exact N0.r3) (supN _) (supS _ _) (supO _) ?_))
     exact bodyPost_ret (v := .tuple #[.agg (supC sup0), .int .i64 4]) (results_c2 Tryz.results81 _ _ (w.heap.size + 1 + 1) 39 _ _ _ rfl R9 Tryz.underlying39 rfl (supN _)) rfl ⟨by rw [HF.out], B9⟩
 · have q1' : (a.ge == b.ge + 1) = false := by simpa using q1
   rcases Classical.em (b.ge = a.ge + 1) with q3 | q3
   · have q3' : (b.ge == a.ge + 1) = true := by simpa using q3
     rcases Classical.em (a.ma ≤ b.ma) with q2 | q2
     · have HF := hid (show newerF a b = (b, 0) by rw [HN.out, if_neg (fun h => q1 h.1), if_pos ⟨q3, q2⟩])
       clear HN q1 q3
       go_enter Tryz.func81, Tryz.ntmps81
       obtain ⟨R9, B9⟩ := N0.done b
       go_wp2_with (first
         | (refine wpList_load_row_w (by rfl) 39 (.tmp 3) (by rfl) (w.heap.size + 1) (by rfl) 39 (supC b) (0, 0) _ (by exact N0.r2) Tryz.underlying39 rfl (supN b) ?_)
         | (refine wpList_store_row (by rfl) 39 (.tmp 4) (.tmp 58) (by rfl) (w.heap.size + 1 + 1) (supC b) (by rfl) (by rfl) 39 (supC sup0) (by exact N0.r3) (supN _) (supS _ _) (supO _) ?_))
       exact bodyPost_ret (v := .tuple #[.agg (supC b), .int .i64 0]) (results_c2 Tryz.results81 _ _ (w.heap.size + 1 + 1) 39 _ _ _ rfl R9 Tryz.underlying39 rfl (supN _)) rfl ⟨by rw [HF.out], B9⟩
     · have HF := hid (show newerF a b = (sup0, 4) by rw [HN.out, if_neg (fun h => q1 h.1), if_neg (fun h => q2 h.2)])
       clear HN q1 q3
       go_enter Tryz.func81, Tryz.ntmps81
       obtain ⟨R9, B9⟩ := N0.done sup0
       go_wp2_with (first
         | (refine wpList_store_row (by rfl) 39 (.tmp 4) (.tmp 59) (by rfl) (w.heap.size + 1 + 1) (supC sup0) (by rfl) (by rfl) 39 (supC sup0) (by exact N0.r3) (supN _) (supS _ _) (supO _) ?_))
       exact bodyPost_ret (v := .tuple #[.agg (supC sup0), .int .i64 4]) (results_c2 Tryz.results81 _ _ (w.heap.size + 1 + 1) 39 _ _ _ rfl R9 Tryz.underlying39 rfl (supN _)) rfl ⟨by rw [HF.out], B9⟩
   · have q3' : (b.ge == a.ge + 1) = false := by simpa using q3
     have HF := hid (show newerF a b = (sup0, 4) by rw [HN.out, if_neg (fun h => q1 h.1), if_neg (fun h => q3 h.1)])
     clear HN q1 q3
     go_enter Tryz.func81, Tryz.ntmps81
     obtain ⟨R9, B9⟩ := N0.done sup0
     go_wp2_with (first
       | (refine wpList_store_row (by rfl) 39 (.tmp 4) (.tmp 59) (by rfl) (w.heap.size + 1 + 1) (supC sup0) (by rfl) (by rfl) 39 (supC sup0) (by exact N0.r3) (supN _) (supS _ _) (supO _) ?_))
     exact bodyPost_ret (v := .tuple #[.agg (supC sup0), .int .i64 4]) (results_c2 Tryz.results81 _ _ (w.heap.size + 1 + 1) 39 _ _ _ rfl R9 Tryz.underlying39 rfl (supN _)) rfl ⟨by rw [HF.out], B9⟩
theorem qEmpty_any (w : World) (r : List Int) (sp : Option Addr) (cap : Nat) (hS : Src w sp cap r) :
   Calls Tryz.prog 82 #[.slice sp r.length cap] w fun e w' => e = .returned (.bool (emptyF r)) ∧ Below w.heap.size w w' := by
 have hlm : (r.length : Int) ≤ 9223372036854775807 := by have := hS.1; have := hS.2.1; unfold maxLen at this; omega
 by_cases hl : r.length = 256
 · have hz := qzeros_any w r sp cap hS 0 64 (by omega) (by omega) 0 64 rfl rfl
   have HF := hid (show emptyF r = decide ((r.drop 0).take 64 = List.replicate 64 0) by unfold emptyF; rw [List.drop_zero]; simp [hl])
   rw [← HF.out, hl] at hz
   rw [hl]
   clear hS hl hlm HF
   generalize emptyF r = E at *
   go_enter Tryz.func82, Tryz.ntmps82
   go_wp2_with fail
   refine hz.mono ?_
   rintro e w2 ⟨rfl, b2⟩
   cases E
   · go_wp2
     go_ret
     exact ⟨rfl, b2⟩
   · go_wp2
     go_ret
     exact ⟨rfl, b2⟩
 · have HF := hid (show emptyF r = false by unfold emptyF; simp [hl])
   have hl2 : ((r.length : Int) == 256) = false := by simp; omega
   clear hS hl
   go_enter Tryz.func82, Tryz.ntmps82
   go_wp2
   go_ret
   exact ⟨by rw [HF.out]; rfl, Below.refl _ _⟩
theorem qChoose_any (w : World) (hG : Gl w) (xs ys : List Int) (x8 : Byts xs) (y8 : Byts ys) (sp sq : Option Addr) (cp cq : Nat) (hX : Src w sp cp xs) (hY : Src w sq cq ys) :
   Calls Tryz.prog 32 #[.slice sp xs.length cp, .slice sq ys.length cq] w fun e w' => e = .returned (.tuple #[.agg (supC (chooseF xs ys).1), .int .i64 (chooseF xs ys).2]) ∧ Below w.heap.size w w' := by
 have HC := hid (show chooseF xs ys = if (unSuperF xs).2 = 0 ∧ (unSuperF ys).2 = 0 then newerF (unSuperF xs).1 (unSuperF ys).1
   else if ((unSuperF xs).2 = 0 ∧ (unSuperF xs).1.ge = 0) ∨ emptyF xs = true then (if emptyF ys = true then (sup0, 55) else (sup0, 4)) else (sup0, 4) from rfl)
 have hu1 := fun (w' : World) (hG' : Gl w') (h : Src w' sp cp xs) => qUnSuper_any w' hG' xs x8 sp cp h
 have hu2 := fun (w' : World) (hG' : Gl w') (h : Src w' sq cq ys) => qUnSuper_any w' hG' ys y8 sq cq h
 have VX := hid (fun h => ((validS_iff _).1 (unSuper_ok xs h).2.1))
 have VY := hid (fun h => ((validS_iff _).1 (unSuper_ok ys h).2.1))
 generalize unSuperF xs = U at *
 generalize unSuperF ys = V at *
 obtain ⟨x, ex⟩ := U
 obtain ⟨y, ey⟩ := V
 simp only at hu1 hu2 HC VX VY
 have r0 := hnew w (.cells (supC sup0) 39)
 have b0 := below_new w (.cells (supC sup0) 39)
 have hX0 := hX.below b0 (Nat.le_refl _)
 have hY0 := hY.below b0 (Nat.le_refl _)
 go_enter Tryz.func32, Tryz.ntmps32
 go_wp2_with fail
 refine (hu1 _ (hG.below b0 hG.1) hX0).mono ?_
 rintro e w1 ⟨rfl, b1⟩
 have r1 := hbel b1 r0 (hlt r0)
 have B1 := b0.trans (b1.mono b0.size)
 have hY1 := hY0.below b1 (Nat.le_refl _)
 have hX1 := hX0.below b1 (Nat.le_refl _)
 have z1 := hnew w1 (.cells (supC x) 39)
 have d1 := below_new w1 (.cells (supC x) 39)
 have r2 := hbel d1 r1 (hlt r1)
 have B2 := B1.trans (d1.mono B1.size)
 have hY2 := hY1.below d1 (Nat.le_refl _)
 have hX2 := hX1.below d1 (Nat.le_refl _)
 clear r0 b0 b1 r1 B1 hY1 d1 hu1 hX0 hY0 hX1
 go_wp2_with (first
   | (refine wpList_store_row (by rfl) 39 (.tmp 6) (.tmp 13) (by rfl) w1.heap.size (supC x) (by rfl) (by rfl) 39 _ (by exact hnew _ _) (supN x) (supZ x) (supO x) ?_; rw [setRow_alloc]; generalize w1.alloc (.cells (supC x) 39) = w2 at *; generalize w1.heap.size = G6 at *))
 refine (hu2 _ (hG.below B2 hG.1) hY2).mono ?_
 rintro e w3 ⟨rfl, b3⟩
 have r3 := hbel b3 r2 (hlt r2)
 have z3 := hbel b3 z1 (hlt z1)
 have B3 := B2.trans (b3.mono B2.size)
 have hX3 := hX2.below b3 (Nat.le_refl _)
 have hY3 := hY2.below b3 (Nat.le_refl _)
 have s4 := hnew w3 (.cells (supC y) 39)
 have d4 := below_new w3 (.cells (supC y) 39)
 have C4 : CW w (w3.alloc (.cells (supC y) 39)) x y G6 w3.heap.size := ⟨hbel d4 r3 (hlt r3), hbel d4 z3 (hlt z3), s4, B3.trans (d4.mono B3.size)⟩
 have hX4 := hX3.below d4 (Nat.le_refl _)
 have hY4 := hY3.below d4 (Nat.le_refl _)
 clear r2 z1 b3 B2 hX2 hY2 r3 z3 B3 hX3 hY3 s4 d4 hu2
 have EX := hid (fun (w' : World) (h : Src w' sp cp xs) => qEmpty_any w' xs sp cp h)
 have EY := hid (fun (w' : World) (h : Src w' sq cq ys) => qEmpty_any w' ys sq cq h)
 rcases Classical.em (ex = 0) with hxe | hxe
 · subst hxe
   obtain ⟨v1, v2, v3, v4, _⟩ := VX.out rfl
   rcases Classical.em (ey = 0) with hye | hye
   · subst hye
     obtain ⟨u1, u2, u3, u4, _⟩ := VY.out rfl
     have HF := hid (show chooseF xs ys = newerF x y by rw [HC.out, if_pos ⟨rfl, rfl⟩])
     have hnw := fun w' => qnewer_any w' x y ⟨v3, v4⟩ ⟨u3, u4⟩
     have HNW := hid hnw
     clear hnw HC VX VY EX EY
     go_wp2_with (first
       | (refine wpList_store_row (by rfl) 39 (.tmp 8) (.tmp 18) (by rfl) w3.heap.size (supC y) (by rfl) (by rfl) 39 _ (by exact hnew _ _) (supN y) (supZ y) (supO y) ?_; rw [setRow_alloc]; generalize w3.alloc (.cells (supC y) 39) = w4 at *; generalize w3.heap.size = G8 at *)
       | (refine wpList_load_row_w (by rfl) 39 (.tmp 6) (by rfl) G6 (by rfl) 39 (supC x) (0, 0) _ (by exact C4.r6) Tryz.underlying39 rfl (supN x) ?_)
       | (refine wpList_load_row_w (by rfl) 39 (.tmp 8) (by rfl) G8 (by rfl) 39 (supC y) (0, 0) _ (by exact C4.r8) Tryz.underlying39 rfl (supN y) ?_))
     refine (HNW.out w4).mono ?_
     rintro e w5 ⟨rfl, b5⟩
     have C5 := C4.below b5
     obtain ⟨R9, B9⟩ := C5.done (newerF x y).1
     generalize newerF x y = NF at *
     obtain ⟨ns, ne⟩ := NF
     simp only at R9 B9
     go_wp2_with (first
       | (refine wpList_store_row (by rfl) 39 (.tmp 4) (.tmp 29) (by rfl) w.heap.size (supC ns) (by rfl) (by rfl) 39 (supC sup0) (by exact C5.r) (supN _) (supS _ _) (supO _) ?_))
     exact bodyPost_ret (v := .tuple #[.agg (supC ns), .int .i64 ne]) (results_c2 Tryz.results32 _ _ w.heap.size 39 _ _ _ rfl R9 Tryz.underlying39 rfl (supN _)) rfl ⟨by rw [HF.out], B9⟩
   · have hye2 : (ey == 0) = false := by simpa using hye
     have HU := hid (show chooseF xs ys = if emptyF ys = true then (if emptyF xs = true ∨ x.ge = 0 then (sup0, 55) else (sup0, 4)) else (sup0, 4) by
       rw [HC.out, if_neg (fun h => hye h.2)]
       cases emptyF xs <;> cases emptyF ys <;> by_cases hg : x.ge = 0 <;> simp [hg])
     rcases Classical.em (x.ge = 0) with hg | hg
     · have HG := hid hg
       clear HC hye VX VY v1 v2 v3 v4 hg
       go_wp2_with (first
         | (refine wpList_store_row (by rfl) 39 (.tmp 8) (.tmp 18) (by rfl) w3.heap.size (supC y) (by rfl) (by rfl) 39 _ (by exact hnew _ _) (supN y) (supZ y) (supO y) ?_; rw [setRow_alloc]; generalize w3.alloc (.cells (supC y) 39) = w4 at *; generalize w3.heap.size = G8 at *))
       refine (EY.out w4 hY4).mono ?_
       rintro e v1 ⟨rfl, e1⟩
       have D1 := C4.below e1
       have hXD := hX4.below e1 (Nat.le_refl _)
       cases hey : emptyF ys
       · have HF := hid (show chooseF xs ys = (sup0, 4) by rw [HU.out]; simp [hey])
         clear hey HU
         obtain ⟨R9, B9⟩ := D1.done sup0
         go_wp2_with (first
           | (refine wpList_store_row (by rfl) 39 (.tmp 4) (.tmp 47) (by rfl) w.heap.size (supC sup0) (by rfl) (by rfl) 39 (supC sup0) (by exact D1.r) (supN _) (supS _ _) (supO _) ?_))
         exact bodyPost_ret (v := .tuple #[.agg (supC sup0), .int .i64 4]) (results_c2 Tryz.results32 _ _ w.heap.size 39 _ _ _ rfl R9 Tryz.underlying39 rfl (supN _)) rfl ⟨by rw [HF.out], B9⟩
       · have HEY := hid hey
         clear hey
         go_wp2_with fail
         refine (EX.out v1 hXD).mono ?_
         rintro e v2 ⟨rfl, e2⟩
         have D2 := D1.below e2
         have cg : v2.cell? ⟨G6, 1, none⟩ = some (.int .i64 x.ge) := cell_of_row v2 _ 1 _ _ _ D2.r6
         have HF := hid (show chooseF xs ys = (sup0, 55) by rw [HU.out]; simp [HEY.out, HG.out])
         rw [HG.out] at cg
         cases hex : emptyF xs
         · clear hex HU HEY HG
           obtain ⟨R9, B9⟩ := D2.done sup0
           go_wp2_with (first
             | (refine wpList_store_row (by rfl) 39 (.tmp 4) (.tmp 46) (by rfl) w.heap.size (supC sup0) (by rfl) (by rfl) 39 (supC sup0) (by exact D2.r) (supN _) (supS _ _) (supO _) ?_))
           exact bodyPost_ret (v := .tuple #[.agg (supC sup0), .int .i64 55]) (results_c2 Tryz.results32 _ _ w.heap.size 39 _ _ _ rfl R9 Tryz.underlying39 rfl (supN _)) rfl ⟨by rw [HF.out], B9⟩
         · clear hex HU HEY HG
           obtain ⟨R9, B9⟩ := D2.done sup0
           go_wp2_with (first
             | (refine wpList_store_row (by rfl) 39 (.tmp 4) (.tmp 46) (by rfl) w.heap.size (supC sup0) (by rfl) (by rfl) 39 (supC sup0) (by exact D2.r) (supN _) (supS _ _) (supO _) ?_))
           exact bodyPost_ret (v := .tuple #[.agg (supC sup0), .int .i64 55]) (results_c2 Tryz.results32 _ _ w.heap.size 39 _ _ _ rfl R9 Tryz.underlying39 rfl (supN _)) rfl ⟨by rw [HF.out], B9⟩
     · have hg2 : (x.ge == 0) = false := by simpa using hg
       have HG := hid hg
       clear HC hye VX VY v1 v2 v3 v4 hg
       go_wp2_with (first
         | (refine wpList_store_row (by rfl) 39 (.tmp 8) (.tmp 18) (by rfl) w3.heap.size (supC y) (by rfl) (by rfl) 39 _ (by exact hnew _ _) (supN y) (supZ y) (supO y) ?_; rw [setRow_alloc]; generalize w3.alloc (.cells (supC y) 39) = w4 at *; generalize w3.heap.size = G8 at *))
       refine (EY.out w4 hY4).mono ?_
       rintro e v1 ⟨rfl, e1⟩
       have D1 := C4.below e1
       have hXD := hX4.below e1 (Nat.le_refl _)
       cases hey : emptyF ys
       · have HF := hid (show chooseF xs ys = (sup0, 4) by rw [HU.out]; simp [hey])
         clear hey HU
         obtain ⟨R9, B9⟩ := D1.done sup0
         go_wp2_with (first
           | (refine wpList_store_row (by rfl) 39 (.tmp 4) (.tmp 47) (by rfl) w.heap.size (supC sup0) (by rfl) (by rfl) 39 (supC sup0) (by exact D1.r) (supN _) (supS _ _) (supO _) ?_))
         exact bodyPost_ret (v := .tuple #[.agg (supC sup0), .int .i64 4]) (results_c2 Tryz.results32 _ _ w.heap.size 39 _ _ _ rfl R9 Tryz.underlying39 rfl (supN _)) rfl ⟨by rw [HF.out], B9⟩
       · have HEY := hid hey
         clear hey
         go_wp2_with fail
         refine (EX.out v1 hXD).mono ?_
         rintro e v2 ⟨rfl, e2⟩
         have D2 := D1.below e2
         have cg : v2.cell? ⟨G6, 1, none⟩ = some (.int .i64 x.ge) := cell_of_row v2 _ 1 _ _ _ D2.r6
         generalize x.ge = xg at *
         cases hex : emptyF xs
         · have HF := hid (show chooseF xs ys = (sup0, 4) by rw [HU.out]; simp [HEY.out, hex, HG.out])
           clear hex HU HEY
           obtain ⟨R9, B9⟩ := D2.done sup0
           go_wp2_with (first
             | (refine wpList_store_row (by rfl) 39 (.tmp 4) (.tmp 47) (by rfl) w.heap.size (supC sup0) (by rfl) (by rfl) 39 (supC sup0) (by exact D2.r) (supN _) (supS _ _) (supO _) ?_))
           exact bodyPost_ret (v := .tuple #[.agg (supC sup0), .int .i64 4]) (results_c2 Tryz.results32 _ _ w.heap.size 39 _ _ _ rfl R9 Tryz.underlying39 rfl (supN _)) rfl ⟨by rw [HF.out], B9⟩
         · have HF := hid (show chooseF xs ys = (sup0, 55) by rw [HU.out]; simp [HEY.out, hex])
           clear hex HU HEY
           obtain ⟨R9, B9⟩ := D2.done sup0
           go_wp2_with (first
             | (refine wpList_store_row (by rfl) 39 (.tmp 4) (.tmp 46) (by rfl) w.heap.size (supC sup0) (by rfl) (by rfl) 39 (supC sup0) (by exact D2.r) (supN _) (supS _ _) (supO _) ?_))
           exact bodyPost_ret (v := .tuple #[.agg (supC sup0), .int .i64 55]) (results_c2 Tryz.results32 _ _ w.heap.size 39 _ _ _ rfl R9 Tryz.underlying39 rfl (supN _)) rfl ⟨by rw [HF.out], B9⟩
 · have hxe2 : (ex == 0) = false := by simpa using hxe
   have HU := hid (show chooseF xs ys = if emptyF ys = true then (if emptyF xs = true then (sup0, 55) else (sup0, 4)) else (sup0, 4) by
     rw [HC.out, if_neg (fun h => hxe h.1)]
     cases emptyF xs <;> cases emptyF ys <;> simp [hxe])
   have HX := hid hxe
   clear HC hxe VX VY
   go_wp2_with (first
     | (refine wpList_store_row (by rfl) 39 (.tmp 8) (.tmp 18) (by rfl) w3.heap.size (supC y) (by rfl) (by rfl) 39 _ (by exact hnew _ _) (supN y) (supZ y) (supO y) ?_; rw [setRow_alloc]; generalize w3.alloc (.cells (supC y) 39) = w4 at *; generalize w3.heap.size = G8 at *))
   refine (EY.out w4 hY4).mono ?_
   rintro e v1 ⟨rfl, e1⟩
   have D1 := C4.below e1
   have hXD := hX4.below e1 (Nat.le_refl _)
   cases hey : emptyF ys
   · have HF := hid (show chooseF xs ys = (sup0, 4) by rw [HU.out]; simp [hey])
     clear hey HU
     obtain ⟨R9, B9⟩ := D1.done sup0
     go_wp2_with (first
       | (refine wpList_store_row (by rfl) 39 (.tmp 4) (.tmp 47) (by rfl) w.heap.size (supC sup0) (by rfl) (by rfl) 39 (supC sup0) (by exact D1.r) (supN _) (supS _ _) (supO _) ?_))
     exact bodyPost_ret (v := .tuple #[.agg (supC sup0), .int .i64 4]) (results_c2 Tryz.results32 _ _ w.heap.size 39 _ _ _ rfl R9 Tryz.underlying39 rfl (supN _)) rfl ⟨by rw [HF.out], B9⟩
   · have HEY := hid hey
     clear hey
     go_wp2_with fail
     refine (EX.out v1 hXD).mono ?_
     rintro e v2 ⟨rfl, e2⟩
     have D2 := D1.below e2
     have cg : v2.cell? ⟨G6, 1, none⟩ = some (.int .i64 x.ge) := cell_of_row v2 _ 1 _ _ _ D2.r6
     generalize x.ge = xg at *
     cases hex : emptyF xs
     · have HF := hid (show chooseF xs ys = (sup0, 4) by rw [HU.out]; simp [HEY.out, hex, HX.out])
       clear hex HU HEY
       obtain ⟨R9, B9⟩ := D2.done sup0
       go_wp2_with (first
         | (refine wpList_store_row (by rfl) 39 (.tmp 4) (.tmp 47) (by rfl) w.heap.size (supC sup0) (by rfl) (by rfl) 39 (supC sup0) (by exact D2.r) (supN _) (supS _ _) (supO _) ?_))
       exact bodyPost_ret (v := .tuple #[.agg (supC sup0), .int .i64 4]) (results_c2 Tryz.results32 _ _ w.heap.size 39 _ _ _ rfl R9 Tryz.underlying39 rfl (supN _)) rfl ⟨by rw [HF.out], B9⟩
     · have HF := hid (show chooseF xs ys = (sup0, 55) by rw [HU.out]; simp [HEY.out, hex])
       clear hex HU HEY
       obtain ⟨R9, B9⟩ := D2.done sup0
       go_wp2_with (first
         | (refine wpList_store_row (by rfl) 39 (.tmp 4) (.tmp 46) (by rfl) w.heap.size (supC sup0) (by rfl) (by rfl) 39 (supC sup0) (by exact D2.r) (supN _) (supS _ _) (supO _) ?_))
       exact bodyPost_ret (v := .tuple #[.agg (supC sup0), .int .i64 55]) (results_c2 Tryz.results32 _ _ w.heap.size 39 _ _ _ rfl R9 Tryz.underlying39 rfl (supN _)) rfl ⟨by rw [HF.out], B9⟩
end
end Go.Proofs.YtjhocjjecfdphaaGreatDoor
