import Derived.Test.YtaoongjdneaccaaDoorN4c
namespace Go.Proofs.YtaoongjdneaccaaDoor
set_option linter.unusedVariables false
set_option linter.unusedSimpArgs false
open Go.RowKit
attribute [local go_sem ↓] Go.wp_at_zero Go.wp_at_succ

theorem foll_iff (n o : Sup) : follF n o = true ↔ n.ge = o.ge + 1 ∧ n.wd = o.wd ∧ n.pg = o.pg ∧ o.ma ≤ n.ma := by
  obtain ⟨a, b, c, d, e⟩ := n
  obtain ⟨a', b', c', d', e'⟩ := o
  unfold follF
  simp only [decide_eq_true_eq, Sup.mk.injEq]
  constructor
  · rintro ⟨h1, h2, h3, _, h5⟩; exact ⟨h2, h1, h5, by omega⟩
  · rintro ⟨h1, h2, h3, h4⟩; exact ⟨h2, h1, by omega, trivial, h3⟩
theorem newer_bad (a b : Sup) (ha : 0 ≤ a.ge) (hb : 0 ≤ b.ge) (h : ¬ (a.ge % 2 = 0 ∧ b.ge % 2 = 1 ∧ a.wd = b.wd ∧ a.pg = b.pg)) : newerF a b = (sup0, 4) := by
  unfold newerF
  by_cases h0 : a.ge.tmod 2 ≠ 0
  · rw [if_pos h0]
  · rw [if_neg h0]
    have h0' : a.ge % 2 = 0 := by rw [← Int.tmod_eq_emod_of_nonneg ha]; omega
    rw [if_neg (by rw [foll_iff]; omega), if_neg (by rw [foll_iff]; omega)]
theorem newer_good (a b : Sup) (ha : 0 ≤ a.ge) (h : a.ge % 2 = 0 ∧ b.ge % 2 = 1 ∧ a.wd = b.wd ∧ a.pg = b.pg) : newerF a b = if a.ge = b.ge + 1 ∧ b.ma ≤ a.ma then (a, 0) else if b.ge = a.ge + 1 ∧ a.ma ≤ b.ma then (b, 0) else (sup0, 4) := by
  unfold newerF
  rw [if_neg (by rw [Int.tmod_eq_emod_of_nonneg ha]; omega)]
  by_cases h1 : a.ge = b.ge + 1 ∧ b.ma ≤ a.ma
  · rw [if_pos h1, if_pos ((foll_iff a b).2 (by omega))]
  · rw [if_neg h1, if_neg (by rw [foll_iff]; omega)]
    by_cases h2 : b.ge = a.ge + 1 ∧ a.ma ≤ b.ma
    · rw [if_pos h2, if_pos ((foll_iff b a).2 (by omega))]
    · rw [if_neg h2, if_neg (by rw [foll_iff]; omega)]
set_option maxRecDepth 100000 in
set_option maxHeartbeats 2000000 in
theorem qnewer_any (w : World) (a b : Sup) (ha : 0 ≤ a.ge ∧ a.ge ≤ 1099511627776) (hb : 0 ≤ b.ge ∧ b.ge ≤ 1099511627776) :
    Calls Tryd.prog 45 #[.agg (supC a), .agg (supC b)] w fun e w' => e = .returned (.tuple #[.agg (supC (newerF a b).1), .int .i64 (newerF a b).2]) ∧ Below w.heap.size w w' := by
  have HB := hid (newer_bad a b ha.1 hb.1)
  have HGD := hid (newer_good a b ha.1)
  have N0 := NW.start w a b
  have W3 : ((w.alloc (.cells (supC a) 31)).alloc (.cells (supC b) 31)).alloc (.cells #[.int .i64 0, .int .i64 0, .int .i64 0, .int .i64 0, .int .i64 0] 31) = ((w.alloc (.cells (supC a) 31)).alloc (.cells (supC b) 31)).alloc (.cells (supC sup0) 31) := rfl
  generalize ((w.alloc (.cells (supC a) 31)).alloc (.cells (supC b) 31)).alloc (.cells (supC sup0) 31) = w3 at *
  have c1 : w3.cell? ⟨w.heap.size, 1, none⟩ = some (.int .i64 a.ge) := cell_of_row w3 _ 1 _ _ _ N0.r1
  have c2 : w3.cell? ⟨w.heap.size + 1, 1, none⟩ = some (.int .i64 b.ge) := cell_of_row w3 _ 1 _ _ _ N0.r2
  have c3 : w3.cell? ⟨w.heap.size, 0, none⟩ = some (.int .i64 a.wd) := cell_of_row w3 _ 0 _ _ _ N0.r1
  have c4 : w3.cell? ⟨w.heap.size + 1, 0, none⟩ = some (.int .i64 b.wd) := cell_of_row w3 _ 0 _ _ _ N0.r2
  have c5 : w3.cell? ⟨w.heap.size, 4, none⟩ = some (.int .i64 a.pg) := cell_of_row w3 _ 4 _ _ _ N0.r1
  have c6 : w3.cell? ⟨w.heap.size + 1, 4, none⟩ = some (.int .i64 b.pg) := cell_of_row w3 _ 4 _ _ _ N0.r2
  have c7 : w3.cell? ⟨w.heap.size, 2, none⟩ = some (.int .i64 a.ma) := cell_of_row w3 _ 2 _ _ _ N0.r1
  have c8 : w3.cell? ⟨w.heap.size + 1, 2, none⟩ = some (.int .i64 b.ma) := cell_of_row w3 _ 2 _ _ _ N0.r2
  have ha1 := ha.1
  have ha2 := ha.2
  have hb1 := hb.1
  have hb2 := hb.2
  have ea : a.ge.tmod 2 = a.ge % 2 := Int.tmod_eq_emod_of_nonneg ha.1
  have eb : b.ge.tmod 2 = b.ge % 2 := Int.tmod_eq_emod_of_nonneg hb.1
  have ma2 : a.ge % 2 = 0 ∨ a.ge % 2 = 1 := by omega
  have mb2 : b.ge % 2 = 0 ∨ b.ge % 2 = 1 := by omega
  rcases ma2 with p1 | p1
  case inr =>
    have HF := hid (HB.out (by omega))
    clear HB HGD mb2 eb ha hb
    rw [p1] at ea
    go_enter Tryd.func45, Tryd.ntmps45
    obtain ⟨R9, B9⟩ := N0.done sup0
    go_wp2_with (first
      | (refine wpList_store_row (by rfl) 31 (.tmp 4) (.tmp 30) (by rfl) (w.heap.size + 1 + 1) (supC sup0) (by rfl) (by rfl) 31 (supC sup0) (by exact N0.r3) (supN _) (supS _ _) (supO _) ?_))
    exact bodyPost_ret (v := .tuple #[.agg (supC sup0), .int .i64 4]) (results_c2 Tryd.results45 _ _ (w.heap.size + 1 + 1) 31 _ _ _ rfl R9 Tryd.underlying31 rfl (supN _)) rfl ⟨by rw [HF.out], B9⟩
  rcases mb2 with p2 | p2
  case inl =>
    have HF := hid (HB.out (by omega))
    clear HB HGD ha hb
    rw [p1] at ea
    rw [p2] at eb
    go_enter Tryd.func45, Tryd.ntmps45
    obtain ⟨R9, B9⟩ := N0.done sup0
    go_wp2_with (first
      | (refine wpList_store_row (by rfl) 31 (.tmp 4) (.tmp 30) (by rfl) (w.heap.size + 1 + 1) (supC sup0) (by rfl) (by rfl) 31 (supC sup0) (by exact N0.r3) (supN _) (supS _ _) (supO _) ?_))
    exact bodyPost_ret (v := .tuple #[.agg (supC sup0), .int .i64 4]) (results_c2 Tryd.results45 _ _ (w.heap.size + 1 + 1) 31 _ _ _ rfl R9 Tryd.underlying31 rfl (supN _)) rfl ⟨by rw [HF.out], B9⟩
  rcases Classical.em (a.wd = b.wd) with p3 | p3
  case inr =>
    have HF := hid (HB.out (fun h => p3 h.2.2.1))
    have p3' : (a.wd != b.wd) = true := by simpa using p3
    clear HB HGD ha hb p3
    rw [p1] at ea
    rw [p2] at eb
    go_enter Tryd.func45, Tryd.ntmps45
    obtain ⟨R9, B9⟩ := N0.done sup0
    go_wp2_with (first
      | (refine wpList_store_row (by rfl) 31 (.tmp 4) (.tmp 30) (by rfl) (w.heap.size + 1 + 1) (supC sup0) (by rfl) (by rfl) 31 (supC sup0) (by exact N0.r3) (supN _) (supS _ _) (supO _) ?_))
    exact bodyPost_ret (v := .tuple #[.agg (supC sup0), .int .i64 4]) (results_c2 Tryd.results45 _ _ (w.heap.size + 1 + 1) 31 _ _ _ rfl R9 Tryd.underlying31 rfl (supN _)) rfl ⟨by rw [HF.out], B9⟩
  rcases Classical.em (a.pg = b.pg) with p4 | p4
  case inr =>
    have HF := hid (HB.out (fun h => p4 h.2.2.2))
    have p4' : (a.pg != b.pg) = true := by simpa using p4
    rw [← p3] at c4
    clear HB HGD ha hb p4 p3
    rw [p1] at ea
    rw [p2] at eb
    go_enter Tryd.func45, Tryd.ntmps45
    obtain ⟨R9, B9⟩ := N0.done sup0
    go_wp2_with (first
      | (refine wpList_store_row (by rfl) 31 (.tmp 4) (.tmp 30) (by rfl) (w.heap.size + 1 + 1) (supC sup0) (by rfl) (by rfl) 31 (supC sup0) (by exact N0.r3) (supN _) (supS _ _) (supO _) ?_))
    exact bodyPost_ret (v := .tuple #[.agg (supC sup0), .int .i64 4]) (results_c2 Tryd.results45 _ _ (w.heap.size + 1 + 1) 31 _ _ _ rfl R9 Tryd.underlying31 rfl (supN _)) rfl ⟨by rw [HF.out], B9⟩
  have HN := hid (HGD.out ⟨p1, p2, p3, p4⟩)
  rw [← p3] at c4
  rw [← p4] at c6
  clear HB HGD ha hb p3 p4
  rw [p1] at ea
  rw [p2] at eb
  have g1 : b.ge + 1 ≤ 9223372036854775807 := by omega
  have g2 : a.ge + 1 ≤ 9223372036854775807 := by omega
  rcases Classical.em (a.ge = b.ge + 1) with q1 | q1
  · have q1' : (a.ge == b.ge + 1) = true := by simpa using q1
    rcases Classical.em (b.ma ≤ a.ma) with q2 | q2
    · have HF := hid (show newerF a b = (a, 0) by rw [HN.out, if_pos ⟨q1, q2⟩])
      clear HN q1
      go_enter Tryd.func45, Tryd.ntmps45
      obtain ⟨R9, B9⟩ := N0.done a
      go_wp2_with (first
        | (refine wpList_load_row_w (by rfl) 31 (.tmp 2) (by rfl) w.heap.size (by rfl) 31 (supC a) (0, 0) _ (by exact N0.r1) Tryd.underlying31 rfl (supN a) ?_)
        | (refine wpList_store_row (by rfl) 31 (.tmp 4) (.tmp 44) (by rfl) (w.heap.size + 1 + 1) (supC a) (by rfl) (by rfl) 31 (supC sup0) (by exact N0.r3) (supN _) (supS _ _) (supO _) ?_))
      exact bodyPost_ret (v := .tuple #[.agg (supC a), .int .i64 0]) (results_c2 Tryd.results45 _ _ (w.heap.size + 1 + 1) 31 _ _ _ rfl R9 Tryd.underlying31 rfl (supN _)) rfl ⟨by rw [HF.out], B9⟩
    · have HF := hid (show newerF a b = (sup0, 4) by rw [HN.out, if_neg (fun h => q2 h.2), if_neg (by omega)])
      have q3 : (b.ge == a.ge + 1) = false := by simp; omega
      clear HN q1
      go_enter Tryd.func45, Tryd.ntmps45
      obtain ⟨R9, B9⟩ := N0.done sup0
      go_wp2_with (first
        | (refine wpList_store_row (by rfl) 31 (.tmp 4) (.tmp 59) (by rfl) (w.heap.size + 1 + 1) (supC sup0) (by rfl) (by rfl) 31 (supC sup0) (by exact N0.r3) (supN _) (supS _ _) (supO _) ?_))
      exact bodyPost_ret (v := .tuple #[.agg (supC sup0), .int .i64 4]) (results_c2 Tryd.results45 _ _ (w.heap.size + 1 + 1) 31 _ _ _ rfl R9 Tryd.underlying31 rfl (supN _)) rfl ⟨by rw [HF.out], B9⟩
  · have q1' : (a.ge == b.ge + 1) = false := by simpa using q1
    rcases Classical.em (b.ge = a.ge + 1) with q3 | q3
    · have q3' : (b.ge == a.ge + 1) = true := by simpa using q3
      rcases Classical.em (a.ma ≤ b.ma) with q2 | q2
      · have HF := hid (show newerF a b = (b, 0) by rw [HN.out, if_neg (fun h => q1 h.1), if_pos ⟨q3, q2⟩])
        clear HN q1 q3
        go_enter Tryd.func45, Tryd.ntmps45
        obtain ⟨R9, B9⟩ := N0.done b
        go_wp2_with (first
          | (refine wpList_load_row_w (by rfl) 31 (.tmp 3) (by rfl) (w.heap.size + 1) (by rfl) 31 (supC b) (0, 0) _ (by exact N0.r2) Tryd.underlying31 rfl (supN b) ?_)
          | (refine wpList_store_row (by rfl) 31 (.tmp 4) (.tmp 58) (by rfl) (w.heap.size + 1 + 1) (supC b) (by rfl) (by rfl) 31 (supC sup0) (by exact N0.r3) (supN _) (supS _ _) (supO _) ?_))
        exact bodyPost_ret (v := .tuple #[.agg (supC b), .int .i64 0]) (results_c2 Tryd.results45 _ _ (w.heap.size + 1 + 1) 31 _ _ _ rfl R9 Tryd.underlying31 rfl (supN _)) rfl ⟨by rw [HF.out], B9⟩
      · have HF := hid (show newerF a b = (sup0, 4) by rw [HN.out, if_neg (fun h => q1 h.1), if_neg (fun h => q2 h.2)])
        clear HN q1 q3
        go_enter Tryd.func45, Tryd.ntmps45
        obtain ⟨R9, B9⟩ := N0.done sup0
        go_wp2_with (first
          | (refine wpList_store_row (by rfl) 31 (.tmp 4) (.tmp 59) (by rfl) (w.heap.size + 1 + 1) (supC sup0) (by rfl) (by rfl) 31 (supC sup0) (by exact N0.r3) (supN _) (supS _ _) (supO _) ?_))
        exact bodyPost_ret (v := .tuple #[.agg (supC sup0), .int .i64 4]) (results_c2 Tryd.results45 _ _ (w.heap.size + 1 + 1) 31 _ _ _ rfl R9 Tryd.underlying31 rfl (supN _)) rfl ⟨by rw [HF.out], B9⟩
    · have q3' : (b.ge == a.ge + 1) = false := by simpa using q3
      have HF := hid (show newerF a b = (sup0, 4) by rw [HN.out, if_neg (fun h => q1 h.1), if_neg (fun h => q3 h.1)])
      clear HN q1 q3
      go_enter Tryd.func45, Tryd.ntmps45
      obtain ⟨R9, B9⟩ := N0.done sup0
      go_wp2_with (first
        | (refine wpList_store_row (by rfl) 31 (.tmp 4) (.tmp 59) (by rfl) (w.heap.size + 1 + 1) (supC sup0) (by rfl) (by rfl) 31 (supC sup0) (by exact N0.r3) (supN _) (supS _ _) (supO _) ?_))
      exact bodyPost_ret (v := .tuple #[.agg (supC sup0), .int .i64 4]) (results_c2 Tryd.results45 _ _ (w.heap.size + 1 + 1) 31 _ _ _ rfl R9 Tryd.underlying31 rfl (supN _)) rfl ⟨by rw [HF.out], B9⟩
set_option maxRecDepth 100000 in
theorem qEmpty_any (w : World) (r : List Int) (sp : Option Addr) (cap : Nat) (hS : Src w sp cap r) :
    Calls Tryd.prog 46 #[.slice sp r.length cap] w fun e w' => e = .returned (.bool (emptyF r)) ∧ Below w.heap.size w w' := by
  have hlm : (r.length : Int) ≤ 9223372036854775807 := by have := hS.1; have := hS.2.1; unfold maxLen at this; omega
  by_cases hl : r.length = 256
  · have hz := qzeros_any w r sp cap hS 0 64 (by omega) (by omega) 0 64 rfl rfl
    have HF := hid (show emptyF r = decide ((r.drop 0).take 64 = List.replicate 64 0) by unfold emptyF; rw [List.drop_zero]; simp [hl])
    rw [← HF.out, hl] at hz
    rw [hl]
    clear hS hl hlm HF
    generalize emptyF r = E at *
    go_enter Tryd.func46, Tryd.ntmps46
    go_wp2_with fail
    refine hz.mono ?_
    rintro e w2 ⟨rfl, b2⟩
    cases E
    · go_wp2
      go_ret
      exact ⟨rfl, b2⟩
    · go_wp2
      go_ret
      exact ⟨rfl, b2⟩
  · have HF := hid (show emptyF r = false by unfold emptyF; simp [hl])
    have hl2 : ((r.length : Int) == 256) = false := by simp; omega
    clear hS hl
    go_enter Tryd.func46, Tryd.ntmps46
    go_wp2
    go_ret
    exact ⟨by rw [HF.out]; rfl, Below.refl _ _⟩
end Go.Proofs.YtaoongjdneaccaaDoor
