import Derived.Test.YthdjgpdgedhonaaDk11
namespace Go.Proofs.Ythdjgpdgedhonaa
set_option linter.unusedVariables false
set_option linter.unusedSimpArgs false
open Go.RowKit
attribute [local go_sem ↓] Go.wp_at_zero Go.wp_at_succ

/-- The document's Request midway: the request, boxed. -/
structure RY (w wc : World) (q : Rq) (k h b : Value) : Prop where
  rr : wc.heap[w.heap.size]? = some (.cells (rqC q.op q.ver q.oth q.lim k h b).toArray 24 (0, 0))
  bel : Below w.heap.size w wc
  sz : w.heap.size + 1 ≤ wc.heap.size
theorem RY.call {w wc w1 : World} {q : Rq} {k h b : Value} (l : RY w wc q k h b) (hb : Below (w.heap.size + 1) wc w1) : RY w w1 q k h b :=
  ⟨hbel hb l.rr (by omega), l.bel.trans (hb.mono (by omega)), Nat.le_trans l.sz hb.size⟩
theorem RY.rc {w wc : World} {q : Rq} {k h b : Value} (l : RY w wc q k h b) :
    wc.cell? ⟨w.heap.size, 0, none⟩ = some (.int .i64 q.op) ∧ wc.cell? ⟨w.heap.size, 1, none⟩ = some (.int .i64 q.ver) ∧ wc.cell? ⟨w.heap.size, 2, none⟩ = some (.int .i64 q.oth) ∧ wc.cell? ⟨w.heap.size, 3, none⟩ = some (.int .i64 q.lim) ∧ wc.cell? ⟨w.heap.size, 4, none⟩ = some k ∧ wc.cell? ⟨w.heap.size, 5, none⟩ = some h ∧ wc.cell? ⟨w.heap.size, 6, none⟩ = some b := by
  refine ⟨?_, ?_, ?_, ?_, ?_, ?_, ?_⟩ <;> (rw [cell_of_row _ _ _ _ _ _ l.rr]; rfl)
theorem own_one (w : World) (x : Int) : Own (w.alloc (.cells #[.int .u8 x] 5)) w.heap.size (.slice (some ⟨w.heap.size, 0, none⟩) 1 1) [x] :=
  ⟨rfl, Or.inr ⟨w.heap.size, 1, #[.int .u8 x], rfl, Nat.le_refl _, hnew w _, Nat.le_refl _, by simp [maxLen], rfl, rfl⟩⟩

set_option maxRecDepth 100000 in
set_option maxHeartbeats 4000000 in
theorem refReq_k (w : World) (q : Rq) (hB : RqB q) (ks hs bs : Option Addr) (kc hc bc : Nat) (hI : RqIn w q ks hs bs kc hc bc) (hk : knO q.op = false) :
    Calls Try.prog 13 #[.agg (rqV q ks hs bs kc hc bc).toArray] w fun e w' => ∃ v, e = .returned (.tuple #[v, .int .i64 200]) ∧ Own w' w.heap.size v [] ∧ Below w.heap.size w w' := by
  have hm1 := hI.sk.2.1
  have hm2 := hI.sh.2.1
  have hm3 := hI.sb.2.1
  have hc1 := hI.sk.1
  have hc2 := hI.sh.1
  have hc3 := hI.sb.1
  unfold maxLen at hm1 hm2 hm3
  have L1 : RY w (w.alloc (.cells (rqV q ks hs bs kc hc bc).toArray 24)) q (.slice ks q.key.length kc) (.slice hs q.high.length hc) (.slice bs q.batch.length bc) := ⟨hnew w _, (Below.refl w.heap.size w).alloc (Nat.le_refl _) _, by simp⟩
  have HB := hid L1.bel
  have KP := hid (parts_any (w.alloc (.cells (rqV q ks hs bs kc hc bc).toArray 24)) q.op hB.op.1 hB.op.2)
  rw [(prt_shape q.op).2 hk] at KP
  have hop : ∀ k : Int, 1 ≤ k → k ≤ 9 → (q.op == k) = false := fun k a b => beq_eq_false_iff_ne.2 (by unfold knO at hk; rw [decide_eq_false_iff_not] at hk; omega)
  have o2 := hop 2 (by omega) (by omega)
  have o4 := hop 4 (by omega) (by omega)
  have o5 := hop 5 (by omega) (by omega)
  have o6 := hop 6 (by omega) (by omega)
  clear hop hk
  have K1 := hid hI
  have hB1 := hid hB
  clear hI hB
  have j1 : (q.key.length : Int) ≤ 9223372036854775807 := by omega
  have j2 : (q.high.length : Int) ≤ 9223372036854775807 := by omega
  have j3 : (q.batch.length : Int) ≤ 9223372036854775807 := by omega
  clear hm1 hm2 hm3 hc1 hc2 hc3
  obtain ⟨ra1, rb1, rc1, rd1, re1, rf1, rg1⟩ := L1.rc
  go_enter Try.func13, Try.ntmps13
  go_wp2_with (first | (go_at_call 24; refine KP.out.mono ?_; rintro e w' ⟨rfl, rfl⟩))
  refine bodyPost_ret (results_tmp2 Try.results13 _ _ _) rfl ?_
  exact ⟨_, rfl, Own.nil _ _, HB.out⟩

set_option maxRecDepth 100000 in
set_option maxHeartbeats 4000000 in
theorem refReq_1batch (w : World) (q : Rq) (hB : RqB q) (ks hs bs : Option Addr) (kc hc bc : Nat) (hI : RqIn w q ks hs bs kc hc bc) (hop : q.op = 1) (h5 : 11999 < q.batch.length) :
    Calls Try.prog 13 #[.agg (rqV q ks hs bs kc hc bc).toArray] w fun e w' => ∃ v, e = .returned (.tuple #[v, .int .i64 200]) ∧ Own w' w.heap.size v [] ∧ Below w.heap.size w w' := by
  have hm1 := hI.sk.2.1
  have hm2 := hI.sh.2.1
  have hm3 := hI.sb.2.1
  have hc1 := hI.sk.1
  have hc2 := hI.sh.1
  have hc3 := hI.sb.1
  unfold maxLen at hm1 hm2 hm3
  have L1 : RY w (w.alloc (.cells (rqV q ks hs bs kc hc bc).toArray 24)) q (.slice ks q.key.length kc) (.slice hs q.high.length hc) (.slice bs q.batch.length bc) := ⟨hnew w _, (Below.refl w.heap.size w).alloc (Nat.le_refl _) _, by simp⟩
  have HB := hid L1.bel
  have KP := hid (parts_any (w.alloc (.cells (rqV q ks hs bs kc hc bc).toArray 24)) q.op hB.op.1 hB.op.2)
  rw [hop, show prt 1 = -1 from by decide] at KP
  have K1 := hid hI
  have hB1 := hid hB
  clear hI hB
  have j1 : (q.key.length : Int) ≤ 9223372036854775807 := by omega
  have j2 : (q.high.length : Int) ≤ 9223372036854775807 := by omega
  have j3 : (q.batch.length : Int) ≤ 9223372036854775807 := by omega
  clear hm1 hm2 hm3 hc1 hc2 hc3
  obtain ⟨ra1, rb1, rc1, rd1, re1, rf1, rg1⟩ := L1.rc
  rw [hop] at ra1
  clear hop
  have i6 : (11999 : Int) < (q.batch.length : Int) := by omega
  generalize q.key.length = n1 at *
  generalize q.high.length = n2 at *
  generalize q.batch.length = n3 at *
  generalize q.lim = lim at *
  go_enter Try.func13, Try.ntmps13
  go_wp2_with (first | (go_at_call 24; refine KP.out.mono ?_; rintro e w' ⟨rfl, rfl⟩))
  refine bodyPost_ret (results_tmp2 Try.results13 _ _ _) rfl ?_
  exact ⟨_, rfl, Own.nil _ _, HB.out⟩

set_option maxRecDepth 100000 in
set_option maxHeartbeats 4000000 in
theorem refReq_1y (w : World) (q : Rq) (hB : RqB q) (ks hs bs : Option Addr) (kc hc bc : Nat) (hI : RqIn w q ks hs bs kc hc bc) (hop : q.op = 1) (h5 : q.batch.length ≤ 11999) :
    Calls Try.prog 13 #[.agg (rqV q ks hs bs kc hc bc).toArray] w fun e w' => ∃ v, e = .returned (.tuple #[v, .int .i64 0]) ∧ Own w' w.heap.size v ([1] ++ q.batch) ∧ Below w.heap.size w w' := by
  have hm1 := hI.sk.2.1
  have hm2 := hI.sh.2.1
  have hm3 := hI.sb.2.1
  have hc1 := hI.sk.1
  have hc2 := hI.sh.1
  have hc3 := hI.sb.1
  unfold maxLen at hm1 hm2 hm3
  have L1 : RY w (w.alloc (.cells (rqV q ks hs bs kc hc bc).toArray 24)) q (.slice ks q.key.length kc) (.slice hs q.high.length hc) (.slice bs q.batch.length bc) := ⟨hnew w _, (Below.refl w.heap.size w).alloc (Nat.le_refl _) _, by simp⟩
  have HB := hid L1.bel
  have KP := hid (parts_any (w.alloc (.cells (rqV q ks hs bs kc hc bc).toArray 24)) q.op hB.op.1 hB.op.2)
  rw [hop, show prt 1 = -1 from by decide] at KP
  have K1 := hid hI
  have hB1 := hid hB
  clear hI hB
  have j1 : (q.key.length : Int) ≤ 9223372036854775807 := by omega
  have j2 : (q.high.length : Int) ≤ 9223372036854775807 := by omega
  have j3 : (q.batch.length : Int) ≤ 9223372036854775807 := by omega
  clear hm1 hm2 hm3 hc1 hc2 hc3
  obtain ⟨ra1, rb1, rc1, rd1, re1, rf1, rg1⟩ := L1.rc
  rw [hop] at ra1
  have i6 : ¬ (11999 : Int) < (q.batch.length : Int) := by omega
  have hs1 : (w.alloc (.cells (rqV q ks hs bs kc hc bc).toArray 24)).heap.size = w.heap.size + 1 := by simp
  have O2 := own_one (w.alloc (.cells (rqV q ks hs bs kc hc bc).toArray 24)) 1
  have L2 := L1.call ((Below.refl (w.heap.size + 1) (w.alloc (.cells (rqV q ks hs bs kc hc bc).toArray 24))).alloc (by simp) (.cells #[.int .u8 1] 5))
  rw [hs1] at O2
  clear hs1
  obtain ⟨ra2, rb2, rc2, rd2, re2, rf2, rg2⟩ := L2.rc
  rw [hop] at ra2
  generalize hz2 : [(1 : Int)] = z2 at O2
  have HN2 := hid (show z2.length = 1 by rw [← hz2]; rfl)
  replace hz2 := hid hz2
  replace hop := hid hop
  go_enter Try.func13, Try.ntmps13
  go_wp2_with (first | (go_at_call 24; refine KP.out.mono ?_; rintro e w' ⟨rfl, rfl⟩; refine Hid.out ?_))
  refine hid ?_
  have KL2 := hid (show z2.length + q.batch.length ≤ 140737488351232 by rw [HN2.out]; omega)
  have HS2 := hid ((K1.out.sb.below L2.bel (Nat.le_refl _)))
  go_wp2_with (first | (at_builtin; refine wpList_append_wide rfl (.tmp 87) (.tmp 89) rfl (w.heap.size + 1) (.slice (some ⟨w.heap.size + 1, 0, none⟩) 1 1) z2 q.batch rfl O2 bs bc rfl K1.out.nb HS2.out KL2.out L2.sz ?_; intro v3 w3 O3 hg3 hd3; refine Hid.out ?_))
  refine hid ?_
  have L3 := L2.call (grown_keeps hg3 (fun k hk => (O2.block k hk).1) L2.sz)
  generalize hz3 : z2 ++ q.batch = z3 at O3
  have HN3 := hid (show z3.length = 1 + q.batch.length by rw [← hz3, List.length_append, HN2.out])
  replace hz3 := hid hz3
  obtain ⟨ra3, rb3, rc3, rd3, re3, rf3, rg3⟩ := L3.rc
  rw [hop.out] at ra3
  go_wp2
  refine bodyPost_ret (results_tmp2 Try.results13 _ _ _) rfl ?_
  have OF := O3
  rw [← hz3.out] at OF
  exact ⟨_, rfl, own_lower (b1 := w.heap.size + 1) OF (Nat.le_succ _), L3.bel⟩

set_option maxRecDepth 100000 in
set_option maxHeartbeats 4000000 in
theorem refReq_2key (w : World) (q : Rq) (hB : RqB q) (ks hs bs : Option Addr) (kc hc bc : Nat) (hI : RqIn w q ks hs bs kc hc bc) (hop : q.op = 2) (h1 : q.key.length ≠ 32) :
    Calls Try.prog 13 #[.agg (rqV q ks hs bs kc hc bc).toArray] w fun e w' => ∃ v, e = .returned (.tuple #[v, .int .i64 200]) ∧ Own w' w.heap.size v [] ∧ Below w.heap.size w w' := by
  have hm1 := hI.sk.2.1
  have hm2 := hI.sh.2.1
  have hm3 := hI.sb.2.1
  have hc1 := hI.sk.1
  have hc2 := hI.sh.1
  have hc3 := hI.sb.1
  unfold maxLen at hm1 hm2 hm3
  have L1 : RY w (w.alloc (.cells (rqV q ks hs bs kc hc bc).toArray 24)) q (.slice ks q.key.length kc) (.slice hs q.high.length hc) (.slice bs q.batch.length bc) := ⟨hnew w _, (Below.refl w.heap.size w).alloc (Nat.le_refl _) _, by simp⟩
  have HB := hid L1.bel
  have KP := hid (parts_any (w.alloc (.cells (rqV q ks hs bs kc hc bc).toArray 24)) q.op hB.op.1 hB.op.2)
  rw [hop, show prt 2 = 40 from by decide] at KP
  have K1 := hid hI
  have hB1 := hid hB
  clear hI hB
  have j1 : (q.key.length : Int) ≤ 9223372036854775807 := by omega
  have j2 : (q.high.length : Int) ≤ 9223372036854775807 := by omega
  have j3 : (q.batch.length : Int) ≤ 9223372036854775807 := by omega
  clear hm1 hm2 hm3 hc1 hc2 hc3
  obtain ⟨ra1, rb1, rc1, rd1, re1, rf1, rg1⟩ := L1.rc
  rw [hop] at ra1
  clear hop
  have ekey : ((q.key.length : Int) == 32) = false := beq_eq_false_iff_ne.2 (by omega)
  clear h1
  generalize q.key.length = n1 at *
  generalize q.high.length = n2 at *
  generalize q.batch.length = n3 at *
  generalize q.lim = lim at *
  go_enter Try.func13, Try.ntmps13
  go_wp2_with (first | (go_at_call 24; refine KP.out.mono ?_; rintro e w' ⟨rfl, rfl⟩))
  refine bodyPost_ret (results_tmp2 Try.results13 _ _ _) rfl ?_
  exact ⟨_, rfl, Own.nil _ _, HB.out⟩

set_option maxRecDepth 100000 in
set_option maxHeartbeats 4000000 in
theorem refReq_2y (w : World) (q : Rq) (hB : RqB q) (ks hs bs : Option Addr) (kc hc bc : Nat) (hI : RqIn w q ks hs bs kc hc bc) (hop : q.op = 2) (h1 : q.key.length = 32) :
    Calls Try.prog 13 #[.agg (rqV q ks hs bs kc hc bc).toArray] w fun e w' => ∃ v, e = .returned (.tuple #[v, .int .i64 0]) ∧ Own w' w.heap.size v ([2] ++ q.key ++ lowN q.ver 8) ∧ Below w.heap.size w w' := by
  have hm1 := hI.sk.2.1
  have hm2 := hI.sh.2.1
  have hm3 := hI.sb.2.1
  have hc1 := hI.sk.1
  have hc2 := hI.sh.1
  have hc3 := hI.sb.1
  unfold maxLen at hm1 hm2 hm3
  have L1 : RY w (w.alloc (.cells (rqV q ks hs bs kc hc bc).toArray 24)) q (.slice ks q.key.length kc) (.slice hs q.high.length hc) (.slice bs q.batch.length bc) := ⟨hnew w _, (Below.refl w.heap.size w).alloc (Nat.le_refl _) _, by simp⟩
  have HB := hid L1.bel
  have KP := hid (parts_any (w.alloc (.cells (rqV q ks hs bs kc hc bc).toArray 24)) q.op hB.op.1 hB.op.2)
  rw [hop, show prt 2 = 40 from by decide] at KP
  have K1 := hid hI
  have hB1 := hid hB
  clear hI hB
  have j1 : (q.key.length : Int) ≤ 9223372036854775807 := by omega
  have j2 : (q.high.length : Int) ≤ 9223372036854775807 := by omega
  have j3 : (q.batch.length : Int) ≤ 9223372036854775807 := by omega
  clear hm1 hm2 hm3 hc1 hc2 hc3
  obtain ⟨ra1, rb1, rc1, rd1, re1, rf1, rg1⟩ := L1.rc
  rw [hop] at ra1
  have ekey : ((q.key.length : Int) == 32) = true := by rw [h1]; rfl
  replace h1 := hid h1
  have hs1 : (w.alloc (.cells (rqV q ks hs bs kc hc bc).toArray 24)).heap.size = w.heap.size + 1 := by simp
  have O2 := own_one (w.alloc (.cells (rqV q ks hs bs kc hc bc).toArray 24)) 2
  have L2 := L1.call ((Below.refl (w.heap.size + 1) (w.alloc (.cells (rqV q ks hs bs kc hc bc).toArray 24))).alloc (by simp) (.cells #[.int .u8 2] 5))
  rw [hs1] at O2
  clear hs1
  obtain ⟨ra2, rb2, rc2, rd2, re2, rf2, rg2⟩ := L2.rc
  rw [hop] at ra2
  generalize hz2 : [(2 : Int)] = z2 at O2
  have HN2 := hid (show z2.length = 1 by rw [← hz2]; rfl)
  replace hz2 := hid hz2
  replace hop := hid hop
  go_enter Try.func13, Try.ntmps13
  go_wp2_with (first | (go_at_call 24; refine KP.out.mono ?_; rintro e w' ⟨rfl, rfl⟩; refine Hid.out ?_))
  refine hid ?_
  have KL2 := hid (show z2.length + q.key.length ≤ 140737488351232 by rw [HN2.out]; have := h1.out; omega)
  have HS2 := hid ((K1.out.sk.below L2.bel (Nat.le_refl _)))
  go_wp2_with (first | (at_builtin; refine wpList_append_wide rfl (.tmp 93) (.tmp 95) rfl (w.heap.size + 1) (.slice (some ⟨w.heap.size + 1, 0, none⟩) 1 1) z2 q.key rfl O2 ks kc rfl K1.out.nk HS2.out KL2.out L2.sz ?_; intro v3 w3 O3 hg3 hd3; refine Hid.out ?_))
  refine hid ?_
  have L3 := L2.call (grown_keeps hg3 (fun k hk => (O2.block k hk).1) L2.sz)
  generalize hz3 : z2 ++ q.key = z3 at O3
  have HN3 := hid (show z3.length = 1 + q.key.length by rw [← hz3, List.length_append, HN2.out])
  replace hz3 := hid hz3
  obtain ⟨ra3, rb3, rc3, rd3, re3, rf3, rg3⟩ := L3.rc
  rw [hop.out] at ra3
  have KW3 := hid (Low_any w3 q.ver 8 (by omega) hB1.out.ver.1 hB1.out.ver.2)
  go_wp2_with fail
  refine KW3.out.mono ?_
  clear KW3
  rintro e x4 ⟨u4, rfl, P4, hb4⟩
  have M4 := L3.call (hb4.mono L3.sz)
  have O3' := O3.below hb4 (Nat.le_refl _)
  obtain ⟨s4, c4, rfl, SS4, n4⟩ := P4.form
  have LL4 := lowN_len 8 q.ver
  have KL4 := hid (show z3.length + (lowN q.ver 8).length ≤ 140737488351232 by rw [HN3.out, LL4]; have := h1.out; omega)
  go_wp2_with (first | (at_builtin; refine wpList_append_wide rfl (.tmp 104) (.tmp 107) rfl (w.heap.size + 1) v3 z3 (lowN q.ver 8) rfl O3' s4 c4 rfl n4 SS4 KL4.out M4.sz ?_; intro v4 w4 O4 hg4 hd4; refine Hid.out ?_))
  refine hid ?_
  have L4 := M4.call (grown_keeps hg4 (fun k hk => (O3'.block k hk).1) M4.sz)
  generalize hz4 : z3 ++ lowN q.ver 8 = z4 at O4
  have HN4 := hid (show z4.length = (1 + q.key.length) + 8 by rw [← hz4, List.length_append, lowN_len, HN3.out])
  replace hz4 := hid hz4
  clear LL4
  obtain ⟨ra4, rb4, rc4, rd4, re4, rf4, rg4⟩ := L4.rc
  rw [hop.out] at ra4
  go_wp2
  refine bodyPost_ret (results_tmp2 Try.results13 _ _ _) rfl ?_
  have OF := O4
  rw [← hz4.out, ← hz3.out] at OF
  exact ⟨_, rfl, own_lower (b1 := w.heap.size + 1) OF (Nat.le_succ _), L4.bel⟩

set_option maxRecDepth 100000 in
set_option maxHeartbeats 4000000 in
theorem refReq_3y (w : World) (q : Rq) (hB : RqB q) (ks hs bs : Option Addr) (kc hc bc : Nat) (hI : RqIn w q ks hs bs kc hc bc) (hop : q.op = 3) :
    Calls Try.prog 13 #[.agg (rqV q ks hs bs kc hc bc).toArray] w fun e w' => ∃ v, e = .returned (.tuple #[v, .int .i64 0]) ∧ Own w' w.heap.size v ([3] ++ lowN q.ver 8) ∧ Below w.heap.size w w' := by
  have hm1 := hI.sk.2.1
  have hm2 := hI.sh.2.1
  have hm3 := hI.sb.2.1
  have hc1 := hI.sk.1
  have hc2 := hI.sh.1
  have hc3 := hI.sb.1
  unfold maxLen at hm1 hm2 hm3
  have L1 : RY w (w.alloc (.cells (rqV q ks hs bs kc hc bc).toArray 24)) q (.slice ks q.key.length kc) (.slice hs q.high.length hc) (.slice bs q.batch.length bc) := ⟨hnew w _, (Below.refl w.heap.size w).alloc (Nat.le_refl _) _, by simp⟩
  have HB := hid L1.bel
  have KP := hid (parts_any (w.alloc (.cells (rqV q ks hs bs kc hc bc).toArray 24)) q.op hB.op.1 hB.op.2)
  rw [hop, show prt 3 = 8 from by decide] at KP
  have K1 := hid hI
  have hB1 := hid hB
  clear hI hB
  have j1 : (q.key.length : Int) ≤ 9223372036854775807 := by omega
  have j2 : (q.high.length : Int) ≤ 9223372036854775807 := by omega
  have j3 : (q.batch.length : Int) ≤ 9223372036854775807 := by omega
  clear hm1 hm2 hm3 hc1 hc2 hc3
  obtain ⟨ra1, rb1, rc1, rd1, re1, rf1, rg1⟩ := L1.rc
  rw [hop] at ra1
  have hs1 : (w.alloc (.cells (rqV q ks hs bs kc hc bc).toArray 24)).heap.size = w.heap.size + 1 := by simp
  have O2 := own_one (w.alloc (.cells (rqV q ks hs bs kc hc bc).toArray 24)) 3
  have L2 := L1.call ((Below.refl (w.heap.size + 1) (w.alloc (.cells (rqV q ks hs bs kc hc bc).toArray 24))).alloc (by simp) (.cells #[.int .u8 3] 5))
  rw [hs1] at O2
  clear hs1
  obtain ⟨ra2, rb2, rc2, rd2, re2, rf2, rg2⟩ := L2.rc
  rw [hop] at ra2
  generalize hz2 : [(3 : Int)] = z2 at O2
  have HN2 := hid (show z2.length = 1 by rw [← hz2]; rfl)
  replace hz2 := hid hz2
  replace hop := hid hop
  go_enter Try.func13, Try.ntmps13
  go_wp2_with (first | (go_at_call 24; refine KP.out.mono ?_; rintro e w' ⟨rfl, rfl⟩; refine Hid.out ?_))
  refine hid ?_
  have KW2 := hid (Low_any ((w.alloc (.cells (rqV q ks hs bs kc hc bc).toArray 24)).alloc (.cells #[.int .u8 3] 5)) q.ver 8 (by omega) hB1.out.ver.1 hB1.out.ver.2)
  go_wp2_with fail
  refine KW2.out.mono ?_
  clear KW2
  rintro e x3 ⟨u3, rfl, P3, hb3⟩
  have M3 := L2.call (hb3.mono L2.sz)
  have O2' := O2.below hb3 (Nat.le_refl _)
  obtain ⟨s3, c3, rfl, SS3, n3⟩ := P3.form
  have LL3 := lowN_len 8 q.ver
  have KL3 := hid (show z2.length + (lowN q.ver 8).length ≤ 140737488351232 by rw [HN2.out, LL3]; omega)
  go_wp2_with (first | (at_builtin; refine wpList_append_wide rfl (.tmp 104) (.tmp 107) rfl (w.heap.size + 1) (.slice (some ⟨w.heap.size + 1, 0, none⟩) 1 1) z2 (lowN q.ver 8) rfl O2' s3 c3 rfl n3 SS3 KL3.out M3.sz ?_; intro v3 w3 O3 hg3 hd3; refine Hid.out ?_))
  refine hid ?_
  have L3 := M3.call (grown_keeps hg3 (fun k hk => (O2'.block k hk).1) M3.sz)
  generalize hz3 : z2 ++ lowN q.ver 8 = z3 at O3
  have HN3 := hid (show z3.length = 1 + 8 by rw [← hz3, List.length_append, lowN_len, HN2.out])
  replace hz3 := hid hz3
  clear LL3
  obtain ⟨ra3, rb3, rc3, rd3, re3, rf3, rg3⟩ := L3.rc
  rw [hop.out] at ra3
  go_wp2
  refine bodyPost_ret (results_tmp2 Try.results13 _ _ _) rfl ?_
  have OF := O3
  rw [← hz3.out] at OF
  exact ⟨_, rfl, own_lower (b1 := w.heap.size + 1) OF (Nat.le_succ _), L3.bel⟩

set_option maxRecDepth 100000 in
set_option maxHeartbeats 4000000 in
theorem refReq_4key (w : World) (q : Rq) (hB : RqB q) (ks hs bs : Option Addr) (kc hc bc : Nat) (hI : RqIn w q ks hs bs kc hc bc) (hop : q.op = 4) (h1 : q.key.length ≠ 32) :
    Calls Try.prog 13 #[.agg (rqV q ks hs bs kc hc bc).toArray] w fun e w' => ∃ v, e = .returned (.tuple #[v, .int .i64 200]) ∧ Own w' w.heap.size v [] ∧ Below w.heap.size w w' := by
  have hm1 := hI.sk.2.1
  have hm2 := hI.sh.2.1
  have hm3 := hI.sb.2.1
  have hc1 := hI.sk.1
  have hc2 := hI.sh.1
  have hc3 := hI.sb.1
  unfold maxLen at hm1 hm2 hm3
  have L1 : RY w (w.alloc (.cells (rqV q ks hs bs kc hc bc).toArray 24)) q (.slice ks q.key.length kc) (.slice hs q.high.length hc) (.slice bs q.batch.length bc) := ⟨hnew w _, (Below.refl w.heap.size w).alloc (Nat.le_refl _) _, by simp⟩
  have HB := hid L1.bel
  have KP := hid (parts_any (w.alloc (.cells (rqV q ks hs bs kc hc bc).toArray 24)) q.op hB.op.1 hB.op.2)
  rw [hop, show prt 4 = 40 from by decide] at KP
  have K1 := hid hI
  have hB1 := hid hB
  clear hI hB
  have j1 : (q.key.length : Int) ≤ 9223372036854775807 := by omega
  have j2 : (q.high.length : Int) ≤ 9223372036854775807 := by omega
  have j3 : (q.batch.length : Int) ≤ 9223372036854775807 := by omega
  clear hm1 hm2 hm3 hc1 hc2 hc3
  obtain ⟨ra1, rb1, rc1, rd1, re1, rf1, rg1⟩ := L1.rc
  rw [hop] at ra1
  clear hop
  have ekey : ((q.key.length : Int) == 32) = false := beq_eq_false_iff_ne.2 (by omega)
  clear h1
  generalize q.key.length = n1 at *
  generalize q.high.length = n2 at *
  generalize q.batch.length = n3 at *
  generalize q.lim = lim at *
  go_enter Try.func13, Try.ntmps13
  go_wp2_with (first | (go_at_call 24; refine KP.out.mono ?_; rintro e w' ⟨rfl, rfl⟩))
  refine bodyPost_ret (results_tmp2 Try.results13 _ _ _) rfl ?_
  exact ⟨_, rfl, Own.nil _ _, HB.out⟩

set_option maxRecDepth 100000 in
set_option maxHeartbeats 4000000 in
theorem refReq_4y (w : World) (q : Rq) (hB : RqB q) (ks hs bs : Option Addr) (kc hc bc : Nat) (hI : RqIn w q ks hs bs kc hc bc) (hop : q.op = 4) (h1 : q.key.length = 32) :
    Calls Try.prog 13 #[.agg (rqV q ks hs bs kc hc bc).toArray] w fun e w' => ∃ v, e = .returned (.tuple #[v, .int .i64 0]) ∧ Own w' w.heap.size v ([4] ++ q.key ++ lowN q.ver 8) ∧ Below w.heap.size w w' := by
  have hm1 := hI.sk.2.1
  have hm2 := hI.sh.2.1
  have hm3 := hI.sb.2.1
  have hc1 := hI.sk.1
  have hc2 := hI.sh.1
  have hc3 := hI.sb.1
  unfold maxLen at hm1 hm2 hm3
  have L1 : RY w (w.alloc (.cells (rqV q ks hs bs kc hc bc).toArray 24)) q (.slice ks q.key.length kc) (.slice hs q.high.length hc) (.slice bs q.batch.length bc) := ⟨hnew w _, (Below.refl w.heap.size w).alloc (Nat.le_refl _) _, by simp⟩
  have HB := hid L1.bel
  have KP := hid (parts_any (w.alloc (.cells (rqV q ks hs bs kc hc bc).toArray 24)) q.op hB.op.1 hB.op.2)
  rw [hop, show prt 4 = 40 from by decide] at KP
  have K1 := hid hI
  have hB1 := hid hB
  clear hI hB
  have j1 : (q.key.length : Int) ≤ 9223372036854775807 := by omega
  have j2 : (q.high.length : Int) ≤ 9223372036854775807 := by omega
  have j3 : (q.batch.length : Int) ≤ 9223372036854775807 := by omega
  clear hm1 hm2 hm3 hc1 hc2 hc3
  obtain ⟨ra1, rb1, rc1, rd1, re1, rf1, rg1⟩ := L1.rc
  rw [hop] at ra1
  have ekey : ((q.key.length : Int) == 32) = true := by rw [h1]; rfl
  replace h1 := hid h1
  have hs1 : (w.alloc (.cells (rqV q ks hs bs kc hc bc).toArray 24)).heap.size = w.heap.size + 1 := by simp
  have O2 := own_one (w.alloc (.cells (rqV q ks hs bs kc hc bc).toArray 24)) 4
  have L2 := L1.call ((Below.refl (w.heap.size + 1) (w.alloc (.cells (rqV q ks hs bs kc hc bc).toArray 24))).alloc (by simp) (.cells #[.int .u8 4] 5))
  rw [hs1] at O2
  clear hs1
  obtain ⟨ra2, rb2, rc2, rd2, re2, rf2, rg2⟩ := L2.rc
  rw [hop] at ra2
  generalize hz2 : [(4 : Int)] = z2 at O2
  have HN2 := hid (show z2.length = 1 by rw [← hz2]; rfl)
  replace hz2 := hid hz2
  replace hop := hid hop
  go_enter Try.func13, Try.ntmps13
  go_wp2_with (first | (go_at_call 24; refine KP.out.mono ?_; rintro e w' ⟨rfl, rfl⟩; refine Hid.out ?_))
  refine hid ?_
  have KL2 := hid (show z2.length + q.key.length ≤ 140737488351232 by rw [HN2.out]; have := h1.out; omega)
  have HS2 := hid ((K1.out.sk.below L2.bel (Nat.le_refl _)))
  go_wp2_with (first | (at_builtin; refine wpList_append_wide rfl (.tmp 93) (.tmp 95) rfl (w.heap.size + 1) (.slice (some ⟨w.heap.size + 1, 0, none⟩) 1 1) z2 q.key rfl O2 ks kc rfl K1.out.nk HS2.out KL2.out L2.sz ?_; intro v3 w3 O3 hg3 hd3; refine Hid.out ?_))
  refine hid ?_
  have L3 := L2.call (grown_keeps hg3 (fun k hk => (O2.block k hk).1) L2.sz)
  generalize hz3 : z2 ++ q.key = z3 at O3
  have HN3 := hid (show z3.length = 1 + q.key.length by rw [← hz3, List.length_append, HN2.out])
  replace hz3 := hid hz3
  obtain ⟨ra3, rb3, rc3, rd3, re3, rf3, rg3⟩ := L3.rc
  rw [hop.out] at ra3
  have KW3 := hid (Low_any w3 q.ver 8 (by omega) hB1.out.ver.1 hB1.out.ver.2)
  go_wp2_with fail
  refine KW3.out.mono ?_
  clear KW3
  rintro e x4 ⟨u4, rfl, P4, hb4⟩
  have M4 := L3.call (hb4.mono L3.sz)
  have O3' := O3.below hb4 (Nat.le_refl _)
  obtain ⟨s4, c4, rfl, SS4, n4⟩ := P4.form
  have LL4 := lowN_len 8 q.ver
  have KL4 := hid (show z3.length + (lowN q.ver 8).length ≤ 140737488351232 by rw [HN3.out, LL4]; have := h1.out; omega)
  go_wp2_with (first | (at_builtin; refine wpList_append_wide rfl (.tmp 104) (.tmp 107) rfl (w.heap.size + 1) v3 z3 (lowN q.ver 8) rfl O3' s4 c4 rfl n4 SS4 KL4.out M4.sz ?_; intro v4 w4 O4 hg4 hd4; refine Hid.out ?_))
  refine hid ?_
  have L4 := M4.call (grown_keeps hg4 (fun k hk => (O3'.block k hk).1) M4.sz)
  generalize hz4 : z3 ++ lowN q.ver 8 = z4 at O4
  have HN4 := hid (show z4.length = (1 + q.key.length) + 8 by rw [← hz4, List.length_append, lowN_len, HN3.out])
  replace hz4 := hid hz4
  clear LL4
  obtain ⟨ra4, rb4, rc4, rd4, re4, rf4, rg4⟩ := L4.rc
  rw [hop.out] at ra4
  go_wp2
  refine bodyPost_ret (results_tmp2 Try.results13 _ _ _) rfl ?_
  have OF := O4
  rw [← hz4.out, ← hz3.out] at OF
  exact ⟨_, rfl, own_lower (b1 := w.heap.size + 1) OF (Nat.le_succ _), L4.bel⟩

set_option maxRecDepth 100000 in
set_option maxHeartbeats 4000000 in
theorem refReq_5key (w : World) (q : Rq) (hB : RqB q) (ks hs bs : Option Addr) (kc hc bc : Nat) (hI : RqIn w q ks hs bs kc hc bc) (hop : q.op = 5) (h1 : q.key.length ≠ 32) :
    Calls Try.prog 13 #[.agg (rqV q ks hs bs kc hc bc).toArray] w fun e w' => ∃ v, e = .returned (.tuple #[v, .int .i64 200]) ∧ Own w' w.heap.size v [] ∧ Below w.heap.size w w' := by
  have hm1 := hI.sk.2.1
  have hm2 := hI.sh.2.1
  have hm3 := hI.sb.2.1
  have hc1 := hI.sk.1
  have hc2 := hI.sh.1
  have hc3 := hI.sb.1
  unfold maxLen at hm1 hm2 hm3
  have L1 : RY w (w.alloc (.cells (rqV q ks hs bs kc hc bc).toArray 24)) q (.slice ks q.key.length kc) (.slice hs q.high.length hc) (.slice bs q.batch.length bc) := ⟨hnew w _, (Below.refl w.heap.size w).alloc (Nat.le_refl _) _, by simp⟩
  have HB := hid L1.bel
  have KP := hid (parts_any (w.alloc (.cells (rqV q ks hs bs kc hc bc).toArray 24)) q.op hB.op.1 hB.op.2)
  rw [hop, show prt 5 = 72 from by decide] at KP
  have K1 := hid hI
  have hB1 := hid hB
  clear hI hB
  have j1 : (q.key.length : Int) ≤ 9223372036854775807 := by omega
  have j2 : (q.high.length : Int) ≤ 9223372036854775807 := by omega
  have j3 : (q.batch.length : Int) ≤ 9223372036854775807 := by omega
  clear hm1 hm2 hm3 hc1 hc2 hc3
  obtain ⟨ra1, rb1, rc1, rd1, re1, rf1, rg1⟩ := L1.rc
  rw [hop] at ra1
  clear hop
  have ekey : ((q.key.length : Int) == 32) = false := beq_eq_false_iff_ne.2 (by omega)
  clear h1
  generalize q.key.length = n1 at *
  generalize q.high.length = n2 at *
  generalize q.batch.length = n3 at *
  generalize q.lim = lim at *
  go_enter Try.func13, Try.ntmps13
  go_wp2_with (first | (go_at_call 24; refine KP.out.mono ?_; rintro e w' ⟨rfl, rfl⟩))
  refine bodyPost_ret (results_tmp2 Try.results13 _ _ _) rfl ?_
  exact ⟨_, rfl, Own.nil _ _, HB.out⟩

set_option maxRecDepth 100000 in
set_option maxHeartbeats 4000000 in
theorem refReq_5high (w : World) (q : Rq) (hB : RqB q) (ks hs bs : Option Addr) (kc hc bc : Nat) (hI : RqIn w q ks hs bs kc hc bc) (hop : q.op = 5) (h1 : q.key.length = 32) (h2 : q.high.length ≠ 32) :
    Calls Try.prog 13 #[.agg (rqV q ks hs bs kc hc bc).toArray] w fun e w' => ∃ v, e = .returned (.tuple #[v, .int .i64 200]) ∧ Own w' w.heap.size v [] ∧ Below w.heap.size w w' := by
  have hm1 := hI.sk.2.1
  have hm2 := hI.sh.2.1
  have hm3 := hI.sb.2.1
  have hc1 := hI.sk.1
  have hc2 := hI.sh.1
  have hc3 := hI.sb.1
  unfold maxLen at hm1 hm2 hm3
  have L1 : RY w (w.alloc (.cells (rqV q ks hs bs kc hc bc).toArray 24)) q (.slice ks q.key.length kc) (.slice hs q.high.length hc) (.slice bs q.batch.length bc) := ⟨hnew w _, (Below.refl w.heap.size w).alloc (Nat.le_refl _) _, by simp⟩
  have HB := hid L1.bel
  have KP := hid (parts_any (w.alloc (.cells (rqV q ks hs bs kc hc bc).toArray 24)) q.op hB.op.1 hB.op.2)
  rw [hop, show prt 5 = 72 from by decide] at KP
  have K1 := hid hI
  have hB1 := hid hB
  clear hI hB
  have j1 : (q.key.length : Int) ≤ 9223372036854775807 := by omega
  have j2 : (q.high.length : Int) ≤ 9223372036854775807 := by omega
  have j3 : (q.batch.length : Int) ≤ 9223372036854775807 := by omega
  clear hm1 hm2 hm3 hc1 hc2 hc3
  obtain ⟨ra1, rb1, rc1, rd1, re1, rf1, rg1⟩ := L1.rc
  rw [hop] at ra1
  clear hop
  have ekey : ((q.key.length : Int) == 32) = true := by rw [h1]; rfl
  have ehigh : ((q.high.length : Int) == 32) = false := beq_eq_false_iff_ne.2 (by omega)
  clear h1
  clear h2
  generalize q.key.length = n1 at *
  generalize q.high.length = n2 at *
  generalize q.batch.length = n3 at *
  generalize q.lim = lim at *
  go_enter Try.func13, Try.ntmps13
  go_wp2_with (first | (go_at_call 24; refine KP.out.mono ?_; rintro e w' ⟨rfl, rfl⟩))
  refine bodyPost_ret (results_tmp2 Try.results13 _ _ _) rfl ?_
  exact ⟨_, rfl, Own.nil _ _, HB.out⟩

set_option maxRecDepth 100000 in
set_option maxHeartbeats 4000000 in
theorem refReq_5y (w : World) (q : Rq) (hB : RqB q) (ks hs bs : Option Addr) (kc hc bc : Nat) (hI : RqIn w q ks hs bs kc hc bc) (hop : q.op = 5) (h1 : q.key.length = 32) (h2 : q.high.length = 32) :
    Calls Try.prog 13 #[.agg (rqV q ks hs bs kc hc bc).toArray] w fun e w' => ∃ v, e = .returned (.tuple #[v, .int .i64 0]) ∧ Own w' w.heap.size v ([5] ++ q.key ++ q.high ++ lowN q.ver 8) ∧ Below w.heap.size w w' := by
  have hm1 := hI.sk.2.1
  have hm2 := hI.sh.2.1
  have hm3 := hI.sb.2.1
  have hc1 := hI.sk.1
  have hc2 := hI.sh.1
  have hc3 := hI.sb.1
  unfold maxLen at hm1 hm2 hm3
  have L1 : RY w (w.alloc (.cells (rqV q ks hs bs kc hc bc).toArray 24)) q (.slice ks q.key.length kc) (.slice hs q.high.length hc) (.slice bs q.batch.length bc) := ⟨hnew w _, (Below.refl w.heap.size w).alloc (Nat.le_refl _) _, by simp⟩
  have HB := hid L1.bel
  have KP := hid (parts_any (w.alloc (.cells (rqV q ks hs bs kc hc bc).toArray 24)) q.op hB.op.1 hB.op.2)
  rw [hop, show prt 5 = 72 from by decide] at KP
  have K1 := hid hI
  have hB1 := hid hB
  clear hI hB
  have j1 : (q.key.length : Int) ≤ 9223372036854775807 := by omega
  have j2 : (q.high.length : Int) ≤ 9223372036854775807 := by omega
  have j3 : (q.batch.length : Int) ≤ 9223372036854775807 := by omega
  clear hm1 hm2 hm3 hc1 hc2 hc3
  obtain ⟨ra1, rb1, rc1, rd1, re1, rf1, rg1⟩ := L1.rc
  rw [hop] at ra1
  have ekey : ((q.key.length : Int) == 32) = true := by rw [h1]; rfl
  have ehigh : ((q.high.length : Int) == 32) = true := by rw [h2]; rfl
  replace h1 := hid h1
  replace h2 := hid h2
  have hs1 : (w.alloc (.cells (rqV q ks hs bs kc hc bc).toArray 24)).heap.size = w.heap.size + 1 := by simp
  have O2 := own_one (w.alloc (.cells (rqV q ks hs bs kc hc bc).toArray 24)) 5
  have L2 := L1.call ((Below.refl (w.heap.size + 1) (w.alloc (.cells (rqV q ks hs bs kc hc bc).toArray 24))).alloc (by simp) (.cells #[.int .u8 5] 5))
  rw [hs1] at O2
  clear hs1
  obtain ⟨ra2, rb2, rc2, rd2, re2, rf2, rg2⟩ := L2.rc
  rw [hop] at ra2
  generalize hz2 : [(5 : Int)] = z2 at O2
  have HN2 := hid (show z2.length = 1 by rw [← hz2]; rfl)
  replace hz2 := hid hz2
  replace hop := hid hop
  go_enter Try.func13, Try.ntmps13
  go_wp2_with (first | (go_at_call 24; refine KP.out.mono ?_; rintro e w' ⟨rfl, rfl⟩; refine Hid.out ?_))
  refine hid ?_
  have KL2 := hid (show z2.length + q.key.length ≤ 140737488351232 by rw [HN2.out]; have := h1.out; have := h2.out; omega)
  have HS2 := hid ((K1.out.sk.below L2.bel (Nat.le_refl _)))
  go_wp2_with (first | (at_builtin; refine wpList_append_wide rfl (.tmp 93) (.tmp 95) rfl (w.heap.size + 1) (.slice (some ⟨w.heap.size + 1, 0, none⟩) 1 1) z2 q.key rfl O2 ks kc rfl K1.out.nk HS2.out KL2.out L2.sz ?_; intro v3 w3 O3 hg3 hd3; refine Hid.out ?_))
  refine hid ?_
  have L3 := L2.call (grown_keeps hg3 (fun k hk => (O2.block k hk).1) L2.sz)
  generalize hz3 : z2 ++ q.key = z3 at O3
  have HN3 := hid (show z3.length = 1 + q.key.length by rw [← hz3, List.length_append, HN2.out])
  replace hz3 := hid hz3
  obtain ⟨ra3, rb3, rc3, rd3, re3, rf3, rg3⟩ := L3.rc
  rw [hop.out] at ra3
  have KL3 := hid (show z3.length + q.high.length ≤ 140737488351232 by rw [HN3.out]; have := h1.out; have := h2.out; omega)
  have HS3 := hid ((K1.out.sh.below L3.bel (Nat.le_refl _)))
  go_wp2_with (first | (at_builtin; refine wpList_append_wide rfl (.tmp 98) (.tmp 100) rfl (w.heap.size + 1) v3 z3 q.high rfl O3 hs hc rfl K1.out.nh HS3.out KL3.out L3.sz ?_; intro v4 w4 O4 hg4 hd4; refine Hid.out ?_))
  refine hid ?_
  have L4 := L3.call (grown_keeps hg4 (fun k hk => (O3.block k hk).1) L3.sz)
  generalize hz4 : z3 ++ q.high = z4 at O4
  have HN4 := hid (show z4.length = (1 + q.key.length) + q.high.length by rw [← hz4, List.length_append, HN3.out])
  replace hz4 := hid hz4
  obtain ⟨ra4, rb4, rc4, rd4, re4, rf4, rg4⟩ := L4.rc
  rw [hop.out] at ra4
  have KW4 := hid (Low_any w4 q.ver 8 (by omega) hB1.out.ver.1 hB1.out.ver.2)
  go_wp2_with fail
  refine KW4.out.mono ?_
  clear KW4
  rintro e x5 ⟨u5, rfl, P5, hb5⟩
  have M5 := L4.call (hb5.mono L4.sz)
  have O4' := O4.below hb5 (Nat.le_refl _)
  obtain ⟨s5, c5, rfl, SS5, n5⟩ := P5.form
  have LL5 := lowN_len 8 q.ver
  have KL5 := hid (show z4.length + (lowN q.ver 8).length ≤ 140737488351232 by rw [HN4.out, LL5]; have := h1.out; have := h2.out; omega)
  go_wp2_with (first | (at_builtin; refine wpList_append_wide rfl (.tmp 104) (.tmp 107) rfl (w.heap.size + 1) v4 z4 (lowN q.ver 8) rfl O4' s5 c5 rfl n5 SS5 KL5.out M5.sz ?_; intro v5 w5 O5 hg5 hd5; refine Hid.out ?_))
  refine hid ?_
  have L5 := M5.call (grown_keeps hg5 (fun k hk => (O4'.block k hk).1) M5.sz)
  generalize hz5 : z4 ++ lowN q.ver 8 = z5 at O5
  have HN5 := hid (show z5.length = ((1 + q.key.length) + q.high.length) + 8 by rw [← hz5, List.length_append, lowN_len, HN4.out])
  replace hz5 := hid hz5
  clear LL5
  obtain ⟨ra5, rb5, rc5, rd5, re5, rf5, rg5⟩ := L5.rc
  rw [hop.out] at ra5
  go_wp2
  refine bodyPost_ret (results_tmp2 Try.results13 _ _ _) rfl ?_
  have OF := O5
  rw [← hz5.out, ← hz4.out, ← hz3.out] at OF
  exact ⟨_, rfl, own_lower (b1 := w.heap.size + 1) OF (Nat.le_succ _), L5.bel⟩

set_option maxRecDepth 100000 in
set_option maxHeartbeats 4000000 in
theorem refReq_6key (w : World) (q : Rq) (hB : RqB q) (ks hs bs : Option Addr) (kc hc bc : Nat) (hI : RqIn w q ks hs bs kc hc bc) (hop : q.op = 6) (h1 : q.key.length ≠ 32) :
    Calls Try.prog 13 #[.agg (rqV q ks hs bs kc hc bc).toArray] w fun e w' => ∃ v, e = .returned (.tuple #[v, .int .i64 200]) ∧ Own w' w.heap.size v [] ∧ Below w.heap.size w w' := by
  have hm1 := hI.sk.2.1
  have hm2 := hI.sh.2.1
  have hm3 := hI.sb.2.1
  have hc1 := hI.sk.1
  have hc2 := hI.sh.1
  have hc3 := hI.sb.1
  unfold maxLen at hm1 hm2 hm3
  have L1 : RY w (w.alloc (.cells (rqV q ks hs bs kc hc bc).toArray 24)) q (.slice ks q.key.length kc) (.slice hs q.high.length hc) (.slice bs q.batch.length bc) := ⟨hnew w _, (Below.refl w.heap.size w).alloc (Nat.le_refl _) _, by simp⟩
  have HB := hid L1.bel
  have KP := hid (parts_any (w.alloc (.cells (rqV q ks hs bs kc hc bc).toArray 24)) q.op hB.op.1 hB.op.2)
  rw [hop, show prt 6 = 76 from by decide] at KP
  have K1 := hid hI
  have hB1 := hid hB
  clear hI hB
  have j1 : (q.key.length : Int) ≤ 9223372036854775807 := by omega
  have j2 : (q.high.length : Int) ≤ 9223372036854775807 := by omega
  have j3 : (q.batch.length : Int) ≤ 9223372036854775807 := by omega
  clear hm1 hm2 hm3 hc1 hc2 hc3
  obtain ⟨ra1, rb1, rc1, rd1, re1, rf1, rg1⟩ := L1.rc
  rw [hop] at ra1
  clear hop
  have ekey : ((q.key.length : Int) == 32) = false := beq_eq_false_iff_ne.2 (by omega)
  clear h1
  generalize q.key.length = n1 at *
  generalize q.high.length = n2 at *
  generalize q.batch.length = n3 at *
  generalize q.lim = lim at *
  go_enter Try.func13, Try.ntmps13
  go_wp2_with (first | (go_at_call 24; refine KP.out.mono ?_; rintro e w' ⟨rfl, rfl⟩))
  refine bodyPost_ret (results_tmp2 Try.results13 _ _ _) rfl ?_
  exact ⟨_, rfl, Own.nil _ _, HB.out⟩

set_option maxRecDepth 100000 in
set_option maxHeartbeats 4000000 in
theorem refReq_6high (w : World) (q : Rq) (hB : RqB q) (ks hs bs : Option Addr) (kc hc bc : Nat) (hI : RqIn w q ks hs bs kc hc bc) (hop : q.op = 6) (h1 : q.key.length = 32) (h2 : q.high.length ≠ 32) :
    Calls Try.prog 13 #[.agg (rqV q ks hs bs kc hc bc).toArray] w fun e w' => ∃ v, e = .returned (.tuple #[v, .int .i64 200]) ∧ Own w' w.heap.size v [] ∧ Below w.heap.size w w' := by
  have hm1 := hI.sk.2.1
  have hm2 := hI.sh.2.1
  have hm3 := hI.sb.2.1
  have hc1 := hI.sk.1
  have hc2 := hI.sh.1
  have hc3 := hI.sb.1
  unfold maxLen at hm1 hm2 hm3
  have L1 : RY w (w.alloc (.cells (rqV q ks hs bs kc hc bc).toArray 24)) q (.slice ks q.key.length kc) (.slice hs q.high.length hc) (.slice bs q.batch.length bc) := ⟨hnew w _, (Below.refl w.heap.size w).alloc (Nat.le_refl _) _, by simp⟩
  have HB := hid L1.bel
  have KP := hid (parts_any (w.alloc (.cells (rqV q ks hs bs kc hc bc).toArray 24)) q.op hB.op.1 hB.op.2)
  rw [hop, show prt 6 = 76 from by decide] at KP
  have K1 := hid hI
  have hB1 := hid hB
  clear hI hB
  have j1 : (q.key.length : Int) ≤ 9223372036854775807 := by omega
  have j2 : (q.high.length : Int) ≤ 9223372036854775807 := by omega
  have j3 : (q.batch.length : Int) ≤ 9223372036854775807 := by omega
  clear hm1 hm2 hm3 hc1 hc2 hc3
  obtain ⟨ra1, rb1, rc1, rd1, re1, rf1, rg1⟩ := L1.rc
  rw [hop] at ra1
  clear hop
  have ekey : ((q.key.length : Int) == 32) = true := by rw [h1]; rfl
  have ehigh : ((q.high.length : Int) == 32) = false := beq_eq_false_iff_ne.2 (by omega)
  clear h1
  clear h2
  generalize q.key.length = n1 at *
  generalize q.high.length = n2 at *
  generalize q.batch.length = n3 at *
  generalize q.lim = lim at *
  go_enter Try.func13, Try.ntmps13
  go_wp2_with (first | (go_at_call 24; refine KP.out.mono ?_; rintro e w' ⟨rfl, rfl⟩))
  refine bodyPost_ret (results_tmp2 Try.results13 _ _ _) rfl ?_
  exact ⟨_, rfl, Own.nil _ _, HB.out⟩

set_option maxRecDepth 100000 in
set_option maxHeartbeats 4000000 in
theorem refReq_6limn (w : World) (q : Rq) (hB : RqB q) (ks hs bs : Option Addr) (kc hc bc : Nat) (hI : RqIn w q ks hs bs kc hc bc) (hop : q.op = 6) (h1 : q.key.length = 32) (h2 : q.high.length = 32) (h4 : q.lim < 0) :
    Calls Try.prog 13 #[.agg (rqV q ks hs bs kc hc bc).toArray] w fun e w' => ∃ v, e = .returned (.tuple #[v, .int .i64 200]) ∧ Own w' w.heap.size v [] ∧ Below w.heap.size w w' := by
  have hm1 := hI.sk.2.1
  have hm2 := hI.sh.2.1
  have hm3 := hI.sb.2.1
  have hc1 := hI.sk.1
  have hc2 := hI.sh.1
  have hc3 := hI.sb.1
  unfold maxLen at hm1 hm2 hm3
  have L1 : RY w (w.alloc (.cells (rqV q ks hs bs kc hc bc).toArray 24)) q (.slice ks q.key.length kc) (.slice hs q.high.length hc) (.slice bs q.batch.length bc) := ⟨hnew w _, (Below.refl w.heap.size w).alloc (Nat.le_refl _) _, by simp⟩
  have HB := hid L1.bel
  have KP := hid (parts_any (w.alloc (.cells (rqV q ks hs bs kc hc bc).toArray 24)) q.op hB.op.1 hB.op.2)
  rw [hop, show prt 6 = 76 from by decide] at KP
  have K1 := hid hI
  have hB1 := hid hB
  clear hI hB
  have j1 : (q.key.length : Int) ≤ 9223372036854775807 := by omega
  have j2 : (q.high.length : Int) ≤ 9223372036854775807 := by omega
  have j3 : (q.batch.length : Int) ≤ 9223372036854775807 := by omega
  clear hm1 hm2 hm3 hc1 hc2 hc3
  obtain ⟨ra1, rb1, rc1, rd1, re1, rf1, rg1⟩ := L1.rc
  rw [hop] at ra1
  clear hop
  have ekey : ((q.key.length : Int) == 32) = true := by rw [h1]; rfl
  have ehigh : ((q.high.length : Int) == 32) = true := by rw [h2]; rfl
  clear h1
  clear h2
  generalize q.key.length = n1 at *
  generalize q.high.length = n2 at *
  generalize q.batch.length = n3 at *
  generalize q.lim = lim at *
  go_enter Try.func13, Try.ntmps13
  go_wp2_with (first | (go_at_call 24; refine KP.out.mono ?_; rintro e w' ⟨rfl, rfl⟩))
  refine bodyPost_ret (results_tmp2 Try.results13 _ _ _) rfl ?_
  exact ⟨_, rfl, Own.nil _ _, HB.out⟩

set_option maxRecDepth 100000 in
set_option maxHeartbeats 4000000 in
theorem refReq_6limp (w : World) (q : Rq) (hB : RqB q) (ks hs bs : Option Addr) (kc hc bc : Nat) (hI : RqIn w q ks hs bs kc hc bc) (hop : q.op = 6) (h1 : q.key.length = 32) (h2 : q.high.length = 32) (h4 : 4294967295 < q.lim) :
    Calls Try.prog 13 #[.agg (rqV q ks hs bs kc hc bc).toArray] w fun e w' => ∃ v, e = .returned (.tuple #[v, .int .i64 200]) ∧ Own w' w.heap.size v [] ∧ Below w.heap.size w w' := by
  have hm1 := hI.sk.2.1
  have hm2 := hI.sh.2.1
  have hm3 := hI.sb.2.1
  have hc1 := hI.sk.1
  have hc2 := hI.sh.1
  have hc3 := hI.sb.1
  unfold maxLen at hm1 hm2 hm3
  have L1 : RY w (w.alloc (.cells (rqV q ks hs bs kc hc bc).toArray 24)) q (.slice ks q.key.length kc) (.slice hs q.high.length hc) (.slice bs q.batch.length bc) := ⟨hnew w _, (Below.refl w.heap.size w).alloc (Nat.le_refl _) _, by simp⟩
  have HB := hid L1.bel
  have KP := hid (parts_any (w.alloc (.cells (rqV q ks hs bs kc hc bc).toArray 24)) q.op hB.op.1 hB.op.2)
  rw [hop, show prt 6 = 76 from by decide] at KP
  have K1 := hid hI
  have hB1 := hid hB
  clear hI hB
  have j1 : (q.key.length : Int) ≤ 9223372036854775807 := by omega
  have j2 : (q.high.length : Int) ≤ 9223372036854775807 := by omega
  have j3 : (q.batch.length : Int) ≤ 9223372036854775807 := by omega
  clear hm1 hm2 hm3 hc1 hc2 hc3
  obtain ⟨ra1, rb1, rc1, rd1, re1, rf1, rg1⟩ := L1.rc
  rw [hop] at ra1
  clear hop
  have ekey : ((q.key.length : Int) == 32) = true := by rw [h1]; rfl
  have ehigh : ((q.high.length : Int) == 32) = true := by rw [h2]; rfl
  have i6 : ¬ q.lim < 0 := by omega
  clear h1
  clear h2
  generalize q.key.length = n1 at *
  generalize q.high.length = n2 at *
  generalize q.batch.length = n3 at *
  generalize q.lim = lim at *
  go_enter Try.func13, Try.ntmps13
  go_wp2_with (first | (go_at_call 24; refine KP.out.mono ?_; rintro e w' ⟨rfl, rfl⟩))
  refine bodyPost_ret (results_tmp2 Try.results13 _ _ _) rfl ?_
  exact ⟨_, rfl, Own.nil _ _, HB.out⟩

set_option maxRecDepth 100000 in
set_option maxHeartbeats 4000000 in
theorem refReq_6y (w : World) (q : Rq) (hB : RqB q) (ks hs bs : Option Addr) (kc hc bc : Nat) (hI : RqIn w q ks hs bs kc hc bc) (hop : q.op = 6) (h1 : q.key.length = 32) (h2 : q.high.length = 32) (h4 : 0 ≤ q.lim ∧ q.lim < 4294967296) :
    Calls Try.prog 13 #[.agg (rqV q ks hs bs kc hc bc).toArray] w fun e w' => ∃ v, e = .returned (.tuple #[v, .int .i64 0]) ∧ Own w' w.heap.size v ([6] ++ q.key ++ q.high ++ lowN q.ver 8 ++ lowN q.lim 4) ∧ Below w.heap.size w w' := by
  have hm1 := hI.sk.2.1
  have hm2 := hI.sh.2.1
  have hm3 := hI.sb.2.1
  have hc1 := hI.sk.1
  have hc2 := hI.sh.1
  have hc3 := hI.sb.1
  unfold maxLen at hm1 hm2 hm3
  have L1 : RY w (w.alloc (.cells (rqV q ks hs bs kc hc bc).toArray 24)) q (.slice ks q.key.length kc) (.slice hs q.high.length hc) (.slice bs q.batch.length bc) := ⟨hnew w _, (Below.refl w.heap.size w).alloc (Nat.le_refl _) _, by simp⟩
  have HB := hid L1.bel
  have KP := hid (parts_any (w.alloc (.cells (rqV q ks hs bs kc hc bc).toArray 24)) q.op hB.op.1 hB.op.2)
  rw [hop, show prt 6 = 76 from by decide] at KP
  have K1 := hid hI
  have hB1 := hid hB
  clear hI hB
  have j1 : (q.key.length : Int) ≤ 9223372036854775807 := by omega
  have j2 : (q.high.length : Int) ≤ 9223372036854775807 := by omega
  have j3 : (q.batch.length : Int) ≤ 9223372036854775807 := by omega
  clear hm1 hm2 hm3 hc1 hc2 hc3
  obtain ⟨ra1, rb1, rc1, rd1, re1, rf1, rg1⟩ := L1.rc
  rw [hop] at ra1
  have ekey : ((q.key.length : Int) == 32) = true := by rw [h1]; rfl
  have ehigh : ((q.high.length : Int) == 32) = true := by rw [h2]; rfl
  have i6 : ¬ q.lim < 0 := by omega
  have i7 : ¬ (4294967295 : Int) < q.lim := by omega
  replace h1 := hid h1
  replace h2 := hid h2
  have hs1 : (w.alloc (.cells (rqV q ks hs bs kc hc bc).toArray 24)).heap.size = w.heap.size + 1 := by simp
  have O2 := own_one (w.alloc (.cells (rqV q ks hs bs kc hc bc).toArray 24)) 6
  have L2 := L1.call ((Below.refl (w.heap.size + 1) (w.alloc (.cells (rqV q ks hs bs kc hc bc).toArray 24))).alloc (by simp) (.cells #[.int .u8 6] 5))
  rw [hs1] at O2
  clear hs1
  obtain ⟨ra2, rb2, rc2, rd2, re2, rf2, rg2⟩ := L2.rc
  rw [hop] at ra2
  generalize hz2 : [(6 : Int)] = z2 at O2
  have HN2 := hid (show z2.length = 1 by rw [← hz2]; rfl)
  replace hz2 := hid hz2
  replace hop := hid hop
  go_enter Try.func13, Try.ntmps13
  go_wp2_with (first | (go_at_call 24; refine KP.out.mono ?_; rintro e w' ⟨rfl, rfl⟩; refine Hid.out ?_))
  refine hid ?_
  have KL2 := hid (show z2.length + q.key.length ≤ 140737488351232 by rw [HN2.out]; have := h1.out; have := h2.out; omega)
  have HS2 := hid ((K1.out.sk.below L2.bel (Nat.le_refl _)))
  go_wp2_with (first | (at_builtin; refine wpList_append_wide rfl (.tmp 93) (.tmp 95) rfl (w.heap.size + 1) (.slice (some ⟨w.heap.size + 1, 0, none⟩) 1 1) z2 q.key rfl O2 ks kc rfl K1.out.nk HS2.out KL2.out L2.sz ?_; intro v3 w3 O3 hg3 hd3; refine Hid.out ?_))
  refine hid ?_
  have L3 := L2.call (grown_keeps hg3 (fun k hk => (O2.block k hk).1) L2.sz)
  generalize hz3 : z2 ++ q.key = z3 at O3
  have HN3 := hid (show z3.length = 1 + q.key.length by rw [← hz3, List.length_append, HN2.out])
  replace hz3 := hid hz3
  obtain ⟨ra3, rb3, rc3, rd3, re3, rf3, rg3⟩ := L3.rc
  rw [hop.out] at ra3
  have KL3 := hid (show z3.length + q.high.length ≤ 140737488351232 by rw [HN3.out]; have := h1.out; have := h2.out; omega)
  have HS3 := hid ((K1.out.sh.below L3.bel (Nat.le_refl _)))
  go_wp2_with (first | (at_builtin; refine wpList_append_wide rfl (.tmp 98) (.tmp 100) rfl (w.heap.size + 1) v3 z3 q.high rfl O3 hs hc rfl K1.out.nh HS3.out KL3.out L3.sz ?_; intro v4 w4 O4 hg4 hd4; refine Hid.out ?_))
  refine hid ?_
  have L4 := L3.call (grown_keeps hg4 (fun k hk => (O3.block k hk).1) L3.sz)
  generalize hz4 : z3 ++ q.high = z4 at O4
  have HN4 := hid (show z4.length = (1 + q.key.length) + q.high.length by rw [← hz4, List.length_append, HN3.out])
  replace hz4 := hid hz4
  obtain ⟨ra4, rb4, rc4, rd4, re4, rf4, rg4⟩ := L4.rc
  rw [hop.out] at ra4
  have KW4 := hid (Low_any w4 q.ver 8 (by omega) hB1.out.ver.1 hB1.out.ver.2)
  go_wp2_with fail
  refine KW4.out.mono ?_
  clear KW4
  rintro e x5 ⟨u5, rfl, P5, hb5⟩
  have M5 := L4.call (hb5.mono L4.sz)
  have O4' := O4.below hb5 (Nat.le_refl _)
  obtain ⟨s5, c5, rfl, SS5, n5⟩ := P5.form
  have LL5 := lowN_len 8 q.ver
  have KL5 := hid (show z4.length + (lowN q.ver 8).length ≤ 140737488351232 by rw [HN4.out, LL5]; have := h1.out; have := h2.out; omega)
  go_wp2_with (first | (at_builtin; refine wpList_append_wide rfl (.tmp 104) (.tmp 107) rfl (w.heap.size + 1) v4 z4 (lowN q.ver 8) rfl O4' s5 c5 rfl n5 SS5 KL5.out M5.sz ?_; intro v5 w5 O5 hg5 hd5; refine Hid.out ?_))
  refine hid ?_
  have L5 := M5.call (grown_keeps hg5 (fun k hk => (O4'.block k hk).1) M5.sz)
  generalize hz5 : z4 ++ lowN q.ver 8 = z5 at O5
  have HN5 := hid (show z5.length = ((1 + q.key.length) + q.high.length) + 8 by rw [← hz5, List.length_append, lowN_len, HN4.out])
  replace hz5 := hid hz5
  clear LL5
  obtain ⟨ra5, rb5, rc5, rd5, re5, rf5, rg5⟩ := L5.rc
  rw [hop.out] at ra5
  have KW5 := hid (Low_any w5 q.lim 4 (by omega) hB1.out.lim.1 hB1.out.lim.2)
  go_wp2_with fail
  refine KW5.out.mono ?_
  clear KW5
  rintro e x6 ⟨u6, rfl, P6, hb6⟩
  have M6 := L5.call (hb6.mono L5.sz)
  have O5' := O5.below hb6 (Nat.le_refl _)
  obtain ⟨s6, c6, rfl, SS6, n6⟩ := P6.form
  have LL6 := lowN_len 4 q.lim
  have KL6 := hid (show z5.length + (lowN q.lim 4).length ≤ 140737488351232 by rw [HN5.out, LL6]; have := h1.out; have := h2.out; omega)
  go_wp2_with (first | (at_builtin; refine wpList_append_wide rfl (.tmp 120) (.tmp 123) rfl (w.heap.size + 1) v5 z5 (lowN q.lim 4) rfl O5' s6 c6 rfl n6 SS6 KL6.out M6.sz ?_; intro v6 w6 O6 hg6 hd6; refine Hid.out ?_))
  refine hid ?_
  have L6 := M6.call (grown_keeps hg6 (fun k hk => (O5'.block k hk).1) M6.sz)
  generalize hz6 : z5 ++ lowN q.lim 4 = z6 at O6
  have HN6 := hid (show z6.length = (((1 + q.key.length) + q.high.length) + 8) + 4 by rw [← hz6, List.length_append, lowN_len, HN5.out])
  replace hz6 := hid hz6
  clear LL6
  obtain ⟨ra6, rb6, rc6, rd6, re6, rf6, rg6⟩ := L6.rc
  rw [hop.out] at ra6
  go_wp2
  refine bodyPost_ret (results_tmp2 Try.results13 _ _ _) rfl ?_
  have OF := O6
  rw [← hz6.out, ← hz5.out, ← hz4.out, ← hz3.out] at OF
  exact ⟨_, rfl, own_lower (b1 := w.heap.size + 1) OF (Nat.le_succ _), L6.bel⟩

set_option maxRecDepth 100000 in
set_option maxHeartbeats 4000000 in
theorem refReq_7y (w : World) (q : Rq) (hB : RqB q) (ks hs bs : Option Addr) (kc hc bc : Nat) (hI : RqIn w q ks hs bs kc hc bc) (hop : q.op = 7) :
    Calls Try.prog 13 #[.agg (rqV q ks hs bs kc hc bc).toArray] w fun e w' => ∃ v, e = .returned (.tuple #[v, .int .i64 0]) ∧ Own w' w.heap.size v ([7] ++ lowN q.ver 8 ++ lowN q.oth 8) ∧ Below w.heap.size w w' := by
  have hm1 := hI.sk.2.1
  have hm2 := hI.sh.2.1
  have hm3 := hI.sb.2.1
  have hc1 := hI.sk.1
  have hc2 := hI.sh.1
  have hc3 := hI.sb.1
  unfold maxLen at hm1 hm2 hm3
  have L1 : RY w (w.alloc (.cells (rqV q ks hs bs kc hc bc).toArray 24)) q (.slice ks q.key.length kc) (.slice hs q.high.length hc) (.slice bs q.batch.length bc) := ⟨hnew w _, (Below.refl w.heap.size w).alloc (Nat.le_refl _) _, by simp⟩
  have HB := hid L1.bel
  have KP := hid (parts_any (w.alloc (.cells (rqV q ks hs bs kc hc bc).toArray 24)) q.op hB.op.1 hB.op.2)
  rw [hop, show prt 7 = 16 from by decide] at KP
  have K1 := hid hI
  have hB1 := hid hB
  clear hI hB
  have j1 : (q.key.length : Int) ≤ 9223372036854775807 := by omega
  have j2 : (q.high.length : Int) ≤ 9223372036854775807 := by omega
  have j3 : (q.batch.length : Int) ≤ 9223372036854775807 := by omega
  clear hm1 hm2 hm3 hc1 hc2 hc3
  obtain ⟨ra1, rb1, rc1, rd1, re1, rf1, rg1⟩ := L1.rc
  rw [hop] at ra1
  have hs1 : (w.alloc (.cells (rqV q ks hs bs kc hc bc).toArray 24)).heap.size = w.heap.size + 1 := by simp
  have O2 := own_one (w.alloc (.cells (rqV q ks hs bs kc hc bc).toArray 24)) 7
  have L2 := L1.call ((Below.refl (w.heap.size + 1) (w.alloc (.cells (rqV q ks hs bs kc hc bc).toArray 24))).alloc (by simp) (.cells #[.int .u8 7] 5))
  rw [hs1] at O2
  clear hs1
  obtain ⟨ra2, rb2, rc2, rd2, re2, rf2, rg2⟩ := L2.rc
  rw [hop] at ra2
  generalize hz2 : [(7 : Int)] = z2 at O2
  have HN2 := hid (show z2.length = 1 by rw [← hz2]; rfl)
  replace hz2 := hid hz2
  replace hop := hid hop
  go_enter Try.func13, Try.ntmps13
  go_wp2_with (first | (go_at_call 24; refine KP.out.mono ?_; rintro e w' ⟨rfl, rfl⟩; refine Hid.out ?_))
  refine hid ?_
  have KW2 := hid (Low_any ((w.alloc (.cells (rqV q ks hs bs kc hc bc).toArray 24)).alloc (.cells #[.int .u8 7] 5)) q.ver 8 (by omega) hB1.out.ver.1 hB1.out.ver.2)
  go_wp2_with fail
  refine KW2.out.mono ?_
  clear KW2
  rintro e x3 ⟨u3, rfl, P3, hb3⟩
  have M3 := L2.call (hb3.mono L2.sz)
  have O2' := O2.below hb3 (Nat.le_refl _)
  obtain ⟨s3, c3, rfl, SS3, n3⟩ := P3.form
  have LL3 := lowN_len 8 q.ver
  have KL3 := hid (show z2.length + (lowN q.ver 8).length ≤ 140737488351232 by rw [HN2.out, LL3]; omega)
  go_wp2_with (first | (at_builtin; refine wpList_append_wide rfl (.tmp 104) (.tmp 107) rfl (w.heap.size + 1) (.slice (some ⟨w.heap.size + 1, 0, none⟩) 1 1) z2 (lowN q.ver 8) rfl O2' s3 c3 rfl n3 SS3 KL3.out M3.sz ?_; intro v3 w3 O3 hg3 hd3; refine Hid.out ?_))
  refine hid ?_
  have L3 := M3.call (grown_keeps hg3 (fun k hk => (O2'.block k hk).1) M3.sz)
  generalize hz3 : z2 ++ lowN q.ver 8 = z3 at O3
  have HN3 := hid (show z3.length = 1 + 8 by rw [← hz3, List.length_append, lowN_len, HN2.out])
  replace hz3 := hid hz3
  clear LL3
  obtain ⟨ra3, rb3, rc3, rd3, re3, rf3, rg3⟩ := L3.rc
  rw [hop.out] at ra3
  have KW3 := hid (Low_any w3 q.oth 8 (by omega) hB1.out.oth.1 hB1.out.oth.2)
  go_wp2_with fail
  refine KW3.out.mono ?_
  clear KW3
  rintro e x4 ⟨u4, rfl, P4, hb4⟩
  have M4 := L3.call (hb4.mono L3.sz)
  have O3' := O3.below hb4 (Nat.le_refl _)
  obtain ⟨s4, c4, rfl, SS4, n4⟩ := P4.form
  have LL4 := lowN_len 8 q.oth
  have KL4 := hid (show z3.length + (lowN q.oth 8).length ≤ 140737488351232 by rw [HN3.out, LL4]; omega)
  go_wp2_with (first | (at_builtin; refine wpList_append_wide rfl (.tmp 112) (.tmp 115) rfl (w.heap.size + 1) v3 z3 (lowN q.oth 8) rfl O3' s4 c4 rfl n4 SS4 KL4.out M4.sz ?_; intro v4 w4 O4 hg4 hd4; refine Hid.out ?_))
  refine hid ?_
  have L4 := M4.call (grown_keeps hg4 (fun k hk => (O3'.block k hk).1) M4.sz)
  generalize hz4 : z3 ++ lowN q.oth 8 = z4 at O4
  have HN4 := hid (show z4.length = (1 + 8) + 8 by rw [← hz4, List.length_append, lowN_len, HN3.out])
  replace hz4 := hid hz4
  clear LL4
  obtain ⟨ra4, rb4, rc4, rd4, re4, rf4, rg4⟩ := L4.rc
  rw [hop.out] at ra4
  go_wp2
  refine bodyPost_ret (results_tmp2 Try.results13 _ _ _) rfl ?_
  have OF := O4
  rw [← hz4.out, ← hz3.out] at OF
  exact ⟨_, rfl, own_lower (b1 := w.heap.size + 1) OF (Nat.le_succ _), L4.bel⟩

set_option maxRecDepth 100000 in
set_option maxHeartbeats 4000000 in
theorem refReq_8y (w : World) (q : Rq) (hB : RqB q) (ks hs bs : Option Addr) (kc hc bc : Nat) (hI : RqIn w q ks hs bs kc hc bc) (hop : q.op = 8) :
    Calls Try.prog 13 #[.agg (rqV q ks hs bs kc hc bc).toArray] w fun e w' => ∃ v, e = .returned (.tuple #[v, .int .i64 0]) ∧ Own w' w.heap.size v ([8]) ∧ Below w.heap.size w w' := by
  have hm1 := hI.sk.2.1
  have hm2 := hI.sh.2.1
  have hm3 := hI.sb.2.1
  have hc1 := hI.sk.1
  have hc2 := hI.sh.1
  have hc3 := hI.sb.1
  unfold maxLen at hm1 hm2 hm3
  have L1 : RY w (w.alloc (.cells (rqV q ks hs bs kc hc bc).toArray 24)) q (.slice ks q.key.length kc) (.slice hs q.high.length hc) (.slice bs q.batch.length bc) := ⟨hnew w _, (Below.refl w.heap.size w).alloc (Nat.le_refl _) _, by simp⟩
  have HB := hid L1.bel
  have KP := hid (parts_any (w.alloc (.cells (rqV q ks hs bs kc hc bc).toArray 24)) q.op hB.op.1 hB.op.2)
  rw [hop, show prt 8 = 0 from by decide] at KP
  have K1 := hid hI
  have hB1 := hid hB
  clear hI hB
  have j1 : (q.key.length : Int) ≤ 9223372036854775807 := by omega
  have j2 : (q.high.length : Int) ≤ 9223372036854775807 := by omega
  have j3 : (q.batch.length : Int) ≤ 9223372036854775807 := by omega
  clear hm1 hm2 hm3 hc1 hc2 hc3
  obtain ⟨ra1, rb1, rc1, rd1, re1, rf1, rg1⟩ := L1.rc
  rw [hop] at ra1
  have hs1 : (w.alloc (.cells (rqV q ks hs bs kc hc bc).toArray 24)).heap.size = w.heap.size + 1 := by simp
  have O2 := own_one (w.alloc (.cells (rqV q ks hs bs kc hc bc).toArray 24)) 8
  have L2 := L1.call ((Below.refl (w.heap.size + 1) (w.alloc (.cells (rqV q ks hs bs kc hc bc).toArray 24))).alloc (by simp) (.cells #[.int .u8 8] 5))
  rw [hs1] at O2
  clear hs1
  obtain ⟨ra2, rb2, rc2, rd2, re2, rf2, rg2⟩ := L2.rc
  rw [hop] at ra2
  clear hop
  go_enter Try.func13, Try.ntmps13
  go_wp2_with (first | (go_at_call 24; refine KP.out.mono ?_; rintro e w' ⟨rfl, rfl⟩))
  refine bodyPost_ret (results_tmp2 Try.results13 _ _ _) rfl ?_
  exact ⟨_, rfl, own_lower O2 (by omega), L2.bel⟩

set_option maxRecDepth 100000 in
set_option maxHeartbeats 4000000 in
theorem refReq_9y (w : World) (q : Rq) (hB : RqB q) (ks hs bs : Option Addr) (kc hc bc : Nat) (hI : RqIn w q ks hs bs kc hc bc) (hop : q.op = 9) :
    Calls Try.prog 13 #[.agg (rqV q ks hs bs kc hc bc).toArray] w fun e w' => ∃ v, e = .returned (.tuple #[v, .int .i64 0]) ∧ Own w' w.heap.size v ([9]) ∧ Below w.heap.size w w' := by
  have hm1 := hI.sk.2.1
  have hm2 := hI.sh.2.1
  have hm3 := hI.sb.2.1
  have hc1 := hI.sk.1
  have hc2 := hI.sh.1
  have hc3 := hI.sb.1
  unfold maxLen at hm1 hm2 hm3
  have L1 : RY w (w.alloc (.cells (rqV q ks hs bs kc hc bc).toArray 24)) q (.slice ks q.key.length kc) (.slice hs q.high.length hc) (.slice bs q.batch.length bc) := ⟨hnew w _, (Below.refl w.heap.size w).alloc (Nat.le_refl _) _, by simp⟩
  have HB := hid L1.bel
  have KP := hid (parts_any (w.alloc (.cells (rqV q ks hs bs kc hc bc).toArray 24)) q.op hB.op.1 hB.op.2)
  rw [hop, show prt 9 = 0 from by decide] at KP
  have K1 := hid hI
  have hB1 := hid hB
  clear hI hB
  have j1 : (q.key.length : Int) ≤ 9223372036854775807 := by omega
  have j2 : (q.high.length : Int) ≤ 9223372036854775807 := by omega
  have j3 : (q.batch.length : Int) ≤ 9223372036854775807 := by omega
  clear hm1 hm2 hm3 hc1 hc2 hc3
  obtain ⟨ra1, rb1, rc1, rd1, re1, rf1, rg1⟩ := L1.rc
  rw [hop] at ra1
  have hs1 : (w.alloc (.cells (rqV q ks hs bs kc hc bc).toArray 24)).heap.size = w.heap.size + 1 := by simp
  have O2 := own_one (w.alloc (.cells (rqV q ks hs bs kc hc bc).toArray 24)) 9
  have L2 := L1.call ((Below.refl (w.heap.size + 1) (w.alloc (.cells (rqV q ks hs bs kc hc bc).toArray 24))).alloc (by simp) (.cells #[.int .u8 9] 5))
  rw [hs1] at O2
  clear hs1
  obtain ⟨ra2, rb2, rc2, rd2, re2, rf2, rg2⟩ := L2.rc
  rw [hop] at ra2
  clear hop
  go_enter Try.func13, Try.ntmps13
  go_wp2_with (first | (go_at_call 24; refine KP.out.mono ?_; rintro e w' ⟨rfl, rfl⟩))
  refine bodyPost_ret (results_tmp2 Try.results13 _ _ _) rfl ?_
  exact ⟨_, rfl, own_lower O2 (by omega), L2.bel⟩
end Go.Proofs.Ythdjgpdgedhonaa
