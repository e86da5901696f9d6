import Derived.Test.YthdjgpdgedhonaaDk9
namespace Go.Proofs.Ythdjgpdgedhonaa
set_option linter.unusedVariables false
set_option linter.unusedSimpArgs false
open Go.RowKit
attribute [local go_sem ↓] Go.wp_at_zero Go.wp_at_succ

/-- shape.lay midway: the shape and the request, boxed. -/
structure LY (w wc : World) (s : Sh) (q : Rq) (k h b : Value) : Prop where
  rs : wc.heap[w.heap.size]? = some (.cells (shC s).toArray 67 (0, 0))
  rr : wc.heap[w.heap.size + 1]? = some (.cells (rqC q.op q.ver q.oth q.lim k h b).toArray 24 (0, 0))
  bel : Below w.heap.size w wc
  sz : w.heap.size + 2 ≤ wc.heap.size
theorem LY.call {w wc w1 : World} {s : Sh} {q : Rq} {k h b : Value} (l : LY w wc s q k h b) (hb : Below (w.heap.size + 2) wc w1) : LY w w1 s q k h b :=
  ⟨hbel hb l.rs (by omega), hbel hb l.rr (by omega), l.bel.trans (hb.mono (by omega)), Nat.le_trans l.sz hb.size⟩
theorem LY.sc {w wc : World} {s : Sh} {q : Rq} {k h b : Value} (l : LY w wc s q k h b) :
    wc.cell? ⟨w.heap.size, 0, none⟩ = some (.bool s.key) ∧ wc.cell? ⟨w.heap.size, 1, none⟩ = some (.bool s.high) ∧ wc.cell? ⟨w.heap.size, 2, none⟩ = some (.bool s.ver) ∧ wc.cell? ⟨w.heap.size, 3, none⟩ = some (.bool s.oth) ∧ wc.cell? ⟨w.heap.size, 4, none⟩ = some (.bool s.lim) ∧ wc.cell? ⟨w.heap.size, 5, none⟩ = some (.bool s.batch) := by
  refine ⟨?_, ?_, ?_, ?_, ?_, ?_⟩ <;> (rw [cell_of_row _ _ _ _ _ _ l.rs]; rfl)
theorem LY.rc {w wc : World} {s : Sh} {q : Rq} {k h b : Value} (l : LY w wc s q k h b) :
    wc.cell? ⟨w.heap.size + 1, 0, none⟩ = some (.int .i64 q.op) ∧ wc.cell? ⟨w.heap.size + 1, 1, none⟩ = some (.int .i64 q.ver) ∧ wc.cell? ⟨w.heap.size + 1, 2, none⟩ = some (.int .i64 q.oth) ∧ wc.cell? ⟨w.heap.size + 1, 3, none⟩ = some (.int .i64 q.lim) ∧ wc.cell? ⟨w.heap.size + 1, 4, none⟩ = some k ∧ wc.cell? ⟨w.heap.size + 1, 5, none⟩ = some h ∧ wc.cell? ⟨w.heap.size + 1, 6, none⟩ = some b := by
  refine ⟨?_, ?_, ?_, ?_, ?_, ?_, ?_⟩ <;> (rw [cell_of_row _ _ _ _ _ _ l.rr]; rfl)

set_option maxRecDepth 100000 in
set_option maxHeartbeats 2000000 in
theorem lay_0 (w : World) (q : Rq) (hB : RqB q) (ks hs bs : Option Addr) (kc hc bc : Nat) (hI : RqIn w q ks hs bs kc hc bc) (l1 : True) (l2 : True) (l3 : True) :
    Calls Try.prog 29 #[.agg (shC ⟨false, false, false, false, false, false⟩).toArray, .agg (rqV q ks hs bs kc hc bc).toArray] w fun e w' => ∃ v, e = .returned v ∧ Own w' w.heap.size v (lowN q.op 1 ++ opt false q.key ++ opt false q.high ++ opt false (lowN q.ver 8) ++ opt false (lowN q.oth 8) ++ opt false (lowN q.lim 4) ++ opt false q.batch) ∧ Below w.heap.size w w' := by
  have L2 : LY w ((w.alloc (.cells (shC ⟨false, false, false, false, false, false⟩).toArray 67)).alloc (.cells (rqV q ks hs bs kc hc bc).toArray 24)) ⟨false, false, false, false, false, false⟩ q (.slice ks q.key.length kc) (.slice hs q.high.length hc) (.slice bs q.batch.length bc) := by
    refine ⟨hold (hnew w _), ?_, ((Below.refl w.heap.size w).alloc (Nat.le_refl _) _).alloc (by simp) _, by simp⟩
    have := hnew (w.alloc (.cells (shC ⟨false, false, false, false, false, false⟩).toArray 67)) (.cells (rqV q ks hs bs kc hc bc).toArray 24)
    rwa [show (w.alloc (.cells (shC ⟨false, false, false, false, false, false⟩).toArray 67)).heap.size = w.heap.size + 1 by simp] at this
  have KA := hid (appendNumber_any _ (w.heap.size + 2) (.slice none 0 0) [] q.op 1 (by omega) hB.op.1 hB.op.2 (Own.nil ((w.alloc (.cells (shC ⟨false, false, false, false, false, false⟩).toArray 67)).alloc (.cells (rqV q ks hs bs kc hc bc).toArray 24)) _) (by simp) (by simp))
  simp only [opt, if_true, if_false, Bool.false_eq_true, List.append_nil]
  have c2 := L2.rc.1
  go_enter Try.func29, Try.ntmps29
  go_wp2_with fail
  refine KA.out.mono ?_
  clear KA
  generalize ((w.alloc (.cells (shC ⟨false, false, false, false, false, false⟩).toArray 67)).alloc (.cells (rqV q ks hs bs kc hc bc).toArray 24)) = w2 at *
  clear c2
  rintro e w3 ⟨v3, rfl, O3, hb3⟩
  have L3 := L2.call hb3
  rw [List.nil_append] at O3
  have HN3 := hid (lowN_len 1 q.op)
  generalize hz3 : lowN q.op 1 = z3 at O3 HN3
  replace hz3 := hid hz3
  clear hb3 L2
  obtain ⟨sa3, sb3, sc3, sd3, se3, sf3⟩ := L3.sc
  go_wp2
  go_ret
  refine ⟨_, rfl, ?_, L3.bel⟩
  rw [hz3.out]
  exact own_lower O3 (by omega)

set_option maxRecDepth 100000 in
set_option maxHeartbeats 2000000 in
theorem lay_1 (w : World) (q : Rq) (hB : RqB q) (ks hs bs : Option Addr) (kc hc bc : Nat) (hI : RqIn w q ks hs bs kc hc bc) (l1 : True) (l2 : True) (l3 : q.batch.length ≤ 12000) :
    Calls Try.prog 29 #[.agg (shC ⟨false, false, false, false, false, true⟩).toArray, .agg (rqV q ks hs bs kc hc bc).toArray] w fun e w' => ∃ v, e = .returned v ∧ Own w' w.heap.size v (lowN q.op 1 ++ opt false q.key ++ opt false q.high ++ opt false (lowN q.ver 8) ++ opt false (lowN q.oth 8) ++ opt false (lowN q.lim 4) ++ opt true q.batch) ∧ Below w.heap.size w w' := by
  have L2 : LY w ((w.alloc (.cells (shC ⟨false, false, false, false, false, true⟩).toArray 67)).alloc (.cells (rqV q ks hs bs kc hc bc).toArray 24)) ⟨false, false, false, false, false, true⟩ q (.slice ks q.key.length kc) (.slice hs q.high.length hc) (.slice bs q.batch.length bc) := by
    refine ⟨hold (hnew w _), ?_, ((Below.refl w.heap.size w).alloc (Nat.le_refl _) _).alloc (by simp) _, by simp⟩
    have := hnew (w.alloc (.cells (shC ⟨false, false, false, false, false, true⟩).toArray 67)) (.cells (rqV q ks hs bs kc hc bc).toArray 24)
    rwa [show (w.alloc (.cells (shC ⟨false, false, false, false, false, true⟩).toArray 67)).heap.size = w.heap.size + 1 by simp] at this
  have KA := hid (appendNumber_any _ (w.heap.size + 2) (.slice none 0 0) [] q.op 1 (by omega) hB.op.1 hB.op.2 (Own.nil ((w.alloc (.cells (shC ⟨false, false, false, false, false, true⟩).toArray 67)).alloc (.cells (rqV q ks hs bs kc hc bc).toArray 24)) _) (by simp) (by simp))
  simp only [opt, if_true, if_false, Bool.false_eq_true, List.append_nil]
  have c2 := L2.rc.1
  go_enter Try.func29, Try.ntmps29
  go_wp2_with fail
  refine KA.out.mono ?_
  clear KA
  generalize ((w.alloc (.cells (shC ⟨false, false, false, false, false, true⟩).toArray 67)).alloc (.cells (rqV q ks hs bs kc hc bc).toArray 24)) = w2 at *
  clear c2
  rintro e w3 ⟨v3, rfl, O3, hb3⟩
  have L3 := L2.call hb3
  rw [List.nil_append] at O3
  have HN3 := hid (lowN_len 1 q.op)
  generalize hz3 : lowN q.op 1 = z3 at O3 HN3
  replace hz3 := hid hz3
  clear hb3 L2
  obtain ⟨sa3, sb3, sc3, sd3, se3, sf3⟩ := L3.sc
  obtain ⟨ra3, rb3, rc3, rd3, re3, rf3, rg3⟩ := L3.rc
  have KL3 := hid (show z3.length + q.batch.length ≤ 140737488351232 by rw [HN3.out]; omega)
  have HS3 := hid ((hI.sb.below L3.bel (Nat.le_refl _)))
  go_wp2_with (first | (at_builtin; refine wpList_append_wide rfl (.tmp 41) (.tmp 43) rfl (w.heap.size + 2) v3 z3 q.batch rfl O3 bs bc rfl hI.nb HS3.out KL3.out L3.sz ?_; intro v4 w4 O4 hg4 hd4; refine Hid.out ?_))
  refine hid ?_
  have L4 := L3.call (grown_keeps hg4 (fun k hk => (O3.block k hk).1) L3.sz)
  generalize hz4 : z3 ++ q.batch = z4 at O4
  have HN4 := hid (show z4.length = 1 + q.batch.length by rw [← hz4, List.length_append, HN3.out])
  replace hz4 := hid hz4
  clear L3 O3 sa3 sb3 sc3 sd3 se3 sf3 ra3 rb3 rc3 rd3 re3 rf3 rg3
  obtain ⟨sa4, sb4, sc4, sd4, se4, sf4⟩ := L4.sc
  go_wp2
  go_ret
  refine ⟨_, rfl, ?_, L4.bel⟩
  rw [hz3.out, hz4.out]
  exact own_lower O4 (by omega)

set_option maxRecDepth 100000 in
set_option maxHeartbeats 2000000 in
theorem lay_2 (w : World) (q : Rq) (hB : RqB q) (ks hs bs : Option Addr) (kc hc bc : Nat) (hI : RqIn w q ks hs bs kc hc bc) (l1 : q.key.length ≤ 12000) (l2 : True) (l3 : True) :
    Calls Try.prog 29 #[.agg (shC ⟨true, false, true, false, false, false⟩).toArray, .agg (rqV q ks hs bs kc hc bc).toArray] w fun e w' => ∃ v, e = .returned v ∧ Own w' w.heap.size v (lowN q.op 1 ++ opt true q.key ++ opt false q.high ++ opt true (lowN q.ver 8) ++ opt false (lowN q.oth 8) ++ opt false (lowN q.lim 4) ++ opt false q.batch) ∧ Below w.heap.size w w' := by
  have L2 : LY w ((w.alloc (.cells (shC ⟨true, false, true, false, false, false⟩).toArray 67)).alloc (.cells (rqV q ks hs bs kc hc bc).toArray 24)) ⟨true, false, true, false, false, false⟩ q (.slice ks q.key.length kc) (.slice hs q.high.length hc) (.slice bs q.batch.length bc) := by
    refine ⟨hold (hnew w _), ?_, ((Below.refl w.heap.size w).alloc (Nat.le_refl _) _).alloc (by simp) _, by simp⟩
    have := hnew (w.alloc (.cells (shC ⟨true, false, true, false, false, false⟩).toArray 67)) (.cells (rqV q ks hs bs kc hc bc).toArray 24)
    rwa [show (w.alloc (.cells (shC ⟨true, false, true, false, false, false⟩).toArray 67)).heap.size = w.heap.size + 1 by simp] at this
  have KA := hid (appendNumber_any _ (w.heap.size + 2) (.slice none 0 0) [] q.op 1 (by omega) hB.op.1 hB.op.2 (Own.nil ((w.alloc (.cells (shC ⟨true, false, true, false, false, false⟩).toArray 67)).alloc (.cells (rqV q ks hs bs kc hc bc).toArray 24)) _) (by simp) (by simp))
  simp only [opt, if_true, if_false, Bool.false_eq_true, List.append_nil]
  have c2 := L2.rc.1
  go_enter Try.func29, Try.ntmps29
  go_wp2_with fail
  refine KA.out.mono ?_
  clear KA
  generalize ((w.alloc (.cells (shC ⟨true, false, true, false, false, false⟩).toArray 67)).alloc (.cells (rqV q ks hs bs kc hc bc).toArray 24)) = w2 at *
  clear c2
  rintro e w3 ⟨v3, rfl, O3, hb3⟩
  have L3 := L2.call hb3
  rw [List.nil_append] at O3
  have HN3 := hid (lowN_len 1 q.op)
  generalize hz3 : lowN q.op 1 = z3 at O3 HN3
  replace hz3 := hid hz3
  clear hb3 L2
  obtain ⟨sa3, sb3, sc3, sd3, se3, sf3⟩ := L3.sc
  obtain ⟨ra3, rb3, rc3, rd3, re3, rf3, rg3⟩ := L3.rc
  have KL3 := hid (show z3.length + q.key.length ≤ 140737488351232 by rw [HN3.out]; omega)
  have HS3 := hid ((hI.sk.below L3.bel (Nat.le_refl _)))
  go_wp2_with (first | (at_builtin; refine wpList_append_wide rfl (.tmp 11) (.tmp 13) rfl (w.heap.size + 2) v3 z3 q.key rfl O3 ks kc rfl hI.nk HS3.out KL3.out L3.sz ?_; intro v4 w4 O4 hg4 hd4; refine Hid.out ?_))
  refine hid ?_
  have L4 := L3.call (grown_keeps hg4 (fun k hk => (O3.block k hk).1) L3.sz)
  generalize hz4 : z3 ++ q.key = z4 at O4
  have HN4 := hid (show z4.length = 1 + q.key.length by rw [← hz4, List.length_append, HN3.out])
  replace hz4 := hid hz4
  clear L3 O3 sa3 sb3 sc3 sd3 se3 sf3 ra3 rb3 rc3 rd3 re3 rf3 rg3
  obtain ⟨sa4, sb4, sc4, sd4, se4, sf4⟩ := L4.sc
  obtain ⟨ra4, rb4, rc4, rd4, re4, rf4, rg4⟩ := L4.rc
  have KA4 := hid (appendNumber_any w4 (w.heap.size + 2) v4 z4 q.ver 8 (by omega) hB.ver.1 hB.ver.2 O4 L4.sz (by rw [HN4.out]; omega))
  go_wp2_with fail
  refine KA4.out.mono ?_
  clear KA4
  rintro e w5 ⟨v5, rfl, O5, hb5⟩
  have L5 := L4.call hb5
  generalize hz5 : z4 ++ lowN q.ver 8 = z5 at O5
  have HN5 := hid (show z5.length = (1 + q.key.length) + 8 by rw [← hz5, List.length_append, lowN_len, HN4.out])
  replace hz5 := hid hz5
  clear L4 O4 sa4 sb4 sc4 sd4 se4 sf4 ra4 rb4 rc4 rd4 re4 rf4 rg4
  obtain ⟨sa5, sb5, sc5, sd5, se5, sf5⟩ := L5.sc
  go_wp2
  go_ret
  refine ⟨_, rfl, ?_, L5.bel⟩
  rw [hz3.out, hz4.out, hz5.out]
  exact own_lower O5 (by omega)

set_option maxRecDepth 100000 in
set_option maxHeartbeats 2000000 in
theorem lay_3 (w : World) (q : Rq) (hB : RqB q) (ks hs bs : Option Addr) (kc hc bc : Nat) (hI : RqIn w q ks hs bs kc hc bc) (l1 : True) (l2 : True) (l3 : True) :
    Calls Try.prog 29 #[.agg (shC ⟨false, false, true, false, false, false⟩).toArray, .agg (rqV q ks hs bs kc hc bc).toArray] w fun e w' => ∃ v, e = .returned v ∧ Own w' w.heap.size v (lowN q.op 1 ++ opt false q.key ++ opt false q.high ++ opt true (lowN q.ver 8) ++ opt false (lowN q.oth 8) ++ opt false (lowN q.lim 4) ++ opt false q.batch) ∧ Below w.heap.size w w' := by
  have L2 : LY w ((w.alloc (.cells (shC ⟨false, false, true, false, false, false⟩).toArray 67)).alloc (.cells (rqV q ks hs bs kc hc bc).toArray 24)) ⟨false, false, true, false, false, false⟩ q (.slice ks q.key.length kc) (.slice hs q.high.length hc) (.slice bs q.batch.length bc) := by
    refine ⟨hold (hnew w _), ?_, ((Below.refl w.heap.size w).alloc (Nat.le_refl _) _).alloc (by simp) _, by simp⟩
    have := hnew (w.alloc (.cells (shC ⟨false, false, true, false, false, false⟩).toArray 67)) (.cells (rqV q ks hs bs kc hc bc).toArray 24)
    rwa [show (w.alloc (.cells (shC ⟨false, false, true, false, false, false⟩).toArray 67)).heap.size = w.heap.size + 1 by simp] at this
  have KA := hid (appendNumber_any _ (w.heap.size + 2) (.slice none 0 0) [] q.op 1 (by omega) hB.op.1 hB.op.2 (Own.nil ((w.alloc (.cells (shC ⟨false, false, true, false, false, false⟩).toArray 67)).alloc (.cells (rqV q ks hs bs kc hc bc).toArray 24)) _) (by simp) (by simp))
  simp only [opt, if_true, if_false, Bool.false_eq_true, List.append_nil]
  have c2 := L2.rc.1
  go_enter Try.func29, Try.ntmps29
  go_wp2_with fail
  refine KA.out.mono ?_
  clear KA
  generalize ((w.alloc (.cells (shC ⟨false, false, true, false, false, false⟩).toArray 67)).alloc (.cells (rqV q ks hs bs kc hc bc).toArray 24)) = w2 at *
  clear c2
  rintro e w3 ⟨v3, rfl, O3, hb3⟩
  have L3 := L2.call hb3
  rw [List.nil_append] at O3
  have HN3 := hid (lowN_len 1 q.op)
  generalize hz3 : lowN q.op 1 = z3 at O3 HN3
  replace hz3 := hid hz3
  clear hb3 L2
  obtain ⟨sa3, sb3, sc3, sd3, se3, sf3⟩ := L3.sc
  obtain ⟨ra3, rb3, rc3, rd3, re3, rf3, rg3⟩ := L3.rc
  have KA3 := hid (appendNumber_any w3 (w.heap.size + 2) v3 z3 q.ver 8 (by omega) hB.ver.1 hB.ver.2 O3 L3.sz (by rw [HN3.out]; omega))
  go_wp2_with fail
  refine KA3.out.mono ?_
  clear KA3
  rintro e w4 ⟨v4, rfl, O4, hb4⟩
  have L4 := L3.call hb4
  generalize hz4 : z3 ++ lowN q.ver 8 = z4 at O4
  have HN4 := hid (show z4.length = 1 + 8 by rw [← hz4, List.length_append, lowN_len, HN3.out])
  replace hz4 := hid hz4
  clear L3 O3 sa3 sb3 sc3 sd3 se3 sf3 ra3 rb3 rc3 rd3 re3 rf3 rg3
  obtain ⟨sa4, sb4, sc4, sd4, se4, sf4⟩ := L4.sc
  go_wp2
  go_ret
  refine ⟨_, rfl, ?_, L4.bel⟩
  rw [hz3.out, hz4.out]
  exact own_lower O4 (by omega)

set_option maxRecDepth 100000 in
set_option maxHeartbeats 2000000 in
theorem lay_5 (w : World) (q : Rq) (hB : RqB q) (ks hs bs : Option Addr) (kc hc bc : Nat) (hI : RqIn w q ks hs bs kc hc bc) (l1 : q.key.length ≤ 12000) (l2 : q.high.length ≤ 12000) (l3 : True) :
    Calls Try.prog 29 #[.agg (shC ⟨true, true, true, false, false, false⟩).toArray, .agg (rqV q ks hs bs kc hc bc).toArray] w fun e w' => ∃ v, e = .returned v ∧ Own w' w.heap.size v (lowN q.op 1 ++ opt true q.key ++ opt true q.high ++ opt true (lowN q.ver 8) ++ opt false (lowN q.oth 8) ++ opt false (lowN q.lim 4) ++ opt false q.batch) ∧ Below w.heap.size w w' := by
  have L2 : LY w ((w.alloc (.cells (shC ⟨true, true, true, false, false, false⟩).toArray 67)).alloc (.cells (rqV q ks hs bs kc hc bc).toArray 24)) ⟨true, true, true, false, false, false⟩ q (.slice ks q.key.length kc) (.slice hs q.high.length hc) (.slice bs q.batch.length bc) := by
    refine ⟨hold (hnew w _), ?_, ((Below.refl w.heap.size w).alloc (Nat.le_refl _) _).alloc (by simp) _, by simp⟩
    have := hnew (w.alloc (.cells (shC ⟨true, true, true, false, false, false⟩).toArray 67)) (.cells (rqV q ks hs bs kc hc bc).toArray 24)
    rwa [show (w.alloc (.cells (shC ⟨true, true, true, false, false, false⟩).toArray 67)).heap.size = w.heap.size + 1 by simp] at this
  have KA := hid (appendNumber_any _ (w.heap.size + 2) (.slice none 0 0) [] q.op 1 (by omega) hB.op.1 hB.op.2 (Own.nil ((w.alloc (.cells (shC ⟨true, true, true, false, false, false⟩).toArray 67)).alloc (.cells (rqV q ks hs bs kc hc bc).toArray 24)) _) (by simp) (by simp))
  simp only [opt, if_true, if_false, Bool.false_eq_true, List.append_nil]
  have c2 := L2.rc.1
  go_enter Try.func29, Try.ntmps29
  go_wp2_with fail
  refine KA.out.mono ?_
  clear KA
  generalize ((w.alloc (.cells (shC ⟨true, true, true, false, false, false⟩).toArray 67)).alloc (.cells (rqV q ks hs bs kc hc bc).toArray 24)) = w2 at *
  clear c2
  rintro e w3 ⟨v3, rfl, O3, hb3⟩
  have L3 := L2.call hb3
  rw [List.nil_append] at O3
  have HN3 := hid (lowN_len 1 q.op)
  generalize hz3 : lowN q.op 1 = z3 at O3 HN3
  replace hz3 := hid hz3
  clear hb3 L2
  obtain ⟨sa3, sb3, sc3, sd3, se3, sf3⟩ := L3.sc
  obtain ⟨ra3, rb3, rc3, rd3, re3, rf3, rg3⟩ := L3.rc
  have KL3 := hid (show z3.length + q.key.length ≤ 140737488351232 by rw [HN3.out]; omega)
  have HS3 := hid ((hI.sk.below L3.bel (Nat.le_refl _)))
  go_wp2_with (first | (at_builtin; refine wpList_append_wide rfl (.tmp 11) (.tmp 13) rfl (w.heap.size + 2) v3 z3 q.key rfl O3 ks kc rfl hI.nk HS3.out KL3.out L3.sz ?_; intro v4 w4 O4 hg4 hd4; refine Hid.out ?_))
  refine hid ?_
  have L4 := L3.call (grown_keeps hg4 (fun k hk => (O3.block k hk).1) L3.sz)
  generalize hz4 : z3 ++ q.key = z4 at O4
  have HN4 := hid (show z4.length = 1 + q.key.length by rw [← hz4, List.length_append, HN3.out])
  replace hz4 := hid hz4
  clear L3 O3 sa3 sb3 sc3 sd3 se3 sf3 ra3 rb3 rc3 rd3 re3 rf3 rg3
  obtain ⟨sa4, sb4, sc4, sd4, se4, sf4⟩ := L4.sc
  obtain ⟨ra4, rb4, rc4, rd4, re4, rf4, rg4⟩ := L4.rc
  have KL4 := hid (show z4.length + q.high.length ≤ 140737488351232 by rw [HN4.out]; omega)
  have HS4 := hid ((hI.sh.below L4.bel (Nat.le_refl _)))
  go_wp2_with (first | (at_builtin; refine wpList_append_wide rfl (.tmp 17) (.tmp 19) rfl (w.heap.size + 2) v4 z4 q.high rfl O4 hs hc rfl hI.nh HS4.out KL4.out L4.sz ?_; intro v5 w5 O5 hg5 hd5; refine Hid.out ?_))
  refine hid ?_
  have L5 := L4.call (grown_keeps hg5 (fun k hk => (O4.block k hk).1) L4.sz)
  generalize hz5 : z4 ++ q.high = z5 at O5
  have HN5 := hid (show z5.length = (1 + q.key.length) + q.high.length by rw [← hz5, List.length_append, HN4.out])
  replace hz5 := hid hz5
  clear L4 O4 sa4 sb4 sc4 sd4 se4 sf4 ra4 rb4 rc4 rd4 re4 rf4 rg4
  obtain ⟨sa5, sb5, sc5, sd5, se5, sf5⟩ := L5.sc
  obtain ⟨ra5, rb5, rc5, rd5, re5, rf5, rg5⟩ := L5.rc
  have KA5 := hid (appendNumber_any w5 (w.heap.size + 2) v5 z5 q.ver 8 (by omega) hB.ver.1 hB.ver.2 O5 L5.sz (by rw [HN5.out]; omega))
  go_wp2_with fail
  refine KA5.out.mono ?_
  clear KA5
  rintro e w6 ⟨v6, rfl, O6, hb6⟩
  have L6 := L5.call hb6
  generalize hz6 : z5 ++ lowN q.ver 8 = z6 at O6
  have HN6 := hid (show z6.length = ((1 + q.key.length) + q.high.length) + 8 by rw [← hz6, List.length_append, lowN_len, HN5.out])
  replace hz6 := hid hz6
  clear L5 O5 sa5 sb5 sc5 sd5 se5 sf5 ra5 rb5 rc5 rd5 re5 rf5 rg5
  obtain ⟨sa6, sb6, sc6, sd6, se6, sf6⟩ := L6.sc
  go_wp2
  go_ret
  refine ⟨_, rfl, ?_, L6.bel⟩
  rw [hz3.out, hz4.out, hz5.out, hz6.out]
  exact own_lower O6 (by omega)

set_option maxRecDepth 100000 in
set_option maxHeartbeats 2000000 in
theorem lay_6 (w : World) (q : Rq) (hB : RqB q) (ks hs bs : Option Addr) (kc hc bc : Nat) (hI : RqIn w q ks hs bs kc hc bc) (l1 : q.key.length ≤ 12000) (l2 : q.high.length ≤ 12000) (l3 : True) :
    Calls Try.prog 29 #[.agg (shC ⟨true, true, true, false, true, false⟩).toArray, .agg (rqV q ks hs bs kc hc bc).toArray] w fun e w' => ∃ v, e = .returned v ∧ Own w' w.heap.size v (lowN q.op 1 ++ opt true q.key ++ opt true q.high ++ opt true (lowN q.ver 8) ++ opt false (lowN q.oth 8) ++ opt true (lowN q.lim 4) ++ opt false q.batch) ∧ Below w.heap.size w w' := by
  have L2 : LY w ((w.alloc (.cells (shC ⟨true, true, true, false, true, false⟩).toArray 67)).alloc (.cells (rqV q ks hs bs kc hc bc).toArray 24)) ⟨true, true, true, false, true, false⟩ q (.slice ks q.key.length kc) (.slice hs q.high.length hc) (.slice bs q.batch.length bc) := by
    refine ⟨hold (hnew w _), ?_, ((Below.refl w.heap.size w).alloc (Nat.le_refl _) _).alloc (by simp) _, by simp⟩
    have := hnew (w.alloc (.cells (shC ⟨true, true, true, false, true, false⟩).toArray 67)) (.cells (rqV q ks hs bs kc hc bc).toArray 24)
    rwa [show (w.alloc (.cells (shC ⟨true, true, true, false, true, false⟩).toArray 67)).heap.size = w.heap.size + 1 by simp] at this
  have KA := hid (appendNumber_any _ (w.heap.size + 2) (.slice none 0 0) [] q.op 1 (by omega) hB.op.1 hB.op.2 (Own.nil ((w.alloc (.cells (shC ⟨true, true, true, false, true, false⟩).toArray 67)).alloc (.cells (rqV q ks hs bs kc hc bc).toArray 24)) _) (by simp) (by simp))
  simp only [opt, if_true, if_false, Bool.false_eq_true, List.append_nil]
  have c2 := L2.rc.1
  go_enter Try.func29, Try.ntmps29
  go_wp2_with fail
  refine KA.out.mono ?_
  clear KA
  generalize ((w.alloc (.cells (shC ⟨true, true, true, false, true, false⟩).toArray 67)).alloc (.cells (rqV q ks hs bs kc hc bc).toArray 24)) = w2 at *
  clear c2
  rintro e w3 ⟨v3, rfl, O3, hb3⟩
  have L3 := L2.call hb3
  rw [List.nil_append] at O3
  have HN3 := hid (lowN_len 1 q.op)
  generalize hz3 : lowN q.op 1 = z3 at O3 HN3
  replace hz3 := hid hz3
  clear hb3 L2
  obtain ⟨sa3, sb3, sc3, sd3, se3, sf3⟩ := L3.sc
  obtain ⟨ra3, rb3, rc3, rd3, re3, rf3, rg3⟩ := L3.rc
  have KL3 := hid (show z3.length + q.key.length ≤ 140737488351232 by rw [HN3.out]; omega)
  have HS3 := hid ((hI.sk.below L3.bel (Nat.le_refl _)))
  go_wp2_with (first | (at_builtin; refine wpList_append_wide rfl (.tmp 11) (.tmp 13) rfl (w.heap.size + 2) v3 z3 q.key rfl O3 ks kc rfl hI.nk HS3.out KL3.out L3.sz ?_; intro v4 w4 O4 hg4 hd4; refine Hid.out ?_))
  refine hid ?_
  have L4 := L3.call (grown_keeps hg4 (fun k hk => (O3.block k hk).1) L3.sz)
  generalize hz4 : z3 ++ q.key = z4 at O4
  have HN4 := hid (show z4.length = 1 + q.key.length by rw [← hz4, List.length_append, HN3.out])
  replace hz4 := hid hz4
  clear L3 O3 sa3 sb3 sc3 sd3 se3 sf3 ra3 rb3 rc3 rd3 re3 rf3 rg3
  obtain ⟨sa4, sb4, sc4, sd4, se4, sf4⟩ := L4.sc
  obtain ⟨ra4, rb4, rc4, rd4, re4, rf4, rg4⟩ := L4.rc
  have KL4 := hid (show z4.length + q.high.length ≤ 140737488351232 by rw [HN4.out]; omega)
  have HS4 := hid ((hI.sh.below L4.bel (Nat.le_refl _)))
  go_wp2_with (first | (at_builtin; refine wpList_append_wide rfl (.tmp 17) (.tmp 19) rfl (w.heap.size + 2) v4 z4 q.high rfl O4 hs hc rfl hI.nh HS4.out KL4.out L4.sz ?_; intro v5 w5 O5 hg5 hd5; refine Hid.out ?_))
  refine hid ?_
  have L5 := L4.call (grown_keeps hg5 (fun k hk => (O4.block k hk).1) L4.sz)
  generalize hz5 : z4 ++ q.high = z5 at O5
  have HN5 := hid (show z5.length = (1 + q.key.length) + q.high.length by rw [← hz5, List.length_append, HN4.out])
  replace hz5 := hid hz5
  clear L4 O4 sa4 sb4 sc4 sd4 se4 sf4 ra4 rb4 rc4 rd4 re4 rf4 rg4
  obtain ⟨sa5, sb5, sc5, sd5, se5, sf5⟩ := L5.sc
  obtain ⟨ra5, rb5, rc5, rd5, re5, rf5, rg5⟩ := L5.rc
  have KA5 := hid (appendNumber_any w5 (w.heap.size + 2) v5 z5 q.ver 8 (by omega) hB.ver.1 hB.ver.2 O5 L5.sz (by rw [HN5.out]; omega))
  go_wp2_with fail
  refine KA5.out.mono ?_
  clear KA5
  rintro e w6 ⟨v6, rfl, O6, hb6⟩
  have L6 := L5.call hb6
  generalize hz6 : z5 ++ lowN q.ver 8 = z6 at O6
  have HN6 := hid (show z6.length = ((1 + q.key.length) + q.high.length) + 8 by rw [← hz6, List.length_append, lowN_len, HN5.out])
  replace hz6 := hid hz6
  clear L5 O5 sa5 sb5 sc5 sd5 se5 sf5 ra5 rb5 rc5 rd5 re5 rf5 rg5
  obtain ⟨sa6, sb6, sc6, sd6, se6, sf6⟩ := L6.sc
  obtain ⟨ra6, rb6, rc6, rd6, re6, rf6, rg6⟩ := L6.rc
  have KA6 := hid (appendNumber_any w6 (w.heap.size + 2) v6 z6 q.lim 4 (by omega) hB.lim.1 hB.lim.2 O6 L6.sz (by rw [HN6.out]; omega))
  go_wp2_with fail
  refine KA6.out.mono ?_
  clear KA6
  rintro e w7 ⟨v7, rfl, O7, hb7⟩
  have L7 := L6.call hb7
  generalize hz7 : z6 ++ lowN q.lim 4 = z7 at O7
  have HN7 := hid (show z7.length = (((1 + q.key.length) + q.high.length) + 8) + 4 by rw [← hz7, List.length_append, lowN_len, HN6.out])
  replace hz7 := hid hz7
  clear L6 O6 sa6 sb6 sc6 sd6 se6 sf6 ra6 rb6 rc6 rd6 re6 rf6 rg6
  obtain ⟨sa7, sb7, sc7, sd7, se7, sf7⟩ := L7.sc
  go_wp2
  go_ret
  refine ⟨_, rfl, ?_, L7.bel⟩
  rw [hz3.out, hz4.out, hz5.out, hz6.out, hz7.out]
  exact own_lower O7 (by omega)

set_option maxRecDepth 100000 in
set_option maxHeartbeats 2000000 in
theorem lay_7 (w : World) (q : Rq) (hB : RqB q) (ks hs bs : Option Addr) (kc hc bc : Nat) (hI : RqIn w q ks hs bs kc hc bc) (l1 : True) (l2 : True) (l3 : True) :
    Calls Try.prog 29 #[.agg (shC ⟨false, false, true, true, false, false⟩).toArray, .agg (rqV q ks hs bs kc hc bc).toArray] w fun e w' => ∃ v, e = .returned v ∧ Own w' w.heap.size v (lowN q.op 1 ++ opt false q.key ++ opt false q.high ++ opt true (lowN q.ver 8) ++ opt true (lowN q.oth 8) ++ opt false (lowN q.lim 4) ++ opt false q.batch) ∧ Below w.heap.size w w' := by
  have L2 : LY w ((w.alloc (.cells (shC ⟨false, false, true, true, false, false⟩).toArray 67)).alloc (.cells (rqV q ks hs bs kc hc bc).toArray 24)) ⟨false, false, true, true, false, false⟩ q (.slice ks q.key.length kc) (.slice hs q.high.length hc) (.slice bs q.batch.length bc) := by
    refine ⟨hold (hnew w _), ?_, ((Below.refl w.heap.size w).alloc (Nat.le_refl _) _).alloc (by simp) _, by simp⟩
    have := hnew (w.alloc (.cells (shC ⟨false, false, true, true, false, false⟩).toArray 67)) (.cells (rqV q ks hs bs kc hc bc).toArray 24)
    rwa [show (w.alloc (.cells (shC ⟨false, false, true, true, false, false⟩).toArray 67)).heap.size = w.heap.size + 1 by simp] at this
  have KA := hid (appendNumber_any _ (w.heap.size + 2) (.slice none 0 0) [] q.op 1 (by omega) hB.op.1 hB.op.2 (Own.nil ((w.alloc (.cells (shC ⟨false, false, true, true, false, false⟩).toArray 67)).alloc (.cells (rqV q ks hs bs kc hc bc).toArray 24)) _) (by simp) (by simp))
  simp only [opt, if_true, if_false, Bool.false_eq_true, List.append_nil]
  have c2 := L2.rc.1
  go_enter Try.func29, Try.ntmps29
  go_wp2_with fail
  refine KA.out.mono ?_
  clear KA
  generalize ((w.alloc (.cells (shC ⟨false, false, true, true, false, false⟩).toArray 67)).alloc (.cells (rqV q ks hs bs kc hc bc).toArray 24)) = w2 at *
  clear c2
  rintro e w3 ⟨v3, rfl, O3, hb3⟩
  have L3 := L2.call hb3
  rw [List.nil_append] at O3
  have HN3 := hid (lowN_len 1 q.op)
  generalize hz3 : lowN q.op 1 = z3 at O3 HN3
  replace hz3 := hid hz3
  clear hb3 L2
  obtain ⟨sa3, sb3, sc3, sd3, se3, sf3⟩ := L3.sc
  obtain ⟨ra3, rb3, rc3, rd3, re3, rf3, rg3⟩ := L3.rc
  have KA3 := hid (appendNumber_any w3 (w.heap.size + 2) v3 z3 q.ver 8 (by omega) hB.ver.1 hB.ver.2 O3 L3.sz (by rw [HN3.out]; omega))
  go_wp2_with fail
  refine KA3.out.mono ?_
  clear KA3
  rintro e w4 ⟨v4, rfl, O4, hb4⟩
  have L4 := L3.call hb4
  generalize hz4 : z3 ++ lowN q.ver 8 = z4 at O4
  have HN4 := hid (show z4.length = 1 + 8 by rw [← hz4, List.length_append, lowN_len, HN3.out])
  replace hz4 := hid hz4
  clear L3 O3 sa3 sb3 sc3 sd3 se3 sf3 ra3 rb3 rc3 rd3 re3 rf3 rg3
  obtain ⟨sa4, sb4, sc4, sd4, se4, sf4⟩ := L4.sc
  obtain ⟨ra4, rb4, rc4, rd4, re4, rf4, rg4⟩ := L4.rc
  have KA4 := hid (appendNumber_any w4 (w.heap.size + 2) v4 z4 q.oth 8 (by omega) hB.oth.1 hB.oth.2 O4 L4.sz (by rw [HN4.out]; omega))
  go_wp2_with fail
  refine KA4.out.mono ?_
  clear KA4
  rintro e w5 ⟨v5, rfl, O5, hb5⟩
  have L5 := L4.call hb5
  generalize hz5 : z4 ++ lowN q.oth 8 = z5 at O5
  have HN5 := hid (show z5.length = (1 + 8) + 8 by rw [← hz5, List.length_append, lowN_len, HN4.out])
  replace hz5 := hid hz5
  clear L4 O4 sa4 sb4 sc4 sd4 se4 sf4 ra4 rb4 rc4 rd4 re4 rf4 rg4
  obtain ⟨sa5, sb5, sc5, sd5, se5, sf5⟩ := L5.sc
  go_wp2
  go_ret
  refine ⟨_, rfl, ?_, L5.bel⟩
  rw [hz3.out, hz4.out, hz5.out]
  exact own_lower O5 (by omega)
end Go.Proofs.Ythdjgpdgedhonaa
