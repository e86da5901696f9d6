import Derived.Test.YtenfklcgkfaajaaDk63
namespace Go.Proofs.Ytenfklcgkfaajaa
set_option linter.unusedVariables false
set_option linter.unusedSimpArgs false
open Go.RowKit
attribute [local go_sem ↓] Go.wp_at_zero Go.wp_at_succ

set_option maxRecDepth 100000 in
set_option maxHeartbeats 4000000 in
theorem refRep_k (w : World) (op : Int) (o0 : -9223372036854775808 ≤ op) (o1 : op ≤ 9223372036854775807) (r : Rp) (hB : RpB r) (vs rs ls cs : Option Addr) (vc rc lc cc : Nat) (hI : RpI w r vs rs ls cs vc rc lc cc) (hk : knO op = false) :
    Calls Try.prog 23 #[.int .i64 op, .agg (rpV r vs rs ls cs vc rc lc cc).toArray] w fun e w' => ∃ v, e = .returned (.tuple #[v, .int .i64 200]) ∧ Own w' w.heap.size v ([]) ∧ Below w.heap.size w w' := by
  have L1 := YR.of w (rpV r vs rs ls cs vc rc lc cc)
  have hs1 : (w.alloc (.cells (rpV r vs rs ls cs vc rc lc cc).toArray 32)).heap.size = w.heap.size + 1 := by simp
  have HIL := hid hI.l
  have X1 := RC.of L1.rr hI.l
  have HB := hid L1.bel
  have c0 := X1.c0
  have KP := hid (parts_any (w.alloc (.cells (rpV r vs rs ls cs vc rc lc cc).toArray 32)) op o0 o1)
  rw [(prt_shape op).2 hk] at KP
  clear hk X1 L1 hs1
  go_enter Try.func23, Try.ntmps23
  go_wp2_with (first | (go_at_call 30; refine KP.out.mono ?_; rintro e w' ⟨rfl, rfl⟩))
  refine bodyPost_ret (results_tmp2 Try.results23 _ _ _) rfl ?_
  exact ⟨_, rfl, Own.nil _ _, HB.out⟩
set_option maxRecDepth 100000 in
set_option maxHeartbeats 4000000 in
theorem refRep_en (w : World) (op : Int) (o0 : -9223372036854775808 ≤ op) (o1 : op ≤ 9223372036854775807) (r : Rp) (hB : RpB r) (vs rs ls cs : Option Addr) (vc rc lc cc : Nat) (hI : RpI w r vs rs ls cs vc rc lc cc) (hk : knO op = true) (he : r.err < 0) :
    Calls Try.prog 23 #[.int .i64 op, .agg (rpV r vs rs ls cs vc rc lc cc).toArray] w fun e w' => ∃ v, e = .returned (.tuple #[v, .int .i64 200]) ∧ Own w' w.heap.size v ([]) ∧ Below w.heap.size w w' := by
  have L1 := YR.of w (rpV r vs rs ls cs vc rc lc cc)
  have hs1 : (w.alloc (.cells (rpV r vs rs ls cs vc rc lc cc).toArray 32)).heap.size = w.heap.size + 1 := by simp
  have HIL := hid hI.l
  have X1 := RC.of L1.rr hI.l
  have HB := hid L1.bel
  have c0 := X1.c0
  have KP := hid (parts_any (w.alloc (.cells (rpV r vs rs ls cs vc rc lc cc).toArray 32)) op o0 o1)
  have hp : (prt op == -2) = false := beq_eq_false_iff_ne.2 (prt_kn hk)
  generalize prt op = p at *
  clear hk X1 L1 hs1 hB hI
  generalize r.err = x at *
  go_enter Try.func23, Try.ntmps23
  go_wp2_with (first | (go_at_call 30; refine KP.out.mono ?_; rintro e w' ⟨rfl, rfl⟩))
  refine bodyPost_ret (results_tmp2 Try.results23 _ _ _) rfl ?_
  exact ⟨_, rfl, Own.nil _ _, HB.out⟩
set_option maxRecDepth 100000 in
set_option maxHeartbeats 4000000 in
theorem refRep_ep (w : World) (op : Int) (o0 : -9223372036854775808 ≤ op) (o1 : op ≤ 9223372036854775807) (r : Rp) (hB : RpB r) (vs rs ls cs : Option Addr) (vc rc lc cc : Nat) (hI : RpI w r vs rs ls cs vc rc lc cc) (hk : knO op = true) (he : 65535 < r.err) :
    Calls Try.prog 23 #[.int .i64 op, .agg (rpV r vs rs ls cs vc rc lc cc).toArray] w fun e w' => ∃ v, e = .returned (.tuple #[v, .int .i64 200]) ∧ Own w' w.heap.size v ([]) ∧ Below w.heap.size w w' := by
  have L1 := YR.of w (rpV r vs rs ls cs vc rc lc cc)
  have hs1 : (w.alloc (.cells (rpV r vs rs ls cs vc rc lc cc).toArray 32)).heap.size = w.heap.size + 1 := by simp
  have HIL := hid hI.l
  have X1 := RC.of L1.rr hI.l
  have HB := hid L1.bel
  have c0 := X1.c0
  have KP := hid (parts_any (w.alloc (.cells (rpV r vs rs ls cs vc rc lc cc).toArray 32)) op o0 o1)
  have hp : (prt op == -2) = false := beq_eq_false_iff_ne.2 (prt_kn hk)
  have he2 : ¬ r.err < 0 := by omega
  generalize prt op = p at *
  clear hk X1 L1 hs1 hB hI
  generalize r.err = x at *
  go_enter Try.func23, Try.ntmps23
  go_wp2_with (first | (go_at_call 30; refine KP.out.mono ?_; rintro e w' ⟨rfl, rfl⟩))
  refine bodyPost_ret (results_tmp2 Try.results23 _ _ _) rfl ?_
  exact ⟨_, rfl, Own.nil _ _, HB.out⟩
set_option maxRecDepth 100000 in
set_option maxHeartbeats 4000000 in
theorem refRep_er (w : World) (op : Int) (o0 : -9223372036854775808 ≤ op) (o1 : op ≤ 9223372036854775807) (r : Rp) (hB : RpB r) (vs rs ls cs : Option Addr) (vc rc lc cc : Nat) (hI : RpI w r vs rs ls cs vc rc lc cc) (hk : knO op = true) (he : r.err ≠ 0) (he0 : 0 ≤ r.err) (he1 : r.err ≤ 65535) :
    Calls Try.prog 23 #[.int .i64 op, .agg (rpV r vs rs ls cs vc rc lc cc).toArray] w fun e w' => ∃ v, e = .returned (.tuple #[v, .int .i64 0]) ∧ Own w' w.heap.size v (lowN r.err 2) ∧ Below w.heap.size w w' := by
  have L1 := YR.of w (rpV r vs rs ls cs vc rc lc cc)
  have hs1 : (w.alloc (.cells (rpV r vs rs ls cs vc rc lc cc).toArray 32)).heap.size = w.heap.size + 1 := by simp
  have HIL := hid hI.l
  have X1 := RC.of L1.rr hI.l
  have c0 := X1.c0
  have KP := hid (parts_any (w.alloc (.cells (rpV r vs rs ls cs vc rc lc cc).toArray 32)) op o0 o1)
  have KW := hid (Low_any (w.alloc (.cells (rpV r vs rs ls cs vc rc lc cc).toArray 32)) r.err 2 (by omega) hB.err.1 hB.err.2)
  have hp : (prt op == -2) = false := beq_eq_false_iff_ne.2 (prt_kn hk)
  have he2 : ¬ r.err < 0 := by omega
  have he3 : ¬ 65535 < r.err := by omega
  have he4 : (r.err == 0) = false := beq_eq_false_iff_ne.2 he
  generalize prt op = p at *
  clear hk X1 hB he
  generalize hx : r.err = x at *
  go_enter Try.func23, Try.ntmps23
  go_wp2_with (first | (go_at_call 30; refine KP.out.mono ?_; rintro e w' ⟨rfl, hw'⟩; obtain rfl := hw'.symm; refine Hid.out ?_))
  refine hid ?_
  generalize (w.alloc (.cells (rpV r vs rs ls cs vc rc lc cc).toArray 32)) = w1 at *
  go_wp2_with fail
  refine KW.out.mono ?_
  clear KW
  rintro e w2 ⟨v2, rfl, O2, hb2⟩
  have L2 := L1.call (hb2.mono (by omega))
  have c2 := (RC.of L2.rr HIL.out).c0
  rw [hx] at c2
  clear c0
  go_wp2
  refine bodyPost_ret (results_tmp2 Try.results23 _ _ _) rfl ?_
  exact ⟨_, rfl, own_lower O2 (by omega), L2.bel⟩
set_option maxRecDepth 100000 in
set_option maxHeartbeats 4000000 in
theorem refRep_f (w : World) (op : Int) (o0 : -9223372036854775808 ≤ op) (o1 : op ≤ 9223372036854775807) (r : Rp) (hB : RpB r) (vs rs ls cs : Option Addr) (vc rc lc cc : Nat) (hI : RpI w r vs rs ls cs vc rc lc cc) (hk : knO op = true) (he : r.err = 0) (hF : fdF op r = false) :
    Calls Try.prog 23 #[.int .i64 op, .agg (rpV r vs rs ls cs vc rc lc cc).toArray] w fun e w' => ∃ v, e = .returned (.tuple #[v, .int .i64 200]) ∧ Own w' w.heap.size v ([]) ∧ Below w.heap.size w w' := by
  have L1 := YR.of w (rpV r vs rs ls cs vc rc lc cc)
  have hs1 : (w.alloc (.cells (rpV r vs rs ls cs vc rc lc cc).toArray 32)).heap.size = w.heap.size + 1 := by simp
  have HIL := hid hI.l
  have X1 := RC.of L1.rr hI.l
  have c0 := X1.c0
  rw [he] at c0
  have KP := hid (parts_any (w.alloc (.cells (rpV r vs rs ls cs vc rc lc cc).toArray 32)) op o0 o1)
  have KW := hid (Low_any (w.alloc (.cells (rpV r vs rs ls cs vc rc lc cc).toArray 32)) 0 2 (by omega) (by omega) (by omega))
  have hp : (prt op == -2) = false := beq_eq_false_iff_ne.2 (prt_kn hk)
  generalize prt op = p at *
  have SR := hid (show (Try.prog.info? 32).map (·.size) = some (rpV r vs rs ls cs vc rc lc cc).toArray.size from (repSizes hI.l).1)
  clear hk X1
  go_enter Try.func23, Try.ntmps23
  go_wp2_with (first | (go_at_call 30; refine KP.out.mono ?_; rintro e w' ⟨rfl, hw'⟩; obtain rfl := hw'.symm; refine Hid.out ?_))
  refine hid ?_
  generalize (w.alloc (.cells (rpV r vs rs ls cs vc rc lc cc).toArray 32)) = w1 at *
  go_wp2_with fail
  refine KW.out.mono ?_
  clear KW
  rintro e w2 ⟨v2, rfl, O2, hb2⟩
  have L2 := L1.call (hb2.mono (by omega))
  have c2 := (RC.of L2.rr HIL.out).c0
  rw [he] at c2
  have KF := hid (xfits_any w2 op o0 o1 r hB vs rs ls cs vc rc lc cc (hI.below L2.bel))
  rw [hF] at KF
  have R2 := hid L2.rr
  clear c0 hF
  go_wp2_with (first | (refine wpList_load_row rfl 32 _ rfl w.heap.size rfl 32 _ (0, 0) _ R2.out Try.underlying32 rfl SR.out ?_) | (go_at_call 38; refine KF.out.mono ?_; rintro e w3 ⟨rfl, hb3⟩))
  refine bodyPost_ret (results_tmp2 Try.results23 _ _ _) rfl ?_
  exact ⟨_, rfl, Own.nil _ _, L2.bel.trans (hb3.mono L2.bel.size)⟩
end Go.Proofs.Ytenfklcgkfaajaa
namespace Go.Proofs.Ytenfklcgkfaajaa
set_option linter.unusedVariables false
set_option linter.unusedSimpArgs false
open Go.RowKit
attribute [local go_sem ↓] Go.wp_at_zero Go.wp_at_succ

set_option maxRecDepth 100000 in
set_option maxHeartbeats 4000000 in
theorem refRep_1 (w : World) (r : Rp) (hB : RpB r) (vs rs ls cs : Option Addr) (vc rc lc cc : Nat) (hI : RpI w r vs rs ls cs vc rc lc cc) (he : r.err = 0) (hF : fdF 1 r = true) :
    Calls Try.prog 23 #[.int .i64 1, .agg (rpV r vs rs ls cs vc rc lc cc).toArray] w fun e w' => ∃ v, e = .returned (.tuple #[v, .int .i64 0]) ∧ Own w' w.heap.size v (ryB 1 r) ∧ Below w.heap.size w w' := by
  have L1 := YR.of w (rpV r vs rs ls cs vc rc lc cc)
  have hs1 : (w.alloc (.cells (rpV r vs rs ls cs vc rc lc cc).toArray 32)).heap.size = w.heap.size + 1 := by simp
  have HIL := hid hI.l
  have X1 := RC.of L1.rr hI.l
  have c0 := X1.c0
  rw [he] at c0
  have KP := hid (parts_any (w.alloc (.cells (rpV r vs rs ls cs vc rc lc cc).toArray 32)) 1 (by omega) (by omega))
  rw [show prt 1 = -1 from by decide] at KP
  have KW := hid (Low_any (w.alloc (.cells (rpV r vs rs ls cs vc rc lc cc).toArray 32)) 0 2 (by omega) (by omega) (by omega))
  have SR := hid (show (Try.prog.info? 32).map (·.size) = some (rpV r vs rs ls cs vc rc lc cc).toArray.size from (repSizes hI.l).1)
  have HE := hid he
  have HQ := hid (show ryB 1 r = lowN 0 2 ++ lowN r.ver 8 by unfold ryB; rw [he, if_pos rfl]; rfl)
  have hv := hB.ver
  clear X1
  go_enter Try.func23, Try.ntmps23
  go_wp2_with (first | (go_at_call 30; refine KP.out.mono ?_; rintro e w' ⟨rfl, hw'⟩; obtain rfl := hw'.symm; refine Hid.out ?_))
  refine hid ?_
  generalize (w.alloc (.cells (rpV r vs rs ls cs vc rc lc cc).toArray 32)) = w1 at *
  go_wp2_with fail
  refine KW.out.mono ?_
  clear KW KP
  rintro e w2 ⟨v2, rfl, O2, hb2⟩
  have L2 := L1.call (hb2.mono (by omega))
  have c2 := (RC.of L2.rr HIL.out).c0
  rw [he] at c2
  have KF := hid (xfits_any w2 1 (by omega) (by omega) r hB vs rs ls cs vc rc lc cc (hI.below L2.bel))
  rw [hF] at KF
  have R2 := hid L2.rr
  rw [hs1] at O2
  replace hF := hid hF
  clear c0 he L1 hb2 hs1
  go_wp2_with (first | (refine wpList_load_row rfl 32 _ rfl w.heap.size rfl 32 _ (0, 0) _ R2.out Try.underlying32 rfl SR.out ?_) | (go_at_call 38; refine KF.out.mono ?_; rintro e w3 ⟨rfl, hb3⟩; refine Hid.out ?_))
  refine hid ?_
  have L3 := L2.call (hb3.mono L2.sz)
  have O3 := O2.below hb3 (Nat.le_refl _)
  generalize hz3 : lowN 0 2 = z3 at O3
  have HN3 := hid (show z3.length ≤ 2 by rw [← hz3, lowN_len]; exact Nat.le_refl _)
  replace hz3 := hid hz3
  generalize v2 = v3 at *
  clear c2 KF R2 SR L2 O2 hb3
  have X3 := RC.of L3.rr HIL.out
  have d1 := X3.c1
  have KW := hid (Low_any w3 r.ver 8 (by omega) hv.1 hv.2)
  go_wp2_with fail
  refine KW.out.mono ?_
  clear KW
  rintro e x4 ⟨u4, rfl, P4, hb4⟩
  have M4 := L3.call (hb4.mono L3.sz)
  have N4 := O3.below hb4 (Nat.le_refl _)
  obtain ⟨s4, c4, rfl, SS4, n4⟩ := P4.form
  have KL4 := hid (show z3.length + (lowN r.ver 8).length ≤ 140737488355328 by rw [lowN_len]; have := HN3.out; omega)
  go_wp2_with (first | (at_builtin; refine wpList_append_wide3 rfl (.tmp 37) (.tmp 40) rfl (w.heap.size + 1) v3 z3 (lowN r.ver 8) rfl N4 s4 c4 rfl n4 SS4 KL4.out M4.sz ?_; intro v4 w4 O4 hg4 hd4; refine Hid.out ?_))
  refine hid ?_
  have L4 := M4.call (grown_keeps hg4 (fun k hk => (N4.block k hk).1) M4.sz)
  generalize hz4 : z3 ++ (lowN r.ver 8) = z4 at O4
  have HN4 := hid (show z4.length ≤ 2 + 8 by rw [← hz4, List.length_append]; rw [lowN_len]; have := HN3.out; omega)
  replace hz4 := hid hz4
  clear hg4 hd4 KL4 O3 L3
  clear M4 N4 SS4 P4 hb4
  clear d1
  go_wp2
  refine bodyPost_ret (results_tmp2 Try.results23 _ _ _) rfl ?_
  have OF := O4
  rw [← hz4.out, ← hz3.out] at OF
  refine ⟨_, rfl, ?_, L4.bel⟩
  rw [HQ.out]
  exact own_lower OF (by omega)
end Go.Proofs.Ytenfklcgkfaajaa
namespace Go.Proofs.Ytenfklcgkfaajaa
set_option linter.unusedVariables false
set_option linter.unusedSimpArgs false
open Go.RowKit
attribute [local go_sem ↓] Go.wp_at_zero Go.wp_at_succ

set_option maxRecDepth 100000 in
set_option maxHeartbeats 4000000 in
theorem refRep_2n (w : World) (r : Rp) (hB : RpB r) (vs rs ls cs : Option Addr) (vc rc lc cc : Nat) (hI : RpI w r vs rs ls cs vc rc lc cc) (he : r.err = 0) (hF : fdF 2 r = true) (hf : r.found = false) :
    Calls Try.prog 23 #[.int .i64 2, .agg (rpV r vs rs ls cs vc rc lc cc).toArray] w fun e w' => ∃ v, e = .returned (.tuple #[v, .int .i64 0]) ∧ Own w' w.heap.size v (ryB 2 r) ∧ Below w.heap.size w w' := by
  have L1 := YR.of w (rpV r vs rs ls cs vc rc lc cc)
  have hs1 : (w.alloc (.cells (rpV r vs rs ls cs vc rc lc cc).toArray 32)).heap.size = w.heap.size + 1 := by simp
  have HIL := hid hI.l
  have X1 := RC.of L1.rr hI.l
  have c0 := X1.c0
  rw [he] at c0
  have KP := hid (parts_any (w.alloc (.cells (rpV r vs rs ls cs vc rc lc cc).toArray 32)) 2 (by omega) (by omega))
  rw [show prt 2 = 40 from by decide] at KP
  have KW := hid (Low_any (w.alloc (.cells (rpV r vs rs ls cs vc rc lc cc).toArray 32)) 0 2 (by omega) (by omega) (by omega))
  have SR := hid (show (Try.prog.info? 32).map (·.size) = some (rpV r vs rs ls cs vc rc lc cc).toArray.size from (repSizes hI.l).1)
  have HE := hid he
  have HQ := hid (show ryB 2 r = lowN 0 2 ++ [0] by unfold ryB; rw [he, if_pos rfl]; rw [show fdB 2 r = [0] from by unfold fdB; simp [hf, flB]])
  clear X1
  go_enter Try.func23, Try.ntmps23
  go_wp2_with (first | (go_at_call 30; refine KP.out.mono ?_; rintro e w' ⟨rfl, hw'⟩; obtain rfl := hw'.symm; refine Hid.out ?_))
  refine hid ?_
  generalize (w.alloc (.cells (rpV r vs rs ls cs vc rc lc cc).toArray 32)) = w1 at *
  go_wp2_with fail
  refine KW.out.mono ?_
  clear KW KP
  rintro e w2 ⟨v2, rfl, O2, hb2⟩
  have L2 := L1.call (hb2.mono (by omega))
  have c2 := (RC.of L2.rr HIL.out).c0
  rw [he] at c2
  have KF := hid (xfits_any w2 2 (by omega) (by omega) r hB vs rs ls cs vc rc lc cc (hI.below L2.bel))
  rw [hF] at KF
  have R2 := hid L2.rr
  rw [hs1] at O2
  replace hF := hid hF
  clear c0 he L1 hb2 hs1
  go_wp2_with (first | (refine wpList_load_row rfl 32 _ rfl w.heap.size rfl 32 _ (0, 0) _ R2.out Try.underlying32 rfl SR.out ?_) | (go_at_call 38; refine KF.out.mono ?_; rintro e w3 ⟨rfl, hb3⟩; refine Hid.out ?_))
  refine hid ?_
  have L3 := L2.call (hb3.mono L2.sz)
  have O3 := O2.below hb3 (Nat.le_refl _)
  generalize hz3 : lowN 0 2 = z3 at O3
  have HN3 := hid (show z3.length ≤ 2 by rw [← hz3, lowN_len]; exact Nat.le_refl _)
  replace hz3 := hid hz3
  generalize v2 = v3 at *
  clear c2 KF R2 SR L2 O2 hb3
  have X3 := RC.of L3.rr HIL.out
  have d2 := X3.c2
  rw [hf] at d2
  have hf0 := hid hf
  clear hf
  have KW := hid (xflag_to w3 false 0 rfl)
  go_wp2_with fail
  refine KW.out.mono ?_
  clear KW
  rintro e w' ⟨rfl, hw'⟩
  obtain rfl := hw'.symm
  have KL4 := hid (show z3.length + 1 ≤ 140737488355328 by have := HN3.out; omega)
  go_wp2_with (first | (at_builtin; refine wpList_push_any rfl (.tmp 44) (.tmp 48) rfl (w.heap.size + 1) v3 z3 0 rfl O3 rfl KL4.out L3.sz _ _ ?_; intro v4 w4 O4 hB4; refine Hid.out ?_))
  refine hid ?_
  have L4 := L3.call hB4
  generalize hz4 : z3 ++ ([0]) = z4 at O4
  have HN4 := hid (show z4.length ≤ 2 + 1 by rw [← hz4, List.length_append]; simp only [List.length_singleton]; have := HN3.out; omega)
  replace hz4 := hid hz4
  clear hB4 KL4 O3 L3
  clear d2
  have X4 := RC.of L4.rr HIL.out
  have d2 := X4.c2
  rw [hf0.out] at d2
  go_wp2
  refine bodyPost_ret (results_tmp2 Try.results23 _ _ _) rfl ?_
  have OF := O4
  rw [← hz4.out, ← hz3.out] at OF
  refine ⟨_, rfl, ?_, L4.bel⟩
  rw [HQ.out]
  exact own_lower OF (by omega)
end Go.Proofs.Ytenfklcgkfaajaa
namespace Go.Proofs.Ytenfklcgkfaajaa
set_option linter.unusedVariables false
set_option linter.unusedSimpArgs false
open Go.RowKit
attribute [local go_sem ↓] Go.wp_at_zero Go.wp_at_succ

set_option maxRecDepth 100000 in
set_option maxHeartbeats 4000000 in
theorem refRep_2y (w : World) (r : Rp) (hB : RpB r) (vs rs ls cs : Option Addr) (vc rc lc cc : Nat) (hI : RpI w r vs rs ls cs vc rc lc cc) (he : r.err = 0) (hF : fdF 2 r = true) (hf : r.found = true) :
    Calls Try.prog 23 #[.int .i64 2, .agg (rpV r vs rs ls cs vc rc lc cc).toArray] w fun e w' => ∃ v, e = .returned (.tuple #[v, .int .i64 0]) ∧ Own w' w.heap.size v (ryB 2 r) ∧ Below w.heap.size w w' := by
  have L1 := YR.of w (rpV r vs rs ls cs vc rc lc cc)
  have hs1 : (w.alloc (.cells (rpV r vs rs ls cs vc rc lc cc).toArray 32)).heap.size = w.heap.size + 1 := by simp
  have HIL := hid hI.l
  have X1 := RC.of L1.rr hI.l
  have c0 := X1.c0
  rw [he] at c0
  have KP := hid (parts_any (w.alloc (.cells (rpV r vs rs ls cs vc rc lc cc).toArray 32)) 2 (by omega) (by omega))
  rw [show prt 2 = 40 from by decide] at KP
  have KW := hid (Low_any (w.alloc (.cells (rpV r vs rs ls cs vc rc lc cc).toArray 32)) 0 2 (by omega) (by omega) (by omega))
  have SR := hid (show (Try.prog.info? 32).map (·.size) = some (rpV r vs rs ls cs vc rc lc cc).toArray.size from (repSizes hI.l).1)
  have HE := hid he
  have HQ := hid (show ryB 2 r = lowN 0 2 ++ [1] ++ lowN (r.val.length : Int) 2 ++ r.val by unfold ryB; rw [he, if_pos rfl]; rw [show fdB 2 r = [1] ++ (lowN (r.val.length : Int) 2 ++ r.val) from by unfold fdB vaB; simp [hf, flB]]; simp only [List.append_assoc])
  have hvl : r.val.length ≤ 128 := by unfold fdF at hF; simpa [hf] using hF
  have j1 : (r.val.length : Int) ≤ 128 := by omega
  clear X1
  go_enter Try.func23, Try.ntmps23
  go_wp2_with (first | (go_at_call 30; refine KP.out.mono ?_; rintro e w' ⟨rfl, hw'⟩; obtain rfl := hw'.symm; refine Hid.out ?_))
  refine hid ?_
  generalize (w.alloc (.cells (rpV r vs rs ls cs vc rc lc cc).toArray 32)) = w1 at *
  go_wp2_with fail
  refine KW.out.mono ?_
  clear KW KP
  rintro e w2 ⟨v2, rfl, O2, hb2⟩
  have L2 := L1.call (hb2.mono (by omega))
  have c2 := (RC.of L2.rr HIL.out).c0
  rw [he] at c2
  have KF := hid (xfits_any w2 2 (by omega) (by omega) r hB vs rs ls cs vc rc lc cc (hI.below L2.bel))
  rw [hF] at KF
  have R2 := hid L2.rr
  rw [hs1] at O2
  replace hF := hid hF
  clear c0 he L1 hb2 hs1
  go_wp2_with (first | (refine wpList_load_row rfl 32 _ rfl w.heap.size rfl 32 _ (0, 0) _ R2.out Try.underlying32 rfl SR.out ?_) | (go_at_call 38; refine KF.out.mono ?_; rintro e w3 ⟨rfl, hb3⟩; refine Hid.out ?_))
  refine hid ?_
  have L3 := L2.call (hb3.mono L2.sz)
  have O3 := O2.below hb3 (Nat.le_refl _)
  generalize hz3 : lowN 0 2 = z3 at O3
  have HN3 := hid (show z3.length ≤ 2 by rw [← hz3, lowN_len]; exact Nat.le_refl _)
  replace hz3 := hid hz3
  generalize v2 = v3 at *
  clear c2 KF R2 SR L2 O2 hb3
  have X3 := RC.of L3.rr HIL.out
  have d2 := X3.c2
  rw [hf] at d2
  have hf0 := hid hf
  clear hf
  have KW := hid (xflag_to w3 true 1 rfl)
  go_wp2_with fail
  refine KW.out.mono ?_
  clear KW
  rintro e w' ⟨rfl, hw'⟩
  obtain rfl := hw'.symm
  have KL4 := hid (show z3.length + 1 ≤ 140737488355328 by have := HN3.out; omega)
  go_wp2_with (first | (at_builtin; refine wpList_push_any rfl (.tmp 44) (.tmp 48) rfl (w.heap.size + 1) v3 z3 1 rfl O3 rfl KL4.out L3.sz _ _ ?_; intro v4 w4 O4 hB4; refine Hid.out ?_))
  refine hid ?_
  have L4 := L3.call hB4
  generalize hz4 : z3 ++ ([1]) = z4 at O4
  have HN4 := hid (show z4.length ≤ 2 + 1 by rw [← hz4, List.length_append]; simp only [List.length_singleton]; have := HN3.out; omega)
  replace hz4 := hid hz4
  clear hB4 KL4 O3 L3
  clear d2
  have X4 := RC.of L4.rr HIL.out
  have d2 := X4.c2
  have d4 := X4.c4
  rw [hf0.out] at d2
  have KW := hid (Low_any w4 (r.val.length : Int) 2 (by omega) (by omega) (by omega))
  go_wp2_with fail
  refine KW.out.mono ?_
  clear KW
  rintro e x5 ⟨u5, rfl, P5, hb5⟩
  have M5 := L4.call (hb5.mono L4.sz)
  have N5 := O4.below hb5 (Nat.le_refl _)
  obtain ⟨s5, c5, rfl, SS5, n5⟩ := P5.form
  have KL5 := hid (show z4.length + (lowN (r.val.length : Int) 2).length ≤ 140737488355328 by rw [lowN_len]; have := HN4.out; omega)
  go_wp2_with (first | (at_builtin; refine wpList_append_wide3 rfl (.tmp 52) (.tmp 56) rfl (w.heap.size + 1) v4 z4 (lowN (r.val.length : Int) 2) rfl N5 s5 c5 rfl n5 SS5 KL5.out M5.sz ?_; intro v5 w5 O5 hg5 hd5; refine Hid.out ?_))
  refine hid ?_
  have L5 := M5.call (grown_keeps hg5 (fun k hk => (N5.block k hk).1) M5.sz)
  generalize hz5 : z4 ++ (lowN (r.val.length : Int) 2) = z5 at O5
  have HN5 := hid (show z5.length ≤ 2 + 1 + 2 by rw [← hz5, List.length_append]; rw [lowN_len]; have := HN4.out; omega)
  replace hz5 := hid hz5
  clear hg5 hd5 KL5 O4 L4
  clear M5 N5 SS5 P5 hb5
  clear d2 d4
  have X5 := RC.of L5.rr HIL.out
  have d4 := X5.c4
  have SS := hid (hI.sv.below L5.bel (Nat.le_refl _))
  have KL6 := hid (show z5.length + (r.val).length ≤ 140737488355328 by have := HN5.out; omega)
  go_wp2_with (first | (at_builtin; refine wpList_append_wide3 rfl (.tmp 58) (.tmp 60) rfl (w.heap.size + 1) v5 z5 (r.val) rfl O5 vs vc rfl hI.nv SS.out KL6.out L5.sz ?_; intro v6 w6 O6 hg6 hd6; refine Hid.out ?_))
  refine hid ?_
  have L6 := L5.call (grown_keeps hg6 (fun k hk => (O5.block k hk).1) L5.sz)
  generalize hz6 : z5 ++ (r.val) = z6 at O6
  have HN6 := hid (show z6.length ≤ 2 + 1 + 2 + 128 by rw [← hz6, List.length_append]; have := HN5.out; omega)
  replace hz6 := hid hz6
  clear hg6 hd6 KL6 O5 L5
  clear d4
  go_wp2
  refine bodyPost_ret (results_tmp2 Try.results23 _ _ _) rfl ?_
  have OF := O6
  rw [← hz6.out, ← hz5.out, ← hz4.out, ← hz3.out] at OF
  refine ⟨_, rfl, ?_, L6.bel⟩
  rw [HQ.out]
  exact own_lower OF (by omega)
end Go.Proofs.Ytenfklcgkfaajaa
namespace Go.Proofs.Ytenfklcgkfaajaa
set_option linter.unusedVariables false
set_option linter.unusedSimpArgs false
open Go.RowKit
attribute [local go_sem ↓] Go.wp_at_zero Go.wp_at_succ

set_option maxRecDepth 100000 in
set_option maxHeartbeats 4000000 in
theorem refRep_3 (w : World) (r : Rp) (hB : RpB r) (vs rs ls cs : Option Addr) (vc rc lc cc : Nat) (hI : RpI w r vs rs ls cs vc rc lc cc) (he : r.err = 0) (hF : fdF 3 r = true) :
    Calls Try.prog 23 #[.int .i64 3, .agg (rpV r vs rs ls cs vc rc lc cc).toArray] w fun e w' => ∃ v, e = .returned (.tuple #[v, .int .i64 0]) ∧ Own w' w.heap.size v (ryB 3 r) ∧ Below w.heap.size w w' := by
  have L1 := YR.of w (rpV r vs rs ls cs vc rc lc cc)
  have hs1 : (w.alloc (.cells (rpV r vs rs ls cs vc rc lc cc).toArray 32)).heap.size = w.heap.size + 1 := by simp
  have HIL := hid hI.l
  have X1 := RC.of L1.rr hI.l
  have c0 := X1.c0
  rw [he] at c0
  have KP := hid (parts_any (w.alloc (.cells (rpV r vs rs ls cs vc rc lc cc).toArray 32)) 3 (by omega) (by omega))
  rw [show prt 3 = 8 from by decide] at KP
  have KW := hid (Low_any (w.alloc (.cells (rpV r vs rs ls cs vc rc lc cc).toArray 32)) 0 2 (by omega) (by omega) (by omega))
  have SR := hid (show (Try.prog.info? 32).map (·.size) = some (rpV r vs rs ls cs vc rc lc cc).toArray.size from (repSizes hI.l).1)
  have HE := hid he
  have HQ := hid (show ryB 3 r = lowN 0 2 ++ r.sum by unfold ryB; rw [he, if_pos rfl]; rfl)
  have SD := hid (show (Try.prog.info? 26).map (·.size) = some (ints .u8 r.sum).length by rw [ints_len, hI.l.sum]; exact Try.sizeDg)
  have HS := hid hI.l.sum
  clear X1
  go_enter Try.func23, Try.ntmps23
  go_wp2_with (first | (go_at_call 30; refine KP.out.mono ?_; rintro e w' ⟨rfl, hw'⟩; obtain rfl := hw'.symm; refine Hid.out ?_))
  refine hid ?_
  generalize (w.alloc (.cells (rpV r vs rs ls cs vc rc lc cc).toArray 32)) = w1 at *
  go_wp2_with fail
  refine KW.out.mono ?_
  clear KW KP
  rintro e w2 ⟨v2, rfl, O2, hb2⟩
  have L2 := L1.call (hb2.mono (by omega))
  have c2 := (RC.of L2.rr HIL.out).c0
  rw [he] at c2
  have KF := hid (xfits_any w2 3 (by omega) (by omega) r hB vs rs ls cs vc rc lc cc (hI.below L2.bel))
  rw [hF] at KF
  have R2 := hid L2.rr
  rw [hs1] at O2
  replace hF := hid hF
  clear c0 he L1 hb2 hs1
  go_wp2_with (first | (refine wpList_load_row rfl 32 _ rfl w.heap.size rfl 32 _ (0, 0) _ R2.out Try.underlying32 rfl SR.out ?_) | (go_at_call 38; refine KF.out.mono ?_; rintro e w3 ⟨rfl, hb3⟩; refine Hid.out ?_))
  refine hid ?_
  have L3 := L2.call (hb3.mono L2.sz)
  have O3 := O2.below hb3 (Nat.le_refl _)
  generalize hz3 : lowN 0 2 = z3 at O3
  have HN3 := hid (show z3.length ≤ 2 by rw [← hz3, lowN_len]; exact Nat.le_refl _)
  replace hz3 := hid hz3
  generalize v2 = v3 at *
  clear c2 KF R2 SR L2 O2 hb3
  have X3 := RC.of L3.rr HIL.out
  have XS := hid X3.sm
  have KW := hid (xdigest_any w3 r.sum HS.out)
  go_wp2_with (first | (refine wpList_load_mid rfl 26 _ rfl w.heap.size 5 rfl _ _ XS.out Try.underlying26 rfl SD.out ?_))
  refine KW.out.mono ?_
  clear KW
  rintro e x4 ⟨u4, rfl, P4, hb4⟩
  have M4 := L3.call (hb4.mono L3.sz)
  have N4 := O3.below hb4 (Nat.le_refl _)
  obtain ⟨s4, c4, rfl, SS4, n4⟩ := P4.form
  have KL4 := hid (show z3.length + (r.sum).length ≤ 140737488355328 by rw [HS.out]; have := HN3.out; omega)
  go_wp2_with (first | (at_builtin; refine wpList_append_wide3 rfl (.tmp 64) (.tmp 67) rfl (w.heap.size + 1) v3 z3 (r.sum) rfl N4 s4 c4 rfl n4 SS4 KL4.out M4.sz ?_; intro v4 w4 O4 hg4 hd4; refine Hid.out ?_))
  refine hid ?_
  have L4 := M4.call (grown_keeps hg4 (fun k hk => (N4.block k hk).1) M4.sz)
  generalize hz4 : z3 ++ (r.sum) = z4 at O4
  have HN4 := hid (show z4.length ≤ 2 + 32 by rw [← hz4, List.length_append]; rw [HS.out]; have := HN3.out; omega)
  replace hz4 := hid hz4
  clear hg4 hd4 KL4 O3 L3
  clear M4 N4 SS4 P4 hb4
  go_wp2
  refine bodyPost_ret (results_tmp2 Try.results23 _ _ _) rfl ?_
  have OF := O4
  rw [← hz4.out, ← hz3.out] at OF
  refine ⟨_, rfl, ?_, L4.bel⟩
  rw [HQ.out]
  exact own_lower OF (by omega)
end Go.Proofs.Ytenfklcgkfaajaa
namespace Go.Proofs.Ytenfklcgkfaajaa
set_option linter.unusedVariables false
set_option linter.unusedSimpArgs false
open Go.RowKit
attribute [local go_sem ↓] Go.wp_at_zero Go.wp_at_succ

set_option maxRecDepth 100000 in
set_option maxHeartbeats 4000000 in
theorem refRep_4 (w : World) (r : Rp) (hB : RpB r) (vs rs ls cs : Option Addr) (vc rc lc cc : Nat) (hI : RpI w r vs rs ls cs vc rc lc cc) (he : r.err = 0) (hF : fdF 4 r = true) :
    Calls Try.prog 23 #[.int .i64 4, .agg (rpV r vs rs ls cs vc rc lc cc).toArray] w fun e w' => ∃ v, e = .returned (.tuple #[v, .int .i64 0]) ∧ Own w' w.heap.size v (ryB 4 r) ∧ Below w.heap.size w w' := by
  have L1 := YR.of w (rpV r vs rs ls cs vc rc lc cc)
  have hs1 : (w.alloc (.cells (rpV r vs rs ls cs vc rc lc cc).toArray 32)).heap.size = w.heap.size + 1 := by simp
  have HIL := hid hI.l
  have X1 := RC.of L1.rr hI.l
  have c0 := X1.c0
  rw [he] at c0
  have KP := hid (parts_any (w.alloc (.cells (rpV r vs rs ls cs vc rc lc cc).toArray 32)) 4 (by omega) (by omega))
  rw [show prt 4 = 40 from by decide] at KP
  have KW := hid (Low_any (w.alloc (.cells (rpV r vs rs ls cs vc rc lc cc).toArray 32)) 0 2 (by omega) (by omega) (by omega))
  have SR := hid (show (Try.prog.info? 32).map (·.size) = some (rpV r vs rs ls cs vc rc lc cc).toArray.size from (repSizes hI.l).1)
  have HE := hid he
  have HQ := hid (show ryB 4 r = lowN 0 2 ++ r.raw by unfold ryB; rw [he, if_pos rfl]; rfl)
  have hrw := hB.raw
  clear X1
  go_enter Try.func23, Try.ntmps23
  go_wp2_with (first | (go_at_call 30; refine KP.out.mono ?_; rintro e w' ⟨rfl, hw'⟩; obtain rfl := hw'.symm; refine Hid.out ?_))
  refine hid ?_
  generalize (w.alloc (.cells (rpV r vs rs ls cs vc rc lc cc).toArray 32)) = w1 at *
  go_wp2_with fail
  refine KW.out.mono ?_
  clear KW KP
  rintro e w2 ⟨v2, rfl, O2, hb2⟩
  have L2 := L1.call (hb2.mono (by omega))
  have c2 := (RC.of L2.rr HIL.out).c0
  rw [he] at c2
  have KF := hid (xfits_any w2 4 (by omega) (by omega) r hB vs rs ls cs vc rc lc cc (hI.below L2.bel))
  rw [hF] at KF
  have R2 := hid L2.rr
  rw [hs1] at O2
  replace hF := hid hF
  clear c0 he L1 hb2 hs1
  go_wp2_with (first | (refine wpList_load_row rfl 32 _ rfl w.heap.size rfl 32 _ (0, 0) _ R2.out Try.underlying32 rfl SR.out ?_) | (go_at_call 38; refine KF.out.mono ?_; rintro e w3 ⟨rfl, hb3⟩; refine Hid.out ?_))
  refine hid ?_
  have L3 := L2.call (hb3.mono L2.sz)
  have O3 := O2.below hb3 (Nat.le_refl _)
  generalize hz3 : lowN 0 2 = z3 at O3
  have HN3 := hid (show z3.length ≤ 2 by rw [← hz3, lowN_len]; exact Nat.le_refl _)
  replace hz3 := hid hz3
  generalize v2 = v3 at *
  clear c2 KF R2 SR L2 O2 hb3
  have X3 := RC.of L3.rr HIL.out
  have d37 := X3.c37
  have SS := hid (hI.sr.below L3.bel (Nat.le_refl _))
  have KL4 := hid (show z3.length + (r.raw).length ≤ 140737488355328 by have := HN3.out; omega)
  go_wp2_with (first | (at_builtin; refine wpList_append_wide3 rfl (.tmp 72) (.tmp 74) rfl (w.heap.size + 1) v3 z3 (r.raw) rfl O3 rs rc rfl hI.nr SS.out KL4.out L3.sz ?_; intro v4 w4 O4 hg4 hd4; refine Hid.out ?_))
  refine hid ?_
  have L4 := L3.call (grown_keeps hg4 (fun k hk => (O3.block k hk).1) L3.sz)
  generalize hz4 : z3 ++ (r.raw) = z4 at O4
  have HN4 := hid (show z4.length ≤ 2 + r.raw.length by rw [← hz4, List.length_append]; have := HN3.out; omega)
  replace hz4 := hid hz4
  clear hg4 hd4 KL4 O3 L3
  clear d37
  go_wp2
  refine bodyPost_ret (results_tmp2 Try.results23 _ _ _) rfl ?_
  have OF := O4
  rw [← hz4.out, ← hz3.out] at OF
  refine ⟨_, rfl, ?_, L4.bel⟩
  rw [HQ.out]
  exact own_lower OF (by omega)
end Go.Proofs.Ytenfklcgkfaajaa
namespace Go.Proofs.Ytenfklcgkfaajaa
set_option linter.unusedVariables false
set_option linter.unusedSimpArgs false
open Go.RowKit
attribute [local go_sem ↓] Go.wp_at_zero Go.wp_at_succ

set_option maxRecDepth 100000 in
set_option maxHeartbeats 4000000 in
theorem refRep_5 (w : World) (r : Rp) (hB : RpB r) (vs rs ls cs : Option Addr) (vc rc lc cc : Nat) (hI : RpI w r vs rs ls cs vc rc lc cc) (he : r.err = 0) (hF : fdF 5 r = true) :
    Calls Try.prog 23 #[.int .i64 5, .agg (rpV r vs rs ls cs vc rc lc cc).toArray] w fun e w' => ∃ v, e = .returned (.tuple #[v, .int .i64 0]) ∧ Own w' w.heap.size v (ryB 5 r) ∧ Below w.heap.size w w' := by
  have L1 := YR.of w (rpV r vs rs ls cs vc rc lc cc)
  have hs1 : (w.alloc (.cells (rpV r vs rs ls cs vc rc lc cc).toArray 32)).heap.size = w.heap.size + 1 := by simp
  have HIL := hid hI.l
  have X1 := RC.of L1.rr hI.l
  have c0 := X1.c0
  rw [he] at c0
  have KP := hid (parts_any (w.alloc (.cells (rpV r vs rs ls cs vc rc lc cc).toArray 32)) 5 (by omega) (by omega))
  rw [show prt 5 = 72 from by decide] at KP
  have KW := hid (Low_any (w.alloc (.cells (rpV r vs rs ls cs vc rc lc cc).toArray 32)) 0 2 (by omega) (by omega) (by omega))
  have SR := hid (show (Try.prog.info? 32).map (·.size) = some (rpV r vs rs ls cs vc rc lc cc).toArray.size from (repSizes hI.l).1)
  have HE := hid he
  have HQ := hid (show ryB 5 r = lowN 0 2 ++ r.raw by unfold ryB; rw [he, if_pos rfl]; rfl)
  have hrw := hB.raw
  clear X1
  go_enter Try.func23, Try.ntmps23
  go_wp2_with (first | (go_at_call 30; refine KP.out.mono ?_; rintro e w' ⟨rfl, hw'⟩; obtain rfl := hw'.symm; refine Hid.out ?_))
  refine hid ?_
  generalize (w.alloc (.cells (rpV r vs rs ls cs vc rc lc cc).toArray 32)) = w1 at *
  go_wp2_with fail
  refine KW.out.mono ?_
  clear KW KP
  rintro e w2 ⟨v2, rfl, O2, hb2⟩
  have L2 := L1.call (hb2.mono (by omega))
  have c2 := (RC.of L2.rr HIL.out).c0
  rw [he] at c2
  have KF := hid (xfits_any w2 5 (by omega) (by omega) r hB vs rs ls cs vc rc lc cc (hI.below L2.bel))
  rw [hF] at KF
  have R2 := hid L2.rr
  rw [hs1] at O2
  replace hF := hid hF
  clear c0 he L1 hb2 hs1
  go_wp2_with (first | (refine wpList_load_row rfl 32 _ rfl w.heap.size rfl 32 _ (0, 0) _ R2.out Try.underlying32 rfl SR.out ?_) | (go_at_call 38; refine KF.out.mono ?_; rintro e w3 ⟨rfl, hb3⟩; refine Hid.out ?_))
  refine hid ?_
  have L3 := L2.call (hb3.mono L2.sz)
  have O3 := O2.below hb3 (Nat.le_refl _)
  generalize hz3 : lowN 0 2 = z3 at O3
  have HN3 := hid (show z3.length ≤ 2 by rw [← hz3, lowN_len]; exact Nat.le_refl _)
  replace hz3 := hid hz3
  generalize v2 = v3 at *
  clear c2 KF R2 SR L2 O2 hb3
  have X3 := RC.of L3.rr HIL.out
  have d37 := X3.c37
  have SS := hid (hI.sr.below L3.bel (Nat.le_refl _))
  have KL4 := hid (show z3.length + (r.raw).length ≤ 140737488355328 by have := HN3.out; omega)
  go_wp2_with (first | (at_builtin; refine wpList_append_wide3 rfl (.tmp 72) (.tmp 74) rfl (w.heap.size + 1) v3 z3 (r.raw) rfl O3 rs rc rfl hI.nr SS.out KL4.out L3.sz ?_; intro v4 w4 O4 hg4 hd4; refine Hid.out ?_))
  refine hid ?_
  have L4 := L3.call (grown_keeps hg4 (fun k hk => (O3.block k hk).1) L3.sz)
  generalize hz4 : z3 ++ (r.raw) = z4 at O4
  have HN4 := hid (show z4.length ≤ 2 + r.raw.length by rw [← hz4, List.length_append]; have := HN3.out; omega)
  replace hz4 := hid hz4
  clear hg4 hd4 KL4 O3 L3
  clear d37
  go_wp2
  refine bodyPost_ret (results_tmp2 Try.results23 _ _ _) rfl ?_
  have OF := O4
  rw [← hz4.out, ← hz3.out] at OF
  refine ⟨_, rfl, ?_, L4.bel⟩
  rw [HQ.out]
  exact own_lower OF (by omega)
end Go.Proofs.Ytenfklcgkfaajaa
