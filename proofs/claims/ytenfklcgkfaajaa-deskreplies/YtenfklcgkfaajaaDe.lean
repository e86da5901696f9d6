import Derived.Test.YtenfklcgkfaajaaDk43
namespace Go.Proofs.Ytenfklcgkfaajaa
set_option linter.unusedVariables false
set_option linter.unusedSimpArgs false
open Go.RowKit
attribute [local go_sem ↓] Go.wp_at_zero Go.wp_at_succ

set_option maxRecDepth 100000 in
set_option maxHeartbeats 4000000 in
theorem layR_e (w : World) (op : Int) (o0 : -9223372036854775808 ≤ op) (o1 : op ≤ 9223372036854775807) (r : Rp) (hB : RpB r) (vs rs ls cs : Option Addr) (vc rc lc cc : Nat) (hI : RpI w r vs rs ls cs vc rc lc cc) (he : ¬ r.err = 0) :
    Calls Try.prog 36 #[.int .i64 op, .agg (rpV r vs rs ls cs vc rc lc cc).toArray] w fun e w' => ∃ v, e = .returned v ∧ Own w' w.heap.size v (ryB op r) ∧ Below w.heap.size w w' := by
  have hb1 := (Below.refl w.heap.size w).alloc (Nat.le_refl _) (.cells (rpV r vs rs ls cs vc rc lc cc).toArray 32)
  have X1 := RC.of (hnew w (.cells (rpV r vs rs ls cs vc rc lc cc).toArray 32)) hI.l
  have hz1 : (w.alloc (.cells (rpV r vs rs ls cs vc rc lc cc).toArray 32)).heap.size = w.heap.size + 1 := by simp
  have KA := hid (appendNumber_any (w.alloc (.cells (rpV r vs rs ls cs vc rc lc cc).toArray 32)) (w.heap.size + 1) (.slice none 0 0) [] r.err 2 (by omega) hB.err.1 hB.err.2 (Own.nil _ _) (by simp) (by simp))
  have c0 := X1.c0
  have he1 : (r.err == 0) = false := by simpa using he
  have he2 : (r.err != 0) = true := by simpa using he
  have HQ := hid (show ryB op r = lowN r.err 2 by unfold ryB; rw [if_neg he, List.append_nil])
  go_enter Try.func36, Try.ntmps36
  go_wp2_with fail
  refine KA.out.mono ?_
  clear KA
  generalize (w.alloc (.cells (rpV r vs rs ls cs vc rc lc cc).toArray 32)) = w1 at *
  rintro e w2 ⟨v2, rfl, O2, B2⟩
  rw [List.nil_append] at O2
  have X2 := X1.below B2 (by omega)
  have S2 : w.heap.size + 1 ≤ w2.heap.size := by have := B2.size; omega
  have Q2 : Below w.heap.size w w2 := hb1.trans (B2.mono (by omega))
  have c2 := X2.c0
  clear c0 hb1 X1 B2 hz1
  go_wp2
  go_ret
  refine ⟨_, rfl, ?_, Q2⟩
  rw [HQ.out]
  exact own_lower O2 (by omega)
end Go.Proofs.Ytenfklcgkfaajaa
namespace Go.Proofs.Ytenfklcgkfaajaa
set_option linter.unusedVariables false
set_option linter.unusedSimpArgs false
open Go.RowKit
attribute [local go_sem ↓] Go.wp_at_zero Go.wp_at_succ

set_option maxRecDepth 100000 in
set_option maxHeartbeats 4000000 in
theorem layR_1 (w : World) (r : Rp) (hB : RpB r) (vs rs ls cs : Option Addr) (vc rc lc cc : Nat) (hI : RpI w r vs rs ls cs vc rc lc cc) (he : r.err = 0) :
    Calls Try.prog 36 #[.int .i64 1, .agg (rpV r vs rs ls cs vc rc lc cc).toArray] w fun e w' => ∃ v, e = .returned v ∧ Own w' w.heap.size v (ryB 1 r) ∧ Below w.heap.size w w' := by
  have hb1 := (Below.refl w.heap.size w).alloc (Nat.le_refl _) (.cells (rpV r vs rs ls cs vc rc lc cc).toArray 32)
  have X1 := RC.of (hnew w (.cells (rpV r vs rs ls cs vc rc lc cc).toArray 32)) hI.l
  have hz1 : (w.alloc (.cells (rpV r vs rs ls cs vc rc lc cc).toArray 32)).heap.size = w.heap.size + 1 := by simp
  have KA := hid (appendNumber_any (w.alloc (.cells (rpV r vs rs ls cs vc rc lc cc).toArray 32)) (w.heap.size + 1) (.slice none 0 0) [] r.err 2 (by omega) hB.err.1 hB.err.2 (Own.nil _ _) (by simp) (by simp))
  have c0 := X1.c0
  have HQ := hid (show ryB 1 r = lowN r.err 2 ++ lowN r.ver 8 by unfold ryB; rw [if_pos he]; simp [fdB])
  have HZ2 := hid (lowN_len 2 r.err)
  rw [he] at c0 KA
  go_enter Try.func36, Try.ntmps36
  go_wp2_with fail
  refine KA.out.mono ?_
  clear KA
  generalize (w.alloc (.cells (rpV r vs rs ls cs vc rc lc cc).toArray 32)) = w1 at *
  rintro e w2 ⟨v2, rfl, O2, B2⟩
  rw [List.nil_append] at O2
  have X2 := X1.below B2 (by omega)
  have S2 : w.heap.size + 1 ≤ w2.heap.size := by have := B2.size; omega
  have Q2 : Below w.heap.size w w2 := hb1.trans (B2.mono (by omega))
  have c2 := X2.c0
  clear c0 hb1 X1 B2 hz1
  rw [he] at c2 HZ2 HQ
  generalize hz2 : lowN 0 2 = z2 at *
  clear hz2
  have d1 := X2.c1
  have KC2 := hid (appendNumber_any w2 (w.heap.size + 1) v2 z2 r.ver 8 (by omega) hB.ver.1 hB.ver.2 O2 S2 (by rw [HZ2.out]; omega))
  go_wp2_with fail
  refine KC2.out.mono ?_
  rintro e w3 ⟨v3, rfl, O3, B3⟩
  have S3 : w.heap.size + 1 ≤ w3.heap.size := Nat.le_trans S2 B3.size
  have Q3 : Below w.heap.size w w3 := Q2.trans (B3.mono (by omega))
  have X3 := X2.below B3 (by omega)
  clear KC2 B3 O2
  clear c2 d1
  go_wp2
  go_ret
  refine ⟨_, rfl, ?_, Q3⟩
  rw [HQ.out]
  exact own_lower O3 (by omega)
end Go.Proofs.Ytenfklcgkfaajaa
namespace Go.Proofs.Ytenfklcgkfaajaa
set_option linter.unusedVariables false
set_option linter.unusedSimpArgs false
open Go.RowKit
attribute [local go_sem ↓] Go.wp_at_zero Go.wp_at_succ

set_option maxRecDepth 100000 in
set_option maxHeartbeats 4000000 in
theorem layR_2n (w : World) (r : Rp) (hB : RpB r) (vs rs ls cs : Option Addr) (vc rc lc cc : Nat) (hI : RpI w r vs rs ls cs vc rc lc cc) (he : r.err = 0) (hx : r.found = false) :
    Calls Try.prog 36 #[.int .i64 2, .agg (rpV r vs rs ls cs vc rc lc cc).toArray] w fun e w' => ∃ v, e = .returned v ∧ Own w' w.heap.size v (ryB 2 r) ∧ Below w.heap.size w w' := by
  have hb1 := (Below.refl w.heap.size w).alloc (Nat.le_refl _) (.cells (rpV r vs rs ls cs vc rc lc cc).toArray 32)
  have X1 := RC.of (hnew w (.cells (rpV r vs rs ls cs vc rc lc cc).toArray 32)) hI.l
  have hz1 : (w.alloc (.cells (rpV r vs rs ls cs vc rc lc cc).toArray 32)).heap.size = w.heap.size + 1 := by simp
  have KA := hid (appendNumber_any (w.alloc (.cells (rpV r vs rs ls cs vc rc lc cc).toArray 32)) (w.heap.size + 1) (.slice none 0 0) [] r.err 2 (by omega) hB.err.1 hB.err.2 (Own.nil _ _) (by simp) (by simp))
  have c0 := X1.c0
  have HQ := hid (show ryB 2 r = lowN r.err 2 ++ flB false by unfold ryB; rw [if_pos he]; simp [fdB, hx])
  have HZ2 := hid (lowN_len 2 r.err)
  rw [he] at c0 KA
  go_enter Try.func36, Try.ntmps36
  go_wp2_with fail
  refine KA.out.mono ?_
  clear KA
  generalize (w.alloc (.cells (rpV r vs rs ls cs vc rc lc cc).toArray 32)) = w1 at *
  rintro e w2 ⟨v2, rfl, O2, B2⟩
  rw [List.nil_append] at O2
  have X2 := X1.below B2 (by omega)
  have S2 : w.heap.size + 1 ≤ w2.heap.size := by have := B2.size; omega
  have Q2 : Below w.heap.size w w2 := hb1.trans (B2.mono (by omega))
  have c2 := X2.c0
  clear c0 hb1 X1 B2 hz1
  rw [he] at c2 HZ2 HQ
  generalize hz2 : lowN 0 2 = z2 at *
  clear hz2
  have d1 := X2.c2
  rw [hx] at d1
  have KC2 := hid (appendFlag_any w2 (w.heap.size + 1) v2 z2 false O2 S2 (by rw [HZ2.out]; omega))
  go_wp2_with fail
  refine KC2.out.mono ?_
  rintro e w3 ⟨v3, rfl, O3, B3⟩
  have S3 : w.heap.size + 1 ≤ w3.heap.size := Nat.le_trans S2 B3.size
  have Q3 : Below w.heap.size w w3 := Q2.trans (B3.mono (by omega))
  have X3 := X2.below B3 (by omega)
  clear KC2 B3 O2
  have HZ3 := hid (show (z2 ++ flB false).length = 3 by rw [List.length_append, HZ2.out]; rfl)
  generalize hz3 : z2 ++ flB false = z3 at *
  replace hz3 := hid hz3
  have d3 := X3.c2
  rw [hx] at d3
  clear c2 d1
  go_wp2
  go_ret
  refine ⟨_, rfl, ?_, Q3⟩
  rw [HQ.out]
  exact own_lower O3 (by omega)
end Go.Proofs.Ytenfklcgkfaajaa
namespace Go.Proofs.Ytenfklcgkfaajaa
set_option linter.unusedVariables false
set_option linter.unusedSimpArgs false
open Go.RowKit
attribute [local go_sem ↓] Go.wp_at_zero Go.wp_at_succ

set_option maxRecDepth 100000 in
set_option maxHeartbeats 4000000 in
theorem layR_2y (w : World) (r : Rp) (hB : RpB r) (vs rs ls cs : Option Addr) (vc rc lc cc : Nat) (hI : RpI w r vs rs ls cs vc rc lc cc) (he : r.err = 0) (hx : r.found = true) (hv : r.val.length ≤ 128) :
    Calls Try.prog 36 #[.int .i64 2, .agg (rpV r vs rs ls cs vc rc lc cc).toArray] w fun e w' => ∃ v, e = .returned v ∧ Own w' w.heap.size v (ryB 2 r) ∧ Below w.heap.size w w' := by
  have hb1 := (Below.refl w.heap.size w).alloc (Nat.le_refl _) (.cells (rpV r vs rs ls cs vc rc lc cc).toArray 32)
  have X1 := RC.of (hnew w (.cells (rpV r vs rs ls cs vc rc lc cc).toArray 32)) hI.l
  have hz1 : (w.alloc (.cells (rpV r vs rs ls cs vc rc lc cc).toArray 32)).heap.size = w.heap.size + 1 := by simp
  have KA := hid (appendNumber_any (w.alloc (.cells (rpV r vs rs ls cs vc rc lc cc).toArray 32)) (w.heap.size + 1) (.slice none 0 0) [] r.err 2 (by omega) hB.err.1 hB.err.2 (Own.nil _ _) (by simp) (by simp))
  have c0 := X1.c0
  have HQ := hid (show ryB 2 r = lowN r.err 2 ++ (flB true ++ vaB r.val) by unfold ryB; rw [if_pos he]; simp [fdB, hx])
  have HZ2 := hid (lowN_len 2 r.err)
  rw [he] at c0 KA
  go_enter Try.func36, Try.ntmps36
  go_wp2_with fail
  refine KA.out.mono ?_
  clear KA
  generalize (w.alloc (.cells (rpV r vs rs ls cs vc rc lc cc).toArray 32)) = w1 at *
  rintro e w2 ⟨v2, rfl, O2, B2⟩
  rw [List.nil_append] at O2
  have X2 := X1.below B2 (by omega)
  have S2 : w.heap.size + 1 ≤ w2.heap.size := by have := B2.size; omega
  have Q2 : Below w.heap.size w w2 := hb1.trans (B2.mono (by omega))
  have c2 := X2.c0
  clear c0 hb1 X1 B2 hz1
  rw [he] at c2 HZ2 HQ
  generalize hz2 : lowN 0 2 = z2 at *
  clear hz2
  have d1 := X2.c2
  rw [hx] at d1
  have KC2 := hid (appendFlag_any w2 (w.heap.size + 1) v2 z2 true O2 S2 (by rw [HZ2.out]; omega))
  go_wp2_with fail
  refine KC2.out.mono ?_
  rintro e w3 ⟨v3, rfl, O3, B3⟩
  have S3 : w.heap.size + 1 ≤ w3.heap.size := Nat.le_trans S2 B3.size
  have Q3 : Below w.heap.size w w3 := Q2.trans (B3.mono (by omega))
  have X3 := X2.below B3 (by omega)
  clear KC2 B3 O2
  have HZ3 := hid (show (z2 ++ flB true).length = 3 by rw [List.length_append, HZ2.out]; rfl)
  generalize hz3 : z2 ++ flB true = z3 at *
  replace hz3 := hid hz3
  have d3 := X3.c2
  rw [hx] at d3
  clear c2 d1
  have d4 := X3.c4
  have KC3 := hid (appendVal_any w w3 (w.heap.size + 1) v3 z3 O3 S3 (by rw [HZ3.out]; omega) r.val vs vc hI.sv hI.nv Q3 (by omega) hv r.val.length rfl)
  go_wp2_with fail
  refine KC3.out.mono ?_
  rintro e w4 ⟨v4, rfl, O4, B4⟩
  have S4 : w.heap.size + 1 ≤ w4.heap.size := Nat.le_trans S3 B4.size
  have Q4 : Below w.heap.size w w4 := Q3.trans (B4.mono (by omega))
  have X4 := X3.below B4 (by omega)
  clear KC3 B4 O3
  clear d3 d4
  go_wp2
  go_ret
  refine ⟨_, rfl, ?_, Q4⟩
  rw [HQ.out, ← List.append_assoc, hz3.out]
  exact own_lower O4 (by omega)
end Go.Proofs.Ytenfklcgkfaajaa
namespace Go.Proofs.Ytenfklcgkfaajaa
set_option linter.unusedVariables false
set_option linter.unusedSimpArgs false
open Go.RowKit
attribute [local go_sem ↓] Go.wp_at_zero Go.wp_at_succ

set_option maxRecDepth 100000 in
set_option maxHeartbeats 4000000 in
theorem layR_3 (w : World) (r : Rp) (hB : RpB r) (vs rs ls cs : Option Addr) (vc rc lc cc : Nat) (hI : RpI w r vs rs ls cs vc rc lc cc) (he : r.err = 0) :
    Calls Try.prog 36 #[.int .i64 3, .agg (rpV r vs rs ls cs vc rc lc cc).toArray] w fun e w' => ∃ v, e = .returned v ∧ Own w' w.heap.size v (ryB 3 r) ∧ Below w.heap.size w w' := by
  have hb1 := (Below.refl w.heap.size w).alloc (Nat.le_refl _) (.cells (rpV r vs rs ls cs vc rc lc cc).toArray 32)
  have X1 := RC.of (hnew w (.cells (rpV r vs rs ls cs vc rc lc cc).toArray 32)) hI.l
  have hz1 : (w.alloc (.cells (rpV r vs rs ls cs vc rc lc cc).toArray 32)).heap.size = w.heap.size + 1 := by simp
  have KA := hid (appendNumber_any (w.alloc (.cells (rpV r vs rs ls cs vc rc lc cc).toArray 32)) (w.heap.size + 1) (.slice none 0 0) [] r.err 2 (by omega) hB.err.1 hB.err.2 (Own.nil _ _) (by simp) (by simp))
  have c0 := X1.c0
  have HQ := hid (show ryB 3 r = lowN r.err 2 ++ r.sum by unfold ryB; rw [if_pos he]; simp [fdB])
  have HZ2 := hid (lowN_len 2 r.err)
  rw [he] at c0 KA
  go_enter Try.func36, Try.ntmps36
  go_wp2_with fail
  refine KA.out.mono ?_
  clear KA
  generalize (w.alloc (.cells (rpV r vs rs ls cs vc rc lc cc).toArray 32)) = w1 at *
  rintro e w2 ⟨v2, rfl, O2, B2⟩
  rw [List.nil_append] at O2
  have X2 := X1.below B2 (by omega)
  have S2 : w.heap.size + 1 ≤ w2.heap.size := by have := B2.size; omega
  have Q2 : Below w.heap.size w w2 := hb1.trans (B2.mono (by omega))
  have c2 := X2.c0
  clear c0 hb1 X1 B2 hz1
  rw [he] at c2 HZ2 HQ
  generalize hz2 : lowN 0 2 = z2 at *
  clear hz2
  have HS := hid hI.l.sum
  have SS := hid (src_rng X2.sm (by omega) 32 (by rw [HS.out]; exact Nat.le_refl _) (by simp [maxLen]))
  have KL := hid (show z2.length + r.sum.length ≤ 140737488351232 by rw [HZ2.out]; rw [HS.out]; omega)
  go_wp2_with (first | (at_builtin; refine wpList_append_wide rfl (.tmp 34) (.tmp 36) rfl (w.heap.size + 1) v2 z2 r.sum rfl O2 (some ⟨w.heap.size, 5, none⟩) 32 (by rw [HS.out]; rfl) (fun h => by cases h) SS.out KL.out S2 ?_; intro v3 w3 O3 hg3 hd3; refine Hid.out ?_))
  refine hid ?_
  have Q3 : Below w.heap.size w w3 := Q2.trans ((grown_keeps hg3 (fun k hk => (O2.block k hk).1) S2).mono (by omega))
  clear hg3 hd3 O2 c2
  go_wp2
  go_ret
  refine ⟨_, rfl, ?_, Q3⟩
  rw [HQ.out]
  exact own_lower O3 (by omega)
end Go.Proofs.Ytenfklcgkfaajaa
namespace Go.Proofs.Ytenfklcgkfaajaa
set_option linter.unusedVariables false
set_option linter.unusedSimpArgs false
open Go.RowKit
attribute [local go_sem ↓] Go.wp_at_zero Go.wp_at_succ

set_option maxRecDepth 100000 in
set_option maxHeartbeats 4000000 in
theorem layR_4 (w : World) (r : Rp) (hB : RpB r) (vs rs ls cs : Option Addr) (vc rc lc cc : Nat) (hI : RpI w r vs rs ls cs vc rc lc cc) (he : r.err = 0) :
    Calls Try.prog 36 #[.int .i64 4, .agg (rpV r vs rs ls cs vc rc lc cc).toArray] w fun e w' => ∃ v, e = .returned v ∧ Own w' w.heap.size v (ryB 4 r) ∧ Below w.heap.size w w' := by
  have hb1 := (Below.refl w.heap.size w).alloc (Nat.le_refl _) (.cells (rpV r vs rs ls cs vc rc lc cc).toArray 32)
  have X1 := RC.of (hnew w (.cells (rpV r vs rs ls cs vc rc lc cc).toArray 32)) hI.l
  have hz1 : (w.alloc (.cells (rpV r vs rs ls cs vc rc lc cc).toArray 32)).heap.size = w.heap.size + 1 := by simp
  have KA := hid (appendNumber_any (w.alloc (.cells (rpV r vs rs ls cs vc rc lc cc).toArray 32)) (w.heap.size + 1) (.slice none 0 0) [] r.err 2 (by omega) hB.err.1 hB.err.2 (Own.nil _ _) (by simp) (by simp))
  have c0 := X1.c0
  have HQ := hid (show ryB 4 r = lowN r.err 2 ++ r.raw by unfold ryB; rw [if_pos he]; simp [fdB])
  have HZ2 := hid (lowN_len 2 r.err)
  rw [he] at c0 KA
  go_enter Try.func36, Try.ntmps36
  go_wp2_with fail
  refine KA.out.mono ?_
  clear KA
  generalize (w.alloc (.cells (rpV r vs rs ls cs vc rc lc cc).toArray 32)) = w1 at *
  rintro e w2 ⟨v2, rfl, O2, B2⟩
  rw [List.nil_append] at O2
  have X2 := X1.below B2 (by omega)
  have S2 : w.heap.size + 1 ≤ w2.heap.size := by have := B2.size; omega
  have Q2 : Below w.heap.size w w2 := hb1.trans (B2.mono (by omega))
  have c2 := X2.c0
  clear c0 hb1 X1 B2 hz1
  rw [he] at c2 HZ2 HQ
  generalize hz2 : lowN 0 2 = z2 at *
  clear hz2
  have d1 := X2.c37
  have SS := hid (hI.sr.below Q2 (Nat.le_refl _))
  have KL := hid (show z2.length + r.raw.length ≤ 140737488355328 by rw [HZ2.out]; have := hB.raw; omega)
  go_wp2_with (first | (at_builtin; refine wpList_append_wide3 rfl (.tmp 41) (.tmp 43) rfl (w.heap.size + 1) v2 z2 r.raw rfl O2 rs rc rfl hI.nr SS.out KL.out S2 ?_; intro v3 w3 O3 hg3 hd3; refine Hid.out ?_))
  refine hid ?_
  have Q3 : Below w.heap.size w w3 := Q2.trans ((grown_keeps hg3 (fun k hk => (O2.block k hk).1) S2).mono (by omega))
  clear hg3 hd3 O2 c2
  clear d1
  go_wp2
  go_ret
  refine ⟨_, rfl, ?_, Q3⟩
  rw [HQ.out]
  exact own_lower O3 (by omega)
end Go.Proofs.Ytenfklcgkfaajaa
