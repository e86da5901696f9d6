import Derived.Test.YtenfklcgkfaajaaDk44
namespace Go.Proofs.Ytenfklcgkfaajaa
set_option linter.unusedVariables false
set_option linter.unusedSimpArgs false
open Go.RowKit
attribute [local go_sem ↓] Go.wp_at_zero Go.wp_at_succ

set_option maxRecDepth 100000 in
set_option maxHeartbeats 4000000 in
theorem fitR_e (w : World) (op : Int) (o0 : -9223372036854775808 ≤ op) (o1 : op ≤ 9223372036854775807) (r : Rp) (hB : RpB r) (vs rs ls cs : Option Addr) (vc rc lc cc : Nat) (hI : RpI w r vs rs ls cs vc rc lc cc) (he : ¬ r.err = 0) (hf : 0 ≤ r.err ∧ r.err < 65536) :
    Calls Try.prog 35 #[.int .i64 op, .agg (rpV r vs rs ls cs vc rc lc cc).toArray] w fun e w' => e = .returned (.bool true) ∧ Below w.heap.size w w' := by
  have hb1 := (Below.refl w.heap.size w).alloc (Nat.le_refl _) (.cells (rpV r vs rs ls cs vc rc lc cc).toArray 32)
  have X1 := RC.of (hnew w (.cells (rpV r vs rs ls cs vc rc lc cc).toArray 32)) hI.l
  have hz1 : (w.alloc (.cells (rpV r vs rs ls cs vc rc lc cc).toArray 32)).heap.size = w.heap.size + 1 := by simp
  have c0 := X1.c0
  have he1 : (r.err == 0) = false := by simpa using he
  have he2 : (r.err != 0) = true := by simpa using he
  have KN := hid (numberFits_any (w.alloc (.cells (rpV r vs rs ls cs vc rc lc cc).toArray 32)) r.err 2 (by omega) hB.err.1 hB.err.2)
  go_enter Try.func35, Try.ntmps35
  go_wp2_with fail
  refine KN.out.mono ?_
  rintro e w2 ⟨rfl, rfl⟩
  have HF := hid (show decide (0 ≤ r.err ∧ r.err < 256 ^ 2) = true from decide_eq_true hf)
  rw [HF.out]
  clear KN
  go_wp2
  go_ret
  exact ⟨rfl, hb1⟩
end Go.Proofs.Ytenfklcgkfaajaa
namespace Go.Proofs.Ytenfklcgkfaajaa
set_option linter.unusedVariables false
set_option linter.unusedSimpArgs false
open Go.RowKit
attribute [local go_sem ↓] Go.wp_at_zero Go.wp_at_succ

set_option maxRecDepth 100000 in
set_option maxHeartbeats 4000000 in
theorem fitR_2n (w : World) (r : Rp) (hB : RpB r) (vs rs ls cs : Option Addr) (vc rc lc cc : Nat) (hI : RpI w r vs rs ls cs vc rc lc cc) (he : r.err = 0) (hx : r.found = false) :
    Calls Try.prog 35 #[.int .i64 2, .agg (rpV r vs rs ls cs vc rc lc cc).toArray] w fun e w' => e = .returned (.bool true) ∧ Below w.heap.size w w' := by
  have hb1 := (Below.refl w.heap.size w).alloc (Nat.le_refl _) (.cells (rpV r vs rs ls cs vc rc lc cc).toArray 32)
  have X1 := RC.of (hnew w (.cells (rpV r vs rs ls cs vc rc lc cc).toArray 32)) hI.l
  have hz1 : (w.alloc (.cells (rpV r vs rs ls cs vc rc lc cc).toArray 32)).heap.size = w.heap.size + 1 := by simp
  have c0 := X1.c0
  rw [he] at c0
  have c2 := X1.c2
  rw [hx] at c2
  go_enter Try.func35, Try.ntmps35
  go_wp2
  go_ret
  exact ⟨rfl, hb1⟩
end Go.Proofs.Ytenfklcgkfaajaa
namespace Go.Proofs.Ytenfklcgkfaajaa
set_option linter.unusedVariables false
set_option linter.unusedSimpArgs false
open Go.RowKit
attribute [local go_sem ↓] Go.wp_at_zero Go.wp_at_succ

set_option maxRecDepth 100000 in
set_option maxHeartbeats 4000000 in
theorem fitR_2y (w : World) (r : Rp) (hB : RpB r) (vs rs ls cs : Option Addr) (vc rc lc cc : Nat) (hI : RpI w r vs rs ls cs vc rc lc cc) (he : r.err = 0) (hx : r.found = true) (hv : r.val.length ≤ 128) :
    Calls Try.prog 35 #[.int .i64 2, .agg (rpV r vs rs ls cs vc rc lc cc).toArray] w fun e w' => e = .returned (.bool true) ∧ Below w.heap.size w w' := by
  have hb1 := (Below.refl w.heap.size w).alloc (Nat.le_refl _) (.cells (rpV r vs rs ls cs vc rc lc cc).toArray 32)
  have X1 := RC.of (hnew w (.cells (rpV r vs rs ls cs vc rc lc cc).toArray 32)) hI.l
  have hz1 : (w.alloc (.cells (rpV r vs rs ls cs vc rc lc cc).toArray 32)).heap.size = w.heap.size + 1 := by simp
  have c0 := X1.c0
  rw [he] at c0
  have c2 := X1.c2
  rw [hx] at c2
  have c4 := X1.c4
  have i1 : (r.val.length : Int) ≤ 128 := by omega
  go_enter Try.func35, Try.ntmps35
  go_wp2
  go_ret
  exact ⟨by simp [i1], hb1⟩
end Go.Proofs.Ytenfklcgkfaajaa
namespace Go.Proofs.Ytenfklcgkfaajaa
set_option linter.unusedVariables false
set_option linter.unusedSimpArgs false
open Go.RowKit
attribute [local go_sem ↓] Go.wp_at_zero Go.wp_at_succ

set_option maxRecDepth 100000 in
set_option maxHeartbeats 4000000 in
theorem fitR_6 (w : World) (r : Rp) (hB : RpB r) (vs rs ls cs : Option Addr) (vc rc lc cc : Nat) (hI : RpI w r vs rs ls cs vc rc lc cc) (he : r.err = 0) (hv : lsF false r.list = true) :
    Calls Try.prog 35 #[.int .i64 6, .agg (rpV r vs rs ls cs vc rc lc cc).toArray] w fun e w' => e = .returned (.bool true) ∧ Below w.heap.size w w' := by
  have hb1 := (Below.refl w.heap.size w).alloc (Nat.le_refl _) (.cells (rpV r vs rs ls cs vc rc lc cc).toArray 32)
  have X1 := RC.of (hnew w (.cells (rpV r vs rs ls cs vc rc lc cc).toArray 32)) hI.l
  have hz1 : (w.alloc (.cells (rpV r vs rs ls cs vc rc lc cc).toArray 32)).heap.size = w.heap.size + 1 := by simp
  have c0 := X1.c0
  rw [he] at c0
  have c4 := X1.c38
  have hln : r.list.length ≤ 4096 := by unfold lsF at hv; simp at hv; omega
  have i1 : (r.list.length : Int) ≤ 4096 := by omega
  have KC := hid (containsE_none w (w.alloc (.cells (rpV r vs rs ls cs vc rc lc cc).toArray 32)) r.list ls lc hI.sl hb1 hv)
  go_enter Try.func35, Try.ntmps35
  go_wp2_with fail
  refine KC.out.mono ?_
  rintro e w2 ⟨rfl, hB2⟩
  have B2 := hb1.trans (hB2.mono (by omega))
  clear KC hB2 X1 c4 c0
  go_wp2
  go_ret
  exact ⟨rfl, B2⟩
end Go.Proofs.Ytenfklcgkfaajaa
namespace Go.Proofs.Ytenfklcgkfaajaa
set_option linter.unusedVariables false
set_option linter.unusedSimpArgs false
open Go.RowKit
attribute [local go_sem ↓] Go.wp_at_zero Go.wp_at_succ

set_option maxRecDepth 100000 in
set_option maxHeartbeats 4000000 in
theorem fitR_7 (w : World) (r : Rp) (hB : RpB r) (vs rs ls cs : Option Addr) (vc rc lc cc : Nat) (hI : RpI w r vs rs ls cs vc rc lc cc) (he : r.err = 0) (hv : lsF true r.chs = true) :
    Calls Try.prog 35 #[.int .i64 7, .agg (rpV r vs rs ls cs vc rc lc cc).toArray] w fun e w' => e = .returned (.bool true) ∧ Below w.heap.size w w' := by
  have hb1 := (Below.refl w.heap.size w).alloc (Nat.le_refl _) (.cells (rpV r vs rs ls cs vc rc lc cc).toArray 32)
  have X1 := RC.of (hnew w (.cells (rpV r vs rs ls cs vc rc lc cc).toArray 32)) hI.l
  have hz1 : (w.alloc (.cells (rpV r vs rs ls cs vc rc lc cc).toArray 32)).heap.size = w.heap.size + 1 := by simp
  have c0 := X1.c0
  rw [he] at c0
  have c4 := X1.c39
  have hln : r.chs.length ≤ 4096 := by unfold lsF at hv; simp at hv; omega
  have i1 : (r.chs.length : Int) ≤ 4096 := by omega
  have KC := hid (containsC_none w (w.alloc (.cells (rpV r vs rs ls cs vc rc lc cc).toArray 32)) r.chs cs cc hI.sc hb1 hv)
  go_enter Try.func35, Try.ntmps35
  go_wp2_with fail
  refine KC.out.mono ?_
  rintro e w2 ⟨rfl, hB2⟩
  have B2 := hb1.trans (hB2.mono (by omega))
  clear KC hB2 X1 c4 c0
  go_wp2
  go_ret
  exact ⟨rfl, B2⟩
end Go.Proofs.Ytenfklcgkfaajaa
namespace Go.Proofs.Ytenfklcgkfaajaa
set_option linter.unusedVariables false
set_option linter.unusedSimpArgs false
open Go.RowKit
attribute [local go_sem ↓] Go.wp_at_zero Go.wp_at_succ

set_option maxRecDepth 100000 in
set_option maxHeartbeats 4000000 in
theorem fitR_8 (w : World) (r : Rp) (hB : RpB r) (vs rs ls cs : Option Addr) (vc rc lc cc : Nat) (hI : RpI w r vs rs ls cs vc rc lc cc) (he : r.err = 0) (hv : inF r.info = true) :
    Calls Try.prog 35 #[.int .i64 8, .agg (rpV r vs rs ls cs vc rc lc cc).toArray] w fun e w' => e = .returned (.bool true) ∧ Below w.heap.size w w' := by
  have hb1 := (Below.refl w.heap.size w).alloc (Nat.le_refl _) (.cells (rpV r vs rs ls cs vc rc lc cc).toArray 32)
  have X1 := RC.of (hnew w (.cells (rpV r vs rs ls cs vc rc lc cc).toArray 32)) hI.l
  have hz1 : (w.alloc (.cells (rpV r vs rs ls cs vc rc lc cc).toArray 32)).heap.size = w.heap.size + 1 := by simp
  have c0 := X1.c0
  rw [he] at c0
  have RI := hid X1.inf
  have SI := hid (show (Try.prog.info? 30).map (·.size) = some (inC r.info).length by rw [inC_len hI.l.inf]; exact Try.sizeInf)
  have SL := hid (show (inC nf0).length = (inC r.info).length by rw [inC_len hI.l.inf]; rfl)
  unfold inF n4 at hv
  simp only [Bool.and_eq_true, decide_eq_true_eq] at hv
  obtain ⟨⟨⟨f1, f2⟩, f3⟩, f4⟩ := hv
  have K1 := hid (fun w => numberFits_any w r.info.width 1 (by omega) hB.inf.width.1 hB.inf.width.2)
  have K2 := hid (fun w => numberFits_any w r.info.used 4 (by omega) hB.inf.used.1 hB.inf.used.2)
  have K3 := hid (fun w => numberFits_any w r.info.pages 4 (by omega) hB.inf.pages.1 hB.inf.pages.2)
  have K4 := hid (fun w => numberFits_any w r.info.keys 4 (by omega) hB.inf.keys.1 hB.inf.keys.2)
  rw [show decide (0 ≤ r.info.width ∧ r.info.width < 256 ^ 1) = true from decide_eq_true f1] at K1
  rw [show decide (0 ≤ r.info.used ∧ r.info.used < 256 ^ 4) = true from decide_eq_true f2] at K2
  rw [show decide (0 ≤ r.info.pages ∧ r.info.pages < 256 ^ 4) = true from decide_eq_true f3] at K3
  rw [show decide (0 ≤ r.info.keys ∧ r.info.keys < 256 ^ 4) = true from decide_eq_true f4] at K4
  clear f1 f2 f3 f4
  go_enter Try.func35, Try.ntmps35
  go_wp2_with (first
    | (refine wpList_load_mid rfl 30 _ rfl w.heap.size 40 rfl (inC r.info) _ RI.out Try.underlying30 rfl SI.out ?_; refine Hid.out ?_))
  refine hid ?_
  generalize (w.alloc (.cells (rpV r vs rs ls cs vc rc lc cc).toArray 32)) = w1 at *
  clear RI X1 c0
  replace hz1 := hid hz1
  go_wp2_with (first
    | (refine wpList_allocV allocInf rfl rfl ?_)
    | (refine wpList_storeRowW rfl 30 _ _ rfl w1.heap.size (inC r.info) rfl rfl 30 _ (hnew w1 (.cells (inC nf0).toArray 30)) SI.out SL.out (inC_one _) ?_; intro w3 hr3 hk3; refine Hid.out ?_))
  refine hid ?_
  have hb3 : Below w.heap.size w w3 := hb1.trans (((Below.refl w.heap.size w1).alloc (by have := hz1.out; omega) (.cells (inC nf0).toArray 30)).trans (hk3.below_g (by have := hz1.out; omega) (by have := hz1.out; simp; omega)))
  have q1 : w3.cell? ⟨w1.heap.size, 0, none⟩ = some (.int .i64 r.info.width) := by rw [cell_of_row _ _ _ _ _ _ hr3]; rfl
  have q2 : w3.cell? ⟨w1.heap.size, 3, none⟩ = some (.int .i64 r.info.used) := by rw [cell_of_row _ _ _ _ _ _ hr3]; rfl
  have q3 : w3.cell? ⟨w1.heap.size, 4, none⟩ = some (.int .i64 r.info.pages) := by rw [cell_of_row _ _ _ _ _ _ hr3]; rfl
  have q4 : w3.cell? ⟨w1.heap.size, 5, none⟩ = some (.int .i64 r.info.keys) := by rw [cell_of_row _ _ _ _ _ _ hr3]; rfl
  clear hr3 hk3 hb1 SI SL hz1
  go_wp2_with fail
  refine (K1.out _).mono ?_
  rintro e w4 ⟨rfl, rfl⟩
  go_wp2_with fail
  refine (K2.out _).mono ?_
  rintro e w4 ⟨rfl, rfl⟩
  go_wp2_with fail
  refine (K3.out _).mono ?_
  rintro e w4 ⟨rfl, rfl⟩
  go_wp2_with fail
  refine (K4.out _).mono ?_
  rintro e w4 ⟨rfl, rfl⟩
  go_wp2
  go_ret
  exact ⟨rfl, hb3⟩
end Go.Proofs.Ytenfklcgkfaajaa
namespace Go.Proofs.Ytenfklcgkfaajaa
set_option linter.unusedVariables false
set_option linter.unusedSimpArgs false
open Go.RowKit
attribute [local go_sem ↓] Go.wp_at_zero Go.wp_at_succ

set_option maxRecDepth 100000 in
set_option maxHeartbeats 4000000 in
theorem fitR_9 (w : World) (op : Int) (o0 : -9223372036854775808 ≤ op) (o1 : op ≤ 9223372036854775807) (r : Rp) (hB : RpB r) (vs rs ls cs : Option Addr) (vc rc lc cc : Nat) (hI : RpI w r vs rs ls cs vc rc lc cc) (he : r.err = 0) (k2 : ¬ op = 2) (k6 : ¬ op = 6) (k7 : ¬ op = 7) (k8 : ¬ op = 8) :
    Calls Try.prog 35 #[.int .i64 op, .agg (rpV r vs rs ls cs vc rc lc cc).toArray] w fun e w' => e = .returned (.bool true) ∧ Below w.heap.size w w' := by
  have hb1 := (Below.refl w.heap.size w).alloc (Nat.le_refl _) (.cells (rpV r vs rs ls cs vc rc lc cc).toArray 32)
  have X1 := RC.of (hnew w (.cells (rpV r vs rs ls cs vc rc lc cc).toArray 32)) hI.l
  have hz1 : (w.alloc (.cells (rpV r vs rs ls cs vc rc lc cc).toArray 32)).heap.size = w.heap.size + 1 := by simp
  have c0 := X1.c0
  rw [he] at c0
  have l2 : (op == 2) = false := by simpa using k2
  have l6 : (op == 6) = false := by simpa using k6
  have l7 : (op == 7) = false := by simpa using k7
  have l8 : (op == 8) = false := by simpa using k8
  go_enter Try.func35, Try.ntmps35
  go_wp2
  go_ret
  exact ⟨rfl, hb1⟩
end Go.Proofs.Ytenfklcgkfaajaa
