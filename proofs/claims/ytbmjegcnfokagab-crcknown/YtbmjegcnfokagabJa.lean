import Derived.Test.YtbmjegcnfokagabHc
import Derived.Test.YtbmjegcnfokagabFd
namespace Go.Proofs.Ytbmjegcnfokagab
set_option linter.unusedVariables false
set_option linter.unusedSimpArgs false
open Go.RowKit
attribute [local go_sem ↓] Go.wp_at_zero Go.wp_at_succ

theorem s_nil : sumF [] = 0 := by decide +kernel
theorem s_a : sumF [97] = 3904355907 := by decide +kernel
theorem s_abc : sumF [97, 98, 99] = 891568578 := by decide +kernel
theorem s_0 : sumF [0] = 3523407757 := by decide +kernel
theorem s_f : sumF [255, 255, 255, 255] = 4294967295 := by decide +kernel
theorem u_de : updF 891568578 [100, 101] = 2240272485 := by decide +kernel
theorem u_1 : updF 1 [0] = 2768625435 := by decide +kernel
theorem u_f : updF 4294967295 [0] = 4294967295 := by decide +kernel
theorem j_1 : joinF 891568578 2106599819 2 = 2240272485 := by decide +kernel
theorem j_2 : joinF 1 0 1 = 1996959894 := by decide +kernel
theorem j_3 : joinF 2147483648 0 4 = 3988292384 := by decide +kernel
theorem stepN_pow2 (k r : Nat) (hr : r < 4294967296) : stepN (2 ^ k) r = times r (pw k) := by rw [pw_eq, times_stepN r hr]
def sumP : List Nat → Nat
  | [] => 0
  | k :: ks => 2 ^ k + sumP ks
def stepP (r : Nat) : List Nat → Nat
  | [] => r
  | k :: ks => stepP (times r (pw k)) ks
theorem stepP_eq (ks : List Nat) : ∀ r, r < 4294967296 → stepN (sumP ks) r = stepP r ks := by
  induction ks with
  | nil => intro r _; rfl
  | cons k ks ih =>
    intro r hr
    rw [sumP, stepN_add, stepN_pow2 k r hr, stepP]
    exact ih _ (by rw [← stepN_pow2 k r hr]; exact stepN_lt _ _ hr)
theorem join_pw (a n : Nat) (ks : List Nat) (ha : a < 4294967296) (h : 8 * n = sumP ks) : joinF a 0 n = stepP a ks := by
  unfold joinF
  rw [Nat.xor_zero, h, stepP_eq ks a ha]
theorem j_4 : joinF 1 0 1000000 = 42349236 := (join_pw 1 1000000 [9, 12, 17, 19, 20, 21, 22] (by decide) (by decide)).trans (by decide +kernel)
theorem j_5 : joinF 1 2 0 = 3 := by decide +kernel
theorem f_1 : sealF [97, 98, 99] = [97, 98, 99, 194, 65, 36, 53] := by decide +kernel
theorem w_1 : decide (sbF (sumF [97, 98, 99]) = [194, 65, 36, 53]) = true := by decide +kernel
theorem w_2 : decide (sbF (sumF [97, 98, 99]) = [194, 65, 36, 52]) = false := by decide +kernel
theorem f_2 : sealF [] = [0, 0, 0, 0] := by decide +kernel
set_option maxRecDepth 100000 in
set_option maxHeartbeats 4000000 in
theorem cknown_any (w : World) :
    Calls Try.prog 5 #[] w fun e w' => e = .returned (.bool true) ∧ Below w.heap.size w w' := by
  have kc := fun (w : World) (C : Array Value) (n c : Nat) => Lib.run_convert_bytes_const (P := Try.prog) w 22 5 C n c Try.underlying22 Try.underlying5
  go_enter Try.func5, Try.ntmps5
  go_wp2_with fail
  refine (known_any w).mono ?_
  rintro e w1 ⟨rfl, b1⟩
  have B1 := b1
  clear b1
  go_wp2_with fail
  refine (sum_any w1 [] (fun x hx => by simp at hx) none 0 (Src.nil _)).mono ?_
  rintro e w2 ⟨rfl, b2⟩
  rw [s_nil]
  have B2 := B1.trans (b2.mono B1.size)
  clear b2 B1
  go_wp2_with fail
  refine (sum_any _ [97] (fun x hx => by simp at hx; omega) (some ⟨w2.heap.size, 0, none⟩) 1 (src_new w2 _ 5 (1, 2) 1 (by simp) (by simp [maxLen]))).mono ?_
  rintro e w3 ⟨rfl, b3⟩
  rw [s_a]
  have B3 := ((B2.alloc B2.size (.cells (ints .u8 [97]).toArray 5 (1, 2)))).trans (b3.mono ((B2.alloc B2.size (.cells (ints .u8 [97]).toArray 5 (1, 2)))).size)
  clear b3 B2
  go_wp2_with fail
  refine (sum_any _ [97, 98, 99] (fun x hx => by simp at hx; omega) (some ⟨w3.heap.size, 0, none⟩) 3 (src_new w3 _ 5 (3, 4) 3 (by simp) (by simp [maxLen]))).mono ?_
  rintro e w4 ⟨rfl, b4⟩
  rw [s_abc]
  have B4 := ((B3.alloc B3.size (.cells (ints .u8 [97, 98, 99]).toArray 5 (3, 4)))).trans (b4.mono ((B3.alloc B3.size (.cells (ints .u8 [97, 98, 99]).toArray 5 (3, 4)))).size)
  clear b4 B3
  go_wp2_with fail
  refine (sum_any _ [0] (fun x hx => by simp at hx; omega) (some ⟨w4.heap.size, 0, none⟩) 1 (src_new w4 _ 5 (0, 0) 1 (by simp) (by simp [maxLen]))).mono ?_
  rintro e w5 ⟨rfl, b5⟩
  rw [s_0]
  have B5 := ((B4.alloc B4.size (.cells (ints .u8 [0]).toArray 5 (0, 0)))).trans (b5.mono ((B4.alloc B4.size (.cells (ints .u8 [0]).toArray 5 (0, 0)))).size)
  clear b5 B4
  go_wp2_with fail
  refine (sum_any _ [255, 255, 255, 255] (fun x hx => by simp at hx; omega) (some ⟨w5.heap.size, 0, none⟩) 4 (src_new w5 _ 5 (0, 0) 4 (by simp) (by simp [maxLen]))).mono ?_
  rintro e w6 ⟨rfl, b6⟩
  rw [s_f]
  have B6 := ((B5.alloc B5.size (.cells (ints .u8 [255, 255, 255, 255]).toArray 5 (0, 0)))).trans (b6.mono ((B5.alloc B5.size (.cells (ints .u8 [255, 255, 255, 255]).toArray 5 (0, 0)))).size)
  clear b6 B5
  go_wp2_with fail
  refine (upd_any _ 891568578 (by decide) [100, 101] (fun x hx => by simp at hx; omega) (some ⟨w6.heap.size, 0, none⟩) 2 (src_new w6 _ 5 (2, 3) 2 (by simp) (by simp [maxLen]))).mono ?_
  rintro e w7 ⟨rfl, b7⟩
  rw [u_de]
  have B7 := ((B6.alloc B6.size (.cells (ints .u8 [100, 101]).toArray 5 (2, 3)))).trans (b7.mono ((B6.alloc B6.size (.cells (ints .u8 [100, 101]).toArray 5 (2, 3)))).size)
  clear b7 B6
  go_wp2_with fail
  refine (upd_any _ 1 (by decide) [0] (fun x hx => by simp at hx; omega) (some ⟨w7.heap.size, 0, none⟩) 1 (src_new w7 _ 5 (0, 0) 1 (by simp) (by simp [maxLen]))).mono ?_
  rintro e w8 ⟨rfl, b8⟩
  rw [u_1]
  have B8 := ((B7.alloc B7.size (.cells (ints .u8 [0]).toArray 5 (0, 0)))).trans (b8.mono ((B7.alloc B7.size (.cells (ints .u8 [0]).toArray 5 (0, 0)))).size)
  clear b8 B7
  go_wp2_with fail
  refine (upd_any _ 4294967295 (by decide) [0] (fun x hx => by simp at hx; omega) (some ⟨w8.heap.size, 0, none⟩) 1 (src_new w8 _ 5 (0, 0) 1 (by simp) (by simp [maxLen]))).mono ?_
  rintro e w9 ⟨rfl, b9⟩
  rw [u_f]
  have B9 := ((B8.alloc B8.size (.cells (ints .u8 [0]).toArray 5 (0, 0)))).trans (b9.mono ((B8.alloc B8.size (.cells (ints .u8 [0]).toArray 5 (0, 0)))).size)
  clear b9 B8
  go_wp2_with fail
  refine (join_any w9 891568578 2106599819 2 (by decide) (by decide) (by decide)).mono ?_
  rintro e w10 ⟨rfl, b10⟩
  rw [j_1]
  have B10 := B9.trans (b10.mono B9.size)
  clear b10 B9
  go_wp2_with fail
  refine (join_any w10 1 0 1 (by decide) (by decide) (by decide)).mono ?_
  rintro e w11 ⟨rfl, b11⟩
  rw [j_2]
  have B11 := B10.trans (b11.mono B10.size)
  clear b11 B10
  go_wp2_with fail
  refine (join_any w11 2147483648 0 4 (by decide) (by decide) (by decide)).mono ?_
  rintro e w12 ⟨rfl, b12⟩
  rw [j_3]
  have B12 := B11.trans (b12.mono B11.size)
  clear b12 B11
  go_wp2_with fail
  refine (join_any w12 1 0 1000000 (by decide) (by decide) (by decide)).mono ?_
  rintro e w13 ⟨rfl, b13⟩
  rw [j_4]
  have B13 := B12.trans (b13.mono B12.size)
  clear b13 B12
  go_wp2_with fail
  refine (join_any w13 1 2 0 (by decide) (by decide) (by decide)).mono ?_
  rintro e w14 ⟨rfl, b14⟩
  rw [j_5]
  have B14 := B13.trans (b14.mono B13.size)
  clear b14 B13
  go_wp2_with fail
  refine (join_neg w14 1 2 (-1) (by decide)).mono ?_
  rintro e wx ⟨rfl, rfl⟩
  go_wp2_with fail
  refine (seal_any _ [97, 98, 99] (fun x hx => by simp at hx; omega) (some ⟨wx.heap.size, 0, none⟩) 3 (src_new wx _ 5 (3, 4) 3 (by simp) (by simp [maxLen])) (by simp)).mono ?_
  rintro e w15 ⟨rfl, r15, b15⟩
  rw [f_1] at r15
  rw [show (wx.alloc (.cells (ints .u8 [97, 98, 99]).toArray 5 (3, 4))).heap.size = wx.heap.size + 1 by simp] at r15
  have B15 := ((B14.alloc B14.size (.cells (ints .u8 [97, 98, 99]).toArray 5 (3, 4)))).trans (b15.mono ((B14.alloc B14.size (.cells (ints .u8 [97, 98, 99]).toArray 5 (3, 4)))).size)
  clear b15 B14
  have p15 := src_rowf (hold (o := (.cells (ints .u8 [97, 98, 99, 194, 65, 36, 53]).toArray 5 (0, 0))) r15) 7 (by simp) (by simp [maxLen])
  go_wp2_with fail
  refine (same_any _ [97, 98, 99, 194, 65, 36, 53] [97, 98, 99, 194, 65, 36, 53] _ (some ⟨w15.heap.size, 0, none⟩) 7 7 p15 (src_new w15 _ 5 (0, 0) 7 (by simp) (by simp [maxLen]))).mono ?_
  rintro e w16 ⟨rfl, b16⟩
  rw [decide_eq_true rfl]
  clear p15 r15
  have B16 := ((B15.alloc B15.size (.cells (ints .u8 [97, 98, 99, 194, 65, 36, 53]).toArray 5 (0, 0)))).trans (b16.mono ((B15.alloc B15.size (.cells (ints .u8 [97, 98, 99, 194, 65, 36, 53]).toArray 5 (0, 0)))).size)
  clear b16 B15
  go_wp2_with fail
  refine (seal_any w16 [] (fun x hx => by simp at hx) none 0 (Src.nil _) (by simp)).mono ?_
  rintro e w17 ⟨rfl, r17, b17⟩
  rw [f_2] at r17
  have B17 := B16.trans (b17.mono B16.size)
  clear b17 B16
  have p17 := src_rowf (hold (o := (.cells (ints .u8 [0, 0, 0, 0]).toArray 5 (0, 0))) r17) 4 (by simp) (by simp [maxLen])
  go_wp2_with fail
  refine (same_any _ [0, 0, 0, 0] [0, 0, 0, 0] _ (some ⟨w17.heap.size, 0, none⟩) 4 4 p17 (src_new w17 _ 5 (0, 0) 4 (by simp) (by simp [maxLen]))).mono ?_
  rintro e w18 ⟨rfl, b18⟩
  rw [decide_eq_true rfl]
  clear p17 r17
  have B18 := ((B17.alloc B17.size (.cells (ints .u8 [0, 0, 0, 0]).toArray 5 (0, 0)))).trans (b18.mono ((B17.alloc B17.size (.cells (ints .u8 [0, 0, 0, 0]).toArray 5 (0, 0)))).size)
  clear b18 B17
  go_wp2_with fail
  refine (whole_any _ [97, 98, 99] [194, 65, 36, 53] (fun x hx => by simp at hx; omega) rfl (some ⟨w18.heap.size, 0, none⟩) 7 (src_new w18 _ 5 (0, 0) 7 (by simp) (by simp [maxLen]))).mono ?_
  rintro e w19 ⟨rfl, b19⟩
  rw [w_1]
  have B19 := ((B18.alloc B18.size (.cells (ints .u8 [97, 98, 99, 194, 65, 36, 53]).toArray 5 (0, 0)))).trans (b19.mono ((B18.alloc B18.size (.cells (ints .u8 [97, 98, 99, 194, 65, 36, 53]).toArray 5 (0, 0)))).size)
  clear b19 B18
  go_wp2_with fail
  refine (whole_any _ [97, 98, 99] [194, 65, 36, 52] (fun x hx => by simp at hx; omega) rfl (some ⟨w19.heap.size, 0, none⟩) 7 (src_new w19 _ 5 (0, 0) 7 (by simp) (by simp [maxLen]))).mono ?_
  rintro e w20 ⟨rfl, b20⟩
  rw [w_2]
  have B20 := ((B19.alloc B19.size (.cells (ints .u8 [97, 98, 99, 194, 65, 36, 52]).toArray 5 (0, 0)))).trans (b20.mono ((B19.alloc B19.size (.cells (ints .u8 [97, 98, 99, 194, 65, 36, 52]).toArray 5 (0, 0)))).size)
  clear b20 B19
  go_wp2_with fail
  refine (whole_short _ [0, 0, 0] _ 3 (by simp)).mono ?_
  rintro e w21 ⟨rfl, b21⟩
  have B21 := ((B20.alloc B20.size (.cells (ints .u8 [0, 0, 0]).toArray 5 (0, 0)))).trans (b21.mono ((B20.alloc B20.size (.cells (ints .u8 [0, 0, 0]).toArray 5 (0, 0)))).size)
  clear b21 B20
  go_wp2_with fail
  refine (whole_short w21 [] none 0 (by simp)).mono ?_
  rintro e w22 ⟨rfl, b22⟩
  have B22 := B21.trans (b22.mono B21.size)
  clear b22 B21
  go_wp2
  go_ret
  exact ⟨rfl, B22⟩
end Go.Proofs.Ytbmjegcnfokagab
