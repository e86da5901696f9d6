import Derived.Test.YtenfklcgkfaajaaDk43
namespace Go.Proofs.Ytenfklcgkfaajaa
set_option linter.unusedVariables false
set_option linter.unusedSimpArgs false
open Go.RowKit
attribute [local go_sem ↓] Go.wp_at_zero Go.wp_at_succ

theorem xflag_any (w : World) (b : Bool) :
    Calls Try.prog 39 #[.bool b] w fun e w' => e = .returned (.int .u8 (if b = true then 1 else 0)) ∧ w' = w := by
  cases b with
  | true =>
    go_enter Try.func39, Try.ntmps39
    go_wp2
    go_ret
    exact ⟨rfl, rfl⟩
  | false =>
    go_enter Try.func39, Try.ntmps39
    go_wp2
    go_ret
    exact ⟨rfl, rfl⟩
theorem xin4_any (w : World) (x : Int) (h0 : -9223372036854775808 ≤ x) (h1 : x ≤ 9223372036854775807) :
    Calls Try.prog 66 #[.int .i64 x] w fun e w' => e = .returned (.bool (n4 x)) ∧ w' = w := by
  have hd : n4 x = (decide (0 ≤ x) && decide (x ≤ 4294967295)) := by
    unfold n4
    rw [Bool.eq_iff_iff]; simp only [Bool.and_eq_true, decide_eq_true_iff]; omega
  rw [hd]
  by_cases a : 0 ≤ x
  · rw [decide_eq_true a]
    by_cases b : x ≤ 4294967295
    · rw [decide_eq_true b]
      go_enter Try.func66, Try.ntmps66
      go_wp2
      go_ret
      exact ⟨rfl, rfl⟩
    · rw [decide_eq_false b]
      go_enter Try.func66, Try.ntmps66
      go_wp2
      go_ret
      exact ⟨rfl, rfl⟩
  · rw [decide_eq_false a]
    go_enter Try.func66, Try.ntmps66
    go_wp2
    go_ret
    exact ⟨rfl, rfl⟩
theorem take_snocI (l : List Int) (k : Nat) (h : k < l.length) : l.take (k + 1) = l.take k ++ [l.getD k 0] := by
  rw [List.take_succ_eq_append_getElem h, List.getD_eq_getElem?_getD, List.getElem?_eq_getElem h]; rfl
set_option maxRecDepth 100000 in
set_option maxHeartbeats 800000 in
theorem xdigest_any (w : World) (ks : List Int) (hk : ks.length = 32) :
    Calls Try.prog 40 #[.agg (ints .u8 ks).toArray] w fun e w' => ∃ v, e = .returned v ∧ Own w' w.heap.size v ks ∧ Below w.heap.size w w' := by
  have hr0 := hnew w (.cells (ints .u8 ks).toArray 26)
  have hb0 := (Below.refl w.heap.size w).alloc (Nat.le_refl _) (.cells (ints .u8 ks).toArray 26)
  have hz0 : (w.alloc (.cells (ints .u8 ks).toArray 26)).heap.size = w.heap.size + 1 := by simp
  have hO := Own.nil (w.alloc (.cells (ints .u8 ks).toArray 26)) (w.heap.size + 1)
  have HK := hid hk
  go_enter Try.func40, Try.ntmps40
  go_wp2
  generalize (w.alloc (.cells (ints .u8 ks).toArray 26)) = w0 at *
  clear hk
  go_loopw [3, 4] (fun v i wr => ∃ k : Nat, k ≤ 32 ∧ i = .int .i64 k ∧ Own wr (w.heap.size + 1) v (ks.take k) ∧ Below (w.heap.size + 1) w0 wr) (fun _ i _ => 32 - (intOf i).toNat)
  case atStart => exact ⟨0, by omega, rfl, by simpa using hO, Below.refl _ _⟩
  case round =>
    clear hO
    obtain ⟨k, hk, rfl, hO, hB⟩ := hrel
    by_cases hlt' : k < 32
    · have i2 : (k : Int) < 32 := by omega
      have hrk := hbel hB hr0 (by omega)
      have c0 : wr.cell? ⟨w.heap.size, k, none⟩ = some (.int .u8 (ks.getD k 0)) := cell_ints hrk k (by have := HK.out; omega)
      have HT := hid (take_snocI ks k (by have := HK.out; omega))
      have KL := hid (show (ks.take k).length + 1 ≤ 140737488355328 by rw [List.length_take]; omega)
      have hbz : w.heap.size + 1 ≤ wr.heap.size := by have := hB.size; omega
      generalize ks.getD k 0 = x at *
      generalize ks.take k = zk at *
      clear hrk
      go_wp2_with (first | (at_builtin; refine wpList_push_any rfl (.tmp 9) (.tmp 13) rfl (w.heap.size + 1) _ _ x rfl hO rfl KL.out hbz _ _ ?_; intro v2 w2 hO2 hB2))
      go_roundw
      case rel => exact ⟨k + 1, by omega, by go_num, (by rw [HT.out]; exact hO2), hB.trans hB2⟩
      case measure => simp [intOf]; omega
    · obtain rfl : k = 32 := by omega
      clear hlt'
      go_wp2
      go_ret
      refine ⟨_, rfl, ?_, hb0.trans (hB.mono (by omega))⟩
      rw [List.take_of_length_le (by rw [HK.out]; exact Nat.le_refl _)] at hO
      exact own_lower hO (by omega)
set_option maxRecDepth 100000 in
set_option maxHeartbeats 800000 in
theorem xkey_any (w : World) (ks : List Int) (hk : ks.length = 32) :
    Calls Try.prog 41 #[.agg (ints .u8 ks).toArray] w fun e w' => ∃ v, e = .returned v ∧ Own w' w.heap.size v ks ∧ Below w.heap.size w w' := by
  have hr0 := hnew w (.cells (ints .u8 ks).toArray 50)
  have hb0 := (Below.refl w.heap.size w).alloc (Nat.le_refl _) (.cells (ints .u8 ks).toArray 50)
  have hz0 : (w.alloc (.cells (ints .u8 ks).toArray 50)).heap.size = w.heap.size + 1 := by simp
  have hO := Own.nil (w.alloc (.cells (ints .u8 ks).toArray 50)) (w.heap.size + 1)
  have HK := hid hk
  go_enter Try.func41, Try.ntmps41
  go_wp2
  generalize (w.alloc (.cells (ints .u8 ks).toArray 50)) = w0 at *
  clear hk
  go_loopw [3, 4] (fun v i wr => ∃ k : Nat, k ≤ 32 ∧ i = .int .i64 k ∧ Own wr (w.heap.size + 1) v (ks.take k) ∧ Below (w.heap.size + 1) w0 wr) (fun _ i _ => 32 - (intOf i).toNat)
  case atStart => exact ⟨0, by omega, rfl, by simpa using hO, Below.refl _ _⟩
  case round =>
    clear hO
    obtain ⟨k, hk, rfl, hO, hB⟩ := hrel
    by_cases hlt' : k < 32
    · have i2 : (k : Int) < 32 := by omega
      have hrk := hbel hB hr0 (by omega)
      have c0 : wr.cell? ⟨w.heap.size, k, none⟩ = some (.int .u8 (ks.getD k 0)) := cell_ints hrk k (by have := HK.out; omega)
      have HT := hid (take_snocI ks k (by have := HK.out; omega))
      have KL := hid (show (ks.take k).length + 1 ≤ 140737488355328 by rw [List.length_take]; omega)
      have hbz : w.heap.size + 1 ≤ wr.heap.size := by have := hB.size; omega
      generalize ks.getD k 0 = x at *
      generalize ks.take k = zk at *
      clear hrk
      go_wp2_with (first | (at_builtin; refine wpList_push_any rfl (.tmp 9) (.tmp 13) rfl (w.heap.size + 1) _ _ x rfl hO rfl KL.out hbz _ _ ?_; intro v2 w2 hO2 hB2))
      go_roundw
      case rel => exact ⟨k + 1, by omega, by go_num, (by rw [HT.out]; exact hO2), hB.trans hB2⟩
      case measure => simp [intOf]; omega
    · obtain rfl : k = 32 := by omega
      clear hlt'
      go_wp2
      go_ret
      refine ⟨_, rfl, ?_, hb0.trans (hB.mono (by omega))⟩
      rw [List.take_of_length_le (by rw [HK.out]; exact Nat.le_refl _)] at hO
      exact own_lower hO (by omega)
set_option maxRecDepth 100000 in
set_option maxHeartbeats 2000000 in
theorem xfit_o (w : World) (op : Int) (r : Rp) (hB : RpB r) (vs rs ls cs : Option Addr) (vc rc lc cc : Nat) (hI : RpI w r vs rs ls cs vc rc lc cc) (o0 : -9223372036854775808 ≤ op) (o1 : op ≤ 9223372036854775807) (h2 : op ≠ 2) (h6 : op ≠ 6) (h7 : op ≠ 7) (h8 : op ≠ 8) :
    Calls Try.prog 38 #[.int .i64 op, .agg (rpV r vs rs ls cs vc rc lc cc).toArray] w fun e w' => e = .returned (.bool (true)) ∧ Below w.heap.size w w' := by
  have hb1 := (Below.refl w.heap.size w).alloc (Nat.le_refl _) (.cells (rpV r vs rs ls cs vc rc lc cc).toArray 32)
  have X1 := RC.of (hnew w (.cells (rpV r vs rs ls cs vc rc lc cc).toArray 32)) hI.l
  have HB := hid hb1
  have k2 : (op == 2) = false := beq_eq_false_iff_ne.2 h2
  have k6 : (op == 6) = false := beq_eq_false_iff_ne.2 h6
  have k7 : (op == 7) = false := beq_eq_false_iff_ne.2 h7
  have k8 : (op == 8) = false := beq_eq_false_iff_ne.2 h8
  clear X1 hb1 h2 h6 h7 h8
  go_enter Try.func38, Try.ntmps38
  go_wp2
  go_ret
  exact ⟨rfl, HB.out⟩
set_option maxRecDepth 100000 in
set_option maxHeartbeats 2000000 in
theorem xfit_2n (w : World) (r : Rp) (hB : RpB r) (vs rs ls cs : Option Addr) (vc rc lc cc : Nat) (hI : RpI w r vs rs ls cs vc rc lc cc) (hf : r.found = false) :
    Calls Try.prog 38 #[.int .i64 2, .agg (rpV r vs rs ls cs vc rc lc cc).toArray] w fun e w' => e = .returned (.bool (true)) ∧ Below w.heap.size w w' := by
  have hb1 := (Below.refl w.heap.size w).alloc (Nat.le_refl _) (.cells (rpV r vs rs ls cs vc rc lc cc).toArray 32)
  have X1 := RC.of (hnew w (.cells (rpV r vs rs ls cs vc rc lc cc).toArray 32)) hI.l
  have HB := hid hb1
  have c2 := X1.c2
  have c4 := X1.c4
  have hm := hI.sv.2.1
  have hc := hI.sv.1
  unfold maxLen at hm
  have i1 : (r.val.length : Int) ≤ 9223372036854775807 := by omega
  clear X1 hb1 hm hc hB hI
  generalize r.val.length = n at *
  rw [hf] at c2
  clear hf
  go_enter Try.func38, Try.ntmps38
  go_wp2
  go_ret
  exact ⟨rfl, HB.out⟩
set_option maxRecDepth 100000 in
set_option maxHeartbeats 2000000 in
theorem xfit_2y (w : World) (r : Rp) (hB : RpB r) (vs rs ls cs : Option Addr) (vc rc lc cc : Nat) (hI : RpI w r vs rs ls cs vc rc lc cc) (hf : r.found = true) :
    Calls Try.prog 38 #[.int .i64 2, .agg (rpV r vs rs ls cs vc rc lc cc).toArray] w fun e w' => e = .returned (.bool (decide (r.val.length ≤ 128))) ∧ Below w.heap.size w w' := by
  have hb1 := (Below.refl w.heap.size w).alloc (Nat.le_refl _) (.cells (rpV r vs rs ls cs vc rc lc cc).toArray 32)
  have X1 := RC.of (hnew w (.cells (rpV r vs rs ls cs vc rc lc cc).toArray 32)) hI.l
  have HB := hid hb1
  have c2 := X1.c2
  have c4 := X1.c4
  have hm := hI.sv.2.1
  have hc := hI.sv.1
  unfold maxLen at hm
  have i1 : (r.val.length : Int) ≤ 9223372036854775807 := by omega
  clear X1 hb1 hm hc hB hI
  generalize hn : r.val.length = n at *
  replace hn := hid hn
  rw [hf] at c2
  clear hf
  go_enter Try.func38, Try.ntmps38
  by_cases hle : n ≤ 128
  · have i2 : (n : Int) ≤ 128 := by omega
    go_wp2
    go_ret
    exact ⟨by rw [decide_eq_true hle]; rfl, HB.out⟩
  · have i2 : ¬ (n : Int) ≤ 128 := by omega
    go_wp2
    go_ret
    exact ⟨rfl, HB.out⟩
set_option maxRecDepth 100000 in
set_option maxHeartbeats 2000000 in
theorem xfit_8 (w : World) (r : Rp) (hB : RpB r) (vs rs ls cs : Option Addr) (vc rc lc cc : Nat) (hI : RpI w r vs rs ls cs vc rc lc cc) :
    Calls Try.prog 38 #[.int .i64 8, .agg (rpV r vs rs ls cs vc rc lc cc).toArray] w fun e w' => e = .returned (.bool (inF r.info)) ∧ Below w.heap.size w w' := by
  have hb1 := (Below.refl w.heap.size w).alloc (Nat.le_refl _) (.cells (rpV r vs rs ls cs vc rc lc cc).toArray 32)
  have X1 := RC.of (hnew w (.cells (rpV r vs rs ls cs vc rc lc cc).toArray 32)) hI.l
  have HB := hid hb1
  have X := X1.inf
  have q0 : (w.alloc (.cells (rpV r vs rs ls cs vc rc lc cc).toArray 32)).cell? ⟨w.heap.size, 40, none⟩ = some (.int .i64 r.info.width) := X 0 _ rfl
  have q3 : (w.alloc (.cells (rpV r vs rs ls cs vc rc lc cc).toArray 32)).cell? ⟨w.heap.size, 43, none⟩ = some (.int .i64 r.info.used) := X 3 _ rfl
  have q4 : (w.alloc (.cells (rpV r vs rs ls cs vc rc lc cc).toArray 32)).cell? ⟨w.heap.size, 44, none⟩ = some (.int .i64 r.info.pages) := X 4 _ rfl
  have q5 : (w.alloc (.cells (rpV r vs rs ls cs vc rc lc cc).toArray 32)).cell? ⟨w.heap.size, 45, none⟩ = some (.int .i64 r.info.keys) := X 5 _ rfl
  have KU := hid (fun w1 => xin4_any w1 r.info.used hB.inf.used.1 hB.inf.used.2)
  have KP := hid (fun w1 => xin4_any w1 r.info.pages hB.inf.pages.1 hB.inf.pages.2)
  have KK := hid (fun w1 => xin4_any w1 r.info.keys hB.inf.keys.1 hB.inf.keys.2)
  have hd : decide (0 ≤ r.info.width ∧ r.info.width < 256) = (decide (0 ≤ r.info.width) && decide (r.info.width ≤ 255)) := by
    rw [Bool.eq_iff_iff]; simp only [Bool.and_eq_true, decide_eq_true_iff]; omega
  have HD := hid hd
  clear hd X X1 hb1 hI hB
  unfold inF
  rw [HD.out]
  clear HD
  generalize r.info.width = x at *
  generalize n4 r.info.used = bu at *
  generalize n4 r.info.pages = bp at *
  generalize n4 r.info.keys = bk at *
  go_enter Try.func38, Try.ntmps38
  by_cases a : 0 ≤ x
  · by_cases b : x ≤ 255
    · rw [decide_eq_true a, decide_eq_true b]
      cases bu with
      | false =>
        go_wp2_with fail
        refine (KU.out _).mono ?_
        rintro e w' ⟨rfl, hw'⟩
        obtain rfl := hw'.symm
        go_wp2
        go_ret
        exact ⟨rfl, HB.out⟩
      | true =>
        cases bp with
        | false =>
          go_wp2_with fail
          refine (KU.out _).mono ?_
          rintro e w' ⟨rfl, hw'⟩
          obtain rfl := hw'.symm
          go_wp2_with fail
          refine (KP.out _).mono ?_
          rintro e w' ⟨rfl, hw'⟩
          obtain rfl := hw'.symm
          go_wp2
          go_ret
          exact ⟨rfl, HB.out⟩
        | true =>
          go_wp2_with fail
          refine (KU.out _).mono ?_
          rintro e w' ⟨rfl, hw'⟩
          obtain rfl := hw'.symm
          go_wp2_with fail
          refine (KP.out _).mono ?_
          rintro e w' ⟨rfl, hw'⟩
          obtain rfl := hw'.symm
          go_wp2_with fail
          refine (KK.out _).mono ?_
          rintro e w' ⟨rfl, hw'⟩
          obtain rfl := hw'.symm
          go_wp2
          go_ret
          exact ⟨by cases bk <;> rfl, HB.out⟩
    · rw [decide_eq_true a, decide_eq_false b]
      go_wp2
      go_ret
      exact ⟨rfl, HB.out⟩
  · rw [decide_eq_false a]
    go_wp2
    go_ret
    exact ⟨rfl, HB.out⟩
end Go.Proofs.Ytenfklcgkfaajaa
namespace Go.Proofs.Ytenfklcgkfaajaa
set_option linter.unusedVariables false
set_option linter.unusedSimpArgs false
open Go.RowKit
attribute [local go_sem ↓] Go.wp_at_zero Go.wp_at_succ

theorem all_snoc (p : Cg → Bool) (l : List Cg) (k : Nat) (h : k < l.length) : (l.take (k + 1)).all p = ((l.take k).all p && p (l.getD k dX)) := by
  rw [List.take_succ_eq_append_getElem h, List.all_append, List.getD_eq_getElem?_getD, List.getElem?_eq_getElem h]; simp
theorem lsF_no (c : Bool) (l : List Cg) (k : Nat) (h : k < l.length) (he : elF c (l.getD k dX) = false) : lsF c l = false := by
  unfold lsF
  have : l.all (elF c) = false := by
    rw [List.all_eq_false]
    refine ⟨l[k], List.getElem_mem h, ?_⟩
    rw [List.getD_eq_getElem?_getD, List.getElem?_eq_getElem h] at he
    simpa using he
  rw [this]; simp
theorem lsF_yes (c : Bool) (l : List Cg) (h : l.length ≤ 4096) (ha : l.all (elF c) = true) : lsF c l = true := by
  unfold lsF; rw [ha, decide_eq_true h]; rfl
set_option maxRecDepth 100000 in
set_option maxHeartbeats 2000000 in
theorem xfit_6l (w : World) (r : Rp) (hB : RpB r) (vs rs ls cs : Option Addr) (vc rc lc cc : Nat) (hI : RpI w r vs rs ls cs vc rc lc cc) (hl : ¬ r.list.length ≤ 4096) :
    Calls Try.prog 38 #[.int .i64 6, .agg (rpV r vs rs ls cs vc rc lc cc).toArray] w fun e w' => e = .returned (.bool (false)) ∧ Below w.heap.size w w' := by
  have hb1 := (Below.refl w.heap.size w).alloc (Nat.le_refl _) (.cells (rpV r vs rs ls cs vc rc lc cc).toArray 32)
  have X1 := RC.of (hnew w (.cells (rpV r vs rs ls cs vc rc lc cc).toArray 32)) hI.l
  have c38 := X1.c38
  have hm := hI.sl.mx
  have hc := hI.sl.le
  unfold maxLen at hm
  have i1 : (r.list.length : Int) ≤ 9223372036854775807 := by omega
  have I1 := hI.sl.below hb1
  clear hm hc hB hI X1
  have HB := hid hb1
  clear hb1 I1
  have i2 : (4096 : Int) < (r.list.length : Int) := by omega
  have HL := hid hl
  clear hl
  generalize r.list.length = n at *
  go_enter Try.func38, Try.ntmps38
  go_wp2
  go_ret
  exact ⟨rfl, HB.out⟩
set_option maxRecDepth 100000 in
set_option maxHeartbeats 2000000 in
theorem xfit_6 (w : World) (r : Rp) (hB : RpB r) (vs rs ls cs : Option Addr) (vc rc lc cc : Nat) (hI : RpI w r vs rs ls cs vc rc lc cc) (hl : r.list.length ≤ 4096) :
    Calls Try.prog 38 #[.int .i64 6, .agg (rpV r vs rs ls cs vc rc lc cc).toArray] w fun e w' => e = .returned (.bool (lsF false r.list)) ∧ Below w.heap.size w w' := by
  have hb1 := (Below.refl w.heap.size w).alloc (Nat.le_refl _) (.cells (rpV r vs rs ls cs vc rc lc cc).toArray 32)
  have X1 := RC.of (hnew w (.cells (rpV r vs rs ls cs vc rc lc cc).toArray 32)) hI.l
  have c38 := X1.c38
  have hm := hI.sl.mx
  have hc := hI.sl.le
  unfold maxLen at hm
  have i1 : (r.list.length : Int) ≤ 9223372036854775807 := by omega
  have I1 := hI.sl.below hb1
  clear hm hc hB hI X1
  have HB := hid hb1
  have HL := hid hl
  have i2 : ¬ (4096 : Int) < (r.list.length : Int) := by omega
  clear hb1 hl
  go_enter Try.func38, Try.ntmps38
  go_wp2
  generalize hw1 : (w.alloc (.cells (rpV r vs rs ls cs vc rc lc cc).toArray 32)) = w1 at *
  replace hw1 := hid hw1
  go_loopw [5] (fun i wr => ∃ k : Nat, k ≤ r.list.length ∧ i = .int .i64 k ∧ wr = w1 ∧ (r.list.take k).all (elF false) = true) (fun i _ => r.list.length - (intOf i).toNat)
  case atStart => exact ⟨0, Nat.zero_le _, rfl, rfl, rfl⟩
  case round =>
    obtain ⟨k, hk, rfl, hwr, hA0⟩ := hrel
    obtain rfl := hwr.symm
    have hA := hid hA0
    clear hA0
    by_cases hlt' : k < r.list.length
    · have i3 : (k : Int) < (r.list.length : Int) := by omega
      have HT := hid (all_snoc (elF false) r.list k hlt')
      have HN := hid (fun h => lsF_no false r.list k hlt' h)
      obtain ⟨b1, o1, h1, e1⟩ := I1.el
      obtain ⟨rfl, _⟩ := h1 (by omega)
      · obtain ⟨s1, p1, g1, kl, S1, _⟩ := e1 k hlt'
        have hm1 := S1.2.1
        have hc1 := S1.1
        unfold maxLen at hm1
        have i4 : ((r.list.getD k dX).val.length : Int) ≤ 9223372036854775807 := by omega
        clear h1 e1 S1 hm1 hc1
        obtain ⟨k1, v1⟩ := el_false g1 kl
        change w1.cell? ⟨b1, o1 + k * 33 + 32, none⟩ = _ at v1
        by_cases hv : (r.list.getD k dX).val.length ≤ 128
        · have i5 : ¬ (128 : Int) < ((r.list.getD k dX).val.length : Int) := by omega
          have HE := hid (show elF false (r.list.getD k dX) = true by unfold elF; rw [decide_eq_true hv]; simp)
          generalize (r.list.getD k dX).val.length = m at *
          clear hv k1 g1
          go_wp2
          go_roundw
          case rel => exact ⟨k + 1, by omega, by go_num, trivial, by rw [HT.out, hA.out, HE.out]; rfl⟩
          case measure => simp [intOf]; omega
        · have i5 : (128 : Int) < ((r.list.getD k dX).val.length : Int) := by omega
          have HE := hid (show elF false (r.list.getD k dX) = false by unfold elF; rw [decide_eq_false hv]; rfl)
          generalize (r.list.getD k dX).val.length = m at *
          clear hv k1 g1
          go_wp2
          go_ret
          exact ⟨by rw [HN.out HE.out]; rfl, HB.out⟩
    · obtain rfl : k = r.list.length := by omega
      have HF := hid (lsF_yes false r.list (by have := HL.out; omega) (by have := hA.out; rwa [List.take_length] at this))
      clear hlt'
      go_wp2
      go_ret
      exact ⟨by rw [HF.out]; rfl, HB.out⟩
set_option maxRecDepth 100000 in
set_option maxHeartbeats 2000000 in
theorem xfit_7l (w : World) (r : Rp) (hB : RpB r) (vs rs ls cs : Option Addr) (vc rc lc cc : Nat) (hI : RpI w r vs rs ls cs vc rc lc cc) (hl : ¬ r.chs.length ≤ 4096) :
    Calls Try.prog 38 #[.int .i64 7, .agg (rpV r vs rs ls cs vc rc lc cc).toArray] w fun e w' => e = .returned (.bool (false)) ∧ Below w.heap.size w w' := by
  have hb1 := (Below.refl w.heap.size w).alloc (Nat.le_refl _) (.cells (rpV r vs rs ls cs vc rc lc cc).toArray 32)
  have X1 := RC.of (hnew w (.cells (rpV r vs rs ls cs vc rc lc cc).toArray 32)) hI.l
  have c39 := X1.c39
  have hm := hI.sc.mx
  have hc := hI.sc.le
  unfold maxLen at hm
  have i1 : (r.chs.length : Int) ≤ 9223372036854775807 := by omega
  have I1 := hI.sc.below hb1
  clear hm hc hB hI X1
  have HB := hid hb1
  clear hb1 I1
  have i2 : (4096 : Int) < (r.chs.length : Int) := by omega
  have HL := hid hl
  clear hl
  generalize r.chs.length = n at *
  go_enter Try.func38, Try.ntmps38
  go_wp2
  go_ret
  exact ⟨rfl, HB.out⟩
set_option maxRecDepth 100000 in
set_option maxHeartbeats 2000000 in
theorem xfit_7 (w : World) (r : Rp) (hB : RpB r) (vs rs ls cs : Option Addr) (vc rc lc cc : Nat) (hI : RpI w r vs rs ls cs vc rc lc cc) (hl : r.chs.length ≤ 4096) :
    Calls Try.prog 38 #[.int .i64 7, .agg (rpV r vs rs ls cs vc rc lc cc).toArray] w fun e w' => e = .returned (.bool (lsF true r.chs)) ∧ Below w.heap.size w w' := by
  have hb1 := (Below.refl w.heap.size w).alloc (Nat.le_refl _) (.cells (rpV r vs rs ls cs vc rc lc cc).toArray 32)
  have X1 := RC.of (hnew w (.cells (rpV r vs rs ls cs vc rc lc cc).toArray 32)) hI.l
  have c39 := X1.c39
  have hm := hI.sc.mx
  have hc := hI.sc.le
  unfold maxLen at hm
  have i1 : (r.chs.length : Int) ≤ 9223372036854775807 := by omega
  have I1 := hI.sc.below hb1
  clear hm hc hB hI X1
  have HB := hid hb1
  have HL := hid hl
  have i2 : ¬ (4096 : Int) < (r.chs.length : Int) := by omega
  clear hb1 hl
  go_enter Try.func38, Try.ntmps38
  go_wp2
  generalize hw1 : (w.alloc (.cells (rpV r vs rs ls cs vc rc lc cc).toArray 32)) = w1 at *
  replace hw1 := hid hw1
  go_loopw [6] (fun i wr => ∃ k : Nat, k ≤ r.chs.length ∧ i = .int .i64 k ∧ wr = w1 ∧ (r.chs.take k).all (elF true) = true) (fun i _ => r.chs.length - (intOf i).toNat)
  case atStart => exact ⟨0, Nat.zero_le _, rfl, rfl, rfl⟩
  case round =>
    obtain ⟨k, hk, rfl, hwr, hA0⟩ := hrel
    obtain rfl := hwr.symm
    have hA := hid hA0
    clear hA0
    by_cases hlt' : k < r.chs.length
    · have i3 : (k : Int) < (r.chs.length : Int) := by omega
      have HT := hid (all_snoc (elF true) r.chs k hlt')
      have HN := hid (fun h => lsF_no true r.chs k hlt' h)
      obtain ⟨b1, o1, h1, e1⟩ := I1.el
      obtain ⟨rfl, _⟩ := h1 (by omega)
      · obtain ⟨s1, p1, g1, kl, S1, _⟩ := e1 k hlt'
        have hm1 := S1.2.1
        have hc1 := S1.1
        unfold maxLen at hm1
        have i4 : ((r.chs.getD k dX).val.length : Int) ≤ 9223372036854775807 := by omega
        clear h1 e1 S1 hm1 hc1
        obtain ⟨k1, v1, d1⟩ := el_true g1 kl
        change w1.cell? ⟨b1, o1 + k * 34 + 33, none⟩ = _ at v1
        change w1.cell? ⟨b1, o1 + k * 34 + 32, none⟩ = _ at d1
        cases hd : (r.chs.getD k dX).del with
        | true =>
          rw [hd] at d1
          have HE := hid (show elF true (r.chs.getD k dX) = true by unfold elF; rw [hd]; rfl)
          generalize (r.chs.getD k dX).val.length = m at *
          clear hd k1 g1
          go_wp2
          go_roundw
          case rel => exact ⟨k + 1, by omega, by go_num, trivial, by rw [HT.out, hA.out, HE.out]; rfl⟩
          case measure => simp [intOf]; omega
        | false =>
          rw [hd] at d1
          by_cases hv : (r.chs.getD k dX).val.length ≤ 128
          · have i5 : ¬ (128 : Int) < ((r.chs.getD k dX).val.length : Int) := by omega
            have HE := hid (show elF true (r.chs.getD k dX) = true by unfold elF; rw [decide_eq_true hv]; simp)
            generalize (r.chs.getD k dX).val.length = m at *
            clear hv k1 g1 hd
            go_wp2
            go_roundw
            case rel => exact ⟨k + 1, by omega, by go_num, trivial, by rw [HT.out, hA.out, HE.out]; rfl⟩
            case measure => simp [intOf]; omega
          · have i5 : (128 : Int) < ((r.chs.getD k dX).val.length : Int) := by omega
            have HE := hid (show elF true (r.chs.getD k dX) = false by unfold elF; rw [hd, decide_eq_false hv]; rfl)
            generalize (r.chs.getD k dX).val.length = m at *
            clear hv k1 g1 hd
            go_wp2
            go_ret
            exact ⟨by rw [HN.out HE.out]; rfl, HB.out⟩
    · obtain rfl : k = r.chs.length := by omega
      have HF := hid (lsF_yes true r.chs (by have := HL.out; omega) (by have := hA.out; rwa [List.take_length] at this))
      clear hlt'
      go_wp2
      go_ret
      exact ⟨by rw [HF.out]; rfl, HB.out⟩
theorem xfits_any (w : World) (op : Int) (o0 : -9223372036854775808 ≤ op) (o1 : op ≤ 9223372036854775807) (r : Rp) (hB : RpB r) (vs rs ls cs : Option Addr) (vc rc lc cc : Nat) (hI : RpI w r vs rs ls cs vc rc lc cc) :
    Calls Try.prog 38 #[.int .i64 op, .agg (rpV r vs rs ls cs vc rc lc cc).toArray] w fun e w' => e = .returned (.bool (fdF op r)) ∧ Below w.heap.size w w' := by
  unfold fdF
  by_cases h2 : op = 2
  · subst h2
    rw [if_pos rfl]
    cases hf : r.found with
    | true => simpa using xfit_2y w r hB vs rs ls cs vc rc lc cc hI hf
    | false => simpa using xfit_2n w r hB vs rs ls cs vc rc lc cc hI hf
  rw [if_neg h2]
  by_cases h6 : op = 6
  · subst h6
    rw [if_pos rfl]
    by_cases hl : r.list.length ≤ 4096
    · exact xfit_6 w r hB vs rs ls cs vc rc lc cc hI hl
    · rw [show lsF false r.list = false by unfold lsF; rw [decide_eq_false hl]; rfl]
      exact xfit_6l w r hB vs rs ls cs vc rc lc cc hI hl
  rw [if_neg h6]
  by_cases h7 : op = 7
  · subst h7
    rw [if_pos rfl]
    by_cases hl : r.chs.length ≤ 4096
    · exact xfit_7 w r hB vs rs ls cs vc rc lc cc hI hl
    · rw [show lsF true r.chs = false by unfold lsF; rw [decide_eq_false hl]; rfl]
      exact xfit_7l w r hB vs rs ls cs vc rc lc cc hI hl
  rw [if_neg h7]
  by_cases h8 : op = 8
  · subst h8
    rw [if_pos rfl]
    exact xfit_8 w r hB vs rs ls cs vc rc lc cc hI
  rw [if_neg h8]
  exact xfit_o w op r hB vs rs ls cs vc rc lc cc hI o0 o1 h2 h6 h7 h8
end Go.Proofs.Ytenfklcgkfaajaa
