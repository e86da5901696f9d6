import Derived.Test.YtenfklcgkfaajaaDk2
namespace Go.Proofs.Ytenfklcgkfaajaa
set_option linter.unusedVariables false
set_option linter.unusedSimpArgs false
open Go.RowKit
attribute [local go_sem ↓] Go.wp_at_zero Go.wp_at_succ

theorem div_bd (x : Int) (k : Nat) (h0 : -9223372036854775808 ≤ x) (h1 : x ≤ 9223372036854775807) : -9223372036854775808 ≤ x / 256 ^ k ∧ x / 256 ^ k ≤ 9223372036854775807 := by
  have hp : (0 : Int) < 256 ^ k := by rw [← pw256]; exact Int.natCast_pos.2 (Nat.pow_pos (by omega))
  constructor
  · rw [Int.le_ediv_iff_mul_le hp]; 
    have : (1 : Int) ≤ 256 ^ k := hp
    have := Int.mul_le_mul_of_nonneg_left this (show (0 : Int) ≤ 9223372036854775808 by omega)
    rw [Int.neg_mul]
    omega
  · by_cases hx : 0 ≤ x
    · have := Int.ediv_le_self (256 ^ k) hx; omega
    · have := Int.ediv_neg_of_neg_of_pos (by omega : x < 0) hp; omega
set_option maxRecDepth 100000 in
set_option maxHeartbeats 800000 in
theorem Low_any (w : World) (x : Int) (n : Nat) (hn : n ≤ 8) (h0 : -9223372036854775808 ≤ x) (h1 : x ≤ 9223372036854775807) :
    Calls Try.prog 37 #[.int .i64 x, .int .i64 n] w fun e w' => ∃ v, e = .returned v ∧ Own w' w.heap.size v (lowN x n) ∧ Below w.heap.size w w' := by
  have hO := Own.nil w w.heap.size
  have i0 : (n : Int) ≤ 8 := by omega
  go_enter Try.func37, Try.ntmps37
  go_wp2
  go_loopw [0, 5, 6] (fun y v i wr => ∃ k : Nat, k ≤ n ∧ i = .int .i64 k ∧ y = .int .i64 (x / 256 ^ k) ∧ Own wr w.heap.size v (lowN x k) ∧ Below w.heap.size w wr) (fun _ _ i _ => n - (intOf i).toNat)
  case atStart => exact ⟨0, by omega, rfl, by simp, hO, Below.refl _ _⟩
  case round =>
    clear hO
    obtain ⟨k, hk, rfl, rfl, hO, hB⟩ := hrel
    by_cases hlt : k < n
    · have i2 : (k : Int) < (n : Int) := by omega
      have hbd := div_bd x k h0 h1
      have HT := hid (lowN_snoc k x)
      have HD := hid (show x / 256 ^ (k + 1) = x / 256 ^ k / 256 by rw [Int.ediv_ediv_of_nonneg (by rw [← pw256]; exact Int.natCast_nonneg _), Int.pow_succ])
      have KL := hid (show (lowN x k).length + 1 ≤ 140737488355328 by rw [lowN_len]; omega)
      generalize x / 256 ^ k = y at *
      have ha := and255 y
      generalize lowN x k = zk at *
      go_wp2_with (first | (at_builtin; refine wpList_push_any rfl (.tmp 12) (.tmp 16) rfl w.heap.size _ _ (y % 256) rfl hO rfl KL.out hB.size _ _ ?_; intro v2 w2 hO2 hB2))
      go_roundw
      case rel => exact ⟨k + 1, by omega, by go_num, by rw [HD.out], (by rw [HT.out]; exact hO2), hB.trans hB2⟩
      case measure => simp [intOf]; omega
    · obtain rfl : k = n := by omega
      clear hlt
      go_wp2
      go_ret
      exact ⟨_, rfl, hO, hB⟩

set_option maxRecDepth 100000 in
set_option maxHeartbeats 800000 in
theorem appendNumber_any (w : World) (base : Nat) (v : Value) (zs : List Int) (x : Int) (n : Nat) (hn : n ≤ 8) (h0 : -9223372036854775808 ≤ x) (h1 : x ≤ 9223372036854775807) (hO : Own w base v zs) (hb : base ≤ w.heap.size) (hl : zs.length ≤ 140737488351232) :
    Calls Try.prog 60 #[v, .int .i64 x, .int .i64 n] w fun e w' => ∃ v', e = .returned v' ∧ Own w' base v' (zs ++ lowN x n) ∧ Below base w w' := by
  have i0 : (n : Int) ≤ 8 := by omega
  go_enter Try.func60, Try.ntmps60
  go_wp2
  go_loopw [0, 9] (fun v' i wr => ∃ k : Nat, k ≤ n ∧ i = .int .i64 k ∧ Own wr base v' (zs ++ lowN x k) ∧ Below base w wr) (fun _ i _ => n - (intOf i).toNat)
  case atStart => exact ⟨0, by omega, rfl, by simpa [lowN] using hO, Below.refl _ _⟩
  case round =>
    clear hO
    obtain ⟨k, hk, rfl, hO, hB⟩ := hrel
    by_cases hlt : k < n
    · have i2 : (k : Int) < (n : Int) := by omega
      have HT := hid (show zs ++ lowN x (k + 1) = zs ++ lowN x k ++ [(x / 2 ^ (8 * k)) % 256] by rw [lowN_snoc, List.append_assoc, show (256 : Int) ^ k = 2 ^ (8 * k) by rw [Int.pow_mul]; rfl])
      have KL := hid (show (zs ++ lowN x k).length + 1 ≤ 140737488355328 by rw [List.length_append, lowN_len]; omega)
      have KB := hid (show base ≤ wr.heap.size from Nat.le_trans hb hB.size)
      generalize zs ++ lowN x k = zk at *
      go_wp2_with (first | (at_builtin; refine wpList_push_any rfl (.tmp 12) (.tmp 18) rfl base _ _ ((x / 2 ^ (8 * k)) % 256) rfl hO rfl KL.out KB.out _ _ ?_; intro v2 w2 hO2 hB2))
      go_roundw
      case rel => exact ⟨k + 1, by omega, by go_num, (by rw [HT.out]; exact hO2), hB.trans hB2⟩
      case measure => simp [intOf]; omega
    · obtain rfl : k = n := by omega
      clear hlt
      go_wp2
      go_ret
      exact ⟨_, rfl, hO, hB⟩

/-- A reader in memory: what is left lies in the block b, below the world w0. -/
structure RK (w0 w : World) (g b : Nat) (R : Rd) : Prop where
  bel : Below w0.heap.size w0 w
  new : w0.heap.size ≤ g
  row : ∃ o cap, w.heap[g]? = some (.cells #[.slice (some ⟨b, o, none⟩) R.rest.length cap, .bool R.wrong] 78 (0, 0)) ∧ Src w0 (some ⟨b, o, none⟩) cap R.rest
theorem Keeps.trans_b {g : Nat} {a b c : World} (h : Keeps g a b) (k : Below b.heap.size b c) : Keeps g a c := h.trans (Keeps.of_below k)
theorem RK.keep {w0 w w1 : World} {g b : Nat} {R : Rd} (h : RK w0 w g b R) (k : Below (g + 1) w w1) : RK w0 w1 g b R := by
  obtain ⟨o, cap, h1, h2⟩ := h.row
  exact ⟨h.bel.trans (k.mono (by have := h.new; omega)), h.new, o, cap, hbel k h1 (by omega), h2⟩
theorem RK.lt {w0 w : World} {g b : Nat} {R : Rd} (h : RK w0 w g b R) : g < w.heap.size := by
  obtain ⟨o, cap, h1, h2⟩ := h.row
  exact hlt h1
theorem heap_set1 {w : World} {g t : Nat} {x y v : Value} (h : w.heap[g]? = some (.cells #[x, y] t (0, 0))) : (w.setCell ⟨g, 1, none⟩ v).heap[g]? = some (.cells #[x, v] t (0, 0)) := by
  rw [heap_setCell_same _ _ _ _ _ _ h]; rfl
theorem heap_set0 {w : World} {g t : Nat} {x y v : Value} (h : w.heap[g]? = some (.cells #[x, y] t (0, 0))) : (w.setCell ⟨g, 0, none⟩ v).heap[g]? = some (.cells #[v, y] t (0, 0)) := by
  rw [heap_setCell_same _ _ _ _ _ _ h]; rfl
theorem Keeps.setCell {g : Nat} {a b : World} (h : Keeps g a b) (o : Nat) (v : Value) : Keeps g a (b.setCell ⟨g, o, none⟩ v) :=
  ⟨h.os, h.tape, h.output, by rw [World.size_setCell]; exact h.size, fun k hk hne => (heap_setCell_other _ _ _ _ hne).trans (h.block k hk hne)⟩
set_option maxRecDepth 100000 in
set_option maxHeartbeats 800000 in
theorem take_any (w0 w : World) (g b : Nat) (R : Rd) (h : RK w0 w g b R) (n : Nat) (hn : n ≤ 140737488351232) :
    Calls Try.prog 45 #[.pointer (some ⟨g, 0, none⟩), .int .i64 n] w fun e w' => ∃ sb so cap, e = .returned (.slice (some ⟨sb, so, none⟩) n cap) ∧ Src w' (some ⟨sb, so, none⟩) cap (tkV R n) ∧ RK w0 w' g b (tkS R n) ∧ Keeps g w w' := by
  obtain ⟨hbel, hnew, o, cap, hrow, hS⟩ := h
  obtain ⟨i5, hi5, hz5, hs5, hy5⟩ := Try.info5
  have HI := hid hi5
  clear hi5
  have c0 : w.cell? ⟨g, 0, none⟩ = some (.slice (some ⟨b, o, none⟩) R.rest.length cap) := by rw [cell_of_row _ _ _ _ _ _ hrow]; rfl
  have c1 : w.cell? ⟨g, 1, none⟩ = some (.bool R.wrong) := by rw [cell_of_row _ _ _ _ _ _ hrow]; rfl
  have fz : ∀ j, w.frozen? ⟨g, j, none⟩ = false := fun j => frozen_of_row _ _ _ _ _ hrow
  have hm := hS.2.1
  have hc := hS.1
  have HS := hid hS
  unfold maxLen at hm
  have i0 : (R.rest.length : Int) ≤ (cap : Int) := by omega
  have i1 : (cap : Int) ≤ 9223372036854775807 := by omega
  by_cases hq : R.rest.length < n
  · have HV := hid (show tkV R n = List.replicate n 0 by unfold tkV; rw [if_neg (by omega)])
    have HR := hid (show tkS R n = ⟨R.rest, true⟩ by unfold tkS; rw [if_neg (by omega)])
    have K1 := hid (show i5.bytes * n ≤ 281474976710656 by rw [hy5]; omega)
    have K2 := hid (show n ≤ maxLen by unfold maxLen; omega)
    have i2 : (R.rest.length : Int) < (n : Int) := by omega
    have hw1 : (w.setCell ⟨g, 1, none⟩ (.bool true)).heap[g]? = some (.cells #[.slice (some ⟨b, o, none⟩) R.rest.length cap, .bool true] 78 (0, 0)) := heap_set1 hrow
    have HW := hid hw1
    have hk1 := (Keeps.refl g w).setCell 1 (.bool true)
    have hb1 : Below w0.heap.size w0 (w.setCell ⟨g, 1, none⟩ (.bool true)) := hbel.setCell hnew _
    clear hw1 hS
    go_enter Try.func45, Try.ntmps45
    go_wp2_with (first
      | (refine wpList_make_full _ rfl _ _ 22 rfl w.heap.size 5 i5 (.int .u8 0) 1 Try.underlying22 HI.out hz5 hs5 .i64 .i64 _ _ n rfl rfl (by rfl) (by rfl) K1.out K2.out (by rw [World.size_setCell]; exact Nat.le_refl _) ?_; intro w1 hO1 hg1))
    go_ret
    have hr1 := made_row hO1
    rw [World.size_setCell] at hr1
    have hB2 := grown_keeps hg1 (fun k hk => by cases hk) (Nat.le_refl _)
    rw [HV.out, HR.out]
    refine ⟨_, 0, n, rfl, ?_, ⟨hb1.trans (hB2.mono hb1.size), hnew, o, cap, Go.Proofs.Ytenfklcgkfaajaa.hbel hB2 HW.out (hlt HW.out), HS.out⟩, hk1.trans_b hB2⟩
    have e : List.replicate n (0 : Int) = padz [] n := by simp [padz]
    rw [e]
    exact src_row (tl := []) (by rw [List.append_nil]; exact hr1) n (by simp [padz]) K2.out
  · have HV := hid (show tkV R n = R.rest.take n by unfold tkV; rw [if_pos (by omega)])
    have HR := hid (show tkS R n = ⟨R.rest.drop n, R.wrong⟩ by unfold tkS; rw [if_pos (by omega)])
    have S1 := hid (fun (w' : World) (hb : Below w0.heap.size w0 w') => (src_cut hS n (by omega)).below hb (Nat.le_refl _))
    have S2 := hid (src_rest hS n (by omega))
    have HE := hid (show R.rest.length - n = 0 → R.rest.drop n = [] from fun e => List.eq_nil_of_length_eq_zero (by rw [List.length_drop]; exact e))
    have HL := hid (List.length_drop (i := n) (l := R.rest))
    have ML := hid (show cap ≤ maxLen from hS.2.1)
    clear hS
    generalize R.rest.length = m at *
    have i2 : (n : Int) ≤ (m : Int) := by omega
    have i3 : (n : Int) ≤ (cap : Int) := by omega
    rw [HV.out, HR.out]
    have KK : ∀ o2 c2, Hid (Src w0 (some ⟨b, o2, none⟩) c2 (R.rest.drop n) → RK w0 (w.setCell ⟨g, 0, none⟩ (.slice (some ⟨b, o2, none⟩) (m - n) c2)) g b ⟨R.rest.drop n, R.wrong⟩ ∧ Keeps g w (w.setCell ⟨g, 0, none⟩ (.slice (some ⟨b, o2, none⟩) (m - n) c2)) ∧ Src (w.setCell ⟨g, 0, none⟩ (.slice (some ⟨b, o2, none⟩) (m - n) c2)) (some ⟨b, o, none⟩) n (R.rest.take n)) := fun o2 c2 => hid (fun hs2 => by
      have hb2 : Below w0.heap.size w0 (w.setCell ⟨g, 0, none⟩ (.slice (some ⟨b, o2, none⟩) (m - n) c2)) := hbel.setCell hnew _
      refine ⟨⟨hb2, hnew, o2, c2, ?_, hs2⟩, (Keeps.refl g w).setCell 0 _, S1.out _ hb2⟩
      rw [HL.out]
      exact heap_set0 hrow)
    by_cases hq2 : cap = n
    · subst hq2
      obtain rfl : m = cap := by omega
      have hd := HE.out (by omega)
      have KF := hid ((KK o 0).out (by rw [hd]; exact Src.empty _ _ _ (by simp [maxLen])))
      have e0 : m - m = 0 := by omega
      rw [e0] at KF
      clear KK HE hd
      go_enter Try.func45, Try.ntmps45
      go_wp2
      go_ret
      exact ⟨b, o, m, rfl, KF.out.2.2, KF.out.1, KF.out.2.1⟩
    · have i5 : (n : Int) < (cap : Int) := by omega
      have KF := hid ((KK (o + n) (cap - n)).out S2.out)
      clear KK HE
      go_enter Try.func45, Try.ntmps45
      go_wp2
      go_ret
      exact ⟨b, o, n, rfl, KF.out.2.2, KF.out.1, KF.out.2.1⟩
theorem Keeps.src {g : Nat} {w w1 : World} {sb so cap : Nat} {zs : List Int} (h : Keeps g w w1) (hS : Src w (some ⟨sb, so, none⟩) cap zs) (hne : sb ≠ g) : Src w1 (some ⟨sb, so, none⟩) cap zs := by
  obtain ⟨h1, h2, b, o, h3, h4, h5⟩ := hS
  refine ⟨h1, h2, b, o, fun hp => Nat.lt_of_lt_of_le (h3 hp) h.size, h4, fun j hj => ?_⟩
  have e := h4 (by omega)
  cases e
  rw [← h5 j hj]
  unfold World.cell?
  simp only
  rw [h.block sb (h3 (by omega)) hne]
set_option maxRecDepth 100000 in
set_option maxHeartbeats 800000 in
theorem number_any (w0 w : World) (g b : Nat) (R : Rd) (hy : Bys R.rest) (h : RK w0 w g b R) (n : Nat) (hn : n ≤ 8) :
    Calls Try.prog 42 #[.pointer (some ⟨g, 0, none⟩), .int .i64 n] w fun e w' => e = .returned (.int .i64 (nmV R n)) ∧ RK w0 w' g b (tkS R n) ∧ Keeps g w w' := by
  have KT := hid (take_any w0 w g b R h n (by omega))
  have hyv := tkV_bys hy n
  have hlv := tkV_len R n
  unfold nmV w64
  have HZ := hid (show tkV R n = (tkV R n).take n by rw [List.take_of_length_le (by omega)])
  generalize tkV R n = zs at *
  generalize tkS R n = R1 at *
  clear h hy
  go_enter Try.func42, Try.ntmps42
  go_wp2_with fail
  refine KT.out.mono ?_
  rintro e w1 ⟨sb, so, cap, rfl, hS, hK, hk⟩
  obtain ⟨hc, hm, bb, oo, hb, hsp, hsrc⟩ := hS
  unfold maxLen at hm
  have HL := hid hlv
  clear KT
  rw [hlv] at hc hb hsp hsrc
  clear hlv
  have i0 : (n : Int) ≤ 8 := by omega
  go_wp2
  go_loop [5, 12] (fun x i => ∃ k : Nat, k ≤ n ∧ i = .int .i64 k ∧ x = .int .i64 (IntKind.i64.wrap (leN (zs.take k)))) (fun _ i => n - (intOf i).toNat)
  case atStart => exact ⟨0, by omega, rfl, rfl⟩
  case round =>
    obtain ⟨k, hk', rfl, rfl⟩ := hrel
    by_cases hlt : k < n
    · have i1 : (k : Int) < (n : Int) := by omega
      have e := hsp (by omega)
      cases e
      have c0 := hsrc k hlt
      have hbn := hyv.at k (by have := HL.out; omega)
      have hlt2 := leN_bd (zs.take k) (hyv.take k)
      have hl : (zs.take k).length = k := by rw [List.length_take]; have := HL.out; omega
      have HT := hid (show leN (zs.take (k + 1)) = leN (zs.take k) + 256 ^ k * zs.getD k 0 by
        have hz : k < zs.length := by have := HL.out; omega
        rw [List.take_succ_eq_append_getElem hz, leN_snoc, hl, List.getD_eq_getElem?_getD, List.getElem?_eq_getElem hz]; rfl)
      rw [hl] at hlt2
      obtain ⟨x, hx⟩ := Int.eq_ofNat_of_zero_le hbn.1
      obtain ⟨A, hA⟩ := Int.eq_ofNat_of_zero_le hlt2.1
      rw [hx] at c0 hbn HT
      rw [hA] at hlt2 HT
      have hA3 : A < 256 ^ k := by have := hlt2.2; rw [← pw256] at this; omega
      have HO := hid (or_lay A x k (by omega) hA3 (by omega))
      have HF := hid (show leN (zs.take (k + 1)) = ((A + x * 256 ^ k : Nat) : Int) by rw [HT.out]; push_cast; rw [Int.mul_comm])
      rw [hA]
      clear hx hA HT hlt2 hl hsrc
      generalize hy : IntKind.i64.wrap (A : Int) = y at *
      replace hy := hid hy
      go_wp2
      go_round
      case rel => exact ⟨k + 1, by omega, by go_num, by rw [HF.out, ← HO.out, IntWalk.i64_left]; try rfl⟩
      case measure => simp [intOf]; omega
    · obtain rfl : k = n := by omega
      clear hlt
      go_wp2
      go_ret
      refine ⟨?_, hK, hk⟩
      have e := HZ.out
      rw [← e]
      rfl
set_option maxRecDepth 100000 in
set_option maxHeartbeats 800000 in
theorem copied_any (w0 w : World) (g b : Nat) (R : Rd) (h : RK w0 w g b R) (n : Nat) (hn : n ≤ 140737488351232) :
    Calls Try.prog 46 #[.pointer (some ⟨g, 0, none⟩), .int .i64 n] w fun e w' => ∃ v, e = .returned v ∧ Own w' w.heap.size v (tkV R n) ∧ RK w0 w' g b (tkS R n) ∧ Keeps g w w' := by
  have KT := hid (take_any w0 w g b R h n (by omega))
  have HL := hid (tkV_len R n)
  have hg := h.lt
  generalize tkV R n = zs at *
  generalize tkS R n = R1 at *
  clear h
  go_enter Try.func46, Try.ntmps46
  go_wp2_with fail
  refine KT.out.mono ?_
  rintro e w1 ⟨sb, so, cap, rfl, hS, hK, hk⟩
  have KC := hid (Clone_any w1 zs (some ⟨sb, so, none⟩) cap hS (fun h => by cases h) (by rw [HL.out]; omega))
  rw [HL.out] at KC
  clear KT
  go_wp2_with fail
  refine KC.out.mono ?_
  rintro e w2 ⟨v, rfl, hO, hB⟩
  go_wp2
  go_ret
  exact ⟨v, rfl, own_lower hO hk.size, hK.keep (hB.mono hK.lt), hk.trans_b hB⟩
set_option maxRecDepth 100000 in
set_option maxHeartbeats 800000 in
theorem done_any (w0 w : World) (g b : Nat) (R : Rd) (h : RK w0 w g b R) :
    Calls Try.prog 28 #[.pointer (some ⟨g, 0, none⟩)] w fun e w' => e = .returned (.bool (!R.wrong && R.rest.isEmpty)) ∧ w' = w := by
  obtain ⟨hbel, hnew, o, cap, hrow, hS⟩ := h
  have c0 : w.cell? ⟨g, 0, none⟩ = some (.slice (some ⟨b, o, none⟩) R.rest.length cap) := by rw [cell_of_row _ _ _ _ _ _ hrow]; rfl
  have c1 : w.cell? ⟨g, 1, none⟩ = some (.bool R.wrong) := by rw [cell_of_row _ _ _ _ _ _ hrow]; rfl
  have HE := hid (show R.rest.isEmpty = decide (R.rest.length = 0) by cases R.rest <;> simp)
  have hm := hS.2.1
  have hc := hS.1
  unfold maxLen at hm
  have i0 : (R.rest.length : Int) ≤ 9223372036854775807 := by omega
  rw [HE.out]
  clear HE hrow
  generalize R.rest.length = m at *
  generalize R.wrong = u at *
  cases u
  · by_cases hz : m = 0
    · subst hz
      go_enter Try.func28, Try.ntmps28
      go_wp2
      go_ret
      exact ⟨rfl, rfl⟩
    · go_enter Try.func28, Try.ntmps28
      go_wp2
      go_ret
      refine ⟨?_, rfl⟩
      simp [hz]
  · go_enter Try.func28, Try.ntmps28
    go_wp2
    go_ret
    exact ⟨rfl, rfl⟩
end Go.Proofs.Ytenfklcgkfaajaa
