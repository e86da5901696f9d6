import Derived.Test.YtenfklcgkfaajaaDk1
import Derived.Laws.BytesArg
import Derived.Shelf.Slices.Clone
namespace Go.Proofs.Ytenfklcgkfaajaa
set_option linter.unusedVariables false
set_option linter.unusedSimpArgs false
open Go.RowKit
attribute [local go_sem ↓] Go.wp_at_zero Go.wp_at_succ

theorem own_empty (w : World) : Own (w.alloc (.cells #[] 5)) w.heap.size (.slice (some ⟨w.heap.size, 0, none⟩) 0 0) [] :=
  ⟨rfl, Or.inr ⟨w.heap.size, 0, #[], rfl, Nat.le_refl _, hnew w _, Nat.le_refl _, by simp [maxLen], rfl, rfl⟩⟩
set_option maxRecDepth 100000 in
set_option maxHeartbeats 400000 in
theorem Clone_any (w : World) (zs : List Int) (sp : Option Addr) (cap : Nat) (hS : Src w sp cap zs) (hnil : sp = none → cap = 0) (hlen : zs.length ≤ 140737488351232) :
    Calls Try.prog 68 #[.slice sp zs.length cap] w fun e w' => ∃ v, e = .returned v ∧ Own w' w.heap.size v zs ∧ Below w.heap.size w w' := by
  have q22 : ∀ (w : World) (a : Option Addr) (n c n' c' : Nat), (binOp .eql 22 (.slice a n c) (.slice none n' c')).run Try.prog w = .ok (.bool a.isNone) w := fun w a n c n' c' => Lib.run_eql_slice_nil w _ _ a n c n' c' Try.underlying22
  cases sp with
  | none =>
    obtain rfl := hnil rfl
    have hz : zs = [] := List.eq_nil_of_length_eq_zero (by have := hS.1; omega)
    subst hz
    go_enter Try.func68, Try.ntmps68
    go_wp2
    go_ret
    exact ⟨_, rfl, Own.nil _ _, Below.refl _ _⟩
  | some a =>
    have hE := own_empty w
    have hS1 := hS.below ((Below.refl w.heap.size w).alloc (Nat.le_refl _) (.cells #[] 5)) (Nat.le_refl _)
    go_enter Try.func68, Try.ntmps68
    go_wp2_with (first | (at_builtin; refine wpList_append_wide rfl (.tmp 5) (.tmp 6) rfl w.heap.size _ [] zs rfl hE (some a) cap rfl (fun h => by cases h) hS1 (by simp; omega) (by simp) ?_; intro v2 w2 hO2 hg2 hd2))
    go_ret
    refine ⟨_, rfl, hO2, ?_⟩
    exact ((Below.refl _ w).alloc (Nat.le_refl _) _).trans (grown_keeps hg2 (fun k e => (hE.block k e).1) (by simp))
theorem src_new (w : World) (ys : List Int) (t : TypeId) (fr : Nat × Nat) (hl : ys.length ≤ maxLen) : Src (w.alloc (.cells (ints .u8 ys).toArray t fr)) (some ⟨w.heap.size, 0, none⟩) ys.length ys :=
  ⟨Nat.le_refl _, hl, w.heap.size, 0, fun _ => by simp, fun _ => rfl, fun j hj => by rw [Nat.zero_add]; exact cell_ints (hnew w _) j hj⟩
theorem own_lower {w : World} {b0 b1 : Nat} {v : Value} {zs : List Int} (h : Own w b1 v zs) (hb : b0 ≤ b1) : Own w b0 v zs := by
  refine ⟨h.1, ?_⟩
  rcases h.2 with h2 | ⟨g, cap, cur, rfl, hg, r⟩
  · exact Or.inl h2
  · exact Or.inr ⟨g, cap, cur, rfl, by omega, r⟩
theorem src_cut {w : World} {b o cap : Nat} {t : List Int} (hS : Src w (some ⟨b, o, none⟩) cap t) (n : Nat) (h : n ≤ t.length) : Src w (some ⟨b, o, none⟩) n (t.take n) := by
  obtain ⟨h1, h2, b', o', h3, h4, h5⟩ := hS
  refine ⟨by rw [List.length_take]; omega, by omega, b', o', fun h => h3 (by rw [List.length_take] at h; omega), fun h => h4 (by rw [List.length_take] at h; omega), fun j hj => ?_⟩
  rw [List.length_take] at hj
  rw [h5 j (by omega), List.getD_eq_getElem?_getD, List.getD_eq_getElem?_getD, List.getElem?_take, if_pos (by omega)]
theorem src_rest {w : World} {b o cap : Nat} {t : List Int} (hS : Src w (some ⟨b, o, none⟩) cap t) (n : Nat) (h : n ≤ t.length) : Src w (some ⟨b, o + n, none⟩) (cap - n) (t.drop n) := by
  obtain ⟨h1, h2, b', o', h3, h4, h5⟩ := hS
  refine ⟨by rw [List.length_drop]; omega, by omega, b, o + n, fun h => ?_, fun h => rfl, fun j hj => ?_⟩
  · rw [List.length_drop] at h
    have e := h4 (by omega)
    cases e
    exact h3 (by omega)
  · rw [List.length_drop] at hj
    have e := h4 (by omega)
    cases e
    rw [Nat.add_assoc, h5 (n + j) (by omega), List.getD_eq_getElem?_getD, List.getD_eq_getElem?_getD, List.getElem?_drop]
theorem lt_of_cell {w : World} {b o : Nat} {v : Value} (h : w.cell? ⟨b, o, none⟩ = some v) : b < w.heap.size := by
  unfold World.cell? at h
  simp only at h
  cases hq : w.heap[b]? with
  | none => rw [hq] at h; cases h
  | some x => exact hlt hq
theorem conv_str (w : World) (zs : List Int) (sp : Option Addr) (cap : Nat) (hS : Src w sp cap zs) : (convert 22 9 (.slice sp zs.length cap)).run Try.prog w = .ok (.string (strOfNums zs)) w := by
  have hu : Try.prog.underlying 9 = some .string := by kernel_rfl
  cases sp with
  | none =>
    have hz : zs = [] := by
      obtain ⟨_, _, b, o, _, h4, _⟩ := hS
      by_cases h : 0 < zs.length
      · cases h4 h
      · exact List.eq_nil_of_length_eq_zero (by omega)
    subst hz
    exact run_convert_bytes_nil w 22 5 Try.underlying22 Try.underlying5 _ _ 9 hu
  | some a =>
    obtain ⟨_, _, b, o, h3, h4, h5⟩ := hS
    by_cases h : 0 < zs.length
    · have e := h4 h
      simp only [Option.some.injEq] at e
      subst e
      exact run_convert_bytes_arg w 22 5 Try.underlying22 Try.underlying5 b o _ cap zs rfl (fun i hi => h5 i hi) 9 hu
    · have hz : zs = [] := List.eq_nil_of_length_eq_zero (by omega)
      subst hz
      have hl : (loadCells a ([] : List Int).length).run Try.prog w = .ok (([] : List Int).map (Value.int .u8)).toArray w := run_loadCells_list (P := Try.prog) w a [] (fun j v hj => by cases hj)
      rw [run_convert_bytes_string w 22 9 5 _ _ cap Try.underlying22 Try.underlying5 hu, run_bytesToString w _ _ cap [] hl]
      rfl
theorem str_eq {xs ys : List Int} (hx : Bys xs) (hy : Bys ys) : ((strOfNums xs).toList == (strOfNums ys).toList) = decide (xs = ys) := by
  have e1 : ∀ zs : List Int, (strOfNums zs).toList = zs.map fun n => UInt8.ofNat n.toNat := fun zs => by simp [strOfNums, ByteArray.toList_eq]
  rw [e1, e1]
  by_cases h : xs = ys
  · subst h; simp
  · rw [decide_eq_false h]
    refine beq_eq_false_iff_ne.2 fun e => h ?_
    have hl : xs.length = ys.length := by have := congrArg List.length e; simpa using this
    refine List.ext_getElem hl fun i h1 h2 => ?_
    have a := hx xs[i] (List.getElem_mem _)
    have b := hy ys[i] (List.getElem_mem _)
    have e2 := congrArg (fun l => l[i]?) e
    simp only [List.getElem?_map, List.getElem?_eq_getElem h1, List.getElem?_eq_getElem h2, Option.map_some, Option.some.injEq] at e2
    have e3 := congrArg UInt8.toNat e2
    simp only [UInt8.toNat_ofNat'] at e3
    omega
theorem ofInt_wrap (a : Nat) (ha : a < 18446744073709551616) : (BitVec.ofInt 64 (IntKind.i64.wrap (a : Int))).toNat = a := by
  rw [BitVec.toNat_ofInt, IntKind.wrap_i64]
  omega
theorem or_lay (A x n : Nat) (hn : n ≤ 7) (hA : A < 256 ^ n) (hx : x < 256) : bits .or .i64 (IntKind.i64.wrap (A : Int)) (IntKind.i64.wrap ((x : Int) * 2 ^ (8 * n))) = IntKind.i64.wrap ((A + x * 256 ^ n : Nat) : Int) := by
  have hp : (256 : Nat) ^ n = 2 ^ (8 * n) := by rw [Nat.pow_mul]
  have h56 : (2 : Nat) ^ (8 * n) ≤ 2 ^ 56 := Nat.pow_le_pow_right (by decide) (by omega)
  rw [hp] at hA ⊢
  have hxp : x * 2 ^ (8 * n) ≤ 255 * 2 ^ 56 := Nat.mul_le_mul (by omega) h56
  have e : ((x : Int) * 2 ^ (8 * n)) = ((x * 2 ^ (8 * n) : Nat) : Int) := by simp
  rw [e]
  show IntKind.i64.wrap ((BitVec.ofInt 64 (IntKind.i64.wrap (A : Int)) ||| BitVec.ofInt 64 (IntKind.i64.wrap ((x * 2 ^ (8 * n) : Nat) : Int))).toNat : Int) = _
  rw [BitVec.toNat_or, ofInt_wrap A (by omega), ofInt_wrap _ (by omega), Nat.or_comm, Nat.mul_comm x, ← Nat.two_pow_add_eq_or_of_lt hA, Nat.add_comm]

theorem or_hi (A x : Nat) (hx : x < 256) : bits .or .i64 (IntKind.i64.wrap (IntKind.i64.wrap (A : Int) * 256)) (x : Int) = IntKind.i64.wrap ((x + 256 * A : Nat) : Int) := by
  show IntKind.i64.wrap ((BitVec.ofInt 64 (IntKind.i64.wrap (IntKind.i64.wrap (A : Int) * 256)) ||| BitVec.ofInt 64 (x : Int)).toNat : Int) = _
  have e1 : (BitVec.ofInt 64 (IntKind.i64.wrap (IntKind.i64.wrap (A : Int) * 256))).toNat = 2 ^ 8 * (A % 72057594037927936) := by
    rw [BitVec.toNat_ofInt, IntKind.wrap_i64, IntKind.wrap_i64]; omega
  have e2 : (BitVec.ofInt 64 (x : Int)).toNat = x := by rw [BitVec.toNat_ofInt]; omega
  rw [BitVec.toNat_or, e1, e2, ← Nat.two_pow_add_eq_or_of_lt (show x < 2 ^ 8 by omega), IntKind.wrap_i64, IntKind.wrap_i64]
  omega
set_option maxRecDepth 100000 in
set_option maxHeartbeats 400000 in
theorem same_any (w : World) (xs ys : List Int) (hx : Bys xs) (hy : Bys ys) (sp tp : Option Addr) (cap dap : Nat) (hS : Src w sp cap xs) (hT : Src w tp dap ys) :
    Calls Try.prog 24 #[.slice sp xs.length cap, .slice tp ys.length dap] w fun e w' => e = .returned (.bool (decide (xs = ys))) ∧ w' = w := by
  have c1 := conv_str w xs sp cap hS
  have c2 := conv_str w ys tp dap hT
  rw [← str_eq hx hy]
  go_enter Try.func24, Try.ntmps24
  go_wp2
  go_ret
  exact ⟨rfl, rfl⟩
set_option maxRecDepth 100000 in
set_option maxHeartbeats 400000 in
theorem parts_any (w : World) (op : Int) (h0 : -9223372036854775808 ≤ op) (h1 : op ≤ 9223372036854775807) :
    Calls Try.prog 30 #[.int .i64 op] w fun e w' => e = .returned (.int .i64 (prt op)) ∧ w' = w := by
  unfold prt
  go_enter Try.func30, Try.ntmps30
  go_wp2
  all_goals (go_ret; simp_all)
theorem cutL_len (b : List Int) (a n : Nat) (h : a + n ≤ b.length) : (cutL b a n).length = n := by simp [cutL]; omega
theorem cutL_bys {b : List Int} (h : Bys b) (a n : Nat) : Bys (cutL b a n) := (h.drop a).take n
theorem cutL_head (b : List Int) (a n : Nat) (h : a < b.length) : cutL b a (n + 1) = b.getD a 0 :: cutL b (a + 1) n := by
  unfold cutL
  rw [List.drop_eq_getElem_cons h, List.take_succ_cons, List.getD_eq_getElem?_getD, List.getElem?_eq_getElem h]; rfl
theorem cutL_snoc (b : List Int) (a n : Nat) (h : a + n < b.length) : cutL b a (n + 1) = cutL b a n ++ [b.getD (a + n) 0] := by
  unfold cutL
  rw [List.take_succ_eq_append_getElem (by simp; omega), List.getElem_drop, List.getD_eq_getElem?_getD, List.getElem?_eq_getElem h]; rfl

set_option maxRecDepth 100000 in
set_option maxHeartbeats 800000 in
theorem High_any (w : World) (zs : List Int) (hy : Bys zs) (sp : Option Addr) (cap : Nat) (hS : Src w sp cap zs) (a n : Nat) (hn : n ≤ 8) (hl : a + n ≤ zs.length) :
    Calls Try.prog 34 #[.slice sp zs.length cap, .int .i64 a, .int .i64 n] w fun e w' => e = .returned (.int .i64 (hiL zs a n)) ∧ w' = w := by
  obtain ⟨hc, hm, b, o, hb, hsp, hsrc⟩ := hS
  unfold maxLen at hm
  have i0 : (zs.length : Int) ≤ 9223372036854775807 := by omega
  have i1 : (a : Int) + (n : Int) ≤ (zs.length : Int) := by omega
  have i2 : (n : Int) ≤ 8 := by omega
  go_enter Try.func34, Try.ntmps34
  go_wp2
  go_loop [7, 8] (fun x i => ∃ k : Nat, k ≤ n ∧ i = .int .i64 ((k : Int) - 1) ∧ x = .int .i64 (hiL zs (a + k) (n - k))) (fun _ i => (intOf i + 1).toNat)
  case atStart => exact ⟨n, Nat.le_refl _, rfl, by simp [hiL, cutL, leN, w64]; rfl⟩
  case round =>
    obtain ⟨k, hk, rfl, rfl⟩ := hrel
    by_cases hlt : 0 < k
    · obtain ⟨m, rfl⟩ : ∃ m, k = m + 1 := ⟨k - 1, by omega⟩
      obtain rfl := hsp (by omega)
      have c0 := hsrc (a + m) (by omega)
      have hbn := hy.at (a + m) (by omega)
      have HC := hid (show cutL zs (a + m) (n - m) = zs.getD (a + m) 0 :: cutL zs (a + (m + 1)) (n - (m + 1)) by
        rw [show n - m = (n - (m + 1)) + 1 by omega, cutL_head zs (a + m) _ (by omega)]; rfl)
      have hA := (leN_bd _ (cutL_bys hy (a + (m + 1)) (n - (m + 1)))).1
      obtain ⟨A, hA2⟩ := Int.eq_ofNat_of_zero_le hA
      obtain ⟨x, hx⟩ := Int.eq_ofNat_of_zero_le hbn.1
      have HR := hid (show hiL zs (a + m) (n - m) = bits .or .i64 (IntKind.i64.wrap (IntKind.i64.wrap (A : Int) * 256)) (x : Int) by
        rw [or_hi A x (by omega)]
        unfold hiL w64
        rw [HC.out, leN, hA2, hx]; simp)
      have HL := hid (show hiL zs (a + (m + 1)) (n - (m + 1)) = IntKind.i64.wrap (A : Int) by unfold hiL w64; rw [hA2])
      have hwb := w64_bd (A : Int)
      unfold w64 at hwb
      rw [HL.out]
      rw [hx] at c0 hbn
      clear hx hA2 HL HC hA
      generalize IntKind.i64.wrap (A : Int) = y at *
      have i3 : (a : Int) + (m : Int) < (zs.length : Int) := by omega
      generalize zs.length = L at *
      go_wp2
      go_round
      case rel => exact ⟨m, by omega, by go_num, by rw [HR.out, IntWalk.i64_left]⟩
      case measure => simp [intOf]
    · obtain rfl : k = 0 := by omega
      go_wp2
      go_ret
      exact ⟨rfl, rfl⟩

set_option maxRecDepth 100000 in
set_option maxHeartbeats 800000 in
theorem cut_any (w : World) (zs : List Int) (sp : Option Addr) (cap : Nat) (hS : Src w sp cap zs) (a n : Nat) (hl : a + n ≤ zs.length) (hlen : zs.length ≤ 140737488355000) :
    Calls Try.prog 33 #[.slice sp zs.length cap, .int .i64 a, .int .i64 n] w fun e w' => ∃ v, e = .returned v ∧ Own w' w.heap.size v (cutL zs a n) ∧ Below w.heap.size w w' := by
  obtain ⟨hc, hm, b, o, hb, hsp, hsrc⟩ := hS
  unfold maxLen at hm
  have hO := Own.nil w w.heap.size
  have i0 : (zs.length : Int) ≤ 140737488355000 := by omega
  have i1 : (a : Int) + (n : Int) ≤ (zs.length : Int) := by omega
  go_enter Try.func33, Try.ntmps33
  go_wp2
  go_loopw [7, 8] (fun v i wr => ∃ k : Nat, k ≤ n ∧ i = .int .i64 k ∧ Own wr w.heap.size v (cutL zs a k) ∧ Below w.heap.size w wr) (fun _ i _ => n - (intOf i).toNat)
  case atStart => exact ⟨0, by omega, rfl, by simpa [cutL] using hO, Below.refl _ _⟩
  case round =>
    clear hO
    obtain ⟨k, hk, rfl, hO, hB⟩ := hrel
    by_cases hlt : k < n
    · have i2 : (k : Int) < (n : Int) := by omega
      obtain rfl := hsp (by omega)
      have c0 := (hB.cell (p := ⟨b, o + (a + k), none⟩) (hb (by omega))).trans (hsrc (a + k) (by omega))
      have HT := hid (cutL_snoc zs a k (by omega))
      have KL := hid (show (cutL zs a k).length + 1 ≤ 140737488355328 by rw [cutL_len zs a k (by omega)]; omega)
      generalize zs.getD (a + k) 0 = x at *
      generalize cutL zs a k = zk at *
      have i3 : (a : Int) + (k : Int) < (zs.length : Int) := by omega
      generalize zs.length = L at *
      go_wp2_with (first | (at_builtin; refine wpList_push_any rfl (.tmp 14) (.tmp 21) rfl w.heap.size _ _ x rfl hO rfl KL.out hB.size _ _ ?_; intro v2 w2 hO2 hB2))
      go_roundw
      case rel => exact ⟨k + 1, by omega, by go_num, (by rw [HT.out]; exact hO2), hB.trans hB2⟩
      case measure => simp [intOf]; omega
    · obtain rfl : k = n := by omega
      clear hlt
      go_wp2
      go_ret
      exact ⟨_, rfl, hO, hB⟩
theorem lowN_snoc : ∀ (n : Nat) (x : Int), lowN x (n + 1) = lowN x n ++ [(x / 256 ^ n) % 256]
  | 0, x => by simp [lowN]
  | n + 1, x => by
    rw [lowN, lowN_snoc n, lowN]
    rw [Int.pow_succ, Int.mul_comm, ← Int.ediv_ediv_of_nonneg (show (0 : Int) ≤ 256 by omega)]
    rfl
theorem and255 (x : Int) : bits .and .i64 x 255 = x % 256 := by
  show IntKind.i64.wrap ((BitVec.ofInt 64 x &&& BitVec.ofInt 64 255).toNat : Int) = _
  have e : (BitVec.ofInt 64 (255 : Int)).toNat = 2 ^ 8 - 1 := by decide
  rw [BitVec.toNat_and, e, Nat.and_two_pow_sub_one_eq_mod, BitVec.toNat_ofInt, IntKind.wrap_i64]
  omega
end Go.Proofs.Ytenfklcgkfaajaa
