import Derived.Test.YtenfklcgkfaajaaDk41
namespace Go.Proofs.Ytenfklcgkfaajaa
set_option linter.unusedVariables false
set_option linter.unusedSimpArgs false
open Go.RowKit
attribute [local go_sem ↓] Go.wp_at_zero Go.wp_at_succ

theorem Away.refl (w : World) (v : Value) : Away w v w v := fun k _ he => ⟨rfl, he⟩
set_option maxRecDepth 100000 in
set_option maxHeartbeats 800000 in
theorem appendNumber_away (w : World) (base : Nat) (v : Value) (zs : List Int) (x : Int) (n : Nat) (hn : n ≤ 8) (h0 : -9223372036854775808 ≤ x) (h1 : x ≤ 9223372036854775807) (hO : Own w base v zs) (hb : base ≤ w.heap.size) (hl : zs.length ≤ 140737488351232) :
    Calls Try.prog 60 #[v, .int .i64 x, .int .i64 n] w fun e w' => ∃ v', e = .returned v' ∧ Own w' base v' (zs ++ lowN x n) ∧ Below base w w' ∧ Away w v w' v' := by
  have i0 : (n : Int) ≤ 8 := by omega
  go_enter Try.func60, Try.ntmps60
  go_wp2
  go_loopw [0, 9] (fun v' i wr => ∃ k : Nat, k ≤ n ∧ i = .int .i64 k ∧ Own wr base v' (zs ++ lowN x k) ∧ Below base w wr ∧ Away w v wr v') (fun _ i _ => n - (intOf i).toNat)
  case atStart => exact ⟨0, by omega, rfl, by simpa [lowN] using hO, Below.refl _ _, Away.refl _ _⟩
  case round =>
    clear hO
    obtain ⟨k, hk, rfl, hO, hB, hA⟩ := hrel
    by_cases hlt : k < n
    · have i2 : (k : Int) < (n : Int) := by omega
      have HT := hid (show zs ++ lowN x (k + 1) = zs ++ lowN x k ++ [(x / 2 ^ (8 * k)) % 256] by rw [lowN_snoc, List.append_assoc, show (256 : Int) ^ k = 2 ^ (8 * k) by rw [Int.pow_mul]; rfl])
      have KL := hid (show (zs ++ lowN x k).length + 1 ≤ 140737488355328 by rw [List.length_append, lowN_len]; omega)
      have KB := hid (show base ≤ wr.heap.size from Nat.le_trans hb hB.size)
      generalize zs ++ lowN x k = zk at *
      go_wp2_with (first | (at_builtin; refine wpList_push_away rfl (.tmp 12) (.tmp 18) rfl base _ _ ((x / 2 ^ (8 * k)) % 256) rfl hO rfl KL.out KB.out _ _ ?_; intro v2 w2 hO2 hB2 hA2))
      go_roundw
      case rel => exact ⟨k + 1, by omega, by go_num, (by rw [HT.out]; exact hO2), hB.trans hB2, hA.trans hA2 hB.size⟩
      case measure => simp [intOf]; omega
    · obtain rfl : k = n := by omega
      clear hlt
      go_wp2
      go_ret
      exact ⟨_, rfl, hO, hB, hA⟩

/-- appendInfo midway: the info, boxed, and the row that grows. -/
structure IL (w wc : World) (base : Nat) (i : Nf) (v : Value) (zs : List Int) : Prop where
  row : wc.heap[w.heap.size]? = some (.cells (inC i).toArray 30 (0, 0))
  bel : Below base w wc
  nb : v.ownBlock ≠ some w.heap.size
  own : Own wc base v zs
theorem IL.call {w wc w1 : World} {base : Nat} {i : Nf} {v v1 : Value} {zs zs1 : List Int} (l : IL w wc base i v zs) (hO : Own w1 base v1 zs1) (hB : Below base wc w1) (hA : Away wc v w1 v1) : IL w w1 base i v1 zs1 := by
  obtain ⟨e, n⟩ := hA _ (hlt l.row) l.nb
  exact ⟨e.trans l.row, l.bel.trans hB, n, hO⟩
theorem IL.c {w wc : World} {base : Nat} {i : Nf} {v : Value} {zs : List Int} (l : IL w wc base i v zs) :
    wc.cell? ⟨w.heap.size, 0, none⟩ = some (.int .i64 i.width) ∧ wc.cell? ⟨w.heap.size, 1, none⟩ = some (.int .i64 i.first) ∧ wc.cell? ⟨w.heap.size, 2, none⟩ = some (.int .i64 i.last) ∧ wc.cell? ⟨w.heap.size, 3, none⟩ = some (.int .i64 i.used) ∧ wc.cell? ⟨w.heap.size, 4, none⟩ = some (.int .i64 i.pages) ∧ wc.cell? ⟨w.heap.size, 5, none⟩ = some (.int .i64 i.keys) := by
  refine ⟨?_, ?_, ?_, ?_, ?_, ?_⟩ <;> (rw [cell_of_row _ _ _ _ _ _ l.row]; rfl)
/-- An info's numbers are integers of the machine. -/
structure NfB (i : Nf) : Prop where
  width : -9223372036854775808 ≤ i.width ∧ i.width ≤ 9223372036854775807
  first : -9223372036854775808 ≤ i.first ∧ i.first ≤ 9223372036854775807
  last : -9223372036854775808 ≤ i.last ∧ i.last ≤ 9223372036854775807
  used : -9223372036854775808 ≤ i.used ∧ i.used ≤ 9223372036854775807
  pages : -9223372036854775808 ≤ i.pages ∧ i.pages ≤ 9223372036854775807
  keys : -9223372036854775808 ≤ i.keys ∧ i.keys ≤ 9223372036854775807
theorem inC_rng {w : World} {b : Nat} {i : Nf} (h : w.rangeAt b 0 (inC i)) : w.rangeAt b 6 (ints .u8 i.sum) := fun j u hu => by
  have := h (6 + j) u (by unfold inC; rw [List.getElem?_append_right (by simp)]; simpa using hu)
  simpa using this
set_option maxRecDepth 100000 in
set_option maxHeartbeats 4000000 in
theorem appendInfo_any (w : World) (base : Nat) (v : Value) (zs : List Int) (hO : Own w base v zs) (hb : base ≤ w.heap.size) (hl : zs.length ≤ 1000) (i : Nf) (hs : i.sum.length = 32) (hB : NfB i) :
    Calls Try.prog 65 #[v, .agg (inC i).toArray] w fun e w' => ∃ v', e = .returned v' ∧ Own w' base v' (zs ++ inB i) ∧ Below base w w' := by
  have L1 : IL w (w.alloc (.cells (inC i).toArray 30)) base i v zs := ⟨hnew w _, (Below.refl _ _).alloc hb _, fun e => by have := (hO.block _ e).2; omega, hO.below ((Below.refl w.heap.size w).alloc (Nat.le_refl _) _) (Nat.le_refl _)⟩
  have SZ1 : base ≤ (w.alloc (.cells (inC i).toArray 30)).heap.size := by simp; omega
  have HZ1 := hid hl
  go_enter Try.func65, Try.ntmps65
  have KA1 := hid (appendNumber_away (w.alloc (.cells (inC i).toArray 30)) base v zs i.width 1 (by omega) hB.width.1 hB.width.2 L1.own SZ1 (by have := HZ1.out; omega))
  obtain ⟨p1_0, p1_1, p1_2, p1_3, p1_4, p1_5⟩ := L1.c
  go_wp2_with fail
  refine KA1.out.mono ?_
  generalize w.alloc (.cells (inC i).toArray 30) = w1 at *
  rintro e w2 ⟨v2, rfl, O2, B2, A2⟩
  have L2 := L1.call O2 B2 A2
  have SZ2 : base ≤ w2.heap.size := Nat.le_trans SZ1 B2.size
  have HZ2 := hid (show (zs ++ lowN i.width 1).length ≤ 1001 by rw [List.length_append, lowN_len]; have := HZ1.out; omega)
  generalize hz2 : zs ++ lowN i.width 1 = z2 at *
  replace hz2 := hid hz2
  clear KA1 O2 B2 A2 L1 SZ1 p1_0 p1_1 p1_2 p1_3 p1_4 p1_5
  have KA2 := hid (appendNumber_away w2 base v2 z2 i.first 8 (by omega) hB.first.1 hB.first.2 L2.own SZ2 (by have := HZ2.out; omega))
  obtain ⟨p2_0, p2_1, p2_2, p2_3, p2_4, p2_5⟩ := L2.c
  go_wp2_with fail
  refine KA2.out.mono ?_
  rintro e w3 ⟨v3, rfl, O3, B3, A3⟩
  have L3 := L2.call O3 B3 A3
  have SZ3 : base ≤ w3.heap.size := Nat.le_trans SZ2 B3.size
  have HZ3 := hid (show (z2 ++ lowN i.first 8).length ≤ 1009 by rw [List.length_append, lowN_len]; have := HZ2.out; omega)
  generalize hz3 : z2 ++ lowN i.first 8 = z3 at *
  replace hz3 := hid hz3
  clear KA2 O3 B3 A3 L2 SZ2 p2_0 p2_1 p2_2 p2_3 p2_4 p2_5
  have KA3 := hid (appendNumber_away w3 base v3 z3 i.last 8 (by omega) hB.last.1 hB.last.2 L3.own SZ3 (by have := HZ3.out; omega))
  obtain ⟨p3_0, p3_1, p3_2, p3_3, p3_4, p3_5⟩ := L3.c
  go_wp2_with fail
  refine KA3.out.mono ?_
  rintro e w4 ⟨v4, rfl, O4, B4, A4⟩
  have L4 := L3.call O4 B4 A4
  have SZ4 : base ≤ w4.heap.size := Nat.le_trans SZ3 B4.size
  have HZ4 := hid (show (z3 ++ lowN i.last 8).length ≤ 1017 by rw [List.length_append, lowN_len]; have := HZ3.out; omega)
  generalize hz4 : z3 ++ lowN i.last 8 = z4 at *
  replace hz4 := hid hz4
  clear KA3 O4 B4 A4 L3 SZ3 p3_0 p3_1 p3_2 p3_3 p3_4 p3_5
  have KA4 := hid (appendNumber_away w4 base v4 z4 i.used 4 (by omega) hB.used.1 hB.used.2 L4.own SZ4 (by have := HZ4.out; omega))
  obtain ⟨p4_0, p4_1, p4_2, p4_3, p4_4, p4_5⟩ := L4.c
  go_wp2_with fail
  refine KA4.out.mono ?_
  rintro e w5 ⟨v5, rfl, O5, B5, A5⟩
  have L5 := L4.call O5 B5 A5
  have SZ5 : base ≤ w5.heap.size := Nat.le_trans SZ4 B5.size
  have HZ5 := hid (show (z4 ++ lowN i.used 4).length ≤ 1021 by rw [List.length_append, lowN_len]; have := HZ4.out; omega)
  generalize hz5 : z4 ++ lowN i.used 4 = z5 at *
  replace hz5 := hid hz5
  clear KA4 O5 B5 A5 L4 SZ4 p4_0 p4_1 p4_2 p4_3 p4_4 p4_5
  have KA5 := hid (appendNumber_away w5 base v5 z5 i.pages 4 (by omega) hB.pages.1 hB.pages.2 L5.own SZ5 (by have := HZ5.out; omega))
  obtain ⟨p5_0, p5_1, p5_2, p5_3, p5_4, p5_5⟩ := L5.c
  go_wp2_with fail
  refine KA5.out.mono ?_
  rintro e w6 ⟨v6, rfl, O6, B6, A6⟩
  have L6 := L5.call O6 B6 A6
  have SZ6 : base ≤ w6.heap.size := Nat.le_trans SZ5 B6.size
  have HZ6 := hid (show (z5 ++ lowN i.pages 4).length ≤ 1025 by rw [List.length_append, lowN_len]; have := HZ5.out; omega)
  generalize hz6 : z5 ++ lowN i.pages 4 = z6 at *
  replace hz6 := hid hz6
  clear KA5 O6 B6 A6 L5 SZ5 p5_0 p5_1 p5_2 p5_3 p5_4 p5_5
  have KA6 := hid (appendNumber_away w6 base v6 z6 i.keys 4 (by omega) hB.keys.1 hB.keys.2 L6.own SZ6 (by have := HZ6.out; omega))
  obtain ⟨p6_0, p6_1, p6_2, p6_3, p6_4, p6_5⟩ := L6.c
  go_wp2_with fail
  refine KA6.out.mono ?_
  rintro e w7 ⟨v7, rfl, O7, B7, A7⟩
  have L7 := L6.call O7 B7 A7
  have SZ7 : base ≤ w7.heap.size := Nat.le_trans SZ6 B7.size
  have HZ7 := hid (show (z6 ++ lowN i.keys 4).length ≤ 1029 by rw [List.length_append, lowN_len]; have := HZ6.out; omega)
  generalize hz7 : z6 ++ lowN i.keys 4 = z7 at *
  replace hz7 := hid hz7
  clear KA6 O7 B7 A7 L6 SZ6 p6_0 p6_1 p6_2 p6_3 p6_4 p6_5
  have rk := inC_rng (rng L7.row)
  have S7 := hid (src_rng rk (hlt L7.row) 32 (by rw [hs]; exact Nat.le_refl _) (by simp [maxLen]))
  have KL := hid (show z7.length + i.sum.length ≤ 140737488351232 by rw [hs]; have := HZ7.out; omega)
  have HK := hid hs
  have O7 := L7.own
  go_wp2_with (first | (at_builtin; refine wpList_append_wide rfl (.tmp 29) (.tmp 31) rfl base _ z7 i.sum rfl O7 (some ⟨w.heap.size, 6, none⟩) 32 (by rw [HK.out]; rfl) (fun h => by cases h) S7.out KL.out SZ7 ?_; intro v8 w8 O8 hg8 hd8; refine Hid.out ?_))
  refine hid ?_
  have B8 := L7.bel.trans (grown_keeps hg8 (fun k hk => (O7.block k hk).1) SZ7)
  clear hg8 hd8
  go_wp2
  go_ret
  refine ⟨_, rfl, ?_, B8⟩
  unfold inB
  simp only [← List.append_assoc]
  rw [hz2.out, hz3.out, hz4.out, hz5.out, hz6.out, hz7.out]
  exact O8
end Go.Proofs.Ytenfklcgkfaajaa
