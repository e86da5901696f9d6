import Derived.Test.YtaefjlbonflmdaaDoorMi6
namespace Go.Proofs.YtaefjlbonflmdaaDoor
set_option linter.unusedVariables false
set_option linter.unusedSimpArgs false
open Go.RowKit
attribute [local go_sem ↓] Go.wp_at_zero Go.wp_at_succ

theorem fill_super (s : Sup) : fillF ([76, 68, 71, 49, s.wd, 0, 0, 0] ++ num s.ge 8 ++ num s.ma 4 ++ num s.hd 4 ++ num s.pg 4) 60 = bodyS s := by
  unfold fillF bodyS
  have hl : ([76, 68, 71, 49, s.wd, 0, 0, 0] ++ num s.ge 8 ++ num s.ma 4 ++ num s.hd 4 ++ num s.pg 4).length = 28 := by simp [num_len]
  rw [List.take_of_length_le (by omega), hl]
theorem fill_page (L : List Int) (h : L.length = 64) : fillF L 256 = L ++ List.replicate 192 0 := by
  unfold fillF
  rw [List.take_of_length_le (by omega), h]
set_option maxRecDepth 100000 in
set_option maxHeartbeats 2000000 in
theorem qSuper_any (w : World) (hG : Gl w) (s : Sup) (hv : validS s = true) :
    Calls Tryd.prog 7 #[.agg (supC s)] w fun e w' => ∃ u, e = .returned u ∧ Own w' w.heap.size u (secS s ++ List.replicate 192 0) ∧ Below w.heap.size w w' := by
  have hv' := (validS_iff s).1 hv
  have HV := hid hv
  clear hv
  have v1 : 1 ≤ s.wd := hv'.1
  have v2 : s.wd ≤ 32 := hv'.2.1
  have v10 : 0 ≤ s.hd ∧ s.hd < 9223372036854775808 := by omega
  have v11 : 0 ≤ s.ge ∧ s.ge < 9223372036854775808 := by omega
  have v12 : 0 ≤ s.ma ∧ s.ma < 9223372036854775808 := by omega
  have v13 : 0 ≤ s.pg ∧ s.pg < 9223372036854775808 := by omega
  clear hv'
  have r0 := hnew w (.cells (supC s) 31)
  have c0 : (w.alloc (.cells (supC s) 31)).cell? ⟨w.heap.size, 0, none⟩ = some (.int .i64 s.wd) := cell_of_row _ _ 0 _ _ _ r0
  have b0 := below_new w (.cells (supC s) 31)
  have r := hold (o := Obj.cells #[.int .u8 76, .int .u8 68, .int .u8 71, .int .u8 49, .int .u8 s.wd, .int .u8 0, .int .u8 0, .int .u8 0] 5 (0, 0)) r0
  have q : ((w.alloc (.cells (supC s) 31)).alloc (.cells #[.int .u8 76, .int .u8 68, .int .u8 71, .int .u8 49, .int .u8 s.wd, .int .u8 0, .int .u8 0, .int .u8 0] 5)).heap[w.heap.size + 1]? = some (.cells (ints .u8 [76, 68, 71, 49, s.wd, 0, 0, 0]).toArray 5 (0, 0)) := by
    have h := hnew (w.alloc (.cells (supC s) 31)) (.cells #[.int .u8 76, .int .u8 68, .int .u8 71, .int .u8 49, .int .u8 s.wd, .int .u8 0, .int .u8 0, .int .u8 0] 5)
    rw [World.size_alloc] at h
    exact h
  have B : Below w.heap.size w ((w.alloc (.cells (supC s) 31)).alloc (.cells #[.int .u8 76, .int .u8 68, .int .u8 71, .int .u8 49, .int .u8 s.wd, .int .u8 0, .int .u8 0, .int .u8 0] 5)) := b0.alloc b0.size _
  have hL := src_rowf q 8 (by simp) (by decide)
  have c1 : ((w.alloc (.cells (supC s) 31)).alloc (.cells #[.int .u8 76, .int .u8 68, .int .u8 71, .int .u8 49, .int .u8 s.wd, .int .u8 0, .int .u8 0, .int .u8 0] 5)).cell? ⟨w.heap.size, 1, none⟩ = some (.int .i64 s.ge) := cell_of_row _ _ 1 _ _ _ r
  clear r0 b0 q
  go_enter Tryd.func7, Tryd.ntmps7
  go_wp2_with fail
  clear c0
  generalize (w.alloc (.cells (supC s) 31)).alloc (.cells #[.int .u8 76, .int .u8 68, .int .u8 71, .int .u8 49, .int .u8 s.wd, .int .u8 0, .int .u8 0, .int .u8 0] 5) = w1 at *
  clear c1
  refine (qlaid_any w1 s.ge v11.1 v11.2 8 (by omega)).mono ?_
  rintro e w2 ⟨v2, rfl, hO, b2⟩
  obtain ⟨ap2, ac2, rfl, ha, _⟩ := hO.form
  replace r := hbel b2 r (hlt r)
  replace hL := hL.below b2 (Nat.le_refl _)
  replace B := B.trans (b2.mono B.size)
  clear b2 hO
  have hj := qjoined_any w2 ([76, 68, 71, 49, s.wd, 0, 0, 0]) (num s.ge 8) _ _ _ _ hL ha (by simp [num_len])
  rw [num_len, show ([76, 68, 71, 49, s.wd, 0, 0, 0] : List Int).length = 8 by simp [num_len]] at hj
  rw [num_len]
  go_wp2_with fail
  refine hj.mono ?_
  rintro e w3 ⟨v3, rfl, hO, b3⟩
  clear hL ha
  obtain ⟨ap3, ac3, rfl, hL, _⟩ := hO.form
  replace r := hbel b3 r (hlt r)
  replace B := B.trans (b3.mono B.size)
  clear b3 hO hj
  rw [show ([76, 68, 71, 49, s.wd, 0, 0, 0] ++ num s.ge 8 : List Int).length = 16 by simp [num_len]]
  have c2 : w3.cell? ⟨w.heap.size, 2, none⟩ = some (.int .i64 s.ma) := cell_of_row w3 _ 2 _ _ _ r
  go_wp2_with fail
  clear c2
  refine (qlaid_any w3 s.ma v12.1 v12.2 4 (by omega)).mono ?_
  rintro e w4 ⟨v4, rfl, hO, b4⟩
  obtain ⟨ap4, ac4, rfl, ha, _⟩ := hO.form
  replace r := hbel b4 r (hlt r)
  replace hL := hL.below b4 (Nat.le_refl _)
  replace B := B.trans (b4.mono B.size)
  clear b4 hO
  have hj := qjoined_any w4 ([76, 68, 71, 49, s.wd, 0, 0, 0] ++ num s.ge 8) (num s.ma 4) _ _ _ _ hL ha (by simp [num_len])
  rw [num_len, show ([76, 68, 71, 49, s.wd, 0, 0, 0] ++ num s.ge 8 : List Int).length = 16 by simp [num_len]] at hj
  rw [num_len]
  go_wp2_with fail
  refine hj.mono ?_
  rintro e w5 ⟨v5, rfl, hO, b5⟩
  clear hL ha
  obtain ⟨ap5, ac5, rfl, hL, _⟩ := hO.form
  replace r := hbel b5 r (hlt r)
  replace B := B.trans (b5.mono B.size)
  clear b5 hO hj
  rw [show ([76, 68, 71, 49, s.wd, 0, 0, 0] ++ num s.ge 8 ++ num s.ma 4 : List Int).length = 20 by simp [num_len]]
  have c3 : w5.cell? ⟨w.heap.size, 3, none⟩ = some (.int .i64 s.hd) := cell_of_row w5 _ 3 _ _ _ r
  go_wp2_with fail
  clear c3
  refine (qlaid_any w5 s.hd v10.1 v10.2 4 (by omega)).mono ?_
  rintro e w6 ⟨v6, rfl, hO, b6⟩
  obtain ⟨ap6, ac6, rfl, ha, _⟩ := hO.form
  replace r := hbel b6 r (hlt r)
  replace hL := hL.below b6 (Nat.le_refl _)
  replace B := B.trans (b6.mono B.size)
  clear b6 hO
  have hj := qjoined_any w6 ([76, 68, 71, 49, s.wd, 0, 0, 0] ++ num s.ge 8 ++ num s.ma 4) (num s.hd 4) _ _ _ _ hL ha (by simp [num_len])
  rw [num_len, show ([76, 68, 71, 49, s.wd, 0, 0, 0] ++ num s.ge 8 ++ num s.ma 4 : List Int).length = 20 by simp [num_len]] at hj
  rw [num_len]
  go_wp2_with fail
  refine hj.mono ?_
  rintro e w7 ⟨v7, rfl, hO, b7⟩
  clear hL ha
  obtain ⟨ap7, ac7, rfl, hL, _⟩ := hO.form
  replace r := hbel b7 r (hlt r)
  replace B := B.trans (b7.mono B.size)
  clear b7 hO hj
  rw [show ([76, 68, 71, 49, s.wd, 0, 0, 0] ++ num s.ge 8 ++ num s.ma 4 ++ num s.hd 4 : List Int).length = 24 by simp [num_len]]
  have c4 : w7.cell? ⟨w.heap.size, 4, none⟩ = some (.int .i64 s.pg) := cell_of_row w7 _ 4 _ _ _ r
  go_wp2_with fail
  clear c4
  refine (qlaid_any w7 s.pg v13.1 v13.2 4 (by omega)).mono ?_
  rintro e w8 ⟨v8, rfl, hO, b8⟩
  obtain ⟨ap8, ac8, rfl, ha, _⟩ := hO.form
  replace r := hbel b8 r (hlt r)
  replace hL := hL.below b8 (Nat.le_refl _)
  replace B := B.trans (b8.mono B.size)
  clear b8 hO
  have hj := qjoined_any w8 ([76, 68, 71, 49, s.wd, 0, 0, 0] ++ num s.ge 8 ++ num s.ma 4 ++ num s.hd 4) (num s.pg 4) _ _ _ _ hL ha (by simp [num_len])
  rw [num_len, show ([76, 68, 71, 49, s.wd, 0, 0, 0] ++ num s.ge 8 ++ num s.ma 4 ++ num s.hd 4 : List Int).length = 24 by simp [num_len]] at hj
  rw [num_len]
  go_wp2_with fail
  refine hj.mono ?_
  rintro e w9 ⟨v9, rfl, hO, b9⟩
  clear hL ha
  obtain ⟨ap9, ac9, rfl, hL, _⟩ := hO.form
  replace r := hbel b9 r (hlt r)
  replace B := B.trans (b9.mono B.size)
  clear b9 hO hj
  rw [show ([76, 68, 71, 49, s.wd, 0, 0, 0] ++ num s.ge 8 ++ num s.ma 4 ++ num s.hd 4 ++ num s.pg 4 : List Int).length = 28 by simp [num_len]]
  have hf := qfilled_any w9 ([76, 68, 71, 49, s.wd, 0, 0, 0] ++ num s.ge 8 ++ num s.ma 4 ++ num s.hd 4 ++ num s.pg 4) _ _ hL 60 (by omega)
  rw [fill_super s, show ([76, 68, 71, 49, s.wd, 0, 0, 0] ++ num s.ge 8 ++ num s.ma 4 ++ num s.hd 4 ++ num s.pg 4 : List Int).length = 28 by simp [num_len], show ((60 : Nat) : Int) = 60 from rfl] at hf
  have hbl := bodyS_len s
  have hb8 := bodyS_byts s HV.out
  go_wp2_with fail
  refine hf.mono ?_
  rintro e w10 ⟨v10, rfl, hO, b10⟩
  obtain ⟨dp, dc, rfl, hd, _⟩ := hO.form
  replace B := B.trans (b10.mono B.size)
  clear b10 hO hf hL r
  have hs := rseal_any w10 (hG.below B hG.1) (bodyS s) hb8 dp dc hd (by omega)
  rw [hbl] at hs
  rw [hbl]
  go_wp2_with fail
  refine hs.mono ?_
  rintro e w11 ⟨v11, rfl, hO, b11⟩
  have hO' : Own w11 w10.heap.size v11 (secS s) := hO
  obtain ⟨ep, ec, rfl, he, _⟩ := hO'.form
  replace B := B.trans (b11.mono B.size)
  clear b11 hO hO' hs hd hb8 hbl
  have hsl := secS_len s
  have hf := qfilled_any w11 (secS s) ep ec he 256 (by omega)
  rw [fill_page _ hsl, hsl, show ((256 : Nat) : Int) = 256 from rfl] at hf
  rw [hsl]
  clear hsl
  go_wp2_with fail
  refine hf.mono ?_
  rintro e w12 ⟨v12, rfl, hO, b12⟩
  have hO2 := hO.base B.size
  replace B := B.trans (b12.mono B.size)
  clear b12 hO hf he
  go_wp2
  go_ret
  exact ⟨_, rfl, hO2, B⟩
end Go.Proofs.YtaefjlbonflmdaaDoor
