import Derived.Test.YtbddndcdcicnaaaNr
import Derived.Test.YtbddndcdcicnaaaQe5
namespace Go.Proofs.Ytbddndcdcicnaaa
set_option linter.unusedVariables false
set_option linter.unusedSimpArgs false
open Go.RowKit
attribute [local go_sem ↓] Go.wp_at_zero Go.wp_at_succ

/-- Unpack of a text whose sum is wrong. -/
theorem unpack_wrong (w : World) (p : Int) (hp : placeOk p = true) (R : List Int) (h8 : Byts R) (hl : R.length = 256) (hC : feed ones R ≠ CR) (sp : Option Addr) (cap : Nat) (hS : Src w sp cap R) :
    Calls Try.prog 15 #[.int .i64 p, .slice sp 256 cap] w fun e w' => ∃ v, e = .returned (.tuple #[.int .i64 0, v, .int .i64 52]) ∧ Own w' w.heap.size v [] ∧ Below w.heap.size w w' := by
  have h := unpack_any w p R h8 sp cap hS
  rw [hl, unpack_sum p R hp hl hC] at h
  exact h
theorem page_CR (k p : Int) (l : List Int) (hk : 1 ≤ k ∧ k ≤ 3) (hl : l.length ≤ 246) (h8 : Byts l) : feed ones (pageP k p l) = CR := seal_CR _ (bodyP_byts k p l (by omega) hl h8)
theorem cnt_zero (B : Nat) (S : List Int) (a : Int) (p : Nat) : ∀ m, cnt B a p m = 0 → brstN B S a p m = S
  | 0, _ => rfl
  | m + 1, h => by
    rw [cnt] at h
    by_cases hh : hits B a p m = true
    · rw [if_pos hh] at h; omega
    · rw [if_neg hh] at h; rw [brstN, if_neg hh, cnt_zero B S a p m h]
/-- turned with a burst in the first bytes X of a text. -/
theorem turned_burst (w : World) (X Y : List Int) (h8 : Byts (X ++ Y)) (hX : 0 < X.length) (L : Nat) (hL : (X ++ Y).length = L) (hle : L ≤ 20000) (hC : feed ones X = CR) (sp : Option Addr) (cap : Nat) (hS : Src w sp cap (X ++ Y)) (A : Int) (pt : Nat) (hpt : pt < 4294967296) (x1 : -31 ≤ A) (x2 : A < 8 * (X.length : Int)) (N : Int) (hN : N = 8 * (X.length : Int)) :
    Calls Try.prog 17 #[.slice sp L cap, .int .i64 A, .int .u32 pt, .int .i64 N] w fun e w' => ∃ g uc R, ∃ c : Nat, e = .returned (.tuple #[.slice (some ⟨g, 0, none⟩) L uc, .int .i64 c]) ∧ Src w' (some ⟨g, 0, none⟩) uc (R ++ Y) ∧ Byts R ∧ R.length = X.length ∧ (c = 0 → R = X) ∧ (c ≠ 0 → feed ones R ≠ CR) ∧ c ≤ 32 ∧ Below w.heap.size w w' := by
  have hlen : L = X.length + Y.length := by rw [← hL, List.length_append]
  have h := turned_any w (X ++ Y) h8 (by omega) (by omega) X.length (by omega) sp cap hS A pt hpt (fun m hm _ => by omega) N hN
  rw [hL] at h
  refine h.mono ?_
  rintro e w' ⟨g, uc, rfl, hs, hB⟩
  rw [brstN_app] at hs
  have hX8 : Byts X := fun x hx => h8 x (List.mem_append_left _ hx)
  refine ⟨g, uc, brst X A pt 32, cnt X.length A pt 32, rfl, hs, brst_byts X hX8 A pt 32, brst_len X A pt 32, ?_, fun hn => burst_main X A pt x1 x2 hC hn, cnt_le _ _ _ _, hB⟩
  intro h0
  have := cnt_zero X.length X A pt 32 h0
  rwa [brstN_all] at this
/-- turned at one bit. -/
theorem turned_one (w : World) (X Y : List Int) (h8 : Byts (X ++ Y)) (hX : 0 < X.length) (L : Nat) (hL : (X ++ Y).length = L) (hle : L ≤ 20000) (sp : Option Addr) (cap : Nat) (hS : Src w sp cap (X ++ Y)) (A : Int) (hA : -9223372036854775808 ≤ A ∧ A ≤ 9223372036854775807) (N : Int) (hN : N = 8 * (X.length : Int)) :
    Calls Try.prog 17 #[.slice sp L cap, .int .i64 A, .int .u32 1, .int .i64 N] w fun e w' => ∃ g uc, ∃ c : Nat, e = .returned (.tuple #[.slice (some ⟨g, 0, none⟩) L uc, .int .i64 c]) ∧ Src w' (some ⟨g, 0, none⟩) uc (flO X A ++ Y) ∧ Below w.heap.size w w' := by
  have hlen : L = X.length + Y.length := by rw [← hL, List.length_append]
  have h := turned_any w (X ++ Y) h8 (by omega) (by omega) X.length (by omega) sp cap hS A 1 (by omega) (fun m hm hb => by
    match m, hb with
    | 0, _ => exact ⟨by omega, by omega⟩
    | m + 1, hb => rw [one_shr] at hb; omega) N hN
  rw [hL] at h
  refine h.mono ?_
  rintro e w' ⟨g, uc, rfl, hs, hB⟩
  refine ⟨g, uc, _, rfl, ?_, hB⟩
  rw [brstN_one] at hs
  have e : flN X.length (X ++ Y) A = flO X A ++ Y := by
    unfold flN flO
    by_cases h : 0 ≤ A ∧ A < 8 * (X.length : Int)
    · rw [if_pos h, if_pos h, turnB_app _ _ _ (by omega)]
    · rw [if_neg h, if_neg h]
  rwa [e] at hs
set_option maxRecDepth 100000 in
set_option maxHeartbeats 1000000 in
theorem bursts_walk (w : World) (k0 p0 : Int) (hk0 : -9223372036854775808 ≤ k0 ∧ k0 ≤ 9223372036854775807) (hp0 : -9223372036854775808 ≤ p0 ∧ p0 ≤ 9223372036854775807) (zs : List Int) (h8 : Byts zs) (sp : Option Addr) (cap : Nat) (hS : Src w sp cap zs) (hlen : zs.length ≤ 140737488355000) (a : Int) (pt : Nat) (hpt : pt < 4294967296) :
    Calls Try.prog 7 #[.int .i64 k0, .int .i64 p0, .slice sp zs.length cap, .int .i64 a, .int .u32 pt] w fun e w' => e = .returned (.bool true) ∧ Below w.heap.size w w' := by
  go_enter Try.func7, Try.ntmps7
  go_wp2_with fail
  refine (whole_num w k0 1 3 (by omega) (by omega) (by omega) hk0).mono ?_
  rintro e w1 ⟨k, rfl, ka, kb, rfl⟩
  go_wp2_with fail
  refine (whole_num w1 p0 2 4095 (by omega) (by omega) (by omega) hp0).mono ?_
  rintro e w2 ⟨p, rfl, pa, pb, rfl⟩
  go_wp2_with fail
  refine (short_any w2 zs sp cap hS hlen 246 (by omega)).mono ?_
  rintro e w3 ⟨v, rfl, hO1, b1⟩
  obtain ⟨lp, lc, rfl, hl1, _⟩ := hO1.form
  have hl8 : Byts (zs.take 246) := h8.take 246
  have hll : (zs.take 246).length ≤ 246 := by rw [List.length_take]; omega
  generalize zs.take 246 = l at *
  clear hO1
  have hk := (kindOk_iff k).2 ⟨ka, kb⟩
  have hp := (placeOk_iff p).2 ⟨pa, by omega⟩
  have hP8 := pageP_byts k p l (by omega) hll hl8
  have hPl := pageP_len k p l hll
  have hPC := page_CR k p l ⟨ka, kb⟩ hll hl8
  have HP := hid hp
  go_wp2_with fail
  refine (pack_ok w3 k p l hl8 hk hp hll lp lc hl1).mono ?_
  rintro e w4 ⟨g, rfl, hg, hr, b4⟩
  have B4 := b1.trans (b4.mono b1.size)
  generalize pageP k p l = P at *
  have hP4 := src_rowf hr 256 (by omega) (by decide)
  clear b4 b1 hl1 hr hk hp
  have hP4' : Src w4 (some ⟨g, 0, none⟩) 256 (P ++ []) := by rw [List.append_nil]; exact hP4
  have KT := hid (fun (A : Int) (x1 : -31 ≤ A) (x2 : A < 2048) => turned_burst w4 P [] (by rw [List.append_nil]; exact hP8) (by omega) 256 (by rw [List.append_nil]; exact hPl) (by omega) hPC _ 256 hP4' A pt hpt x1 (by omega) 2048 (by omega))
  replace hPl := hid hPl
  clear hP8 hPC hP4 hP4'
  have hA : a < -31 ∨ (-31 ≤ a ∧ 2048 ≤ a) ∨ (-31 ≤ a ∧ a < 2048) := by omega
  rcases hA with a1 | ⟨a1, a2⟩ | ⟨a1, a2⟩
  all_goals
    go_wp2_with fail
    refine (KT.out _ (by omega) (by omega)).mono ?_
    rintro e w5 ⟨g5, uc, R, c, rfl, hs5, hR8, hRl, _, hRC, hc32, b5⟩
    have B5 := B4.trans (b5.mono B4.size)
    rw [List.append_nil] at hs5
    rw [hPl.out] at hRl
    clear b5 B4 KT
    have i32 : (c : Int) ≤ 32 := by omega
    by_cases hc : c = 0
    · subst hc
      go_wp2
      go_ret
      exact ⟨rfl, B5⟩
    · have huw := unpack_wrong w5 p HP.out R hR8 hRl (hRC hc) _ _ hs5
      have hc2 : ((c : Int) == 0) = false := by simp; omega
      clear hc hRC hs5
      go_wp2_with fail
      refine huw.mono ?_
      rintro e w6 ⟨v6, rfl, hO6, b6⟩
      obtain ⟨np, nc, rfl, _, _⟩ := hO6.form
      have B6 := B5.trans (b6.mono B5.size)
      clear b6 B5 hO6 huw
      go_wp2
      go_ret
      exact ⟨rfl, B6⟩
set_option maxRecDepth 100000 in
set_option maxHeartbeats 2000000 in
theorem few_walk (w : World) (k0 p0 : Int) (hk0 : -9223372036854775808 ≤ k0 ∧ k0 ≤ 9223372036854775807) (hp0 : -9223372036854775808 ≤ p0 ∧ p0 ≤ 9223372036854775807) (zs : List Int) (h8 : Byts zs) (sp : Option Addr) (cap : Nat) (hS : Src w sp cap zs) (hlen : zs.length ≤ 140737488355000) (i j m n : Int)
    (hi : -9223372036854775808 ≤ i ∧ i ≤ 9223372036854775807) (hj : -9223372036854775808 ≤ j ∧ j ≤ 9223372036854775807) (hm : -9223372036854775808 ≤ m ∧ m ≤ 9223372036854775807) (hn : -9223372036854775808 ≤ n ∧ n ≤ 9223372036854775807) :
    Calls Try.prog 8 #[.int .i64 k0, .int .i64 p0, .slice sp zs.length cap, .int .i64 i, .int .i64 j, .int .i64 m, .int .i64 n] w fun e w' => e = .returned (.bool true) ∧ Below w.heap.size w w' := by
  go_enter Try.func8, Try.ntmps8
  go_wp2_with fail
  refine (whole_num w k0 1 3 (by omega) (by omega) (by omega) hk0).mono ?_
  rintro e w1 ⟨k, rfl, ka, kb, rfl⟩
  go_wp2_with fail
  refine (whole_num w1 p0 2 4095 (by omega) (by omega) (by omega) hp0).mono ?_
  rintro e w2 ⟨p, rfl, pa, pb, rfl⟩
  go_wp2_with fail
  refine (short_any w2 zs sp cap hS hlen 246 (by omega)).mono ?_
  rintro e w3 ⟨v, rfl, hO1, b1⟩
  obtain ⟨lp, lc, rfl, hl1, _⟩ := hO1.form
  have hl8 : Byts (zs.take 246) := h8.take 246
  have hll : (zs.take 246).length ≤ 246 := by rw [List.length_take]; omega
  generalize zs.take 246 = l at *
  clear hO1
  have hk := (kindOk_iff k).2 ⟨ka, kb⟩
  have hp := (placeOk_iff p).2 ⟨pa, by omega⟩
  have hP8 := pageP_byts k p l (by omega) hll hl8
  have hPl := pageP_len k p l hll
  have hPC := page_CR k p l ⟨ka, kb⟩ hll hl8
  have HP := hid hp
  go_wp2_with fail
  refine (pack_ok w3 k p l hl8 hk hp hll lp lc hl1).mono ?_
  rintro e w4 ⟨g, rfl, hg, hr, b4⟩
  have B4 := b1.trans (b4.mono b1.size)
  generalize pageP k p l = P at *
  have hP4 := src_rowf hr 256 (by omega) (by decide)
  clear b4 b1 hl1 hr hk hp
  have KT := hid (fun (X : List Int) (x8 : Byts X) (xl : X.length = 256) (A : Int) (hA : -9223372036854775808 ≤ A ∧ A ≤ 9223372036854775807) (w' : World) (sp' : Option Addr) (cap' : Nat) (hs' : Src w' sp' cap' X) => by
    have h := turned_one w' X [] (by rw [List.append_nil]; exact x8) (by omega) 256 (by rw [List.append_nil]; exact xl) (by omega) sp' cap' (by rw [List.append_nil]; exact hs') A hA 2048 (by omega)
    simp only [List.append_nil] at h
    exact h)
  have KM := hid (few_main i j m n P hP8 (by omega) (by omega) hPC)
  have l1 : (flO P i).length = 256 := by rw [flO_len, hPl]
  have l2 : (flO (flO P i) j).length = 256 := by rw [flO_len, l1]
  have l3 : (flO (flO (flO P i) j) m).length = 256 := by rw [flO_len, l2]
  have l4 : (flO (flO (flO (flO P i) j) m) n).length = 256 := by rw [flO_len, l3]
  have z1 : Byts (flO P i) := flO_byts hP8 i
  have z2 := flO_byts z1 j
  have z3 := flO_byts z2 m
  have z4 := flO_byts z3 n
  go_wp2_with fail
  refine (KT.out P hP8 hPl i hi w4 _ _ hP4).mono ?_
  rintro e w5 ⟨g5, c5, q5, rfl, hs5, b5⟩
  have B5 := B4.trans (b5.mono B4.size)
  have hP5 := hP4.below b5 (Nat.le_refl _)
  clear b5 B4 hP4
  go_wp2_with fail
  refine (KT.out _ z1 l1 j hj w5 _ _ hs5).mono ?_
  rintro e w6 ⟨g6, c6, q6, rfl, hs6, b6⟩
  have B6 := B5.trans (b6.mono B5.size)
  have hP6 := hP5.below b6 (Nat.le_refl _)
  clear b6 B5 hP5 hs5
  go_wp2_with fail
  refine (KT.out _ z2 l2 m hm w6 _ _ hs6).mono ?_
  rintro e w7 ⟨g7, c7, q7, rfl, hs7, b7⟩
  have B7 := B6.trans (b7.mono B6.size)
  have hP7 := hP6.below b7 (Nat.le_refl _)
  clear b7 B6 hP6 hs6
  go_wp2_with fail
  refine (KT.out _ z3 l3 n hn w7 _ _ hs7).mono ?_
  rintro e w8 ⟨g8, c8, q8, rfl, hs8, b8⟩
  have B8 := B7.trans (b8.mono B7.size)
  have hP8' := hP7.below b8 (Nat.le_refl _)
  clear b8 B7 hP7 hs7 KT
  generalize flO (flO (flO (flO P i) j) m) n = R at *
  have hsm := same_any w8 P R _ _ _ _ hP8' hs8
  rw [hPl, l4] at hsm
  clear z1 z2 z3 l1 l2 l3 hPl
  go_wp2_with fail
  refine hsm.mono ?_
  rintro e w9 ⟨rfl, b9⟩
  have B9 := B8.trans (b9.mono B8.size)
  have hs9 := hs8.below b9 (Nat.le_refl _)
  clear b9 B8 hs8 hP8' hsm
  by_cases hPR : P = R
  · rw [show decide (P = R) = true by simpa using hPR]
    clear hPR KM
    go_wp2
    go_ret
    exact ⟨rfl, B9⟩
  · rw [show decide (P = R) = false by simpa using hPR]
    have huw := unpack_wrong w9 p HP.out R z4 l4 (KM.out (fun h => hPR h.symm)) _ _ hs9
    clear hPR KM hs9
    go_wp2_with fail
    refine huw.mono ?_
    rintro e w10 ⟨v6, rfl, hO6, b10⟩
    obtain ⟨np, nc, rfl, _, _⟩ := hO6.form
    have B10 := B9.trans (b10.mono B9.size)
    clear b10 B9 hO6 huw
    go_wp2
    go_ret
    exact ⟨rfl, B10⟩
end Go.Proofs.Ytbddndcdcicnaaa
