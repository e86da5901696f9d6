import Derived.Test.YtaefjlbonflmdaaDoorMh6
import Derived.Test.YtaefjlbonflmdaaDoorNk
namespace Go.Proofs.YtaefjlbonflmdaaDoor
set_option linter.unusedVariables false
set_option linter.unusedSimpArgs false
open Go.RowKit
attribute [local go_sem ↓] Go.wp_at_zero Go.wp_at_succ

set_option maxRecDepth 100000 in
set_option maxHeartbeats 400000 in
theorem qlaid_any (w : World) (v : Int) (hv : 0 ≤ v) (hv2 : v < 9223372036854775808) (n : Nat) (hn : n ≤ 8) :
    Calls Tryd.prog 21 #[.int .i64 v, .int .i64 n] w fun e w' => ∃ u, e = .returned u ∧ Own w' w.heap.size u (num v n) ∧ Below w.heap.size w w' := by
  have hO := Own.nil w w.heap.size
  have i0 : (n : Int) ≤ 8 := by omega
  go_enter Tryd.func21, Tryd.ntmps21
  go_wp2
  go_loopw [0, 5, 6] (fun xv u iv wr => ∃ k : Nat, ∃ x : Int, k ≤ n ∧ iv = .int .i64 k ∧ xv = .int .i64 x ∧ x = v / 256 ^ k ∧ 0 ≤ x ∧ x ≤ v ∧ Own wr w.heap.size u (num v k) ∧ Below w.heap.size w wr) (fun _ _ iv _ => n - (intOf iv).toNat)
  case atStart => exact ⟨0, v, by omega, rfl, rfl, by simp, hv, by omega, hO, Below.refl _ _⟩
  case round =>
    clear hO
    obtain ⟨k, x, hk, rfl, rfl, hx, hx0, hxv, hO, hB⟩ := hrel
    replace hx := hid hx
    by_cases hlt : k < n
    · have i1 : (k : Int) < (n : Int) := by omega
      have hxm : x ≤ 9223372036854775807 := by omega
      have HS := hid (show num v (k + 1) = num v k ++ [x % 256] by rw [num_snoc v hv k, hx.out])
      have HD := hid (show x / 256 = v / 256 ^ (k + 1) by rw [hx.out, Int.ediv_ediv_of_nonneg (by exact Int.pow_nonneg (by decide)), Int.pow_succ])
      have e1 : x.tmod 256 = x % 256 := Int.tmod_eq_emod_of_nonneg hx0
      have e2 : x.tdiv 256 = x / 256 := Int.tdiv_eq_ediv_of_nonneg hx0
      have hm : 0 ≤ x % 256 ∧ x % 256 < 256 := by omega
      have hq : 0 ≤ x / 256 ∧ x / 256 ≤ x := by omega
      have KL := hid (show (num v k).length + 1 ≤ 140737488355328 by rw [num_len]; omega)
      generalize num v k = zk at *
      go_wp2_with (first | (at_builtin; refine wpList_push_any rfl (.tmp 12) (.tmp 16) rfl w.heap.size _ _ (x % 256) rfl hO rfl KL.out hB.size _ _ ?_; intro v2 w2 hO2 hB2))
      go_roundw
      case rel => exact ⟨k + 1, x / 256, by omega, by go_num, rfl, HD.out, hq.1, by omega, (by rw [HS.out]; exact hO2), hB.trans hB2⟩
      case measure => simp [intOf]; omega
    · obtain rfl : k = n := by omega
      clear hlt
      go_wp2
      go_ret
      exact ⟨_, rfl, hO, hB⟩
/-- A list with zeros behind it, n bytes in all. -/
def fillF (l : List Int) (n : Nat) : List Int := l.take n ++ List.replicate (n - l.length) 0
set_option maxRecDepth 100000 in
set_option maxHeartbeats 400000 in
theorem qfilled_any (w : World) (zs : List Int) (sp : Option Addr) (cap : Nat) (hS : Src w sp cap zs) (n : Nat) (hn : n ≤ 300) :
    Calls Tryd.prog 22 #[.slice sp zs.length cap, .int .i64 n] w fun e w' => ∃ u, e = .returned u ∧ Own w' w.heap.size u (fillF zs n) ∧ Below w.heap.size w w' := by
  obtain ⟨hc, hm, b, o, hb, hsp, hsrc⟩ := hS
  have hO := Own.nil w w.heap.size
  have i0 : (n : Int) ≤ 300 := by omega
  unfold maxLen at hm
  have i2 : (zs.length : Int) ≤ 9223372036854775807 := by omega
  go_enter Tryd.func22, Tryd.ntmps22
  go_wp2
  go_loopw [5, 6] (fun u iv wr => ∃ k : Nat, k ≤ n ∧ iv = .int .i64 k ∧ Own wr w.heap.size u (fillF zs k) ∧ Below w.heap.size w wr) (fun _ iv _ => n - (intOf iv).toNat)
  case atStart => exact ⟨0, by omega, rfl, by simpa [fillF] using hO, Below.refl _ _⟩
  case round =>
    clear hO
    obtain ⟨k, hk, rfl, hO, hB⟩ := hrel
    by_cases hlt : k < n
    · have i1 : (k : Int) < (n : Int) := by omega
      have KL := hid (show (fillF zs k).length + 1 ≤ 140737488355328 by simp [fillF]; omega)
      by_cases hz : k < zs.length
      · have i3 : (k : Int) < (zs.length : Int) := by omega
        obtain rfl := hsp (by omega)
        have c0 := (hB.cell (p := ⟨b, o + k, none⟩) (hb (by omega))).trans (hsrc k hz)
        have HS := hid (show fillF zs (k + 1) = fillF zs k ++ [zs.getD k 0] by
          unfold fillF
          rw [show k + 1 - zs.length = 0 by omega, show k - zs.length = 0 by omega, List.replicate_zero, List.append_nil, List.append_nil, List.take_succ_eq_append_getElem hz, List.getD_eq_getElem?_getD, List.getElem?_eq_getElem hz]; rfl)
        generalize zs.getD k 0 = x at *
        generalize fillF zs k = zk at *
        go_wp2_with (first | (at_builtin; refine wpList_push_any rfl (.tmp 16) (.tmp 21) rfl w.heap.size _ _ x rfl hO rfl KL.out hB.size _ _ ?_; intro v2 w2 hO2 hB2))
        go_roundw
        case rel => exact ⟨k + 1, by omega, by go_num, (by rw [HS.out]; exact hO2), hB.trans hB2⟩
        case measure => simp [intOf]; omega
      · have i3 : ¬ ((k : Int) < (zs.length : Int)) := by omega
        have HS := hid (show fillF zs (k + 1) = fillF zs k ++ [0] by
          unfold fillF
          rw [List.take_of_length_le (by omega), List.take_of_length_le (by omega), show k + 1 - zs.length = (k - zs.length) + 1 by omega, List.replicate_succ', List.append_assoc])
        generalize fillF zs k = zk at *
        go_wp2_with (first | (at_builtin; refine wpList_push_any rfl (.tmp 23) (.tmp 24) rfl w.heap.size _ _ 0 rfl hO rfl KL.out hB.size _ _ ?_; intro v2 w2 hO2 hB2))
        go_roundw
        case rel => exact ⟨k + 1, by omega, by go_num, (by rw [HS.out]; exact hO2), hB.trans hB2⟩
        case measure => simp [intOf]; omega
    · obtain rfl : k = n := by omega
      clear hlt
      go_wp2
      go_ret
      exact ⟨_, rfl, hO, hB⟩
set_option maxRecDepth 100000 in
set_option maxHeartbeats 400000 in
theorem qjoined_any (w : World) (xs ys : List Int) (sp sq : Option Addr) (c d : Nat) (hX : Src w sp c xs) (hY : Src w sq d ys) (hl : xs.length + ys.length ≤ 140737488355000) :
    Calls Tryd.prog 20 #[.slice sp xs.length c, .slice sq ys.length d] w fun e w' => ∃ u, e = .returned u ∧ Own w' w.heap.size u (xs ++ ys) ∧ Below w.heap.size w w' := by
  obtain ⟨hc, hm, b, o, hb, hsp, hsrc⟩ := hX
  obtain ⟨hc', hm', b', o', hb', hsp', hsrc'⟩ := hY
  have hO := Own.nil w w.heap.size
  have i0 : (xs.length : Int) ≤ 140737488355000 := by omega
  have i2 : (ys.length : Int) ≤ 140737488355000 := by omega
  go_enter Tryd.func20, Tryd.ntmps20
  go_wp2
  go_loopw [5, 6] (fun u iv wr => ∃ k : Nat, k ≤ xs.length ∧ iv = .int .i64 k ∧ Own wr w.heap.size u (xs.take k) ∧ Below w.heap.size w wr) (fun _ iv _ => xs.length - (intOf iv).toNat)
  case atStart => exact ⟨0, by omega, rfl, hO, Below.refl _ _⟩
  case round =>
    clear hO
    obtain ⟨k, hk, rfl, hO, hB⟩ := hrel
    by_cases hlt : k < xs.length
    · have i1 : (k : Int) < (xs.length : Int) := by omega
      obtain rfl := hsp (by omega)
      have c0 := (hB.cell (p := ⟨b, o + k, none⟩) (hb (by omega))).trans (hsrc k hlt)
      have HT := hid (show xs.take (k + 1) = xs.take k ++ [xs.getD k 0] by
        rw [List.take_succ_eq_append_getElem hlt, List.getD_eq_getElem?_getD, List.getElem?_eq_getElem hlt]; rfl)
      have KL := hid (show (xs.take k).length + 1 ≤ 140737488355328 by rw [List.length_take]; omega)
      generalize xs.getD k 0 = x at *
      generalize xs.take k = zk at *
      go_wp2_with (first | (at_builtin; refine wpList_push_any rfl (.tmp 14) (.tmp 19) rfl w.heap.size _ _ x rfl hO rfl KL.out hB.size _ _ ?_; intro v2 w2 hO2 hB2))
      go_roundw
      case rel => exact ⟨k + 1, by omega, by go_num, (by rw [HT.out]; exact hO2), hB.trans hB2⟩
      case measure => simp [intOf]; omega
    · obtain rfl : k = xs.length := by omega
      clear hlt
      rw [List.take_length] at hO
      have hOb := hO
      have hBb := hB
      clear hO hB
      go_wp2
      go_loopw [5, 7] (fun u iv wr => ∃ k : Nat, k ≤ ys.length ∧ iv = .int .i64 k ∧ Own wr w.heap.size u (xs ++ ys.take k) ∧ Below w.heap.size w wr) (fun _ iv _ => ys.length - (intOf iv).toNat)
      case atStart => exact ⟨0, by omega, rfl, by simpa using hOb, hBb⟩
      case round =>
        clear hOb hBb
        obtain ⟨k, hk, rfl, hO, hB⟩ := hrel
        by_cases hlt : k < ys.length
        · have i1 : (k : Int) < (ys.length : Int) := by omega
          obtain rfl := hsp' (by omega)
          have c0 := (hB.cell (p := ⟨b', o' + k, none⟩) (hb' (by omega))).trans (hsrc' k hlt)
          have HT := hid (show xs ++ ys.take (k + 1) = (xs ++ ys.take k) ++ [ys.getD k 0] by
            rw [List.take_succ_eq_append_getElem hlt, List.getD_eq_getElem?_getD, List.getElem?_eq_getElem hlt, List.append_assoc]; rfl)
          have KL := hid (show (xs ++ ys.take k).length + 1 ≤ 140737488355328 by rw [List.length_append, List.length_take]; omega)
          generalize ys.getD k 0 = x at *
          generalize xs ++ ys.take k = zk at *
          go_wp2_with (first | (at_builtin; refine wpList_push_any rfl (.tmp 27) (.tmp 32) rfl w.heap.size _ _ x rfl hO rfl KL.out hB.size _ _ ?_; intro v2 w2 hO2 hB2))
          go_roundw
          case rel => exact ⟨k + 1, by omega, by go_num, (by rw [HT.out]; exact hO2), hB.trans hB2⟩
          case measure => simp [intOf]; omega
        · obtain rfl : k = ys.length := by omega
          clear hlt
          rw [List.take_length] at hO
          go_wp2
          go_ret
          exact ⟨_, rfl, hO, hB⟩
end Go.Proofs.YtaefjlbonflmdaaDoor
namespace Go.Proofs.YtaefjlbonflmdaaDoor
set_option linter.unusedVariables false
set_option linter.unusedSimpArgs false
open Go.RowKit
attribute [local go_sem ↓] Go.wp_at_zero Go.wp_at_succ

theorem le_drop (L : List Int) (i : Nat) (hi : i < L.length) : le (L.drop i) = (L.getD i 0).toNat + 256 * le (L.drop (i + 1)) := by
  rw [List.drop_eq_getElem_cons hi, le, List.getD_eq_getElem?_getD, List.getElem?_eq_getElem hi]; rfl
theorem le_drop_mono (L : List Int) (i : Nat) : le (L.drop (i + 1)) ≤ le (L.drop i) := by
  by_cases hi : i < L.length
  · rw [le_drop L i hi]; omega
  · rw [List.drop_of_length_le (by omega), List.drop_of_length_le (by omega)]; exact Nat.le_refl _
theorem le_drop_le (L : List Int) (i : Nat) : ∀ d, le (L.drop (i + d)) ≤ le (L.drop i)
  | 0 => Nat.le_refl _
  | d + 1 => Nat.le_trans (le_drop_mono L (i + d)) (le_drop_le L i d)
/-- What ledgerref5's read tells. -/
def rdF (L : List Int) : Int := if 35184372088832 < le (L.drop 1) then -1 else (le L : Int)
end Go.Proofs.YtaefjlbonflmdaaDoor
namespace Go.Proofs.YtaefjlbonflmdaaDoor
set_option linter.unusedVariables false
set_option linter.unusedSimpArgs false
open Go.RowKit
attribute [local go_sem ↓] Go.wp_at_zero Go.wp_at_succ

theorem fill_body (k p : Int) (l : List Int) (h : l.length ≤ 246) : fillF ([k, (l.length : Int)] ++ num p 4 ++ l) 252 = bodyP k p l := by
  unfold fillF bodyP
  have hl : ([k, (l.length : Int)] ++ num p 4 ++ l).length = 6 + l.length := by simp [num_len]; omega
  rw [List.take_of_length_le (by omega), hl, show 252 - (6 + l.length) = 246 - l.length by omega]
set_option maxRecDepth 100000 in
set_option maxHeartbeats 1000000 in
theorem qPage_any (w : World) (hG : Gl w) (k p : Int) (hk : 1 ≤ k ∧ k ≤ 3) (hp : 2 ≤ p ∧ p < 4096) (l : List Int) (h8 : Byts l) (hl : l.length ≤ 246) (sp : Option Addr) (cap : Nat) (hS : Src w sp cap l) :
    Calls Tryd.prog 12 #[.int .i64 k, .int .i64 p, .slice sp l.length cap] w fun e w' => ∃ u, e = .returned u ∧ Own w' w.heap.size u (pageP k p l) ∧ Below w.heap.size w w' := by
  have k1 := hk.1
  have k2 := hk.2
  have j3 : (l.length : Int) ≤ 246 := by omega
  have r1 : (w.alloc (.cells #[.int .u8 k, .int .u8 (l.length : Int)] 5)).heap[w.heap.size]? = some (.cells (ints .u8 [k, (l.length : Int)]).toArray 5 (0, 0)) := hnew w _
  have B := below_new w (.cells #[.int .u8 k, .int .u8 (l.length : Int)] 5)
  have s1 := src_rowf r1 2 (by simp) (by decide)
  have hS1 := hS.below B (Nat.le_refl _)
  go_enter Tryd.func12, Tryd.ntmps12
  go_wp2_with fail
  generalize w.alloc (.cells #[.int .u8 k, .int .u8 (l.length : Int)] 5) = w1 at *
  refine (qlaid_any w1 p (by omega) (by omega) 4 (by omega)).mono ?_
  rintro e w2 ⟨v2, rfl, hO2, b2⟩
  obtain ⟨ap, ac, rfl, ha2, _⟩ := hO2.form
  have hs2 := s1.below b2 (Nat.le_refl _)
  have hS2 := hS1.below b2 (Nat.le_refl _)
  have B2 := B.trans (b2.mono B.size)
  clear b2 B hO2 s1 hS1 r1
  have hj := qjoined_any w2 [k, (l.length : Int)] (num p 4) _ _ _ _ hs2 ha2 (by simp [num_len])
  rw [num_len] at hj
  rw [num_len]
  go_wp2_with fail
  refine hj.mono ?_
  rintro e w3 ⟨v3, rfl, hO3, b3⟩
  obtain ⟨bp, bc, rfl, hb3, _⟩ := hO3.form
  have hS3 := hS2.below b3 (Nat.le_refl _)
  have B3 := B2.trans (b3.mono B2.size)
  clear b3 B2 hO3 hj hs2 ha2 hS2
  have hlen3 : ([k, (l.length : Int)] ++ num p 4).length = 6 := by simp [num_len]
  rw [hlen3]
  have hj := qjoined_any w3 ([k, (l.length : Int)] ++ num p 4) l _ _ _ _ hb3 hS3 (by omega)
  rw [hlen3] at hj
  go_wp2_with fail
  refine hj.mono ?_
  rintro e w4 ⟨v4, rfl, hO4, b4⟩
  obtain ⟨cp, cc, rfl, hc4, _⟩ := hO4.form
  have B4 := B3.trans (b4.mono B3.size)
  clear b4 B3 hO4 hj hb3 hS3
  have hf := qfilled_any w4 ([k, (l.length : Int)] ++ num p 4 ++ l) cp cc hc4 252 (by omega)
  rw [fill_body k p l hl, show ((252 : Nat) : Int) = 252 from rfl] at hf
  generalize hlen4 : ([k, (l.length : Int)] ++ num p 4 ++ l).length = n4 at *
  replace hlen4 := hid hlen4
  go_wp2_with fail
  refine hf.mono ?_
  rintro e w5 ⟨v5, rfl, hO5, b5⟩
  obtain ⟨dp, dc, rfl, hd5, _⟩ := hO5.form
  have B5 := B4.trans (b5.mono B4.size)
  have hG5 : Gl w5 := hG.below B5 hG.1
  clear b5 B4 hO5 hf hc4
  have hbl := bodyP_len k p l hl
  have hs := rseal_any w5 hG5 (bodyP k p l) (bodyP_byts k p l (by omega) hl h8) dp dc hd5 (by omega)
  rw [hbl] at hs
  go_wp2_with fail
  refine hs.mono ?_
  rintro e w6 ⟨v6, rfl, hO6, b6⟩
  have B6 := B5.trans (b6.mono B5.size)
  have hO6' : Own w6 w.heap.size v6 (pageP k p l) := hO6.base B5.size
  clear b6 B5 hs hd5 hO6
  go_wp2
  go_ret
  exact ⟨_, rfl, hO6', B6⟩
end Go.Proofs.YtaefjlbonflmdaaDoor
namespace Go.Proofs.YtaefjlbonflmdaaDoor
set_option linter.unusedVariables false
set_option linter.unusedSimpArgs false
open Go.RowKit
attribute [local go_sem ↓] Go.wp_at_zero Go.wp_at_succ

theorem rd4 (L : List Int) (h8 : Byts L) (h : L.length = 4) : rdF L = (le L : Int) := by
  have h1 := le_lt (L.drop 1) (h8.drop 1)
  rw [List.length_drop, h] at h1
  unfold rdF
  rw [if_neg (by omega)]
end Go.Proofs.YtaefjlbonflmdaaDoor
