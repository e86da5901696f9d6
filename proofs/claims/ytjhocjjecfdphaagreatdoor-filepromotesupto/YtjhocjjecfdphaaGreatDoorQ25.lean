import Derived.Test.YtjhocjjecfdphaaGreatDoorQ24
import Derived.Test.YtjhocjjecfdphaaGreatDoorQ05
namespace Go.Proofs.YtjhocjjecfdphaaGreatDoor
set_option linter.unusedVariables false
set_option linter.unusedSimpArgs false
set_option maxRecDepth 100000
set_option maxHeartbeats 4000000
section
open Go.RowKit
attribute [local go_sem ↓] Go.wp_at_zero Go.wp_at_succ
open Go.RowKit
attribute [local go_sem ↓] Go.wp_at_zero Go.wp_at_succ
open Go.RowKit
attribute [local go_sem ↓] Go.wp_at_zero Go.wp_at_succ
open Go.RowKit
attribute [local go_sem ↓] Go.wp_at_zero Go.wp_at_succ
theorem qlaid_any (w : World) (v : Int) (hv : 0 ≤ v) (hv2 : v < 9223372036854775808) (n : Nat) (hn : n ≤ 8) :
   Calls Tryz.prog 84 #[.int .i64 v, .int .i64 n] w fun e w' => ∃ u, e = .returned u ∧ Own w' w.heap.size u (num v n) ∧ Below w.heap.size w w' := by
 have hO := Own.nil w w.heap.size
 have i0 : (n : Int) ≤ 8 := by omega
 go_enter Tryz.func84, Tryz.ntmps84
 go_wp2
 go_loopw [0, 5, 6] (fun xv u iv wr => ∃ k : Nat, ∃ x : Int, k ≤ n ∧ iv = .int .i64 k ∧ xv = .int .i64 x ∧ x = v / 256 ^ k ∧ 0 ≤ x ∧ x ≤ v ∧ Own wr w.heap.size u (num v k) ∧ Below w.heap.size w wr) (fun _ _ iv _ => n - (intOf iv).toNat)
 case atStart => exact ⟨0, v, by omega, rfl, rfl, by simp, hv, by omega, hO, Below.refl _ _⟩
 case round =>
   clear hO
   obtain ⟨k, x, hk, rfl, rfl, hx, hx0, hxv, hO, hB⟩ := hrel
   replace hx := hid hx
   by_cases hlt : k < n
   · have i1 : (k : Int) < (n : Int) := by omega
     have hxm : x ≤ 9223372036854775807 := by omega
     have HS := hid (show num v (k + 1) = num v k ++ [x % 256] by rw [num_snoc v hv k, hx.out])
     have HD := hid (show x / 256 = v / 256 ^ (k + 1) by rw [hx.out, Int.ediv_ediv_of_nonneg (by exact Int.pow_nonneg (by decide)), Int.pow_succ])
     have e1 : x.tmod 256 = x % 256 := Int.tmod_eq_emod_of_nonneg hx0
     have e2 : x.tdiv 256 = x / 256 := Int.tdiv_eq_ediv_of_nonneg hx0
     have hm : 0 ≤ x % 256 ∧ x % 256 < 256 := by omega
     have hq : 0 ≤ x / 256 ∧ x / 256 ≤ x := by omega
     have KL := hid (show (num v k).length + 1 ≤ 140737488355328 by rw [num_len]; omega)
     generalize num v k = zk at *
     go_wp2_with (first | (at_builtin; refine wpList_push_any rfl (.tmp 12) (.tmp 16) rfl w.heap.size _ _ (x % 256) rfl hO rfl KL.out hB.size _ _ ?_; intro v2 w2 hO2 hB2))
     go_roundw
     case rel => exact ⟨k + 1, x / 256, by omega, by go_num, rfl, HD.out, hq.1, by omega, (by rw [HS.out]; exact hO2), hB.trans hB2⟩
     case measure => simp [intOf]; omega
   · obtain rfl : k = n := by omega
     clear hlt
     go_wp2
     go_ret
     exact ⟨_, rfl, hO, hB⟩
def fillF (l : List Int) (n : Nat) : List Int := l.take n ++ List.replicate (n - l.length) 0
theorem qfilled_any (w : World) (zs : List Int) (sp : Option Addr) (cap : Nat) (hS : Src w sp cap zs) (n : Nat) (hn : n ≤ 300) :
   Calls Tryz.prog 85 #[.slice sp zs.length cap, .int .i64 n] w fun e w' => ∃ u, e = .returned u ∧ Own w' w.heap.size u (fillF zs n) ∧ Below w.heap.size w w' := by
 obtain ⟨hc, hm, b, o, hb, hsp, hsrc⟩ := hS
 have hO := Own.nil w w.heap.size
 have i0 : (n : Int) ≤ 300 := by omega
 unfold maxLen at hm
 have i2 : (zs.length : Int) ≤ 9223372036854775807 := by omega
 go_enter Tryz.func85, Tryz.ntmps85
 go_wp2
 go_loopw [5, 6] (fun u iv wr => ∃ k : Nat, k ≤ n ∧ iv = .int .i64 k ∧ Own wr w.heap.size u (fillF zs k) ∧ Below w.heap.size w wr) (fun _ iv _ => n - (intOf iv).toNat)
 case atStart => exact ⟨0, by omega, rfl, by simpa [fillF] using hO, Below.refl _ _⟩
 case round =>
   clear hO
   obtain ⟨k, hk, rfl, hO, hB⟩ := hrel
   by_cases hlt : k < n
   · have i1 : (k : Int) < (n : Int) := by omega
     have KL := hid (show (fillF zs k).length + 1 ≤ 140737488355328 by simp [fillF]; omega)
     by_cases hz : k < zs.length
     · have i3 : (k : Int) < (zs.length : Int) := by omega
       obtain rfl := hsp (by omega)
       have c0 := (hB.cell (p := ⟨b, o + k, none⟩) (hb (by omega))).trans (hsrc k hz)
       have HS := hid (show fillF zs (k + 1) = fillF zs k ++ [zs.getD k 0] by
         unfold fillF
         rw [show k + 1 - zs.length = 0 by omega, show k - zs.length = 0 by omega, List.replicate_zero, List.append_nil, List.append_nil, List.take_succ_eq_append_getElem hz, List.getD_eq_getElem?_getD, List.getElem?_eq_getElem hz]; rfl)
       generalize zs.getD k 0 = x at *
       generalize fillF zs k = zk at *
       go_wp2_with (first | (at_builtin; refine wpList_push_any rfl (.tmp 16) (.tmp 21) rfl w.heap.size _ _ x rfl hO rfl KL.out hB.size _ _ ?_; intro v2 w2 hO2 hB2))
       go_roundw
       case rel => exact ⟨k + 1, by omega, by go_num, (by rw [HS.out]; exact hO2), hB.trans hB2⟩
       case measure => simp [intOf]; omega
     · have i3 : ¬ ((k : Int) < (zs.length : Int)) := by omega
       have HS := hid (show fillF zs (k + 1) = fillF zs k ++ [0] by
         unfold fillF
         rw [List.take_of_length_le (by omega), List.take_of_length_le (by omega), show k + 1 - zs.length = (k - zs.length) + 1 by omega, List.replicate_succ', List.append_assoc])
       generalize fillF zs k = zk at *
       go_wp2_with (first | (at_builtin; refine wpList_push_any rfl (.tmp 23) (.tmp 24) rfl w.heap.size _ _ 0 rfl hO rfl KL.out hB.size _ _ ?_; intro v2 w2 hO2 hB2))
       go_roundw
       case rel => exact ⟨k + 1, by omega, by go_num, (by rw [HS.out]; exact hO2), hB.trans hB2⟩
       case measure => simp [intOf]; omega
   · obtain rfl : k = n := by omega
     clear hlt
     go_wp2
     go_ret
     exact ⟨_, rfl, hO, hB⟩
theorem qjoined_any (w : World) (xs ys : List Int) (sp sq : Option Addr) (c d : Nat) (hX : Src w sp c xs) (hY : Src w sq d ys) (hl : xs.length + ys.length ≤ 140737488355000) :
   Calls Tryz.prog 83 #[.slice sp xs.length c, .slice sq ys.length d] w fun e w' => ∃ u, e = .returned u ∧ Own w' w.heap.size u (xs ++ ys) ∧ Below w.heap.size w w' := by
 obtain ⟨hc, hm, b, o, hb, hsp, hsrc⟩ := hX
 obtain ⟨hc', hm', b', o', hb', hsp', hsrc'⟩ := hY
 have hO := Own.nil w w.heap.size
 have i0 : (xs.length : Int) ≤ 140737488355000 := by omega
 have i2 : (ys.length : Int) ≤ 140737488355000 := by omega
 go_enter Tryz.func83, Tryz.ntmps83
 go_wp2
 go_loopw [5, 6] (fun u iv wr => ∃ k : Nat, k ≤ xs.length ∧ iv = .int .i64 k ∧ Own wr w.heap.size u (xs.take k) ∧ Below w.heap.size w wr) (fun _ iv _ => xs.length - (intOf iv).toNat)
 case atStart => exact ⟨0, by omega, rfl, hO, Below.refl _ _⟩
 case round =>
   clear hO
   obtain ⟨k, hk, rfl, hO, hB⟩ := hrel
   by_cases hlt : k < xs.length
   · have i1 : (k : Int) < (xs.length : Int) := by omega
     obtain rfl := hsp (by omega)
     have c0 := (hB.cell (p := ⟨b, o + k, none⟩) (hb (by omega))).trans (hsrc k hlt)
     have HT := hid (show xs.take (k + 1) = xs.take k ++ [xs.getD k 0] by
       rw [List.take_succ_eq_append_getElem hlt, List.getD_eq_getElem?_getD, List.getElem?_eq_getElem hlt]; rfl)
     have KL := hid (show (xs.take k).length + 1 ≤ 140737488355328 by rw [List.length_take]; omega)
     generalize xs.getD k 0 = x at *
     generalize xs.take k = zk at *
     go_wp2_with (first | (at_builtin; refine wpList_push_any rfl (.tmp 14) (.tmp 19) rfl w.heap.size _ _ x rfl hO rfl KL.out hB.size _ _ ?_; intro v2 w2 hO2 hB2))
     go_roundw
     case rel => exact ⟨k + 1, by omega, by go_num, (by rw [HT.out]; exact hO2), hB.trans hB2⟩
     case measure => simp [intOf]; omega
   · obtain rfl : k = xs.length := by omega
     clear hlt
     rw [List.take_length] at hO
     have hOb := hO
     have hBb := hB
     clear hO hB
     go_wp2
     go_loopw [5, 7] (fun u iv wr => ∃ k : Nat, k ≤ ys.length ∧ iv = .int .i64 k ∧ Own wr w.heap.size u (xs ++ ys.take k) ∧ Below w.heap.size w wr) (fun _ iv _ => ys.length - (intOf iv).toNat)
     case atStart => exact ⟨0, by omega, rfl, by simpa using hOb, hBb⟩
     case round =>
       clear hOb hBb
       obtain ⟨k, hk, rfl, hO, hB⟩ := hrel
       by_cases hlt : k < ys.length
       · have i1 : (k : Int) < (ys.length : Int) := by omega
         obtain rfl := hsp' (by omega)
         have c0 := (hB.cell (p := ⟨b', o' + k, none⟩) (hb' (by omega))).trans (hsrc' k hlt)
         have HT := hid (show xs ++ ys.take (k + 1) = (xs ++ ys.take k) ++ [ys.getD k 0] by
           rw [List.take_succ_eq_append_getElem hlt, List.getD_eq_getElem?_getD, List.getElem?_eq_getElem hlt, List.append_assoc]; rfl)
         have KL := hid (show (xs ++ ys.take k).length + 1 ≤ 140737488355328 by rw [List.length_append, List.length_take]; omega)
         generalize ys.getD k 0 = x at *
         generalize xs ++ ys.take k = zk at *
         go_wp2_with (first | (at_builtin; refine wpList_push_any rfl (.tmp 27) (.tmp 32) rfl w.heap.size _ _ x rfl hO rfl KL.out hB.size _ _ ?_; intro v2 w2 hO2 hB2))
         go_roundw
         case rel => exact ⟨k + 1, by omega, by go_num, (by rw [HT.out]; exact hO2), hB.trans hB2⟩
         case measure => simp [intOf]; omega
       · obtain rfl : k = ys.length := by omega
         clear hlt
         rw [List.take_length] at hO
         go_wp2
         go_ret
         exact ⟨_, rfl, hO, hB⟩
theorem rwhole_L (w : World) (hG : Gl w) (L : List Int) (h8 : Byts L) (h4 : 4 ≤ L.length) (hle : L.length ≤ 1000) (sp : Option Addr) (cap : Nat) (hS : Src w sp cap L) :
   Calls Tryz.prog 104 #[.slice sp L.length cap] w fun e w' => e = .returned (.bool (decide (feed ones L = CR))) ∧ Below w.heap.size w w' := by
 have e := List.take_append_drop (L.length - 4) L
 have hy : (L.drop (L.length - 4)).length = 4 := by rw [List.length_drop]; omega
 have hl : (L.take (L.length - 4)).length + 4 = L.length := by rw [List.length_take]; omega
 have := rwhole_any w hG (L.take (L.length - 4)) (L.drop (L.length - 4)) (by rw [e]; exact h8) hy sp cap (by rw [e]; exact hS) (by rw [List.length_take]; omega)
 rw [whole_D _ _ (by rw [e]; exact h8) hy, e, hl] at this
 exact this
theorem qzeros_any (w : World) (zs : List Int) (sp : Option Addr) (cap : Nat) (hS : Src w sp cap zs) (a n : Nat) (h : a + n ≤ zs.length) (hl : zs.length ≤ 1000) (A T : Int) (hA : A = (a : Int)) (hT : T = ((a + n : Nat) : Int)) :
   Calls Tryz.prog 105 #[.slice sp zs.length cap, .int .i64 A, .int .i64 T] w fun e w' => e = .returned (.bool (decide ((zs.drop a).take n = List.replicate n 0))) ∧ Below w.heap.size w w' := by
 obtain ⟨hc, hm, b, o, hb, hsp, hsrc⟩ := hS
 subst hA hT
 have i0 : (zs.length : Int) ≤ 1000 := by omega
 have i1 : ((a + n : Nat) : Int) ≤ (zs.length : Int) := by omega
 have hN : ∃ t : Nat, t = a + n := ⟨_, rfl⟩
 obtain ⟨t, ht⟩ := hN
 rw [← ht] at i1 ⊢
 have HT := hid ht
 clear ht
 go_enter Tryz.func105, Tryz.ntmps105
 go_wp2
 go_loopw [7] (fun iv wr => ∃ k : Nat, k ≤ n ∧ iv = .int .i64 (a + k : Nat) ∧ (zs.drop a).take k = List.replicate k 0 ∧ Below w.heap.size w wr) (fun iv _ => t - (intOf iv).toNat)
 case atStart => exact ⟨0, by omega, rfl, rfl, Below.refl _ _⟩
 case round =>
   obtain ⟨k, hk, rfl, hZ, hB⟩ := hrel
   replace hZ := hid hZ
   obtain ⟨q, hq⟩ : ∃ q : Nat, q = a + k := ⟨_, rfl⟩
   have HQ := hid hq
   rw [← hq]
   clear hq
   by_cases hlt : k < n
   · have i2 : (q : Int) < (t : Int) := by have := HQ.out; have := HT.out; omega
     have hqz : q < zs.length := by have := HQ.out; omega
     have i3 : (q : Int) < (zs.length : Int) := by omega
     obtain rfl := hsp (by omega)
     have c0 := (hB.cell (p := ⟨b, o + q, none⟩) (hb (by omega))).trans (hsrc q hqz)
     have hg : (zs.drop a).take (k + 1) = (zs.drop a).take k ++ [zs.getD q 0] := by
       have hd : k < (zs.drop a).length := by rw [List.length_drop]; omega
       rw [List.take_succ_eq_append_getElem hd, List.getElem_drop, HQ.out, List.getD_eq_getElem?_getD, List.getElem?_eq_getElem (by omega)]; rfl
     have HG := hid hg
     clear hg
     by_cases hz : zs.getD q 0 = 0
     · rw [hz] at c0
       have HS := hid (show (zs.drop a).take (k + 1) = List.replicate (k + 1) 0 by rw [HG.out, hz, hZ.out, List.replicate_succ'])
       clear hz
       go_wp2
       go_roundw
       case rel => exact ⟨k + 1, by omega, by rw [HQ.out]; go_num, HS.out, hB⟩
       case measure => simp [intOf]; omega
     · have HF := hid (show decide ((zs.drop a).take n = List.replicate n 0) = false by
         rw [decide_eq_false_iff_not]
         intro hh
         apply hz
         have h2 : ((zs.drop a).take n)[k]? = some 0 := by rw [hh, List.getElem?_replicate, if_pos hlt]
         rw [List.getElem?_take, if_pos hlt, List.getElem?_drop, ← HQ.out] at h2
         rw [List.getD_eq_getElem?_getD, h2]; rfl)
       have hz2 : (zs.getD q 0 != 0) = true := by simpa using hz
       clear hz
       generalize zs.getD q 0 = x at *
       go_wp2
       go_ret
       exact ⟨by rw [HF.out]; rfl, hB⟩
   · have hkn : k = n := by omega
     have i2 : ¬ ((q : Int) < (t : Int)) := by have := HQ.out; have := HT.out; omega
     have HF := hid (show decide ((zs.drop a).take n = List.replicate n 0) = true by rw [← hkn, hZ.out]; simp)
     clear hlt hkn
     go_wp2
     go_ret
     exact ⟨by rw [HF.out]; rfl, hB⟩
theorem le_drop (L : List Int) (i : Nat) (hi : i < L.length) : le (L.drop i) = (L.getD i 0).toNat + 256 * le (L.drop (i + 1)) := by
 rw [List.drop_eq_getElem_cons hi, le, List.getD_eq_getElem?_getD, List.getElem?_eq_getElem hi]; rfl
theorem le_drop_mono (L : List Int) (i : Nat) : le (L.drop (i + 1)) ≤ le (L.drop i) := by
 by_cases hi : i < L.length
 · rw [le_drop L i hi]; omega
 · rw [List.drop_of_length_le (by omega), List.drop_of_length_le (by omega)]; exact Nat.le_refl _
theorem le_drop_le (L : List Int) (i : Nat) : ∀ d, le (L.drop (i + d)) ≤ le (L.drop i)
 | 0 => Nat.le_refl _
 | d + 1 => Nat.le_trans (le_drop_mono L (i + d)) (le_drop_le L i d)
def rdF (L : List Int) : Int := if 35184372088832 < le (L.drop 1) then -1 else (le L : Int)
theorem qread_any (w : World) (zs : List Int) (h8 : Byts zs) (sp : Option Addr) (cap : Nat) (hS : Src w sp cap zs) (a n : Nat) (h : a + n ≤ zs.length) (hl : zs.length ≤ 1000) (hn : 1 ≤ n) :
   Calls Tryz.prog 106 #[.slice sp zs.length cap, .int .i64 a, .int .i64 n] w fun e w' => e = .returned (.int .i64 (rdF ((zs.drop a).take n))) ∧ Below w.heap.size w w' := by
 obtain ⟨hc, hm, b, o, hb, hsp, hsrc⟩ := hS
 obtain rfl := hsp (by omega)
 have i0 : (zs.length : Int) ≤ 1000 := by omega
 have i1 : (a : Int) + (n : Int) ≤ (zs.length : Int) := by omega
 obtain ⟨L, hL⟩ : ∃ L, L = (zs.drop a).take n := ⟨_, rfl⟩
 have hLl : L.length = n := by rw [hL, List.length_take, List.length_drop]; omega
 have hLg : ∀ j, j < n → L.getD j 0 = zs.getD (a + j) 0 := fun j hj => by
   rw [hL, List.getD_eq_getElem?_getD, List.getElem?_take, if_pos hj, List.getElem?_drop, ← List.getD_eq_getElem?_getD]
 rw [← hL]
 replace hL := hid hL
 go_enter Tryz.func106, Tryz.ntmps106
 go_wp2
 go_loopw [7, 8] (fun xv iv wr => ∃ i : Nat, i ≤ n ∧ iv = .int .i64 ((i : Int) - 1) ∧ xv = .int .i64 (le (L.drop i)) ∧ (i < n → le (L.drop (i + 1)) ≤ 35184372088832) ∧ Below w.heap.size w wr) (fun _ iv _ => ((intOf iv) + 1).toNat)
 case atStart => exact ⟨n, Nat.le_refl _, by go_num, by rw [List.drop_of_length_le (by omega)]; rfl, fun h => by omega, Below.refl _ _⟩
 case round =>
   obtain ⟨i, hi, rfl, rfl, hlast, hB⟩ := hrel
   by_cases h0 : i = 0
   · subst h0
     have HF := hid (show rdF L = (le (L.drop 0) : Int) by
       unfold rdF
       rw [if_neg (by have h9 : le (L.drop 1) ≤ 35184372088832 := hlast (by omega); omega), List.drop_zero])
     clear hlast
     rw [show ((0 : Nat) : Int) - 1 = -1 from rfl]
     generalize le (L.drop 0) = V at *
     go_wp2
     go_ret
     exact ⟨by rw [HF.out]; rfl, hB⟩
   · obtain ⟨j, rfl⟩ : ∃ j, i = j + 1 := ⟨i - 1, by omega⟩
     have ej : ((j + 1 : Nat) : Int) - 1 = (j : Int) := by omega
     rw [ej]
     by_cases hbig : 35184372088832 < le (L.drop (j + 1))
     · have HF := hid (show rdF L = -1 by
         unfold rdF
         rw [if_pos]
         have := le_drop_le L 1 j
         rw [Nat.add_comm 1 j] at this
         omega)
       have i5 : (35184372088832 : Int) < (le (L.drop (j + 1)) : Int) := by omega
       clear hlast
       generalize le (L.drop (j + 1)) = V at *
       go_wp2
       go_ret
       exact ⟨by rw [HF.out]; rfl, hB⟩
     · have hd := le_drop L j (by omega)
       rw [hLg j (by omega)] at hd
       have c0 := (hB.cell (p := ⟨b, o + (a + j), none⟩) (hb (by omega))).trans (hsrc (a + j) (by omega))
       have hx : 0 ≤ zs.getD (a + j) 0 ∧ zs.getD (a + j) 0 < 256 := h8 _ (by rw [List.getD_eq_getElem?_getD, List.getElem?_eq_getElem (by omega)]; exact List.getElem_mem _)
       obtain ⟨x, hxx⟩ := Int.eq_ofNat_of_zero_le hx.1
       rw [hxx] at c0 hd hx
       rw [Int.toNat_natCast] at hd
       have HD := hid hd
       have HB' := hid (show le (L.drop (j + 1)) ≤ 35184372088832 by omega)
       have i5 : ¬ ((35184372088832 : Int) < (le (L.drop (j + 1)) : Int)) := by omega
       have i6 : (a : Int) + (j : Int) < (zs.length : Int) := by omega
       have x2 : (x : Int) < 256 := hx.2
       clear hd hxx hx hlast hbig
       generalize hV : le (L.drop (j + 1)) = V at *
       replace hV := hid hV
       have i7 : (V : Int) ≤ 35184372088832 := by omega
       go_wp2
       go_roundw
       case rel => exact ⟨j, by omega, by go_num, by rw [HD.out]; go_num, fun _ => by rw [hV.out]; exact HB'.out, hB⟩
       case measure => simp [intOf] <;> try omega
theorem fill_body (k p : Int) (l : List Int) (h : l.length ≤ 246) : fillF ([k, (l.length : Int)] ++ num p 4 ++ l) 252 = bodyP k p l := by
 unfold fillF bodyP
 have hl : ([k, (l.length : Int)] ++ num p 4 ++ l).length = 6 + l.length := by simp [num_len]; omega
 rw [List.take_of_length_le (by omega), hl, show 252 - (6 + l.length) = 246 - l.length by omega]
theorem qPage_any (w : World) (hG : Gl w) (k p : Int) (hk : 1 ≤ k ∧ k ≤ 3) (hp : 2 ≤ p ∧ p < 4096) (l : List Int) (h8 : Byts l) (hl : l.length ≤ 246) (sp : Option Addr) (cap : Nat) (hS : Src w sp cap l) :
   Calls Tryz.prog 88 #[.int .i64 k, .int .i64 p, .slice sp l.length cap] w fun e w' => ∃ u, e = .returned u ∧ Own w' w.heap.size u (pageP k p l) ∧ Below w.heap.size w w' := by
 have k1 := hk.1
 have k2 := hk.2
 have j3 : (l.length : Int) ≤ 246 := by omega
 have r1 : (w.alloc (.cells #[.int .u8 k, .int .u8 (l.length : Int)] 5)).heap[w.heap.size]? = some (.cells (ints .u8 [k, (l.length : Int)]).toArray 5 (0, 0)) := hnew w _
 have B := below_new w (.cells #[.int .u8 k, .int .u8 (l.length : Int)] 5)
 have s1 := src_rowf r1 2 (by simp) (by decide)
 have hS1 := hS.below B (Nat.le_refl _)
 go_enter Tryz.func88, Tryz.ntmps88
 go_wp2_with fail
 generalize w.alloc (.cells #[.int .u8 k, .int .u8 (l.length : Int)] 5) = w1 at *
 refine (qlaid_any w1 p (by omega) (by omega) 4 (by omega)).mono ?_
 rintro e w2 ⟨v2, rfl, hO2, b2⟩
 obtain ⟨ap, ac, rfl, ha2, _⟩ := hO2.form
 have hs2 := s1.below b2 (Nat.le_refl _)
 have hS2 := hS1.below b2 (Nat.le_refl _)
 have B2 := B.trans (b2.mono B.size)
 clear b2 B hO2 s1 hS1 r1
 have hj := qjoined_any w2 [k, (l.length : Int)] (num p 4) _ _ _ _ hs2 ha2 (by simp [num_len])
 rw [num_len] at hj
 rw [num_len]
 go_wp2_with fail
 refine hj.mono ?_
 rintro e w3 ⟨v3, rfl, hO3, b3⟩
 obtain ⟨bp, bc, rfl, hb3, _⟩ := hO3.form
 have hS3 := hS2.below b3 (Nat.le_refl _)
 have B3 := B2.trans (b3.mono B2.size)
 clear b3 B2 hO3 hj hs2 ha2 hS2
 have hlen3 : ([k, (l.length : Int)] ++ num p 4).length = 6 := by simp [num_len]
 rw [hlen3]
 have hj := qjoined_any w3 ([k, (l.length : Int)] ++ num p 4) l _ _ _ _ hb3 hS3 (by omega)
 rw [hlen3] at hj
 go_wp2_with fail
 refine hj.mono ?_
 rintro e w4 ⟨v4, rfl, hO4, b4⟩
 obtain ⟨cp, cc, rfl, hc4, _⟩ := hO4.form
 have B4 := B3.trans (b4.mono B3.size)
 clear b4 B3 hO4 hj hb3 hS3
 have hf := qfilled_any w4 ([k, (l.length : Int)] ++ num p 4 ++ l) cp cc hc4 252 (by omega)
 rw [fill_body k p l hl, show ((252 : Nat) : Int) = 252 from rfl] at hf
 generalize hlen4 : ([k, (l.length : Int)] ++ num p 4 ++ l).length = n4 at *
 replace hlen4 := hid hlen4
 go_wp2_with fail
 refine hf.mono ?_
 rintro e w5 ⟨v5, rfl, hO5, b5⟩
 obtain ⟨dp, dc, rfl, hd5, _⟩ := hO5.form
 have B5 := B4.trans (b5.mono B4.size)
 have hG5 : Gl w5 := hG.below B5 hG.1
 clear b5 B4 hO5 hf hc4
 have hbl := bodyP_len k p l hl
 have hs := rseal_any w5 hG5 (bodyP k p l) (bodyP_byts k p l (by omega) hl h8) dp dc hd5 (by omega)
 rw [hbl] at hs
 go_wp2_with fail
 refine hs.mono ?_
 rintro e w6 ⟨v6, rfl, hO6, b6⟩
 have B6 := B5.trans (b6.mono B5.size)
 have hO6' : Own w6 w.heap.size v6 (pageP k p l) := hO6.base B5.size
 clear b6 B5 hs hd5 hO6
 go_wp2
 go_ret
 exact ⟨_, rfl, hO6', B6⟩
theorem rd4 (L : List Int) (h8 : Byts L) (h : L.length = 4) : rdF L = (le L : Int) := by
 have h1 := le_lt (L.drop 1) (h8.drop 1)
 rw [List.length_drop, h] at h1
 unfold rdF
 rw [if_neg (by omega)]
theorem qUnpack_ok (w : World) (hG : Gl w) (p : Int) (r : List Int) (h8 : Byts r) (hp : placeOk p = true) (hl : r.length = 256) (hC : feed ones r = CR) (sp : Option Addr) (cap : Nat) (hS : Src w sp cap r) :
   Calls Tryz.prog 89 #[.int .i64 p, .slice sp 256 cap] w fun e w' => ∃ v, e = .returned (.tuple #[.int .i64 (unpackF p r).1, v, .int .i64 (unpackF p r).2.2]) ∧ Own w' w.heap.size v (unpackF p r).2.1 ∧ Below w.heap.size w w' := by
 have hS' := hS
 obtain ⟨hc, hm, b, o, hb, hsp, hsrc⟩ := hS
 obtain rfl := hsp (by omega)
 replace hb := hb (by omega)
 have i1 : 256 ≤ cap := by omega
 have i2 : (256 : Int) ≤ (cap : Int) := by omega
 obtain ⟨p1, p2⟩ := (placeOk_iff p).1 hp
 have hw := rwhole_L w hG r h8 (by omega) (by omega) (some ⟨b, o, none⟩) cap hS'
 rw [hl, show decide (feed ones r = CR) = true by simpa using hC] at hw
 have HL := hid hl
 have g0 := h8 (r.getD 0 0) (by rw [List.getD_eq_getElem?_getD, List.getElem?_eq_getElem (by omega)]; exact List.getElem_mem _)
 have g1 := h8 (r.getD 1 0) (by rw [List.getD_eq_getElem?_getD, List.getElem?_eq_getElem (by omega)]; exact List.getElem_mem _)
 have HU := hid (show unpackF p r = (if kindOk (r.getD 0 0) = false then (0, [], 50) else if 246 < r.getD 1 0 then (0, [], 51)
 else if (le ((r.drop 2).take 4) : Int) ≠ p then (0, [], 54)
 else if (r.drop (6 + (r.getD 1 0).toNat)).take (246 - (r.getD 1 0).toNat) ≠ List.replicate (246 - (r.getD 1 0).toNat) 0 then (0, [], 53)
 else (r.getD 0 0, (r.drop 6).take (r.getD 1 0).toNat, 0)) by
   rw [unpackF, if_neg (by simp [hp]), if_neg (by simp [hl]), if_neg (by simp [hC])])
 have c0' := hsrc 0 (by omega)
 have c1' := hsrc 1 (by omega)
 rw [Nat.add_zero] at c0'
 have h24 : ((r.drop 2).take 4).length = 4 := by simp [hl]
 obtain ⟨k, hk⟩ : ∃ k, k = r.getD 0 0 := ⟨_, rfl⟩
 obtain ⟨n, hn⟩ : ∃ n : Nat, (n : Int) = r.getD 1 0 := ⟨(r.getD 1 0).toNat, by omega⟩
 rw [← hk] at g0 HU c0'
 rw [← hn] at g1 HU c1'
 rw [Int.toNat_natCast] at HU
 clear hk hn hp hC
 obtain ⟨g00, g01⟩ := g0
 obtain ⟨g10, g11⟩ := g1
 go_enter Tryz.func89, Tryz.ntmps89
 clear hl
 go_wp2_with fail
 refine hw.mono ?_
 rintro e w2 ⟨rfl, b2⟩
 have c0 := (b2.cell (p := ⟨b, o, none⟩) hb).trans c0'
 have c1 := (b2.cell (p := ⟨b, o + 1, none⟩) hb).trans c1'
 have hb2 : b < w2.heap.size := Nat.lt_of_lt_of_le hb b2.size
 have hS2 := hS'.below b2 (Nat.le_refl _)
 clear c0' c1' hw hsrc
 have kc : k < 1 ∨ (1 ≤ k ∧ 3 < k) ∨ (1 ≤ k ∧ k ≤ 3) := by omega
 rcases kc with q1 | ⟨q1, q2⟩ | ⟨q1, q2⟩
 · have HF := hid (show unpackF p r = (0, [], 50) by rw [HU.out, if_pos (by simp [kindOk]; omega)])
   clear HU
   go_wp2
   go_ret3
   exact ⟨_, by rw [HF.out]; rfl, by rw [HF.out]; exact Own.nil _ _, b2⟩
 · have HF := hid (show unpackF p r = (0, [], 50) by rw [HU.out, if_pos (by simp [kindOk]; omega)])
   clear HU
   go_wp2
   go_ret3
   exact ⟨_, by rw [HF.out]; rfl, by rw [HF.out]; exact Own.nil _ _, b2⟩
 have HK := hid ((kindOk_iff k).2 ⟨q1, q2⟩)
 by_cases hn : 246 < n
 · have HF := hid (show unpackF p r = (0, [], 51) by rw [HU.out, if_neg (by simp [HK.out]), if_pos (by omega)])
   clear HU
   have i3 : (246 : Int) < (n : Int) := by omega
   go_wp2
   go_ret3
   exact ⟨_, by rw [HF.out]; rfl, by rw [HF.out]; exact Own.nil _ _, b2⟩
 have i3 : (n : Int) ≤ 246 := by omega
 have hrd := qread_any w2 r h8 (some ⟨b, o, none⟩) cap hS2 2 4 (by have := HL.out; omega) (by have := HL.out; omega) (by omega)
 rw [rd4 _ ((h8.drop 2).take 4) h24, HL.out] at hrd
 have hlt4 := le_lt ((r.drop 2).take 4) ((h8.drop 2).take 4)
 rw [h24] at hlt4
 go_wp2_with fail
 refine hrd.mono ?_
 rintro e w5 ⟨rfl, b5⟩
 have b5' := b2.trans (b5.mono b2.size)
 have hS5 := hS2.below b5 (Nat.le_refl _)
 have hb5 : b < w5.heap.size := Nat.lt_of_lt_of_le hb2 b5.size
 clear hrd b5 b2 hS2 hb2 c0 c1
 obtain ⟨q, hq⟩ : ∃ q : Int, q = (le ((r.drop 2).take 4) : Int) := ⟨_, rfl⟩
 rw [← hq] at HU ⊢
 clear hq hlt4
 by_cases hqp : q = p
 · subst hqp
   have i4 : (n : Int) + 6 ≤ 252 := by omega
   have hz := qzeros_any w5 r (some ⟨b, o, none⟩) cap hS5 (6 + n) (246 - n) (by have := HL.out; omega) (by have := HL.out; omega) (6 + (n : Int)) 252 (by omega) (by omega)
   rw [HL.out] at hz
   go_wp2_with fail
   refine hz.mono ?_
   rintro e w6 ⟨rfl, b6⟩
   have b6' := b5'.trans (b6.mono b5'.size)
   have hS6 := hS5.below b6 (Nat.le_refl _)
   have hb6 : b < w6.heap.size := Nat.lt_of_lt_of_le hb5 b6.size
   clear hz b6 b5' hS5 hb5
   by_cases hzz : (r.drop (6 + n)).take (246 - n) = List.replicate (246 - n) 0
   · have HF := hid (show unpackF q r = (k, (r.drop 6).take n, 0) by rw [HU.out, if_neg (by simp [HK.out]), if_neg (by omega), if_neg (by simp), if_neg (by simp [hzz])])
     rw [show (decide ((r.drop (6 + n)).take (246 - n) = List.replicate (246 - n) 0)) = true by simpa using hzz]
     clear HU hzz
     have hl6 : ((r.drop 6).take n).length = n := by have := HL.out; simp; omega
     have hfl := qfilled_any w6 ((r.drop 6).take n) (some ⟨b, o + 6, none⟩) (cap - 6) (hS6.mid 6 n (by have := HL.out; omega) hb6 _ (by omega) (by omega)) n (by omega)
     rw [show fillF ((r.drop 6).take n) n = (r.drop 6).take n by unfold fillF; rw [List.take_of_length_le (by omega), hl6, Nat.sub_self, List.replicate_zero, List.append_nil], hl6] at hfl
     clear hl6
     go_wp2_with fail
     refine hfl.mono ?_
     rintro e w7 ⟨v, rfl, hO, b7⟩
     have b7' := b6'.trans (b7.mono b6'.size)
     have hO' : Own w7 w.heap.size v ((r.drop 6).take n) := hO.base b6'.size
     clear hfl hO b7 b6' hS6
     go_wp2
     go_ret3
     exact ⟨_, by rw [HF.out]; rfl, by rw [HF.out]; exact hO', b7'⟩
   · have HF := hid (show unpackF q r = (0, [], 53) by rw [HU.out, if_neg (by simp [HK.out]), if_neg (by omega), if_neg (by simp), if_pos hzz])
     rw [show (decide ((r.drop (6 + n)).take (246 - n) = List.replicate (246 - n) 0)) = false by simpa using hzz]
     clear HU hzz
     go_wp2
     go_ret3
     exact ⟨_, by rw [HF.out]; rfl, by rw [HF.out]; exact Own.nil _ _, b6'⟩
 · have HF := hid (show unpackF p r = (0, [], 54) by rw [HU.out, if_neg (by simp [HK.out]), if_neg (by omega), if_pos hqp])
   clear HU
   have hqp2 : (q != p) = true := by simpa using hqp
   clear hqp
   go_wp2
   go_ret3
   exact ⟨_, by rw [HF.out]; rfl, by rw [HF.out]; exact Own.nil _ _, b5'⟩
theorem qUnpack_any (w : World) (hG : Gl w) (p : Int) (r : List Int) (h8 : Byts r) (sp : Option Addr) (cap : Nat) (hS : Src w sp cap r) :
   Calls Tryz.prog 89 #[.int .i64 p, .slice sp r.length cap] w fun e w' => ∃ v, e = .returned (.tuple #[.int .i64 (unpackF p r).1, v, .int .i64 (unpackF p r).2.2]) ∧ Own w' w.heap.size v (unpackF p r).2.1 ∧ Below w.heap.size w w' := by
 have hlm : (r.length : Int) ≤ 9223372036854775807 := by have := hS.1; have := hS.2.1; unfold maxLen at this; omega
 have pc : p < 2 ∨ (2 ≤ p ∧ 4096 ≤ p) ∨ (2 ≤ p ∧ p < 4096) := by omega
 rcases pc with d1 | ⟨d1, d2⟩ | ⟨d1, d2⟩
 · have HF := hid (show unpackF p r = (0, [], 54) by rw [unpackF, if_pos (by simp [placeOk]; omega)])
   clear hS
   go_enter Tryz.func89, Tryz.ntmps89
   go_wp2
   go_ret3
   exact ⟨_, by rw [HF.out]; rfl, by rw [HF.out]; exact Own.nil _ _, Below.refl _ _⟩
 · have HF := hid (show unpackF p r = (0, [], 54) by rw [unpackF, if_pos (by simp [placeOk]; omega)])
   clear hS
   go_enter Tryz.func89, Tryz.ntmps89
   go_wp2
   go_ret3
   exact ⟨_, by rw [HF.out]; rfl, by rw [HF.out]; exact Own.nil _ _, Below.refl _ _⟩
 have hp := (placeOk_iff p).2 ⟨d1, d2⟩
 by_cases hl : r.length = 256
 · by_cases hC : feed ones r = CR
   · rw [hl]; exact qUnpack_ok w hG p r h8 hp hl hC sp cap hS
   · have HF := hid (unpack_sum p r hp hl hC)
     have hw := rwhole_L w hG r h8 (by omega) (by omega) sp cap hS
     rw [show decide (feed ones r = CR) = false by simpa using hC] at hw
     rw [hl] at hw ⊢
     clear hS hl hlm hC hp
     go_enter Tryz.func89, Tryz.ntmps89
     go_wp2_with fail
     refine hw.mono ?_
     rintro e w2 ⟨rfl, b2⟩
     go_wp2
     go_ret3
     exact ⟨_, by rw [HF.out]; rfl, by rw [HF.out]; exact Own.nil _ _, b2⟩
 · have HF := hid (show unpackF p r = (0, [], 53) by rw [unpackF, if_neg (by simp [hp]), if_pos hl])
   have hl2 : ((r.length : Int) != 256) = true := by simp; omega
   clear hS hl hp
   go_enter Tryz.func89, Tryz.ntmps89
   go_wp2
   go_ret3
   exact ⟨_, by rw [HF.out]; rfl, by rw [HF.out]; exact Own.nil _ _, Below.refl _ _⟩
end
end Go.Proofs.YtjhocjjecfdphaaGreatDoor
