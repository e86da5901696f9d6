import Derived.Test.YtaoongjdneaccaaDoorO1
namespace Go.Proofs.YtaoongjdneaccaaDoor
set_option linter.unusedVariables false
set_option linter.unusedSimpArgs false
open Go.RowKit
attribute [local go_sem ↓] Go.wp_at_zero Go.wp_at_succ

theorem rwhole_L (w : World) (hG : Gl w) (L : List Int) (h8 : Byts L) (h4 : 4 ≤ L.length) (hle : L.length ≤ 1000) (sp : Option Addr) (cap : Nat) (hS : Src w sp cap L) :
    Calls Tryd.prog 35 #[.slice sp L.length cap] w fun e w' => e = .returned (.bool (decide (feed ones L = CR))) ∧ Below w.heap.size w w' := by
  have e := List.take_append_drop (L.length - 4) L
  have hy : (L.drop (L.length - 4)).length = 4 := by rw [List.length_drop]; omega
  have hl : (L.take (L.length - 4)).length + 4 = L.length := by rw [List.length_take]; omega
  have := rwhole_any w hG (L.take (L.length - 4)) (L.drop (L.length - 4)) (by rw [e]; exact h8) hy sp cap (by rw [e]; exact hS) (by rw [List.length_take]; omega)
  rw [whole_D _ _ (by rw [e]; exact h8) hy, e, hl] at this
  exact this
set_option maxRecDepth 100000 in
set_option maxHeartbeats 400000 in
theorem qzeros_any (w : World) (zs : List Int) (sp : Option Addr) (cap : Nat) (hS : Src w sp cap zs) (a n : Nat) (h : a + n ≤ zs.length) (hl : zs.length ≤ 1000) (A T : Int) (hA : A = (a : Int)) (hT : T = ((a + n : Nat) : Int)) :
    Calls Tryd.prog 37 #[.slice sp zs.length cap, .int .i64 A, .int .i64 T] w fun e w' => e = .returned (.bool (decide ((zs.drop a).take n = List.replicate n 0))) ∧ Below w.heap.size w w' := by
  obtain ⟨hc, hm, b, o, hb, hsp, hsrc⟩ := hS
  subst hA hT
  have i0 : (zs.length : Int) ≤ 1000 := by omega
  have i1 : ((a + n : Nat) : Int) ≤ (zs.length : Int) := by omega
  have hN : ∃ t : Nat, t = a + n := ⟨_, rfl⟩
  obtain ⟨t, ht⟩ := hN
  rw [← ht] at i1 ⊢
  have HT := hid ht
  clear ht
  go_enter Tryd.func37, Tryd.ntmps37
  go_wp2
  go_loopw [7] (fun iv wr => ∃ k : Nat, k ≤ n ∧ iv = .int .i64 (a + k : Nat) ∧ (zs.drop a).take k = List.replicate k 0 ∧ Below w.heap.size w wr) (fun iv _ => t - (intOf iv).toNat)
  case atStart => exact ⟨0, by omega, rfl, rfl, Below.refl _ _⟩
  case round =>
    obtain ⟨k, hk, rfl, hZ, hB⟩ := hrel
    replace hZ := hid hZ
    obtain ⟨q, hq⟩ : ∃ q : Nat, q = a + k := ⟨_, rfl⟩
    have HQ := hid hq
    rw [← hq]
    clear hq
    by_cases hlt : k < n
    · have i2 : (q : Int) < (t : Int) := by have := HQ.out; have := HT.out; omega
      have hqz : q < zs.length := by have := HQ.out; omega
      have i3 : (q : Int) < (zs.length : Int) := by omega
      obtain rfl := hsp (by omega)
      have c0 := (hB.cell (p := ⟨b, o + q, none⟩) (hb (by omega))).trans (hsrc q hqz)
      have hg : (zs.drop a).take (k + 1) = (zs.drop a).take k ++ [zs.getD q 0] := by
        have hd : k < (zs.drop a).length := by rw [List.length_drop]; omega
        rw [List.take_succ_eq_append_getElem hd, List.getElem_drop, HQ.out, List.getD_eq_getElem?_getD, List.getElem?_eq_getElem (by omega)]; rfl
      have HG := hid hg
      clear hg
      by_cases hz : zs.getD q 0 = 0
      · rw [hz] at c0
        have HS := hid (show (zs.drop a).take (k + 1) = List.replicate (k + 1) 0 by rw [HG.out, hz, hZ.out, List.replicate_succ'])
        clear hz
        go_wp2
        go_roundw
        case rel => exact ⟨k + 1, by omega, by rw [HQ.out]; go_num, HS.out, hB⟩
        case measure => simp [intOf]; omega
      · have HF := hid (show decide ((zs.drop a).take n = List.replicate n 0) = false by
          rw [decide_eq_false_iff_not]
          intro hh
          apply hz
          have h2 : ((zs.drop a).take n)[k]? = some 0 := by rw [hh, List.getElem?_replicate, if_pos hlt]
          rw [List.getElem?_take, if_pos hlt, List.getElem?_drop, ← HQ.out] at h2
          rw [List.getD_eq_getElem?_getD, h2]; rfl)
        have hz2 : (zs.getD q 0 != 0) = true := by simpa using hz
        clear hz
        generalize zs.getD q 0 = x at *
        go_wp2
        go_ret
        exact ⟨by rw [HF.out]; rfl, hB⟩
    · have hkn : k = n := by omega
      have i2 : ¬ ((q : Int) < (t : Int)) := by have := HQ.out; have := HT.out; omega
      have HF := hid (show decide ((zs.drop a).take n = List.replicate n 0) = true by rw [← hkn, hZ.out]; simp)
      clear hlt hkn
      go_wp2
      go_ret
      exact ⟨by rw [HF.out]; rfl, hB⟩
theorem le_drop (L : List Int) (i : Nat) (hi : i < L.length) : le (L.drop i) = (L.getD i 0).toNat + 256 * le (L.drop (i + 1)) := by
  rw [List.drop_eq_getElem_cons hi, le, List.getD_eq_getElem?_getD, List.getElem?_eq_getElem hi]; rfl
theorem le_drop_mono (L : List Int) (i : Nat) : le (L.drop (i + 1)) ≤ le (L.drop i) := by
  by_cases hi : i < L.length
  · rw [le_drop L i hi]; omega
  · rw [List.drop_of_length_le (by omega), List.drop_of_length_le (by omega)]; exact Nat.le_refl _
theorem le_drop_le (L : List Int) (i : Nat) : ∀ d, le (L.drop (i + d)) ≤ le (L.drop i)
  | 0 => Nat.le_refl _
  | d + 1 => Nat.le_trans (le_drop_mono L (i + d)) (le_drop_le L i d)
/-- What ledgerref5's read tells. -/
def rdF (L : List Int) : Int := if 35184372088832 < le (L.drop 1) then -1 else (le L : Int)
set_option maxRecDepth 100000 in
set_option maxHeartbeats 400000 in
theorem qread_any (w : World) (zs : List Int) (h8 : Byts zs) (sp : Option Addr) (cap : Nat) (hS : Src w sp cap zs) (a n : Nat) (h : a + n ≤ zs.length) (hl : zs.length ≤ 1000) (hn : 1 ≤ n) :
    Calls Tryd.prog 36 #[.slice sp zs.length cap, .int .i64 a, .int .i64 n] w fun e w' => e = .returned (.int .i64 (rdF ((zs.drop a).take n))) ∧ Below w.heap.size w w' := by
  obtain ⟨hc, hm, b, o, hb, hsp, hsrc⟩ := hS
  obtain rfl := hsp (by omega)
  have i0 : (zs.length : Int) ≤ 1000 := by omega
  have i1 : (a : Int) + (n : Int) ≤ (zs.length : Int) := by omega
  obtain ⟨L, hL⟩ : ∃ L, L = (zs.drop a).take n := ⟨_, rfl⟩
  have hLl : L.length = n := by rw [hL, List.length_take, List.length_drop]; omega
  have hLg : ∀ j, j < n → L.getD j 0 = zs.getD (a + j) 0 := fun j hj => by
    rw [hL, List.getD_eq_getElem?_getD, List.getElem?_take, if_pos hj, List.getElem?_drop, ← List.getD_eq_getElem?_getD]
  rw [← hL]
  replace hL := hid hL
  go_enter Tryd.func36, Tryd.ntmps36
  go_wp2
  go_loopw [7, 8] (fun xv iv wr => ∃ i : Nat, i ≤ n ∧ iv = .int .i64 ((i : Int) - 1) ∧ xv = .int .i64 (le (L.drop i)) ∧ (i < n → le (L.drop (i + 1)) ≤ 35184372088832) ∧ Below w.heap.size w wr) (fun _ iv _ => ((intOf iv) + 1).toNat)
  case atStart => exact ⟨n, Nat.le_refl _, by go_num, by rw [List.drop_of_length_le (by omega)]; rfl, fun h => by omega, Below.refl _ _⟩
  case round =>
    obtain ⟨i, hi, rfl, rfl, hlast, hB⟩ := hrel
    by_cases h0 : i = 0
    · subst h0
      have HF := hid (show rdF L = (le (L.drop 0) : Int) by
        unfold rdF
        rw [if_neg (by have h9 : le (L.drop 1) ≤ 35184372088832 := hlast (by omega); omega), List.drop_zero])
      clear hlast
      rw [show ((0 : Nat) : Int) - 1 = -1 from rfl]
      generalize le (L.drop 0) = V at *
      go_wp2
      go_ret
      exact ⟨by rw [HF.out]; rfl, hB⟩
    · obtain ⟨j, rfl⟩ : ∃ j, i = j + 1 := ⟨i - 1, by omega⟩
      have ej : ((j + 1 : Nat) : Int) - 1 = (j : Int) := by omega
      rw [ej]
      by_cases hbig : 35184372088832 < le (L.drop (j + 1))
      · have HF := hid (show rdF L = -1 by
          unfold rdF
          rw [if_pos]
          have := le_drop_le L 1 j
          rw [Nat.add_comm 1 j] at this
          omega)
        have i5 : (35184372088832 : Int) < (le (L.drop (j + 1)) : Int) := by omega
        clear hlast
        generalize le (L.drop (j + 1)) = V at *
        go_wp2
        go_ret
        exact ⟨by rw [HF.out]; rfl, hB⟩
      · have hd := le_drop L j (by omega)
        rw [hLg j (by omega)] at hd
        have c0 := (hB.cell (p := ⟨b, o + (a + j), none⟩) (hb (by omega))).trans (hsrc (a + j) (by omega))
        have hx : 0 ≤ zs.getD (a + j) 0 ∧ zs.getD (a + j) 0 < 256 := h8 _ (by rw [List.getD_eq_getElem?_getD, List.getElem?_eq_getElem (by omega)]; exact List.getElem_mem _)
        obtain ⟨x, hxx⟩ := Int.eq_ofNat_of_zero_le hx.1
        rw [hxx] at c0 hd hx
        rw [Int.toNat_natCast] at hd
        have HD := hid hd
        have HB' := hid (show le (L.drop (j + 1)) ≤ 35184372088832 by omega)
        have i5 : ¬ ((35184372088832 : Int) < (le (L.drop (j + 1)) : Int)) := by omega
        have i6 : (a : Int) + (j : Int) < (zs.length : Int) := by omega
        have x2 : (x : Int) < 256 := hx.2
        clear hd hxx hx hlast hbig
        generalize hV : le (L.drop (j + 1)) = V at *
        replace hV := hid hV
        have i7 : (V : Int) ≤ 35184372088832 := by omega
        go_wp2
        go_roundw
        case rel => exact ⟨j, by omega, by go_num, by rw [HD.out]; go_num, fun _ => by rw [hV.out]; exact HB'.out, hB⟩
        case measure => simp [intOf] <;> try omega
end Go.Proofs.YtaoongjdneaccaaDoor
