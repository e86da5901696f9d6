import Derived.Test.YtaoongjdneaccaaDoorO3
namespace Go.Proofs.YtaoongjdneaccaaDoor
set_option linter.unusedVariables false
set_option linter.unusedSimpArgs false
open Go.RowKit
attribute [local go_sem ↓] Go.wp_at_zero Go.wp_at_succ

theorem rd4 (L : List Int) (h8 : Byts L) (h : L.length = 4) : rdF L = (le L : Int) := by
  have h1 := le_lt (L.drop 1) (h8.drop 1)
  rw [List.length_drop, h] at h1
  unfold rdF
  rw [if_neg (by omega)]
set_option maxRecDepth 100000 in
set_option maxHeartbeats 1000000 in
theorem qUnpack_ok (w : World) (hG : Gl w) (p : Int) (r : List Int) (h8 : Byts r) (hp : placeOk p = true) (hl : r.length = 256) (hC : feed ones r = CR) (sp : Option Addr) (cap : Nat) (hS : Src w sp cap r) :
    Calls Tryd.prog 16 #[.int .i64 p, .slice sp 256 cap] w fun e w' => ∃ v, e = .returned (.tuple #[.int .i64 (unpackF p r).1, v, .int .i64 (unpackF p r).2.2]) ∧ Own w' w.heap.size v (unpackF p r).2.1 ∧ Below w.heap.size w w' := by
  have hS' := hS
  obtain ⟨hc, hm, b, o, hb, hsp, hsrc⟩ := hS
  obtain rfl := hsp (by omega)
  replace hb := hb (by omega)
  have i1 : 256 ≤ cap := by omega
  have i2 : (256 : Int) ≤ (cap : Int) := by omega
  obtain ⟨p1, p2⟩ := (placeOk_iff p).1 hp
  have hw := rwhole_L w hG r h8 (by omega) (by omega) (some ⟨b, o, none⟩) cap hS'
  rw [hl, show decide (feed ones r = CR) = true by simpa using hC] at hw
  have HL := hid hl
  have g0 := h8 (r.getD 0 0) (by rw [List.getD_eq_getElem?_getD, List.getElem?_eq_getElem (by omega)]; exact List.getElem_mem _)
  have g1 := h8 (r.getD 1 0) (by rw [List.getD_eq_getElem?_getD, List.getElem?_eq_getElem (by omega)]; exact List.getElem_mem _)
  have HU := hid (show unpackF p r = (if kindOk (r.getD 0 0) = false then (0, [], 50) else if 246 < r.getD 1 0 then (0, [], 51)
  else if (le ((r.drop 2).take 4) : Int) ≠ p then (0, [], 54)
  else if (r.drop (6 + (r.getD 1 0).toNat)).take (246 - (r.getD 1 0).toNat) ≠ List.replicate (246 - (r.getD 1 0).toNat) 0 then (0, [], 53)
  else (r.getD 0 0, (r.drop 6).take (r.getD 1 0).toNat, 0)) by
    rw [unpackF, if_neg (by simp [hp]), if_neg (by simp [hl]), if_neg (by simp [hC])])
  have c0' := hsrc 0 (by omega)
  have c1' := hsrc 1 (by omega)
  rw [Nat.add_zero] at c0'
  have h24 : ((r.drop 2).take 4).length = 4 := by simp [hl]
  obtain ⟨k, hk⟩ : ∃ k, k = r.getD 0 0 := ⟨_, rfl⟩
  obtain ⟨n, hn⟩ : ∃ n : Nat, (n : Int) = r.getD 1 0 := ⟨(r.getD 1 0).toNat, by omega⟩
  rw [← hk] at g0 HU c0'
  rw [← hn] at g1 HU c1'
  rw [Int.toNat_natCast] at HU
  clear hk hn hp hC
  obtain ⟨g00, g01⟩ := g0
  obtain ⟨g10, g11⟩ := g1
  go_enter Tryd.func16, Tryd.ntmps16
  clear hl
  go_wp2_with fail
  refine hw.mono ?_
  rintro e w2 ⟨rfl, b2⟩
  have c0 := (b2.cell (p := ⟨b, o, none⟩) hb).trans c0'
  have c1 := (b2.cell (p := ⟨b, o + 1, none⟩) hb).trans c1'
  have hb2 : b < w2.heap.size := Nat.lt_of_lt_of_le hb b2.size
  have hS2 := hS'.below b2 (Nat.le_refl _)
  clear c0' c1' hw hsrc
  have kc : k < 1 ∨ (1 ≤ k ∧ 3 < k) ∨ (1 ≤ k ∧ k ≤ 3) := by omega
  rcases kc with q1 | ⟨q1, q2⟩ | ⟨q1, q2⟩
  · have HF := hid (show unpackF p r = (0, [], 50) by rw [HU.out, if_pos (by simp [kindOk]; omega)])
    clear HU
    go_wp2
    go_ret3
    exact ⟨_, by rw [HF.out]; rfl, by rw [HF.out]; exact Own.nil _ _, b2⟩
  · have HF := hid (show unpackF p r = (0, [], 50) by rw [HU.out, if_pos (by simp [kindOk]; omega)])
    clear HU
    go_wp2
    go_ret3
    exact ⟨_, by rw [HF.out]; rfl, by rw [HF.out]; exact Own.nil _ _, b2⟩
  have HK := hid ((kindOk_iff k).2 ⟨q1, q2⟩)
  by_cases hn : 246 < n
  · have HF := hid (show unpackF p r = (0, [], 51) by rw [HU.out, if_neg (by simp [HK.out]), if_pos (by omega)])
    clear HU
    have i3 : (246 : Int) < (n : Int) := by omega
    go_wp2
    go_ret3
    exact ⟨_, by rw [HF.out]; rfl, by rw [HF.out]; exact Own.nil _ _, b2⟩
  have i3 : (n : Int) ≤ 246 := by omega
  have hrd := qread_any w2 r h8 (some ⟨b, o, none⟩) cap hS2 2 4 (by have := HL.out; omega) (by have := HL.out; omega) (by omega)
  rw [rd4 _ ((h8.drop 2).take 4) h24, HL.out] at hrd
  have hlt4 := le_lt ((r.drop 2).take 4) ((h8.drop 2).take 4)
  rw [h24] at hlt4
  go_wp2_with fail
  refine hrd.mono ?_
  rintro e w5 ⟨rfl, b5⟩
  have b5' := b2.trans (b5.mono b2.size)
  have hS5 := hS2.below b5 (Nat.le_refl _)
  have hb5 : b < w5.heap.size := Nat.lt_of_lt_of_le hb2 b5.size
  clear hrd b5 b2 hS2 hb2 c0 c1
  obtain ⟨q, hq⟩ : ∃ q : Int, q = (le ((r.drop 2).take 4) : Int) := ⟨_, rfl⟩
  rw [← hq] at HU ⊢
  clear hq hlt4
  by_cases hqp : q = p
  · subst hqp
    have i4 : (n : Int) + 6 ≤ 252 := by omega
    have hz := qzeros_any w5 r (some ⟨b, o, none⟩) cap hS5 (6 + n) (246 - n) (by have := HL.out; omega) (by have := HL.out; omega) (6 + (n : Int)) 252 (by omega) (by omega)
    rw [HL.out] at hz
    go_wp2_with fail
    refine hz.mono ?_
    rintro e w6 ⟨rfl, b6⟩
    have b6' := b5'.trans (b6.mono b5'.size)
    have hS6 := hS5.below b6 (Nat.le_refl _)
    have hb6 : b < w6.heap.size := Nat.lt_of_lt_of_le hb5 b6.size
    clear hz b6 b5' hS5 hb5
    by_cases hzz : (r.drop (6 + n)).take (246 - n) = List.replicate (246 - n) 0
    · have HF := hid (show unpackF q r = (k, (r.drop 6).take n, 0) by rw [HU.out, if_neg (by simp [HK.out]), if_neg (by omega), if_neg (by simp), if_neg (by simp [hzz])])
      rw [show (decide ((r.drop (6 + n)).take (246 - n) = List.replicate (246 - n) 0)) = true by simpa using hzz]
      clear HU hzz
      have hl6 : ((r.drop 6).take n).length = n := by have := HL.out; simp; omega
      have hfl := qfilled_any w6 ((r.drop 6).take n) (some ⟨b, o + 6, none⟩) (cap - 6) (hS6.mid 6 n (by have := HL.out; omega) hb6 _ (by omega) (by omega)) n (by omega)
      rw [show fillF ((r.drop 6).take n) n = (r.drop 6).take n by unfold fillF; rw [List.take_of_length_le (by omega), hl6, Nat.sub_self, List.replicate_zero, List.append_nil], hl6] at hfl
      clear hl6
      go_wp2_with fail
      refine hfl.mono ?_
      rintro e w7 ⟨v, rfl, hO, b7⟩
      have b7' := b6'.trans (b7.mono b6'.size)
      have hO' : Own w7 w.heap.size v ((r.drop 6).take n) := hO.base b6'.size
      clear hfl hO b7 b6' hS6
      go_wp2
      go_ret3
      exact ⟨_, by rw [HF.out]; rfl, by rw [HF.out]; exact hO', b7'⟩
    · have HF := hid (show unpackF q r = (0, [], 53) by rw [HU.out, if_neg (by simp [HK.out]), if_neg (by omega), if_neg (by simp), if_pos hzz])
      rw [show (decide ((r.drop (6 + n)).take (246 - n) = List.replicate (246 - n) 0)) = false by simpa using hzz]
      clear HU hzz
      go_wp2
      go_ret3
      exact ⟨_, by rw [HF.out]; rfl, by rw [HF.out]; exact Own.nil _ _, b6'⟩
  · have HF := hid (show unpackF p r = (0, [], 54) by rw [HU.out, if_neg (by simp [HK.out]), if_neg (by omega), if_pos hqp])
    clear HU
    have hqp2 : (q != p) = true := by simpa using hqp
    clear hqp
    go_wp2
    go_ret3
    exact ⟨_, by rw [HF.out]; rfl, by rw [HF.out]; exact Own.nil _ _, b5'⟩
set_option maxRecDepth 100000 in
set_option maxHeartbeats 400000 in
theorem qUnpack_any (w : World) (hG : Gl w) (p : Int) (r : List Int) (h8 : Byts r) (sp : Option Addr) (cap : Nat) (hS : Src w sp cap r) :
    Calls Tryd.prog 16 #[.int .i64 p, .slice sp r.length cap] w fun e w' => ∃ v, e = .returned (.tuple #[.int .i64 (unpackF p r).1, v, .int .i64 (unpackF p r).2.2]) ∧ Own w' w.heap.size v (unpackF p r).2.1 ∧ Below w.heap.size w w' := by
  have hlm : (r.length : Int) ≤ 9223372036854775807 := by have := hS.1; have := hS.2.1; unfold maxLen at this; omega
  have pc : p < 2 ∨ (2 ≤ p ∧ 4096 ≤ p) ∨ (2 ≤ p ∧ p < 4096) := by omega
  rcases pc with d1 | ⟨d1, d2⟩ | ⟨d1, d2⟩
  · have HF := hid (show unpackF p r = (0, [], 54) by rw [unpackF, if_pos (by simp [placeOk]; omega)])
    clear hS
    go_enter Tryd.func16, Tryd.ntmps16
    go_wp2
    go_ret3
    exact ⟨_, by rw [HF.out]; rfl, by rw [HF.out]; exact Own.nil _ _, Below.refl _ _⟩
  · have HF := hid (show unpackF p r = (0, [], 54) by rw [unpackF, if_pos (by simp [placeOk]; omega)])
    clear hS
    go_enter Tryd.func16, Tryd.ntmps16
    go_wp2
    go_ret3
    exact ⟨_, by rw [HF.out]; rfl, by rw [HF.out]; exact Own.nil _ _, Below.refl _ _⟩
  have hp := (placeOk_iff p).2 ⟨d1, d2⟩
  by_cases hl : r.length = 256
  · by_cases hC : feed ones r = CR
    · rw [hl]; exact qUnpack_ok w hG p r h8 hp hl hC sp cap hS
    · have HF := hid (unpack_sum p r hp hl hC)
      have hw := rwhole_L w hG r h8 (by omega) (by omega) sp cap hS
      rw [show decide (feed ones r = CR) = false by simpa using hC] at hw
      rw [hl] at hw ⊢
      clear hS hl hlm hC hp
      go_enter Tryd.func16, Tryd.ntmps16
      go_wp2_with fail
      refine hw.mono ?_
      rintro e w2 ⟨rfl, b2⟩
      go_wp2
      go_ret3
      exact ⟨_, by rw [HF.out]; rfl, by rw [HF.out]; exact Own.nil _ _, b2⟩
  · have HF := hid (show unpackF p r = (0, [], 53) by rw [unpackF, if_neg (by simp [hp]), if_pos hl])
    have hl2 : ((r.length : Int) != 256) = true := by simp; omega
    clear hS hl hp
    go_enter Tryd.func16, Tryd.ntmps16
    go_wp2
    go_ret3
    exact ⟨_, by rw [HF.out]; rfl, by rw [HF.out]; exact Own.nil _ _, Below.refl _ _⟩
end Go.Proofs.YtaoongjdneaccaaDoor
