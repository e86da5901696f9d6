import Derived.Test.YtaoongjdneaccaaDoorO2
namespace Go.Proofs.YtaoongjdneaccaaDoor
set_option linter.unusedVariables false
set_option linter.unusedSimpArgs false
open Go.RowKit
attribute [local go_sem ↓] Go.wp_at_zero Go.wp_at_succ

theorem fill_body (k p : Int) (l : List Int) (h : l.length ≤ 246) : fillF ([k, (l.length : Int)] ++ num p 4 ++ l) 252 = bodyP k p l := by
  unfold fillF bodyP
  have hl : ([k, (l.length : Int)] ++ num p 4 ++ l).length = 6 + l.length := by simp [num_len]; omega
  rw [List.take_of_length_le (by omega), hl, show 252 - (6 + l.length) = 246 - l.length by omega]
set_option maxRecDepth 100000 in
set_option maxHeartbeats 1000000 in
theorem qPage_any (w : World) (hG : Gl w) (k p : Int) (hk : 1 ≤ k ∧ k ≤ 3) (hp : 2 ≤ p ∧ p < 4096) (l : List Int) (h8 : Byts l) (hl : l.length ≤ 246) (sp : Option Addr) (cap : Nat) (hS : Src w sp cap l) :
    Calls Tryd.prog 30 #[.int .i64 k, .int .i64 p, .slice sp l.length cap] w fun e w' => ∃ u, e = .returned u ∧ Own w' w.heap.size u (pageP k p l) ∧ Below w.heap.size w w' := by
  have k1 := hk.1
  have k2 := hk.2
  have j3 : (l.length : Int) ≤ 246 := by omega
  have r1 : (w.alloc (.cells #[.int .u8 k, .int .u8 (l.length : Int)] 5)).heap[w.heap.size]? = some (.cells (ints .u8 [k, (l.length : Int)]).toArray 5 (0, 0)) := hnew w _
  have B := below_new w (.cells #[.int .u8 k, .int .u8 (l.length : Int)] 5)
  have s1 := src_rowf r1 2 (by simp) (by decide)
  have hS1 := hS.below B (Nat.le_refl _)
  go_enter Tryd.func30, Tryd.ntmps30
  go_wp2_with fail
  generalize w.alloc (.cells #[.int .u8 k, .int .u8 (l.length : Int)] 5) = w1 at *
  refine (qlaid_any w1 p (by omega) (by omega) 4 (by omega)).mono ?_
  rintro e w2 ⟨v2, rfl, hO2, b2⟩
  obtain ⟨ap, ac, rfl, ha2, _⟩ := hO2.form
  have hs2 := s1.below b2 (Nat.le_refl _)
  have hS2 := hS1.below b2 (Nat.le_refl _)
  have B2 := B.trans (b2.mono B.size)
  clear b2 B hO2 s1 hS1 r1
  have hj := qjoined_any w2 [k, (l.length : Int)] (num p 4) _ _ _ _ hs2 ha2 (by simp [num_len])
  rw [num_len] at hj
  rw [num_len]
  go_wp2_with fail
  refine hj.mono ?_
  rintro e w3 ⟨v3, rfl, hO3, b3⟩
  obtain ⟨bp, bc, rfl, hb3, _⟩ := hO3.form
  have hS3 := hS2.below b3 (Nat.le_refl _)
  have B3 := B2.trans (b3.mono B2.size)
  clear b3 B2 hO3 hj hs2 ha2 hS2
  have hlen3 : ([k, (l.length : Int)] ++ num p 4).length = 6 := by simp [num_len]
  rw [hlen3]
  have hj := qjoined_any w3 ([k, (l.length : Int)] ++ num p 4) l _ _ _ _ hb3 hS3 (by omega)
  rw [hlen3] at hj
  go_wp2_with fail
  refine hj.mono ?_
  rintro e w4 ⟨v4, rfl, hO4, b4⟩
  obtain ⟨cp, cc, rfl, hc4, _⟩ := hO4.form
  have B4 := B3.trans (b4.mono B3.size)
  clear b4 B3 hO4 hj hb3 hS3
  have hf := qfilled_any w4 ([k, (l.length : Int)] ++ num p 4 ++ l) cp cc hc4 252 (by omega)
  rw [fill_body k p l hl, show ((252 : Nat) : Int) = 252 from rfl] at hf
  generalize hlen4 : ([k, (l.length : Int)] ++ num p 4 ++ l).length = n4 at *
  replace hlen4 := hid hlen4
  go_wp2_with fail
  refine hf.mono ?_
  rintro e w5 ⟨v5, rfl, hO5, b5⟩
  obtain ⟨dp, dc, rfl, hd5, _⟩ := hO5.form
  have B5 := B4.trans (b5.mono B4.size)
  have hG5 : Gl w5 := hG.below B5 hG.1
  clear b5 B4 hO5 hf hc4
  have hbl := bodyP_len k p l hl
  have hs := rseal_any w5 hG5 (bodyP k p l) (bodyP_byts k p l (by omega) hl h8) dp dc hd5 (by omega)
  rw [hbl] at hs
  go_wp2_with fail
  refine hs.mono ?_
  rintro e w6 ⟨v6, rfl, hO6, b6⟩
  have B6 := B5.trans (b6.mono B5.size)
  have hO6' : Own w6 w.heap.size v6 (pageP k p l) := hO6.base B5.size
  clear b6 B5 hs hd5 hO6
  go_wp2
  go_ret
  exact ⟨_, rfl, hO6', B6⟩
set_option maxRecDepth 100000 in
set_option maxHeartbeats 1000000 in
theorem qPack_any (w : World) (hG : Gl w) (k p : Int) (l : List Int) (h8 : Byts l) (sp : Option Addr) (cap : Nat) (hS : Src w sp cap l) :
    Calls Tryd.prog 14 #[.int .i64 k, .int .i64 p, .slice sp l.length cap] w fun e w' => ∃ u, e = .returned (.tuple #[u, .int .i64 (packF k p l).2]) ∧ Own w' w.heap.size u (packF k p l).1 ∧ Below w.heap.size w w' := by
  have hlm : (l.length : Int) ≤ 9223372036854775807 := by have := hS.1; have := hS.2.1; unfold maxLen at this; omega
  have bad : ∀ E : Int, packF k p l = ([], E) → True := fun _ _ => trivial
  have kc : k < 1 ∨ (1 ≤ k ∧ 3 < k) ∨ (1 ≤ k ∧ k ≤ 3) := by omega
  rcases kc with c1 | ⟨c1, c2⟩ | ⟨c1, c2⟩
  · have HF := hid (show packF k p l = ([], 50) by rw [packF, if_pos (by simp [kindOk]; omega)])
    go_enter Tryd.func14, Tryd.ntmps14
    go_wp2
    go_ret2
    exact ⟨_, by rw [HF.out]; rfl, by rw [HF.out]; exact Own.nil _ _, Below.refl _ _⟩
  · have HF := hid (show packF k p l = ([], 50) by rw [packF, if_pos (by simp [kindOk]; omega)])
    go_enter Tryd.func14, Tryd.ntmps14
    go_wp2
    go_ret2
    exact ⟨_, by rw [HF.out]; rfl, by rw [HF.out]; exact Own.nil _ _, Below.refl _ _⟩
  have hk := (kindOk_iff k).2 ⟨c1, c2⟩
  have pc : p < 2 ∨ (2 ≤ p ∧ 4096 ≤ p) ∨ (2 ≤ p ∧ p < 4096) := by omega
  rcases pc with d1 | ⟨d1, d2⟩ | ⟨d1, d2⟩
  · have HF := hid (show packF k p l = ([], 54) by rw [packF, if_neg (by simp [hk]), if_pos (by simp [placeOk]; omega)])
    clear hk
    go_enter Tryd.func14, Tryd.ntmps14
    go_wp2
    go_ret2
    exact ⟨_, by rw [HF.out]; rfl, by rw [HF.out]; exact Own.nil _ _, Below.refl _ _⟩
  · have HF := hid (show packF k p l = ([], 54) by rw [packF, if_neg (by simp [hk]), if_pos (by simp [placeOk]; omega)])
    clear hk
    go_enter Tryd.func14, Tryd.ntmps14
    go_wp2
    go_ret2
    exact ⟨_, by rw [HF.out]; rfl, by rw [HF.out]; exact Own.nil _ _, Below.refl _ _⟩
  have hp := (placeOk_iff p).2 ⟨d1, d2⟩
  by_cases hl : l.length ≤ 246
  · have HF := hid (show packF k p l = (pageP k p l, 0) by rw [packF, if_neg (by simp [hk]), if_neg (by simp [hp]), if_neg (by omega)])
    have i1 : ¬ ((246 : Int) < (l.length : Int)) := by omega
    clear hk hp
    go_enter Tryd.func14, Tryd.ntmps14
    go_wp2_with fail
    refine (qPage_any w hG k p ⟨c1, c2⟩ ⟨d1, d2⟩ l h8 hl sp cap hS).mono ?_
    rintro e w1 ⟨u, rfl, hO, hB⟩
    go_wp2
    go_ret2
    exact ⟨_, by rw [HF.out]; rfl, by rw [HF.out]; exact hO, hB⟩
  · have HF := hid (show packF k p l = ([], 51) by rw [packF, if_neg (by simp [hk]), if_neg (by simp [hp]), if_pos (by omega)])
    have i1 : (246 : Int) < (l.length : Int) := by omega
    clear hk hp hl
    go_enter Tryd.func14, Tryd.ntmps14
    go_wp2
    go_ret2
    exact ⟨_, by rw [HF.out]; rfl, by rw [HF.out]; exact Own.nil _ _, Below.refl _ _⟩
end Go.Proofs.YtaoongjdneaccaaDoor
