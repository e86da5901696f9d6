import Derived.Test.YtbmjegcnfokagacDoorWa
namespace Go.Proofs.YtbmjegcnfokagacDoor
set_option linter.unusedVariables false
set_option linter.unusedSimpArgs false
open Go.RowKit
attribute [local go_sem ↓] Go.wp_at_zero Go.wp_at_succ

/-- Where a slice lies that is older than block g. -/
theorem src_at {w w' : World} {sp : Option Addr} {cap g : Nat} {zs : List Int} (h : Src w sp cap zs) (hg : w.heap.size ≤ g) (hb : Below w.heap.size w w') : ∃ b o, b ≠ g ∧ (0 < zs.length → sp = some ⟨b, o, none⟩) ∧ ∀ j, j < zs.length → w'.cell? ⟨b, o + j, none⟩ = some (.int .u8 (zs.getD j 0)) := by
  obtain ⟨_, _, b, o, h3, h4, h5⟩ := h
  by_cases hp : 0 < zs.length
  · exact ⟨b, o, by have := h3 hp; omega, h4, fun j hj => (hb.cell (p := ⟨b, o + j, none⟩) (h3 hp)).trans (h5 j hj)⟩
  · exact ⟨g + 1, 0, by omega, fun h => absurd h hp, fun j hj => by omega⟩

/-- Is a text whole? -/
def whF (zs : List Int) : Bool := if zs.length < 4 then false else decide (sbF (sumF (zs.take (zs.length - 4))) = zs.drop (zs.length - 4))
theorem whF_seal (zs : List Int) : whF (sealF zs) = true := by
  unfold whF
  rw [sealF_len, if_neg (by omega), show zs.length + 4 - 4 = zs.length by omega, sealF, List.take_left, List.drop_left]
  exact decide_eq_true rfl
theorem whole_Z (w : World) (L : List Int) (h8 : Byts L) (sp : Option Addr) (cap : Nat) (hS : Src w sp cap L) :
    Calls Tryd.prog 15 #[.slice sp L.length cap] w fun e w' => e = .returned (.bool (whF L)) ∧ Below w.heap.size w w' := by
  unfold whF
  by_cases h4 : L.length < 4
  · rw [if_pos h4]; exact whole_short w L sp cap h4
  · rw [if_neg h4]
    have e := List.take_append_drop (L.length - 4) L
    have hy : (L.drop (L.length - 4)).length = 4 := by rw [List.length_drop]; omega
    have hl : (L.take (L.length - 4)).length + 4 = L.length := by rw [List.length_take]; omega
    have := whole_any w (L.take (L.length - 4)) (L.drop (L.length - 4)) (by rw [e]; exact h8) hy sp cap (by rw [e]; exact hS)
    rw [hl] at this
    exact this
theorem rwhole_Z (w : World) (hG : Gl w) (L : List Int) (h8 : Byts L) (sp : Option Addr) (cap : Nat) (hS : Src w sp cap L) (hlen : L.length ≤ 1048576) :
    Calls Tryd.prog 16 #[.slice sp L.length cap] w fun e w' => e = .returned (.bool (whF L)) ∧ Below w.heap.size w w' := by
  unfold whF
  by_cases h4 : L.length < 4
  · rw [if_pos h4]; exact rwhole_short w L sp cap h4
  · rw [if_neg h4]
    have e := List.take_append_drop (L.length - 4) L
    have hy : (L.drop (L.length - 4)).length = 4 := by rw [List.length_drop]; omega
    have hl : (L.take (L.length - 4)).length + 4 = L.length := by rw [List.length_take]; omega
    have := rwhole_any w hG (L.take (L.length - 4)) (L.drop (L.length - 4)) (by rw [e]; exact h8) hy sp cap (by rw [e]; exact hS) (by rw [List.length_take]; omega)
    rw [hl] at this
    exact this

set_option maxRecDepth 100000 in
set_option maxHeartbeats 2000000 in
theorem wholes_any (w : World) (hG : Gl w) (zs : List Int) (h8 : Byts zs) (sp : Option Addr) (cap : Nat) (hS : Src w sp cap zs) (hlen : zs.length ≤ 1048576) :
    Calls Tryd.prog 4 #[.slice sp zs.length cap] w fun e w' => e = .returned (.bool true) ∧ Below w.heap.size w w' := by
  have hw0 := hG.1
  have i0 : (zs.length : Int) ≤ 1048576 := by omega
  go_enter Tryd.func4, Tryd.ntmps4
  go_wp2_with fail
  refine (copied_any w zs sp cap hS (by omega)).mono ?_
  rintro e w1 ⟨v, rfl, hO1, b1⟩
  obtain ⟨tp, tc, rfl, hT1, _⟩ := hO1.form
  go_wp2_with fail
  refine (middle_any w1 zs h8 tp tc hT1 hlen).mono ?_
  rintro e w2 ⟨v, rfl, hO2, b2⟩
  have hvl := midF_len zs
  have v8 := midF_byts h8
  generalize midF zs = vs at *
  obtain ⟨vp, vc, rfl, hV, _⟩ := hO2.form
  have hT := hT1.below b2 (Nat.le_refl _)
  have B2 := b1.trans (b2.mono b1.size)
  have D2 := Below.refl w2.heap.size w2
  clear hO1 hT1 b1 b2 hO2
  have HVL := hid hvl
  rw [HVL.out]
  go_wp2_with fail
  refine (roomy_any w2 zs tp tc hT hlen).mono ?_
  rintro e w3 ⟨g, uc, rest, rfl, hg2, I3, huc, hum, b3⟩
  have hg0 : w.heap.size ≤ g := Nat.le_trans B2.size hg2
  have B3 := B2.trans (b3.mono B2.size)
  have D3 := D2.trans (b3.mono D2.size)
  clear b3 B2 D2
  have qz : ∀ b : Bool, (b != b) = false := fun b => by simp
  have qz2 : ∀ b : Bool, (b == b) = true := fun b => by simp
  go_wp2_with fail
  refine (whole_Z w3 zs h8 (some ⟨g, 0, none⟩) uc (I3.head uc (by omega) hum)).mono ?_
  rintro e w4 ⟨rfl, b4⟩
  have B4 := B3.trans (b4.mono B3.size)
  have D4 := D3.trans (b4.mono D3.size)
  have I4 : In w4 g rest (zs ++ t120) := hbel b4 I3 (hlt I3)
  clear b4 B3 D3 I3
  go_wp2_with fail
  refine (rwhole_Z w4 (hG.below B4 hw0) zs h8 tp tc (hT.below D4 (Nat.le_refl _)) (by omega)).mono ?_
  rintro e w5 ⟨rfl, b5⟩
  have B5 := B4.trans (b5.mono B4.size)
  have D5 := D4.trans (b5.mono D4.size)
  have I5 : In w5 g rest (zs ++ t120) := hbel b5 I4 (hlt I4)
  clear b5 B4 D4 I4
  go_wp2_with fail
  refine (left_any w5 zs g uc rest I5 (by omega) hum tp tc (hT.below D5 (Nat.le_refl _)) (by omega)).mono ?_
  rintro e w6 ⟨rfl, b6⟩
  have B6 := B5.trans (b6.mono B5.size)
  have D6 := D5.trans (b6.mono D5.size)
  have I6 : In w6 g rest (zs ++ t120) := hbel b6 I5 (hlt I5)
  clear b6 B5 D5 I5
  go_wp2_with fail
  obtain ⟨bq7', oq7', r17, r27, r37⟩ := src_at hV hg2 D6
  have P7 := place_any w6 zs vs g uc rest I6 (by omega) bq7' oq7' vp vc r17 r27 r37 (by omega)
  refine P7.mono ?_
  rintro e w7 ⟨rfl, I7, k7⟩
  have B7 := B6.trans (k7.below_g hg0 B6.size)
  have D7 := D6.trans (k7.below_g hg2 D6.size)
  clear P7 k7 r17 r27 r37 B6 D6 I6
  go_wp2_with fail
  have C8 := whole_Z w7 vs v8 (some ⟨g, 0, none⟩) uc (I7.head uc (by omega) hum)
  rw [HVL.out] at C8
  refine C8.mono ?_
  rintro e w8 ⟨rfl, b8⟩
  clear C8
  have B8 := B7.trans (b8.mono B7.size)
  have D8 := D7.trans (b8.mono D7.size)
  have I8 : In w8 g rest (vs ++ t120) := hbel b8 I7 (hlt I7)
  clear b8 B7 D7 I7
  go_wp2_with fail
  have C9 := rwhole_Z w8 (hG.below B8 hw0) vs v8 vp vc (hV.below D8 (Nat.le_refl _)) (by omega)
  rw [HVL.out] at C9
  refine C9.mono ?_
  rintro e w9 ⟨rfl, b9⟩
  clear C9
  have B9 := B8.trans (b9.mono B8.size)
  have D9 := D8.trans (b9.mono D8.size)
  have I9 : In w9 g rest (vs ++ t120) := hbel b9 I8 (hlt I8)
  clear b9 B8 D8 I8
  go_wp2_with fail
  have C10 := left_any w9 vs g uc rest I9 (by omega) hum vp vc (hV.below D9 (Nat.le_refl _)) (by omega)
  rw [HVL.out] at C10
  refine C10.mono ?_
  rintro e w10 ⟨rfl, b10⟩
  clear C10
  have B10 := B9.trans (b10.mono B9.size)
  have D10 := D9.trans (b10.mono D9.size)
  have I10 : In w10 g rest (vs ++ t120) := hbel b10 I9 (hlt I9)
  clear b10 B9 D9 I9
  go_wp2_with fail
  obtain ⟨bq11', oq11', r111, r211, r311⟩ := src_at hT hg2 D10
  have P11 := place_any w10 vs zs g uc rest I10 (by omega) bq11' oq11' tp tc r111 r211 r311 (by omega)
  rw [hvl] at P11
  refine P11.mono ?_
  rintro e w11 ⟨rfl, I11, k11⟩
  have B11 := B10.trans (k11.below_g hg0 B10.size)
  have D11 := D10.trans (k11.below_g hg2 D10.size)
  clear P11 k11 r111 r211 r311 B10 D10 I10
  go_wp2_with fail
  refine (whole_Z w11 zs h8 (some ⟨g, 0, none⟩) uc (I11.head uc (by omega) hum)).mono ?_
  rintro e w12 ⟨rfl, b12⟩
  have B12 := B11.trans (b12.mono B11.size)
  have D12 := D11.trans (b12.mono D11.size)
  have I12 : In w12 g rest (zs ++ t120) := hbel b12 I11 (hlt I11)
  clear b12 B11 D11 I11
  go_wp2_with fail
  refine (rwhole_Z w12 (hG.below B12 hw0) zs h8 tp tc (hT.below D12 (Nat.le_refl _)) (by omega)).mono ?_
  rintro e w13 ⟨rfl, b13⟩
  have B13 := B12.trans (b13.mono B12.size)
  have D13 := D12.trans (b13.mono D12.size)
  have I13 : In w13 g rest (zs ++ t120) := hbel b13 I12 (hlt I12)
  clear b13 B12 D12 I12
  go_wp2_with fail
  refine (left_any w13 zs g uc rest I13 (by omega) hum tp tc (hT.below D13 (Nat.le_refl _)) (by omega)).mono ?_
  rintro e w14 ⟨rfl, b14⟩
  have B14 := B13.trans (b14.mono B13.size)
  have D14 := D13.trans (b14.mono D13.size)
  have I14 : In w14 g rest (zs ++ t120) := hbel b14 I13 (hlt I13)
  clear b14 B13 D13 I13
  go_wp2_with fail
  refine (seal_any w14 zs h8 (some ⟨g, 0, none⟩) uc (I14.head uc (by omega) hum) (by omega)).mono ?_
  rintro e w15 ⟨rfl, r15, b15⟩
  have B15 := B14.trans (b15.mono B14.size)
  have s15 := src_rowf r15 (sealF zs).length (Nat.le_refl _) (by rw [sealF_len]; unfold maxLen; omega)
  have C15 := whole_Z w15 (sealF zs) (sealF_byts h8) _ _ s15
  rw [whF_seal zs, sealF_len] at C15
  go_wp2_with fail
  refine C15.mono ?_
  rintro e w16 ⟨rfl, b16⟩
  have B16 := B15.trans (b16.mono B15.size)
  go_wp2
  go_ret
  exact ⟨rfl, B16⟩
end Go.Proofs.YtbmjegcnfokagacDoor
