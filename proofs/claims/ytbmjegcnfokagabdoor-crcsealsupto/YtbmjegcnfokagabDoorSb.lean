import Derived.Test.YtbmjegcnfokagabDoorSa
namespace Go.Proofs.YtbmjegcnfokagabDoor
set_option linter.unusedVariables false
set_option linter.unusedSimpArgs false
open Go.RowKit
attribute [local go_sem ↓] Go.wp_at_zero Go.wp_at_succ

/-- Where a slice lies that is older than block g. -/
theorem src_at {w w' : World} {sp : Option Addr} {cap g : Nat} {zs : List Int} (h : Src w sp cap zs) (hg : w.heap.size ≤ g) (hb : Below w.heap.size w w') : ∃ b o, b ≠ g ∧ (0 < zs.length → sp = some ⟨b, o, none⟩) ∧ ∀ j, j < zs.length → w'.cell? ⟨b, o + j, none⟩ = some (.int .u8 (zs.getD j 0)) := by
  obtain ⟨_, _, b, o, h3, h4, h5⟩ := h
  by_cases hp : 0 < zs.length
  · exact ⟨b, o, by have := h3 hp; omega, h4, fun j hj => (hb.cell (p := ⟨b, o + j, none⟩) (h3 hp)).trans (h5 j hj)⟩
  · exact ⟨g + 1, 0, by omega, fun h => absurd h hp, fun j hj => by omega⟩

set_option maxRecDepth 100000 in
set_option maxHeartbeats 2000000 in
theorem seals_any (w : World) (hG : Gl w) (zs : List Int) (h8 : Byts zs) (sp : Option Addr) (cap : Nat) (hS : Src w sp cap zs) (hlen : zs.length ≤ 1048576) :
    Calls Tryd.prog 5 #[.slice sp zs.length cap] w fun e w' => e = .returned (.bool true) ∧ Below w.heap.size w w' := by
  have hw0 := hG.1
  have i0 : (zs.length : Int) ≤ 1048576 := by omega
  go_enter Tryd.func5, Tryd.ntmps5
  go_wp2_with fail
  refine (copied_any w zs sp cap hS (by omega)).mono ?_
  rintro e w1 ⟨v, rfl, hO1, b1⟩
  obtain ⟨tp, tc, rfl, hT1, _⟩ := hO1.form
  go_wp2_with fail
  refine (middle_any w1 zs h8 tp tc hT1 hlen).mono ?_
  rintro e w2 ⟨v, rfl, hO2, b2⟩
  have hvl := midF_len zs
  have v8 := midF_byts h8
  generalize midF zs = vs at *
  obtain ⟨vp, vc, rfl, hV, _⟩ := hO2.form
  have hT := hT1.below b2 (Nat.le_refl _)
  have B2 := b1.trans (b2.mono b1.size)
  have D2 := Below.refl w2.heap.size w2
  clear hO1 hT1 b1 b2 hO2
  have HVL := hid hvl
  rw [HVL.out]
  go_wp2_with fail
  refine (roomy_any w2 zs tp tc hT hlen).mono ?_
  rintro e w3 ⟨g, uc, rest, rfl, hg2, I3, huc, hum, b3⟩
  have hg0 : w.heap.size ≤ g := Nat.le_trans B2.size hg2
  have B3 := B2.trans (b3.mono B2.size)
  have D3 := D2.trans (b3.mono D2.size)
  clear b3 B2 D2
  go_wp2_with fail
  have C4 := seal_any w3 zs h8 (some ⟨g, 0, none⟩) uc (I3.head uc (by omega) hum) (by omega)
  refine C4.mono ?_
  rintro e w4 ⟨rfl, r4, b4⟩
  have B4 := B3.trans (b4.mono B3.size)
  have D4 := D3.trans (b4.mono D3.size)
  have I4 : In w4 g rest (zs ++ t120) := hbel b4 I3 (hlt I3)
  clear C4 b4 B3 D3 I3
  go_wp2_with fail
  have C5 := rseal_any w4 (hG.below B4 hw0) zs h8 tp tc (hT.below D4 (Nat.le_refl _)) (by omega)
  refine C5.mono ?_
  rintro e w5 ⟨v5, rfl, O5, b5⟩
  have r5 := hbel b5 r4 (hlt r4)
  obtain ⟨pp5, cc5, rfl, s5, _⟩ := O5.form
  have B5 := B4.trans (b5.mono B4.size)
  have D5 := D4.trans (b5.mono D4.size)
  have I5 : In w5 g rest (zs ++ t120) := hbel b5 I4 (hlt I4)
  have q5 := src_rowf r5 (sealF zs).length (Nat.le_refl _) (by rw [sealF_len]; unfold maxLen; omega)
  have sm5 := same_any w5 (sealF zs) (sealF zs) _ pp5 _ cc5 q5 s5
  rw [decide_eq_true rfl, sealF_len] at sm5
  rw [sealF_len]
  clear C5 b5 B4 D4 I4 r4 r5 O5 q5 s5
  go_wp2_with fail
  refine (sm5).mono ?_
  rintro e w6 ⟨rfl, b6⟩
  have B6 := B5.trans (b6.mono B5.size)
  have D6 := D5.trans (b6.mono D5.size)
  have I6 : In w6 g rest (zs ++ t120) := hbel b6 I5 (hlt I5)
  clear b6 B5 D5 I5
  clear sm5
  go_wp2_with fail
  refine (left_any w6 zs g uc rest I6 (by omega) hum tp tc (hT.below D6 (Nat.le_refl _)) (by omega)).mono ?_
  rintro e w7 ⟨rfl, b7⟩
  have B7 := B6.trans (b7.mono B6.size)
  have D7 := D6.trans (b7.mono D6.size)
  have I7 : In w7 g rest (zs ++ t120) := hbel b7 I6 (hlt I6)
  clear b7 B6 D6 I6
  go_wp2_with fail
  obtain ⟨bq8', oq8', r18, r28, r38⟩ := src_at hV hg2 D7
  have P8 := place_any w7 zs vs g uc rest I7 (by omega) bq8' oq8' vp vc r18 r28 r38 (by omega)
  refine P8.mono ?_
  rintro e w8 ⟨rfl, I8, k8⟩
  have B8 := B7.trans (k8.below_g hg0 B7.size)
  have D8 := D7.trans (k8.below_g hg2 D7.size)
  clear P8 k8 r18 r28 r38 B7 D7 I7
  go_wp2_with fail
  have C9 := seal_any w8 vs v8 (some ⟨g, 0, none⟩) uc (I8.head uc (by omega) hum) (by omega)
  rw [HVL.out] at C9
  refine C9.mono ?_
  rintro e w9 ⟨rfl, r9, b9⟩
  have B9 := B8.trans (b9.mono B8.size)
  have D9 := D8.trans (b9.mono D8.size)
  have I9 : In w9 g rest (vs ++ t120) := hbel b9 I8 (hlt I8)
  clear C9 b9 B8 D8 I8
  go_wp2_with fail
  have C10 := rseal_any w9 (hG.below B9 hw0) vs v8 vp vc (hV.below D9 (Nat.le_refl _)) (by omega)
  rw [HVL.out] at C10
  refine C10.mono ?_
  rintro e w10 ⟨v10, rfl, O10, b10⟩
  have r10 := hbel b10 r9 (hlt r9)
  obtain ⟨pp10, cc10, rfl, s10, _⟩ := O10.form
  have B10 := B9.trans (b10.mono B9.size)
  have D10 := D9.trans (b10.mono D9.size)
  have I10 : In w10 g rest (vs ++ t120) := hbel b10 I9 (hlt I9)
  have q10 := src_rowf r10 (sealF vs).length (Nat.le_refl _) (by rw [sealF_len]; unfold maxLen; omega)
  have sm10 := same_any w10 (sealF vs) (sealF vs) _ pp10 _ cc10 q10 s10
  rw [decide_eq_true rfl, sealF_len, HVL.out] at sm10
  rw [sealF_len, HVL.out]
  clear C10 b10 B9 D9 I9 r9 r10 O10 q10 s10
  go_wp2_with fail
  refine (sm10).mono ?_
  rintro e w11 ⟨rfl, b11⟩
  have B11 := B10.trans (b11.mono B10.size)
  have D11 := D10.trans (b11.mono D10.size)
  have I11 : In w11 g rest (vs ++ t120) := hbel b11 I10 (hlt I10)
  clear b11 B10 D10 I10
  clear sm10
  go_wp2_with fail
  have C12 := left_any w11 vs g uc rest I11 (by omega) hum vp vc (hV.below D11 (Nat.le_refl _)) (by omega)
  rw [HVL.out] at C12
  refine C12.mono ?_
  rintro e w12 ⟨rfl, b12⟩
  clear C12
  have B12 := B11.trans (b12.mono B11.size)
  have D12 := D11.trans (b12.mono D11.size)
  have I12 : In w12 g rest (vs ++ t120) := hbel b12 I11 (hlt I11)
  clear b12 B11 D11 I11
  go_wp2_with fail
  obtain ⟨bq13', oq13', r113, r213, r313⟩ := src_at hT hg2 D12
  have P13 := place_any w12 vs zs g uc rest I12 (by omega) bq13' oq13' tp tc r113 r213 r313 (by omega)
  rw [hvl] at P13
  refine P13.mono ?_
  rintro e w13 ⟨rfl, I13, k13⟩
  have B13 := B12.trans (k13.below_g hg0 B12.size)
  have D13 := D12.trans (k13.below_g hg2 D12.size)
  clear P13 k13 r113 r213 r313 B12 D12 I12
  go_wp2_with fail
  have C14 := seal_any w13 zs h8 (some ⟨g, 0, none⟩) uc (I13.head uc (by omega) hum) (by omega)
  refine C14.mono ?_
  rintro e w14 ⟨rfl, r14, b14⟩
  have B14 := B13.trans (b14.mono B13.size)
  have D14 := D13.trans (b14.mono D13.size)
  have I14 : In w14 g rest (zs ++ t120) := hbel b14 I13 (hlt I13)
  clear C14 b14 B13 D13 I13
  go_wp2_with fail
  have C15 := rseal_any w14 (hG.below B14 hw0) zs h8 tp tc (hT.below D14 (Nat.le_refl _)) (by omega)
  refine C15.mono ?_
  rintro e w15 ⟨v15, rfl, O15, b15⟩
  have r15 := hbel b15 r14 (hlt r14)
  obtain ⟨pp15, cc15, rfl, s15, _⟩ := O15.form
  have B15 := B14.trans (b15.mono B14.size)
  have D15 := D14.trans (b15.mono D14.size)
  have I15 : In w15 g rest (zs ++ t120) := hbel b15 I14 (hlt I14)
  have q15 := src_rowf r15 (sealF zs).length (Nat.le_refl _) (by rw [sealF_len]; unfold maxLen; omega)
  have sm15 := same_any w15 (sealF zs) (sealF zs) _ pp15 _ cc15 q15 s15
  rw [decide_eq_true rfl, sealF_len] at sm15
  rw [sealF_len]
  clear C15 b15 B14 D14 I14 r14 r15 O15 q15 s15
  go_wp2_with fail
  refine (sm15).mono ?_
  rintro e w16 ⟨rfl, b16⟩
  have B16 := B15.trans (b16.mono B15.size)
  have D16 := D15.trans (b16.mono D15.size)
  have I16 : In w16 g rest (zs ++ t120) := hbel b16 I15 (hlt I15)
  clear b16 B15 D15 I15
  clear sm15
  go_wp2_with fail
  refine (left_any w16 zs g uc rest I16 (by omega) hum tp tc (hT.below D16 (Nat.le_refl _)) (by omega)).mono ?_
  rintro e w17 ⟨rfl, b17⟩
  have B17 := B16.trans (b17.mono B16.size)
  have D17 := D16.trans (b17.mono D16.size)
  have I17 : In w17 g rest (zs ++ t120) := hbel b17 I16 (hlt I16)
  clear b17 B16 D16 I16
  go_wp2
  go_ret
  exact ⟨rfl, B17⟩
end Go.Proofs.YtbmjegcnfokagabDoor
