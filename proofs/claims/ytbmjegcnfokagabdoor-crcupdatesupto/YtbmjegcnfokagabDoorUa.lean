import Derived.Test.YtbmjegcnfokagabDoorEa
import Derived.Test.YtbmjegcnfokagabDoorHk
namespace Go.Proofs.YtbmjegcnfokagabDoor
set_option linter.unusedVariables false
set_option linter.unusedSimpArgs false
open Go.RowKit
attribute [local go_sem ↓] Go.wp_at_zero Go.wp_at_succ

/-- Where a slice lies that is older than block g. -/
theorem src_at {w w' : World} {sp : Option Addr} {cap g : Nat} {zs : List Int} (h : Src w sp cap zs) (hg : w.heap.size ≤ g) (hb : Below w.heap.size w w') : ∃ b o, b ≠ g ∧ (0 < zs.length → sp = some ⟨b, o, none⟩) ∧ ∀ j, j < zs.length → w'.cell? ⟨b, o + j, none⟩ = some (.int .u8 (zs.getD j 0)) := by
  obtain ⟨_, _, b, o, h3, h4, h5⟩ := h
  by_cases hp : 0 < zs.length
  · exact ⟨b, o, by have := h3 hp; omega, h4, fun j hj => (hb.cell (p := ⟨b, o + j, none⟩) (h3 hp)).trans (h5 j hj)⟩
  · exact ⟨g + 1, 0, by omega, fun h => absurd h hp, fun j hj => by omega⟩

set_option maxRecDepth 100000 in
set_option maxHeartbeats 400000 in
theorem rupd_any (w : World) (hG : Gl w) (c : Nat) (hc : c < 4294967296) (zs : List Int) (h8 : Byts zs) (sp : Option Addr) (cap : Nat) (hS : Src w sp cap zs) (hlen : zs.length ≤ 1048576) :
    Calls Tryd.prog 14 #[.int .u32 c, .slice sp zs.length cap] w fun e w' => e = .returned (.int .u32 (updF c zs)) ∧ Below w.heap.size w w' := by
  have e1 := not_u32 c hc
  have e2 := not_u32m c hc
  have e3 := not_u32 _ (feed_lt zs h8 _ (inv_lt hc))
  have e4 := not_u32m _ (feed_lt zs h8 _ (inv_lt hc))
  have hsg : IntKind.u32.signed = false := rfl
  go_enter Tryd.func14, Tryd.ntmps14
  go_wp2_with fail
  refine (divide_any w hG (inv c) (inv_lt hc) zs h8 sp cap hS hlen).mono ?_
  rintro e w' ⟨rfl, hB⟩
  go_wp2
  go_ret
  exact ⟨rfl, hB⟩
theorem piece_len {ps : List (List Int)} {n : Nat} (hn : n < ps.length) : (ps.getD n []).length ≤ ps.flatten.length := by
  rw [List.getD_eq_getElem?_getD, List.getElem?_eq_getElem hn]
  have := List.getElem_mem hn
  generalize ps[n] = p at *
  clear hn
  show p.length ≤ _
  induction ps with
  | nil => simp at this
  | cons q ps ih =>
    rw [List.flatten_cons, List.length_append]
    rcases List.mem_cons.1 this with rfl | h
    · omega
    · have := ih h; omega
theorem piece_byts {ps : List (List Int)} (h : ∀ p ∈ ps, Byts p) {n : Nat} (hn : n < ps.length) : Byts (ps.getD n []) := by
  rw [List.getD_eq_getElem?_getD, List.getElem?_eq_getElem hn]; exact h _ (List.getElem_mem hn)
set_option maxRecDepth 100000 in
set_option maxHeartbeats 2000000 in
theorem updates_any (w : World) (hG : Gl w) (c : Nat) (hc : c < 4294967296) (ps : List (List Int)) (hp8 : ∀ p ∈ ps, Byts p) (sp : Option Addr) (cap : Nat) (hR : Rws w sp ps) (hcap : ps.length ≤ cap) (hcapm : cap ≤ maxLen) (hbulk : ps.flatten.length ≤ 1048576) :
    Calls Tryd.prog 4 #[.int .u32 c, .slice sp ps.length cap] w fun e w' => e = .returned (.bool true) ∧ Below w.heap.size w w' := by
  have hw00 := hG.1
  unfold maxLen at hcapm
  go_enter Tryd.func4, Tryd.ntmps4
  go_wp2
  go_loopw [5, 6] (fun x i wr => ∃ r n : Nat, n ≤ ps.length ∧ i = .int .i64 n ∧ x = .int .u32 r ∧ r < 4294967296 ∧ Below w.heap.size w wr) (fun _ i _ => ps.length - (intOf i).toNat)
  case atStart => exact ⟨c, 0, by omega, rfl, rfl, hc, Below.refl _ _⟩
  case round =>
    obtain ⟨r, n, hn, rfl, rfl, hr, hB⟩ := hrel
    have hGr := hG.below hB hw00
    by_cases hnl : n < ps.length
    · have i1 : (n : Int) < (ps.length : Int) := by omega
      obtain ⟨b, o, ap, ac, rfl, c0, _, hA, _⟩ := hR.piece hB n hnl
      have hlen : (ps.getD n []).length ≤ 1048576 := Nat.le_trans (piece_len hnl) hbulk
      have h8 := piece_byts hp8 hnl
      have hAr := hA.below hB (Nat.le_refl _)
      generalize ps.getD n [] = zs at *
      have i0 : (zs.length : Int) ≤ 1048576 := by omega
      go_wp2_with fail
      refine (copied_any wr zs ap ac hAr (by omega)).mono ?_
      rintro e w1 ⟨v, rfl, hO1, b1⟩
      obtain ⟨tp, tc, rfl, hT1, _⟩ := hO1.form
      go_wp2_with fail
      refine (middle_any w1 zs h8 tp tc hT1 hlen).mono ?_
      rintro e w2 ⟨v, rfl, hO2, b2⟩
      have hvl := midF_len zs
      have v8 := midF_byts h8
      generalize midF zs = vs at *
      obtain ⟨vp, vc, rfl, hV, _⟩ := hO2.form
      have hT := hT1.below b2 (Nat.le_refl _)
      have B2 := b1.trans (b2.mono b1.size)
      have D2 := Below.refl w2.heap.size w2
      clear hO1 hT1 b1 b2 hO2 hAr hA c0
      have HVL := hid hvl
      rw [HVL.out]
      go_wp2_with fail
      refine (roomy_any w2 zs tp tc hT hlen).mono ?_
      rintro e w3 ⟨g, uc, rest, rfl, hg2, I3, huc, hum, b3⟩
      have hg0 : wr.heap.size ≤ g := Nat.le_trans B2.size hg2
      have B3 := B2.trans (b3.mono B2.size)
      have D3 := D2.trans (b3.mono D2.size)
      have hw0 := hGr.1
      clear b3 B2 D2
      go_wp2_with fail
      refine (upd_any w3 r hr zs h8 (some ⟨g, 0, none⟩) uc (I3.head uc (by omega) hum)).mono ?_
      rintro e w4 ⟨rfl, b4⟩
      have B4 := B3.trans (b4.mono B3.size)
      have D4 := D3.trans (b4.mono D3.size)
      have I4 : In w4 g rest (zs ++ t120) := hbel b4 I3 (hlt I3)
      clear b4 B3 D3 I3
      go_wp2_with fail
      refine (rupd_any w4 (hGr.below B4 hw0) r hr zs h8 tp tc (hT.below D4 (Nat.le_refl _)) (by omega)).mono ?_
      rintro e w5 ⟨rfl, b5⟩
      have B5 := B4.trans (b5.mono B4.size)
      have D5 := D4.trans (b5.mono D4.size)
      have I5 : In w5 g rest (zs ++ t120) := hbel b5 I4 (hlt I4)
      clear b5 B4 D4 I4
      go_wp2_with fail
      refine (left_any w5 zs g uc rest I5 (by omega) hum tp tc (hT.below D5 (Nat.le_refl _)) (by omega)).mono ?_
      rintro e w6 ⟨rfl, b6⟩
      have B6 := B5.trans (b6.mono B5.size)
      have D6 := D5.trans (b6.mono D5.size)
      have I6 : In w6 g rest (zs ++ t120) := hbel b6 I5 (hlt I5)
      clear b6 B5 D5 I5
      go_wp2_with fail
      obtain ⟨bq7', oq7', r17, r27, r37⟩ := src_at hV hg2 D6
      have P7 := place_any w6 zs vs g uc rest I6 (by omega) bq7' oq7' vp vc r17 r27 r37 (by omega)
      refine P7.mono ?_
      rintro e w7 ⟨rfl, I7, k7⟩
      have B7 := B6.trans (k7.below_g hg0 B6.size)
      have D7 := D6.trans (k7.below_g hg2 D6.size)
      clear P7 k7 r17 r27 r37 B6 D6 I6
      go_wp2_with fail
      have C8 := upd_any w7 r hr vs v8 (some ⟨g, 0, none⟩) uc (I7.head uc (by omega) hum)
      rw [HVL.out] at C8
      refine C8.mono ?_
      rintro e w8 ⟨rfl, b8⟩
      clear C8
      have B8 := B7.trans (b8.mono B7.size)
      have D8 := D7.trans (b8.mono D7.size)
      have I8 : In w8 g rest (vs ++ t120) := hbel b8 I7 (hlt I7)
      clear b8 B7 D7 I7
      go_wp2_with fail
      have C9 := rupd_any w8 (hGr.below B8 hw0) r hr vs v8 vp vc (hV.below D8 (Nat.le_refl _)) (by omega)
      rw [HVL.out] at C9
      refine C9.mono ?_
      rintro e w9 ⟨rfl, b9⟩
      clear C9
      have B9 := B8.trans (b9.mono B8.size)
      have D9 := D8.trans (b9.mono D8.size)
      have I9 : In w9 g rest (vs ++ t120) := hbel b9 I8 (hlt I8)
      clear b9 B8 D8 I8
      go_wp2_with fail
      have C10 := left_any w9 vs g uc rest I9 (by omega) hum vp vc (hV.below D9 (Nat.le_refl _)) (by omega)
      rw [HVL.out] at C10
      refine C10.mono ?_
      rintro e w10 ⟨rfl, b10⟩
      clear C10
      have B10 := B9.trans (b10.mono B9.size)
      have D10 := D9.trans (b10.mono D9.size)
      have I10 : In w10 g rest (vs ++ t120) := hbel b10 I9 (hlt I9)
      clear b10 B9 D9 I9
      go_wp2_with fail
      obtain ⟨bq11', oq11', r111, r211, r311⟩ := src_at hT hg2 D10
      have P11 := place_any w10 vs zs g uc rest I10 (by omega) bq11' oq11' tp tc r111 r211 r311 (by omega)
      rw [hvl] at P11
      refine P11.mono ?_
      rintro e w11 ⟨rfl, I11, k11⟩
      have B11 := B10.trans (k11.below_g hg0 B10.size)
      have D11 := D10.trans (k11.below_g hg2 D10.size)
      clear P11 k11 r111 r211 r311 B10 D10 I10
      go_wp2_with fail
      refine (upd_any w11 r hr zs h8 (some ⟨g, 0, none⟩) uc (I11.head uc (by omega) hum)).mono ?_
      rintro e w12 ⟨rfl, b12⟩
      have B12 := B11.trans (b12.mono B11.size)
      have D12 := D11.trans (b12.mono D11.size)
      have I12 : In w12 g rest (zs ++ t120) := hbel b12 I11 (hlt I11)
      clear b12 B11 D11 I11
      go_wp2
      go_roundw
      case rel => exact ⟨updF r zs, n + 1, by omega, by go_num, rfl, updF_lt hr h8, hB.trans (B12.mono hB.size)⟩
      case measure => simp [intOf]; omega
    · obtain rfl : n = ps.length := by omega
      clear hnl
      go_wp2_with fail
      refine (known_any wr).mono ?_
      rintro e w1 ⟨rfl, b1⟩
      have B1 := hB.trans (b1.mono hB.size)
      go_wp2
      go_ret
      exact ⟨rfl, B1⟩
end Go.Proofs.YtbmjegcnfokagabDoor
