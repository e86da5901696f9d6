import Derived.Test.YtbddndcdcicnaabDoorO4
namespace Go.Proofs.YtbddndcdcicnaabDoor
set_option linter.unusedVariables false
set_option linter.unusedSimpArgs false
open Go.RowKit
attribute [local go_sem ↓] Go.wp_at_zero Go.wp_at_succ

/-- place, what is laid over being older than the list. -/
theorem place_to (w w0 : World) (zs ys : List Int) (g uc : Nat) (rest : List Value) (hI : In w g rest (zs ++ t600)) (hl : ys.length = zs.length) (hg : w0.heap.size ≤ g) (BB : Below w0.heap.size w0 w) (sp : Option Addr) (cap : Nat) (hS : Src w0 sp cap ys) (hlen : zs.length ≤ 140737488352000) :
    Calls Tryd.prog 14 #[.slice (some ⟨g, 0, none⟩) zs.length uc, .slice sp zs.length cap] w fun e w' => e = .returned (.tuple #[]) ∧ In w' g rest (ys ++ t600) ∧ Below w0.heap.size w0 w' := by
  have hw0 : w0.heap.size ≤ w.heap.size := BB.size
  obtain ⟨h1, h2, b, o, h3, h4, h5⟩ := hS
  by_cases hp : 0 < ys.length
  · refine (place_any w zs ys g uc rest hI hl b o sp cap (by have := h3 hp; omega) h4 (fun j hj => (BB.cell (p := ⟨b, o + j, none⟩) (h3 hp)).trans (h5 j hj)) hlen).mono ?_
    rintro e w' ⟨rfl, hI', hK⟩
    exact ⟨rfl, hI', BB.trans (hK.below_g hg hw0)⟩
  · refine (place_any w zs ys g uc rest hI hl (g + 1) 0 sp cap (by omega) (fun h => absurd h hp) (fun j hj => by omega) hlen).mono ?_
    rintro e w' ⟨rfl, hI', hK⟩
    exact ⟨rfl, hI', BB.trans (hK.below_g hg hw0)⟩
theorem In.bel {w w' : World} {g : Nat} {rest : List Value} {os : List Int} (h : In w g rest os) (hb : Below w.heap.size w w') : In w' g rest os := hbel hb h (hlt h)
set_option maxRecDepth 100000 in
set_option maxHeartbeats 1000000 in
theorem packed_any (w : World) (hG : Gl w) (k p : Int) (ls : List Int) (h8 : Byts ls) (g uc : Nat) (rest : List Value) (hI : In w g rest (ls ++ t600)) (huc : ls.length + 600 ≤ uc) (hum : uc ≤ maxLen) (sp : Option Addr) (cap : Nat) (hS : Src w sp cap ls) (hlen : ls.length ≤ 140737488352000) :
    Calls Tryd.prog 13 #[.int .i64 k, .int .i64 p, .slice (some ⟨g, 0, none⟩) ls.length uc, .slice sp ls.length cap, .slice (some ⟨g, 0, none⟩) (ls.length + 600) uc] w fun e w' => e = .returned (.bool true) ∧ Below w.heap.size w w' := by
  have hH := hI.head uc (by omega) hum
  have h1 := pack_any w k p ls h8 (some ⟨g, 0, none⟩) uc hH
  have h2 := fun (w' : World) (hG' : Gl w') (h : Src w' sp cap ls) => qPack_any w' hG' k p ls h8 sp cap h
  have hml : (packF k p ls).1.length ≤ maxLen := by
    unfold packF
    repeat' split
    all_goals first | (simp [maxLen]; done) | skip
    rename_i g1 g2 g3
    simp only
    rw [pageP_len k p ls (by omega)]; decide
  generalize packF k p ls = P at *
  obtain ⟨ps, E⟩ := P
  simp only at h1 h2 hml
  go_enter Tryd.func13, Tryd.ntmps13
  go_wp2_with fail
  refine h1.mono ?_
  rintro e w1 ⟨v1, rfl, hN1, b1⟩
  obtain ⟨ap, ac, rfl, ha1⟩ := hN1.src hml
  have hS1 := hS.below b1 (Nat.le_refl _)
  have hI1 := hI.bel b1
  have hG1 : Gl w1 := hG.below b1 hG.1
  have B1 := b1
  clear b1 hN1 h1 hH hS
  go_wp2_with fail
  refine (h2 w1 hG1 hS1).mono ?_
  rintro e w2 ⟨v2, rfl, hO2, b2⟩
  obtain ⟨bp, bc, rfl, hb2, _⟩ := hO2.form
  have ha2 := ha1.below b2 (Nat.le_refl _)
  have hS2 := hS1.below b2 (Nat.le_refl _)
  have hI2 := hI1.bel b2
  have B2 := B1.trans (b2.mono B1.size)
  clear b2 hO2 h2 ha1 hS1 hI1 B1 hG1
  have hsm := same_any w2 ps ps ap bp ac bc ha2 hb2
  rw [show decide (ps = ps) = true by simp] at hsm
  go_wp2_with fail
  refine hsm.mono ?_
  rintro e w3 ⟨rfl, b3⟩
  have hS3 := hS2.below b3 (Nat.le_refl _)
  have hI3 := hI2.bel b3
  have B3 := B2.trans (b3.mono B2.size)
  clear b3 hsm ha2 hb2 hS2 hI2 B2
  have hlf := left_any w3 ls g uc rest hI3 huc hum sp cap hS3 hlen
  go_wp2_with fail
  refine hlf.mono ?_
  rintro e w4 ⟨rfl, b4⟩
  have B4 := B3.trans (b4.mono B3.size)
  clear b4 hlf B3
  go_wp2
  go_ret
  exact ⟨rfl, B4⟩
set_option maxRecDepth 100000 in
set_option maxHeartbeats 1000000 in
theorem packs_walk (w : World) (hG : Gl w) (k p : Int) (zs : List Int) (h8 : Byts zs) (sp : Option Addr) (cap : Nat) (hS : Src w sp cap zs) (hlen : zs.length ≤ 140737488352000) :
    Calls Tryd.prog 4 #[.int .i64 k, .int .i64 p, .slice sp zs.length cap] w fun e w' => e = .returned (.bool true) ∧ Below w.heap.size w w' := by
  have e1 : (zs.length : Int) / 2 = ((zs.length / 2 : Nat) : Int) := by omega
  have hq : zs.length / 2 ≤ 140737488352000 := by omega
  have i0 : (zs.length : Int) ≤ 140737488352000 := by omega
  go_enter Tryd.func4, Tryd.ntmps4
  go_wp2_with fail
  refine (copied_any w zs sp cap hS (by omega)).mono ?_
  rintro e w1 ⟨v1, rfl, hO1, b1⟩
  obtain ⟨lp, lc, rfl, hl1, _⟩ := hO1.form
  clear hO1
  generalize zs.length / 2 = q at *
  go_wp2_with fail
  refine (other_any w1 zs h8 lp lc hl1 hlen q hq).mono ?_
  rintro e w2 ⟨v2, rfl, hO2, b2⟩
  obtain ⟨vp, vc, rfl, hv2, _⟩ := hO2.form
  have hl2 := hl1.below b2 (Nat.le_refl _)
  have B2 := b1.trans (b2.mono b1.size)
  have hvl := othF_len zs q
  have hv8 := othF_byts h8 q
  clear hO2 b1 b2 hl1
  generalize othF zs q = vs at *
  rw [hvl]
  go_wp2_with fail
  refine (roomy_any w2 zs lp lc hl2 hlen).mono ?_
  rintro e w3 ⟨g, uc, rest, rfl, hg, hI, huc, hum, b3⟩
  have BB := b3
  have hG3 : Gl w3 := hG.below (B2.trans (b3.mono B2.size)) hG.1
  clear b3
  have KP := hid (fun (w' : World) (hB : Below w2.heap.size w2 w') (hI' : In w' g rest (zs ++ t600)) => packed_any w' (hG.below (B2.trans (hB.mono B2.size)) hG.1) k p zs h8 g uc rest hI' huc hum lp lc (hl2.below hB (Nat.le_refl _)) hlen)
  have KV := hid (fun (w' : World) (hB : Below w2.heap.size w2 w') (hI' : In w' g rest (vs ++ t600)) => by
    have h := packed_any w' (hG.below (B2.trans (hB.mono B2.size)) hG.1) k p vs hv8 g uc rest hI' (by rw [hvl]; exact huc) hum vp vc (hv2.below hB (Nat.le_refl _)) (by rw [hvl]; exact hlen)
    rw [hvl] at h
    exact h)
  have KA := hid (fun (w' : World) (hB : Below w2.heap.size w2 w') (hI' : In w' g rest (zs ++ t600)) => place_to w' w2 zs vs g uc rest hI' hvl hg hB vp vc hv2 hlen)
  have KB := hid (fun (w' : World) (hB : Below w2.heap.size w2 w') (hI' : In w' g rest (vs ++ t600)) => by
    have h := place_to w' w2 vs zs g uc rest hI' hvl.symm hg hB lp lc hl2 (by rw [hvl]; exact hlen)
    rw [hvl] at h
    exact h)
  replace hvl := hid hvl
  go_wp2_with fail
  refine (KP.out w3 BB hI).mono ?_
  rintro e w4 ⟨rfl, b4⟩
  replace hI := hI.bel b4
  replace BB := BB.trans (b4.mono BB.size)
  clear b4
  go_wp2_with fail
  refine (KA.out w4 BB hI).mono ?_
  rintro e w5 ⟨rfl, hI5, BB5⟩
  clear hI BB
  go_wp2_with fail
  refine (KV.out w5 BB5 hI5).mono ?_
  rintro e w6 ⟨rfl, b6⟩
  replace hI5 := hI5.bel b6
  replace BB5 := BB5.trans (b6.mono BB5.size)
  clear b6
  go_wp2_with fail
  refine (KB.out w6 BB5 hI5).mono ?_
  rintro e w7 ⟨rfl, hI7, BB7⟩
  clear hI5 BB5
  go_wp2_with fail
  refine (KP.out w7 BB7 hI7).mono ?_
  rintro e w8 ⟨rfl, b8⟩
  have BB8 := BB7.trans (b8.mono BB7.size)
  have B8 := B2.trans (BB8.mono B2.size)
  clear KP KV KA KB b8 BB7 BB8
  go_wp2
  go_ret
  exact ⟨rfl, B8⟩
set_option maxRecDepth 100000 in
set_option maxHeartbeats 1000000 in
theorem unpacked_any (w : World) (hG : Gl w) (p : Int) (ls : List Int) (h8 : Byts ls) (g uc : Nat) (rest : List Value) (hI : In w g rest (ls ++ t600)) (huc : ls.length + 600 ≤ uc) (hum : uc ≤ maxLen) (sp : Option Addr) (cap : Nat) (hS : Src w sp cap ls) (hlen : ls.length ≤ 140737488352000) :
    Calls Tryd.prog 17 #[.int .i64 p, .slice (some ⟨g, 0, none⟩) ls.length uc, .slice sp ls.length cap, .slice (some ⟨g, 0, none⟩) (ls.length + 600) uc] w fun e w' => e = .returned (.bool true) ∧ Below w.heap.size w w' := by
  have hH := hI.head uc (by omega) hum
  have h1 := unpack_any w p ls h8 (some ⟨g, 0, none⟩) uc hH
  have h2 := fun (w' : World) (hG' : Gl w') (h : Src w' sp cap ls) => qUnpack_any w' hG' p ls h8 sp cap h
  generalize unpackF p ls = P at *
  obtain ⟨K, ps, E⟩ := P
  simp only at h1 h2
  go_enter Tryd.func17, Tryd.ntmps17
  go_wp2_with fail
  refine h1.mono ?_
  rintro e w1 ⟨v1, rfl, hO1, b1⟩
  obtain ⟨ap, ac, rfl, ha1, _⟩ := hO1.form
  have hS1 := hS.below b1 (Nat.le_refl _)
  have hI1 := hI.bel b1
  have hG1 : Gl w1 := hG.below b1 hG.1
  have B1 := b1
  clear b1 hO1 h1 hH hS
  go_wp2_with fail
  refine (h2 w1 hG1 hS1).mono ?_
  rintro e w2 ⟨v2, rfl, hO2, b2⟩
  obtain ⟨bp, bc, rfl, hb2, _⟩ := hO2.form
  have ha2 := ha1.below b2 (Nat.le_refl _)
  have hS2 := hS1.below b2 (Nat.le_refl _)
  have hI2 := hI1.bel b2
  have B2 := B1.trans (b2.mono B1.size)
  clear b2 hO2 h2 ha1 hS1 hI1 B1 hG1
  have hsm := same_any w2 ps ps ap bp ac bc ha2 hb2
  rw [show decide (ps = ps) = true by simp] at hsm
  go_wp2_with fail
  refine hsm.mono ?_
  rintro e w3 ⟨rfl, b3⟩
  have hS3 := hS2.below b3 (Nat.le_refl _)
  have hI3 := hI2.bel b3
  have B3 := B2.trans (b3.mono B2.size)
  clear b3 hsm ha2 hb2 hS2 hI2 B2
  have hlf := left_any w3 ls g uc rest hI3 huc hum sp cap hS3 hlen
  go_wp2_with fail
  refine hlf.mono ?_
  rintro e w4 ⟨rfl, b4⟩
  have B4 := B3.trans (b4.mono B3.size)
  clear b4 hlf B3
  go_wp2
  go_ret
  exact ⟨rfl, B4⟩
end Go.Proofs.YtbddndcdcicnaabDoor
