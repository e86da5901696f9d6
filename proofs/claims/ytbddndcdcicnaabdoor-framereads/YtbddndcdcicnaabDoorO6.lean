import Derived.Test.YtbddndcdcicnaabDoorO5
namespace Go.Proofs.YtbddndcdcicnaabDoor
set_option linter.unusedVariables false
set_option linter.unusedSimpArgs false
open Go.RowKit
attribute [local go_sem ↓] Go.wp_at_zero Go.wp_at_succ

/-- place, what is laid over being newer than the list. -/
theorem place_new (w : World) (base : Nat) (zs ys : List Int) (g uc : Nat) (rest : List Value) (hI : In w g rest (zs ++ t600)) (hl : ys.length = zs.length) (hg : g < base) (sp : Option Addr) (cap : Nat) (hO : Own w base (.slice sp ys.length cap) ys) (hlen : zs.length ≤ 140737488352000) :
    Calls Tryd.prog 14 #[.slice (some ⟨g, 0, none⟩) zs.length uc, .slice sp zs.length cap] w fun e w' => e = .returned (.tuple #[]) ∧ In w' g rest (ys ++ t600) ∧ Keeps g w w' ∧ Own w' base (.slice sp ys.length cap) ys := by
  have hKO : ∀ w', Keeps g w w' → Own w' base (.slice sp ys.length cap) ys := fun w' hK => hO.of_heap fun k hk => hK.block k (hO.block k hk).2 (by have := (hO.block k hk).1; omega)
  obtain ⟨tp, tc, hv, hS, _⟩ := hO.form
  simp only [Value.slice.injEq] at hv
  obtain ⟨rfl, _, rfl⟩ := hv
  obtain ⟨h1, h2, b, o, h3, h4, h5⟩ := hS
  by_cases hp : 0 < ys.length
  · have hb : b ≠ g := by
      have e := h4 hp
      have := (hO.block b (by rw [e]; rfl)).1
      omega
    refine (place_any w zs ys g uc rest hI hl b o sp cap hb h4 h5 hlen).mono ?_
    rintro e w' ⟨rfl, hI', hK⟩
    exact ⟨rfl, hI', hK, hKO w' hK⟩
  · refine (place_any w zs ys g uc rest hI hl (g + 1) 0 sp cap (by omega) (fun h => absurd h hp) (fun j hj => by omega) hlen).mono ?_
    rintro e w' ⟨rfl, hI', hK⟩
    exact ⟨rfl, hI', hK, hKO w' hK⟩
set_option maxRecDepth 100000 in
set_option maxHeartbeats 2000000 in
theorem unpacks_walk (w : World) (hG : Gl w) (p : Int) (zs : List Int) (h8 : Byts zs) (sp : Option Addr) (cap : Nat) (hS : Src w sp cap zs) (hlen : zs.length ≤ 140737488352000) :
    Calls Tryd.prog 6 #[.int .i64 p, .slice sp zs.length cap] w fun e w' => e = .returned (.bool true) ∧ Below w.heap.size w w' := by
  have i0 : (zs.length : Int) ≤ 140737488352000 := by omega
  go_enter Tryd.func6, Tryd.ntmps6
  go_wp2_with fail
  refine (copied_any w zs sp cap hS (by omega)).mono ?_
  rintro e w1 ⟨v1, rfl, hO1, b1⟩
  obtain ⟨lp, lc, rfl, hl1, _⟩ := hO1.form
  clear hO1
  go_wp2_with fail
  refine (roomy_any w1 zs lp lc hl1 hlen).mono ?_
  rintro e w2 ⟨g, uc, rest, rfl, hg, hI, huc, hum, BB⟩
  have HGL := hid (fun (w' : World) (hB : Below w1.heap.size w1 w') => show Gl w' from hG.below (b1.trans (hB.mono b1.size)) hG.1)
  have KP := hid (fun (w' : World) (hB : Below w1.heap.size w1 w') (hI' : In w' g rest (zs ++ t600)) => unpacked_any w' (HGL.out _ hB) p zs h8 g uc rest hI' huc hum lp lc (hl1.below hB (Nat.le_refl _)) hlen)
  go_wp2_with fail
  refine (KP.out w2 BB hI).mono ?_
  rintro e w3 ⟨rfl, b3⟩
  replace hI := hI.bel b3
  replace BB := BB.trans (b3.mono BB.size)
  clear b3
  have hoth := other_any w3 zs h8 lp lc (hl1.below BB (Nat.le_refl _)) hlen 9 (by omega)
  rw [show ((9 : Nat) : Int) = 9 from rfl] at hoth
  go_wp2_with fail
  refine hoth.mono ?_
  rintro e w4 ⟨vv1, rfl, hV, bv⟩
  obtain ⟨vp1, vc1, rfl, _, _⟩ := hV.form
  have hvl := othF_len zs 9
  have hv8 := othF_byts h8 9
  have hgV : g < w3.heap.size := hlt hI
  replace hI := hI.bel bv
  replace BB := BB.trans (bv.mono BB.size)
  clear bv hoth
  generalize othF zs 9 = vs1 at *
  have hpl := place_new w4 w3.heap.size zs vs1 g uc rest hI hvl hgV vp1 vc1 hV hlen
  rw [hvl]
  rw [hvl] at hV
  go_wp2_with fail
  refine hpl.mono ?_
  rintro e w5 ⟨rfl, hI1, hK, hV1⟩
  replace BB := BB.trans (hK.below_g hg BB.size)
  clear hK hpl hI hV
  obtain ⟨_, _, hve, hVS, _⟩ := hV1.form
  simp only [Value.slice.injEq] at hve
  obtain ⟨rfl, _, rfl⟩ := hve
  have hask := unpacked_any w5 (HGL.out _ BB) p vs1 hv8 g uc rest hI1 (by rw [hvl]; exact huc) hum vp1 vc1 hVS (by rw [hvl]; exact hlen)
  rw [hvl] at hask
  go_wp2_with fail
  refine hask.mono ?_
  rintro e w6 ⟨rfl, b6⟩
  replace hI1 := hI1.bel b6
  replace BB := BB.trans (b6.mono BB.size)
  clear b6 hask hV1 hVS
  have hpb := place_to w6 w1 vs1 zs g uc rest hI1 hvl.symm hg BB lp lc hl1 (by rw [hvl]; exact hlen)
  rw [hvl] at hpb
  go_wp2_with fail
  refine hpb.mono ?_
  rintro e w7 ⟨rfl, hI, BB7⟩
  replace BB := BB7
  clear hI1 hpb BB7 hvl hv8 hgV
  go_wp2_with fail
  refine (KP.out w7 BB hI).mono ?_
  rintro e w8 ⟨rfl, b8⟩
  replace hI := hI.bel b8
  replace BB := BB.trans (b8.mono BB.size)
  clear b8
  have hoth := other_any w8 zs h8 lp lc (hl1.below BB (Nat.le_refl _)) hlen 255 (by omega)
  rw [show ((255 : Nat) : Int) = 255 from rfl] at hoth
  go_wp2_with fail
  refine hoth.mono ?_
  rintro e w9 ⟨vv2, rfl, hV, bv⟩
  obtain ⟨vp2, vc2, rfl, _, _⟩ := hV.form
  have hvl := othF_len zs 255
  have hv8 := othF_byts h8 255
  have hgV : g < w8.heap.size := hlt hI
  replace hI := hI.bel bv
  replace BB := BB.trans (bv.mono BB.size)
  clear bv hoth
  generalize othF zs 255 = vs2 at *
  have hpl := place_new w9 w8.heap.size zs vs2 g uc rest hI hvl hgV vp2 vc2 hV hlen
  rw [hvl]
  rw [hvl] at hV
  go_wp2_with fail
  refine hpl.mono ?_
  rintro e w10 ⟨rfl, hI2, hK, hV2⟩
  replace BB := BB.trans (hK.below_g hg BB.size)
  clear hK hpl hI hV
  obtain ⟨_, _, hve, hVS, _⟩ := hV2.form
  simp only [Value.slice.injEq] at hve
  obtain ⟨rfl, _, rfl⟩ := hve
  have hask := unpacked_any w10 (HGL.out _ BB) p vs2 hv8 g uc rest hI2 (by rw [hvl]; exact huc) hum vp2 vc2 hVS (by rw [hvl]; exact hlen)
  rw [hvl] at hask
  go_wp2_with fail
  refine hask.mono ?_
  rintro e w11 ⟨rfl, b11⟩
  replace hI2 := hI2.bel b11
  replace BB := BB.trans (b11.mono BB.size)
  clear b11 hask hV2 hVS
  go_wp2_with fail
  refine (known_any w11).mono ?_
  rintro e w12 ⟨rfl, b12⟩
  replace BB := BB.trans (b12.mono BB.size)
  have BF := b1.trans (BB.mono b1.size)
  clear b12 KP HGL BB hI2
  go_wp2
  go_ret
  exact ⟨rfl, BF⟩
end Go.Proofs.YtbddndcdcicnaabDoor
