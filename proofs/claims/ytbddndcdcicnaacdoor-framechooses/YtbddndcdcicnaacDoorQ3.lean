import Derived.Test.YtbddndcdcicnaacDoorQ2
namespace Go.Proofs.YtbddndcdcicnaacDoor
set_option linter.unusedVariables false
set_option linter.unusedSimpArgs false
open Go.RowKit
attribute [local go_sem ↓] Go.wp_at_zero Go.wp_at_succ

/-- place, what is laid over being older than the list. -/
theorem place_old (w w0 : World) (zs ys : List Int) (g uc : Nat) (rest : List Value) (hI : In w g rest (zs ++ t600)) (hl : ys.length = zs.length) (hg : w0.heap.size ≤ g) (BB : Below w0.heap.size w0 w) (sp : Option Addr) (cap : Nat) (hS : Src w0 sp cap ys) (hlen : zs.length ≤ 140737488352000) :
    Calls Tryd.prog 9 #[.slice (some ⟨g, 0, none⟩) zs.length uc, .slice sp zs.length cap] w fun e w' => e = .returned (.tuple #[]) ∧ In w' g rest (ys ++ t600) ∧ Keeps g w w' := by
  obtain ⟨h1, h2, b, o, h3, h4, h5⟩ := hS
  by_cases hp : 0 < ys.length
  · exact place_any w zs ys g uc rest hI hl b o sp cap (by have := h3 hp; omega) h4 (fun j hj => (BB.cell (p := ⟨b, o + j, none⟩) (h3 hp)).trans (h5 j hj)) hlen
  · exact place_any w zs ys g uc rest hI hl (g + 1) 0 sp cap (by omega) (fun h => absurd h hp) (fun j hj => by omega) hlen
theorem In.keeps {w w' : World} {g h : Nat} {rest : List Value} {os : List Int} (hI : In w h rest os) (hk : Keeps g w w') (hne : h ≠ g) : In w' h rest os := hk.heap hI hne
set_option maxRecDepth 100000 in
set_option maxHeartbeats 2000000 in
theorem chosen_any (w : World) (hG : Gl w) (xs ys : List Int) (x8 : Byts xs) (y8 : Byts ys) (g uc h ud : Nat) (rest rest' : List Value) (hI : In w g rest (xs ++ t600)) (hJ : In w h rest' (ys ++ t600)) (huc : xs.length + 600 ≤ uc) (hum : uc ≤ maxLen) (hud : ys.length + 600 ≤ ud) (hvm : ud ≤ maxLen)
    (sp sq : Option Addr) (cp cq : Nat) (hX : Src w sp cp xs) (hY : Src w sq cq ys) (hlx : xs.length ≤ 140737488352000) (hly : ys.length ≤ 140737488352000) :
    Calls Tryd.prog 7 #[.slice (some ⟨g, 0, none⟩) xs.length uc, .slice (some ⟨h, 0, none⟩) ys.length ud, .slice sp xs.length cp, .slice sq ys.length cq, .slice (some ⟨g, 0, none⟩) (xs.length + 600) uc, .slice (some ⟨h, 0, none⟩) (ys.length + 600) ud] w fun e w' => e = .returned (.bool true) ∧ Below w.heap.size w w' := by
  have h1 := choose_any w xs ys x8 y8 _ _ uc ud (hI.head uc (by omega) hum) (hJ.head ud (by omega) hvm)
  have h2 := fun (w' : World) (hG' : Gl w') (hX' : Src w' sp cp xs) (hY' : Src w' sq cq ys) => qChoose_any w' hG' xs ys x8 y8 sp sq cp cq hX' hY'
  generalize chooseF xs ys = P at *
  obtain ⟨x, E⟩ := P
  simp only at h1 h2
  have KQ : ∀ w, (Op.equalIn 10000 38 (.agg (supC x)) (.agg (supC x))).run Tryd.prog w = .ok true w := fun w => by
    have := eqSup5 x x w; rwa [show decide (x = x) = true by simp] at this
  have KG := guardU5
  go_enter Tryd.func7, Tryd.ntmps7
  go_wp2_with fail
  refine h1.mono ?_
  rintro e w1 ⟨rfl, b1⟩
  have rX := hnew w1 (.cells (supC x) 38)
  have d1 := below_new w1 (.cells (supC x) 38)
  have B := b1.trans (d1.mono b1.size)
  have hX1 := hX.below B (Nat.le_refl _)
  have hY1 := hY.below B (Nat.le_refl _)
  have hI1 := hI.bel B
  have hJ1 := hJ.bel B
  have hG1 := hG.below B hG.1
  clear b1 d1 h1 hX hY hI hJ
  go_wp2_with (first
    | (refine wpList_store_row (by rfl) 38 (.tmp 13) (.tmp 21) (by rfl) w1.heap.size (supC x) (by rfl) (by rfl) 38 _ (by exact hnew _ _) (supN0 x) (supZ5 x) (supO0 x) ?_; rw [setRow_alloc]; generalize w1.alloc (.cells (supC x) 38) = w2 at *; generalize w1.heap.size = G7 at *))
  refine (h2 w2 hG1 hX1 hY1).mono ?_
  rintro e w3 ⟨rfl, b3⟩
  have rY := hnew w3 (.cells (supC x) 38)
  have d3 := below_new w3 (.cells (supC x) 38)
  have bb := b3.trans (d3.mono b3.size)
  have hX3 := hX1.below bb (Nat.le_refl _)
  have hY3 := hY1.below bb (Nat.le_refl _)
  have hI3 := hI1.bel bb
  have hJ3 := hJ1.bel bb
  replace rX := hbel bb rX (hlt rX)
  replace B := B.trans (bb.mono B.size)
  clear b3 d3 bb hX1 hY1 hI1 hJ1 h2 hG1
  have hlf := left_any (w3.alloc (.cells (supC x) 38)) xs g uc rest hI3 huc hum sp cp hX3 hlx
  go_wp2_with (first
    | (refine wpList_store_row (by rfl) 38 (.tmp 15) (.tmp 27) (by rfl) w3.heap.size (supC x) (by rfl) (by rfl) 38 _ (by exact hnew _ _) (supN0 x) (supZ5 x) (supO0 x) ?_; rw [setRow_alloc]; generalize w3.alloc (.cells (supC x) 38) = w4 at *; generalize w3.heap.size = G9 at *)
    | (refine wpList_load_row_w (by rfl) 38 (.tmp 13) (by rfl) G7 (by rfl) 38 (supC x) (0, 0) _ (by exact rX) Tryd.underlying38 rfl (supN0 x) ?_)
    | (refine wpList_load_row_w (by rfl) 38 (.tmp 15) (by rfl) G9 (by rfl) 38 (supC x) (0, 0) _ (by exact rY) Tryd.underlying38 rfl (supN0 x) ?_))
  refine hlf.mono ?_
  rintro e w5 ⟨rfl, b5⟩
  replace B := B.trans (b5.mono B.size)
  have hl2 := left_any w5 ys h ud rest' (hJ3.bel b5) hud hvm sq cq (hY3.below b5 (Nat.le_refl _)) hly
  clear b5 hlf
  go_wp2_with fail
  refine hl2.mono ?_
  rintro e w6 ⟨rfl, b6⟩
  replace B := B.trans (b6.mono B.size)
  clear b6 hl2
  go_wp2
  go_ret
  exact ⟨rfl, B⟩
set_option maxRecDepth 100000 in
set_option maxHeartbeats 4000000 in
theorem chooses_walk (w : World) (hG : Gl w) (xs ys : List Int) (x8 : Byts xs) (y8 : Byts ys) (sp sq : Option Addr) (cp cq : Nat) (hX : Src w sp cp xs) (hY : Src w sq cq ys) (hlx : xs.length ≤ 140737488352000) (hly : ys.length ≤ 140737488352000) :
    Calls Tryd.prog 3 #[.slice sp xs.length cp, .slice sq ys.length cq] w fun e w' => e = .returned (.bool true) ∧ Below w.heap.size w w' := by
  have i0 : (xs.length : Int) ≤ 140737488352000 := by omega
  have i1 : (ys.length : Int) ≤ 140737488352000 := by omega
  go_enter Tryd.func3, Tryd.ntmps3
  go_wp2_with fail
  refine (copied_any w xs sp cp hX (by omega)).mono ?_
  rintro e w1 ⟨v1, rfl, hO1, b1⟩
  obtain ⟨xp, xc, rfl, hx1, _⟩ := hO1.form
  have hY1 := hY.below b1 (Nat.le_refl _)
  clear hO1
  go_wp2_with fail
  refine (copied_any w1 ys sq cq hY1 (by omega)).mono ?_
  rintro e w2 ⟨v2, rfl, hO2, b2⟩
  obtain ⟨yp, yc, rfl, hy2, _⟩ := hO2.form
  have hx2 := hx1.below b2 (Nat.le_refl _)
  have B2 := b1.trans (b2.mono b1.size)
  clear hO2 b1 b2 hx1 hY1
  go_wp2_with fail
  refine (roomy_any w2 xs xp xc hx2 hlx).mono ?_
  rintro e w3 ⟨g, uc, rest, rfl, hg, hI, huc, hum, BB⟩
  go_wp2_with fail
  refine (roomy_any w3 ys yp yc (hy2.below BB (Nat.le_refl _)) hly).mono ?_
  rintro e w4 ⟨h, ud, rest', rfl, hh, hJ, hud, hvm, b4⟩
  have hgh : g < h := Nat.lt_of_lt_of_le (hlt hI) hh
  have hh2 : w2.heap.size ≤ h := by omega
  replace hI := hI.bel b4
  replace BB := BB.trans (b4.mono BB.size)
  clear b4 hh
  have KC := hid (fun (w' : World) (hB : Below w2.heap.size w2 w') (es fs : List Int) (a8 : Byts es) (b8 : Byts fs) (al : es.length = xs.length) (bl : fs.length = ys.length) (hI' : In w' g rest (es ++ t600)) (hJ' : In w' h rest' (fs ++ t600)) (ap bp : Option Addr) (ac bc : Nat) (hA : Src w' ap ac es) (hB' : Src w' bp bc fs) => by
    have q := chosen_any w' (hG.below (B2.trans (hB.mono B2.size)) hG.1) es fs a8 b8 g uc h ud rest rest' hI' hJ' (by rw [al]; exact huc) hum (by rw [bl]; exact hud) hvm ap bp ac bc hA hB' (by rw [al]; exact hlx) (by rw [bl]; exact hly)
    rw [al, bl] at q
    exact q)
  go_wp2_with fail
  refine (KC.out w4 BB xs ys x8 y8 rfl rfl hI hJ xp yp xc yc (hx2.below BB (Nat.le_refl _)) (hy2.below BB (Nat.le_refl _))).mono ?_
  rintro e w5 ⟨rfl, b5⟩
  replace hI := hI.bel b5
  replace hJ := hJ.bel b5
  replace BB := BB.trans (b5.mono BB.size)
  clear b5
  have hoth := other_any w5 xs x8 xp xc (hx2.below BB (Nat.le_refl _)) hlx 18 (by omega)
  rw [show ((18 : Nat) : Int) = 18 from rfl] at hoth
  go_wp2_with fail
  refine hoth.mono ?_
  rintro e w6 ⟨vv, rfl, hV, bv⟩
  obtain ⟨vp, vc, rfl, _, _⟩ := hV.form
  have hvl := othF_len xs 18
  have hv8 := othF_byts x8 18
  have hgV : g < w5.heap.size := hlt hI
  have hhV : h < w5.heap.size := hlt hJ
  replace hI := hI.bel bv
  replace hJ := hJ.bel bv
  replace BB := BB.trans (bv.mono BB.size)
  clear bv hoth
  generalize othF xs 18 = vs at *
  have hpl := place_new w6 w5.heap.size xs vs g uc rest hI hvl hgV vp vc hV hlx
  rw [hvl]
  go_wp2_with fail
  refine hpl.mono ?_
  rintro e w7 ⟨rfl, hI7, hK, hV7⟩
  replace BB := BB.trans (hK.below_g hg BB.size)
  replace hJ := hJ.keeps hK (by omega)
  clear hK hpl hI hV
  obtain ⟨_, _, hve, hVS, _⟩ := hV7.form
  simp only [Value.slice.injEq] at hve
  obtain ⟨rfl, _, rfl⟩ := hve
  go_wp2_with fail
  refine (KC.out w7 BB vs ys hv8 y8 hvl rfl hI7 hJ vp yp vc yc hVS (hy2.below BB (Nat.le_refl _))).mono ?_
  rintro e w8 ⟨rfl, b8⟩
  replace hI7 := hI7.bel b8
  replace hJ := hJ.bel b8
  replace BB := BB.trans (b8.mono BB.size)
  clear b8 hV7 hVS
  have hpb := place_old w8 w2 vs xs g uc rest hI7 hvl.symm hg BB xp xc hx2 (by rw [hvl]; exact hlx)
  rw [hvl] at hpb
  go_wp2_with fail
  refine hpb.mono ?_
  rintro e w9 ⟨rfl, hI, hK⟩
  replace BB := BB.trans (hK.below_g hg BB.size)
  replace hJ := hJ.keeps hK (by omega)
  clear hK hpb hI7 hvl hv8 hgV hhV
  have hoth := other_any w9 ys y8 yp yc (hy2.below BB (Nat.le_refl _)) hly 18 (by omega)
  rw [show ((18 : Nat) : Int) = 18 from rfl] at hoth
  go_wp2_with fail
  refine hoth.mono ?_
  rintro e w10 ⟨uu, rfl, hU, bu⟩
  obtain ⟨up, uuc, rfl, _, _⟩ := hU.form
  have hul := othF_len ys 18
  have hu8 := othF_byts y8 18
  have hhU : h < w9.heap.size := hlt hJ
  replace hI := hI.bel bu
  replace hJ := hJ.bel bu
  replace BB := BB.trans (bu.mono BB.size)
  clear bu hoth
  generalize othF ys 18 = us at *
  have hpl := place_new w10 w9.heap.size ys us h ud rest' hJ hul hhU up uuc hU hly
  rw [hul]
  go_wp2_with fail
  refine hpl.mono ?_
  rintro e w11 ⟨rfl, hJ11, hK, hU11⟩
  replace BB := BB.trans (hK.below_g hh2 BB.size)
  replace hI := hI.keeps hK (by omega)
  clear hK hpl hJ hU
  obtain ⟨_, _, hve, hUS, _⟩ := hU11.form
  simp only [Value.slice.injEq] at hve
  obtain ⟨rfl, _, rfl⟩ := hve
  go_wp2_with fail
  refine (KC.out w11 BB xs us x8 hu8 rfl hul hI hJ11 xp up xc uuc (hx2.below BB (Nat.le_refl _)) hUS).mono ?_
  rintro e w12 ⟨rfl, b12⟩
  replace hI := hI.bel b12
  replace hJ11 := hJ11.bel b12
  replace BB := BB.trans (b12.mono BB.size)
  clear b12 hU11 hUS
  have hpb := place_old w12 w2 us ys h ud rest' hJ11 hul.symm hh2 BB yp yc hy2 (by rw [hul]; exact hly)
  rw [hul] at hpb
  go_wp2_with fail
  refine hpb.mono ?_
  rintro e w13 ⟨rfl, hJ, hK⟩
  replace BB := BB.trans (hK.below_g hh2 BB.size)
  replace hI := hI.keeps hK (by omega)
  clear hK hpb hJ11 hul hu8 hhU
  go_wp2_with fail
  refine (KC.out w13 BB xs ys x8 y8 rfl rfl hI hJ xp yp xc yc (hx2.below BB (Nat.le_refl _)) (hy2.below BB (Nat.le_refl _))).mono ?_
  rintro e w14 ⟨rfl, b14⟩
  replace BB := BB.trans (b14.mono BB.size)
  clear b14 hI hJ KC
  go_wp2_with fail
  refine (knownSuper_any w14).mono ?_
  rintro e w15 ⟨rfl, b15⟩
  replace BB := BB.trans (b15.mono BB.size)
  have BF := B2.trans (BB.mono B2.size)
  clear b15 BB
  go_wp2
  go_ret
  exact ⟨rfl, BF⟩
end Go.Proofs.YtbddndcdcicnaacDoor
