import Derived.Test.YtbddndcdcicnaabDoorO8
import Derived.Test.YtbddndcdcicnaabDoorO6
namespace Go.Proofs.YtbddndcdcicnaabDoor
set_option linter.unusedVariables false
set_option linter.unusedSimpArgs false
open Go.RowKit
attribute [local go_sem ↓] Go.wp_at_zero Go.wp_at_succ

set_option maxRecDepth 100000 in
set_option maxHeartbeats 1000000 in
theorem qUnSuper_any (w : World) (hG : Gl w) (r : List Int) (h8 : Byts r) (sp : Option Addr) (cap : Nat) (hS : Src w sp cap r) :
    Calls Tryd.prog 27 #[.slice sp r.length cap] w fun e w' => e = .returned (.tuple #[.agg (supC (unSuperF r).1), .int .i64 (unSuperF r).2]) ∧ Below w.heap.size w w' := by
  have r0 := hnew w (.cells (supC sup0) 23)
  have b0 := below_new w (.cells (supC sup0) 23)
  have hlm : (r.length : Int) ≤ 9223372036854775807 := by have := hS.1; have := hS.2.1; unfold maxLen at this; omega
  by_cases hl : r.length = 256
  · by_cases hC : feed ones (r.take 64) = CR
    · rw [hl]; exact qUnSuper_ok w hG r h8 hl hC sp cap hS
    · have HF := hid (unSuper_sum r hl hC)
      have hS' := hS
      obtain ⟨hc, hm, b, o, hb, hsp, hsrc⟩ := hS
      obtain rfl := hsp (by omega)
      replace hb := hb (by omega)
      have i1 : 64 ≤ cap := by omega
      have i2 : (64 : Int) ≤ (cap : Int) := by omega
      have hS0 := hS'.below b0 (Nat.le_refl _)
      have hb0 : b < (w.alloc (.cells (supC sup0) 23)).heap.size := Nat.lt_of_lt_of_le hb b0.size
      have h64 : ((r.drop 0).take 64).length = 64 := by simp [hl]
      have hM := hS0.mid 0 64 (by omega) hb0 cap (by omega) hm
      have hw := rwhole_L (w.alloc (.cells (supC sup0) 23)) (hG.below b0 hG.1) ((r.drop 0).take 64) ((h8.drop 0).take 64) (by omega) (by omega) _ _ hM
      rw [h64, List.drop_zero, Nat.add_zero, show decide (feed ones (r.take 64) = CR) = false by simpa using hC] at hw
      rw [hl]
      clear hM hS0 hb0 h64 hsrc hC hl hlm
      go_enter Tryd.func27, Tryd.ntmps27
      go_wp2_with fail
      refine hw.mono ?_
      rintro e w2 ⟨rfl, b2⟩
      have B2 := b0.trans (b2.mono b0.size)
      have rR := hbel b2 r0 (hlt r0)
      clear b2 b0 r0 hw
      go_wp2_with (first | (refine wpList_store_row (by rfl) 23 (.tmp 2) (.tmp 13) (by rfl) w.heap.size (supC sup0) (by rfl) (by rfl) 23 (supC sup0) (by exact rR) (supN0 _) rfl (supO0 _) ?_))
      exact bodyPost_ret (v := .tuple #[.agg (supC sup0), .int .i64 52]) (results_c2 Tryd.results27 _ _ w.heap.size 23 _ _ _ rfl (setRow_heap _ _ _ (supC sup0) _ _ rR) Tryd.underlying23 rfl (supN0 _)) rfl ⟨by rw [HF.out], below_setRow B2 (Nat.le_refl _) _⟩
  · have HF := hid (show unSuperF r = (sup0, 53) by rw [unSuperF, if_pos hl])
    have hl2 : ((r.length : Int) != 256) = true := by simp; omega
    clear hS hl
    go_enter Tryd.func27, Tryd.ntmps27
    go_wp2_with (first | (refine wpList_store_row (by rfl) 23 (.tmp 2) (.tmp 8) (by rfl) w.heap.size (supC sup0) (by rfl) (by rfl) 23 (supC sup0) (by exact r0) (supN0 _) rfl (supO0 _) ?_))
    exact bodyPost_ret (v := .tuple #[.agg (supC sup0), .int .i64 53]) (results_c2 Tryd.results27 _ _ w.heap.size 23 _ _ _ rfl (setRow_heap _ _ _ (supC sup0) _ _ r0) Tryd.underlying23 rfl (supN0 _)) rfl ⟨by rw [HF.out], below_setRow b0 (Nat.le_refl _) _⟩
theorem guardU5 : Tryd.prog.eqGuardType Tryd.prog.depth 23 = false := by kernel_rfl
theorem eqSup5 (s t : Sup) (w : World) : (Op.equalIn 10000 23 (.agg (supC s)) (.agg (supC t))).run Tryd.prog w = .ok (decide (s = t)) w := by
  obtain ⟨a, b, c, d, e⟩ := s
  obtain ⟨a', b', c', d', e'⟩ := t
  unfold supC
  go_simp
  repeat' split
  all_goals simp_all
theorem supZ5 (s : Sup) : (#[.int .i64 0, .int .i64 0, .int .i64 0, .int .i64 0, .int .i64 0] : Array Value).size = (supC s).size := rfl
set_option maxRecDepth 100000 in
set_option maxHeartbeats 1000000 in
theorem read5_any (w : World) (hG : Gl w) (ls : List Int) (h8 : Byts ls) (g uc : Nat) (rest : List Value) (hI : In w g rest (ls ++ t600)) (huc : ls.length + 600 ≤ uc) (hum : uc ≤ maxLen) (sp : Option Addr) (cap : Nat) (hS : Src w sp cap ls) (hlen : ls.length ≤ 140737488352000) :
    Calls Tryd.prog 15 #[.slice (some ⟨g, 0, none⟩) ls.length uc, .slice sp ls.length cap, .slice (some ⟨g, 0, none⟩) (ls.length + 600) uc] w fun e w' => e = .returned (.bool true) ∧ Below w.heap.size w w' := by
  have hH := hI.head uc (by omega) hum
  have h1 := unSuper_any w ls h8 (some ⟨g, 0, none⟩) uc hH
  have h2 := fun (w' : World) (hG' : Gl w') (h : Src w' sp cap ls) => qUnSuper_any w' hG' ls h8 sp cap h
  generalize unSuperF ls = P at *
  obtain ⟨x, E⟩ := P
  simp only at h1 h2
  have KQ : ∀ w, (Op.equalIn 10000 23 (.agg (supC x)) (.agg (supC x))).run Tryd.prog w = .ok true w := fun w => by
    have := eqSup5 x x w; rwa [show decide (x = x) = true by simp] at this
  have KG := guardU5
  go_enter Tryd.func15, Tryd.ntmps15
  go_wp2_with fail
  refine h1.mono ?_
  rintro e w1 ⟨rfl, b1⟩
  have rX := hnew w1 (.cells (supC x) 23)
  have d1 := below_new w1 (.cells (supC x) 23)
  have B := b1.trans (d1.mono b1.size)
  have hS1 := hS.below B (Nat.le_refl _)
  have hI1 := hI.bel B
  have hG1 := hG.below B hG.1
  clear b1 d1 h1 hH hS hI
  go_wp2_with (first
    | (refine wpList_store_row (by rfl) 23 (.tmp 7) (.tmp 14) (by rfl) w1.heap.size (supC x) (by rfl) (by rfl) 23 _ (by exact hnew _ _) (supN0 x) (supZ5 x) (supO0 x) ?_; rw [setRow_alloc]; generalize w1.alloc (.cells (supC x) 23) = w2 at *; generalize w1.heap.size = G7 at *))
  refine (h2 w2 hG1 hS1).mono ?_
  rintro e w3 ⟨rfl, b3⟩
  have rY := hnew w3 (.cells (supC x) 23)
  have d3 := below_new w3 (.cells (supC x) 23)
  have bb := b3.trans (d3.mono b3.size)
  have hS3 := hS1.below bb (Nat.le_refl _)
  have hI3 := hI1.bel bb
  replace rX := hbel bb rX (hlt rX)
  replace B := B.trans (bb.mono B.size)
  clear b3 d3 bb hS1 hI1 h2 hG1
  have hlf := left_any (w3.alloc (.cells (supC x) 23)) ls g uc rest hI3 huc hum sp cap hS3 hlen
  go_wp2_with (first
    | (refine wpList_store_row (by rfl) 23 (.tmp 9) (.tmp 19) (by rfl) w3.heap.size (supC x) (by rfl) (by rfl) 23 _ (by exact hnew _ _) (supN0 x) (supZ5 x) (supO0 x) ?_; rw [setRow_alloc]; generalize w3.alloc (.cells (supC x) 23) = w4 at *; generalize w3.heap.size = G9 at *)
    | (refine wpList_load_row_w (by rfl) 23 (.tmp 7) (by rfl) G7 (by rfl) 23 (supC x) (0, 0) _ (by exact rX) Tryd.underlying23 rfl (supN0 x) ?_)
    | (refine wpList_load_row_w (by rfl) 23 (.tmp 9) (by rfl) G9 (by rfl) 23 (supC x) (0, 0) _ (by exact rY) Tryd.underlying23 rfl (supN0 x) ?_))
  refine hlf.mono ?_
  rintro e w5 ⟨rfl, b5⟩
  replace B := B.trans (b5.mono B.size)
  clear b5 hlf
  go_wp2
  go_ret
  exact ⟨rfl, B⟩
set_option maxRecDepth 100000 in
set_option maxHeartbeats 1000000 in
theorem supers_walk (w : World) (hG : Gl w) (s : Sup) :
    Calls Tryd.prog 3 #[.agg (supC s)] w fun e w' => e = .returned (.bool true) ∧ Below w.heap.size w w' := by
  have r0 := hnew w (.cells (supC s) 23)
  have B := below_new w (.cells (supC s) 23)
  have h1 := fun w' => packSuper_any w' s
  have h2 := fun (w' : World) (hG' : Gl w') => qPackSuper_any w' hG' s
  have hml : (superF s).1.length ≤ maxLen := by
    unfold superF
    split
    · rw [List.length_append, secS_len, List.length_replicate]; decide
    · simp [maxLen]
  generalize superF s = P at *
  obtain ⟨ps, E⟩ := P
  simp only at h1 h2 hml
  go_enter Tryd.func3, Tryd.ntmps3
  go_wp2_with (first
    | (refine wpList_load_row_w (by rfl) 23 (.tmp 1) (by rfl) w.heap.size (by rfl) 23 (supC s) (0, 0) _ (by exact r0) Tryd.underlying23 rfl (supN0 s) ?_))
  refine (h1 _).mono ?_
  rintro e w1 ⟨v1, rfl, hN1, b1⟩
  obtain ⟨ap, ac, rfl, ha1⟩ := hN1.src hml
  have r1 := hbel b1 r0 (hlt r0)
  replace B := B.trans (b1.mono B.size)
  clear b1 r0 hN1 h1
  go_wp2_with (first
    | (refine wpList_load_row_w (by rfl) 23 (.tmp 1) (by rfl) w.heap.size (by rfl) 23 (supC s) (0, 0) _ (by exact r1) Tryd.underlying23 rfl (supN0 s) ?_))
  refine (h2 w1 (hG.below B hG.1)).mono ?_
  rintro e w2 ⟨v2, rfl, hO2, b2⟩
  obtain ⟨bp, bc, rfl, hb2, _⟩ := hO2.form
  have ha2 := ha1.below b2 (Nat.le_refl _)
  replace B := B.trans (b2.mono B.size)
  clear b2 hO2 h2 ha1 r1
  have hsm := same_any w2 ps ps ap bp ac bc ha2 hb2
  rw [show decide (ps = ps) = true by simp] at hsm
  go_wp2_with fail
  refine hsm.mono ?_
  rintro e w3 ⟨rfl, b3⟩
  replace B := B.trans (b3.mono B.size)
  clear b3 hsm
  go_wp2
  go_ret
  exact ⟨rfl, B⟩
set_option maxRecDepth 100000 in
set_option maxHeartbeats 2000000 in
theorem reads_walk (w : World) (hG : Gl w) (zs : List Int) (h8 : Byts zs) (sp : Option Addr) (cap : Nat) (hS : Src w sp cap zs) (hlen : zs.length ≤ 140737488352000) :
    Calls Tryd.prog 5 #[.slice sp zs.length cap] w fun e w' => e = .returned (.bool true) ∧ Below w.heap.size w w' := by
  have i0 : (zs.length : Int) ≤ 140737488352000 := by omega
  go_enter Tryd.func5, Tryd.ntmps5
  go_wp2_with fail
  refine (copied_any w zs sp cap hS (by omega)).mono ?_
  rintro e w1 ⟨v1, rfl, hO1, b1⟩
  obtain ⟨lp, lc, rfl, hl1, _⟩ := hO1.form
  clear hO1
  go_wp2_with fail
  refine (roomy_any w1 zs lp lc hl1 hlen).mono ?_
  rintro e w2 ⟨g, uc, rest, rfl, hg, hI, huc, hum, BB⟩
  have HGL := hid (fun (w' : World) (hB : Below w1.heap.size w1 w') => show Gl w' from hG.below (b1.trans (hB.mono b1.size)) hG.1)
  have KP := hid (fun (w' : World) (hB : Below w1.heap.size w1 w') (hI' : In w' g rest (zs ++ t600)) => read5_any w' (HGL.out _ hB) zs h8 g uc rest hI' huc hum lp lc (hl1.below hB (Nat.le_refl _)) hlen)
  go_wp2_with fail
  refine (KP.out w2 BB hI).mono ?_
  rintro e w3 ⟨rfl, b3⟩
  replace hI := hI.bel b3
  replace BB := BB.trans (b3.mono BB.size)
  clear b3
  have hoth := other_any w3 zs h8 lp lc (hl1.below BB (Nat.le_refl _)) hlen 18 (by omega)
  rw [show ((18 : Nat) : Int) = 18 from rfl] at hoth
  go_wp2_with fail
  refine hoth.mono ?_
  rintro e w4 ⟨vv1, rfl, hV, bv⟩
  obtain ⟨vp1, vc1, rfl, _, _⟩ := hV.form
  have hvl := othF_len zs 18
  have hv8 := othF_byts h8 18
  have hgV : g < w3.heap.size := hlt hI
  replace hI := hI.bel bv
  replace BB := BB.trans (bv.mono BB.size)
  clear bv hoth
  generalize othF zs 18 = vs1 at *
  have hpl := place_new w4 w3.heap.size zs vs1 g uc rest hI hvl hgV vp1 vc1 hV hlen
  rw [hvl]
  rw [hvl] at hV
  go_wp2_with fail
  refine hpl.mono ?_
  rintro e w5 ⟨rfl, hI1, hK, hV1⟩
  replace BB := BB.trans (hK.below_g hg BB.size)
  clear hK hpl hI hV
  obtain ⟨_, _, hve, hVS, _⟩ := hV1.form
  simp only [Value.slice.injEq] at hve
  obtain ⟨rfl, _, rfl⟩ := hve
  have hask := read5_any w5 (HGL.out _ BB) vs1 hv8 g uc rest hI1 (by rw [hvl]; exact huc) hum vp1 vc1 hVS (by rw [hvl]; exact hlen)
  rw [hvl] at hask
  go_wp2_with fail
  refine hask.mono ?_
  rintro e w6 ⟨rfl, b6⟩
  replace hI1 := hI1.bel b6
  replace BB := BB.trans (b6.mono BB.size)
  clear b6 hask hV1 hVS
  have hpb := place_to w6 w1 vs1 zs g uc rest hI1 hvl.symm hg BB lp lc hl1 (by rw [hvl]; exact hlen)
  rw [hvl] at hpb
  go_wp2_with fail
  refine hpb.mono ?_
  rintro e w7 ⟨rfl, hI, BB7⟩
  replace BB := BB7
  clear hI1 hpb BB7 hvl hv8 hgV
  go_wp2_with fail
  refine (KP.out w7 BB hI).mono ?_
  rintro e w8 ⟨rfl, b8⟩
  replace hI := hI.bel b8
  replace BB := BB.trans (b8.mono BB.size)
  clear b8
  have hoth := other_any w8 zs h8 lp lc (hl1.below BB (Nat.le_refl _)) hlen 200 (by omega)
  rw [show ((200 : Nat) : Int) = 200 from rfl] at hoth
  go_wp2_with fail
  refine hoth.mono ?_
  rintro e w9 ⟨vv2, rfl, hV, bv⟩
  obtain ⟨vp2, vc2, rfl, _, _⟩ := hV.form
  have hvl := othF_len zs 200
  have hv8 := othF_byts h8 200
  have hgV : g < w8.heap.size := hlt hI
  replace hI := hI.bel bv
  replace BB := BB.trans (bv.mono BB.size)
  clear bv hoth
  generalize othF zs 200 = vs2 at *
  have hpl := place_new w9 w8.heap.size zs vs2 g uc rest hI hvl hgV vp2 vc2 hV hlen
  rw [hvl]
  rw [hvl] at hV
  go_wp2_with fail
  refine hpl.mono ?_
  rintro e w10 ⟨rfl, hI2, hK, hV2⟩
  replace BB := BB.trans (hK.below_g hg BB.size)
  clear hK hpl hI hV
  obtain ⟨_, _, hve, hVS, _⟩ := hV2.form
  simp only [Value.slice.injEq] at hve
  obtain ⟨rfl, _, rfl⟩ := hve
  have hask := read5_any w10 (HGL.out _ BB) vs2 hv8 g uc rest hI2 (by rw [hvl]; exact huc) hum vp2 vc2 hVS (by rw [hvl]; exact hlen)
  rw [hvl] at hask
  go_wp2_with fail
  refine hask.mono ?_
  rintro e w11 ⟨rfl, b11⟩
  replace hI2 := hI2.bel b11
  replace BB := BB.trans (b11.mono BB.size)
  clear b11 hask hV2 hVS
  go_wp2_with fail
  refine (knownSuper_any w11).mono ?_
  rintro e w12 ⟨rfl, b12⟩
  replace BB := BB.trans (b12.mono BB.size)
  have BF := b1.trans (BB.mono b1.size)
  clear b12 KP HGL BB hI2
  go_wp2
  go_ret
  exact ⟨rfl, BF⟩
end Go.Proofs.YtbddndcdcicnaabDoor
