import Derived.Test.YtjlakgojbfglhaaG20
namespace Go.Proofs.Ytjlakgojbfglhaa
set_option linter.unusedVariables false
set_option linter.unusedSimpArgs false
open Go.RowKit
attribute [local go_sem ↓] Go.wp_at_zero Go.wp_at_succ


theorem Src.take {w : World} {sp : Option Addr} {cap : Nat} {zs : List Int} (h : Src w sp cap zs) (n : Nat) : Src w sp cap (zs.take n) := by
  obtain ⟨h1, h2, b, o, h3, h4, h5⟩ := h
  refine ⟨by rw [List.length_take]; omega, h2, b, o, fun q => h3 (by rw [List.length_take] at q; omega), fun q => h4 (by rw [List.length_take] at q; omega), fun j hj => ?_⟩
  rw [List.length_take] at hj
  rw [h5 j (by omega), List.getD_eq_getElem?_getD, List.getD_eq_getElem?_getD, List.getElem?_take, if_pos (by omega)]
theorem Gr.ing {F F2 G : List Nat} {g : Nat} {w : World} (h : Gr w F F2) : Gr w (g :: (F ++ G)) F2 := fun k hk => (h k hk).imp (fun q => List.mem_cons_of_mem _ (List.mem_append_left _ q)) id
set_option maxRecDepth 100000 in
set_option maxHeartbeats 2000000 in
theorem act1bfull (w : World) (base : Nat) (F : List Nat) (p : Nat) (D : DS) (h : DA w base F p D) (hbw : base ≤ w.heap.size) (g : Nat) (s : Sup) (nx : Nat) (ep : Int) (hf : FK w g p s nx ep) (G : List Nat) (gb : Nat) (B : Bk) (hb : BA w base G gb B) (hap : Apart F G) (hgG : g ∉ G) (n c : Nat) (hlv : Lv D s nx ep B n c) (hc : c ≤ 1000) (N : Int) (hN : -9223372036854775808 ≤ N ∧ N ≤ 9223372036854775807) (l : List Int) (h8 : Byts l) (sp : Option Addr) (cap : Nat) (hS : Src w sp cap l) (hlm : l.length ≤ 140737488355000) (hll : l.length ≤ 246) (hx : nx = n) :
    Calls Try.prog 13 #[.pointer (some ⟨gb, 0, none⟩), .pointer (some ⟨p, 0, none⟩), .pointer (some ⟨g, 0, none⟩), .agg (actV 1 N sp l.length cap)] w fun e w' => ∃ er, e = .returned (.tuple #[.int .i64 er, .bool true]) ∧ AO base p g gb F G w n c ep D s (D.armed = 0) er w'  := by
  have hnp := h.ok.np
  have B0 := below_new w (.cells (actV 1 N sp l.length cap) 35)
  have cA := hnew w (.cells (actV 1 N sp l.length cap) 35)
  have cA0 : (w.alloc (.cells (actV 1 N sp l.length cap) 35)).cell? ⟨w.heap.size, 0, none⟩ = some (.int .i64 1) := by rw [cell_of_row _ _ _ _ _ _ cA]; rfl
  have cA1 : (w.alloc (.cells (actV 1 N sp l.length cap) 35)).cell? ⟨w.heap.size, 1, none⟩ = some (.int .i64 N) := by rw [cell_of_row _ _ _ _ _ _ cA]; rfl
  have cA2 : (w.alloc (.cells (actV 1 N sp l.length cap) 35)).cell? ⟨w.heap.size, 2, none⟩ = some (.slice sp l.length cap) := by rw [cell_of_row _ _ _ _ _ _ cA]; rfl
  have HF0 := hid (hf.below B0)
  have HD0 := hid (h.below B0)
  have HBB0 := hid (hb.below B0)
  have HNX := hid (FNext_any _ g p s nx ep HF0.out)
  have HB0 := hid B0
  have HD := hid h
  have HF := hid hf
  have HBB := hid hb
  have HAP := hid hap
  have HLV := hid hlv
  have HCC := hid hc
  have HPL := hid (place_any (w.alloc (.cells (actV 1 N sp l.length cap) 35)) N 3 (by decide) (by decide) hN.1 hN.2 3 rfl)
  obtain ⟨m, hm⟩ : ∃ m, m = N % 3 := ⟨_, rfl⟩
  rw [show ((3 : Nat) : Int) = 3 from rfl, ← hm] at HPL
  have hm1 : 0 ≤ m ∧ m ≤ 2 := by omega
  obtain ⟨m0, m1⟩ := hm1
  have HKD := hid (show kindOk (1 + m) = true from (kindOk_iff _).2 ⟨by omega, by omega⟩)
  have HCP := hid (copied_any (w.alloc (.cells (actV 1 N sp l.length cap) 35)) l sp cap (hS.below B0 (Nat.le_refl _)) (by omega))
  have HN2 := hid (show 2 ≤ nx by obtain ⟨mm, q1, q2, q3⟩ := sup_ma hlv.val hlv.pg; have := hlv.hnx; omega)
  have HGG := hid hgG
  have jn : (nx : Int) ≤ 64 := by have := hlv.small; have := hlv.hnx; omega
  have i6 : (l.length : Int) ≤ 246 := by omega
  have HL246 := hid hll
  have HL8 := hid h8
  have HX := hid hx
  clear h hf hb hap hlv hnp hS hN h8 B0 hgG hm hx hll cA
  go_enter Try.func13, Try.ntmps13
  go_wp2_with (first | (go_at_call 7; refine HNX.out.mono ?_; rintro e w1 ⟨rfl, rfl⟩) | (go_at_call 11; refine HPL.out.mono ?_; rintro e w1 ⟨rfl, rfl⟩))
  refine HCP.out.mono ?_
  rintro e w1 ⟨v1, rfl, hO1, hb1⟩
  obtain ⟨s1, c1, hv1, hsx, _⟩ := hO1.form
  subst hv1
  have HO1 := hid hO1
  have hB1 : Below w.heap.size w w1 := HB0.out.trans (hb1.mono HB0.out.size)
  have HB1 := hid hB1
  have HD1 := hid (HD.out.below hB1)
  have HF1 := hid (HF.out.below hB1)
  have HBA1 := hid (HBB.out.below hB1)
  have HS1 := hid (show Src w1 s1 c1 (l) from hsx)
  clear hO1 hb1 hB1 HCP cA0 cA1 cA2
  have HAP1 := hid (Append_full w1 base F p D HD1.out g s ep nx HF1.out HLV.out.live (HX.out.trans HLV.out.np.symm) (1 + m) HKD.out (l) HL246.out s1 c1)
  skip
  go_wp2_with fail
  refine HAP1.out.mono ?_
  rintro e w2 ⟨rfl, hb2⟩
  have HB2 := hid (HB1.out.trans (hb2.mono HB1.out.size))
  have HD2 := hid (HD1.out.below hb2)
  have HF2 := hid (HF1.out.below hb2)
  have c0 := HF2.out.c0
  have HPG := hid (Pages_any w2 base F p D HD2.out)
  rw [HLV.out.np, ← HX.out] at HPG
  clear hb2 HAP1
  go_wp2_with (first | (go_at_call 8; refine HPG.out.mono ?_; rintro e w3 ⟨rfl, rfl⟩))
  go_ret2
  exact ⟨0, rfl, D, s, nx, B, F, G, HD2.out, HF2.out, HBB.out.below HB2.out, HAP.out, (Fr.of_below (F := F) HB2.out).inl, Gr.refl _ _, Gr.refl _ _, Kp.same rfl, fun q => ⟨rfl, q⟩, Or.inl ⟨rfl, HLV.out.more⟩⟩
set_option maxRecDepth 100000 in
set_option maxHeartbeats 2000000 in
theorem act1bok (w : World) (base : Nat) (F : List Nat) (p : Nat) (D : DS) (h : DA w base F p D) (hbw : base ≤ w.heap.size) (g : Nat) (s : Sup) (nx : Nat) (ep : Int) (hf : FK w g p s nx ep) (G : List Nat) (gb : Nat) (B : Bk) (hb : BA w base G gb B) (hap : Apart F G) (hgG : g ∉ G) (n c : Nat) (hlv : Lv D s nx ep B n c) (hc : c ≤ 1000) (N : Int) (hN : -9223372036854775808 ≤ N ∧ N ≤ 9223372036854775807) (l : List Int) (h8 : Byts l) (sp : Option Addr) (cap : Nat) (hS : Src w sp cap l) (hlm : l.length ≤ 140737488355000) (hll : l.length ≤ 246) (hx : nx < n) (ha : D.armed ≠ 1) :
    Calls Try.prog 13 #[.pointer (some ⟨gb, 0, none⟩), .pointer (some ⟨p, 0, none⟩), .pointer (some ⟨g, 0, none⟩), .agg (actV 1 N sp l.length cap)] w fun e w' => ∃ er, e = .returned (.tuple #[.int .i64 er, .bool true]) ∧ AO base p g gb F G w n c ep D s (D.armed = 0) er w'  := by
  have hnp := h.ok.np
  have B0 := below_new w (.cells (actV 1 N sp l.length cap) 35)
  have cA := hnew w (.cells (actV 1 N sp l.length cap) 35)
  have cA0 : (w.alloc (.cells (actV 1 N sp l.length cap) 35)).cell? ⟨w.heap.size, 0, none⟩ = some (.int .i64 1) := by rw [cell_of_row _ _ _ _ _ _ cA]; rfl
  have cA1 : (w.alloc (.cells (actV 1 N sp l.length cap) 35)).cell? ⟨w.heap.size, 1, none⟩ = some (.int .i64 N) := by rw [cell_of_row _ _ _ _ _ _ cA]; rfl
  have cA2 : (w.alloc (.cells (actV 1 N sp l.length cap) 35)).cell? ⟨w.heap.size, 2, none⟩ = some (.slice sp l.length cap) := by rw [cell_of_row _ _ _ _ _ _ cA]; rfl
  have HF0 := hid (hf.below B0)
  have HD0 := hid (h.below B0)
  have HBB0 := hid (hb.below B0)
  have HNX := hid (FNext_any _ g p s nx ep HF0.out)
  have HB0 := hid B0
  have HD := hid h
  have HF := hid hf
  have HBB := hid hb
  have HAP := hid hap
  have HLV := hid hlv
  have HCC := hid hc
  have HPL := hid (place_any (w.alloc (.cells (actV 1 N sp l.length cap) 35)) N 3 (by decide) (by decide) hN.1 hN.2 3 rfl)
  obtain ⟨m, hm⟩ : ∃ m, m = N % 3 := ⟨_, rfl⟩
  rw [show ((3 : Nat) : Int) = 3 from rfl, ← hm] at HPL
  have hm1 : 0 ≤ m ∧ m ≤ 2 := by omega
  obtain ⟨m0, m1⟩ := hm1
  have HKD := hid (show kindOk (1 + m) = true from (kindOk_iff _).2 ⟨by omega, by omega⟩)
  have HCP := hid (copied_any (w.alloc (.cells (actV 1 N sp l.length cap) 35)) l sp cap (hS.below B0 (Nat.le_refl _)) (by omega))
  have HN2 := hid (show 2 ≤ nx by obtain ⟨mm, q1, q2, q3⟩ := sup_ma hlv.val hlv.pg; have := hlv.hnx; omega)
  have HGG := hid hgG
  have jn : (nx : Int) ≤ 64 := by have := hlv.small; have := hlv.hnx; omega
  have i6 : (l.length : Int) ≤ 246 := by omega
  have HL246 := hid hll
  have HL8 := hid h8
  have HX := hid hx
  have HARM := hid ha
  have j5 : (nx : Int) < (n : Int) := by omega
  clear h hf hb hap hlv hnp hS hN h8 B0 hgG hm hx ha hll cA
  go_enter Try.func13, Try.ntmps13
  go_wp2_with (first | (go_at_call 7; refine HNX.out.mono ?_; rintro e w1 ⟨rfl, rfl⟩) | (go_at_call 11; refine HPL.out.mono ?_; rintro e w1 ⟨rfl, rfl⟩))
  refine HCP.out.mono ?_
  rintro e w1 ⟨v1, rfl, hO1, hb1⟩
  obtain ⟨s1, c1, hv1, hsx, _⟩ := hO1.form
  subst hv1
  have HO1 := hid hO1
  have hB1 : Below w.heap.size w w1 := HB0.out.trans (hb1.mono HB0.out.size)
  have HB1 := hid hB1
  have HD1 := hid (HD.out.below hB1)
  have HF1 := hid (HF.out.below hB1)
  have HBA1 := hid (HBB.out.below hB1)
  have HS1 := hid (show Src w1 s1 c1 (l) from hsx)
  clear hO1 hb1 hB1 HCP cA0 cA1 cA2
  have HAP1 := hid (Append_in w1 base F p D HD1.out (Nat.le_trans hbw HB1.out.size) g s ep nx HF1.out HLV.out.live ⟨HN2.out, by rw [HLV.out.np]; exact HX.out⟩ (1 + m) HKD.out (l) HL8.out HL246.out s1 c1 HS1.out (by have := HLV.out.cnt; omega) (by have := HLV.out.cnt; omega))
  skip
  go_wp2_with fail
  refine HAP1.out.mono ?_
  rintro e w2 ⟨ho, hdn⟩
  obtain ⟨rfl, F2, q1, q2, q3, q4⟩ := ho HARM.out
  have c0 := q2.c0
  have HPG := hid (Pages_any w2 base F2 p _ q1)
  rw [show (D.wr ⟨nx, pageP (1 + m) nx (l)⟩).np = n from (np_img (by rw [(wr_img D _).1])).trans HLV.out.np] at HPG
  have HNX2 := hid (FNext_any w2 g p s (nx + 1 : Nat) ep q2)
  have HD2 := hid q1
  have HF2 := hid q2
  have HFR := hid (((Fr.of_below (F := g :: F) HB1.out)).trans q3 (Gr.refl _ _))
  have hba2 : BA w2 base G gb B := HBA1.out.other q3 (fun k hk e => by rcases List.mem_cons.1 hk with q | q; exact HGG.out (q ▸ e); exact HAP.out k q e)
  have HBA2 := hid hba2
  have HGR := hid (show Gr w F F2 from fun k hk => (q4 k hk).imp id (fun x => Nat.le_trans HB1.out.size x))
  have HAP2 := hid (show Apart F2 G from HAP.out.step (fun k hk => (HBB.out.lt k hk).2) HGR.out)
  have hO2 : Own w2 (w.alloc (.cells (actV 1 N sp l.length cap) 35)).heap.size (.slice s1 l.length c1) l := HO1.out.heap fun k e => by
    obtain ⟨b1, cur, hc1⟩ := ownsRow_block HO1.out k e
    have b2 : w.heap.size ≤ k := Nat.le_trans HB0.out.size b1
    refine q3.block k (hlt_ hc1) (fun e2 => ?_)
    rcases List.mem_cons.1 e2 with q | q
    · have := hlt_ HF.out; omega
    · have := (HD.out.lt k q).2; omega
  have HS2 := hid (show Src w2 s1 c1 (l) from (by obtain ⟨sx, cx, hvx, hsx2, _⟩ := hO2.form; simp only [Value.slice.injEq] at hvx; obtain ⟨rfl, _, rfl⟩ := hvx; exact hsx2))
  obtain ⟨hlv3, hpgs3⟩ := HLV.out.append HX.out HCC.out (1 + m) HKD.out (l) HL8.out HL246.out HARM.out
  have HLV3 := hid hlv3
  have HPGS3 := hid hpgs3
  have hlen := HLV.out.len
  obtain ⟨lv, kv, vs, hbi⟩ := hba2
  have HPUT := hid (put_in w2 base G gb lv kv vs B hbi (Nat.le_trans hbw (Nat.le_trans HB1.out.size q3.size)) nx ⟨HN2.out, hlen.2.1⟩ hlen.1 (by have := HLV.out.small; omega) (1 + m) (l) s1 c1 HS2.out (by have := HL246.out; omega))
  skip
  have HBS := hid q3
  clear ho hdn q1 q2 q3 q4 HAP1 hO2 hlv3 hpgs3 hlen hbi
  go_wp2_with (first | (go_at_call 8; refine HPG.out.mono ?_; rintro e w3 ⟨rfl, rfl⟩) | (go_at_call 7; refine HNX2.out.mono ?_; rintro e w3 ⟨rfl, rfl⟩))
  refine HPUT.out.mono ?_
  rintro e w3 ⟨rfl, G3, hba3, hfr3, hgr3⟩
  have HD3 := hid (HD2.out.apart hfr3 HAP2.out)
  have HF3 := hid (show FK w3 g p s (nx + 1 : Nat) ep from hfr3.keep HF2.out HGG.out)
  have HAP3 := hid (show Apart F2 G3 from (HAP2.out.symm.step (fun k hk => (HD2.out.lt k hk).2) hgr3).symm)
  have HBA3 := hid hba3
  have HFR3 := hid hfr3
  have HGR3 := hid (show Gr w G G3 from fun k hk => (hgr3 k hk).imp id (fun x => Nat.le_trans HFR.out.size x))
  have HHO := hid (holds_in w3 base F2 p _ HD3.out g s (nx + 1 : Nat) ep HF3.out (show liveF (D.wr ⟨nx, pageP (1 + m) nx (l)⟩) ep = 0 from by unfold liveF; rw [if_neg (fun q => q HLV3.out.hep), if_pos HLV3.out.pw]) G3 gb _ hba3 HAP3.out HLV3.out.len.1 (nx + 1) ⟨by have := HN2.out; omega, HLV3.out.len.2.1, Int.le_refl _, by rw [show (D.wr ⟨nx, pageP (1 + m) nx (l)⟩).np = n from HLV3.out.np]; exact HX.out⟩ HPGS3.out (by have := HLV.out.cnt; rw [(wr_img D _).2.2.2.1]; have := HLV.out.small; have := HX.out; omega))
  clear hba3 hfr3 hgr3 HPUT HPG HNX2
  have e1 : ((nx : Int) + 1) = ((nx + 1 : Nat) : Int) := by push_cast; rfl
  rw [← e1] at HHO
  clear e1
  go_wp2_with fail
  refine HHO.out.mono ?_
  rintro e w4 ⟨rfl, hD4, hF4⟩
  have HD4 := hid hD4
  have HF4 := hid hF4
  have HK4 := hid (HF3.out.other HD3.out hF4)
  have HBA4 := hid (HBA3.out.other hF4 HAP3.out)
  clear hD4 hF4 HHO
  go_wp2
  go_ret2
  exact ⟨0, rfl, _, s, nx + 1, _, F2, G3, HD4.out, HK4.out, HBA4.out, HAP3.out, (HFR.out.ing.trans HFR3.out.inr (Gr.refl _ _)).trans HF4.out HGR.out.ing, HGR.out, HGR3.out, Kp.same (wr_img D _).1, fun q => ⟨rfl, by show (D.wr ⟨nx, pageP (1 + m) nx (l)⟩).armed = 0; rw [(wr_arm D _ HLV.out.ok.armed.1).1, if_pos q]⟩, Or.inl ⟨rfl, HLV3.out⟩⟩
set_option maxRecDepth 100000 in
set_option maxHeartbeats 2000000 in
theorem act1bdown (w : World) (base : Nat) (F : List Nat) (p : Nat) (D : DS) (h : DA w base F p D) (hbw : base ≤ w.heap.size) (g : Nat) (s : Sup) (nx : Nat) (ep : Int) (hf : FK w g p s nx ep) (G : List Nat) (gb : Nat) (B : Bk) (hb : BA w base G gb B) (hap : Apart F G) (hgG : g ∉ G) (n c : Nat) (hlv : Lv D s nx ep B n c) (hc : c ≤ 1000) (N : Int) (hN : -9223372036854775808 ≤ N ∧ N ≤ 9223372036854775807) (l : List Int) (h8 : Byts l) (sp : Option Addr) (cap : Nat) (hS : Src w sp cap l) (hlm : l.length ≤ 140737488355000) (hll : l.length ≤ 246) (hx : nx < n) (ha : D.armed = 1) :
    Calls Try.prog 13 #[.pointer (some ⟨gb, 0, none⟩), .pointer (some ⟨p, 0, none⟩), .pointer (some ⟨g, 0, none⟩), .agg (actV 1 N sp l.length cap)] w fun e w' => ∃ er, e = .returned (.tuple #[.int .i64 er, .bool true]) ∧ AO base p g gb F G w n c ep D s (D.armed = 0) er w'  := by
  have hnp := h.ok.np
  have B0 := below_new w (.cells (actV 1 N sp l.length cap) 35)
  have cA := hnew w (.cells (actV 1 N sp l.length cap) 35)
  have cA0 : (w.alloc (.cells (actV 1 N sp l.length cap) 35)).cell? ⟨w.heap.size, 0, none⟩ = some (.int .i64 1) := by rw [cell_of_row _ _ _ _ _ _ cA]; rfl
  have cA1 : (w.alloc (.cells (actV 1 N sp l.length cap) 35)).cell? ⟨w.heap.size, 1, none⟩ = some (.int .i64 N) := by rw [cell_of_row _ _ _ _ _ _ cA]; rfl
  have cA2 : (w.alloc (.cells (actV 1 N sp l.length cap) 35)).cell? ⟨w.heap.size, 2, none⟩ = some (.slice sp l.length cap) := by rw [cell_of_row _ _ _ _ _ _ cA]; rfl
  have HF0 := hid (hf.below B0)
  have HD0 := hid (h.below B0)
  have HBB0 := hid (hb.below B0)
  have HNX := hid (FNext_any _ g p s nx ep HF0.out)
  have HB0 := hid B0
  have HD := hid h
  have HF := hid hf
  have HBB := hid hb
  have HAP := hid hap
  have HLV := hid hlv
  have HCC := hid hc
  have HPL := hid (place_any (w.alloc (.cells (actV 1 N sp l.length cap) 35)) N 3 (by decide) (by decide) hN.1 hN.2 3 rfl)
  obtain ⟨m, hm⟩ : ∃ m, m = N % 3 := ⟨_, rfl⟩
  rw [show ((3 : Nat) : Int) = 3 from rfl, ← hm] at HPL
  have hm1 : 0 ≤ m ∧ m ≤ 2 := by omega
  obtain ⟨m0, m1⟩ := hm1
  have HKD := hid (show kindOk (1 + m) = true from (kindOk_iff _).2 ⟨by omega, by omega⟩)
  have HCP := hid (copied_any (w.alloc (.cells (actV 1 N sp l.length cap) 35)) l sp cap (hS.below B0 (Nat.le_refl _)) (by omega))
  have HN2 := hid (show 2 ≤ nx by obtain ⟨mm, q1, q2, q3⟩ := sup_ma hlv.val hlv.pg; have := hlv.hnx; omega)
  have HGG := hid hgG
  have jn : (nx : Int) ≤ 64 := by have := hlv.small; have := hlv.hnx; omega
  have i6 : (l.length : Int) ≤ 246 := by omega
  have HL246 := hid hll
  have HL8 := hid h8
  have HX := hid hx
  have HARM := hid ha
  have j5 : (nx : Int) < (n : Int) := by omega
  clear h hf hb hap hlv hnp hS hN h8 B0 hgG hm hx ha hll cA
  go_enter Try.func13, Try.ntmps13
  go_wp2_with (first | (go_at_call 7; refine HNX.out.mono ?_; rintro e w1 ⟨rfl, rfl⟩) | (go_at_call 11; refine HPL.out.mono ?_; rintro e w1 ⟨rfl, rfl⟩))
  refine HCP.out.mono ?_
  rintro e w1 ⟨v1, rfl, hO1, hb1⟩
  obtain ⟨s1, c1, hv1, hsx, _⟩ := hO1.form
  subst hv1
  have HO1 := hid hO1
  have hB1 : Below w.heap.size w w1 := HB0.out.trans (hb1.mono HB0.out.size)
  have HB1 := hid hB1
  have HD1 := hid (HD.out.below hB1)
  have HF1 := hid (HF.out.below hB1)
  have HBA1 := hid (HBB.out.below hB1)
  have HS1 := hid (show Src w1 s1 c1 (l) from hsx)
  clear hO1 hb1 hB1 HCP cA0 cA1 cA2
  have HAP1 := hid (Append_in w1 base F p D HD1.out (Nat.le_trans hbw HB1.out.size) g s ep nx HF1.out HLV.out.live ⟨HN2.out, by rw [HLV.out.np]; exact HX.out⟩ (1 + m) HKD.out (l) HL8.out HL246.out s1 c1 HS1.out (by have := HLV.out.cnt; omega) (by have := HLV.out.cnt; omega))
  skip
  go_wp2_with fail
  refine HAP1.out.mono ?_
  rintro e w2 ⟨ho, hdn⟩
  obtain ⟨rfl, F2, q1, q2, q3, q4⟩ := hdn HARM.out
  have c0 := q2.c0
  have HPG := hid (Pages_any w2 base F2 p _ q1)
  rw [show (D.wr ⟨nx, pageP (1 + m) nx (l)⟩).np = n from (np_img (by rw [(wr_img D _).1])).trans HLV.out.np] at HPG
  have HNX2 := hid (FNext_any w2 g p s nx ep q2)
  have HD2 := hid q1
  have HF2 := hid q2
  have HFR := hid (((Fr.of_below (F := g :: F) HB1.out)).trans q3 (Gr.refl _ _))
  have HBA2 := hid (HBA1.out.other q3 (fun k hk e => by rcases List.mem_cons.1 hk with q | q; exact HGG.out (q ▸ e); exact HAP.out k q e))
  have HGR := hid (show Gr w F F2 from fun k hk => (q4 k hk).imp id (fun x => Nat.le_trans HB1.out.size x))
  have HPF := hid ((wr_arm D ⟨nx, pageP (1 + m) nx (l)⟩ HLV.out.ok.armed.1).2.2 HARM.out)
  have HEP := hid ((wr_img D ⟨nx, pageP (1 + m) nx (l)⟩).2.2.1.trans HLV.out.hep)
  have HCR := hid (HLV.out.append_down HX.out HCC.out (1 + m) HKD.out (l) HL8.out HL246.out)
  clear ho hdn q1 q2 q3 q4 HAP1
  go_wp2_with (first | (go_at_call 8; refine HPG.out.mono ?_; rintro e w3 ⟨rfl, rfl⟩) | (go_at_call 7; refine HNX2.out.mono ?_; rintro e w3 ⟨rfl, rfl⟩))
  go_ret2
  exact ⟨2, rfl, _, s, nx, B, F2, G, HD2.out, HF2.out, HBA2.out, HAP.out.step (fun k hk => (HBB.out.lt k hk).2) HGR.out, HFR.out.ing, HGR.out, Gr.refl _ _, Kp.same (wr_img D _).1, fun q => by have := HARM.out; omega, Or.inr ⟨rfl, HPF.out, HEP.out, by rw [HLV.out.bk.1]; exact Int.le_refl _, HCR.out⟩⟩
set_option maxRecDepth 100000 in
set_option maxHeartbeats 2000000 in
theorem act1cfull (w : World) (base : Nat) (F : List Nat) (p : Nat) (D : DS) (h : DA w base F p D) (hbw : base ≤ w.heap.size) (g : Nat) (s : Sup) (nx : Nat) (ep : Int) (hf : FK w g p s nx ep) (G : List Nat) (gb : Nat) (B : Bk) (hb : BA w base G gb B) (hap : Apart F G) (hgG : g ∉ G) (n c : Nat) (hlv : Lv D s nx ep B n c) (hc : c ≤ 1000) (N : Int) (hN : -9223372036854775808 ≤ N ∧ N ≤ 9223372036854775807) (l : List Int) (h8 : Byts l) (sp : Option Addr) (cap : Nat) (hS : Src w sp cap l) (hlm : l.length ≤ 140737488355000) (hll : 246 < l.length) (hx : nx = n) :
    Calls Try.prog 13 #[.pointer (some ⟨gb, 0, none⟩), .pointer (some ⟨p, 0, none⟩), .pointer (some ⟨g, 0, none⟩), .agg (actV 1 N sp l.length cap)] w fun e w' => ∃ er, e = .returned (.tuple #[.int .i64 er, .bool true]) ∧ AO base p g gb F G w n c ep D s (D.armed = 0) er w'  := by
  have hnp := h.ok.np
  have B0 := below_new w (.cells (actV 1 N sp l.length cap) 35)
  have cA := hnew w (.cells (actV 1 N sp l.length cap) 35)
  have cA0 : (w.alloc (.cells (actV 1 N sp l.length cap) 35)).cell? ⟨w.heap.size, 0, none⟩ = some (.int .i64 1) := by rw [cell_of_row _ _ _ _ _ _ cA]; rfl
  have cA1 : (w.alloc (.cells (actV 1 N sp l.length cap) 35)).cell? ⟨w.heap.size, 1, none⟩ = some (.int .i64 N) := by rw [cell_of_row _ _ _ _ _ _ cA]; rfl
  have cA2 : (w.alloc (.cells (actV 1 N sp l.length cap) 35)).cell? ⟨w.heap.size, 2, none⟩ = some (.slice sp l.length cap) := by rw [cell_of_row _ _ _ _ _ _ cA]; rfl
  have HF0 := hid (hf.below B0)
  have HD0 := hid (h.below B0)
  have HBB0 := hid (hb.below B0)
  have HNX := hid (FNext_any _ g p s nx ep HF0.out)
  have HB0 := hid B0
  have HD := hid h
  have HF := hid hf
  have HBB := hid hb
  have HAP := hid hap
  have HLV := hid hlv
  have HCC := hid hc
  have HPL := hid (place_any (w.alloc (.cells (actV 1 N sp l.length cap) 35)) N 3 (by decide) (by decide) hN.1 hN.2 3 rfl)
  obtain ⟨m, hm⟩ : ∃ m, m = N % 3 := ⟨_, rfl⟩
  rw [show ((3 : Nat) : Int) = 3 from rfl, ← hm] at HPL
  have hm1 : 0 ≤ m ∧ m ≤ 2 := by omega
  obtain ⟨m0, m1⟩ := hm1
  have HKD := hid (show kindOk (1 + m) = true from (kindOk_iff _).2 ⟨by omega, by omega⟩)
  have HCP := hid (copied_any (w.alloc (.cells (actV 1 N sp l.length cap) 35)) l sp cap (hS.below B0 (Nat.le_refl _)) (by omega))
  have HN2 := hid (show 2 ≤ nx by obtain ⟨mm, q1, q2, q3⟩ := sup_ma hlv.val hlv.pg; have := hlv.hnx; omega)
  have HGG := hid hgG
  have jn : (nx : Int) ≤ 64 := by have := hlv.small; have := hlv.hnx; omega
  have i6 : 246 < (l.length : Int) := by omega
  have HL246 := hid (show (l.take 246).length ≤ 246 by rw [List.length_take]; omega)
  have HL8 := hid (h8.take 246)
  have HLE := hid (show (l.take 246).length = 246 by rw [List.length_take]; omega)
  have HX := hid hx
  clear h hf hb hap hlv hnp hS hN h8 B0 hgG hm hx hll cA
  go_enter Try.func13, Try.ntmps13
  go_wp2_with (first | (go_at_call 7; refine HNX.out.mono ?_; rintro e w1 ⟨rfl, rfl⟩) | (go_at_call 11; refine HPL.out.mono ?_; rintro e w1 ⟨rfl, rfl⟩))
  refine HCP.out.mono ?_
  rintro e w1 ⟨v1, rfl, hO1, hb1⟩
  obtain ⟨b1, c1, rest1, hv1, _, hr1, hc1, hm1, _⟩ := own_in hO1 (by omega)
  subst hv1
  have i7 : 246 ≤ (c1 : Int) := by omega
  have i8 : (c1 : Int) ≤ 9223372036854775807 := by unfold maxLen at hm1; omega
  have i9 : 246 ≤ c1 := by omega
  obtain ⟨sx, cx, hvx, hsx, _⟩ := hO1.form
  simp only [Value.slice.injEq] at hvx
  obtain ⟨rfl, _, rfl⟩ := hvx
  have HO1 := hid hO1
  have hB1 : Below w.heap.size w w1 := HB0.out.trans (hb1.mono HB0.out.size)
  have HB1 := hid hB1
  have HD1 := hid (HD.out.below hB1)
  have HF1 := hid (HF.out.below hB1)
  have HBA1 := hid (HBB.out.below hB1)
  have HS1 := hid (show Src w1 (some ⟨b1, 0, none⟩) c1 (l.take 246) from hsx.take 246)
  clear hO1 hb1 hB1 HCP cA0 cA1 cA2
  have HAP1 := hid (Append_full w1 base F p D HD1.out g s ep nx HF1.out HLV.out.live (HX.out.trans HLV.out.np.symm) (1 + m) HKD.out (l.take 246) HL246.out (some ⟨b1, 0, none⟩) c1)
  rw [HLE.out] at HAP1
  go_wp2_with fail
  refine HAP1.out.mono ?_
  rintro e w2 ⟨rfl, hb2⟩
  have HB2 := hid (HB1.out.trans (hb2.mono HB1.out.size))
  have HD2 := hid (HD1.out.below hb2)
  have HF2 := hid (HF1.out.below hb2)
  have c0 := HF2.out.c0
  have HPG := hid (Pages_any w2 base F p D HD2.out)
  rw [HLV.out.np, ← HX.out] at HPG
  clear hb2 HAP1
  go_wp2_with (first | (go_at_call 8; refine HPG.out.mono ?_; rintro e w3 ⟨rfl, rfl⟩))
  go_ret2
  exact ⟨0, rfl, D, s, nx, B, F, G, HD2.out, HF2.out, HBB.out.below HB2.out, HAP.out, (Fr.of_below (F := F) HB2.out).inl, Gr.refl _ _, Gr.refl _ _, Kp.same rfl, fun q => ⟨rfl, q⟩, Or.inl ⟨rfl, HLV.out.more⟩⟩
set_option maxRecDepth 100000 in
set_option maxHeartbeats 2000000 in
theorem act1cok (w : World) (base : Nat) (F : List Nat) (p : Nat) (D : DS) (h : DA w base F p D) (hbw : base ≤ w.heap.size) (g : Nat) (s : Sup) (nx : Nat) (ep : Int) (hf : FK w g p s nx ep) (G : List Nat) (gb : Nat) (B : Bk) (hb : BA w base G gb B) (hap : Apart F G) (hgG : g ∉ G) (n c : Nat) (hlv : Lv D s nx ep B n c) (hc : c ≤ 1000) (N : Int) (hN : -9223372036854775808 ≤ N ∧ N ≤ 9223372036854775807) (l : List Int) (h8 : Byts l) (sp : Option Addr) (cap : Nat) (hS : Src w sp cap l) (hlm : l.length ≤ 140737488355000) (hll : 246 < l.length) (hx : nx < n) (ha : D.armed ≠ 1) :
    Calls Try.prog 13 #[.pointer (some ⟨gb, 0, none⟩), .pointer (some ⟨p, 0, none⟩), .pointer (some ⟨g, 0, none⟩), .agg (actV 1 N sp l.length cap)] w fun e w' => ∃ er, e = .returned (.tuple #[.int .i64 er, .bool true]) ∧ AO base p g gb F G w n c ep D s (D.armed = 0) er w'  := by
  have hnp := h.ok.np
  have B0 := below_new w (.cells (actV 1 N sp l.length cap) 35)
  have cA := hnew w (.cells (actV 1 N sp l.length cap) 35)
  have cA0 : (w.alloc (.cells (actV 1 N sp l.length cap) 35)).cell? ⟨w.heap.size, 0, none⟩ = some (.int .i64 1) := by rw [cell_of_row _ _ _ _ _ _ cA]; rfl
  have cA1 : (w.alloc (.cells (actV 1 N sp l.length cap) 35)).cell? ⟨w.heap.size, 1, none⟩ = some (.int .i64 N) := by rw [cell_of_row _ _ _ _ _ _ cA]; rfl
  have cA2 : (w.alloc (.cells (actV 1 N sp l.length cap) 35)).cell? ⟨w.heap.size, 2, none⟩ = some (.slice sp l.length cap) := by rw [cell_of_row _ _ _ _ _ _ cA]; rfl
  have HF0 := hid (hf.below B0)
  have HD0 := hid (h.below B0)
  have HBB0 := hid (hb.below B0)
  have HNX := hid (FNext_any _ g p s nx ep HF0.out)
  have HB0 := hid B0
  have HD := hid h
  have HF := hid hf
  have HBB := hid hb
  have HAP := hid hap
  have HLV := hid hlv
  have HCC := hid hc
  have HPL := hid (place_any (w.alloc (.cells (actV 1 N sp l.length cap) 35)) N 3 (by decide) (by decide) hN.1 hN.2 3 rfl)
  obtain ⟨m, hm⟩ : ∃ m, m = N % 3 := ⟨_, rfl⟩
  rw [show ((3 : Nat) : Int) = 3 from rfl, ← hm] at HPL
  have hm1 : 0 ≤ m ∧ m ≤ 2 := by omega
  obtain ⟨m0, m1⟩ := hm1
  have HKD := hid (show kindOk (1 + m) = true from (kindOk_iff _).2 ⟨by omega, by omega⟩)
  have HCP := hid (copied_any (w.alloc (.cells (actV 1 N sp l.length cap) 35)) l sp cap (hS.below B0 (Nat.le_refl _)) (by omega))
  have HN2 := hid (show 2 ≤ nx by obtain ⟨mm, q1, q2, q3⟩ := sup_ma hlv.val hlv.pg; have := hlv.hnx; omega)
  have HGG := hid hgG
  have jn : (nx : Int) ≤ 64 := by have := hlv.small; have := hlv.hnx; omega
  have i6 : 246 < (l.length : Int) := by omega
  have HL246 := hid (show (l.take 246).length ≤ 246 by rw [List.length_take]; omega)
  have HL8 := hid (h8.take 246)
  have HLE := hid (show (l.take 246).length = 246 by rw [List.length_take]; omega)
  have HX := hid hx
  have HARM := hid ha
  have j5 : (nx : Int) < (n : Int) := by omega
  clear h hf hb hap hlv hnp hS hN h8 B0 hgG hm hx ha hll cA
  go_enter Try.func13, Try.ntmps13
  go_wp2_with (first | (go_at_call 7; refine HNX.out.mono ?_; rintro e w1 ⟨rfl, rfl⟩) | (go_at_call 11; refine HPL.out.mono ?_; rintro e w1 ⟨rfl, rfl⟩))
  refine HCP.out.mono ?_
  rintro e w1 ⟨v1, rfl, hO1, hb1⟩
  obtain ⟨b1, c1, rest1, hv1, _, hr1, hc1, hm1, _⟩ := own_in hO1 (by omega)
  subst hv1
  have i7 : 246 ≤ (c1 : Int) := by omega
  have i8 : (c1 : Int) ≤ 9223372036854775807 := by unfold maxLen at hm1; omega
  have i9 : 246 ≤ c1 := by omega
  obtain ⟨sx, cx, hvx, hsx, _⟩ := hO1.form
  simp only [Value.slice.injEq] at hvx
  obtain ⟨rfl, _, rfl⟩ := hvx
  have HO1 := hid hO1
  have hB1 : Below w.heap.size w w1 := HB0.out.trans (hb1.mono HB0.out.size)
  have HB1 := hid hB1
  have HD1 := hid (HD.out.below hB1)
  have HF1 := hid (HF.out.below hB1)
  have HBA1 := hid (HBB.out.below hB1)
  have HS1 := hid (show Src w1 (some ⟨b1, 0, none⟩) c1 (l.take 246) from hsx.take 246)
  clear hO1 hb1 hB1 HCP cA0 cA1 cA2
  have HAP1 := hid (Append_in w1 base F p D HD1.out (Nat.le_trans hbw HB1.out.size) g s ep nx HF1.out HLV.out.live ⟨HN2.out, by rw [HLV.out.np]; exact HX.out⟩ (1 + m) HKD.out (l.take 246) HL8.out HL246.out (some ⟨b1, 0, none⟩) c1 HS1.out (by have := HLV.out.cnt; omega) (by have := HLV.out.cnt; omega))
  rw [HLE.out] at HAP1
  go_wp2_with fail
  refine HAP1.out.mono ?_
  rintro e w2 ⟨ho, hdn⟩
  obtain ⟨rfl, F2, q1, q2, q3, q4⟩ := ho HARM.out
  have c0 := q2.c0
  have HPG := hid (Pages_any w2 base F2 p _ q1)
  rw [show (D.wr ⟨nx, pageP (1 + m) nx (l.take 246)⟩).np = n from (np_img (by rw [(wr_img D _).1])).trans HLV.out.np] at HPG
  have HNX2 := hid (FNext_any w2 g p s (nx + 1 : Nat) ep q2)
  have HD2 := hid q1
  have HF2 := hid q2
  have HFR := hid (((Fr.of_below (F := g :: F) HB1.out)).trans q3 (Gr.refl _ _))
  have hba2 : BA w2 base G gb B := HBA1.out.other q3 (fun k hk e => by rcases List.mem_cons.1 hk with q | q; exact HGG.out (q ▸ e); exact HAP.out k q e)
  have HBA2 := hid hba2
  have HGR := hid (show Gr w F F2 from fun k hk => (q4 k hk).imp id (fun x => Nat.le_trans HB1.out.size x))
  have HAP2 := hid (show Apart F2 G from HAP.out.step (fun k hk => (HBB.out.lt k hk).2) HGR.out)
  have hO2 : Own w2 (w.alloc (.cells (actV 1 N sp l.length cap) 35)).heap.size (.slice (some ⟨b1, 0, none⟩) l.length c1) l := HO1.out.heap fun k e => by
    obtain ⟨b1, cur, hc1⟩ := ownsRow_block HO1.out k e
    have b2 : w.heap.size ≤ k := Nat.le_trans HB0.out.size b1
    refine q3.block k (hlt_ hc1) (fun e2 => ?_)
    rcases List.mem_cons.1 e2 with q | q
    · have := hlt_ HF.out; omega
    · have := (HD.out.lt k q).2; omega
  have HS2 := hid (show Src w2 (some ⟨b1, 0, none⟩) c1 (l.take 246) from (by obtain ⟨sx, cx, hvx, hsx2, _⟩ := hO2.form; simp only [Value.slice.injEq] at hvx; obtain ⟨rfl, _, rfl⟩ := hvx; exact hsx2.take 246))
  obtain ⟨hlv3, hpgs3⟩ := HLV.out.append HX.out HCC.out (1 + m) HKD.out (l.take 246) HL8.out HL246.out HARM.out
  have HLV3 := hid hlv3
  have HPGS3 := hid hpgs3
  have hlen := HLV.out.len
  obtain ⟨lv, kv, vs, hbi⟩ := hba2
  have HPUT := hid (put_in w2 base G gb lv kv vs B hbi (Nat.le_trans hbw (Nat.le_trans HB1.out.size q3.size)) nx ⟨HN2.out, hlen.2.1⟩ hlen.1 (by have := HLV.out.small; omega) (1 + m) (l.take 246) (some ⟨b1, 0, none⟩) c1 HS2.out (by have := HL246.out; omega))
  rw [HLE.out] at HPUT
  have HBS := hid q3
  clear ho hdn q1 q2 q3 q4 HAP1 hO2 hlv3 hpgs3 hlen hbi
  go_wp2_with (first | (go_at_call 8; refine HPG.out.mono ?_; rintro e w3 ⟨rfl, rfl⟩) | (go_at_call 7; refine HNX2.out.mono ?_; rintro e w3 ⟨rfl, rfl⟩))
  refine HPUT.out.mono ?_
  rintro e w3 ⟨rfl, G3, hba3, hfr3, hgr3⟩
  have HD3 := hid (HD2.out.apart hfr3 HAP2.out)
  have HF3 := hid (show FK w3 g p s (nx + 1 : Nat) ep from hfr3.keep HF2.out HGG.out)
  have HAP3 := hid (show Apart F2 G3 from (HAP2.out.symm.step (fun k hk => (HD2.out.lt k hk).2) hgr3).symm)
  have HBA3 := hid hba3
  have HFR3 := hid hfr3
  have HGR3 := hid (show Gr w G G3 from fun k hk => (hgr3 k hk).imp id (fun x => Nat.le_trans HFR.out.size x))
  have HHO := hid (holds_in w3 base F2 p _ HD3.out g s (nx + 1 : Nat) ep HF3.out (show liveF (D.wr ⟨nx, pageP (1 + m) nx (l.take 246)⟩) ep = 0 from by unfold liveF; rw [if_neg (fun q => q HLV3.out.hep), if_pos HLV3.out.pw]) G3 gb _ hba3 HAP3.out HLV3.out.len.1 (nx + 1) ⟨by have := HN2.out; omega, HLV3.out.len.2.1, Int.le_refl _, by rw [show (D.wr ⟨nx, pageP (1 + m) nx (l.take 246)⟩).np = n from HLV3.out.np]; exact HX.out⟩ HPGS3.out (by have := HLV.out.cnt; rw [(wr_img D _).2.2.2.1]; have := HLV.out.small; have := HX.out; omega))
  clear hba3 hfr3 hgr3 HPUT HPG HNX2
  have e1 : ((nx : Int) + 1) = ((nx + 1 : Nat) : Int) := by push_cast; rfl
  rw [← e1] at HHO
  clear e1
  go_wp2_with fail
  refine HHO.out.mono ?_
  rintro e w4 ⟨rfl, hD4, hF4⟩
  have HD4 := hid hD4
  have HF4 := hid hF4
  have HK4 := hid (HF3.out.other HD3.out hF4)
  have HBA4 := hid (HBA3.out.other hF4 HAP3.out)
  clear hD4 hF4 HHO
  go_wp2
  go_ret2
  exact ⟨0, rfl, _, s, nx + 1, _, F2, G3, HD4.out, HK4.out, HBA4.out, HAP3.out, (HFR.out.ing.trans HFR3.out.inr (Gr.refl _ _)).trans HF4.out HGR.out.ing, HGR.out, HGR3.out, Kp.same (wr_img D _).1, fun q => ⟨rfl, by show (D.wr ⟨nx, pageP (1 + m) nx (l.take 246)⟩).armed = 0; rw [(wr_arm D _ HLV.out.ok.armed.1).1, if_pos q]⟩, Or.inl ⟨rfl, HLV3.out⟩⟩
set_option maxRecDepth 100000 in
set_option maxHeartbeats 2000000 in
theorem act1cdown (w : World) (base : Nat) (F : List Nat) (p : Nat) (D : DS) (h : DA w base F p D) (hbw : base ≤ w.heap.size) (g : Nat) (s : Sup) (nx : Nat) (ep : Int) (hf : FK w g p s nx ep) (G : List Nat) (gb : Nat) (B : Bk) (hb : BA w base G gb B) (hap : Apart F G) (hgG : g ∉ G) (n c : Nat) (hlv : Lv D s nx ep B n c) (hc : c ≤ 1000) (N : Int) (hN : -9223372036854775808 ≤ N ∧ N ≤ 9223372036854775807) (l : List Int) (h8 : Byts l) (sp : Option Addr) (cap : Nat) (hS : Src w sp cap l) (hlm : l.length ≤ 140737488355000) (hll : 246 < l.length) (hx : nx < n) (ha : D.armed = 1) :
    Calls Try.prog 13 #[.pointer (some ⟨gb, 0, none⟩), .pointer (some ⟨p, 0, none⟩), .pointer (some ⟨g, 0, none⟩), .agg (actV 1 N sp l.length cap)] w fun e w' => ∃ er, e = .returned (.tuple #[.int .i64 er, .bool true]) ∧ AO base p g gb F G w n c ep D s (D.armed = 0) er w'  := by
  have hnp := h.ok.np
  have B0 := below_new w (.cells (actV 1 N sp l.length cap) 35)
  have cA := hnew w (.cells (actV 1 N sp l.length cap) 35)
  have cA0 : (w.alloc (.cells (actV 1 N sp l.length cap) 35)).cell? ⟨w.heap.size, 0, none⟩ = some (.int .i64 1) := by rw [cell_of_row _ _ _ _ _ _ cA]; rfl
  have cA1 : (w.alloc (.cells (actV 1 N sp l.length cap) 35)).cell? ⟨w.heap.size, 1, none⟩ = some (.int .i64 N) := by rw [cell_of_row _ _ _ _ _ _ cA]; rfl
  have cA2 : (w.alloc (.cells (actV 1 N sp l.length cap) 35)).cell? ⟨w.heap.size, 2, none⟩ = some (.slice sp l.length cap) := by rw [cell_of_row _ _ _ _ _ _ cA]; rfl
  have HF0 := hid (hf.below B0)
  have HD0 := hid (h.below B0)
  have HBB0 := hid (hb.below B0)
  have HNX := hid (FNext_any _ g p s nx ep HF0.out)
  have HB0 := hid B0
  have HD := hid h
  have HF := hid hf
  have HBB := hid hb
  have HAP := hid hap
  have HLV := hid hlv
  have HCC := hid hc
  have HPL := hid (place_any (w.alloc (.cells (actV 1 N sp l.length cap) 35)) N 3 (by decide) (by decide) hN.1 hN.2 3 rfl)
  obtain ⟨m, hm⟩ : ∃ m, m = N % 3 := ⟨_, rfl⟩
  rw [show ((3 : Nat) : Int) = 3 from rfl, ← hm] at HPL
  have hm1 : 0 ≤ m ∧ m ≤ 2 := by omega
  obtain ⟨m0, m1⟩ := hm1
  have HKD := hid (show kindOk (1 + m) = true from (kindOk_iff _).2 ⟨by omega, by omega⟩)
  have HCP := hid (copied_any (w.alloc (.cells (actV 1 N sp l.length cap) 35)) l sp cap (hS.below B0 (Nat.le_refl _)) (by omega))
  have HN2 := hid (show 2 ≤ nx by obtain ⟨mm, q1, q2, q3⟩ := sup_ma hlv.val hlv.pg; have := hlv.hnx; omega)
  have HGG := hid hgG
  have jn : (nx : Int) ≤ 64 := by have := hlv.small; have := hlv.hnx; omega
  have i6 : 246 < (l.length : Int) := by omega
  have HL246 := hid (show (l.take 246).length ≤ 246 by rw [List.length_take]; omega)
  have HL8 := hid (h8.take 246)
  have HLE := hid (show (l.take 246).length = 246 by rw [List.length_take]; omega)
  have HX := hid hx
  have HARM := hid ha
  have j5 : (nx : Int) < (n : Int) := by omega
  clear h hf hb hap hlv hnp hS hN h8 B0 hgG hm hx ha hll cA
  go_enter Try.func13, Try.ntmps13
  go_wp2_with (first | (go_at_call 7; refine HNX.out.mono ?_; rintro e w1 ⟨rfl, rfl⟩) | (go_at_call 11; refine HPL.out.mono ?_; rintro e w1 ⟨rfl, rfl⟩))
  refine HCP.out.mono ?_
  rintro e w1 ⟨v1, rfl, hO1, hb1⟩
  obtain ⟨b1, c1, rest1, hv1, _, hr1, hc1, hm1, _⟩ := own_in hO1 (by omega)
  subst hv1
  have i7 : 246 ≤ (c1 : Int) := by omega
  have i8 : (c1 : Int) ≤ 9223372036854775807 := by unfold maxLen at hm1; omega
  have i9 : 246 ≤ c1 := by omega
  obtain ⟨sx, cx, hvx, hsx, _⟩ := hO1.form
  simp only [Value.slice.injEq] at hvx
  obtain ⟨rfl, _, rfl⟩ := hvx
  have HO1 := hid hO1
  have hB1 : Below w.heap.size w w1 := HB0.out.trans (hb1.mono HB0.out.size)
  have HB1 := hid hB1
  have HD1 := hid (HD.out.below hB1)
  have HF1 := hid (HF.out.below hB1)
  have HBA1 := hid (HBB.out.below hB1)
  have HS1 := hid (show Src w1 (some ⟨b1, 0, none⟩) c1 (l.take 246) from hsx.take 246)
  clear hO1 hb1 hB1 HCP cA0 cA1 cA2
  have HAP1 := hid (Append_in w1 base F p D HD1.out (Nat.le_trans hbw HB1.out.size) g s ep nx HF1.out HLV.out.live ⟨HN2.out, by rw [HLV.out.np]; exact HX.out⟩ (1 + m) HKD.out (l.take 246) HL8.out HL246.out (some ⟨b1, 0, none⟩) c1 HS1.out (by have := HLV.out.cnt; omega) (by have := HLV.out.cnt; omega))
  rw [HLE.out] at HAP1
  go_wp2_with fail
  refine HAP1.out.mono ?_
  rintro e w2 ⟨ho, hdn⟩
  obtain ⟨rfl, F2, q1, q2, q3, q4⟩ := hdn HARM.out
  have c0 := q2.c0
  have HPG := hid (Pages_any w2 base F2 p _ q1)
  rw [show (D.wr ⟨nx, pageP (1 + m) nx (l.take 246)⟩).np = n from (np_img (by rw [(wr_img D _).1])).trans HLV.out.np] at HPG
  have HNX2 := hid (FNext_any w2 g p s nx ep q2)
  have HD2 := hid q1
  have HF2 := hid q2
  have HFR := hid (((Fr.of_below (F := g :: F) HB1.out)).trans q3 (Gr.refl _ _))
  have HBA2 := hid (HBA1.out.other q3 (fun k hk e => by rcases List.mem_cons.1 hk with q | q; exact HGG.out (q ▸ e); exact HAP.out k q e))
  have HGR := hid (show Gr w F F2 from fun k hk => (q4 k hk).imp id (fun x => Nat.le_trans HB1.out.size x))
  have HPF := hid ((wr_arm D ⟨nx, pageP (1 + m) nx (l.take 246)⟩ HLV.out.ok.armed.1).2.2 HARM.out)
  have HEP := hid ((wr_img D ⟨nx, pageP (1 + m) nx (l.take 246)⟩).2.2.1.trans HLV.out.hep)
  have HCR := hid (HLV.out.append_down HX.out HCC.out (1 + m) HKD.out (l.take 246) HL8.out HL246.out)
  clear ho hdn q1 q2 q3 q4 HAP1
  go_wp2_with (first | (go_at_call 8; refine HPG.out.mono ?_; rintro e w3 ⟨rfl, rfl⟩) | (go_at_call 7; refine HNX2.out.mono ?_; rintro e w3 ⟨rfl, rfl⟩))
  go_ret2
  exact ⟨2, rfl, _, s, nx, B, F2, G, HD2.out, HF2.out, HBA2.out, HAP.out.step (fun k hk => (HBB.out.lt k hk).2) HGR.out, HFR.out.ing, HGR.out, Gr.refl _ _, Kp.same (wr_img D _).1, fun q => by have := HARM.out; omega, Or.inr ⟨rfl, HPF.out, HEP.out, by rw [HLV.out.bk.1]; exact Int.le_refl _, HCR.out⟩⟩
theorem act1_in (w : World) (base : Nat) (F : List Nat) (p : Nat) (D : DS) (h : DA w base F p D) (hbw : base ≤ w.heap.size) (g : Nat) (s : Sup) (nx : Nat) (ep : Int) (hf : FK w g p s nx ep) (G : List Nat) (gb : Nat) (B : Bk) (hb : BA w base G gb B) (hap : Apart F G) (hgG : g ∉ G) (n c : Nat) (hlv : Lv D s nx ep B n c) (hc : c ≤ 1000) (N : Int) (hN : -9223372036854775808 ≤ N ∧ N ≤ 9223372036854775807) (l : List Int) (h8 : Byts l) (sp : Option Addr) (cap : Nat) (hS : Src w sp cap l) (hlm : l.length ≤ 140737488355000) :
    Calls Try.prog 13 #[.pointer (some ⟨gb, 0, none⟩), .pointer (some ⟨p, 0, none⟩), .pointer (some ⟨g, 0, none⟩), .agg (actV 1 N sp l.length cap)] w fun e w' => ∃ er, e = .returned (.tuple #[.int .i64 er, .bool true]) ∧ AO base p g gb F G w n c ep D s (D.armed = 0) er w'  := by
  have hx := hlv.hnx.2
  by_cases hll : l.length ≤ 246
  · by_cases e : nx = n
    · exact act1bfull w base F p D h hbw g s nx ep hf G gb B hb hap hgG n c hlv hc N hN l h8 sp cap hS hlm hll e
    · by_cases ha : D.armed = 1
      · exact act1bdown w base F p D h hbw g s nx ep hf G gb B hb hap hgG n c hlv hc N hN l h8 sp cap hS hlm hll (by omega) ha
      · exact act1bok w base F p D h hbw g s nx ep hf G gb B hb hap hgG n c hlv hc N hN l h8 sp cap hS hlm hll (by omega) ha
  · by_cases e : nx = n
    · exact act1cfull w base F p D h hbw g s nx ep hf G gb B hb hap hgG n c hlv hc N hN l h8 sp cap hS hlm (by omega) e
    · by_cases ha : D.armed = 1
      · exact act1cdown w base F p D h hbw g s nx ep hf G gb B hb hap hgG n c hlv hc N hN l h8 sp cap hS hlm (by omega) (by omega) ha
      · exact act1cok w base F p D h hbw g s nx ep hf G gb B hb hap hgG n c hlv hc N hN l h8 sp cap hS hlm (by omega) (by omega) ha
theorem acts_in (w : World) (base : Nat) (F : List Nat) (p : Nat) (D : DS) (h : DA w base F p D) (hbw : base ≤ w.heap.size) (g : Nat) (s : Sup) (nx : Nat) (ep : Int) (hf : FK w g p s nx ep) (G : List Nat) (gb : Nat) (B : Bk) (hb : BA w base G gb B) (hap : Apart F G) (hgG : g ∉ G) (n c : Nat) (hlv : Lv D s nx ep B n c) (hc : c ≤ 1000) (kind N : Int) (hN : -9223372036854775808 ≤ N ∧ N ≤ 9223372036854775807) (l : List Int) (h8 : Byts l) (sp : Option Addr) (cap : Nat) (hS : Src w sp cap l) (hlm : l.length ≤ 140737488355000) :
    Calls Try.prog 13 #[.pointer (some ⟨gb, 0, none⟩), .pointer (some ⟨p, 0, none⟩), .pointer (some ⟨g, 0, none⟩), .agg (actV kind N sp l.length cap)] w fun e w' => ∃ er, e = .returned (.tuple #[.int .i64 er, .bool true]) ∧ AO base p g gb F G w n c ep D s (D.armed = 0 ∧ kind ≠ 4) er w'  := by
  by_cases k1 : kind = 1
  · subst k1
    refine (act1_in w base F p D h hbw g s nx ep hf G gb B hb hap hgG n c hlv hc N hN l h8 sp cap hS hlm).mono ?_
    rintro e w' ⟨er, he, D', s', nx', B', F', G', q1, q2, q3, q4, q5, q6, q7, qk, q8, q9⟩
    exact ⟨er, he, D', s', nx', B', F', G', q1, q2, q3, q4, q5, q6, q7, qk, fun z => q8 z.1, q9⟩
  by_cases k2 : kind = 2
  · subst k2
    refine (act2_in w base F p D h hbw g s nx ep hf G gb B hb hap hgG n c hlv hc N hN l h8 sp cap hS hlm).mono ?_
    rintro e w' ⟨er, he, D', s', nx', B', F', G', q1, q2, q3, q4, q5, q6, q7, qk, q8, q9⟩
    exact ⟨er, he, D', s', nx', B', F', G', q1, q2, q3, q4, q5, q6, q7, qk, fun z => q8 z.1, q9⟩
  by_cases k3 : kind = 3
  · subst k3
    refine (act3_in w base F p D h hbw g s nx ep hf G gb B hb hap hgG n c hlv hc N hN l h8 sp cap hS hlm).mono ?_
    rintro e w' ⟨er, he, D', s', nx', B', F', G', q1, q2, q3, q4, q5, q6, q7, qk, q8, q9⟩
    exact ⟨er, he, D', s', nx', B', F', G', q1, q2, q3, q4, q5, q6, q7, qk, fun z => q8 z.1, q9⟩
  by_cases k4 : kind = 4
  · subst k4
    refine (act4_in w base F p D h hbw g s nx ep hf G gb B hb hap hgG n c hlv hc N hN l h8 sp cap hS hlm).mono ?_
    rintro e w' ⟨er, he, D', s', nx', B', F', G', q1, q2, q3, q4, q5, q6, q7, qk, q8, q9⟩
    exact ⟨er, he, D', s', nx', B', F', G', q1, q2, q3, q4, q5, q6, q7, qk, fun z => absurd rfl z.2, q9⟩
  refine (act0_in w base F p D h hbw g s nx ep hf G gb B hb hap hgG n c hlv hc kind N hN l h8 sp cap hS hlm (by simpa using k1) (by simpa using k2) (by simpa using k3) (by simpa using k4)).mono ?_
  rintro e w' ⟨er, he, D', s', nx', B', F', G', q1, q2, q3, q4, q5, q6, q7, qk, q8, q9⟩
  exact ⟨er, he, D', s', nx', B', F', G', q1, q2, q3, q4, q5, q6, q7, qk, fun z => q8 z.1, q9⟩
end Go.Proofs.Ytjlakgojbfglhaa
