import Derived.Test.YthhicgofobklgaaR2
import Derived.Test.YthhicgofobklgaaRn
namespace Go.Proofs.Ythhicgofobklgaa
set_option linter.unusedVariables false
set_option linter.unusedSimpArgs false
open Go.RowKit
attribute [local go_sem ↓] Go.wp_at_zero Go.wp_at_succ

theorem hlt_ {w : World} {g : Nat} {x : Obj} (h : w.heap[g]? = some x) : g < w.heap.size := _root_.Go.Proofs.Ythhicgofobklgaa.hlt h
theorem wrap_tmod4 (x q : Int) (h : x.tmod 4 = q) : IntKind.i64.wrap q = q := by
  have z1 := Int.tmod_lt_of_pos x (by decide : (0:Int) < 4)
  have z2 : -4 < x.tmod 4 := by
    rcases Int.le_total 0 x with h | h
    · have := Int.tmod_nonneg 4 h; omega
    · have := Int.tmod_lt_of_pos (-x) (by decide : (0:Int) < 4); rw [Int.neg_tmod] at this; omega
  rw [h] at z1 z2
  clear h
  exact wrap_i64_id q (by omega) (by omega)
theorem TS.cell0 {w wr : World} {GS G10 G11 : Nat} {v0 v1 : Value} {L0 L1 : List Int} {s t : Sup} (h : TS w wr GS G10 G11 v0 v1 L0 L1 s t) : wr.cell? ⟨GS, 0, none⟩ = some v0 ∧ wr.frozen? ⟨GS, 0, none⟩ = false := ⟨cell_of_row wr _ 0 _ _ _ h.rS, frozen_of_row _ _ _ _ _ h.rS⟩
theorem TS.cell1 {w wr : World} {GS G10 G11 : Nat} {v0 v1 : Value} {L0 L1 : List Int} {s t : Sup} (h : TS w wr GS G10 G11 v0 v1 L0 L1 s t) : wr.cell? ⟨GS, 1, none⟩ = some v1 ∧ wr.frozen? ⟨GS, 1, none⟩ = false := ⟨cell_of_row wr _ 1 _ _ _ h.rS, frozen_of_row _ _ _ _ _ h.rS⟩
theorem TS.cellg {w wr : World} {GS G10 G11 : Nat} {v0 v1 : Value} {L0 L1 : List Int} {s t : Sup} (h : TS w wr GS G10 G11 v0 v1 L0 L1 s t) : wr.cell? ⟨G10, 1, none⟩ = some (.int .i64 s.ge) ∧ wr.frozen? ⟨G10, 1, none⟩ = false := ⟨cell_of_row wr _ 1 _ _ _ h.r10, frozen_of_row _ _ _ _ _ h.r10⟩
theorem TS.page {w wr w2 : World} {GS G10 G11 : Nat} {v0 v1 : Value} {L0 L1 : List Int} {s t : Sup} (h : TS w wr GS G10 G11 v0 v1 L0 L1 s t) {g : Nat} {L : List Int} (hg : wr.heap.size ≤ g) (hr : w2.heap[g]? = some (.cells (ints .u8 L).toArray 5 (0, 0))) (hl : L.length = 256) : Pg w2 GS G10 G11 (.slice (some ⟨g, 0, none⟩) 256 256) L :=
  Pg.row hr hl hg (hlt h.rS) (hlt h.r10) (hlt h.r11)
theorem TS.setV0 {w wr : World} {GS G10 G11 : Nat} {v0 v1 : Value} {L0 L1 : List Int} {s t : Sup} (h : TS w wr GS G10 G11 v0 v1 L0 L1 s t) (v : Value) (L : List Int) (hp : Pg wr GS G10 G11 v L) : TS w (wr.setCell ⟨GS, 0, none⟩ v) GS G10 G11 v v1 L L1 s t := h.setV 0 (by omega) v L hp
theorem TS.setV1 {w wr : World} {GS G10 G11 : Nat} {v0 v1 : Value} {L0 L1 : List Int} {s t : Sup} (h : TS w wr GS G10 G11 v0 v1 L0 L1 s t) (v : Value) (L : List Int) (hp : Pg wr GS G10 G11 v L) : TS w (wr.setCell ⟨GS, 1, none⟩ v) GS G10 G11 v0 v L0 L s t := h.setV 1 (by omega) v L hp
theorem Pg.srcE {w : World} {A B C b c : Nat} {L : List Int} (h : Pg w A B C (.slice (some ⟨b, 0, none⟩) 256 c) L) : Src w (some ⟨b, 0, none⟩) c L := by
  obtain ⟨b', c', e, hS⟩ := h.form
  cases e; exact hS
set_option maxRecDepth 100000 in
set_option maxHeartbeats 8000000 in
theorem turns_walk (w : World) (a0 a1 : Int) (h0 : -9223372036854775808 ≤ a0 ∧ a0 ≤ 9223372036854775807) (h1 : -9223372036854775808 ≤ a1 ∧ a1 ≤ 9223372036854775807) (rs : List TR) (hok : ∀ r ∈ rs, TrOk r) (sp : Option Addr) (cap : Nat) (hR : Trn w sp rs) (hlen : rs.length ≤ 1048576) :
    Calls Try.prog 3 #[.int .i64 a0, .int .i64 a1, .slice sp rs.length cap] w fun e w' => e = .returned (.bool true) ∧ Below w.heap.size w w' := by
  have il : (rs.length : Int) ≤ 1048576 := by omega
  have KG := guardU
  have KQ0 : ∀ w, (Op.equalIn 10000 27 (.agg (supC sup0)) (.agg #[.int .i64 0, .int .i64 0, .int .i64 0, .int .i64 0, .int .i64 0])).run Try.prog w = .ok true w := fun w => by
    have := eqSup sup0 sup0 w; rwa [show decide (sup0 = sup0) = true by simp] at this
  go_enter Try.func3, Try.ntmps3
  go_wp2_with fail
  refine (whole_num w a0 1 32 (by omega) (by omega) (by omega) h0).mono ?_
  rintro e w1 ⟨W, rfl, wa, wb, rfl⟩
  go_wp2_with fail
  refine (whole_num w1 a1 3 4096 (by omega) (by omega) (by omega) h1).mono ?_
  rintro e w2 ⟨P, rfl, pa, pb, rfl⟩
  clear h0 h1
  go_wp2_with fail
  refine region3 w2 a0 a1 W P sp rs.length cap _ ?_
  intro gA gB GS w3 rA rB rS nA nB nAB lS B
  obtain ⟨s0, hs0⟩ : ∃ s : Sup, s = ⟨W, 0, 2, 0, P⟩ := ⟨_, rfl⟩
  have v0 : validS s0 = true := by rw [hs0]; exact (validS_iff _).2 ⟨wa, wb, (by decide : (0:Int) ≤ 0), (by decide : (0:Int) ≤ 1099511627776), pa, pb, (by decide : (2:Int) ≤ 2), (by omega : (2:Int) ≤ P), Or.inl rfl⟩
  have e0 : (#[.int .i64 W, .int .i64 0, .int .i64 2, .int .i64 0, .int .i64 P] : Array Value) = supC s0 := by rw [hs0]; rfl
  have g0 : s0.ge = 0 := by rw [hs0]
  obtain ⟨s1, hs1⟩ : ∃ s : Sup, s = { s0 with ge := 1 } := ⟨_, rfl⟩
  have v1 : validS s1 = true := by rw [hs1, hs0]; exact (validS_iff _).2 ⟨wa, wb, (by decide : (0:Int) ≤ 1), (by decide : (1:Int) ≤ 1099511627776), pa, pb, (by decide : (2:Int) ≤ 2), (by omega : (2:Int) ≤ P), Or.inl rfl⟩
  have f1 : Fol s1 s0 := by rw [hs1, hs0]; exact ⟨rfl, rfl, rfl, Int.le_refl _⟩
  have q1 : s1.ge = 1 ∧ s1.wd = W ∧ s1.pg = P := by rw [hs1, hs0]; exact ⟨rfl, rfl, rfl⟩
  replace hs0 := hid hs0
  replace hs1 := hid hs1
  have HG0 := hid g0
  have HV0 := hid v0
  have HV1 := hid v1
  have HF1 := hid f1
  have HQ1 := hid q1
  clear g0 v0 v1 f1 q1
  have r10 := hnew w3 (.cells (supC s0) 27)
  have d3 := below_new w3 (.cells (supC s0) 27)
  have n10 : GS ≠ w3.heap.size := fun h => absurd (hlt rS) (by omega)
  have m10 : gA ≠ w3.heap.size := fun h => absurd (hlt rA) (by omega)
  have k10 : gB ≠ w3.heap.size := fun h => absurd (hlt rB) (by omega)
  have l10 : w2.heap.size ≤ w3.heap.size := B.size
  replace rA := hbel d3 rA (hlt rA)
  replace rB := hbel d3 rB (hlt rB)
  replace rS := hbel d3 rS (hlt rS)
  replace B := B.trans (d3.mono B.size)
  clear d3
  have zl : (zz 256).length = 256 := zz_len 256
  have z8 : Byts (zz 256) := rep_byts 256
  go_wp2_with (first
    | (refine wpList_store_row (by rfl) 27 (.tmp 10) (.tmp 28) (by rfl) w3.heap.size (supC s0) (by rfl) (by rfl) 27 _ (by exact hnew _ _) (supN _) (supZ _) (supO _) ?_; rw [setRow_alloc]; generalize w3.alloc (.cells (supC s0) 27) = w4 at *; generalize w3.heap.size = G10 at *; have c0 : w4.cell? ⟨GS, 0, none⟩ = some (.slice (some ⟨gA, 0, none⟩) 256 256) := cell_of_row w4 _ 0 _ _ _ rS; have c1 : w4.cell? ⟨GS, 1, none⟩ = some (.slice (some ⟨gB, 0, none⟩) 256 256) := cell_of_row w4 _ 1 _ _ _ rS))
  have hch := choose_any w4 (zz 256) (zz 256) z8 z8 _ _ 256 256 (src_rowf rA 256 (by omega) (by decide)) (src_rowf rB 256 (by omega) (by decide))
  rw [zl, blank2] at hch
  refine hch.mono ?_
  rintro e w5 ⟨rfl, b5⟩
  clear hch c0 c1
  replace rA := hbel b5 rA (hlt rA)
  replace rB := hbel b5 rB (hlt rB)
  replace rS := hbel b5 rS (hlt rS)
  replace r10 := hbel b5 r10 (hlt r10)
  replace B := B.trans (b5.mono B.size)
  clear b5
  have d5 := below_new w5 (.cells (supC sup0) 27)
  have T : TS w2 (w5.alloc (.cells (supC sup0) 27)) GS G10 w5.heap.size (.slice (some ⟨gA, 0, none⟩) 256 256) (.slice (some ⟨gB, 0, none⟩) 256 256) (zz 256) (zz 256) s0 sup0 := by
    have x1 := hlt rS
    have x2 := hlt r10
    have x3 := hlt rA
    have x4 := hlt rB
    refine ⟨hbel d5 rS x1, hbel d5 r10 x2, hnew _ _, ⟨gA, 256, [], rfl, Nat.le_refl _, by decide, nA, m10, by omega, ?_, zl⟩, ⟨gB, 256, [], rfl, Nat.le_refl _, by decide, nB, k10, by omega, ?_, zl⟩, n10, by omega, by omega, lS, l10, B.size, B.trans (d5.mono B.size)⟩
    · unfold In; rw [List.append_nil]; exact hbel d5 rA x3
    · unfold In; rw [List.append_nil]; exact hbel d5 rB x4
  clear d5 rA rB rS r10 B nA nB nAB n10 m10 k10 l10 lS
  go_wp2_with (first
    | (refine wpList_store_row (by rfl) 27 (.tmp 11) (.tmp 35) (by rfl) w5.heap.size (supC sup0) (by rfl) (by rfl) 27 _ (by exact hnew _ _) (supN _) (supZ _) (supO _) ?_; rw [setRow_alloc]; generalize w5.alloc (.cells (supC sup0) 27) = w6 at *; generalize w5.heap.size = G11 at *)
    | (refine wpList_load_row_w (by rfl) 27 (.tmp 11) (by rfl) G11 (by rfl) 27 (supC sup0) (0, 0) _ (by exact T.r11) Try.underlying27 rfl (supN _) ?_)
    | (refine wpList_load_row_w (by rfl) 27 (.tmp 10) (by rfl) G10 (by rfl) 27 (supC s0) (0, 0) _ (by exact T.r10) Try.underlying27 rfl (supN _) ?_))
  refine (packSuper_ok w6 s0 HV0.out).mono ?_
  rintro e w7 ⟨gP, rfl, hgP, rP, b7⟩
  obtain ⟨Y, hY⟩ : ∃ Y : List Int, Y = List.replicate 192 0 := ⟨_, rfl⟩
  rw [← hY] at rP
  have hYl : Y.length = 192 := by rw [hY, List.length_replicate]
  have hY8 : Byts Y := by rw [hY]; exact rep_byts _
  have hP := T.page hgP rP (by rw [List.length_append, secS_len, hYl])
  replace T := T.below b7
  clear b7
  have cS := T.cell0
  have c0 := cS.1
  have z0 := cS.2
  clear cS
  have T2 : TS w2 (w7.setCell ⟨GS, 0, none⟩ (.slice (some ⟨gP, 0, none⟩) 256 256)) GS G10 G11 (.slice (some ⟨gP, 0, none⟩) 256 256) (.slice (some ⟨gB, 0, none⟩) 256 256) (secS s0 ++ Y) (zz 256) s0 sup0 := T.setV0 _ _ hP
  have d0 := T2.cell0.1
  have d1 := T2.cell1.1
  go_wp2_with fail
  generalize w7.setCell ⟨GS, 0, none⟩ (.slice (some ⟨gP, 0, none⟩) 256 256) = w8 at *
  clear c0 z0 d0 d1 T hP rP
  obtain ⟨bP, cP, eP, sP⟩ := T2.h0.form
  obtain ⟨bQ, cQ, eQ, sQ⟩ := T2.h1.form
  have x8 := byts_app (secS_byts s0 HV0.out) hY8
  have xl : (secS s0 ++ Y).length = 256 := by rw [List.length_append, secS_len, hYl]
  have hch := choose_any w8 (secS s0 ++ Y) (zz 256) x8 z8 _ _ _ _ sP sQ
  rw [xl, zl, blank1 s0 Y HV0.out hYl HG0.out, ← eP, ← eQ] at hch
  refine hch.mono ?_
  rintro e w9 ⟨rfl, b9⟩
  clear hch sP sQ eP eQ bP bQ cP cQ
  have T3 := T2.below b9
  have T4 := T3.setT sup0
  have cg := T4.cellg.1
  have zg := T4.cellg.2
  have T5 := T4.ge1 1
  rw [← hs1.out] at T5
  clear T2 b9
  go_wp2_with (first
    | (refine wpList_store_row (by rfl) 27 (.tmp 11) (.tmp 64) (by rfl) G11 (supC sup0) (by rfl) (by rfl) 27 (supC sup0) (by exact T3.r11) (supN _) (supS _ _) (supO _) ?_)
    | (refine wpList_load_row_w (by rfl) 27 (.tmp 11) (by rfl) G11 (by rfl) 27 (supC sup0) (0, 0) _ (by exact T4.r11) Try.underlying27 rfl (supN _) ?_)
    | (refine wpList_load_row_w (by rfl) 27 (.tmp 10) (by rfl) G10 (by rfl) 27 (supC s1) (0, 0) _ (by exact T5.r10) Try.underlying27 rfl (supN _) ?_))
  generalize (w9.setRow G11 (supC sup0)).setCell ⟨G10, 1, none⟩ (.int .i64 1) = w10 at *
  clear cg zg T3 T4
  have T := T5
  clear T5
  refine (packSuper_ok w10 s1 HV1.out).mono ?_
  rintro e w11 ⟨gQ, rfl, hgQ, rQ, b11⟩
  rw [← hY] at rQ
  have hQ := T.page hgQ rQ (by rw [List.length_append, secS_len, hYl])
  replace T := T.below b11
  clear b11 rQ
  have c1 := T.cell1.1
  have z1 := T.cell1.2
  have T2 : TS w2 (w11.setCell ⟨GS, 1, none⟩ (.slice (some ⟨gQ, 0, none⟩) 256 256)) GS G10 G11 (.slice (some ⟨gP, 0, none⟩) 256 256) (.slice (some ⟨gQ, 0, none⟩) 256 256) (secS s0 ++ Y) (secS s1 ++ Y) s1 sup0 := T.setV1 _ _ hQ
  have hGd : Good s1 s0 (secS s0 ++ Y) (secS s1 ++ Y) := ⟨HV1.out, HV0.out, HF1.out, Y, Y, hYl, hYl, hY8, hY8, Or.inr ⟨by rw [HQ1.out.1]; decide, Eq.refl _, Eq.refl _⟩⟩
  clear T hQ
  go_wp2_with fail
  generalize w11.setCell ⟨GS, 1, none⟩ (.slice (some ⟨gQ, 0, none⟩) 256 256) = w12 at *
  clear c1 z1
  have HT0 := hid T2
  have HGd := hid hGd
  clear T2 hGd
  go_loopw [15] (fun iv wr => ∃ (i : Nat) (s o t : Sup) (L0 L1 : List Int) (v0 v1 : Value), i ≤ rs.length ∧ iv = .int .i64 i ∧ TS w2 wr GS G10 G11 v0 v1 L0 L1 s t ∧ Good s o L0 L1 ∧ s.ge ≤ i + 1 ∧ s.wd = W ∧ s.pg = P) (fun iv _ => rs.length - (intOf iv).toNat)
  case atStart => exact ⟨0, s1, s0, sup0, _, _, _, _, by omega, rfl, HT0.out, HGd.out, by rw [HQ1.out.1]; decide, HQ1.out.2.1, HQ1.out.2.2⟩
  case round =>
    clear HT0 HGd HQ1 HF1 HV0 HV1 HG0 hs0 hs1 e0 hYl hY8 hY z8 zl
    obtain ⟨i, s, o, t, L0, L1, v0, v1, hi, rfl, T, G, hge, hwd, hpg⟩ := hrel
    obtain ⟨hc, x8, y8, xl, yl⟩ := G.choose
    obtain ⟨bP, cP, eP, sP⟩ := T.h0.form
    obtain ⟨bQ, cQ, eQ, sQ⟩ := T.h1.form
    subst eP eQ
    have hch := choose_any wr L0 L1 x8 y8 _ _ _ _ sP sQ
    rw [xl, yl, hc] at hch
    have c0 := T.cell0.1
    have c1 := T.cell1.1
    have KQ : ∀ w, (Op.equalIn 10000 27 (.agg (supC s)) (.agg (supC s))).run Try.prog w = .ok true w := fun w => by
      have := eqSup s s w; rwa [show decide (s = s) = true by simp] at this
    have HG := hid G
    have HV := hid ((validS_iff s).1 G.1)
    clear hc x8 y8 xl yl sP sQ G
    by_cases hlt : i < rs.length
    · have i1 : (i : Int) < (rs.length : Int) := by omega
      obtain ⟨b, ob, hbp, hbr⟩ := hR
      obtain ⟨hbw, rfl⟩ := hbp (by omega)
      obtain ⟨tp, tc, hrg, hsT⟩ := hbr i hlt
      have hro := hok rs[i]! (by rw [List.getElem!_eq_getElem?_getD, List.getElem?_eq_getElem hlt]; exact List.getElem_mem hlt)
      generalize rs[i]! = r at *
      obtain ⟨ri, he, cr, ke, ta⟩ := r
      replace hrg : w2.rangeAt b (ob + i * 5) [.int .i64 ri, .int .i64 he, .bool cr, .bool ke, .slice tp ta.length tc] := hrg
      replace hsT : Src w2 tp tc ta := hsT
      have hri : -9223372036854775808 ≤ ri ∧ ri ≤ 9223372036854775807 := hro.1
      have hhe : -9223372036854775808 ≤ he ∧ he ≤ 9223372036854775807 := hro.2.1
      have ta8 : Byts ta := hro.2.2
      clear hro
      clear hbr hbp
      go_wp2_with fail
      refine hch.mono ?_
      rintro e w13 ⟨rfl, b13⟩
      clear hch c0 c1
      have T3 := T.below b13
      have T4 := T3.setT s
      clear T b13
      replace hrg := rng_below hrg T4.bl hbw
      replace hsT := hsT.below T4.bl (Nat.le_refl _)
      obtain ⟨w14, hw14⟩ : ∃ w', w' = w13.setRow G11 (supC s) := ⟨_, rfl⟩
      rw [← hw14] at T4 hrg hsT
      replace hw14 := hid hw14
      have D5 := below_new w14 (.cells #[.int .i64 ri, .int .i64 he, .bool cr, .bool ke, .slice tp ta.length tc] 34)
      have r16 := hnew w14 (.cells #[.int .i64 ri, .int .i64 he, .bool cr, .bool ke, .slice tp ta.length tc] 34)
      have T5 := T4.below D5
      replace hsT := hsT.below D5 (Nat.le_refl _)
      clear D5
      have vv := HV.out
      have g1 : 0 ≤ s.ge := by omega
      have g2 : s.ge + 1 ≤ 1048578 := by omega
      have g3 : s.ge + 1 ≤ 9223372036854775807 := by omega
      go_wp2_with (first
        | (refine wpList_store_row (by rfl) 27 (.tmp 11) (.tmp 100) (by rfl) G11 (supC s) (by rfl) (by rfl) 27 (supC t) (by exact T3.r11) (supN _) (supS _ _) (supO _) ?_; rw [← hw14.out])
        | (refine wpList_load_row_w (by rfl) 27 (.tmp 11) (by rfl) G11 (by rfl) 27 (supC s) (0, 0) _ (by exact T4.r11) Try.underlying27 rfl (supN _) ?_)
        | (refine wpList_load_row_w (by rfl) 27 (.tmp 10) (by rfl) G10 (by rfl) 27 (supC s) (0, 0) _ (by exact T4.r10) Try.underlying27 rfl (supN _) ?_)
        | (refine wpList_load_row_w (by rfl) 27 (.tmp 10) (by rfl) G10 (by rfl) 27 (supC s) (0, 0) _ (by exact T5.r10) Try.underlying27 rfl (supN _) ?_; generalize w14.alloc (.cells #[.int .i64 ri, .int .i64 he, .bool cr, .bool ke, .slice tp ta.length tc] 34) = w15 at *; generalize w14.heap.size = G16 at *; have r17 := hnew w15 (.cells (supC s) 27); have B6 := below_new w15 (.cells (supC s) 27); have n16 : G16 ≠ w15.heap.size := Nat.ne_of_lt (hlt_ r16); have n10 : G10 ≠ w15.heap.size := Nat.ne_of_lt (hlt_ T5.r10))
        | (refine wpList_store_row (by rfl) 27 (.tmp 17) (.tmp 113) (by rfl) w15.heap.size (supC s) (by rfl) (by rfl) 27 _ (by exact hnew _ _) (supN _) (supZ _) (supO _) ?_; rw [setRow_alloc]; generalize w15.alloc (.cells (supC s) 27) = w16 at *; have l17 : w15.heap.size ≤ w15.heap.size := Nat.le_refl _; have c16 : w16.cell? ⟨G16, 0, none⟩ = some (.int .i64 ri) := cell_of_row w16 _ 0 _ _ _ (hbel B6 r16 (hlt_ r16)); have c10 : w16.cell? ⟨G10, 2, none⟩ = some (.int .i64 s.ma) := cell_of_row w16 _ 2 _ _ _ (hbel B6 T5.r10 (hlt_ T5.r10)); have c17 : w16.cell? ⟨w15.heap.size, 1, none⟩ = some (.int .i64 s.ge) := cell_of_row w16 _ 1 _ _ _ r17; have f17 : w16.frozen? ⟨w15.heap.size, 1, none⟩ = false := frozen_of_row _ _ _ _ _ r17)
        | (refine wpList_load_mid (by rfl) 34 (.tmp 111) (by rfl) b (ob + i * 5) (by rfl) _ _ (by exact hrg) Try.underlying34 rfl (by kernel_rfl) ?_))
      have r17b : (w16.setCell ⟨w15.heap.size, 1, none⟩ (.int .i64 (s.ge + 1))).heap[w15.heap.size]? = some (.cells #[.int .i64 s.wd, .int .i64 (s.ge + 1), .int .i64 s.ma, .int .i64 s.hd, .int .i64 s.pg] 27 (0, 0)) := heap_setCell_same w16 _ 1 _ _ (.int .i64 (s.ge + 1)) r17
      have B7 := B6.setCell (p := ⟨w15.heap.size, 1, none⟩) (Nat.le_refl _) (.int .i64 (s.ge + 1))
      generalize w16.setCell ⟨w15.heap.size, 1, none⟩ (.int .i64 (s.ge + 1)) = w17 at *
      clear c16 c10 c17 f17 r17 B6 l17
      refine (whole_num w17 ri s.ma P (by omega) (by omega) (by omega) hri).mono ?_
      rintro e w18 ⟨m, rfl, m1, m2, rfl⟩
      have k2 : w18.cell? ⟨w15.heap.size, 2, none⟩ = some (.int .i64 s.ma) := cell_of_row w18 _ 2 _ _ _ r17b
      have k3 : w18.cell? ⟨w15.heap.size, 3, none⟩ = some (.int .i64 s.hd) := cell_of_row w18 _ 3 _ _ _ r17b
      have k4 : w18.frozen? ⟨w15.heap.size, 2, none⟩ = false := frozen_of_row _ _ _ _ _ r17b
      have k5 : w18.frozen? ⟨w15.heap.size, 3, none⟩ = false := frozen_of_row _ _ _ _ _ r17b
      have k6 : w18.cell? ⟨G16, 1, none⟩ = some (.int .i64 he) := cell_of_row w18 _ 1 _ _ _ (hbel B7 r16 (hlt_ r16))
      have R2 : (w18.setCell ⟨w15.heap.size, 2, none⟩ (.int .i64 m)).heap[w15.heap.size]? = some (.cells #[.int .i64 s.wd, .int .i64 (s.ge + 1), .int .i64 m, .int .i64 s.hd, .int .i64 s.pg] 27 (0, 0)) := heap_setCell_same w18 _ 2 _ _ (.int .i64 m) r17b
      have R3 : ((w18.setCell ⟨w15.heap.size, 2, none⟩ (.int .i64 m)).setCell ⟨w15.heap.size, 3, none⟩ (.int .i64 0)).heap[w15.heap.size]? = some (.cells #[.int .i64 s.wd, .int .i64 (s.ge + 1), .int .i64 m, .int .i64 0, .int .i64 s.pg] 27 (0, 0)) := heap_setCell_same (w18.setCell ⟨w15.heap.size, 2, none⟩ (.int .i64 m)) _ 3 _ _ (.int .i64 0) R2
      have B8 := (B7.setCell (p := ⟨w15.heap.size, 2, none⟩) (Nat.le_refl _) (.int .i64 m)).setCell (p := ⟨w15.heap.size, 3, none⟩) (Nat.le_refl _) (.int .i64 0)
      clear r17b B7 R2
      obtain ⟨q, hq⟩ : ∃ q, he.tmod 4 = q := ⟨_, rfl⟩
      have hqw : IntKind.i64.wrap q = q := wrap_tmod4 he q hq
      replace hq := hid hq
      replace hri := hid hri
      by_cases hm : 2 < m
      · by_cases hq0 : q = 0
        · have hq1 : (q == 0) = true := by simp [hq0]
          have RU : ((w18.setCell ⟨w15.heap.size, 2, none⟩ (.int .i64 m)).setCell ⟨w15.heap.size, 3, none⟩ (.int .i64 0)).heap[w15.heap.size]? = some (.cells #[.int .i64 s.wd, .int .i64 (s.ge + 1), .int .i64 m, .int .i64 0, .int .i64 s.pg] 27 (0, 0)) := R3
          obtain ⟨u, hu⟩ : ∃ u : Sup, u = ⟨s.wd, s.ge + 1, m, 0, s.pg⟩ := ⟨_, rfl⟩
          have hvu : validS u = true := by rw [hu]; exact (validS_iff _).2 ⟨vv.1, vv.2.1, (by omega : (0:Int) ≤ s.ge + 1), (by omega : s.ge + 1 ≤ 1099511627776), vv.2.2.2.2.1, vv.2.2.2.2.2.1, (by omega : (2:Int) ≤ m), (by omega : m ≤ s.pg), Or.inl rfl⟩
          have hfu : Fol u s := by rw [hu]; exact ⟨rfl, rfl, rfl, m1⟩
          have hug : u.ge = s.ge + 1 ∧ u.wd = W ∧ u.pg = P := by rw [hu]; exact ⟨rfl, hwd, hpg⟩
          have HVU := hid hvu
          have HFU := hid hfu
          have HUG := hid hug
          rw [show (#[.int .i64 s.wd, .int .i64 (s.ge + 1), .int .i64 m, .int .i64 0, .int .i64 s.pg] : Array Value) = supC u by rw [hu]; rfl] at RU
          replace hu := hid hu
          clear hvu hfu hug
          have hq2 := hq.out
          go_wp2_with (first
            | (refine wpList_load_row_w (by rfl) 27 (.tmp 17) (by rfl) w15.heap.size (by rfl) 27 (supC u) (0, 0) _ (by exact RU) Try.underlying27 rfl (supN _) ?_))
          generalize (w18.setCell ⟨w15.heap.size, 2, none⟩ (.int .i64 m)).setCell ⟨w15.heap.size, 3, none⟩ (.int .i64 0) = w19 at *
          refine (packSuper_ok w19 u HVU.out).mono ?_
          rintro e w20 ⟨gN, rfl, hgN, rN, b20⟩
          replace RU := hbel b20 RU (hlt_ RU)
          replace B8 := B8.trans (b20.mono B8.size)
          clear b20 k2 k3 k4 k5 k6 hq2
          have T8 := T5.below B8
          have r16c := hbel B8 r16 (hlt_ r16)
          have hsT2 := hsT.below B8 (Nat.le_refl _)
          have nGS : w15.heap.size ≠ GS := fun h => absurd (hlt_ T5.rS) (by omega)
          obtain ⟨Z, hZ⟩ : ∃ Z : List Int, Z = List.replicate 192 0 := ⟨_, rfl⟩
          rw [← hZ] at rN
          have hZl : Z.length = 192 := by rw [hZ, List.length_replicate]
          have hsN := src_rowf rN 256 (by rw [List.length_append, secS_len, hZl]; exact Nat.le_refl _) (by decide)
          clear hZ rN hgN
          have e1 : w20.cell? ⟨w15.heap.size, 1, none⟩ = some (.int .i64 u.ge) := cell_of_row w20 _ 1 _ _ _ RU
          have e2 : w20.cell? ⟨G16, 2, none⟩ = some (.bool cr) := cell_of_row w20 _ 2 _ _ _ r16c
          have e3 : w20.cell? ⟨G16, 3, none⟩ = some (.bool ke) := cell_of_row w20 _ 3 _ _ _ r16c
          have e4 : w20.cell? ⟨G16, 4, none⟩ = some (.slice tp ta.length tc) := cell_of_row w20 _ 4 _ _ _ r16c
          have hpar : (u.ge.tmod 2 = 0 ∧ (s.ge + 1) % 2 = ((0 : Nat) : Int)) ∨ (u.ge.tmod 2 = 1 ∧ (s.ge + 1) % 2 = ((1 : Nat) : Int)) := by
            rw [HUG.out.1, Int.tmod_eq_emod_of_nonneg (by omega)]; omega
          have hu1 : 0 ≤ u.ge := by rw [HUG.out.1]; omega
          have hu2 : u.ge ≤ 1048578 := by rw [HUG.out.1]; omega
          replace hwd := hid hwd
          replace hpg := hid hpg
          clear T5 r16 hsT B8 vv m1 m2 hu n10 n16
          generalize w15.heap.size = GU at *
          rcases hpar with ⟨hk9, hkm⟩ | ⟨hk9, hkm⟩
          · replace hkm := hid hkm
            cases cr with
            | false =>
              go_wp2_with fail
              refine (slot_any w20 (secS u) Z ta (secS_len u) hZl _ _ hsN _ _ hsT2).mono ?_
              rintro e w21 ⟨v, rfl, hO, b21⟩
              have T9 := T8.below b21
              have hp : Pg w21 GS G10 G11 v (secS u ++ tlF ta 192) := Pg.own hO (by rw [List.length_append, secS_len, tlF_len]) (hlt_ T8.rS) (hlt_ T8.r10) (hlt_ T8.r11)
              obtain ⟨bv, qv, rfl, _⟩ := hp.form
              have cw := T9.cell0.1
              have fw := T9.cell0.2
              have T10 := T9.setV0 _ _ hp
              have RU2 := heap_set_far (hbel b21 RU (hlt_ RU)) ⟨GS, 0, none⟩ (.slice (some ⟨bv, 0, none⟩) 256 qv) nGS
              have T11 := T10.setS u
              clear e1 e2 e3 e4 hk9 RU T8 T9 hsN hsT2 hO b21 hp r16c
              go_wp2_with (first
                | (refine wpList_load_row_w (by rfl) 27 (.tmp 17) (by rfl) GU (by rfl) 27 (supC u) (0, 0) _ (by exact RU2) Try.underlying27 rfl (supN _) ?_)
                | (refine wpList_store_row (by rfl) 27 (.tmp 10) (.tmp 178) (by rfl) G10 (supC u) (by rfl) (by rfl) 27 (supC s) (by exact T10.r10) (supN _) (supS _ _) (supO _) ?_))
              clear cw fw RU2 T10
              go_roundw
              case rel => exact ⟨i + 1, u, s, s, _, _, _, _, by omega, by go_num, T11, HG.out.next 0 hkm.out HVU.out HFU.out _ (tlF_len ta 192) (tlF_byts ta8 192), (by rw [HUG.out.1]; push_cast; omega), HUG.out.2.1, HUG.out.2.2⟩
              case measure => simp [intOf]; omega
            | true =>
              cases ke with
              | true =>
                go_wp2_with fail
                refine (slot_any w20 (secS u) Z ta (secS_len u) hZl _ _ hsN _ _ hsT2).mono ?_
                rintro e w21 ⟨v, rfl, hO, b21⟩
                have T9 := T8.below b21
                have hp : Pg w21 GS G10 G11 v (secS u ++ tlF ta 192) := Pg.own hO (by rw [List.length_append, secS_len, tlF_len]) (hlt_ T8.rS) (hlt_ T8.r10) (hlt_ T8.r11)
                obtain ⟨bv, qv, rfl, _⟩ := hp.form
                have cw := T9.cell0.1
                have fw := T9.cell0.2
                have T10 := T9.setV0 _ _ hp
                have RU2 := heap_set_far (hbel b21 RU (hlt_ RU)) ⟨GS, 0, none⟩ (.slice (some ⟨bv, 0, none⟩) 256 qv) nGS
                have T11 := T10.setS u
                clear e1 e2 e3 e4 hk9 RU T8 T9 hsN hsT2 hO b21 hp r16c
                go_wp2_with (first
                  | (refine wpList_load_row_w (by rfl) 27 (.tmp 17) (by rfl) GU (by rfl) 27 (supC u) (0, 0) _ (by exact RU2) Try.underlying27 rfl (supN _) ?_)
                  | (refine wpList_store_row (by rfl) 27 (.tmp 10) (.tmp 178) (by rfl) G10 (supC u) (by rfl) (by rfl) 27 (supC s) (by exact T10.r10) (supN _) (supS _ _) (supO _) ?_))
                clear cw fw RU2 T10
                go_roundw
                case rel => exact ⟨i + 1, u, s, s, _, _, _, _, by omega, by go_num, T11, HG.out.next 0 hkm.out HVU.out HFU.out _ (tlF_len ta 192) (tlF_byts ta8 192), (by rw [HUG.out.1]; push_cast; omega), HUG.out.2.1, HUG.out.2.2⟩
                case measure => simp [intOf]; omega
              | false =>
                obtain ⟨Z2, hZ2l, hZ2⟩ := HG.out.older 0 hkm.out
                replace hZ2 : L0 = secS o ++ Z2 := hZ2
                have hsO := T8.h0.srcE
                rw [hZ2] at hsO
                have KSL := hid (fun w1 (h : Below w20.heap.size w20 w1) => slot_any w1 (secS o) Z2 ta (secS_len o) hZ2l _ _ (hsO.below h (Nat.le_refl _)) _ _ (hsT2.below h (Nat.le_refl _)))
                have HL2 := hid hZ2
                clear hZ2 hsO
                have cv := T8.cell0.1
                have n16 : G16 ≠ GS := fun e => by
                  have h1 := r16c
                  rw [e, T8.rS] at h1
                  simp at h1
                go_wp2
                clear e1 e2 e3 e4 hk9
                refine wp_region_noPanic ?_
                refine wp_region_held_drew (S := (fun w' => w'.heap[G16]? = some (.cells #[.int .i64 ri, .int .i64 he, .bool true, .bool false, .slice tp ta.length tc] 34 (0, 0)))) (by kernel_rfl) r16c (fun hHeld => ?_)
                refine wpAnyH_take (i := 0) (oi := { dst := some 164, op := Op.move (Operand.tmp 18), type := 3, pos := "law.go:436", after := #[], guard := none }) (v := .int .i64 0) rfl (by kernel_rfl) (by kernel_rfl) (by kernel_rfl) (fun _ _ _ h => h) (Or.inl ⟨by rfl, by intro w hS; go_simp⟩) hHeld ?_
                try simp only [Act.put, List.setIfInBounds_toArray, List.set_cons_zero, List.set_cons_succ]
                refine wpAnyH_take (i := 1) (oi := { dst := some 165, op := Op.move (Operand.tmp 18), type := 3, pos := "law.go:436", after := #[], guard := none }) (v := .int .i64 0) rfl (by kernel_rfl) (by kernel_rfl) (by kernel_rfl) (fun _ _ _ h => h) (Or.inl ⟨by rfl, by intro w hS; go_simp⟩) hHeld ?_
                try simp only [Act.put, List.setIfInBounds_toArray, List.set_cons_zero, List.set_cons_succ]
                refine wpAnyH_take (i := 4) (oi := { dst := some 168, op := Op.fieldAddr 34 (Operand.tmp 16) 4, type := 0, pos := "law.go:436", after := #[], guard := none }) (v := .pointer (some ⟨G16, 4, none⟩)) rfl (by kernel_rfl) (by kernel_rfl) (by kernel_rfl) (fun _ _ _ h => h) (Or.inl ⟨by rfl, by intro w hS; go_simp⟩) hHeld ?_
                try simp only [Act.put, List.setIfInBounds_toArray, List.set_cons_zero, List.set_cons_succ]
                refine wpAnyH_take (i := 2) (oi := { dst := some 166, op := Op.indexAddr 25 (Operand.tmp 9) (Operand.tmp 165), type := 0, pos := "law.go:436", after := #[{ on := 1, ground := Ground.data }], guard := none }) (v := .pointer (some ⟨GS, 0, none⟩)) rfl (by kernel_rfl) (by kernel_rfl) (by kernel_rfl) (fun _ _ _ h => h) (Or.inl ⟨by rfl, by intro w hS; go_simp⟩) hHeld ?_
                try simp only [Act.put, List.setIfInBounds_toArray, List.set_cons_zero, List.set_cons_succ]
                refine wpAnyH_take (i := 5) (oi := { dst := some 169, op := Op.load 24 (Operand.tmp 168), type := 24, pos := "law.go:436", after := #[{ on := 4, ground := Ground.data }], guard := none }) (v := .slice tp ta.length tc) rfl (by kernel_rfl) (by kernel_rfl) (by kernel_rfl) (fun _ _ _ h => h) (Or.inl ⟨by rfl, by intro w hS; have hc := (cell_of_row _ _ 4 _ _ _ hS); go_simp⟩) hHeld ?_
                try simp only [Act.put, List.setIfInBounds_toArray, List.set_cons_zero, List.set_cons_succ]
                refine wpAnyH_ready (rs := [3]) (by kernel_rfl) (by simp) ?_
                refine (AllReadyH.cons (o := { dst := some 167, op := Op.load 24 (Operand.tmp 166), type := 24, pos := "law.go:436", after := #[{ on := 2, ground := Ground.data }], guard := none }) rfl (fun K hK => ?_) AllReadyH.nil)
                go_simp
                refine hK.out _ _ (hHeld) (fun hHeld2 => ?_)
                clear hK K hHeld
                have hHeld := hHeld2
                clear hHeld2
                try simp only [Act.put, List.setIfInBounds_toArray, List.set_cons_zero, List.set_cons_succ]
                refine wpAnyH_ready (rs := [6]) (by kernel_rfl) (by simp) ?_
                refine (AllReadyH.cons (o := { dst := some 170, op := Op.call { callee := Callee.value (Operand.func 7), args := #[Operand.tmp 167, Operand.tmp 169], argTypes := #[24, 24] }, type := 24, pos := "law.go:436", after := #[{ on := 3, ground := Ground.data }, { on := 5, ground := Ground.data }], guard := none }) rfl (fun K hK => ?_) AllReadyH.nil)
                go_simp
                go_at_call 7
                refine (KSL.out _ (Below.refl _ _).drew).mono ?_
                rintro e w21 ⟨v, rfl, hO, b21⟩
                have T9 := T8.below ((Below.refl w20.heap.size w20).drew.trans b21)
                have hp : Pg w21 GS G10 G11 v (secS o ++ tlF ta 192) := Pg.own hO (by rw [List.length_append, secS_len, tlF_len]) (hlt_ T8.rS) (hlt_ T8.r10) (hlt_ T8.r11)
                obtain ⟨bv, qv, rfl, _⟩ := hp.form
                have cw := T9.cell0.1
                have fw := T9.cell0.2
                have T10 := T9.setV0 _ _ hp
                go_wp2_with fail
                refine hK.out _ _ (hbel b21 hHeld (hlt_ hHeld)) (fun hHeld2 => ?_)
                clear hK K hHeld
                have hHeld := hHeld2
                clear hHeld2
                try simp only [Act.put, List.setIfInBounds_toArray, List.set_cons_zero, List.set_cons_succ]
                refine wpAnyH_take (i := 7) (oi := { dst := some 171, op := Op.indexAddr 25 (Operand.tmp 9) (Operand.tmp 164), type := 0, pos := "law.go:436", after := #[{ on := 0, ground := Ground.data }, { on := 0, ground := Ground.phase }, { on := 1, ground := Ground.phase }, { on := 2, ground := Ground.phase }, { on := 3, ground := Ground.phase }, { on := 4, ground := Ground.phase }, { on := 5, ground := Ground.phase }, { on := 6, ground := Ground.phase }], guard := none }) (v := .pointer (some ⟨GS, 0, none⟩)) rfl (by kernel_rfl) (by kernel_rfl) (by kernel_rfl) (fun _ _ _ h => h) (Or.inl ⟨by rfl, by intro w hS; go_simp⟩) hHeld ?_
                try simp only [Act.put, List.setIfInBounds_toArray, List.set_cons_zero, List.set_cons_succ]
                refine wpAnyH_ready (rs := [8]) (by kernel_rfl) (by simp) ?_
                refine (AllReadyH.cons (o := { dst := none, op := Op.store 24 (Operand.tmp 171) (Operand.tmp 170), type := 0, pos := "law.go:436", after := #[{ on := 7, ground := Ground.data }, { on := 6, ground := Ground.data }, { on := 6, ground := Ground.chain }, { on := 0, ground := Ground.phase }, { on := 1, ground := Ground.phase }, { on := 2, ground := Ground.phase }, { on := 3, ground := Ground.phase }, { on := 4, ground := Ground.phase }, { on := 5, ground := Ground.phase }, { on := 6, ground := Ground.phase }], guard := none }) rfl (fun K hK => ?_) AllReadyH.nil)
                go_simp
                refine hK.out _ _ (heap_set_far hHeld ⟨GS, 0, none⟩ _ n16) (fun hHeld2 => ?_)
                clear hK K hHeld
                have hHeld := hHeld2
                clear hHeld2
                try simp only [Act.put, List.setIfInBounds_toArray, List.set_cons_zero, List.set_cons_succ]
                refine wpAnyH_done (by kernel_rfl) ?_ _
                refine NoPanic.normal ?_
                clear cv cw fw
                go_wp2
                go_roundw
                case rel => exact ⟨i + 1, s, o, s, _, _, _, _, by omega, by go_num, T10, HG.out.keep 0 hkm.out _ (tlF_len ta 192) (tlF_byts ta8 192), (by push_cast; omega), hwd.out, hpg.out⟩
                case measure => simp [intOf]; omega
          · replace hkm := hid hkm
            cases cr with
            | false =>
              go_wp2_with fail
              refine (slot_any w20 (secS u) Z ta (secS_len u) hZl _ _ hsN _ _ hsT2).mono ?_
              rintro e w21 ⟨v, rfl, hO, b21⟩
              have T9 := T8.below b21
              have hp : Pg w21 GS G10 G11 v (secS u ++ tlF ta 192) := Pg.own hO (by rw [List.length_append, secS_len, tlF_len]) (hlt_ T8.rS) (hlt_ T8.r10) (hlt_ T8.r11)
              obtain ⟨bv, qv, rfl, _⟩ := hp.form
              have cw := T9.cell1.1
              have fw := T9.cell1.2
              have T10 := T9.setV1 _ _ hp
              have RU2 := heap_set_far (hbel b21 RU (hlt_ RU)) ⟨GS, 1, none⟩ (.slice (some ⟨bv, 0, none⟩) 256 qv) nGS
              have T11 := T10.setS u
              clear e1 e2 e3 e4 hk9 RU T8 T9 hsN hsT2 hO b21 hp r16c
              go_wp2_with (first
                | (refine wpList_load_row_w (by rfl) 27 (.tmp 17) (by rfl) GU (by rfl) 27 (supC u) (0, 0) _ (by exact RU2) Try.underlying27 rfl (supN _) ?_)
                | (refine wpList_store_row (by rfl) 27 (.tmp 10) (.tmp 178) (by rfl) G10 (supC u) (by rfl) (by rfl) 27 (supC s) (by exact T10.r10) (supN _) (supS _ _) (supO _) ?_))
              clear cw fw RU2 T10
              go_roundw
              case rel => exact ⟨i + 1, u, s, s, _, _, _, _, by omega, by go_num, T11, HG.out.next 1 hkm.out HVU.out HFU.out _ (tlF_len ta 192) (tlF_byts ta8 192), (by rw [HUG.out.1]; push_cast; omega), HUG.out.2.1, HUG.out.2.2⟩
              case measure => simp [intOf]; omega
            | true =>
              cases ke with
              | true =>
                go_wp2_with fail
                refine (slot_any w20 (secS u) Z ta (secS_len u) hZl _ _ hsN _ _ hsT2).mono ?_
                rintro e w21 ⟨v, rfl, hO, b21⟩
                have T9 := T8.below b21
                have hp : Pg w21 GS G10 G11 v (secS u ++ tlF ta 192) := Pg.own hO (by rw [List.length_append, secS_len, tlF_len]) (hlt_ T8.rS) (hlt_ T8.r10) (hlt_ T8.r11)
                obtain ⟨bv, qv, rfl, _⟩ := hp.form
                have cw := T9.cell1.1
                have fw := T9.cell1.2
                have T10 := T9.setV1 _ _ hp
                have RU2 := heap_set_far (hbel b21 RU (hlt_ RU)) ⟨GS, 1, none⟩ (.slice (some ⟨bv, 0, none⟩) 256 qv) nGS
                have T11 := T10.setS u
                clear e1 e2 e3 e4 hk9 RU T8 T9 hsN hsT2 hO b21 hp r16c
                go_wp2_with (first
                  | (refine wpList_load_row_w (by rfl) 27 (.tmp 17) (by rfl) GU (by rfl) 27 (supC u) (0, 0) _ (by exact RU2) Try.underlying27 rfl (supN _) ?_)
                  | (refine wpList_store_row (by rfl) 27 (.tmp 10) (.tmp 178) (by rfl) G10 (supC u) (by rfl) (by rfl) 27 (supC s) (by exact T10.r10) (supN _) (supS _ _) (supO _) ?_))
                clear cw fw RU2 T10
                go_roundw
                case rel => exact ⟨i + 1, u, s, s, _, _, _, _, by omega, by go_num, T11, HG.out.next 1 hkm.out HVU.out HFU.out _ (tlF_len ta 192) (tlF_byts ta8 192), (by rw [HUG.out.1]; push_cast; omega), HUG.out.2.1, HUG.out.2.2⟩
                case measure => simp [intOf]; omega
              | false =>
                obtain ⟨Z2, hZ2l, hZ2⟩ := HG.out.older 1 hkm.out
                replace hZ2 : L1 = secS o ++ Z2 := hZ2
                have hsO := T8.h1.srcE
                rw [hZ2] at hsO
                have KSL := hid (fun w1 (h : Below w20.heap.size w20 w1) => slot_any w1 (secS o) Z2 ta (secS_len o) hZ2l _ _ (hsO.below h (Nat.le_refl _)) _ _ (hsT2.below h (Nat.le_refl _)))
                have HL2 := hid hZ2
                clear hZ2 hsO
                have cv := T8.cell1.1
                have n16 : G16 ≠ GS := fun e => by
                  have h1 := r16c
                  rw [e, T8.rS] at h1
                  simp at h1
                go_wp2
                clear e1 e2 e3 e4 hk9
                refine wp_region_noPanic ?_
                refine wp_region_held_drew (S := (fun w' => w'.heap[G16]? = some (.cells #[.int .i64 ri, .int .i64 he, .bool true, .bool false, .slice tp ta.length tc] 34 (0, 0)))) (by kernel_rfl) r16c (fun hHeld => ?_)
                refine wpAnyH_take (i := 0) (oi := { dst := some 164, op := Op.move (Operand.tmp 18), type := 3, pos := "law.go:436", after := #[], guard := none }) (v := .int .i64 1) rfl (by kernel_rfl) (by kernel_rfl) (by kernel_rfl) (fun _ _ _ h => h) (Or.inl ⟨by rfl, by intro w hS; go_simp⟩) hHeld ?_
                try simp only [Act.put, List.setIfInBounds_toArray, List.set_cons_zero, List.set_cons_succ]
                refine wpAnyH_take (i := 1) (oi := { dst := some 165, op := Op.move (Operand.tmp 18), type := 3, pos := "law.go:436", after := #[], guard := none }) (v := .int .i64 1) rfl (by kernel_rfl) (by kernel_rfl) (by kernel_rfl) (fun _ _ _ h => h) (Or.inl ⟨by rfl, by intro w hS; go_simp⟩) hHeld ?_
                try simp only [Act.put, List.setIfInBounds_toArray, List.set_cons_zero, List.set_cons_succ]
                refine wpAnyH_take (i := 4) (oi := { dst := some 168, op := Op.fieldAddr 34 (Operand.tmp 16) 4, type := 0, pos := "law.go:436", after := #[], guard := none }) (v := .pointer (some ⟨G16, 4, none⟩)) rfl (by kernel_rfl) (by kernel_rfl) (by kernel_rfl) (fun _ _ _ h => h) (Or.inl ⟨by rfl, by intro w hS; go_simp⟩) hHeld ?_
                try simp only [Act.put, List.setIfInBounds_toArray, List.set_cons_zero, List.set_cons_succ]
                refine wpAnyH_take (i := 2) (oi := { dst := some 166, op := Op.indexAddr 25 (Operand.tmp 9) (Operand.tmp 165), type := 0, pos := "law.go:436", after := #[{ on := 1, ground := Ground.data }], guard := none }) (v := .pointer (some ⟨GS, 1, none⟩)) rfl (by kernel_rfl) (by kernel_rfl) (by kernel_rfl) (fun _ _ _ h => h) (Or.inl ⟨by rfl, by intro w hS; go_simp⟩) hHeld ?_
                try simp only [Act.put, List.setIfInBounds_toArray, List.set_cons_zero, List.set_cons_succ]
                refine wpAnyH_take (i := 5) (oi := { dst := some 169, op := Op.load 24 (Operand.tmp 168), type := 24, pos := "law.go:436", after := #[{ on := 4, ground := Ground.data }], guard := none }) (v := .slice tp ta.length tc) rfl (by kernel_rfl) (by kernel_rfl) (by kernel_rfl) (fun _ _ _ h => h) (Or.inl ⟨by rfl, by intro w hS; have hc := (cell_of_row _ _ 4 _ _ _ hS); go_simp⟩) hHeld ?_
                try simp only [Act.put, List.setIfInBounds_toArray, List.set_cons_zero, List.set_cons_succ]
                refine wpAnyH_ready (rs := [3]) (by kernel_rfl) (by simp) ?_
                refine (AllReadyH.cons (o := { dst := some 167, op := Op.load 24 (Operand.tmp 166), type := 24, pos := "law.go:436", after := #[{ on := 2, ground := Ground.data }], guard := none }) rfl (fun K hK => ?_) AllReadyH.nil)
                go_simp
                refine hK.out _ _ (hHeld) (fun hHeld2 => ?_)
                clear hK K hHeld
                have hHeld := hHeld2
                clear hHeld2
                try simp only [Act.put, List.setIfInBounds_toArray, List.set_cons_zero, List.set_cons_succ]
                refine wpAnyH_ready (rs := [6]) (by kernel_rfl) (by simp) ?_
                refine (AllReadyH.cons (o := { dst := some 170, op := Op.call { callee := Callee.value (Operand.func 7), args := #[Operand.tmp 167, Operand.tmp 169], argTypes := #[24, 24] }, type := 24, pos := "law.go:436", after := #[{ on := 3, ground := Ground.data }, { on := 5, ground := Ground.data }], guard := none }) rfl (fun K hK => ?_) AllReadyH.nil)
                go_simp
                go_at_call 7
                refine (KSL.out _ (Below.refl _ _).drew).mono ?_
                rintro e w21 ⟨v, rfl, hO, b21⟩
                have T9 := T8.below ((Below.refl w20.heap.size w20).drew.trans b21)
                have hp : Pg w21 GS G10 G11 v (secS o ++ tlF ta 192) := Pg.own hO (by rw [List.length_append, secS_len, tlF_len]) (hlt_ T8.rS) (hlt_ T8.r10) (hlt_ T8.r11)
                obtain ⟨bv, qv, rfl, _⟩ := hp.form
                have cw := T9.cell1.1
                have fw := T9.cell1.2
                have T10 := T9.setV1 _ _ hp
                go_wp2_with fail
                refine hK.out _ _ (hbel b21 hHeld (hlt_ hHeld)) (fun hHeld2 => ?_)
                clear hK K hHeld
                have hHeld := hHeld2
                clear hHeld2
                try simp only [Act.put, List.setIfInBounds_toArray, List.set_cons_zero, List.set_cons_succ]
                refine wpAnyH_take (i := 7) (oi := { dst := some 171, op := Op.indexAddr 25 (Operand.tmp 9) (Operand.tmp 164), type := 0, pos := "law.go:436", after := #[{ on := 0, ground := Ground.data }, { on := 0, ground := Ground.phase }, { on := 1, ground := Ground.phase }, { on := 2, ground := Ground.phase }, { on := 3, ground := Ground.phase }, { on := 4, ground := Ground.phase }, { on := 5, ground := Ground.phase }, { on := 6, ground := Ground.phase }], guard := none }) (v := .pointer (some ⟨GS, 1, none⟩)) rfl (by kernel_rfl) (by kernel_rfl) (by kernel_rfl) (fun _ _ _ h => h) (Or.inl ⟨by rfl, by intro w hS; go_simp⟩) hHeld ?_
                try simp only [Act.put, List.setIfInBounds_toArray, List.set_cons_zero, List.set_cons_succ]
                refine wpAnyH_ready (rs := [8]) (by kernel_rfl) (by simp) ?_
                refine (AllReadyH.cons (o := { dst := none, op := Op.store 24 (Operand.tmp 171) (Operand.tmp 170), type := 0, pos := "law.go:436", after := #[{ on := 7, ground := Ground.data }, { on := 6, ground := Ground.data }, { on := 6, ground := Ground.chain }, { on := 0, ground := Ground.phase }, { on := 1, ground := Ground.phase }, { on := 2, ground := Ground.phase }, { on := 3, ground := Ground.phase }, { on := 4, ground := Ground.phase }, { on := 5, ground := Ground.phase }, { on := 6, ground := Ground.phase }], guard := none }) rfl (fun K hK => ?_) AllReadyH.nil)
                go_simp
                refine hK.out _ _ (heap_set_far hHeld ⟨GS, 1, none⟩ _ n16) (fun hHeld2 => ?_)
                clear hK K hHeld
                have hHeld := hHeld2
                clear hHeld2
                try simp only [Act.put, List.setIfInBounds_toArray, List.set_cons_zero, List.set_cons_succ]
                refine wpAnyH_done (by kernel_rfl) ?_ _
                refine NoPanic.normal ?_
                clear cv cw fw
                go_wp2
                go_roundw
                case rel => exact ⟨i + 1, s, o, s, _, _, _, _, by omega, by go_num, T10, HG.out.keep 1 hkm.out _ (tlF_len ta 192) (tlF_byts ta8 192), (by push_cast; omega), hwd.out, hpg.out⟩
                case measure => simp [intOf]; omega
        · have hq1 : (q == 0) = false := by simp [hq0]
          have hq3 := hq.out
          go_wp2_with fail
          clear hq3
          generalize (w18.setCell ⟨w15.heap.size, 2, none⟩ (.int .i64 m)).setCell ⟨w15.heap.size, 3, none⟩ (.int .i64 0) = w22 at *
          refine (whole_num w22 he 2 (m - 1) (by omega) (by omega) (by omega) hhe).mono ?_
          rintro e w23 ⟨hh, rfl, y1, y2, rfl⟩
          have k7 : w23.cell? ⟨w15.heap.size, 3, none⟩ = some (.int .i64 0) := cell_of_row w23 _ 3 _ _ _ R3
          have k8 : w23.frozen? ⟨w15.heap.size, 3, none⟩ = false := frozen_of_row _ _ _ _ _ R3
          have RU : (w23.setCell ⟨w15.heap.size, 3, none⟩ (.int .i64 hh)).heap[w15.heap.size]? = some (.cells #[.int .i64 s.wd, .int .i64 (s.ge + 1), .int .i64 m, .int .i64 hh, .int .i64 s.pg] 27 (0, 0)) := heap_setCell_same w23 _ 3 _ _ (.int .i64 hh) R3
          replace B8 := B8.setCell (p := ⟨w15.heap.size, 3, none⟩) (Nat.le_refl _) (.int .i64 hh)
          clear R3
          obtain ⟨u, hu⟩ : ∃ u : Sup, u = ⟨s.wd, s.ge + 1, m, hh, s.pg⟩ := ⟨_, rfl⟩
          have hvu : validS u = true := by rw [hu]; exact (validS_iff _).2 ⟨vv.1, vv.2.1, (by omega : (0:Int) ≤ s.ge + 1), (by omega : s.ge + 1 ≤ 1099511627776), vv.2.2.2.2.1, vv.2.2.2.2.2.1, (by omega : (2:Int) ≤ m), (by omega : m ≤ s.pg), Or.inr ⟨y1, (by omega : hh < m)⟩⟩
          have hfu : Fol u s := by rw [hu]; exact ⟨rfl, rfl, rfl, m1⟩
          have hug : u.ge = s.ge + 1 ∧ u.wd = W ∧ u.pg = P := by rw [hu]; exact ⟨rfl, hwd, hpg⟩
          have HVU := hid hvu
          have HFU := hid hfu
          have HUG := hid hug
          rw [show (#[.int .i64 s.wd, .int .i64 (s.ge + 1), .int .i64 m, .int .i64 hh, .int .i64 s.pg] : Array Value) = supC u by rw [hu]; rfl] at RU
          replace hu := hid hu
          clear hvu hfu hug
          have hq2 := hq.out
          go_wp2_with (first
            | (refine wpList_load_row_w (by rfl) 27 (.tmp 17) (by rfl) w15.heap.size (by rfl) 27 (supC u) (0, 0) _ (by exact RU) Try.underlying27 rfl (supN _) ?_))
          generalize w23.setCell ⟨w15.heap.size, 3, none⟩ (.int .i64 hh) = w19 at *
          refine (packSuper_ok w19 u HVU.out).mono ?_
          rintro e w20 ⟨gN, rfl, hgN, rN, b20⟩
          replace RU := hbel b20 RU (hlt_ RU)
          replace B8 := B8.trans (b20.mono B8.size)
          clear b20 k2 k3 k4 k5 k6 hq2
          have T8 := T5.below B8
          have r16c := hbel B8 r16 (hlt_ r16)
          have hsT2 := hsT.below B8 (Nat.le_refl _)
          have nGS : w15.heap.size ≠ GS := fun h => absurd (hlt_ T5.rS) (by omega)
          obtain ⟨Z, hZ⟩ : ∃ Z : List Int, Z = List.replicate 192 0 := ⟨_, rfl⟩
          rw [← hZ] at rN
          have hZl : Z.length = 192 := by rw [hZ, List.length_replicate]
          have hsN := src_rowf rN 256 (by rw [List.length_append, secS_len, hZl]; exact Nat.le_refl _) (by decide)
          clear hZ rN hgN
          have e1 : w20.cell? ⟨w15.heap.size, 1, none⟩ = some (.int .i64 u.ge) := cell_of_row w20 _ 1 _ _ _ RU
          have e2 : w20.cell? ⟨G16, 2, none⟩ = some (.bool cr) := cell_of_row w20 _ 2 _ _ _ r16c
          have e3 : w20.cell? ⟨G16, 3, none⟩ = some (.bool ke) := cell_of_row w20 _ 3 _ _ _ r16c
          have e4 : w20.cell? ⟨G16, 4, none⟩ = some (.slice tp ta.length tc) := cell_of_row w20 _ 4 _ _ _ r16c
          have hpar : (u.ge.tmod 2 = 0 ∧ (s.ge + 1) % 2 = ((0 : Nat) : Int)) ∨ (u.ge.tmod 2 = 1 ∧ (s.ge + 1) % 2 = ((1 : Nat) : Int)) := by
            rw [HUG.out.1, Int.tmod_eq_emod_of_nonneg (by omega)]; omega
          have hu1 : 0 ≤ u.ge := by rw [HUG.out.1]; omega
          have hu2 : u.ge ≤ 1048578 := by rw [HUG.out.1]; omega
          replace hwd := hid hwd
          replace hpg := hid hpg
          clear T5 r16 hsT B8 vv m1 m2 hu n10 n16
          generalize w15.heap.size = GU at *
          rcases hpar with ⟨hk9, hkm⟩ | ⟨hk9, hkm⟩
          · replace hkm := hid hkm
            cases cr with
            | false =>
              go_wp2_with fail
              refine (slot_any w20 (secS u) Z ta (secS_len u) hZl _ _ hsN _ _ hsT2).mono ?_
              rintro e w21 ⟨v, rfl, hO, b21⟩
              have T9 := T8.below b21
              have hp : Pg w21 GS G10 G11 v (secS u ++ tlF ta 192) := Pg.own hO (by rw [List.length_append, secS_len, tlF_len]) (hlt_ T8.rS) (hlt_ T8.r10) (hlt_ T8.r11)
              obtain ⟨bv, qv, rfl, _⟩ := hp.form
              have cw := T9.cell0.1
              have fw := T9.cell0.2
              have T10 := T9.setV0 _ _ hp
              have RU2 := heap_set_far (hbel b21 RU (hlt_ RU)) ⟨GS, 0, none⟩ (.slice (some ⟨bv, 0, none⟩) 256 qv) nGS
              have T11 := T10.setS u
              clear e1 e2 e3 e4 hk9 RU T8 T9 hsN hsT2 hO b21 hp r16c
              go_wp2_with (first
                | (refine wpList_load_row_w (by rfl) 27 (.tmp 17) (by rfl) GU (by rfl) 27 (supC u) (0, 0) _ (by exact RU2) Try.underlying27 rfl (supN _) ?_)
                | (refine wpList_store_row (by rfl) 27 (.tmp 10) (.tmp 178) (by rfl) G10 (supC u) (by rfl) (by rfl) 27 (supC s) (by exact T10.r10) (supN _) (supS _ _) (supO _) ?_))
              clear cw fw RU2 T10
              go_roundw
              case rel => exact ⟨i + 1, u, s, s, _, _, _, _, by omega, by go_num, T11, HG.out.next 0 hkm.out HVU.out HFU.out _ (tlF_len ta 192) (tlF_byts ta8 192), (by rw [HUG.out.1]; push_cast; omega), HUG.out.2.1, HUG.out.2.2⟩
              case measure => simp [intOf]; omega
            | true =>
              cases ke with
              | true =>
                go_wp2_with fail
                refine (slot_any w20 (secS u) Z ta (secS_len u) hZl _ _ hsN _ _ hsT2).mono ?_
                rintro e w21 ⟨v, rfl, hO, b21⟩
                have T9 := T8.below b21
                have hp : Pg w21 GS G10 G11 v (secS u ++ tlF ta 192) := Pg.own hO (by rw [List.length_append, secS_len, tlF_len]) (hlt_ T8.rS) (hlt_ T8.r10) (hlt_ T8.r11)
                obtain ⟨bv, qv, rfl, _⟩ := hp.form
                have cw := T9.cell0.1
                have fw := T9.cell0.2
                have T10 := T9.setV0 _ _ hp
                have RU2 := heap_set_far (hbel b21 RU (hlt_ RU)) ⟨GS, 0, none⟩ (.slice (some ⟨bv, 0, none⟩) 256 qv) nGS
                have T11 := T10.setS u
                clear e1 e2 e3 e4 hk9 RU T8 T9 hsN hsT2 hO b21 hp r16c
                go_wp2_with (first
                  | (refine wpList_load_row_w (by rfl) 27 (.tmp 17) (by rfl) GU (by rfl) 27 (supC u) (0, 0) _ (by exact RU2) Try.underlying27 rfl (supN _) ?_)
                  | (refine wpList_store_row (by rfl) 27 (.tmp 10) (.tmp 178) (by rfl) G10 (supC u) (by rfl) (by rfl) 27 (supC s) (by exact T10.r10) (supN _) (supS _ _) (supO _) ?_))
                clear cw fw RU2 T10
                go_roundw
                case rel => exact ⟨i + 1, u, s, s, _, _, _, _, by omega, by go_num, T11, HG.out.next 0 hkm.out HVU.out HFU.out _ (tlF_len ta 192) (tlF_byts ta8 192), (by rw [HUG.out.1]; push_cast; omega), HUG.out.2.1, HUG.out.2.2⟩
                case measure => simp [intOf]; omega
              | false =>
                obtain ⟨Z2, hZ2l, hZ2⟩ := HG.out.older 0 hkm.out
                replace hZ2 : L0 = secS o ++ Z2 := hZ2
                have hsO := T8.h0.srcE
                rw [hZ2] at hsO
                have KSL := hid (fun w1 (h : Below w20.heap.size w20 w1) => slot_any w1 (secS o) Z2 ta (secS_len o) hZ2l _ _ (hsO.below h (Nat.le_refl _)) _ _ (hsT2.below h (Nat.le_refl _)))
                have HL2 := hid hZ2
                clear hZ2 hsO
                have cv := T8.cell0.1
                have n16 : G16 ≠ GS := fun e => by
                  have h1 := r16c
                  rw [e, T8.rS] at h1
                  simp at h1
                go_wp2
                clear e1 e2 e3 e4 hk9
                refine wp_region_noPanic ?_
                refine wp_region_held_drew (S := (fun w' => w'.heap[G16]? = some (.cells #[.int .i64 ri, .int .i64 he, .bool true, .bool false, .slice tp ta.length tc] 34 (0, 0)))) (by kernel_rfl) r16c (fun hHeld => ?_)
                refine wpAnyH_take (i := 0) (oi := { dst := some 164, op := Op.move (Operand.tmp 18), type := 3, pos := "law.go:436", after := #[], guard := none }) (v := .int .i64 0) rfl (by kernel_rfl) (by kernel_rfl) (by kernel_rfl) (fun _ _ _ h => h) (Or.inl ⟨by rfl, by intro w hS; go_simp⟩) hHeld ?_
                try simp only [Act.put, List.setIfInBounds_toArray, List.set_cons_zero, List.set_cons_succ]
                refine wpAnyH_take (i := 1) (oi := { dst := some 165, op := Op.move (Operand.tmp 18), type := 3, pos := "law.go:436", after := #[], guard := none }) (v := .int .i64 0) rfl (by kernel_rfl) (by kernel_rfl) (by kernel_rfl) (fun _ _ _ h => h) (Or.inl ⟨by rfl, by intro w hS; go_simp⟩) hHeld ?_
                try simp only [Act.put, List.setIfInBounds_toArray, List.set_cons_zero, List.set_cons_succ]
                refine wpAnyH_take (i := 4) (oi := { dst := some 168, op := Op.fieldAddr 34 (Operand.tmp 16) 4, type := 0, pos := "law.go:436", after := #[], guard := none }) (v := .pointer (some ⟨G16, 4, none⟩)) rfl (by kernel_rfl) (by kernel_rfl) (by kernel_rfl) (fun _ _ _ h => h) (Or.inl ⟨by rfl, by intro w hS; go_simp⟩) hHeld ?_
                try simp only [Act.put, List.setIfInBounds_toArray, List.set_cons_zero, List.set_cons_succ]
                refine wpAnyH_take (i := 2) (oi := { dst := some 166, op := Op.indexAddr 25 (Operand.tmp 9) (Operand.tmp 165), type := 0, pos := "law.go:436", after := #[{ on := 1, ground := Ground.data }], guard := none }) (v := .pointer (some ⟨GS, 0, none⟩)) rfl (by kernel_rfl) (by kernel_rfl) (by kernel_rfl) (fun _ _ _ h => h) (Or.inl ⟨by rfl, by intro w hS; go_simp⟩) hHeld ?_
                try simp only [Act.put, List.setIfInBounds_toArray, List.set_cons_zero, List.set_cons_succ]
                refine wpAnyH_take (i := 5) (oi := { dst := some 169, op := Op.load 24 (Operand.tmp 168), type := 24, pos := "law.go:436", after := #[{ on := 4, ground := Ground.data }], guard := none }) (v := .slice tp ta.length tc) rfl (by kernel_rfl) (by kernel_rfl) (by kernel_rfl) (fun _ _ _ h => h) (Or.inl ⟨by rfl, by intro w hS; have hc := (cell_of_row _ _ 4 _ _ _ hS); go_simp⟩) hHeld ?_
                try simp only [Act.put, List.setIfInBounds_toArray, List.set_cons_zero, List.set_cons_succ]
                refine wpAnyH_ready (rs := [3]) (by kernel_rfl) (by simp) ?_
                refine (AllReadyH.cons (o := { dst := some 167, op := Op.load 24 (Operand.tmp 166), type := 24, pos := "law.go:436", after := #[{ on := 2, ground := Ground.data }], guard := none }) rfl (fun K hK => ?_) AllReadyH.nil)
                go_simp
                refine hK.out _ _ (hHeld) (fun hHeld2 => ?_)
                clear hK K hHeld
                have hHeld := hHeld2
                clear hHeld2
                try simp only [Act.put, List.setIfInBounds_toArray, List.set_cons_zero, List.set_cons_succ]
                refine wpAnyH_ready (rs := [6]) (by kernel_rfl) (by simp) ?_
                refine (AllReadyH.cons (o := { dst := some 170, op := Op.call { callee := Callee.value (Operand.func 7), args := #[Operand.tmp 167, Operand.tmp 169], argTypes := #[24, 24] }, type := 24, pos := "law.go:436", after := #[{ on := 3, ground := Ground.data }, { on := 5, ground := Ground.data }], guard := none }) rfl (fun K hK => ?_) AllReadyH.nil)
                go_simp
                go_at_call 7
                refine (KSL.out _ (Below.refl _ _).drew).mono ?_
                rintro e w21 ⟨v, rfl, hO, b21⟩
                have T9 := T8.below ((Below.refl w20.heap.size w20).drew.trans b21)
                have hp : Pg w21 GS G10 G11 v (secS o ++ tlF ta 192) := Pg.own hO (by rw [List.length_append, secS_len, tlF_len]) (hlt_ T8.rS) (hlt_ T8.r10) (hlt_ T8.r11)
                obtain ⟨bv, qv, rfl, _⟩ := hp.form
                have cw := T9.cell0.1
                have fw := T9.cell0.2
                have T10 := T9.setV0 _ _ hp
                go_wp2_with fail
                refine hK.out _ _ (hbel b21 hHeld (hlt_ hHeld)) (fun hHeld2 => ?_)
                clear hK K hHeld
                have hHeld := hHeld2
                clear hHeld2
                try simp only [Act.put, List.setIfInBounds_toArray, List.set_cons_zero, List.set_cons_succ]
                refine wpAnyH_take (i := 7) (oi := { dst := some 171, op := Op.indexAddr 25 (Operand.tmp 9) (Operand.tmp 164), type := 0, pos := "law.go:436", after := #[{ on := 0, ground := Ground.data }, { on := 0, ground := Ground.phase }, { on := 1, ground := Ground.phase }, { on := 2, ground := Ground.phase }, { on := 3, ground := Ground.phase }, { on := 4, ground := Ground.phase }, { on := 5, ground := Ground.phase }, { on := 6, ground := Ground.phase }], guard := none }) (v := .pointer (some ⟨GS, 0, none⟩)) rfl (by kernel_rfl) (by kernel_rfl) (by kernel_rfl) (fun _ _ _ h => h) (Or.inl ⟨by rfl, by intro w hS; go_simp⟩) hHeld ?_
                try simp only [Act.put, List.setIfInBounds_toArray, List.set_cons_zero, List.set_cons_succ]
                refine wpAnyH_ready (rs := [8]) (by kernel_rfl) (by simp) ?_
                refine (AllReadyH.cons (o := { dst := none, op := Op.store 24 (Operand.tmp 171) (Operand.tmp 170), type := 0, pos := "law.go:436", after := #[{ on := 7, ground := Ground.data }, { on := 6, ground := Ground.data }, { on := 6, ground := Ground.chain }, { on := 0, ground := Ground.phase }, { on := 1, ground := Ground.phase }, { on := 2, ground := Ground.phase }, { on := 3, ground := Ground.phase }, { on := 4, ground := Ground.phase }, { on := 5, ground := Ground.phase }, { on := 6, ground := Ground.phase }], guard := none }) rfl (fun K hK => ?_) AllReadyH.nil)
                go_simp
                refine hK.out _ _ (heap_set_far hHeld ⟨GS, 0, none⟩ _ n16) (fun hHeld2 => ?_)
                clear hK K hHeld
                have hHeld := hHeld2
                clear hHeld2
                try simp only [Act.put, List.setIfInBounds_toArray, List.set_cons_zero, List.set_cons_succ]
                refine wpAnyH_done (by kernel_rfl) ?_ _
                refine NoPanic.normal ?_
                clear cv cw fw
                go_wp2
                go_roundw
                case rel => exact ⟨i + 1, s, o, s, _, _, _, _, by omega, by go_num, T10, HG.out.keep 0 hkm.out _ (tlF_len ta 192) (tlF_byts ta8 192), (by push_cast; omega), hwd.out, hpg.out⟩
                case measure => simp [intOf]; omega
          · replace hkm := hid hkm
            cases cr with
            | false =>
              go_wp2_with fail
              refine (slot_any w20 (secS u) Z ta (secS_len u) hZl _ _ hsN _ _ hsT2).mono ?_
              rintro e w21 ⟨v, rfl, hO, b21⟩
              have T9 := T8.below b21
              have hp : Pg w21 GS G10 G11 v (secS u ++ tlF ta 192) := Pg.own hO (by rw [List.length_append, secS_len, tlF_len]) (hlt_ T8.rS) (hlt_ T8.r10) (hlt_ T8.r11)
              obtain ⟨bv, qv, rfl, _⟩ := hp.form
              have cw := T9.cell1.1
              have fw := T9.cell1.2
              have T10 := T9.setV1 _ _ hp
              have RU2 := heap_set_far (hbel b21 RU (hlt_ RU)) ⟨GS, 1, none⟩ (.slice (some ⟨bv, 0, none⟩) 256 qv) nGS
              have T11 := T10.setS u
              clear e1 e2 e3 e4 hk9 RU T8 T9 hsN hsT2 hO b21 hp r16c
              go_wp2_with (first
                | (refine wpList_load_row_w (by rfl) 27 (.tmp 17) (by rfl) GU (by rfl) 27 (supC u) (0, 0) _ (by exact RU2) Try.underlying27 rfl (supN _) ?_)
                | (refine wpList_store_row (by rfl) 27 (.tmp 10) (.tmp 178) (by rfl) G10 (supC u) (by rfl) (by rfl) 27 (supC s) (by exact T10.r10) (supN _) (supS _ _) (supO _) ?_))
              clear cw fw RU2 T10
              go_roundw
              case rel => exact ⟨i + 1, u, s, s, _, _, _, _, by omega, by go_num, T11, HG.out.next 1 hkm.out HVU.out HFU.out _ (tlF_len ta 192) (tlF_byts ta8 192), (by rw [HUG.out.1]; push_cast; omega), HUG.out.2.1, HUG.out.2.2⟩
              case measure => simp [intOf]; omega
            | true =>
              cases ke with
              | true =>
                go_wp2_with fail
                refine (slot_any w20 (secS u) Z ta (secS_len u) hZl _ _ hsN _ _ hsT2).mono ?_
                rintro e w21 ⟨v, rfl, hO, b21⟩
                have T9 := T8.below b21
                have hp : Pg w21 GS G10 G11 v (secS u ++ tlF ta 192) := Pg.own hO (by rw [List.length_append, secS_len, tlF_len]) (hlt_ T8.rS) (hlt_ T8.r10) (hlt_ T8.r11)
                obtain ⟨bv, qv, rfl, _⟩ := hp.form
                have cw := T9.cell1.1
                have fw := T9.cell1.2
                have T10 := T9.setV1 _ _ hp
                have RU2 := heap_set_far (hbel b21 RU (hlt_ RU)) ⟨GS, 1, none⟩ (.slice (some ⟨bv, 0, none⟩) 256 qv) nGS
                have T11 := T10.setS u
                clear e1 e2 e3 e4 hk9 RU T8 T9 hsN hsT2 hO b21 hp r16c
                go_wp2_with (first
                  | (refine wpList_load_row_w (by rfl) 27 (.tmp 17) (by rfl) GU (by rfl) 27 (supC u) (0, 0) _ (by exact RU2) Try.underlying27 rfl (supN _) ?_)
                  | (refine wpList_store_row (by rfl) 27 (.tmp 10) (.tmp 178) (by rfl) G10 (supC u) (by rfl) (by rfl) 27 (supC s) (by exact T10.r10) (supN _) (supS _ _) (supO _) ?_))
                clear cw fw RU2 T10
                go_roundw
                case rel => exact ⟨i + 1, u, s, s, _, _, _, _, by omega, by go_num, T11, HG.out.next 1 hkm.out HVU.out HFU.out _ (tlF_len ta 192) (tlF_byts ta8 192), (by rw [HUG.out.1]; push_cast; omega), HUG.out.2.1, HUG.out.2.2⟩
                case measure => simp [intOf]; omega
              | false =>
                obtain ⟨Z2, hZ2l, hZ2⟩ := HG.out.older 1 hkm.out
                replace hZ2 : L1 = secS o ++ Z2 := hZ2
                have hsO := T8.h1.srcE
                rw [hZ2] at hsO
                have KSL := hid (fun w1 (h : Below w20.heap.size w20 w1) => slot_any w1 (secS o) Z2 ta (secS_len o) hZ2l _ _ (hsO.below h (Nat.le_refl _)) _ _ (hsT2.below h (Nat.le_refl _)))
                have HL2 := hid hZ2
                clear hZ2 hsO
                have cv := T8.cell1.1
                have n16 : G16 ≠ GS := fun e => by
                  have h1 := r16c
                  rw [e, T8.rS] at h1
                  simp at h1
                go_wp2
                clear e1 e2 e3 e4 hk9
                refine wp_region_noPanic ?_
                refine wp_region_held_drew (S := (fun w' => w'.heap[G16]? = some (.cells #[.int .i64 ri, .int .i64 he, .bool true, .bool false, .slice tp ta.length tc] 34 (0, 0)))) (by kernel_rfl) r16c (fun hHeld => ?_)
                refine wpAnyH_take (i := 0) (oi := { dst := some 164, op := Op.move (Operand.tmp 18), type := 3, pos := "law.go:436", after := #[], guard := none }) (v := .int .i64 1) rfl (by kernel_rfl) (by kernel_rfl) (by kernel_rfl) (fun _ _ _ h => h) (Or.inl ⟨by rfl, by intro w hS; go_simp⟩) hHeld ?_
                try simp only [Act.put, List.setIfInBounds_toArray, List.set_cons_zero, List.set_cons_succ]
                refine wpAnyH_take (i := 1) (oi := { dst := some 165, op := Op.move (Operand.tmp 18), type := 3, pos := "law.go:436", after := #[], guard := none }) (v := .int .i64 1) rfl (by kernel_rfl) (by kernel_rfl) (by kernel_rfl) (fun _ _ _ h => h) (Or.inl ⟨by rfl, by intro w hS; go_simp⟩) hHeld ?_
                try simp only [Act.put, List.setIfInBounds_toArray, List.set_cons_zero, List.set_cons_succ]
                refine wpAnyH_take (i := 4) (oi := { dst := some 168, op := Op.fieldAddr 34 (Operand.tmp 16) 4, type := 0, pos := "law.go:436", after := #[], guard := none }) (v := .pointer (some ⟨G16, 4, none⟩)) rfl (by kernel_rfl) (by kernel_rfl) (by kernel_rfl) (fun _ _ _ h => h) (Or.inl ⟨by rfl, by intro w hS; go_simp⟩) hHeld ?_
                try simp only [Act.put, List.setIfInBounds_toArray, List.set_cons_zero, List.set_cons_succ]
                refine wpAnyH_take (i := 2) (oi := { dst := some 166, op := Op.indexAddr 25 (Operand.tmp 9) (Operand.tmp 165), type := 0, pos := "law.go:436", after := #[{ on := 1, ground := Ground.data }], guard := none }) (v := .pointer (some ⟨GS, 1, none⟩)) rfl (by kernel_rfl) (by kernel_rfl) (by kernel_rfl) (fun _ _ _ h => h) (Or.inl ⟨by rfl, by intro w hS; go_simp⟩) hHeld ?_
                try simp only [Act.put, List.setIfInBounds_toArray, List.set_cons_zero, List.set_cons_succ]
                refine wpAnyH_take (i := 5) (oi := { dst := some 169, op := Op.load 24 (Operand.tmp 168), type := 24, pos := "law.go:436", after := #[{ on := 4, ground := Ground.data }], guard := none }) (v := .slice tp ta.length tc) rfl (by kernel_rfl) (by kernel_rfl) (by kernel_rfl) (fun _ _ _ h => h) (Or.inl ⟨by rfl, by intro w hS; have hc := (cell_of_row _ _ 4 _ _ _ hS); go_simp⟩) hHeld ?_
                try simp only [Act.put, List.setIfInBounds_toArray, List.set_cons_zero, List.set_cons_succ]
                refine wpAnyH_ready (rs := [3]) (by kernel_rfl) (by simp) ?_
                refine (AllReadyH.cons (o := { dst := some 167, op := Op.load 24 (Operand.tmp 166), type := 24, pos := "law.go:436", after := #[{ on := 2, ground := Ground.data }], guard := none }) rfl (fun K hK => ?_) AllReadyH.nil)
                go_simp
                refine hK.out _ _ (hHeld) (fun hHeld2 => ?_)
                clear hK K hHeld
                have hHeld := hHeld2
                clear hHeld2
                try simp only [Act.put, List.setIfInBounds_toArray, List.set_cons_zero, List.set_cons_succ]
                refine wpAnyH_ready (rs := [6]) (by kernel_rfl) (by simp) ?_
                refine (AllReadyH.cons (o := { dst := some 170, op := Op.call { callee := Callee.value (Operand.func 7), args := #[Operand.tmp 167, Operand.tmp 169], argTypes := #[24, 24] }, type := 24, pos := "law.go:436", after := #[{ on := 3, ground := Ground.data }, { on := 5, ground := Ground.data }], guard := none }) rfl (fun K hK => ?_) AllReadyH.nil)
                go_simp
                go_at_call 7
                refine (KSL.out _ (Below.refl _ _).drew).mono ?_
                rintro e w21 ⟨v, rfl, hO, b21⟩
                have T9 := T8.below ((Below.refl w20.heap.size w20).drew.trans b21)
                have hp : Pg w21 GS G10 G11 v (secS o ++ tlF ta 192) := Pg.own hO (by rw [List.length_append, secS_len, tlF_len]) (hlt_ T8.rS) (hlt_ T8.r10) (hlt_ T8.r11)
                obtain ⟨bv, qv, rfl, _⟩ := hp.form
                have cw := T9.cell1.1
                have fw := T9.cell1.2
                have T10 := T9.setV1 _ _ hp
                go_wp2_with fail
                refine hK.out _ _ (hbel b21 hHeld (hlt_ hHeld)) (fun hHeld2 => ?_)
                clear hK K hHeld
                have hHeld := hHeld2
                clear hHeld2
                try simp only [Act.put, List.setIfInBounds_toArray, List.set_cons_zero, List.set_cons_succ]
                refine wpAnyH_take (i := 7) (oi := { dst := some 171, op := Op.indexAddr 25 (Operand.tmp 9) (Operand.tmp 164), type := 0, pos := "law.go:436", after := #[{ on := 0, ground := Ground.data }, { on := 0, ground := Ground.phase }, { on := 1, ground := Ground.phase }, { on := 2, ground := Ground.phase }, { on := 3, ground := Ground.phase }, { on := 4, ground := Ground.phase }, { on := 5, ground := Ground.phase }, { on := 6, ground := Ground.phase }], guard := none }) (v := .pointer (some ⟨GS, 1, none⟩)) rfl (by kernel_rfl) (by kernel_rfl) (by kernel_rfl) (fun _ _ _ h => h) (Or.inl ⟨by rfl, by intro w hS; go_simp⟩) hHeld ?_
                try simp only [Act.put, List.setIfInBounds_toArray, List.set_cons_zero, List.set_cons_succ]
                refine wpAnyH_ready (rs := [8]) (by kernel_rfl) (by simp) ?_
                refine (AllReadyH.cons (o := { dst := none, op := Op.store 24 (Operand.tmp 171) (Operand.tmp 170), type := 0, pos := "law.go:436", after := #[{ on := 7, ground := Ground.data }, { on := 6, ground := Ground.data }, { on := 6, ground := Ground.chain }, { on := 0, ground := Ground.phase }, { on := 1, ground := Ground.phase }, { on := 2, ground := Ground.phase }, { on := 3, ground := Ground.phase }, { on := 4, ground := Ground.phase }, { on := 5, ground := Ground.phase }, { on := 6, ground := Ground.phase }], guard := none }) rfl (fun K hK => ?_) AllReadyH.nil)
                go_simp
                refine hK.out _ _ (heap_set_far hHeld ⟨GS, 1, none⟩ _ n16) (fun hHeld2 => ?_)
                clear hK K hHeld
                have hHeld := hHeld2
                clear hHeld2
                try simp only [Act.put, List.setIfInBounds_toArray, List.set_cons_zero, List.set_cons_succ]
                refine wpAnyH_done (by kernel_rfl) ?_ _
                refine NoPanic.normal ?_
                clear cv cw fw
                go_wp2
                go_roundw
                case rel => exact ⟨i + 1, s, o, s, _, _, _, _, by omega, by go_num, T10, HG.out.keep 1 hkm.out _ (tlF_len ta 192) (tlF_byts ta8 192), (by push_cast; omega), hwd.out, hpg.out⟩
                case measure => simp [intOf]; omega
      · have RU : ((w18.setCell ⟨w15.heap.size, 2, none⟩ (.int .i64 m)).setCell ⟨w15.heap.size, 3, none⟩ (.int .i64 0)).heap[w15.heap.size]? = some (.cells #[.int .i64 s.wd, .int .i64 (s.ge + 1), .int .i64 m, .int .i64 0, .int .i64 s.pg] 27 (0, 0)) := R3
        obtain ⟨u, hu⟩ : ∃ u : Sup, u = ⟨s.wd, s.ge + 1, m, 0, s.pg⟩ := ⟨_, rfl⟩
        have hvu : validS u = true := by rw [hu]; exact (validS_iff _).2 ⟨vv.1, vv.2.1, (by omega : (0:Int) ≤ s.ge + 1), (by omega : s.ge + 1 ≤ 1099511627776), vv.2.2.2.2.1, vv.2.2.2.2.2.1, (by omega : (2:Int) ≤ m), (by omega : m ≤ s.pg), Or.inl rfl⟩
        have hfu : Fol u s := by rw [hu]; exact ⟨rfl, rfl, rfl, m1⟩
        have hug : u.ge = s.ge + 1 ∧ u.wd = W ∧ u.pg = P := by rw [hu]; exact ⟨rfl, hwd, hpg⟩
        have HVU := hid hvu
        have HFU := hid hfu
        have HUG := hid hug
        rw [show (#[.int .i64 s.wd, .int .i64 (s.ge + 1), .int .i64 m, .int .i64 0, .int .i64 s.pg] : Array Value) = supC u by rw [hu]; rfl] at RU
        replace hu := hid hu
        clear hvu hfu hug
        have hq2 := hq.out
        go_wp2_with (first
          | (refine wpList_load_row_w (by rfl) 27 (.tmp 17) (by rfl) w15.heap.size (by rfl) 27 (supC u) (0, 0) _ (by exact RU) Try.underlying27 rfl (supN _) ?_))
        generalize (w18.setCell ⟨w15.heap.size, 2, none⟩ (.int .i64 m)).setCell ⟨w15.heap.size, 3, none⟩ (.int .i64 0) = w19 at *
        refine (packSuper_ok w19 u HVU.out).mono ?_
        rintro e w20 ⟨gN, rfl, hgN, rN, b20⟩
        replace RU := hbel b20 RU (hlt_ RU)
        replace B8 := B8.trans (b20.mono B8.size)
        clear b20 k2 k3 k4 k5 k6 hq2
        have T8 := T5.below B8
        have r16c := hbel B8 r16 (hlt_ r16)
        have hsT2 := hsT.below B8 (Nat.le_refl _)
        have nGS : w15.heap.size ≠ GS := fun h => absurd (hlt_ T5.rS) (by omega)
        obtain ⟨Z, hZ⟩ : ∃ Z : List Int, Z = List.replicate 192 0 := ⟨_, rfl⟩
        rw [← hZ] at rN
        have hZl : Z.length = 192 := by rw [hZ, List.length_replicate]
        have hsN := src_rowf rN 256 (by rw [List.length_append, secS_len, hZl]; exact Nat.le_refl _) (by decide)
        clear hZ rN hgN
        have e1 : w20.cell? ⟨w15.heap.size, 1, none⟩ = some (.int .i64 u.ge) := cell_of_row w20 _ 1 _ _ _ RU
        have e2 : w20.cell? ⟨G16, 2, none⟩ = some (.bool cr) := cell_of_row w20 _ 2 _ _ _ r16c
        have e3 : w20.cell? ⟨G16, 3, none⟩ = some (.bool ke) := cell_of_row w20 _ 3 _ _ _ r16c
        have e4 : w20.cell? ⟨G16, 4, none⟩ = some (.slice tp ta.length tc) := cell_of_row w20 _ 4 _ _ _ r16c
        have hpar : (u.ge.tmod 2 = 0 ∧ (s.ge + 1) % 2 = ((0 : Nat) : Int)) ∨ (u.ge.tmod 2 = 1 ∧ (s.ge + 1) % 2 = ((1 : Nat) : Int)) := by
          rw [HUG.out.1, Int.tmod_eq_emod_of_nonneg (by omega)]; omega
        have hu1 : 0 ≤ u.ge := by rw [HUG.out.1]; omega
        have hu2 : u.ge ≤ 1048578 := by rw [HUG.out.1]; omega
        replace hwd := hid hwd
        replace hpg := hid hpg
        clear T5 r16 hsT B8 vv m1 m2 hu n10 n16
        generalize w15.heap.size = GU at *
        rcases hpar with ⟨hk9, hkm⟩ | ⟨hk9, hkm⟩
        · replace hkm := hid hkm
          cases cr with
          | false =>
            go_wp2_with fail
            refine (slot_any w20 (secS u) Z ta (secS_len u) hZl _ _ hsN _ _ hsT2).mono ?_
            rintro e w21 ⟨v, rfl, hO, b21⟩
            have T9 := T8.below b21
            have hp : Pg w21 GS G10 G11 v (secS u ++ tlF ta 192) := Pg.own hO (by rw [List.length_append, secS_len, tlF_len]) (hlt_ T8.rS) (hlt_ T8.r10) (hlt_ T8.r11)
            obtain ⟨bv, qv, rfl, _⟩ := hp.form
            have cw := T9.cell0.1
            have fw := T9.cell0.2
            have T10 := T9.setV0 _ _ hp
            have RU2 := heap_set_far (hbel b21 RU (hlt_ RU)) ⟨GS, 0, none⟩ (.slice (some ⟨bv, 0, none⟩) 256 qv) nGS
            have T11 := T10.setS u
            clear e1 e2 e3 e4 hk9 RU T8 T9 hsN hsT2 hO b21 hp r16c
            go_wp2_with (first
              | (refine wpList_load_row_w (by rfl) 27 (.tmp 17) (by rfl) GU (by rfl) 27 (supC u) (0, 0) _ (by exact RU2) Try.underlying27 rfl (supN _) ?_)
              | (refine wpList_store_row (by rfl) 27 (.tmp 10) (.tmp 178) (by rfl) G10 (supC u) (by rfl) (by rfl) 27 (supC s) (by exact T10.r10) (supN _) (supS _ _) (supO _) ?_))
            clear cw fw RU2 T10
            go_roundw
            case rel => exact ⟨i + 1, u, s, s, _, _, _, _, by omega, by go_num, T11, HG.out.next 0 hkm.out HVU.out HFU.out _ (tlF_len ta 192) (tlF_byts ta8 192), (by rw [HUG.out.1]; push_cast; omega), HUG.out.2.1, HUG.out.2.2⟩
            case measure => simp [intOf]; omega
          | true =>
            cases ke with
            | true =>
              go_wp2_with fail
              refine (slot_any w20 (secS u) Z ta (secS_len u) hZl _ _ hsN _ _ hsT2).mono ?_
              rintro e w21 ⟨v, rfl, hO, b21⟩
              have T9 := T8.below b21
              have hp : Pg w21 GS G10 G11 v (secS u ++ tlF ta 192) := Pg.own hO (by rw [List.length_append, secS_len, tlF_len]) (hlt_ T8.rS) (hlt_ T8.r10) (hlt_ T8.r11)
              obtain ⟨bv, qv, rfl, _⟩ := hp.form
              have cw := T9.cell0.1
              have fw := T9.cell0.2
              have T10 := T9.setV0 _ _ hp
              have RU2 := heap_set_far (hbel b21 RU (hlt_ RU)) ⟨GS, 0, none⟩ (.slice (some ⟨bv, 0, none⟩) 256 qv) nGS
              have T11 := T10.setS u
              clear e1 e2 e3 e4 hk9 RU T8 T9 hsN hsT2 hO b21 hp r16c
              go_wp2_with (first
                | (refine wpList_load_row_w (by rfl) 27 (.tmp 17) (by rfl) GU (by rfl) 27 (supC u) (0, 0) _ (by exact RU2) Try.underlying27 rfl (supN _) ?_)
                | (refine wpList_store_row (by rfl) 27 (.tmp 10) (.tmp 178) (by rfl) G10 (supC u) (by rfl) (by rfl) 27 (supC s) (by exact T10.r10) (supN _) (supS _ _) (supO _) ?_))
              clear cw fw RU2 T10
              go_roundw
              case rel => exact ⟨i + 1, u, s, s, _, _, _, _, by omega, by go_num, T11, HG.out.next 0 hkm.out HVU.out HFU.out _ (tlF_len ta 192) (tlF_byts ta8 192), (by rw [HUG.out.1]; push_cast; omega), HUG.out.2.1, HUG.out.2.2⟩
              case measure => simp [intOf]; omega
            | false =>
              obtain ⟨Z2, hZ2l, hZ2⟩ := HG.out.older 0 hkm.out
              replace hZ2 : L0 = secS o ++ Z2 := hZ2
              have hsO := T8.h0.srcE
              rw [hZ2] at hsO
              have KSL := hid (fun w1 (h : Below w20.heap.size w20 w1) => slot_any w1 (secS o) Z2 ta (secS_len o) hZ2l _ _ (hsO.below h (Nat.le_refl _)) _ _ (hsT2.below h (Nat.le_refl _)))
              have HL2 := hid hZ2
              clear hZ2 hsO
              have cv := T8.cell0.1
              have n16 : G16 ≠ GS := fun e => by
                have h1 := r16c
                rw [e, T8.rS] at h1
                simp at h1
              go_wp2
              clear e1 e2 e3 e4 hk9
              refine wp_region_noPanic ?_
              refine wp_region_held_drew (S := (fun w' => w'.heap[G16]? = some (.cells #[.int .i64 ri, .int .i64 he, .bool true, .bool false, .slice tp ta.length tc] 34 (0, 0)))) (by kernel_rfl) r16c (fun hHeld => ?_)
              refine wpAnyH_take (i := 0) (oi := { dst := some 164, op := Op.move (Operand.tmp 18), type := 3, pos := "law.go:436", after := #[], guard := none }) (v := .int .i64 0) rfl (by kernel_rfl) (by kernel_rfl) (by kernel_rfl) (fun _ _ _ h => h) (Or.inl ⟨by rfl, by intro w hS; go_simp⟩) hHeld ?_
              try simp only [Act.put, List.setIfInBounds_toArray, List.set_cons_zero, List.set_cons_succ]
              refine wpAnyH_take (i := 1) (oi := { dst := some 165, op := Op.move (Operand.tmp 18), type := 3, pos := "law.go:436", after := #[], guard := none }) (v := .int .i64 0) rfl (by kernel_rfl) (by kernel_rfl) (by kernel_rfl) (fun _ _ _ h => h) (Or.inl ⟨by rfl, by intro w hS; go_simp⟩) hHeld ?_
              try simp only [Act.put, List.setIfInBounds_toArray, List.set_cons_zero, List.set_cons_succ]
              refine wpAnyH_take (i := 4) (oi := { dst := some 168, op := Op.fieldAddr 34 (Operand.tmp 16) 4, type := 0, pos := "law.go:436", after := #[], guard := none }) (v := .pointer (some ⟨G16, 4, none⟩)) rfl (by kernel_rfl) (by kernel_rfl) (by kernel_rfl) (fun _ _ _ h => h) (Or.inl ⟨by rfl, by intro w hS; go_simp⟩) hHeld ?_
              try simp only [Act.put, List.setIfInBounds_toArray, List.set_cons_zero, List.set_cons_succ]
              refine wpAnyH_take (i := 2) (oi := { dst := some 166, op := Op.indexAddr 25 (Operand.tmp 9) (Operand.tmp 165), type := 0, pos := "law.go:436", after := #[{ on := 1, ground := Ground.data }], guard := none }) (v := .pointer (some ⟨GS, 0, none⟩)) rfl (by kernel_rfl) (by kernel_rfl) (by kernel_rfl) (fun _ _ _ h => h) (Or.inl ⟨by rfl, by intro w hS; go_simp⟩) hHeld ?_
              try simp only [Act.put, List.setIfInBounds_toArray, List.set_cons_zero, List.set_cons_succ]
              refine wpAnyH_take (i := 5) (oi := { dst := some 169, op := Op.load 24 (Operand.tmp 168), type := 24, pos := "law.go:436", after := #[{ on := 4, ground := Ground.data }], guard := none }) (v := .slice tp ta.length tc) rfl (by kernel_rfl) (by kernel_rfl) (by kernel_rfl) (fun _ _ _ h => h) (Or.inl ⟨by rfl, by intro w hS; have hc := (cell_of_row _ _ 4 _ _ _ hS); go_simp⟩) hHeld ?_
              try simp only [Act.put, List.setIfInBounds_toArray, List.set_cons_zero, List.set_cons_succ]
              refine wpAnyH_ready (rs := [3]) (by kernel_rfl) (by simp) ?_
              refine (AllReadyH.cons (o := { dst := some 167, op := Op.load 24 (Operand.tmp 166), type := 24, pos := "law.go:436", after := #[{ on := 2, ground := Ground.data }], guard := none }) rfl (fun K hK => ?_) AllReadyH.nil)
              go_simp
              refine hK.out _ _ (hHeld) (fun hHeld2 => ?_)
              clear hK K hHeld
              have hHeld := hHeld2
              clear hHeld2
              try simp only [Act.put, List.setIfInBounds_toArray, List.set_cons_zero, List.set_cons_succ]
              refine wpAnyH_ready (rs := [6]) (by kernel_rfl) (by simp) ?_
              refine (AllReadyH.cons (o := { dst := some 170, op := Op.call { callee := Callee.value (Operand.func 7), args := #[Operand.tmp 167, Operand.tmp 169], argTypes := #[24, 24] }, type := 24, pos := "law.go:436", after := #[{ on := 3, ground := Ground.data }, { on := 5, ground := Ground.data }], guard := none }) rfl (fun K hK => ?_) AllReadyH.nil)
              go_simp
              go_at_call 7
              refine (KSL.out _ (Below.refl _ _).drew).mono ?_
              rintro e w21 ⟨v, rfl, hO, b21⟩
              have T9 := T8.below ((Below.refl w20.heap.size w20).drew.trans b21)
              have hp : Pg w21 GS G10 G11 v (secS o ++ tlF ta 192) := Pg.own hO (by rw [List.length_append, secS_len, tlF_len]) (hlt_ T8.rS) (hlt_ T8.r10) (hlt_ T8.r11)
              obtain ⟨bv, qv, rfl, _⟩ := hp.form
              have cw := T9.cell0.1
              have fw := T9.cell0.2
              have T10 := T9.setV0 _ _ hp
              go_wp2_with fail
              refine hK.out _ _ (hbel b21 hHeld (hlt_ hHeld)) (fun hHeld2 => ?_)
              clear hK K hHeld
              have hHeld := hHeld2
              clear hHeld2
              try simp only [Act.put, List.setIfInBounds_toArray, List.set_cons_zero, List.set_cons_succ]
              refine wpAnyH_take (i := 7) (oi := { dst := some 171, op := Op.indexAddr 25 (Operand.tmp 9) (Operand.tmp 164), type := 0, pos := "law.go:436", after := #[{ on := 0, ground := Ground.data }, { on := 0, ground := Ground.phase }, { on := 1, ground := Ground.phase }, { on := 2, ground := Ground.phase }, { on := 3, ground := Ground.phase }, { on := 4, ground := Ground.phase }, { on := 5, ground := Ground.phase }, { on := 6, ground := Ground.phase }], guard := none }) (v := .pointer (some ⟨GS, 0, none⟩)) rfl (by kernel_rfl) (by kernel_rfl) (by kernel_rfl) (fun _ _ _ h => h) (Or.inl ⟨by rfl, by intro w hS; go_simp⟩) hHeld ?_
              try simp only [Act.put, List.setIfInBounds_toArray, List.set_cons_zero, List.set_cons_succ]
              refine wpAnyH_ready (rs := [8]) (by kernel_rfl) (by simp) ?_
              refine (AllReadyH.cons (o := { dst := none, op := Op.store 24 (Operand.tmp 171) (Operand.tmp 170), type := 0, pos := "law.go:436", after := #[{ on := 7, ground := Ground.data }, { on := 6, ground := Ground.data }, { on := 6, ground := Ground.chain }, { on := 0, ground := Ground.phase }, { on := 1, ground := Ground.phase }, { on := 2, ground := Ground.phase }, { on := 3, ground := Ground.phase }, { on := 4, ground := Ground.phase }, { on := 5, ground := Ground.phase }, { on := 6, ground := Ground.phase }], guard := none }) rfl (fun K hK => ?_) AllReadyH.nil)
              go_simp
              refine hK.out _ _ (heap_set_far hHeld ⟨GS, 0, none⟩ _ n16) (fun hHeld2 => ?_)
              clear hK K hHeld
              have hHeld := hHeld2
              clear hHeld2
              try simp only [Act.put, List.setIfInBounds_toArray, List.set_cons_zero, List.set_cons_succ]
              refine wpAnyH_done (by kernel_rfl) ?_ _
              refine NoPanic.normal ?_
              clear cv cw fw
              go_wp2
              go_roundw
              case rel => exact ⟨i + 1, s, o, s, _, _, _, _, by omega, by go_num, T10, HG.out.keep 0 hkm.out _ (tlF_len ta 192) (tlF_byts ta8 192), (by push_cast; omega), hwd.out, hpg.out⟩
              case measure => simp [intOf]; omega
        · replace hkm := hid hkm
          cases cr with
          | false =>
            go_wp2_with fail
            refine (slot_any w20 (secS u) Z ta (secS_len u) hZl _ _ hsN _ _ hsT2).mono ?_
            rintro e w21 ⟨v, rfl, hO, b21⟩
            have T9 := T8.below b21
            have hp : Pg w21 GS G10 G11 v (secS u ++ tlF ta 192) := Pg.own hO (by rw [List.length_append, secS_len, tlF_len]) (hlt_ T8.rS) (hlt_ T8.r10) (hlt_ T8.r11)
            obtain ⟨bv, qv, rfl, _⟩ := hp.form
            have cw := T9.cell1.1
            have fw := T9.cell1.2
            have T10 := T9.setV1 _ _ hp
            have RU2 := heap_set_far (hbel b21 RU (hlt_ RU)) ⟨GS, 1, none⟩ (.slice (some ⟨bv, 0, none⟩) 256 qv) nGS
            have T11 := T10.setS u
            clear e1 e2 e3 e4 hk9 RU T8 T9 hsN hsT2 hO b21 hp r16c
            go_wp2_with (first
              | (refine wpList_load_row_w (by rfl) 27 (.tmp 17) (by rfl) GU (by rfl) 27 (supC u) (0, 0) _ (by exact RU2) Try.underlying27 rfl (supN _) ?_)
              | (refine wpList_store_row (by rfl) 27 (.tmp 10) (.tmp 178) (by rfl) G10 (supC u) (by rfl) (by rfl) 27 (supC s) (by exact T10.r10) (supN _) (supS _ _) (supO _) ?_))
            clear cw fw RU2 T10
            go_roundw
            case rel => exact ⟨i + 1, u, s, s, _, _, _, _, by omega, by go_num, T11, HG.out.next 1 hkm.out HVU.out HFU.out _ (tlF_len ta 192) (tlF_byts ta8 192), (by rw [HUG.out.1]; push_cast; omega), HUG.out.2.1, HUG.out.2.2⟩
            case measure => simp [intOf]; omega
          | true =>
            cases ke with
            | true =>
              go_wp2_with fail
              refine (slot_any w20 (secS u) Z ta (secS_len u) hZl _ _ hsN _ _ hsT2).mono ?_
              rintro e w21 ⟨v, rfl, hO, b21⟩
              have T9 := T8.below b21
              have hp : Pg w21 GS G10 G11 v (secS u ++ tlF ta 192) := Pg.own hO (by rw [List.length_append, secS_len, tlF_len]) (hlt_ T8.rS) (hlt_ T8.r10) (hlt_ T8.r11)
              obtain ⟨bv, qv, rfl, _⟩ := hp.form
              have cw := T9.cell1.1
              have fw := T9.cell1.2
              have T10 := T9.setV1 _ _ hp
              have RU2 := heap_set_far (hbel b21 RU (hlt_ RU)) ⟨GS, 1, none⟩ (.slice (some ⟨bv, 0, none⟩) 256 qv) nGS
              have T11 := T10.setS u
              clear e1 e2 e3 e4 hk9 RU T8 T9 hsN hsT2 hO b21 hp r16c
              go_wp2_with (first
                | (refine wpList_load_row_w (by rfl) 27 (.tmp 17) (by rfl) GU (by rfl) 27 (supC u) (0, 0) _ (by exact RU2) Try.underlying27 rfl (supN _) ?_)
                | (refine wpList_store_row (by rfl) 27 (.tmp 10) (.tmp 178) (by rfl) G10 (supC u) (by rfl) (by rfl) 27 (supC s) (by exact T10.r10) (supN _) (supS _ _) (supO _) ?_))
              clear cw fw RU2 T10
              go_roundw
              case rel => exact ⟨i + 1, u, s, s, _, _, _, _, by omega, by go_num, T11, HG.out.next 1 hkm.out HVU.out HFU.out _ (tlF_len ta 192) (tlF_byts ta8 192), (by rw [HUG.out.1]; push_cast; omega), HUG.out.2.1, HUG.out.2.2⟩
              case measure => simp [intOf]; omega
            | false =>
              obtain ⟨Z2, hZ2l, hZ2⟩ := HG.out.older 1 hkm.out
              replace hZ2 : L1 = secS o ++ Z2 := hZ2
              have hsO := T8.h1.srcE
              rw [hZ2] at hsO
              have KSL := hid (fun w1 (h : Below w20.heap.size w20 w1) => slot_any w1 (secS o) Z2 ta (secS_len o) hZ2l _ _ (hsO.below h (Nat.le_refl _)) _ _ (hsT2.below h (Nat.le_refl _)))
              have HL2 := hid hZ2
              clear hZ2 hsO
              have cv := T8.cell1.1
              have n16 : G16 ≠ GS := fun e => by
                have h1 := r16c
                rw [e, T8.rS] at h1
                simp at h1
              go_wp2
              clear e1 e2 e3 e4 hk9
              refine wp_region_noPanic ?_
              refine wp_region_held_drew (S := (fun w' => w'.heap[G16]? = some (.cells #[.int .i64 ri, .int .i64 he, .bool true, .bool false, .slice tp ta.length tc] 34 (0, 0)))) (by kernel_rfl) r16c (fun hHeld => ?_)
              refine wpAnyH_take (i := 0) (oi := { dst := some 164, op := Op.move (Operand.tmp 18), type := 3, pos := "law.go:436", after := #[], guard := none }) (v := .int .i64 1) rfl (by kernel_rfl) (by kernel_rfl) (by kernel_rfl) (fun _ _ _ h => h) (Or.inl ⟨by rfl, by intro w hS; go_simp⟩) hHeld ?_
              try simp only [Act.put, List.setIfInBounds_toArray, List.set_cons_zero, List.set_cons_succ]
              refine wpAnyH_take (i := 1) (oi := { dst := some 165, op := Op.move (Operand.tmp 18), type := 3, pos := "law.go:436", after := #[], guard := none }) (v := .int .i64 1) rfl (by kernel_rfl) (by kernel_rfl) (by kernel_rfl) (fun _ _ _ h => h) (Or.inl ⟨by rfl, by intro w hS; go_simp⟩) hHeld ?_
              try simp only [Act.put, List.setIfInBounds_toArray, List.set_cons_zero, List.set_cons_succ]
              refine wpAnyH_take (i := 4) (oi := { dst := some 168, op := Op.fieldAddr 34 (Operand.tmp 16) 4, type := 0, pos := "law.go:436", after := #[], guard := none }) (v := .pointer (some ⟨G16, 4, none⟩)) rfl (by kernel_rfl) (by kernel_rfl) (by kernel_rfl) (fun _ _ _ h => h) (Or.inl ⟨by rfl, by intro w hS; go_simp⟩) hHeld ?_
              try simp only [Act.put, List.setIfInBounds_toArray, List.set_cons_zero, List.set_cons_succ]
              refine wpAnyH_take (i := 2) (oi := { dst := some 166, op := Op.indexAddr 25 (Operand.tmp 9) (Operand.tmp 165), type := 0, pos := "law.go:436", after := #[{ on := 1, ground := Ground.data }], guard := none }) (v := .pointer (some ⟨GS, 1, none⟩)) rfl (by kernel_rfl) (by kernel_rfl) (by kernel_rfl) (fun _ _ _ h => h) (Or.inl ⟨by rfl, by intro w hS; go_simp⟩) hHeld ?_
              try simp only [Act.put, List.setIfInBounds_toArray, List.set_cons_zero, List.set_cons_succ]
              refine wpAnyH_take (i := 5) (oi := { dst := some 169, op := Op.load 24 (Operand.tmp 168), type := 24, pos := "law.go:436", after := #[{ on := 4, ground := Ground.data }], guard := none }) (v := .slice tp ta.length tc) rfl (by kernel_rfl) (by kernel_rfl) (by kernel_rfl) (fun _ _ _ h => h) (Or.inl ⟨by rfl, by intro w hS; have hc := (cell_of_row _ _ 4 _ _ _ hS); go_simp⟩) hHeld ?_
              try simp only [Act.put, List.setIfInBounds_toArray, List.set_cons_zero, List.set_cons_succ]
              refine wpAnyH_ready (rs := [3]) (by kernel_rfl) (by simp) ?_
              refine (AllReadyH.cons (o := { dst := some 167, op := Op.load 24 (Operand.tmp 166), type := 24, pos := "law.go:436", after := #[{ on := 2, ground := Ground.data }], guard := none }) rfl (fun K hK => ?_) AllReadyH.nil)
              go_simp
              refine hK.out _ _ (hHeld) (fun hHeld2 => ?_)
              clear hK K hHeld
              have hHeld := hHeld2
              clear hHeld2
              try simp only [Act.put, List.setIfInBounds_toArray, List.set_cons_zero, List.set_cons_succ]
              refine wpAnyH_ready (rs := [6]) (by kernel_rfl) (by simp) ?_
              refine (AllReadyH.cons (o := { dst := some 170, op := Op.call { callee := Callee.value (Operand.func 7), args := #[Operand.tmp 167, Operand.tmp 169], argTypes := #[24, 24] }, type := 24, pos := "law.go:436", after := #[{ on := 3, ground := Ground.data }, { on := 5, ground := Ground.data }], guard := none }) rfl (fun K hK => ?_) AllReadyH.nil)
              go_simp
              go_at_call 7
              refine (KSL.out _ (Below.refl _ _).drew).mono ?_
              rintro e w21 ⟨v, rfl, hO, b21⟩
              have T9 := T8.below ((Below.refl w20.heap.size w20).drew.trans b21)
              have hp : Pg w21 GS G10 G11 v (secS o ++ tlF ta 192) := Pg.own hO (by rw [List.length_append, secS_len, tlF_len]) (hlt_ T8.rS) (hlt_ T8.r10) (hlt_ T8.r11)
              obtain ⟨bv, qv, rfl, _⟩ := hp.form
              have cw := T9.cell1.1
              have fw := T9.cell1.2
              have T10 := T9.setV1 _ _ hp
              go_wp2_with fail
              refine hK.out _ _ (hbel b21 hHeld (hlt_ hHeld)) (fun hHeld2 => ?_)
              clear hK K hHeld
              have hHeld := hHeld2
              clear hHeld2
              try simp only [Act.put, List.setIfInBounds_toArray, List.set_cons_zero, List.set_cons_succ]
              refine wpAnyH_take (i := 7) (oi := { dst := some 171, op := Op.indexAddr 25 (Operand.tmp 9) (Operand.tmp 164), type := 0, pos := "law.go:436", after := #[{ on := 0, ground := Ground.data }, { on := 0, ground := Ground.phase }, { on := 1, ground := Ground.phase }, { on := 2, ground := Ground.phase }, { on := 3, ground := Ground.phase }, { on := 4, ground := Ground.phase }, { on := 5, ground := Ground.phase }, { on := 6, ground := Ground.phase }], guard := none }) (v := .pointer (some ⟨GS, 1, none⟩)) rfl (by kernel_rfl) (by kernel_rfl) (by kernel_rfl) (fun _ _ _ h => h) (Or.inl ⟨by rfl, by intro w hS; go_simp⟩) hHeld ?_
              try simp only [Act.put, List.setIfInBounds_toArray, List.set_cons_zero, List.set_cons_succ]
              refine wpAnyH_ready (rs := [8]) (by kernel_rfl) (by simp) ?_
              refine (AllReadyH.cons (o := { dst := none, op := Op.store 24 (Operand.tmp 171) (Operand.tmp 170), type := 0, pos := "law.go:436", after := #[{ on := 7, ground := Ground.data }, { on := 6, ground := Ground.data }, { on := 6, ground := Ground.chain }, { on := 0, ground := Ground.phase }, { on := 1, ground := Ground.phase }, { on := 2, ground := Ground.phase }, { on := 3, ground := Ground.phase }, { on := 4, ground := Ground.phase }, { on := 5, ground := Ground.phase }, { on := 6, ground := Ground.phase }], guard := none }) rfl (fun K hK => ?_) AllReadyH.nil)
              go_simp
              refine hK.out _ _ (heap_set_far hHeld ⟨GS, 1, none⟩ _ n16) (fun hHeld2 => ?_)
              clear hK K hHeld
              have hHeld := hHeld2
              clear hHeld2
              try simp only [Act.put, List.setIfInBounds_toArray, List.set_cons_zero, List.set_cons_succ]
              refine wpAnyH_done (by kernel_rfl) ?_ _
              refine NoPanic.normal ?_
              clear cv cw fw
              go_wp2
              go_roundw
              case rel => exact ⟨i + 1, s, o, s, _, _, _, _, by omega, by go_num, T10, HG.out.keep 1 hkm.out _ (tlF_len ta 192) (tlF_byts ta8 192), (by push_cast; omega), hwd.out, hpg.out⟩
              case measure => simp [intOf]; omega
    · have i1 : ¬ ((i : Int) < (rs.length : Int)) := by omega
      go_wp2_with fail
      refine hch.mono ?_
      rintro e w13 ⟨rfl, b13⟩
      clear hch c0 c1
      have T3 := T.below b13
      have T4 := T3.setT s
      go_wp2_with (first
        | (refine wpList_store_row (by rfl) 27 (.tmp 11) (.tmp 185) (by rfl) G11 (supC s) (by rfl) (by rfl) 27 (supC t) (by exact T3.r11) (supN _) (supS _ _) (supO _) ?_)
        | (refine wpList_load_row_w (by rfl) 27 (.tmp 11) (by rfl) G11 (by rfl) 27 (supC s) (0, 0) _ (by exact T4.r11) Try.underlying27 rfl (supN _) ?_)
        | (refine wpList_load_row_w (by rfl) 27 (.tmp 10) (by rfl) G10 (by rfl) 27 (supC s) (0, 0) _ (by exact T4.r10) Try.underlying27 rfl (supN _) ?_))
      go_ret
      exact ⟨rfl, T4.bl⟩
end Go.Proofs.Ythhicgofobklgaa
