import Derived.Test.YtlhmhpkgdcdjkaaZp2
import Derived.Test.YtlhmhpkgdcdjkaaZi2
namespace Go.Proofs.Ytlhmhpkgdcdjkaa
set_option linter.unusedVariables false
set_option linter.unusedSimpArgs false
open Go.RowKit
attribute [local go_sem ↓] Go.wp_at_zero Go.wp_at_succ

theorem xencode_any (w : World) (p : Pf) (ok : PfOk p) (y : PfY p) (s1 s2 : Option Addr) (c1 c2 : Nat) (hS : Src w s1 c1 p.vs) (hT : SrcD w s2 c2 p.ss) :
    Calls Try.prog 28 #[.agg (pfC p (.slice s1 p.vs.length c1) (.slice s2 p.ss.length c2)).toArray] w fun e w' => ∃ v, e = .returned (.tuple #[v, .int .i64 (encE p)]) ∧ Own w' w.heap.size v (encL p) ∧ Below w.heap.size w w' := by
  have h1 := hS.1
  have h2 := hS.2.1
  have h3 := hT.1
  have h4 := hT.2.1
  unfold maxLen at h2 h4
  have hv : p.vs.length ≤ 9223372036854775807 := by omega
  have hs : p.ss.length ≤ 9223372036854775807 := by omega
  by_cases hw : WellP p
  · unfold encE encL
    rw [if_pos hw, if_pos hw]
    cases hf : p.f with
    | true => exact xenc_t w p ok y s1 s2 c1 c2 hS hT hw hf
    | false => exact xenc_f w p ok y s1 s2 c1 c2 hS hT hw hf
  · have key : Calls Try.prog 28 #[.agg (pfC p (.slice s1 p.vs.length c1) (.slice s2 p.ss.length c2)).toArray] w fun e w' => e = .returned (.tuple #[.slice none 0 0, .int .i64 120]) ∧ Below w.heap.size w w' := by
      cases hf : p.f with
      | true =>
        by_cases hc : p.vs.length ≤ 128
        · exact xenc_tq w p ok y s1 s2 c1 c2 hv hs hf hc (fun h => hw ⟨(fun e => by rw [hf] at e; cases e), hc, h⟩)
        · exact xenc_tn w p ok y s1 s2 c1 c2 hv hs hf (by omega)
      | false =>
        by_cases hc : p.vs.length = 0
        · exact xenc_fq w p ok y s1 s2 c1 c2 hv hs hf hc (fun h => hw ⟨fun _ => List.eq_nil_of_length_eq_zero hc, by omega, h⟩)
        · exact xenc_fn w p ok y s1 s2 c1 c2 hv hs hf (by omega)
    refine key.mono ?_
    rintro e w2 ⟨rfl, hb⟩
    unfold encE encL
    rw [if_neg hw, if_neg hw]
    exact ⟨_, rfl, Own.nil _ _, hb⟩
theorem src_pre {w : World} {b o cap : Nat} {t : List Int} (hS : Src w (some ⟨b, o, none⟩) cap t) (n : Nat) (h : n ≤ t.length) : Src w (some ⟨b, o, none⟩) cap (t.take n) := by
  obtain ⟨h1, h2, b', o', h3, h4, h5⟩ := hS
  refine ⟨by rw [List.length_take]; omega, h2, b', o', fun h => h3 (by rw [List.length_take] at h; omega), fun h => h4 (by rw [List.length_take] at h; omega), fun j hj => ?_⟩
  rw [List.length_take] at hj
  rw [h5 j (by omega), List.getD_eq_getElem?_getD, List.getD_eq_getElem?_getD, List.getElem?_take, if_pos (by omega)]
theorem srcD_pre {w : World} {sp : Option Addr} {cap : Nat} {ss : List (List Int)} (hS : SrcD w sp cap ss) (n : Nat) (h : n ≤ ss.length) : SrcD w sp cap (ss.take n) := by
  obtain ⟨h1, h2, h0, b', o', h3, h4, h5⟩ := hS
  refine ⟨by rw [List.length_take]; omega, h2, fun d hd => h0 d (List.mem_of_mem_take hd), b', o', fun h => h3 (by rw [List.length_take] at h; omega), fun h => h4 (by rw [List.length_take] at h; omega), fun j hj => ?_⟩
  rw [List.length_take] at hj
  have e : (ss.take n).getD j [] = ss.getD j [] := by rw [List.getD_eq_getElem?_getD, List.getD_eq_getElem?_getD, List.getElem?_take, if_pos (by omega)]
  rw [e]; exact h5 j (by omega)
set_option maxRecDepth 100000 in
set_option maxHeartbeats 4000000 in
theorem encoded_any (w : World) (p : Pf) (ok : PfOk p) (yp : PfY p) (b1 o1 b2 o2 : Nat) (c1 c2 : Nat) (hS : Src w (some ⟨b1, o1, none⟩) c1 p.vs) (hT : SrcD w (some ⟨b2, o2, none⟩) c2 p.ss) (hv : p.vs.length ≤ 140737488355000) (hm0 : p.ss.length ≤ 4398046511104) (a b : Nat) (ha : a ≤ p.vs.length) (hb : b ≤ p.ss.length) :
    Calls Try.prog 22 #[.agg (pfC p (.slice (some ⟨b1, o1, none⟩) p.vs.length c1) (.slice (some ⟨b2, o2, none⟩) p.ss.length c2)).toArray, .int .i64 a, .int .i64 b] w fun e w' => e = .returned (.bool true) ∧ Below w.heap.size w w' := by
  have AP := hid allocPf
  have LZ := hid (show (pfC pf0 (.slice none 0 0) (.slice none 0 0)).length = 35 from rfl)
  obtain ⟨q, hq⟩ : ∃ q : Pf, q = ⟨p.f, p.vs.take a, p.bs, p.ss.take b⟩ := ⟨_, rfl⟩
  have qok : PfOk q := by rw [hq]; exact ⟨ok.bs, fun d hd => ok.ss d (List.mem_of_mem_take hd)⟩
  have qy : PfY q := by rw [hq]; exact ⟨yp.vs.take a, yp.bs, fun d hd => yp.ss d (List.mem_of_mem_take hd)⟩
  have qv : q.vs.length = a := by rw [hq]; show (p.vs.take a).length = a; rw [List.length_take]; omega
  have qs : q.ss.length = b := by rw [hq]; show (p.ss.take b).length = b; rw [List.length_take]; omega
  have hSq := hid (fun w1 (h : Below w.heap.size w w1) => show Src w1 (some ⟨b1, o1, none⟩) c1 q.vs by rw [hq]; exact src_pre (hS.below h (Nat.le_refl _)) a ha)
  have hTq := hid (fun w1 (h : Below w.heap.size w w1) => show SrcD w1 (some ⟨b2, o2, none⟩) c2 q.ss by rw [hq]; exact srcD_pre (hT.below h (Nat.le_refl _)) b hb)
  have PQ := hid (show ∀ u z, (pfC p u z).set 1 (.slice (some ⟨b1, o1, none⟩) a c1) = pfC q (.slice (some ⟨b1, o1, none⟩) a c1) z by rw [hq]; intro u z; rfl)
  have PS := hid (fun u z z' => pfC_set qok u z z')
  have d0 := ((BK.nil w).alloc (pfC p (.slice (some ⟨b1, o1, none⟩) p.vs.length c1) (.slice (some ⟨b2, o2, none⟩) p.ss.length c2)) 26).alloc (pfC p (.slice (some ⟨b1, o1, none⟩) p.vs.length c1) (.slice (some ⟨b2, o2, none⟩) p.ss.length c2)) 26
  rw [show (w.alloc (.cells (pfC p (.slice (some ⟨b1, o1, none⟩) p.vs.length c1) (.slice (some ⟨b2, o2, none⟩) p.ss.length c2)).toArray 26)).heap.size = w.heap.size + 1 by simp] at d0
  have rB := hnew w (.cells (pfC p (.slice (some ⟨b1, o1, none⟩) p.vs.length c1) (.slice (some ⟨b2, o2, none⟩) p.ss.length c2)).toArray 26)
  have SF := hid (fun v s => show (Try.prog.info? 26).map (·.size) = some (pfC p v s).toArray.size by rw [Try.sizeP, List.size_toArray, pfC_len ok])
  have LF := hid (fun v s => pfC_len ok v s)
  have OF := hid (fun a b c d e f => pfC_one p (.slice a b c) (.slice d e f) rfl rfl)
  have SQ := hid (fun v s => show (Try.prog.info? 26).map (·.size) = some (pfC q v s).toArray.size by rw [Try.sizeP, List.size_toArray, pfC_len qok])
  have LQ := hid (fun v s => pfC_len qok v s)
  have OQ := hid (fun a b c d e f => pfC_one q (.slice a b c) (.slice d e f) rfl rfl)
  have k1 := hid (pfC_v p (.slice (some ⟨b1, o1, none⟩) p.vs.length c1) (.slice (some ⟨b2, o2, none⟩) p.ss.length c2))
  have k34 := hid (pfC_s ok (.slice (some ⟨b1, o1, none⟩) p.vs.length c1) (.slice (some ⟨b2, o2, none⟩) p.ss.length c2))
  have l1 := hid (fun u z => pfC_v q u z)
  have l34 := hid (fun u z => pfC_s qok u z)
  have KC := hid (fun w1 (hb : Below w.heap.size w w1) => copyProof_any w1 p ok _ _ c1 c2 (hS.below hb (Nat.le_refl _)) (hT.below hb (Nat.le_refl _)) hv hm0)
  have KQ := hid (fun w1 (hb : Below w.heap.size w w1) => copyProof_any w1 q qok _ _ c1 c2 (hSq.out w1 hb) (hTq.out w1 hb) (by omega) (by omega))
  have KE := hid (fun w1 (hb : Below w.heap.size w w1) => encode_any w1 q qok qy _ _ c1 c2 (hSq.out w1 hb) (fun h => by cases h) (hTq.out w1 hb))
  have KX := hid (fun w1 a b c d (h1 : Src w1 a c q.vs) (h3 : SrcD w1 b d q.ss) => xencode_any w1 q qok qy a b c d h1 h3)
  have KP := hid (fun w1 (hb : Below w.heap.size w w1) a b c d (h1 : Src w1 a c p.vs) (h2 : SrcD w1 b d p.ss) => sameProof_self w1 p ok _ a _ b c1 c c2 d (hS.below hb (Nat.le_refl _)) h1 (hT.below hb (Nat.le_refl _)) h2)
  have KS := hid (fun w1 a c a' c' (h : Src w1 a c (encL q)) (h' : Src w1 a' c' (encL q)) => same_self w1 (encL q) a a' c c' h h')
  rw [qv, qs] at KQ KE KX
  have hc1 := hS.1
  have hm1 := hS.2.1
  have hc2 := hT.1
  have hm2 := hT.2.1
  unfold maxLen at hm1 hm2
  clear hq qok qy hSq hTq
  generalize encL q = X at *
  generalize encE q = E at *
  generalize hnn : p.vs.length = n at *
  generalize hmm : p.ss.length = m at *
  replace hnn := hid hnn
  replace hmm := hid hmm
  replace qv := hid qv
  replace qs := hid qs
  generalize pfC p = PF at *
  generalize pfC q = QF at *
  have i1 : (a : Int) ≤ (c1 : Int) := by omega
  have i2 : (c1 : Int) ≤ 9223372036854775807 := by omega
  have i3 : (b : Int) ≤ (c2 : Int) := by omega
  have i4 : (c2 : Int) ≤ 9223372036854775807 := by omega
  go_enter Try.func22, Try.ntmps22
  go_wp2_with (first
    | refine wpList_load_row_w (by rfl) 26 _ (by rfl) _ (by rfl) 26 _ _ _ rB Try.underlying26 rfl (SF.out _ _) ?_
    | (refine wpList_new AP.out LZ.out Try.sizeP rfl rfl rfl _ _ rfl rfl (PF (.slice (some ⟨b1, o1, none⟩) n c1) (.slice (some ⟨b2, o2, none⟩) m c2)) rfl rfl (LF.out _ _) (OF.out _ _ _ _ _ _) ?_; refine Hid.out ?_))
  refine hid ?_
  generalize hw1 : (w.alloc (.cells (PF (.slice (some ⟨b1, o1, none⟩) n c1) (.slice (some ⟨b2, o2, none⟩) m c2)).toArray 26)).alloc (.cells (PF (.slice (some ⟨b1, o1, none⟩) n c1) (.slice (some ⟨b2, o2, none⟩) m c2)).toArray 26) = w1 at *
  clear hw1 rB
  have x1 := d0.cell (.tail _ (.head _)) k1.out
  have y1 := d0.cell (.head _) k1.out
  have f1 : w1.frozen? ⟨w.heap.size + 1, 1, none⟩ = false := frozen_of_row _ _ _ _ _ (d0.row (.head _))
  have d1 := d0.setC (by omega) (by intro x hx; simp only [List.mem_cons, List.not_mem_nil, or_false] at hx; subst hx; simp) 1 (.slice (some ⟨b1, o1, none⟩) a c1)
  rw [PQ.out] at d1
  have x34 := d1.cell (.tail _ (.head _)) k34.out
  have y34 := d1.cell (.head _) (l34.out _ _)
  have f34 : (w1.setCell ⟨w.heap.size + 1, 1, none⟩ (.slice (some ⟨b1, o1, none⟩) a c1)).frozen? ⟨w.heap.size + 1, 34, none⟩ = false := frozen_of_row _ _ _ _ _ (d1.row (.head _))
  have d2 := d1.setC (by omega) (by intro x hx; simp only [List.mem_cons, List.not_mem_nil, or_false] at hx; subst hx; simp) 34 (.slice (some ⟨b2, o2, none⟩) b c2)
  rw [PS.out] at d2
  have rp := d2.row (.tail _ (.head _))
  have rq := d2.row (.head _)
  clear d0 d1
  go_wp2_with (first
    | refine wpList_load_row_w (by rfl) 26 _ (by rfl) _ (by rfl) 26 _ _ _ rp Try.underlying26 rfl (SF.out _ _) ?_)
  generalize hw2 : (w1.setCell ⟨w.heap.size + 1, 1, none⟩ (.slice (some ⟨b1, o1, none⟩) a c1)).setCell ⟨w.heap.size + 1, 34, none⟩ (.slice (some ⟨b2, o2, none⟩) b c2) = w2 at *
  clear hw2 x1 y1 f1 x34 y34 f34
  refine (KC.out _ d2.1).mono ?_
  rintro e w3 ⟨a3, e3, a4, e4, rfl, hO3, hQ3, hb3⟩
  have d3 := d2.call hb3
  go_wp2_with (first
    | (refine wpList_new AP.out LZ.out Try.sizeP rfl rfl rfl _ _ rfl rfl (PF (.slice a3 n e3) (.slice a4 m e4)) rfl rfl (LF.out _ _) (OF.out _ _ _ _ _ _) ?_; refine Hid.out ?_))
  refine hid ?_
  have d4 := d3.alloc (PF (.slice a3 n e3) (.slice a4 m e4)) 26
  have b4 : Below w3.heap.size w3 (w3.alloc (.cells (PF (.slice a3 n e3) (.slice a4 m e4)).toArray 26)) := (Below.refl _ _).alloc (Nat.le_refl _) _
  have hO4 := hO3.below b4 (Nat.le_refl _)
  have hQ4 := hQ3.below b4 (Nat.le_refl _)
  have rq := d4.row (.tail _ (.head _))
  generalize w3.alloc (.cells (PF (.slice a3 n e3) (.slice a4 m e4)).toArray 26) = w4 at *
  generalize w3.heap.size = g4 at *
  clear hO3 hQ3 b4 d3 d2 rp
  go_wp2_with (first
    | refine wpList_load_row_w (by rfl) 26 _ (by rfl) _ (by rfl) 26 _ _ _ rq Try.underlying26 rfl (SQ.out _ _) ?_)
  refine (KQ.out _ d4.1).mono ?_
  rintro e w5 ⟨a5, e5, a6, e6, rfl, hO5, hQ5, hb5⟩
  have d5 := d4.call hb5
  have hO4 := hO4.below hb5 (Nat.le_refl _)
  have hQ4 := hQ4.below hb5 (Nat.le_refl _)
  go_wp2_with (first
    | (refine wpList_new AP.out LZ.out Try.sizeP rfl rfl rfl _ _ rfl rfl (QF (.slice a5 a e5) (.slice a6 b e6)) rfl rfl (LQ.out _ _) (OQ.out _ _ _ _ _ _) ?_; refine Hid.out ?_))
  refine hid ?_
  have d6 := d5.alloc (QF (.slice a5 a e5) (.slice a6 b e6)) 26
  have b6 : Below w5.heap.size w5 (w5.alloc (.cells (QF (.slice a5 a e5) (.slice a6 b e6)).toArray 26)) := (Below.refl _ _).alloc (Nat.le_refl _) _
  have hO6 := hO5.below b6 (Nat.le_refl _)
  have hQ6 := hQ5.below b6 (Nat.le_refl _)
  have hO4 := hO4.below b6 (Nat.le_refl _)
  have hQ4 := hQ4.below b6 (Nat.le_refl _)
  have rq := d6.row (.tail _ (.tail _ (.head _)))
  generalize w5.alloc (.cells (QF (.slice a5 a e5) (.slice a6 b e6)).toArray 26) = w6 at *
  generalize w5.heap.size = g6 at *
  clear hO5 hQ5 b6 d5 d4
  go_wp2_with (first
    | refine wpList_load_row_w (by rfl) 26 _ (by rfl) _ (by rfl) 26 _ _ _ rq Try.underlying26 rfl (SQ.out _ _) ?_)
  refine (KE.out _ d6.1).mono ?_
  rintro e w7 ⟨v7, rfl, hO7, hb7⟩
  obtain ⟨s7, c7, rfl, S7, n7⟩ := hO7.form
  have d7 := d6.call hb7
  have hO6 := hO6.below hb7 (Nat.le_refl _)
  have hQ6 := hQ6.below hb7 (Nat.le_refl _)
  have hO4 := hO4.below hb7 (Nat.le_refl _)
  have hQ4 := hQ4.below hb7 (Nat.le_refl _)
  have ri := d7.row (.head _)
  obtain ⟨x6, y6, f6, S6, n6⟩ := hO6.form
  rw [qv.out] at f6
  cases f6
  obtain ⟨x8, y8, f8, S8, n8⟩ := hQ6.form
  rw [qs.out] at f8
  cases f8
  clear rq hO7 d6
  go_wp2_with (first
    | refine wpList_load_row_w (by rfl) 26 _ (by rfl) _ (by rfl) 26 _ _ _ ri Try.underlying26 rfl (SQ.out _ _) ?_)
  refine (KX.out _ _ _ _ _ S6 S8).mono ?_
  rintro e w8 ⟨v8, rfl, hO8, hb8⟩
  obtain ⟨s8, c8, rfl, SS8, nn8⟩ := hO8.form
  have d8 := d7.call hb8
  have S7 := S7.below hb8 (Nat.le_refl _)
  have hO4 := hO4.below hb8 (Nat.le_refl _)
  have hQ4 := hQ4.below hb8 (Nat.le_refl _)
  clear ri S6 S8 hO6 hQ6 hO8 d7
  go_wp2_with fail
  refine (KS.out _ _ _ _ _ S7 SS8).mono ?_
  rintro e w9 ⟨rfl, hb9⟩
  have d9 := d8.call hb9
  have hO4 := hO4.below hb9 (Nat.le_refl _)
  have hQ4 := hQ4.below hb9 (Nat.le_refl _)
  obtain ⟨x4, y4, f4, S4, n4⟩ := hO4.form
  rw [hnn.out] at f4
  cases f4
  obtain ⟨x5, y5, f5, S5, n5⟩ := hQ4.form
  rw [hmm.out] at f5
  cases f5
  have rw1 := d9.row (.tail _ (.head _))
  have rp := d9.row (.tail _ (.tail _ (.tail _ (.head _))))
  clear S7 SS8 d8
  go_wp2_with (first
    | refine wpList_load_row_w (by rfl) 26 _ (by rfl) _ (by rfl) 26 _ _ _ rp Try.underlying26 rfl (SF.out _ _) ?_
    | refine wpList_load_row_w (by rfl) 26 _ (by rfl) _ (by rfl) 26 _ _ _ rw1 Try.underlying26 rfl (SF.out _ _) ?_)
  refine (KP.out _ d9.1 _ _ _ _ S4 S5).mono ?_
  rintro e wA ⟨rfl, hbA⟩
  have dA := d9.call hbA
  go_wp2
  go_ret
  exact ⟨rfl, dA.1⟩
end Go.Proofs.Ytlhmhpkgdcdjkaa
