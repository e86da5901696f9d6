import Derived.Test.YtlhmhpkgdcdjkaaZ12a
import Derived.Test.YtlhmhpkgdcdjkaaZ12b
import Derived.Test.YtlhmhpkgdcdjkaaZs2
namespace Go.Proofs.Ytlhmhpkgdcdjkaa
set_option linter.unusedVariables false
set_option linter.unusedSimpArgs false
open Go.RowKit
attribute [local go_sem ↓] Go.wp_at_zero Go.wp_at_succ

set_option maxRecDepth 100000 in
set_option maxHeartbeats 2000000 in
theorem xd_found3 (w : World) (t : List Int) (hy : Bys t) (sp : Option Addr) (hS : Src w sp 3 t) (ht : t = [1, 0, 0]) :
    Calls Try.prog 29 #[.slice sp 3 3] w (DecP w t) := by
  have HNN := hid (show decP t = none by rw [ht]; rfl)
  have hp0 : t.length = 3 := by rw [ht]; rfl
  obtain ⟨hc, hmx, b, o, hb, hsp, hsrc⟩ := hS
  obtain rfl := hsp (by omega)
  have hbw : b < w.heap.size := hb (by omega)
  have CE := hid (fun j (hj : j < t.length) => hsrc j hj)
  clear hsrc hsp hb
  unfold maxLen at hmx
  have AP := hid allocPf
  have BZ := hid built_pf0
  have SZ := hid (show (Try.prog.info? 26).map (·.size) = some (pfC pf0 (.slice none 0 0) (.slice none 0 0)).toArray.size by rw [Try.sizeP]; rfl)
  have ON := hid (pfC_one pf0 (.slice none 0 0) (.slice none 0 0) rfl rfl)
  have FZ := hid (fun w' (hb : Below w.heap.size w w') (hn : decP t = none) => decP_none (t := t) hn hb)
  have FY := hid (fun w' (hb : Below w.heap.size w w') p (hn : decP t = some p) s1 s2 c1 c2 h1 h2 => decP_some (t := t) (p := p) hn hb s1 s2 c1 c2 h1 h2)
  have d0 := ((BK.nil w).alloc (pfC pf0 (.slice none 0 0) (.slice none 0 0)) 26).alloc (pfC pf0 (.slice none 0 0) (.slice none 0 0)) 26
  rw [show (w.alloc (.cells (pfC pf0 (.slice none 0 0) (.slice none 0 0)).toArray 26)).heap.size = w.heap.size + 1 by simp] at d0
  have r0 := d0.row (.tail _ (.head _))
  have c0 := (d0.1.cell (p := ⟨b, o + 0, none⟩) hbw).trans (CE.out 0 (by omega))
  have c1 := (d0.1.cell (p := ⟨b, o + 1, none⟩) hbw).trans (CE.out 1 (by omega))
  have c2 := (d0.1.cell (p := ⟨b, o + 2, none⟩) hbw).trans (CE.out 2 (by omega))
  rw [Nat.add_zero] at c0
  rw [show t.getD 0 0 = 1 by rw [ht]; rfl] at c0
  rw [show t.getD 1 0 = 0 by rw [ht]; rfl] at c1
  rw [show t.getD 2 0 = 0 by rw [ht]; rfl] at c2
  have KB := hid (fun w1 => xbytes_any w1 [] (some ⟨b, o, none⟩) 0 (Src.empty _ _ _ (by simp [maxLen])) (by simp))
  rw [show ([] : List Int).length = 0 from rfl] at KB
  have PV0 := hid (show (pfC pf0 (.slice none 0 0) (.slice none 0 0)).set 0 (.bool true) = pfC ⟨true, [], zB, []⟩ (.slice none 0 0) (.slice none 0 0) from rfl)
  have kf := hid (pfC_f pf0 (.slice none 0 0) (.slice none 0 0))
  have kv := hid (pfC_v ⟨true, [], zB, []⟩ (.slice none 0 0) (.slice none 0 0))
  clear hp0 ht CE r0
  generalize DecP w t = P at *
  generalize hIZ : pfC pf0 (.slice none 0 0) (.slice none 0 0) = IZ at *
  clear hIZ
  go_enter Try.func29, Try.ntmps29
  go_wp2_with (first | refine wpList_allocV AP.out rfl rfl ?_)
  generalize (w.alloc (.cells IZ.toArray 26)).alloc (.cells IZ.toArray 26) = w1 at *
  go_quiet (fail)
  have dq : BK w (w1.drewN nq) [(w.heap.size + 1, IZ, 26), (w.heap.size, IZ, 26)] := ⟨below_drewN d0.1 _, d0.2⟩
  generalize w1.drewN nq = w2 at *
  clear d0 c0 c1 c2
  have y0 := dq.cell (.head _) kf.out
  have g0 : w2.frozen? ⟨w.heap.size + 1, 0, none⟩ = false := frozen_of_row _ _ _ _ _ (dq.row (.head _))
  have d1 := dq.setC (by omega) (by intro x hx; simp only [List.mem_cons, List.not_mem_nil, or_false] at hx; subst hx; simp) 0 (.bool true)
  rw [PV0.out] at d1
  clear dq
  go_wp2_with fail
  refine (KB.out _).mono ?_
  rintro e w7 ⟨v7, rfl, hO7, hb7⟩
  obtain ⟨s7, c7, rfl, _, _⟩ := hO7.form
  have d7 := d1.call hb7
  have y1 := d7.cell (.head _) kv.out
  have g1 : w7.frozen? ⟨w.heap.size + 1, 1, none⟩ = false := frozen_of_row _ _ _ _ _ (d7.row (.head _))
  have dB := d7.setC (by omega) (by intro x hx; simp only [List.mem_cons, List.not_mem_nil, or_false] at hx; subst hx; simp) 1 (.slice s7 ([] : List Int).length c7)
  clear d7 d1 hO7 y0 g0
  have r1 := dB.row (.tail _ (.head _))
  go_wp2_with (first | refine wpList_allocV AP.out rfl rfl ?_ | refine wpList_built (by rfl) 26 _ (by rfl) _ (by rfl) _ BZ.out ?_ | refine wpList_store_row rfl 26 _ _ (by rfl) w.heap.size IZ.toArray (by rfl) (by rfl) 26 _ r1 SZ.out (by rfl) (all_oneCell_toArray ON.out) ?_)
  exact bodyPost_ret (v := .tuple #[.agg IZ.toArray, .int .i64 120]) (results_c2 Try.results29 _ _ w.heap.size 26 _ _ _ rfl (setRow_heap _ _ _ _ _ _ r1) Try.underlying26 rfl SZ.out) rfl (FZ.out _ (below_setRow dB.1 (Nat.le_refl _) _) HNN.out)
theorem xdecode_any (w : World) (t : List Int) (hy : Bys t) (sp : Option Addr) (cap : Nat) (hS : Src w sp cap t) (hml : t.length ≤ 140737488355000) :
    Calls Try.prog 29 #[.slice sp t.length cap] w (DecP w t) := by
  match ht : t with
  | [] => exact xd_nil w [] (fun x h => by cases h) sp cap hS rfl
  | x :: r =>
    have hx := hy x (by simp)
    by_cases h0 : x = 0
    · subst h0
      by_cases hm : (0 :: r).length < 3
      · exact xd_zeroS w _ hy sp cap hS r rfl hm
      · exact xd_zero w _ hy sp cap hS hml r rfl (by omega)
    · by_cases hm : (x :: r).length < 3
      · exact xd_badS w _ hy sp cap hS x r rfl hm h0
      · by_cases h1 : x = 1
        · subst h1
          match r, hy, hS, hml, hm with
          | [], _, _, _, hm => simp at hm
          | [a], _, _, _, hm => simp at hm
          | a :: y :: q, hy, hS, hml, hm =>
            have ha := hy a (by simp)
            have hyy := hy y (by simp)
            obtain ⟨n, hn⟩ := Int.eq_ofNat_of_zero_le (show 0 ≤ a + 256 * y by omega)
            by_cases h128 : a + 256 * y ≤ 128
            · by_cases h3 : 3 + n ≤ (1 :: a :: y :: q).length
              · by_cases hc : cap = 3
                · subst hc
                  have hl := hS.1
                  have hq : q = [] := by cases q with | nil => rfl | cons _ _ => exact absurd hl (by simp)
                  subst hq
                  simp at h3
                  have hn0 : n = 0 := by omega
                  subst hn0
                  have ha0 : a = 0 := by omega
                  have hy0 : y = 0 := by omega
                  subst ha0
                  subst hy0
                  exact xd_found3 w _ hy sp hS rfl
                · exact xd_found w _ hy sp cap hS hml a y q rfl n hn (by omega) h3 hc
              · exact xd_miss w _ hy sp cap hS a y q rfl h128 (by rw [hn, Int.toNat_natCast]; omega)
            · exact xd_long w _ hy sp cap hS a y q rfl (by omega)
        · exact xd_badL w _ hy sp cap hS x r rfl (by omega) h0 h1
set_option maxRecDepth 100000 in
set_option maxHeartbeats 4000000 in
theorem decoded_any (w : World) (t : List Int) (hy : Bys t) (b o cap : Nat) (hS : Src w (some ⟨b, o, none⟩) cap t) (hml : t.length ≤ 140737488355000) (n : Nat) (hn : n ≤ t.length) :
    Calls Try.prog 23 #[.slice (some ⟨b, o, none⟩) t.length cap, .int .i64 n] w fun e w' => e = .returned (.bool true) ∧ Below w.heap.size w w' := by
  have AP := hid allocPf
  have LZ := hid (show (pfC pf0 (.slice none 0 0) (.slice none 0 0)).length = 35 from rfl)
  have ln : (t.take n).length = n := by rw [List.length_take]; omega
  have KC := hid (fun w1 (h : Below w.heap.size w w1) => copyBytes_any w1 t _ _ (hS.below h (Nat.le_refl _)) hml)
  have KN := hid (fun w1 (h : Below w.heap.size w w1) => copyBytes_any w1 (t.take n) _ _ (src_pre (hS.below h (Nat.le_refl _)) n hn) (by omega))
  have KD := hid (fun w1 (h : Below w.heap.size w w1) => decode_any w1 (t.take n) (hy.take n) _ _ (src_pre (hS.below h (Nat.le_refl _)) n hn))
  have KX := hid (fun w1 s c (h : Src w1 s c (t.take n)) => xdecode_any w1 (t.take n) (hy.take n) s c h (by omega))
  have DOK := hid (show PfOk (decV (t.take n)) by
    unfold decV
    cases hq : decP (t.take n) with
    | none => exact pf0_ok
    | some m => exact (dec_some (hy.take n) hq).1)
  have KP := hid (fun w1 a b c d a' b' c' d' (h1 : Src w1 a c (decV (t.take n)).vs) (h2 : SrcD w1 b d (decV (t.take n)).ss) (h3 : Src w1 a' c' (decV (t.take n)).vs) (h4 : SrcD w1 b' d' (decV (t.take n)).ss) => sameProof_self w1 (decV (t.take n)) DOK.out a a' b b' c c' d d' h1 h3 h2 h4)
  have KS := hid (fun w1 (h : Below w.heap.size w w1) s c (h2 : Src w1 s c t) => same_self w1 t _ s _ c (hS.below h (Nat.le_refl _)) h2)
  unfold DecP at KD KX
  rw [ln] at KN KD KX
  have LF := hid (fun v s => pfC_len DOK.out v s)
  have SF := hid (fun v s => show (Try.prog.info? 26).map (·.size) = some (pfC (decV (t.take n)) v s).toArray.size by rw [Try.sizeP, List.size_toArray, pfC_len DOK.out])
  have OF := hid (fun a b c d e f => pfC_one (decV (t.take n)) (.slice a b c) (.slice d e f) rfl rfl)
  have hc := hS.1
  have hmx := hS.2.1
  unfold maxLen at hmx
  have LN := hid ln
  clear ln hS
  generalize decV (t.take n) = DV at *
  generalize decE (t.take n) = DE at *
  generalize hM : t.length = m at *
  replace hM := hid hM
  have i1 : (n : Int) ≤ (cap : Int) := by omega
  have i2 : (cap : Int) ≤ 9223372036854775807 := by omega
  go_enter Try.func23, Try.ntmps23
  go_wp2_with fail
  refine (KC.out _ (Below.refl _ _)).mono ?_
  rintro e w1 ⟨v1, rfl, hO1, hb1⟩
  obtain ⟨s1, c1, e1, S1, _⟩ := hO1.form
  rw [hM.out] at e1
  subst e1
  have B1 := hb1
  clear hO1
  go_wp2_with fail
  refine (KN.out _ B1).mono ?_
  rintro e w2 ⟨v2, rfl, hO2, hb2⟩
  obtain ⟨s2, c2, e2, S2, _⟩ := hO2.form
  rw [LN.out] at e2
  subst e2
  have B2 := B1.trans (hb2.mono B1.size)
  have S1 := S1.below hb2 (Nat.le_refl _)
  clear hO2
  go_wp2_with fail
  refine (KD.out _ B2).mono ?_
  rintro e w3 ⟨a4, e4, a5, e5, rfl, hO3, hQ3, hb3⟩
  have B3 := B2.trans (hb3.mono B2.size)
  have S1 := S1.below hb3 (Nat.le_refl _)
  have S2 := S2.below hb3 (Nat.le_refl _)
  go_wp2_with (first
    | (refine wpList_new AP.out LZ.out Try.sizeP rfl rfl rfl _ _ rfl rfl (pfC DV (.slice a4 DV.vs.length e4) (.slice a5 DV.ss.length e5)) rfl rfl (LF.out _ _) (OF.out _ _ _ _ _ _) ?_; refine Hid.out ?_))
  refine hid ?_
  have b4 : Below w3.heap.size w3 (w3.alloc (.cells (pfC DV (.slice a4 DV.vs.length e4) (.slice a5 DV.ss.length e5)).toArray 26)) := (Below.refl _ _).alloc (Nat.le_refl _) _
  have r4 := hnew w3 (.cells (pfC DV (.slice a4 DV.vs.length e4) (.slice a5 DV.ss.length e5)).toArray 26)
  have hO4 := hO3.below b4 (Nat.le_refl _)
  have hQ4 := hQ3.below b4 (Nat.le_refl _)
  have S1 := S1.below b4 (Nat.le_refl _)
  have S2 := S2.below b4 (Nat.le_refl _)
  have B4 := B3.trans (b4.mono B3.size)
  generalize w3.alloc (.cells (pfC DV (.slice a4 DV.vs.length e4) (.slice a5 DV.ss.length e5)).toArray 26) = w4 at *
  generalize w3.heap.size = g4 at *
  clear hO3 hQ3 b4
  go_wp2_with fail
  refine (KX.out _ _ _ S2).mono ?_
  rintro e w5 ⟨a6, e6, a7, e7, rfl, hO5, hQ5, hb5⟩
  have B5 := B4.trans (hb5.mono B4.size)
  have S1 := S1.below hb5 (Nat.le_refl _)
  have hO4 := hO4.below hb5 (Nat.le_refl _)
  have hQ4 := hQ4.below hb5 (Nat.le_refl _)
  have r4 := hbel hb5 r4 (Array.getElem?_eq_some_iff.1 r4).1
  go_wp2_with (first
    | (refine wpList_new AP.out LZ.out Try.sizeP rfl rfl rfl _ _ rfl rfl (pfC DV (.slice a6 DV.vs.length e6) (.slice a7 DV.ss.length e7)) rfl rfl (LF.out _ _) (OF.out _ _ _ _ _ _) ?_; refine Hid.out ?_))
  refine hid ?_
  have b6 : Below w5.heap.size w5 (w5.alloc (.cells (pfC DV (.slice a6 DV.vs.length e6) (.slice a7 DV.ss.length e7)).toArray 26)) := (Below.refl _ _).alloc (Nat.le_refl _) _
  have r6 := hnew w5 (.cells (pfC DV (.slice a6 DV.vs.length e6) (.slice a7 DV.ss.length e7)).toArray 26)
  have r4 := hbel b6 r4 (Array.getElem?_eq_some_iff.1 r4).1
  have hO6 := (hO5.below b6 (Nat.le_refl _)).srcN
  have hQ6 := (hQ5.below b6 (Nat.le_refl _)).srcN
  have hO4 := (hO4.below b6 (Nat.le_refl _)).srcN
  have hQ4 := (hQ4.below b6 (Nat.le_refl _)).srcN
  have S1 := S1.below b6 (Nat.le_refl _)
  have B6 := B5.trans (b6.mono B5.size)
  generalize w5.alloc (.cells (pfC DV (.slice a6 DV.vs.length e6) (.slice a7 DV.ss.length e7)).toArray 26) = w6 at *
  generalize w5.heap.size = g6 at *
  clear hO5 hQ5 b6
  go_wp2_with (first
    | refine wpList_load_row_w (by rfl) 26 _ (by rfl) _ (by rfl) 26 _ _ _ r4 Try.underlying26 rfl (SF.out _ _) ?_
    | refine wpList_load_row_w (by rfl) 26 _ (by rfl) _ (by rfl) 26 _ _ _ r6 Try.underlying26 rfl (SF.out _ _) ?_)
  refine (KP.out _ _ _ _ _ _ _ _ _ hO4 hQ4 hO6 hQ6).mono ?_
  rintro e w7 ⟨rfl, hb7⟩
  have B7 := B6.trans (hb7.mono B6.size)
  have S1 := S1.below hb7 (Nat.le_refl _)
  go_wp2_with fail
  refine (KS.out _ B7 _ _ S1).mono ?_
  rintro e w8 ⟨rfl, hb8⟩
  have B8 := B7.trans (hb8.mono B7.size)
  go_wp2
  go_ret
  exact ⟨rfl, B8⟩
end Go.Proofs.Ytlhmhpkgdcdjkaa
