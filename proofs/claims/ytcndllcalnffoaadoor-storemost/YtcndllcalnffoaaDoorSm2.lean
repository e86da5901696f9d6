import Derived.Test.YtcndllcalnffoaaDoorSm1
import Derived.Deep.DeepCutAuto
namespace Go.Proofs.YtcndllcalnffoaaDoor
set_option linter.unusedVariables false
set_option linter.unusedSimpArgs false
open Go.RowKit
open Go.Proofs.YtcndllcalnffoaaDoor.Ca (Ct ct0 ctC argV AS)
attribute [local go_sem ↓] Go.wp_at_zero Go.wp_at_succ

set_option maxRecDepth 100000 in
set_option maxHeartbeats 4000000 in
theorem storeMost_any (w : World) (hG : Gl w) (b0 : Bool) (sp : Option Addr) (cap : Nat) (ms0 : List MD) (hM0 : Mds w w.heap.size sp ms0) (hok0 : ∀ i, i < ms0.length → MdOk (ms0.getD i dM)) (hc : ms0.length ≤ cap) (hcl : cap ≤ 9223372036854775807) (head : Int) :
    Calls Tryd.prog 3 #[.bool b0, .slice sp ms0.length cap, .int .i64 head] w fun e w' => e = .returned (.bool true) ∧ Below w.heap.size w w' := by
  obtain ⟨i5, hi5, hz5, hs5, hy5⟩ := Tryd.info5
  have HI := hid hi5
  have K1 := hid (show i5.bytes * 4096 ≤ 281474976710656 by rw [hy5]; omega)
  have K2 := hid (show 4096 ≤ maxLen by unfold maxLen; omega)
  obtain ⟨base, hbase⟩ : ∃ base, base = w.heap.size := ⟨_, rfl⟩
  have HBA := hid hbase
  have HGL := hid hG
  have HM0 := hid hM0
  have HO0 := hid hok0
  have HCC := hid (And.intro hc hcl)
  clear hi5 hbase hG hM0 hok0 hc hcl
  go_enter Tryd.func3, Tryd.ntmps3
  go_upto_if 20 with fail
  go_cut [7] from 20 to 22 (fun s7 wx => R7 b0 w s7 wx)
  case first =>
    cases b0 with
    | false =>
      go_wp2_with fail
      go_meet
      exact ⟨_, rfl, Or.inl ⟨rfl, rfl⟩, rfl⟩
    | true =>
      go_wp2_with fail
      go_meet
      exact ⟨_, rfl, Or.inr ⟨rfl, rfl⟩, rfl⟩
  case rest =>
  obtain ⟨g, rfl, hg, rfl⟩ := hcut
  have HG := hid hg
  have g1 : 1099511627775 ≤ g := by rcases hg with h | h <;> omega
  have g2 : g ≤ 1099511627776 := by rcases hg with h | h <;> omega
  have Q1 := hid (qSuper_any w HGL.out (mS g) (mS_val g (by omega) g2))
  clear hg
  go_wp2_with fail
  refine Q1.out.mono ?_
  rintro _ w1 ⟨u1, rfl, hO1, hb1⟩
  obtain ⟨spA, capA, hvA, hSA, _⟩ := hO1.form
  have HLA := hid (show (secS (mS g) ++ List.replicate 192 0).length = 256 by rw [List.length_append, secS_len, List.length_replicate])
  rw [HLA.out] at hvA
  subst hvA
  have HSA := hid hSA
  have HB1 := hid hb1
  have Q2 := hid (qSuper_any w1 (HGL.out.below hb1 HGL.out.1) (mS (g - 1)) (mS_val (g - 1) (by omega) (by omega)))
  clear hO1 hSA hb1 Q1
  go_wp2_with fail
  refine Q2.out.mono ?_
  rintro _ w2 ⟨u2, rfl, hO2, hb2⟩
  obtain ⟨spB, capB, hvB, hSB, _⟩ := hO2.form
  have HLB := hid (show (secS (mS (g - 1)) ++ List.replicate 192 0).length = 256 by rw [List.length_append, secS_len, List.length_replicate])
  rw [HLB.out] at hvB
  subst hvB
  have HSB := hid hSB
  have HSA2 := hid (HSA.out.below hb2 (Nat.le_refl _))
  have HB2 := hid (HB1.out.trans (hb2.mono HB1.out.size))
  clear hO2 hSB hb2 Q2
  go_upto_if 32 with fail
  go_cut [8, 9] from 30 to 34 (fun s8 s9 wx => R8 g w2 s8 s9 wx)
  case first =>
    rcases HG.out with ⟨q1, q2⟩ | ⟨q1, q2⟩
    · subst q1 q2
      go_wp2_with fail
      go_meet
      exact ⟨_, _, _, _, _, _, rfl, rfl, HSA2.out, HSB.out, Or.inl ⟨by decide, rfl, rfl⟩, rfl⟩
    · subst q1 q2
      go_wp2_with fail
      go_meet
      exact ⟨_, _, _, _, _, _, rfl, rfl, HSB.out, HSA2.out, Or.inr ⟨by decide, rfl, rfl⟩, rfl⟩
  case rest =>
  clear HSA HSB HSA2 HLA HLB
  obtain ⟨spA, capA, spB, capB, I0, I1, rfl, rfl, hSA, hSB, hMI, rfl⟩ := hcut
  obtain ⟨hH, hil, hib, l0, l1⟩ := most_hs g (by omega) g2 I0 I1 hMI
  have HHS := hid hH
  have HIL := hid hil
  have HIB := hid hib
  have HL0 := hid l0
  have HL1 := hid l1
  have HSA := hid hSA
  have HSB := hid hSB
  have SPL := hid (spl2 I0 I1 l0 l1)
  clear hH hil hib hMI hSA hSB l0 l1
  go_wp2_with (refine wpList_make_full _ rfl _ _ 23 rfl w2.heap.size 5 i5 (.int .u8 0) 1 Tryd.underlying23 HI.out hz5 hs5 .i64 .i64 _ _ 4096 rfl rfl rfl rfl K1.out K2.out (Nat.le_refl _) ?_; intro w3 hO hg; have hB := grown_keeps hg (fun k hk => by cases hk) (Nat.le_refl w2.heap.size); have hr := made_row hO; clear hg hO; refine Hid.out ?_)
  refine hid ?_
  obtain ⟨im, him⟩ : ∃ im, im = w2.heap.size := ⟨_, rfl⟩
  rw [← him] at hB hr ⊢
  have HIM := hid him
  have HR3 := hid hr
  have HB3 := hid hB
  have KA := hid (show ∃ ad, spA = some ad ∧ ∀ j v, (ints .u8 I0)[j]? = some v → w3.cell? (ad.add j) = some v by
    have hS := HSA.out.below HB3.out (Nat.le_of_eq HIM.out.symm)
    obtain ⟨_, _, b, o, _, h4, _⟩ := id hS
    obtain rfl := h4 (by rw [HL0.out]; omega)
    exact ⟨_, rfl, src_news hS⟩)
  have C1 := hid (show (ints .u8 I0).length = Nat.min 256 4096 by rw [ints_len, HL0.out]; rfl)
  have C2 := hid (show (ints .u8 I1).length = Nat.min 256 3840 by rw [ints_len, HL1.out]; rfl)
  have F1 := hid (show 0 + (ints .u8 I0).length ≤ (ints .u8 (padz [] 4096)).length by rw [ints_len, ints_len, HL0.out]; simp [padz])
  have F2 := hid (show 256 + (ints .u8 I1).length ≤ (splice (ints .u8 (padz [] 4096)) 0 (ints .u8 I0)).length by rw [length_splice _ _ _ F1.out, ints_len, ints_len, HL1.out]; simp [padz])
  have O1 := hid (ints_one .u8 I0)
  have O2 := hid (ints_one .u8 I1)
  clear hr hB him
  go_wp2_with (refine wpList_copy_splice rfl (.tmp 36) (.tmp 37) 23 23 rfl 5 Tryd.underlying23 Tryd.size5 (some ⟨im, 0, none⟩) spA 4096 4096 256 capA rfl rfl im 0 (ints .u8 (padz [] 4096)) 5 HR3.out (ints .u8 I0) C1.out (fun h => ⟨rfl, KA.out⟩) F1.out O1.out im w2 HB3.out (Nat.le_refl _) ?_; intro w4 hr4 hB4; rw [C1.out]; refine Hid.out ?_)
  refine hid ?_
  have HB4 := hid hB4
  have KB := hid (show ∃ ad, spB = some ad ∧ ∀ j v, (ints .u8 I1)[j]? = some v → w4.cell? (ad.add j) = some v by
    have hS := HSB.out.below HB4.out (Nat.le_of_eq HIM.out.symm)
    obtain ⟨_, _, b, o, _, h4, _⟩ := id hS
    obtain rfl := h4 (by rw [HL1.out]; omega)
    exact ⟨_, rfl, src_news hS⟩)
  clear hB4 KA
  go_wp2_with (refine wpList_copy_splice rfl (.tmp 40) (.tmp 41) 23 23 rfl 5 Tryd.underlying23 Tryd.size5 (some ⟨im, 256, none⟩) spB 3840 3840 256 capB rfl rfl im 256 (splice (ints .u8 (padz [] 4096)) 0 (ints .u8 I0)) 5 hr4.out (ints .u8 I1) C2.out (fun h => ⟨rfl, KB.out⟩) F2.out O2.out im w2 HB4.out (Nat.le_refl _) ?_; intro w5 hr5 hB5; rw [C2.out]; refine Hid.out ?_)
  refine hid ?_
  have hr5' := hr5.out
  rw [SPL.out] at hr5'
  have HB5 := hid (HB2.out.trans (hB5.mono (by rw [HIM.out]; exact HB2.out.size)))
  have HGM := hid (show w.heap.size ≤ im by rw [HIM.out]; exact HB2.out.size)
  generalize hI : I0 ++ I1 ++ zr 3584 = img at *
  have HLD := Load_any w5 img 16 (by omega) (by omega) (by rw [HIL.out]) HIB.out (some ⟨im, 0, none⟩) 4096 (src_rowf hr5' 4096 (by rw [HIL.out]; exact Nat.le_refl _) K2.out) (fun h => by cases h)
  rw [HIL.out] at HLD
  replace HLD := hid HLD
  clear hr4 hr5 hr5' hB5 KB C1 C2 F1 F2 O1 O2 SPL HB4 HB3 HR3 HSA HSB HL0 HL1 hI
  go_wp2_with fail
  refine HLD.out.mono ?_
  rintro _ w6 ⟨p, F, rfl, hD6, hb6⟩
  obtain ⟨B, hBe⟩ : ∃ B, B = w5.heap.size := ⟨_, rfl⟩
  rw [← hBe] at hD6 hb6
  have HBB := hid (show base ≤ B by rw [hBe, HBA.out]; exact HB5.out.size)
  have HBW := hid (Nat.le_of_eq hBe)
  have HBl := hid (fun w4 (z : Below B w5 w4) => (show Below base w w4 from HBA.out ▸ (HB5.out.trans (z.mono (by rw [← HBA.out]; exact HBB.out)))))
  have HB6 := hid hb6
  have HMD := hid (fun w4 (z : Below B w5 w4) => ((show Mds w base sp ms0 from HBA.out ▸ HM0.out).later (HBl.out w4 z)))
  have HOP := hid (opened_hs w6 B F p (newD img) hD6 (Nat.le_trans HBW.out hb6.size) 16 (mS g) (mS (g - 1)) [] HHS.out 10 (by omega) (by show (0 : Int) ≤ _; decide) (by show (0 : Int) ≤ _; decide) (by show (0 : Int) ≤ _; decide) g2 (by show (0 : Int) ≤ _; decide) rfl 3)
  clear hD6 hb6 hBe HLD
  go_wp2_with fail
  refine HOP.out.mono ?_
  rintro _ w7 ⟨S2, rfl, hX2, ⟨hv2, hp2, hs2⟩, hb7⟩
  have HB7 := hid (HB6.out.trans hb7)
  generalize hst : S2.st = st at *
  have HX2 := hid hX2
  have HV2 := hid hv2
  have HP2 := hid hp2
  have HS2 := hid hs2
  have HST := hid hst
  have CUT := hid (cut14_any w7 sp cap ms0 ((HMD.out w7 HB7.out).wide (Nat.le_trans HBB.out (Nat.le_trans HBW.out HB7.out.size))) HCC.out.1 HCC.out.2)
  have hl1 : (ms0.take 14).length ≤ 14 := by rw [List.length_take]; omega
  have HOK := hid (md_take HO0.out)
  have HM2 := hid (fun w4 (z : Below B w5 w4) => ((HMD.out w4 z).take 14).wide HBB.out)
  generalize ms0.take 14 = ms at *
  generalize hkm : ms.length = km at *
  have HKM := hid hkm
  clear hX2 hv2 hp2 hs2 hb7 hst HOP hkm
  go_wp2_with fail
  refine CUT.out.mono ?_
  rintro _ wx ⟨rfl, hw⟩
  obtain rfl := hw.symm
  have STG := HX2.out.stages (by omega) (by omega) HV2.out sp cap ms (HM2.out w7 HB7.out) (fun i hi => HOK.out i (by rw [← HKM.out]; exact hi)) 2 rfl (by rw [HKM.out]; omega) (by rw [HKM.out]; omega)
  rw [HKM.out, show ((2 : Nat) : Int) = 2 from rfl, HST.out] at STG
  replace STG := hid STG
  clear CUT
  go_wp2_with fail
  refine STG.out.mono ?_
  rintro _ w8 ⟨rfl, S3, hX3, hv3, hq3, hb8⟩
  have HB8 := hid (HB7.out.trans hb8)
  have HX3 := hid hX3
  have HL3 := hid (show S3.vs.length = km by rw [hv3, List.length_map, HKM.out])
  have HQ3 := hid (show S3.st = st ∧ S3.p = p ∧ S3.s = mS g from ⟨hq3.1, hq3.2.1.trans HP2.out, hq3.2.2.2.1.trans HS2.out⟩)
  clear hX3 hv3 hq3 hb8 STG
  go_upto_if 68 with fail
  go_cut [15] from 66 to 73 (fun s15 wx => ∃ h : Int, s15 = .int .i64 h ∧ (h = 0 ∨ (2 ≤ h ∧ h < 2 + (km : Int))) ∧ w8 = wx)
  case first =>
    by_cases hA : 0 < km
    · have hA0 : decide ((0 : Int) < (km : Int)) = true := by simp; omega
      have KW := hid (hwhole_any w8 head 2 (1 + (km : Int)) (by omega) (by omega) (by omega))
      have hwb := wholeF_bd head 2 (1 + (km : Int)) (by omega)
      generalize wholeF head 2 (1 + (km : Int)) = hh at *
      go_wp2_with fail
      refine KW.out.mono ?_
      rintro _ wx ⟨rfl, hw⟩
      obtain rfl := hw.symm
      clear KW
      go_wp2_with fail
      go_meet
      exact ⟨hh, rfl, Or.inr ⟨by omega, by omega⟩, rfl⟩
    · have hA0 : decide ((0 : Int) < (km : Int)) = false := by simp; omega
      go_wp2_with fail
      go_meet
      exact ⟨0, rfl, Or.inl rfl, rfl⟩
  case rest =>
  obtain ⟨hh, rfl, hhh, rfl⟩ := hcut
  have HHH := hid hhh
  clear hhh
  go_upto_if 74 with fail
  go_cut [15] from 74 to 84 (fun s15 wx => R74 B km w5 st p s15 wx)
  case first =>
    rcases HG.out with ⟨q1, q2⟩ | ⟨q1, q2⟩
    · subst q1
      have HQ2 := hid q2
      clear q2
      go_wp2_with fail
      go_meet
      exact ⟨S3, _, _, hh, rfl, HX3.out.more 1000 (by omega), by rw [HQ3.out.2.2]; exact HQ2.out, HQ3.out.1, HQ3.out.2.1, HHH.out, by rw [HL3.out]; simp, HB8.out⟩
    · subst q1
      have FLS := HX3.out.flush (by rw [HQ3.out.2.2]; show g < _; omega) (by omega) (by show 2 + 0 + S3.vs.length ≤ 16; rw [HL3.out]; omega) hh (by show _ ∨ (_ ∧ _ < ((2 + 0 + S3.vs.length : Nat) : Int)); rw [HL3.out]; have := HHH.out; push_cast; omega) (by rw [HL3.out]; omega)
      rw [HQ3.out.1] at FLS
      replace FLS := hid FLS
      have HQ2 := hid q2
      clear q2
      go_wp2_with fail
      refine FLS.out.mono ?_
      rintro _ w9 ⟨rfl, S4, hX4, hv4, hq4, hb9⟩
      have HB9 := hid (HB8.out.trans hb9)
      have hge : S4.s.ge = 1099511627776 := by rw [hq4.2.2.2.1, HQ3.out.2.2]; show g + 1 = _; rw [HQ2.out]; decide
      have hst4 : S4.st = st := hq4.1
      have SUT := oSuper_any w9 B S4 hX4.sk
      rw [hst4] at SUT
      replace SUT := hid SUT
      have HX4 := hid hX4
      have HV4 := hid hv4
      have HP4 := hid (hq4.2.1.trans HQ3.out.2.1)
      have HGE := hid hge
      have HST4 := hid hst4
      clear hX4 hv4 hq4 hb9 FLS hst4
      go_wp2_with fail
      refine SUT.out.mono ?_
      rintro _ wA ⟨rfl, hbA⟩
      have HBA2 := hid (HB9.out.trans (hbA.mono (Nat.le_trans HBW.out HB9.out.size)))
      have HXA := hid (HX4.out.below hbA)
      clear hbA SUT
      go_wp2_with (first | refine wpList_fieldW1 (by rfl) _ (by rfl) S4.s 1099511627776 hge (by rfl) ?_)
      go_meet
      exact ⟨S4, _, _, 0, rfl, HXA.out.more 1000 (by omega), HGE.out, HST4.out, HP4.out, Or.inl rfl, by rw [HV4.out]; simp [HL3.out], HBA2.out⟩
  case rest =>
  obtain ⟨S, o, L, h, rfl, hX, hge, hst, hp, hh2, hkl, hbA⟩ := hcut
  obtain ⟨wA, hwA⟩ : ∃ wA, wA = wc := ⟨_, rfl⟩
  subst hwA
  obtain ⟨sg, hsg⟩ : ∃ sg, sg = S.vs.length := ⟨_, rfl⟩
  have hsg2 : sg ≤ km := by omega
  have HBA3 := hid hbA
  have XA := hid (fun w4 (z : Below wA.heap.size wA w4) => hX.below z)
  have BAW := hid (fun w4 (z : Below wA.heap.size wA w4) => hbA.trans (z.mono (Nat.le_trans HBW.out hbA.size)))
  have NXT := hid (fun w4 (z : Below wA.heap.size wA w4) => show Calls Tryd.prog 14 #[.pointer (some ⟨st, 0, none⟩)] w4 fun e w' => e = .returned (.int .i64 (2 + (km : Int))) ∧ Below w4.heap.size w4 w' by
    have := (hX.below z).next (by omega) (2 + (km : Int)) (by omega)
    rw [hst] at this; exact this)
  have STG := hid (fun w4 (z : Below wA.heap.size wA w4) => show Calls Tryd.prog 15 #[.pointer (some ⟨st, 0, none⟩)] w4 fun e w' => e = .returned (.int .i64 sg) ∧ w4 = w' by
    have := (hX.below z).staged (by omega) (sg : Int) (by rw [hsg])
    rw [hst] at this; exact this)
  have SUP := hid (fun w4 (z : Below wA.heap.size wA w4) => show Calls Tryd.prog 11 #[.pointer (some ⟨st, 0, none⟩)] w4 fun e w' => e = .returned (.agg (supC S.s)) ∧ Below w4.heap.size w4 w' by
    have := oSuper_any w4 B S (hX.sk.below z)
    rw [hst] at this; exact this)
  have CNT := hid (fun w4 (z : Below wA.heap.size wA w4) => show Calls Tryd.prog 12 #[.pointer (some ⟨p, 0, none⟩)] w4 fun e w' => e = .returned (.agg (cntC S.D.reads S.D.writes S.D.syncs S.D.ops.length)) ∧ Below w4.heap.size w4 w' by
    have := Counts_any w4 B S.F S.p S.D (hX.sk.below z).da
    rw [hp] at this; exact this)
  have hIL : S.D.img.length = 4096 := by have := hX.sk.da.ok.np.2.2.1; rw [this, hX.hs.np]
  have IMG := hid (fun w4 (z : Below wA.heap.size wA w4) => show Calls Tryd.prog 13 #[.pointer (some ⟨p, 0, none⟩)] w4 fun e w' => ∃ sx cx, e = .returned (.slice sx 4096 cx) ∧ Src w' sx cx S.D.img ∧ Below w4.heap.size w4 w' by
    have := Image_any w4 B S.F S.p S.D (hX.sk.below z).da
    rw [hp] at this
    refine this.mono ?_
    rintro e w' ⟨v, rfl, hO, hb⟩
    obtain ⟨sx, cx, hv, hs, _⟩ := hO.form
    rw [hIL] at hv
    subst hv
    exact ⟨sx, cx, rfl, hs, hb⟩)
  have hms : 0 ≤ S.s.ma ∧ S.s.ma ≤ 100000 := by have := hX.bd.1; have := hX.bd.2.1; omega
  have hcl : S.cts.length ≤ 100000 := by have := hX.bd.2.2.2.1; omega
  have hmc : S.s.ma + (S.cts.length : Int) = 2 + (km : Int) := by have := hX.bd.1; have := hX.bd.2.2.2.1; omega
  have FL1 := hid (fun w4 (z : Below wA.heap.size wA w4) (x : Int) (hx : x ≠ 0) (hx2 : ¬ (2 ≤ x ∧ x < 2 + (km : Int))) => show Calls Tryd.prog 10 #[.pointer (some ⟨st, 0, none⟩), .int .i64 x] w4 fun e w' => e = .returned (.int .i64 41) ∧ Below w4.heap.size w4 w' by
    have := oFlush_page w4 B S (hX.sk.below z) hX.lv hcl hms x hx (by rw [hmc]; exact hx2)
    rw [hst] at this; exact this)
  have FL5 := hid (fun w4 (z : Below wA.heap.size wA w4) => show Calls Tryd.prog 10 #[.pointer (some ⟨st, 0, none⟩), .int .i64 h] w4 fun e w' => e = .returned (.int .i64 5) ∧ Below w4.heap.size w4 w' by
    by_cases h0 : h = 0
    · have := oFlush_full w4 B S (hX.sk.below z) hX.lv hge
      rw [hst] at this; rw [h0]; exact this
    · have := oFlush_fullH w4 B S (hX.sk.below z) hX.lv hge hcl hms h h0 (by rw [hmc]; rcases hh2 with q | q; exact absurd q h0; exact q)
      rw [hst] at this; exact this)
  have CLM := hid (fun w4 (z : Below wA.heap.size wA w4) => show Calls Tryd.prog 17 #[.pointer (some ⟨p, 0, none⟩)] w4 fun e w' => e = .returned (.int .i64 (S.D.epoch + 1)) ∧ (∀ w1 hd, Below w'.heap.size w' w1 → Calls Tryd.prog 10 #[.pointer (some ⟨st, 0, none⟩), .int .i64 hd] w1 fun e w2 => e = .returned (.int .i64 3) ∧ Below w1.heap.size w1 w2) ∧ Below B w4 w' by
    have := (hX.below z).claim (by omega)
    rw [hst, hp] at this; exact this)
  have HGS := hid hge
  have HIL2 := hid hIL
  have BREF := hid (Below.refl wA.heap.size wA)
  have hkm0 : (km : Int) ≤ 14 := by omega
  have HHH2 := hid hh2
  clear hX hge hst hp hh2 hkl hbA hsg hIL hms hcl hmc HBA3 HX3 HHH HHS HIL HIB
  generalize S.D = D at *
  generalize S.s = sF at *
  go_wp2_with fail
  refine (CNT.out wA BREF.out).mono ?_
  rintro _ wB ⟨rfl, hbB⟩
  have HbB := hid hbB
  clear hbB
  go_wp2_with (refine wpList_store_row (by rfl) 39 (.tmp 16) (.tmp 88) (by rfl) wB.heap.size (cntC D.reads D.writes D.syncs D.ops.length) (by rfl) (by rfl) 39 _ (by exact hnew _ _) (by rw [size_counts]; rfl) (by rfl) (by simp [cntC, Value.oneCell']) ?_; rw [setRow_alloc]; refine Hid.out ?_)
  refine hid ?_
  have rC := hnew wB (.cells (cntC D.reads D.writes D.syncs D.ops.length) 39)
  have hbC : Below wA.heap.size wA (wB.alloc (.cells (cntC D.reads D.writes D.syncs D.ops.length) 39)) := HbB.out.alloc HbB.out.size _
  obtain ⟨GC, hGC⟩ : ∃ GC, GC = wB.heap.size := ⟨_, rfl⟩
  rw [← hGC] at rC ⊢
  generalize wB.alloc (.cells (cntC D.reads D.writes D.syncs D.ops.length) 39) = wC at *
  have RC := hid rC
  have HbC := hid hbC
  clear rC hbC hGC
  go_wp2_with fail
  refine (IMG.out wC HbC.out).mono ?_
  rintro _ wD ⟨spI, capI, rfl, hSI, hbD⟩
  have HSI := hid hSI
  have HbD := hid (HbC.out.trans (hbD.mono HbC.out.size))
  have RD := hid ((hbD.block GC (hlt_ RC.out)).trans RC.out)
  clear hSI hbD
  go_wp2_with fail
  refine (NXT.out wD HbD.out).mono ?_
  rintro _ wE ⟨rfl, hbE⟩
  have HbE := hid (HbD.out.trans (hbE.mono HbD.out.size))
  have HDE := hid hbE
  clear hbE
  go_wp2_with fail
  refine (STG.out wE HbE.out).mono ?_
  rintro _ wx ⟨rfl, hw⟩
  obtain rfl := hw
  go_wp2_with fail
  refine (FL1.out wE HbE.out (2 + (km : Int)) (by omega) (by omega)).mono ?_
  rintro _ wF ⟨rfl, hbF⟩
  have HbF := hid (HbE.out.trans (hbF.mono HbE.out.size))
  have HDF := hid (HDE.out.trans (hbF.mono HDE.out.size))
  clear hbF
  go_wp2_with fail
  refine (FL1.out wF HbF.out 1 (by omega) (by omega)).mono ?_
  rintro _ wG ⟨rfl, hbG⟩
  have HbG := hid (HbF.out.trans (hbG.mono HbF.out.size))
  have HDG := hid (HDF.out.trans (hbG.mono HDF.out.size))
  clear hbG
  go_wp2_with fail
  refine (FL5.out wG HbG.out).mono ?_
  rintro _ WC ⟨rfl, hbH⟩
  have HbH := hid (HbG.out.trans (hbH.mono HbG.out.size))
  have HDH := hid (HDG.out.trans (hbH.mono HDG.out.size))
  have RCC := hid ((HDH.out.block GC (hlt_ RD.out)).trans RD.out)
  have HSC := hid (HSI.out.below HDH.out (Nat.le_refl _))
  clear hbH
  have UP := hid (fun w4 (z : Below WC.heap.size WC w4) => HbH.out.trans (z.mono HbH.out.size))
  have CNT2 := hid (fun w4 (z : Below WC.heap.size WC w4) => CNT.out w4 (UP.out w4 z))
  have HIM2 := hid (fun w4 (z : Below WC.heap.size WC w4) => IMG.out w4 (UP.out w4 z))
  have HNX2 := hid (fun w4 (z : Below WC.heap.size WC w4) => NXT.out w4 (UP.out w4 z))
  have HSG2 := hid (fun w4 (z : Below WC.heap.size WC w4) => STG.out w4 (UP.out w4 z))
  have HSU2 := hid (fun w4 (z : Below WC.heap.size WC w4) => SUP.out w4 (UP.out w4 z))
  have HQ2 := hid (eqCnt D.reads D.writes D.syncs D.ops.length)
  have HSAM := hid (fun (w' : World) (hb : Below WC.heap.size WC w') (sx : Option Addr) (cx : Nat) (hsx : Src w' sx cx D.img) => (show Calls Tryd.prog 16 #[.slice spI 4096 capI, .slice sx 4096 cx] w' fun e w2 => e = .returned (.bool true) ∧ Below w'.heap.size w' w2 from by
    have := same_any w' D.img D.img spI sx capI cx (HSC.out.below hb (Nat.le_refl _)) hsx
    rw [show decide (D.img = D.img) = true from decide_eq_true rfl] at this
    rw [HIL2.out] at this
    exact this))
  clear CNT IMG NXT STG SUP FL1 FL5 HbB HbC HbD HbE HbF HbG HDE HDF HDG HSI RC RD
  go_wp2_with fail
  refine wp_region_noPanic ?_
  refine wp_region_held_drew (S := fun w' => Below WC.heap.size WC w') (by kernel_rfl) (Below.refl _ _).drew (fun hHeld => ?_)
  refine wpAnyH_take (i := 0) (oi := { dst := some 110, op := Op.move (Operand.tmp 11), type := 27, pos := "law.go:693", after := #[], guard := none }) (v := .pointer (some ⟨p, 0, none⟩)) rfl (by kernel_rfl) (by kernel_rfl) (by kernel_rfl) (fun _ _ _ h => h) (Or.inl ⟨by rfl, by intro w hS; go_simp⟩) hHeld ?_
  try simp only [Act.put, List.setIfInBounds_toArray, List.set_cons_zero, List.set_cons_succ]
  refine wpAnyH_take (i := 4) (oi := { dst := some 114, op := Op.load 39 (Operand.tmp 16), type := 39, pos := "law.go:693", after := #[], guard := none }) (v := .agg (cntC D.reads D.writes D.syncs D.ops.length)) rfl (by kernel_rfl) (by kernel_rfl) (by kernel_rfl) (fun _ _ _ h => h) (yieldsIf_load_mid (by rfl) 39 (.tmp 16) rfl GC 0 rfl (cntC D.reads D.writes D.syncs D.ops.length).toList _ (fun w1 hS => rng ((hS.block GC (hlt_ RCC.out)).trans RCC.out)) Tryd.underlying39 rfl (by rw [size_counts]; rfl)) hHeld ?_
  try simp only [Act.put, List.setIfInBounds_toArray, List.set_cons_zero, List.set_cons_succ]
  refine wpAnyH_take (i := 1) (oi := { dst := some 111, op := Op.nilCheck (Operand.tmp 110), type := 0, pos := "law.go:693", after := #[{ on := 0, ground := Ground.data }], guard := none }) (v := .pointer (some ⟨p, 0, none⟩)) rfl (by kernel_rfl) (by kernel_rfl) (by kernel_rfl) (fun _ _ _ h => h) (Or.inl ⟨by rfl, by intro w hS; go_simp⟩) hHeld ?_
  try simp only [Act.put, List.setIfInBounds_toArray, List.set_cons_zero, List.set_cons_succ]
  refine wpAnyH_take (i := 2) (oi := { dst := some 112, op := Op.fieldAddr 46 (Operand.tmp 111) 0, type := 0, pos := "law.go:693", after := #[{ on := 1, ground := Ground.data }], guard := none }) (v := .pointer (some ⟨p, 0, none⟩)) rfl (by kernel_rfl) (by kernel_rfl) (by kernel_rfl) (fun _ _ _ h => h) (Or.inl ⟨by rfl, by intro w hS; go_simp⟩) hHeld ?_
  try simp only [Act.put, List.setIfInBounds_toArray, List.set_cons_zero, List.set_cons_succ]
  refine wpAnyH_ready (rs := [3]) (by kernel_rfl) (by simp) ?_
  refine (AllReadyH.cons (o := { dst := some 113, op := Op.call { callee := Callee.value (Operand.func 12), args := #[Operand.tmp 112], argTypes := #[42] }, type := 39, pos := "law.go:693", after := #[{ on := 2, ground := Ground.data }], guard := none }) rfl (fun K hK => ?_) AllReadyH.nil)
  go_simp
  go_at_call 12
  refine (CNT2.out _ hHeld).mono ?_
  rintro e x1 ⟨rfl, hbx⟩
  go_wp2_with fail
  refine hK.out _ _ (hHeld.trans (hbx.mono hHeld.size)) (fun hHeld2 => ?_)
  clear hK K hHeld
  have hHeld := hHeld2
  clear hHeld2
  clear hbx
  try simp only [Act.put, List.setIfInBounds_toArray, List.set_cons_zero, List.set_cons_succ]
  refine wpAnyH_take (i := 5) (oi := { dst := some 115, op := Op.binOp BinOp.neq 39 (Operand.tmp 113) (Operand.tmp 114) 39, type := 4, pos := "law.go:693", after := #[{ on := 3, ground := Ground.data }, { on := 4, ground := Ground.data }], guard := none }) (v := .bool false) rfl (by kernel_rfl) (by kernel_rfl) (by kernel_rfl) (fun _ _ _ h => h) (Or.inl ⟨by rfl, by intro w hS; (have KQ := HQ2.out; have KG := guardN; go_simp)⟩) hHeld ?_
  try simp only [Act.put, List.setIfInBounds_toArray, List.set_cons_zero, List.set_cons_succ]
  refine wpAnyH_take (i := 6) (oi := { dst := some 116, op := Op.move (Operand.tmp 115), type := 4, pos := "law.go:693", after := #[{ on := 5, ground := Ground.data }, { on := 3, ground := Ground.chain }], guard := none }) (v := .bool false) rfl (by kernel_rfl) (by kernel_rfl) (by kernel_rfl) (fun _ _ _ h => h) (Or.inl ⟨by rfl, by intro w hS; go_simp⟩) hHeld ?_
  try simp only [Act.put, List.setIfInBounds_toArray, List.set_cons_zero, List.set_cons_succ]
  refine wpAnyH_take (i := 7) (oi := { dst := some 117, op := Op.move (Operand.tmp 17), type := 23, pos := "law.go:693", after := #[{ on := 6, ground := Ground.guard }], guard := some (6, false) }) (v := .slice spI 4096 capI) rfl (by kernel_rfl) (by kernel_rfl) (by kernel_rfl) (fun _ _ _ h => h) (Or.inl ⟨by rfl, by intro w hS; go_simp⟩) hHeld ?_
  try simp only [Act.put, List.setIfInBounds_toArray, List.set_cons_zero, List.set_cons_succ]
  refine wpAnyH_take (i := 8) (oi := { dst := some 118, op := Op.move (Operand.tmp 11), type := 27, pos := "law.go:693", after := #[{ on := 6, ground := Ground.guard }], guard := some (6, false) }) (v := .pointer (some ⟨p, 0, none⟩)) rfl (by kernel_rfl) (by kernel_rfl) (by kernel_rfl) (fun _ _ _ h => h) (Or.inl ⟨by rfl, by intro w hS; go_simp⟩) hHeld ?_
  try simp only [Act.put, List.setIfInBounds_toArray, List.set_cons_zero, List.set_cons_succ]
  refine wpAnyH_ready (rs := [9]) (by kernel_rfl) (by simp) ?_
  refine (AllReadyH.cons (o := { dst := some 119, op := Op.call { callee := Callee.value (Operand.func 13), args := #[Operand.tmp 118], argTypes := #[27] }, type := 23, pos := "law.go:693", after := #[{ on := 8, ground := Ground.data }, { on := 6, ground := Ground.chain }, { on := 6, ground := Ground.guard }], guard := some (6, false) }) rfl (fun K hK => ?_) AllReadyH.nil)
  go_simp
  go_at_call 13
  refine (HIM2.out _ hHeld).mono ?_
  rintro e x2 ⟨sx, cx, rfl, hsx, hbx⟩
  have HSX2 := hid hsx
  clear hsx
  go_wp2_with fail
  refine hK.out _ _ (hHeld.trans (hbx.mono hHeld.size)) (fun hHeld2 => ?_)
  clear hK K hHeld
  have hHeld := hHeld2
  clear hHeld2
  clear hbx
  try simp only [Act.put, List.setIfInBounds_toArray, List.set_cons_zero, List.set_cons_succ]
  refine wpAnyH_ready (rs := [10]) (by kernel_rfl) (by simp) ?_
  refine (AllReadyH.cons (o := { dst := some 120, op := Op.call { callee := Callee.value (Operand.func 16), args := #[Operand.tmp 117, Operand.tmp 119], argTypes := #[23, 23] }, type := 4, pos := "law.go:693", after := #[{ on := 7, ground := Ground.data }, { on := 9, ground := Ground.data }, { on := 9, ground := Ground.chain }, { on := 6, ground := Ground.guard }], guard := some (6, false) }) rfl (fun K hK => ?_) AllReadyH.nil)
  go_simp
  go_at_call 16
  refine (HSAM.out _ hHeld sx cx HSX2.out).mono ?_
  rintro e x3 ⟨rfl, hbx⟩
  go_wp2_with fail
  refine hK.out _ _ (hHeld.trans (hbx.mono hHeld.size)) (fun hHeld2 => ?_)
  clear hK K hHeld
  have hHeld := hHeld2
  clear hHeld2
  clear hbx
  try simp only [Act.put, List.setIfInBounds_toArray, List.set_cons_zero, List.set_cons_succ]
  refine wpAnyH_take (i := 11) (oi := { dst := some 121, op := Op.unOp UnOp.not 4 (Operand.tmp 120), type := 4, pos := "law.go:693", after := #[{ on := 10, ground := Ground.data }, { on := 6, ground := Ground.guard }], guard := some (6, false) }) (v := .bool false) rfl (by kernel_rfl) (by kernel_rfl) (by kernel_rfl) (fun _ _ _ h => h) (Or.inl ⟨by rfl, by intro w hS; go_simp⟩) hHeld ?_
  try simp only [Act.put, List.setIfInBounds_toArray, List.set_cons_zero, List.set_cons_succ]
  refine wpAnyH_take (i := 12) (oi := { dst := some 122, op := Op.pick (Operand.tmp 116) (Operand.const (Value.bool true)) (Operand.tmp 121), type := 4, pos := "law.go:693", after := #[{ on := 6, ground := Ground.data }, { on := 11, ground := Ground.data }], guard := none }) (v := .bool false) rfl (by kernel_rfl) (by kernel_rfl) (by kernel_rfl) (fun _ _ _ h => h) (Or.inl ⟨by rfl, by intro w hS; go_simp⟩) hHeld ?_
  try simp only [Act.put, List.setIfInBounds_toArray, List.set_cons_zero, List.set_cons_succ]
  refine wpAnyH_take (i := 13) (oi := { dst := some 123, op := Op.move (Operand.tmp 122), type := 4, pos := "law.go:693", after := #[{ on := 12, ground := Ground.data }, { on := 10, ground := Ground.chain }], guard := none }) (v := .bool false) rfl (by kernel_rfl) (by kernel_rfl) (by kernel_rfl) (fun _ _ _ h => h) (Or.inl ⟨by rfl, by intro w hS; go_simp⟩) hHeld ?_
  try simp only [Act.put, List.setIfInBounds_toArray, List.set_cons_zero, List.set_cons_succ]
  refine wpAnyH_take (i := 14) (oi := { dst := some 124, op := Op.move (Operand.tmp 13), type := 31, pos := "law.go:693", after := #[{ on := 13, ground := Ground.guard }], guard := some (13, false) }) (v := .pointer (some ⟨st, 0, none⟩)) rfl (by kernel_rfl) (by kernel_rfl) (by kernel_rfl) (fun _ _ _ h => h) (Or.inl ⟨by rfl, by intro w hS; go_simp⟩) hHeld ?_
  try simp only [Act.put, List.setIfInBounds_toArray, List.set_cons_zero, List.set_cons_succ]
  refine wpAnyH_take (i := 16) (oi := { dst := some 126, op := Op.move (Operand.tmp 18), type := 3, pos := "law.go:693", after := #[{ on := 13, ground := Ground.guard }], guard := some (13, false) }) (v := .int .i64 (2 + (km : Int))) rfl (by kernel_rfl) (by kernel_rfl) (by kernel_rfl) (fun _ _ _ h => h) (Or.inl ⟨by rfl, by intro w hS; go_simp⟩) hHeld ?_
  try simp only [Act.put, List.setIfInBounds_toArray, List.set_cons_zero, List.set_cons_succ]
  refine wpAnyH_ready (rs := [15]) (by kernel_rfl) (by simp) ?_
  refine (AllReadyH.cons (o := { dst := some 125, op := Op.call { callee := Callee.value (Operand.func 14), args := #[Operand.tmp 124], argTypes := #[31] }, type := 3, pos := "law.go:693", after := #[{ on := 14, ground := Ground.data }, { on := 13, ground := Ground.chain }, { on := 13, ground := Ground.guard }], guard := some (13, false) }) rfl (fun K hK => ?_) AllReadyH.nil)
  go_simp
  go_at_call 14
  refine (HNX2.out _ hHeld).mono ?_
  rintro e x4 ⟨rfl, hbx⟩
  go_wp2_with fail
  refine hK.out _ _ (hHeld.trans (hbx.mono hHeld.size)) (fun hHeld2 => ?_)
  clear hK K hHeld
  have hHeld := hHeld2
  clear hHeld2
  clear hbx
  try simp only [Act.put, List.setIfInBounds_toArray, List.set_cons_zero, List.set_cons_succ]
  refine wpAnyH_take (i := 17) (oi := { dst := some 127, op := Op.binOp BinOp.neq 3 (Operand.tmp 125) (Operand.tmp 126) 3, type := 4, pos := "law.go:693", after := #[{ on := 15, ground := Ground.data }, { on := 16, ground := Ground.data }, { on := 13, ground := Ground.guard }], guard := some (13, false) }) (v := .bool false) rfl (by kernel_rfl) (by kernel_rfl) (by kernel_rfl) (fun _ _ _ h => h) (Or.inl ⟨by rfl, by intro w hS; go_simp⟩) hHeld ?_
  try simp only [Act.put, List.setIfInBounds_toArray, List.set_cons_zero, List.set_cons_succ]
  refine wpAnyH_take (i := 18) (oi := { dst := some 128, op := Op.pick (Operand.tmp 123) (Operand.const (Value.bool true)) (Operand.tmp 127), type := 4, pos := "law.go:693", after := #[{ on := 13, ground := Ground.data }, { on := 17, ground := Ground.data }], guard := none }) (v := .bool false) rfl (by kernel_rfl) (by kernel_rfl) (by kernel_rfl) (fun _ _ _ h => h) (Or.inl ⟨by rfl, by intro w hS; go_simp⟩) hHeld ?_
  try simp only [Act.put, List.setIfInBounds_toArray, List.set_cons_zero, List.set_cons_succ]
  refine wpAnyH_take (i := 19) (oi := { dst := some 129, op := Op.move (Operand.tmp 128), type := 4, pos := "law.go:693", after := #[{ on := 18, ground := Ground.data }, { on := 15, ground := Ground.chain }], guard := none }) (v := .bool false) rfl (by kernel_rfl) (by kernel_rfl) (by kernel_rfl) (fun _ _ _ h => h) (Or.inl ⟨by rfl, by intro w hS; go_simp⟩) hHeld ?_
  try simp only [Act.put, List.setIfInBounds_toArray, List.set_cons_zero, List.set_cons_succ]
  refine wpAnyH_take (i := 20) (oi := { dst := some 130, op := Op.move (Operand.tmp 13), type := 31, pos := "law.go:693", after := #[{ on := 19, ground := Ground.guard }], guard := some (19, false) }) (v := .pointer (some ⟨st, 0, none⟩)) rfl (by kernel_rfl) (by kernel_rfl) (by kernel_rfl) (fun _ _ _ h => h) (Or.inl ⟨by rfl, by intro w hS; go_simp⟩) hHeld ?_
  try simp only [Act.put, List.setIfInBounds_toArray, List.set_cons_zero, List.set_cons_succ]
  refine wpAnyH_take (i := 22) (oi := { dst := some 132, op := Op.move (Operand.tmp 19), type := 3, pos := "law.go:693", after := #[{ on := 19, ground := Ground.guard }], guard := some (19, false) }) (v := .int .i64 (sg : Int)) rfl (by kernel_rfl) (by kernel_rfl) (by kernel_rfl) (fun _ _ _ h => h) (Or.inl ⟨by rfl, by intro w hS; go_simp⟩) hHeld ?_
  try simp only [Act.put, List.setIfInBounds_toArray, List.set_cons_zero, List.set_cons_succ]
  refine wpAnyH_ready (rs := [21]) (by kernel_rfl) (by simp) ?_
  refine (AllReadyH.cons (o := { dst := some 131, op := Op.call { callee := Callee.value (Operand.func 15), args := #[Operand.tmp 130], argTypes := #[31] }, type := 3, pos := "law.go:693", after := #[{ on := 20, ground := Ground.data }, { on := 19, ground := Ground.chain }, { on := 19, ground := Ground.guard }], guard := some (19, false) }) rfl (fun K hK => ?_) AllReadyH.nil)
  go_simp
  go_at_call 15
  refine (HSG2.out _ hHeld).mono ?_
  rintro e x5 ⟨rfl, rfl⟩
  go_wp2_with fail
  refine hK.out _ _ (hHeld) (fun hHeld2 => ?_)
  clear hK K hHeld
  have hHeld := hHeld2
  clear hHeld2
  try simp only [Act.put, List.setIfInBounds_toArray, List.set_cons_zero, List.set_cons_succ]
  refine wpAnyH_take (i := 23) (oi := { dst := some 133, op := Op.binOp BinOp.neq 3 (Operand.tmp 131) (Operand.tmp 132) 3, type := 4, pos := "law.go:693", after := #[{ on := 21, ground := Ground.data }, { on := 22, ground := Ground.data }, { on := 19, ground := Ground.guard }], guard := some (19, false) }) (v := .bool false) rfl (by kernel_rfl) (by kernel_rfl) (by kernel_rfl) (fun _ _ _ h => h) (Or.inl ⟨by rfl, by intro w hS; go_simp⟩) hHeld ?_
  try simp only [Act.put, List.setIfInBounds_toArray, List.set_cons_zero, List.set_cons_succ]
  refine wpAnyH_take (i := 24) (oi := { dst := some 134, op := Op.pick (Operand.tmp 129) (Operand.const (Value.bool true)) (Operand.tmp 133), type := 4, pos := "law.go:693", after := #[{ on := 19, ground := Ground.data }, { on := 23, ground := Ground.data }], guard := none }) (v := .bool false) rfl (by kernel_rfl) (by kernel_rfl) (by kernel_rfl) (fun _ _ _ h => h) (Or.inl ⟨by rfl, by intro w hS; go_simp⟩) hHeld ?_
  try simp only [Act.put, List.setIfInBounds_toArray, List.set_cons_zero, List.set_cons_succ]
  refine wpAnyH_take (i := 25) (oi := { dst := some 135, op := Op.move (Operand.tmp 134), type := 4, pos := "law.go:693", after := #[{ on := 24, ground := Ground.data }, { on := 21, ground := Ground.chain }], guard := none }) (v := .bool false) rfl (by kernel_rfl) (by kernel_rfl) (by kernel_rfl) (fun _ _ _ h => h) (Or.inl ⟨by rfl, by intro w hS; go_simp⟩) hHeld ?_
  try simp only [Act.put, List.setIfInBounds_toArray, List.set_cons_zero, List.set_cons_succ]
  refine wpAnyH_take (i := 26) (oi := { dst := some 136, op := Op.move (Operand.tmp 13), type := 31, pos := "law.go:693", after := #[{ on := 25, ground := Ground.guard }], guard := some (25, false) }) (v := .pointer (some ⟨st, 0, none⟩)) rfl (by kernel_rfl) (by kernel_rfl) (by kernel_rfl) (fun _ _ _ h => h) (Or.inl ⟨by rfl, by intro w hS; go_simp⟩) hHeld ?_
  try simp only [Act.put, List.setIfInBounds_toArray, List.set_cons_zero, List.set_cons_succ]
  refine wpAnyH_ready (rs := [27]) (by kernel_rfl) (by simp) ?_
  refine (AllReadyH.cons (o := { dst := some 137, op := Op.call { callee := Callee.value (Operand.func 11), args := #[Operand.tmp 136], argTypes := #[31] }, type := 26, pos := "law.go:693", after := #[{ on := 26, ground := Ground.data }, { on := 25, ground := Ground.chain }, { on := 25, ground := Ground.guard }], guard := some (25, false) }) rfl (fun K hK => ?_) AllReadyH.nil)
  go_simp
  go_at_call 11
  refine (HSU2.out _ hHeld).mono ?_
  rintro e x6 ⟨rfl, hbx⟩
  go_wp2_with fail
  refine hK.out _ _ (hHeld.trans (hbx.mono hHeld.size)) (fun hHeld2 => ?_)
  clear hK K hHeld
  have hHeld := hHeld2
  clear hHeld2
  clear hbx
  try simp only [Act.put, List.setIfInBounds_toArray, List.set_cons_zero, List.set_cons_succ]
  refine wpAnyH_take (i := 28) (oi := { dst := some 138, op := Op.field 26 (Operand.tmp 137) 1, type := 3, pos := "law.go:693", after := #[{ on := 27, ground := Ground.data }, { on := 25, ground := Ground.guard }], guard := some (25, false) }) (v := .int .i64 1099511627776) rfl (by kernel_rfl) (by kernel_rfl) (by kernel_rfl) (fun _ _ _ h => h) (Or.inl ⟨by rfl, by intro w hS; (rw [← HGS.out]; kernel_rfl)⟩) hHeld ?_
  try simp only [Act.put, List.setIfInBounds_toArray, List.set_cons_zero, List.set_cons_succ]
  refine wpAnyH_take (i := 29) (oi := { dst := some 139, op := Op.binOp BinOp.neq 3 (Operand.tmp 138) (Operand.const (Value.int IntKind.i64 1099511627776)) 3, type := 4, pos := "law.go:693", after := #[{ on := 28, ground := Ground.data }, { on := 25, ground := Ground.guard }], guard := some (25, false) }) (v := .bool false) rfl (by kernel_rfl) (by kernel_rfl) (by kernel_rfl) (fun _ _ _ h => h) (Or.inl ⟨by rfl, by intro w hS; go_simp⟩) hHeld ?_
  try simp only [Act.put, List.setIfInBounds_toArray, List.set_cons_zero, List.set_cons_succ]
  refine wpAnyH_take (i := 30) (oi := { dst := some 140, op := Op.pick (Operand.tmp 135) (Operand.const (Value.bool true)) (Operand.tmp 139), type := 4, pos := "law.go:693", after := #[{ on := 25, ground := Ground.data }, { on := 29, ground := Ground.data }], guard := none }) (v := .bool false) rfl (by kernel_rfl) (by kernel_rfl) (by kernel_rfl) (fun _ _ _ h => h) (Or.inl ⟨by rfl, by intro w hS; go_simp⟩) hHeld ?_
  try simp only [Act.put, List.setIfInBounds_toArray, List.set_cons_zero, List.set_cons_succ]
  refine wpAnyH_done (by kernel_rfl) ?_ _
  refine NoPanic.normal ?_
  go_wp2_with fail
  refine (CLM.out _ (UP.out _ hHeld)).mono ?_
  rintro _ wY ⟨rfl, hfl, hbY⟩
  have HFL := hid hfl
  have HBY := hid ((BAW.out _ (UP.out _ hHeld)).trans hbY)
  clear hfl hbY
  go_wp2_with fail
  refine (HFL.out wY 0 (Below.refl _ _)).mono ?_
  rintro _ wZ ⟨rfl, hbZ⟩
  have HBZ := hid hbZ
  clear hbZ
  go_wp2_with fail
  refine (HFL.out wZ _ HBZ.out).mono ?_
  rintro _ wz ⟨rfl, hbz⟩
  have HBz := hid (HBZ.out.trans (hbz.mono HBZ.out.size))
  clear hbz
  go_wp2_with fail
  go_ret
  exact ⟨rfl, HBA.out ▸ HBl.out _ (HBY.out.trans (HBz.out.mono (Nat.le_trans HBW.out HBY.out.size)))⟩
end Go.Proofs.YtcndllcalnffoaaDoor
