import Derived.Test.YtjbfaalaogdniaaGreatDoorIr4
namespace Go.Proofs.YtjbfaalaogdniaaGreatDoor
set_option linter.unusedVariables false
set_option linter.unusedSimpArgs false
open Go.RowKit
open Go.Proofs.YtjbfaalaogdniaaGreatDoor.Ca (Ct ct0 ctC argV AS)
attribute [local go_sem ↓] Go.wp_at_zero Go.wp_at_succ

/-- What holds behind the calls on a live store. -/
def R12 (base : Nat) (w0 : World) (st p : Nat) (s : Value) (wx : World) : Prop := s = .bool false ∧ ∃ S', Q1 wx base S' st p 13 ∧ Below base w0 wx
def R10 (head : Int) (w5 : World) (s : Value) (wx : World) : Prop := ∃ b : Bool, s = .bool b ∧ (b = true ↔ (head = 0 ∨ (2 ≤ head ∧ head < 3))) ∧ Below w5.heap.size w5 wx
def R11 (w5 : World) (s : Value) (wx : World) : Prop := ∃ nn : Int, s = .int .i64 nn ∧ ¬ (nn = 0 ∨ (2 ≤ nn ∧ nn < 3)) ∧ Below w5.heap.size w5 wx
set_option maxRecDepth 100000 in
set_option maxHeartbeats 4000000 in
theorem indexRefuses_any (w : World) (wd room head n : Int) : Calls Tryz.prog 3 #[.int .i64 wd, .int .i64 room, .int .i64 head, .int .i64 n] w fun e w' => e = .returned (.bool true) ∧ Below w.heap.size w w' := by
  by_cases hf : 1 ≤ wd ∧ wd ≤ 32 ∧ 1 ≤ room ∧ room ≤ 4096
  · have FT := hid (fits_yes w wd room hf)
    have FR := hid (fresh_any w wd room ⟨hf.1, hf.2.1⟩ ⟨hf.2.2.1, hf.2.2.2⟩)
    have AL := hid allocRc
    have LC := hid (rcC_len rc0_ok)
    have hO := hid (rcC_one rc0)
    clear hf
    go_enter Tryz.func3, Tryz.ntmps3
    go_wp2_with fail
    refine FT.out.mono ?_
    rintro e wx ⟨rfl, hw⟩
    obtain rfl := hw
    clear FT
    go_wp2_with fail
    refine FR.out.mono ?_
    rintro e w1 ⟨S, rfl, hQ, hb1⟩
    obtain ⟨base, hbase⟩ : ∃ base, base = w.heap.size := ⟨_, rfl⟩
    rw [← hbase] at hQ hb1
    have HBS := hid hbase
    have HQ := hid hQ
    have HB1 := hid hb1
    have RN := hid (refused_any w1 (.pointer none) head n 1 (by decide) (ready_nil w1 head))
    generalize hp : S.p = p at *
    generalize hst : S.st = st at *
    have HP := hid hp
    have HST := hid hst
    clear hQ hb1 FR hbase hp hst
    go_wp2_with fail
    refine RN.out.mono ?_
    rintro e w2 ⟨rfl, hb2⟩
    have HB2 := hid (HB1.out.trans (hb2.mono HQ.out.sk.base))
    have hQ2 := HQ.out.sk.below hb2
    have hbs := below_new w2 (.cells #[.int .u8 1] 5)
    have hr := hnew w2 (.cells #[.int .u8 1] 5)
    have hSr : Src (w2.alloc (.cells #[.int .u8 1] 5)) (some ⟨w2.heap.size, 0, none⟩) 1 [1] := ⟨by simp, by simp [maxLen], w2.heap.size, 0, fun _ => hlt hr, fun _ => rfl, fun j hj => by
      have hj0 : j = 0 := by simpa using hj
      subst hj0
      rw [cell_of_row _ _ _ _ _ _ hr]; rfl⟩
    have hK3 := hQ2.below hbs
    have STG := oStage_any _ base S hK3 HQ.out.lv (by rw [hK3.cl, HQ.out.vs]; simp) (by rw [HQ.out.ma]; omega) (by rw [HQ.out.N]; omega) (by rw [HQ.out.ma, hK3.cl, HQ.out.vs, HQ.out.np]; decide) 1 (by omega) [1] (fun x hx => by simp at hx; omega) (by simp) (some ⟨w2.heap.size, 0, none⟩) 1 hSr (fun h => by cases h)
    rw [HQ.out.ma, hK3.cl, HQ.out.vs, HST.out] at STG
    have HB3 := hid (HB2.out.trans (hbs.mono hQ2.base))
    have HK3 := hid hK3
    replace STG := hid STG
    clear hb2 hQ2 hbs hr hSr hK3 RN
    go_wp2_with fail
    refine STG.out.mono ?_
    rintro e w4 ⟨FC, lb, a, sv, c, rfl, hK4, hF4, hG4⟩
    have HB4 := hid (HB3.out.trans (hF4.below (fun k hk => HK3.out.fp_lo hk) HK3.out.base))
    have hQ4 : ∃ S4, Q1 w4 base S4 st p 10 := ⟨_, hK4, by first | rfl | exact HST.out, HP.out, HQ.out.lv, HQ.out.ma, HQ.out.nx, rfl, by show S.N + 1 ≤ 10; rw [HQ.out.N]; omega, HQ.out.pw, HQ.out.ep⟩
    obtain ⟨S4, hQ4⟩ := hQ4
    have HQ4 := hid hQ4
    have NX4 := hid (fun w1 (hb : Below w4.heap.size w4 w1) => hQ4.next w1 hb)
    clear hK4 hF4 hG4 hQ4 STG HK3 HB3 HB2 HB1
    go_upto_region 10 with fail
    go_cut [55] from 44 to 55 (fun s55 wx => R10 head w4 s55 wx)
    case first =>
      by_cases h0 : head = 0
      · have HH := hid h0
        have e0 : (head == 0) = true := by simpa using h0
        clear h0
        go_wp2_with fail
        go_meet
        exact ⟨_, rfl, ⟨fun _ => Or.inl HH.out, fun _ => rfl⟩, Below.refl _ _⟩
      · have HH := hid h0
        have e0 : (head == 0) = false := by simpa using h0
        clear h0
        by_cases h2 : 2 ≤ head
        · have HH2 := hid h2
          go_wp2_with fail
          refine (NX4.out w4 (Below.refl _ _)).mono ?_
          rintro e w5 ⟨rfl, hb5⟩
          have HB5 := hid hb5
          clear hb5
          go_wp2_with fail
          go_meet
          refine ⟨_, rfl, ?_, HB5.out⟩
          rw [decide_eq_true_eq]
          exact ⟨fun q => Or.inr ⟨HH2.out, q⟩, fun q => by rcases q with q | q; exact absurd q HH.out; exact q.2⟩
        · have HH2 := hid h2
          go_wp2_with fail
          go_meet
          exact ⟨_, rfl, ⟨fun q => (by cases q), fun q => by rcases q with q | q; exact absurd q HH.out; (have := HH2.out; omega)⟩, Below.refl _ _⟩
    case rest =>
    obtain ⟨b, rfl, hbb, hb5⟩ := hcut
    obtain ⟨w5, hw5⟩ : ∃ w5, w5 = wc := ⟨_, rfl⟩
    subst hw5
    have HBB := hid hbb
    have HB5 := hid hb5
    clear hbb hb5
    go_upto_if 55 with fail
    go_cut [13] from 55 to 57 (fun s13 wx => R11 w4 s13 wx)
    case first =>
      cases b with
      | true =>
        go_wp2_with fail
        refine (NX4.out w5 HB5.out).mono ?_
        rintro e w6 ⟨rfl, hb6⟩
        have HB6 := hid (HB5.out.trans (hb6.mono HB5.out.size))
        clear hb6
        go_wp2_with fail
        go_meet
        exact ⟨3, rfl, by omega, HB6.out⟩
      | false =>
        go_wp2_with fail
        go_meet
        exact ⟨head, rfl, (fun q => (by cases HBB.out.2 q)), HB5.out⟩
    case rest =>
    obtain ⟨nn, rfl, hnn, hb6⟩ := hcut
    obtain ⟨w6, hw6⟩ : ∃ w6, w6 = wc := ⟨_, rfl⟩
    subst hw6
    have hQ6 := HQ4.out.below hb6
    have HB6 := hid (HB4.out.trans (hb6.mono HQ4.out.sk.base))
    have HQ6 := hid hQ6
    have HNN := hid hnn
    have RL := ready_live w6 st 3 nn hQ6.live hQ6.next
    rw [if_neg hnn] at RL
    have RF1 := hid (refused_any w6 (.pointer (some ⟨st, 0, none⟩)) nn n 41 (by decide) RL)
    clear hb6 hQ6 hnn RL NX4 HB5 HBB
    go_upto_region 12 with fail
    go_cut [73] from 58 to 73 (fun s73 wx => R12 base w st p s73 wx)
    case first =>
      go_wp2_with fail
      refine RF1.out.mono ?_
      rintro e w7 ⟨rfl, hb7⟩
      have HQ7 := hid (HQ6.out.below hb7)
      have HB7 := hid (HB6.out.trans (hb7.mono HQ6.out.sk.base))
      clear hb7
      by_cases hn : 0 ≤ n
      · have RC := hid (refused_cor w7 base S4 st p HQ7.out n hn)
        go_wp2_with fail
        refine RC.out.mono ?_
        rintro e w8 ⟨rfl, S8, hQ8, hb8⟩
        have HQ8 := hid hQ8
        have HB8 := hid (HB7.out.trans hb8)
        clear hQ8 hb8
        go_wp2_with fail
        go_meet
        exact ⟨rfl, S8, HQ8.out, HB8.out⟩
      · go_wp2_with fail
        go_meet
        exact ⟨rfl, S4, ⟨HQ7.out.sk, HQ7.out.st, HQ7.out.p, HQ7.out.lv, HQ7.out.ma, HQ7.out.nx, HQ7.out.vs, by have := HQ7.out.N; omega, HQ7.out.pw, HQ7.out.ep⟩, HB7.out⟩
    case rest =>
    obtain ⟨rfl, S8, hQ8, hb8⟩ := hcut
    obtain ⟨w8, hw8⟩ : ∃ w8, w8 = wc := ⟨_, rfl⟩
    subst hw8
    have HQ8 := hid hQ8
    have HB8 := hid hb8
    have FN := hid (ifind_neg w8 (.pointer (some ⟨st, 0, none⟩)) 2 hQ8.ready)
    generalize rcC rc0 = C at *
    clear hQ8 hb8 RF1 HQ6 HB6
    go_wp2_with fail
    refine FN.out.mono ?_
    rintro e w9 ⟨rfl, hb9⟩
    have HQ9 := hid (HQ8.out.below hb9)
    have HB9 := hid (HB8.out.trans (hb9.mono HQ8.out.sk.base))
    clear hb9 FN
    go_wp2_with (first
      | (refine wpList_new AL.out LC.out Tryz.sizeRc rfl rfl rfl _ _ rfl rfl C rfl rfl LC.out hO.out ?_; refine Hid.out ?_))
    refine hid ?_
    have hbn := below_new w9 (.cells C.toArray 36)
    have HQA := hid (HQ9.out.below hbn)
    have HBA := hid (HB9.out.trans (hbn.mono HQ9.out.sk.base))
    generalize w9.alloc (.cells C.toArray 36) = wA at *
    clear hbn HQ9 HB9 HQ8 HB8
    go_wp2_with fail
    refine (HQA.out.next wA (Below.refl _ _)).mono ?_
    rintro e wB ⟨rfl, hbB⟩
    have HQB := hid (HQA.out.below hbB)
    have HBB := hid (HBA.out.trans (hbB.mono HQA.out.sk.base))
    clear hbB HQA HBA
    have ARM := hid HQB.out.arm
    go_wp2_with fail
    refine ARM.out.mono ?_
    rintro e wC ⟨rfl, SC, hQC, haC, hbC⟩
    have HBC := hid (HBB.out.trans hbC)
    have SYN := hid (hQC.down haC)
    clear hQC haC hbC ARM HQB HBB
    go_wp2_with fail
    refine SYN.out.mono ?_
    rintro e wD ⟨rfl, SD, hKD, hpD, hstD, heD, heD2, hLD, hbD⟩
    have HBD := hid (HBC.out.trans hbD)
    have HKD := hid hKD
    have HPD := hid hpD
    have HSD := hid hstD
    have HED := hid (And.intro heD heD2)
    have HLD := hid hLD
    have RD1 := hid (refused_any wD (.pointer (some ⟨st, 0, none⟩)) nn n 2 (by decide) (ready_dead wD st 2 nn (by decide) hLD))
    clear hKD hpD hstD heD heD2 hLD hbD SYN HBC
    go_wp2_with fail
    refine RD1.out.mono ?_
    rintro e wE ⟨rfl, hbE⟩
    have HbE := hid hbE
    have RD2 := hid (refused_any wE (.pointer (some ⟨st, 0, none⟩)) 0 n 2 (by decide) (ready_dead wE st 2 0 (by decide) (HLD.out.later hbE)))
    clear hbE RD1
    go_wp2_with fail
    refine RD2.out.mono ?_
    rintro e wF ⟨rfl, hbF⟩
    have HbF := hid (HbE.out.trans (hbF.mono HbE.out.size))
    have HBF := hid (HBD.out.trans (HbF.out.mono HKD.out.base))
    have CRS := (HKD.out.below HbF.out).crash HED.out.1 HED.out.2 [] (fun x hx => by cases hx) none 0 (Src.nil wF) (fun a q => by simp at q)
    rw [HPD.out, HSD.out] at CRS
    replace CRS := hid CRS
    clear hbF RD2 HBD HbE
    go_wp2_with fail
    refine CRS.out.mono ?_
    rintro e wG ⟨FG, rfl, hDG, hLG, hbG⟩
    have HBG := hid (HBF.out.trans hbG)
    have hLG' : Tel 18 #[.pointer (some ⟨st, 0, none⟩)] wG 3 := hLG
    have HLG := hid hLG'
    have RG1 := hid (refused_any wG (.pointer (some ⟨st, 0, none⟩)) nn n 3 (by decide) (ready_dead wG st 3 nn (by decide) hLG'))
    have HBW := hid (show base ≤ wG.heap.size from Nat.le_trans (Nat.le_of_eq HBS.out) HBG.out.size)
    clear hDG hLG hbG hLG' CRS HBF HbF HKD
    go_wp2_with fail
    refine RG1.out.mono ?_
    rintro e wH ⟨rfl, hbH⟩
    have HBH := hid (HBG.out.trans (hbH.mono HBW.out))
    have HSZ := hid (Nat.le_trans HBW.out hbH.size)
    have RG2 := hid (refused_any wH (.pointer (some ⟨st, 0, none⟩)) 0 n 3 (by decide) (ready_dead wH st 3 0 (by decide) (HLG.out.later hbH)))
    clear hbH RG1 HBG
    go_wp2_with fail
    refine RG2.out.mono ?_
    rintro e wI ⟨rfl, hbI⟩
    have HBI := hid (HBH.out.trans (hbI.mono HSZ.out))
    clear hbI RG2 HBH
    go_wp2_with fail
    go_ret
    exact ⟨rfl, HBS.out ▸ HBI.out⟩
  · have FT := hid (fits_no w wd room hf)
    clear hf
    go_enter Tryz.func3, Tryz.ntmps3
    go_wp2_with fail
    refine FT.out.mono ?_
    rintro e wx ⟨rfl, hw⟩
    obtain rfl := hw
    go_wp2
    go_ret
    exact ⟨rfl, Below.refl _ _⟩
end Go.Proofs.YtjbfaalaogdniaaGreatDoor
