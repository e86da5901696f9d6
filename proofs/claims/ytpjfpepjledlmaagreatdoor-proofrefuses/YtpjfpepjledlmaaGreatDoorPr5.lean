import Derived.Test.YtpjfpepjledlmaaGreatDoorPr4
namespace Go.Proofs.YtpjfpepjledlmaaGreatDoor
set_option linter.unusedVariables false
set_option linter.unusedSimpArgs false
open Go.RowKit
open Go.Proofs.YtpjfpepjledlmaaGreatDoor.Ca (Ct ct0 ctC argV AS)
attribute [local go_sem ↓] Go.wp_at_zero Go.wp_at_succ

set_option maxRecDepth 100000 in
set_option maxHeartbeats 4000000 in
theorem proofRefuses_any (w : World) (hG : Glob w) (wd room root : Int) (X : List Value) (lX : X.length = 32) (oX : ∀ v ∈ X, v.oneCell' = true) : Calls Tryz.prog 3 #[.int .i64 wd, .int .i64 room, .int .i64 root, .agg X.toArray] w fun e w' => e = .returned (.bool true) ∧ Below w.heap.size w w' := by
  have hb0 : Below w.heap.size w (w.alloc (.cells X.toArray 23)) := (Below.refl _ w).alloc (Nat.le_refl _) _
  have rk := hnew w (.cells X.toArray 23)
  have RK0 := hid rk
  have HB0 := hid hb0
  have HG := hid hG
  have hS7 := hid (show (Tryz.prog.info? 23).map (·.size) = some X.toArray.size by rw [List.size_toArray, lX]; kernel_rfl)
  clear hb0 hG
  by_cases hf : 1 ≤ wd ∧ wd ≤ 32 ∧ 1 ≤ room ∧ room ≤ 4096
  · have FT := hid (fun w => fits_yes w wd room hf)
    have FR := hid (fun w => fresh_any w wd room ⟨hf.1, hf.2.1⟩ ⟨hf.2.2.1, hf.2.2.2⟩)
    have AP := hid allocPf
    have B0 := hid built_pf0
    have LC := hid pf0_len
    have OC := hid pf0_one
    have SP := hid sameP_zero
    have hN := hid (show (Tryz.prog.info? 28).map (·.size) = some pf0.toArray.size by rw [Tryz.sizePf, List.size_toArray, pf0_len])
    obtain ⟨C, PF0⟩ : ∃ C, pf0 = C := ⟨_, rfl⟩
    rw [PF0] at AP B0 LC OC SP hN
    have PF := hid PF0
    clear hf PF0
    go_enter Tryz.func3, Tryz.ntmps3
    go_wp2_with fail
    refine (FT.out _).mono ?_
    rintro e wx ⟨rfl, hw⟩
    obtain rfl := hw
    clear FT
    go_wp2_with (first | refine wpList_load_row_w (by rfl) 23 _ (by rfl) _ (by rfl) 23 _ _ _ rk Tryz.underlying23 rfl hS7.out ?_)
    refine (prove_bad _ (.pointer none) root 1 X.toArray (by decide) (ready_nil _ root)).mono ?_
    rw [PF.out]
    rintro e w1 ⟨rfl, hb1⟩
    have HB1 := hid (HB0.out.trans (hb1.mono HB0.out.size))
    have RK1 := hid ((hb1.block _ (hlt RK0.out)).trans RK0.out)
    clear hb1 rk
    go_wp2_with (first | (refine wpList_new AP.out LC.out Tryz.sizePf rfl rfl rfl _ _ rfl rfl C rfl rfl LC.out OC.out ?_; refine Hid.out ?_))
    refine hid ?_
    have hb2 := HB1.out.alloc HB1.out.size (.cells C.toArray 28)
    have RK2 := hid (hold (o := .cells C.toArray 28) RK1.out)
    have rp := hnew w1 (.cells C.toArray 28)
    generalize w1.alloc (.cells C.toArray 28) = w2 at *
    have HB2 := hid hb2
    clear hb2 HB1 RK1
    go_wp2_with (first | refine wpList_load_row_w (by rfl) 28 _ (by rfl) _ (by rfl) 28 _ _ _ rp Tryz.underlying28 rfl hN.out ?_ | refine wpList_built (by rfl) 28 _ rfl _ rfl _ B0.out ?_)
    refine (SP.out w2).mono ?_
    rintro e w3 ⟨rfl, hb3⟩
    have HB3 := hid (HB2.out.trans (hb3.mono HB2.out.size))
    have RK3 := hid ((hb3.block _ (hlt RK2.out)).trans RK2.out)
    clear hb3 rp HB2 RK2
    go_wp2_with fail
    refine (FR.out w3).mono ?_
    rintro e w4 ⟨S, rfl, hQ, hb4⟩
    obtain ⟨base, hbase⟩ : ∃ base, base = w3.heap.size := ⟨_, rfl⟩
    rw [← hbase] at hQ hb4
    have HBS := hid (show w.heap.size ≤ base by rw [hbase]; exact HB3.out.size)
    have HBE := hid (Nat.le_of_eq hbase)
    have HUP := hid (fun w' (z : Below base w3 w') => HB3.out.trans (z.mono HBS.out))
    have HKE := hid (fun w' (z : Below base w3 w') => (z.block w.heap.size (by rw [hbase]; exact hlt RK3.out)).trans RK3.out)
    have HGL := hid (fun w' (z : Below base w3 w') => HG.out.below (HUP.out w' z) HG.out.1)
    have HQ := hid hQ
    have HB4 := hid hb4
    generalize hp : S.p = p at *
    generalize hst : S.st = st at *
    have HP := hid hp
    have HST := hid hst
    clear hQ hb4 FR hbase hp hst HB3 RK3
    have hbs : Below w4.heap.size w4 (w4.alloc (.cells #[.int .u8 1, .int .u8 2, .int .u8 3] 5)) := (Below.refl _ w4).alloc (Nat.le_refl _) _
    have hr := hnew w4 (.cells #[.int .u8 1, .int .u8 2, .int .u8 3] 5)
    have hSr : Src (w4.alloc (.cells #[.int .u8 1, .int .u8 2, .int .u8 3] 5)) (some ⟨w4.heap.size, 0, none⟩) 3 [1, 2, 3] := ⟨by simp, by simp [maxLen], w4.heap.size, 0, fun _ => hlt hr, fun _ => rfl, fun j hj => by
      have hj0 : j = 0 ∨ j = 1 ∨ j = 2 := by simp at hj; omega
      rw [cell_of_row _ _ _ _ _ _ hr]
      rcases hj0 with rfl | rfl | rfl <;> rfl⟩
    have hK5 := HQ.out.sk.below hbs
    have STG := oStage_any _ base S hK5 HQ.out.lv (by rw [hK5.cl, HQ.out.vs]; simp) (by rw [HQ.out.ma]; omega) (by rw [HQ.out.N]; omega) (by rw [HQ.out.ma, hK5.cl, HQ.out.vs, HQ.out.np]; decide) 3 (by omega) [1, 2, 3] (fun x hx => by simp at hx; omega) (by simp) (some ⟨w4.heap.size, 0, none⟩) 3 hSr (fun h => by cases h)
    rw [HQ.out.ma, hK5.cl, HQ.out.vs, HST.out] at STG
    have HB5 := hid (HB4.out.trans (hbs.mono HQ.out.sk.base))
    have HK5 := hid hK5
    replace STG := hid STG
    clear hbs hr hSr hK5
    go_wp2_with fail
    refine STG.out.mono ?_
    rintro e w6 ⟨FC, lb, a, sv, c, rfl, hK6, hF6, hG6⟩
    have HB6 := hid (HB5.out.trans (hF6.below (fun k hk => HK5.out.fp_lo hk) HK5.out.base))
    have hQ6 : ∃ S6, Q1 w6 base S6 st p 10 := ⟨_, hK6, by first | rfl | exact HST.out, HP.out, HQ.out.lv, HQ.out.ma, HQ.out.nx, rfl, by show S.N + 1 ≤ 10; rw [HQ.out.N]; omega, HQ.out.pw, HQ.out.ep⟩
    obtain ⟨S6, hQ6⟩ := hQ6
    have PC := hid (prove_cor w6 base S6 st p 10 hQ6 (by omega) X lX oX)
    have rk := HKE.out w6 HB6.out
    clear hK6 hF6 hG6 hQ6 STG HK5 HB5 HB4
    go_wp2_with (first | refine wpList_load_row_w (by rfl) 23 _ (by rfl) _ (by rfl) 23 _ _ _ rk Tryz.underlying23 rfl hS7.out ?_)
    refine PC.out.mono ?_
    rw [PF.out]
    rintro e w7 ⟨rfl, S7, hQ7, hk7, hb7⟩
    have HB7 := hid (HB6.out.trans hb7)
    have HQ7 := hid hQ7
    clear hQ7 hk7 hb7 rk PC HB6
    go_wp2_with (first | (refine wpList_new AP.out LC.out Tryz.sizePf rfl rfl rfl _ _ rfl rfl C rfl rfl LC.out OC.out ?_; refine Hid.out ?_))
    refine hid ?_
    have hbn : Below w7.heap.size w7 (w7.alloc (.cells C.toArray 28)) := (Below.refl _ w7).alloc (Nat.le_refl _) _
    have HQ8 := hid (HQ7.out.below hbn)
    have HB8 := hid (HB7.out.trans (hbn.mono HQ7.out.sk.base))
    have rp := hnew w7 (.cells C.toArray 28)
    generalize w7.alloc (.cells C.toArray 28) = w8 at *
    clear hbn HQ7 HB7
    go_wp2_with (first | refine wpList_load_row_w (by rfl) 28 _ (by rfl) _ (by rfl) 28 _ _ _ rp Tryz.underlying28 rfl hN.out ?_ | refine wpList_built (by rfl) 28 _ rfl _ rfl _ B0.out ?_)
    refine (SP.out w8).mono ?_
    rintro e w9 ⟨rfl, hb9⟩
    have HQ9 := hid (HQ8.out.below hb9)
    have HB9 := hid (HB8.out.trans (hb9.mono HQ8.out.sk.base))
    have PZ := hid (prove_zero w9 (HGL.out w9 HB9.out) base S7 st p 11 HQ9.out X lX oX)
    have rk := HKE.out w9 HB9.out
    clear hb9 rp HQ8 HB8
    go_wp2_with (first | refine wpList_load_row_w (by rfl) 23 _ (by rfl) _ (by rfl) 23 _ _ _ rk Tryz.underlying23 rfl hS7.out ?_)
    refine PZ.out.mono ?_
    rw [PF.out]
    rintro e wA ⟨rfl, hbA⟩
    have HQA := hid (HQ9.out.below hbA)
    have HBA := hid (HB9.out.trans (hbA.mono HQ9.out.sk.base))
    clear hbA rk PZ HQ9 HB9
    go_wp2_with (first | (refine wpList_new AP.out LC.out Tryz.sizePf rfl rfl rfl _ _ rfl rfl C rfl rfl LC.out OC.out ?_; refine Hid.out ?_))
    refine hid ?_
    have hbn : Below wA.heap.size wA (wA.alloc (.cells C.toArray 28)) := (Below.refl _ wA).alloc (Nat.le_refl _) _
    have HQB := hid (HQA.out.below hbn)
    have HBB := hid (HBA.out.trans (hbn.mono HQA.out.sk.base))
    have rp := hnew wA (.cells C.toArray 28)
    generalize wA.alloc (.cells C.toArray 28) = wB at *
    clear hbn HQA HBA
    go_wp2_with (first | refine wpList_load_row_w (by rfl) 28 _ (by rfl) _ (by rfl) 28 _ _ _ rp Tryz.underlying28 rfl hN.out ?_ | refine wpList_built (by rfl) 28 _ rfl _ rfl _ B0.out ?_)
    refine (SP.out wB).mono ?_
    rintro e wC ⟨rfl, hbC⟩
    have HQC := hid (HQB.out.below hbC)
    have HBC := hid (HBB.out.trans (hbC.mono HQB.out.sk.base))
    have ARM := hid HQC.out.arm
    clear hbC rp HQB HBB
    go_wp2_with fail
    refine ARM.out.mono ?_
    rintro e wD ⟨rfl, SD, hQD, haD, hbD⟩
    have HBD := hid (HBC.out.trans hbD)
    have SYN := hid (hQD.down haD)
    clear hQD haD hbD ARM HQC HBC
    go_wp2_with fail
    refine SYN.out.mono ?_
    rintro e wE ⟨rfl, SE, hKE, hpE, hstE, heE, heE2, hLE, hbE⟩
    have HBE2 := hid (HBD.out.trans hbE)
    have HKS := hid hKE
    have HPE := hid hpE
    have HSE := hid hstE
    have HEE := hid (And.intro heE heE2)
    have HLE := hid hLE
    have P1 := hid (prove_bad wE (.pointer (some ⟨st, 0, none⟩)) root 2 X.toArray (by decide) (ready_dead wE st 2 root (by decide) hLE))
    have rk := HKE.out wE HBE2.out
    clear hKE hpE hstE heE heE2 hLE hbE SYN HBD
    go_wp2_with (first | refine wpList_load_row_w (by rfl) 23 _ (by rfl) _ (by rfl) 23 _ _ _ rk Tryz.underlying23 rfl hS7.out ?_)
    refine P1.out.mono ?_
    rw [PF.out]
    rintro e wF ⟨rfl, hbF⟩
    have HbF := hid hbF
    clear hbF rk P1
    go_wp2_with (first | (refine wpList_new AP.out LC.out Tryz.sizePf rfl rfl rfl _ _ rfl rfl C rfl rfl LC.out OC.out ?_; refine Hid.out ?_))
    refine hid ?_
    have hbn := HbF.out.alloc HbF.out.size (.cells C.toArray 28)
    have r19 := hnew wF (.cells C.toArray 28)
    obtain ⟨G19, hG19⟩ : ∃ G19, G19 = wF.heap.size := ⟨_, rfl⟩
    rw [← hG19] at r19 ⊢
    have HG19 := hid (show wE.heap.size ≤ G19 by rw [hG19]; exact HbF.out.size)
    generalize wF.alloc (.cells C.toArray 28) = wG at *
    have HbG := hid hbn
    have R19 := hid r19
    have P2 := hid (prove_bad wG (.pointer (some ⟨st, 0, none⟩)) 0 2 X.toArray (by decide) (ready_dead wG st 2 0 (by decide) (HLE.out.later hbn)))
    have rk := HKE.out wG (HBE2.out.trans (hbn.mono HKS.out.base))
    clear hbn r19 hG19 HbF
    go_wp2_with (first | refine wpList_load_row_w (by rfl) 23 _ (by rfl) _ (by rfl) 23 _ _ _ rk Tryz.underlying23 rfl hS7.out ?_)
    refine P2.out.mono ?_
    rw [PF.out]
    rintro e wH ⟨rfl, hbH⟩
    have HbH := hid (HbG.out.trans (hbH.mono HbG.out.size))
    have R19H := hid ((hbH.block _ (hlt R19.out)).trans R19.out)
    clear hbH rk P2 HbG R19
    go_wp2_with (first | (refine wpList_new AP.out LC.out Tryz.sizePf rfl rfl rfl _ _ rfl rfl C rfl rfl LC.out OC.out ?_; refine Hid.out ?_))
    refine hid ?_
    have hbn := HbH.out.alloc HbH.out.size (.cells C.toArray 28)
    have r19 := hold (o := .cells C.toArray 28) R19H.out
    have r21 := hnew wH (.cells C.toArray 28)
    obtain ⟨G21, hG21⟩ : ∃ G21, G21 = wH.heap.size := ⟨_, rfl⟩
    rw [← hG21] at r21 ⊢
    have HG21 := hid (show wE.heap.size ≤ G21 by rw [hG21]; exact HbH.out.size)
    generalize wH.alloc (.cells C.toArray 28) = wI at *
    have HbI := hid hbn
    have CRS := (HKS.out.below hbn).crash2 HEE.out.1 HEE.out.2 [] (fun x hx => by cases hx) none 0 (Src.nil wI) (fun a q => by simp at q)
    rw [HPE.out, HSE.out] at CRS
    replace CRS := hid CRS
    have NIN := hid (fun (k : Nat) (hk : wE.heap.size ≤ k) => show k ∉ SE.F from fun z => by have := (HKS.out.in_lt (k := k) (by simp [z])).2; omega)
    have R19I := hid r19
    have R21I := hid r21
    have HBI := hid (HBE2.out.trans (hbn.mono HKS.out.base))
    clear hbn r19 r21 hG21 HbH R19H
    go_wp2_with fail
    refine CRS.out.mono ?_
    rintro e wJ ⟨FJ, rfl, hDJ, hLJ, hkJ, hbJ⟩
    have HBJ := hid (HBI.out.trans hbJ)
    have hLJ' : Tel 20 #[.pointer (some ⟨st, 0, none⟩)] wJ 3 := hLJ
    have P3 := hid (prove_bad wJ (.pointer (some ⟨st, 0, none⟩)) root 3 X.toArray (by decide) (ready_dead wJ st 3 root (by decide) hLJ'))
    have R19J := hid ((hkJ _ (hlt R19I.out) (NIN.out _ HG19.out)).trans R19I.out)
    have R21J := hid ((hkJ _ (hlt R21I.out) (NIN.out _ HG21.out)).trans R21I.out)
    have rk := HKE.out wJ HBJ.out
    have HBW := hid (show base ≤ wJ.heap.size from Nat.le_trans HBE.out HBJ.out.size)
    clear hDJ hLJ hLJ' hkJ hbJ CRS NIN R19I R21I HBI HKS HLE HBE2 HbI
    go_wp2_with (first | refine wpList_load_row_w (by rfl) 23 _ (by rfl) _ (by rfl) 23 _ _ _ rk Tryz.underlying23 rfl hS7.out ?_)
    refine P3.out.mono ?_
    rw [PF.out]
    rintro e wK ⟨rfl, hbK⟩
    have HBK := hid (HBJ.out.trans (hbK.mono HBW.out))
    have R19K := hid ((hbK.block _ (hlt R19J.out)).trans R19J.out)
    have R21K := hid ((hbK.block _ (hlt R21J.out)).trans R21J.out)
    have HSZ := hid (Nat.le_trans HBW.out hbK.size)
    clear hbK rk P3 R19J R21J HBJ
    go_wp2_with (first | (refine wpList_new AP.out LC.out Tryz.sizePf rfl rfl rfl _ _ rfl rfl C rfl rfl LC.out OC.out ?_; refine Hid.out ?_))
    refine hid ?_
    have hbn := HBK.out.alloc HSZ.out (.cells C.toArray 28)
    have R19L := hid (hold (o := .cells C.toArray 28) R19K.out)
    have R21L := hid (hold (o := .cells C.toArray 28) R21K.out)
    have r23 := hnew wK (.cells C.toArray 28)
    obtain ⟨G23, hG23⟩ : ∃ G23, G23 = wK.heap.size := ⟨_, rfl⟩
    rw [← hG23] at r23 ⊢
    have HSL := hid (show base ≤ (wK.alloc (.cells C.toArray 28)).heap.size from Nat.le_trans HBE.out hbn.size)
    generalize wK.alloc (.cells C.toArray 28) = wL at *
    have HBL := hid hbn
    have R23L := hid r23
    have rp := R19L.out
    clear hbn r23 hG23 R19K R21K HBK HSZ
    go_wp2_with (first | refine wpList_load_row_w (by rfl) 28 _ (by rfl) _ (by rfl) 28 _ _ _ rp Tryz.underlying28 rfl hN.out ?_ | refine wpList_built (by rfl) 28 _ rfl _ rfl _ B0.out ?_)
    refine (SP.out wL).mono ?_
    rintro e wM ⟨rfl, hbM⟩
    have HBM := hid (HBL.out.trans (hbM.mono HSL.out))
    have HSM := hid (Nat.le_trans HSL.out hbM.size)
    have rp2 := (hbM.block _ (hlt R21L.out)).trans R21L.out
    have R23M := hid ((hbM.block _ (hlt R23L.out)).trans R23L.out)
    clear hbM rp R19L R21L R23L HBL HSL
    have rp := rp2
    clear rp2
    go_wp2_with (first | refine wpList_load_row_w (by rfl) 28 _ (by rfl) _ (by rfl) 28 _ _ _ rp Tryz.underlying28 rfl hN.out ?_ | refine wpList_built (by rfl) 28 _ rfl _ rfl _ B0.out ?_)
    refine (SP.out wM).mono ?_
    rintro e wN ⟨rfl, hbN⟩
    have HBN := hid (HBM.out.trans (hbN.mono HSM.out))
    have HSN := hid (Nat.le_trans HSM.out hbN.size)
    have rp2 := (hbN.block _ (hlt R23M.out)).trans R23M.out
    clear hbN rp R23M HBM HSM
    have rp := rp2
    clear rp2
    go_wp2_with (first | refine wpList_load_row_w (by rfl) 28 _ (by rfl) _ (by rfl) 28 _ _ _ rp Tryz.underlying28 rfl hN.out ?_ | refine wpList_built (by rfl) 28 _ rfl _ rfl _ B0.out ?_)
    refine (SP.out wN).mono ?_
    rintro e wO ⟨rfl, hbO⟩
    have HBO := hid (HBN.out.trans (hbO.mono HSN.out))
    clear hbO rp
    go_wp2_with fail
    go_ret
    exact ⟨rfl, HUP.out _ HBO.out⟩
  · have FT := hid (fun w => fits_no w wd room hf)
    clear hf rk
    go_enter Tryz.func3, Tryz.ntmps3
    go_wp2_with fail
    refine (FT.out _).mono ?_
    rintro e wx ⟨rfl, hw⟩
    obtain rfl := hw
    go_wp2
    go_ret
    exact ⟨rfl, HB0.out⟩
end Go.Proofs.YtpjfpepjledlmaaGreatDoor
