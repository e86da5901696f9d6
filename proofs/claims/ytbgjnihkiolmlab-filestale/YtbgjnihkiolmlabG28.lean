import Derived.Test.YtbgjnihkiolmlabGt
namespace Go.Proofs.Ytbgjnihkiolmlab
set_option linter.unusedVariables false
set_option linter.unusedSimpArgs false
open Go.RowKit
attribute [local go_sem ↓] Go.wp_at_zero Go.wp_at_succ


theorem Lv.slots {D : DS} {s : Sup} {nx : Nat} {ep : Int} {B : Bk} {n c : Nat} (h : Lv D s nx ep B n c) : chooseF (D.readOf 0) (D.readOf 1) = (s, 0) := by
  obtain ⟨o, hg⟩ := h.good
  obtain ⟨m, hm1, hm2, hm3⟩ := sup_ma h.val h.pg
  rw [read_page 0 (fun o ho => by have := h.opn o ho; omega), read_page 1 (fun o ho => by have := h.opn o ho; omega)]
  exact hg.choose.1
set_option maxRecDepth 100000 in
set_option maxHeartbeats 4000000 in
theorem stale_c (w : World) (n : Nat) (wd : Int) (hn : 3 ≤ n ∧ n ≤ 64) (hw : 1 ≤ wd ∧ wd ≤ 32) (ac : List AC) (hok : ∀ a ∈ ac, AcOk a) (sp : Option Addr) (cap : Nat) (hA : Acs w w.heap.size sp ac) (hal : (ac.length : Int) ≤ 9223372036854775807) (how : Int) (hhow : -9223372036854775808 ≤ how ∧ how ≤ 9223372036854775807) (qn : Int) (l : List Int) (sq : Option Addr) (caq : Nat) (hm : how % 3 = 2) :
    Calls Try.prog 3 #[.int .i64 n, .int .i64 wd, .slice sp ac.length cap, .int .i64 how, .int .i64 qn, .slice sq l.length caq] w fun e w' => e = .returned (.bool true) ∧ Below w.heap.size w w' := by
  have HFT := hid (fits_yes w n wd ⟨by omega, by omega, hw.1, hw.2⟩)
  have HFR := hid (fresh_in w n wd hn hw)
  have HPL := hid (fun w1 => (show Calls Try.prog 11 #[.int .i64 how, .int .i64 3] w1 fun e w' => e = .returned (.int .i64 2) ∧ w1 = w' from by have := place_any w1 how 3 (by decide) (by decide) hhow.1 hhow.2 3 rfl; rwa [show ((3 : Nat) : Int) = 3 from rfl, hm] at this))
  obtain ⟨base, hbase⟩ : ∃ base, base = w.heap.size := ⟨_, rfl⟩
  rw [← hbase] at HFR hA ⊢
  have BW := hid (show base ≤ w.heap.size by omega)
  have HA := hid hA
  have HOK := hid hok
  have HBK := build_book
  clear hA hok hbase hn hw hhow hm
  go_enter Try.func3, Try.ntmps3
  go_wp2_with (first | (go_at_call 5; refine HFT.out.mono ?_; rintro e w0 ⟨rfl, rfl⟩))
  refine HFR.out.mono ?_
  rintro e w1 ⟨p, g, F, D, rfl, hD1, hK1, hg1, hlv1, harm1, hB1⟩
  have HD1 := hid hD1
  have HK1 := hid hK1
  have HG1 := hid hg1
  have HLV1 := hid hlv1
  have HB1 := hid hB1
  have HAR1 := hid harm1
  clear hD1 hK1 hg1 hlv1 harm1 hB1 HFR HFT
  go_wp2
  have HS0 := hid (SS.start HD1.out HK1.out HG1.out HLV1.out HB1.out BW.out)
  generalize hgb : w1.heap.size = gb at *
  clear HBK HD1 HK1 HG1 HLV1 HB1
  go_loopw [16, 17, 18] (fun iv _ _ wr => ∃ (i : Nat) (D : DS) (s : Sup) (nx : Nat) (ep : Int) (B : Bk) (F G : List Nat), i ≤ ac.length ∧ i ≤ 60 ∧ iv = .int .i64 i ∧ SS w wr base p gb n (2 * i) g D s nx ep B F G ∧ D.armed = 0) (fun iv _ _ _ => ac.length - (intOf iv).toNat)
  case atStart => exact ⟨0, D, _, 2, _, _, F, _, by omega, by omega, rfl, HS0.out, HAR1.out⟩
  case round =>
    clear HS0 HAR1
    obtain ⟨i, D, s, nx, ep, B, F, G, hi, hi2, rfl, hS, harm⟩ := hrel
    have j0 : (i : Int) ≤ 60 := by omega
    by_cases hlt : i < ac.length ∧ i < 60
    · have k1 : (i : Int) < (ac.length : Int) := by omega
      have k2 : (i : Int) < 60 := by omega
      have k3 : i < ac.length := hlt.1
      have k4 : i < 60 := hlt.2
      obtain ⟨b, o, tp, tc, rfl, hbb, hrg, hsr⟩ := HA.out.at hS.bl i hlt.1
      have hai := HOK.out (ac.getD i dA) (getD_memA ac i hlt.1)
      have HACT := hid (acts_in wr base F p D hS.da (Nat.le_trans hS.bw hS.bl.size) g s nx ep hS.fk G gb B hS.ba hS.ap hS.ng n (2 * i) hS.lv (by omega) (ac.getD i dA).kind (ac.getD i dA).N hai.1 (ac.getD i dA).load hai.2.1 tp tc hsr hai.2.2)
      have ck : wr.cell? ⟨b, o + i * 3, none⟩ = some (.int .i64 (ac.getD i dA).kind) := hrg 0 _ rfl
      have HRG := hid hrg
      have HS := hid hS
      have HAR := hid harm
      clear hS hrg hsr hai hlt harm
      generalize ac.getD i dA = A at *
      by_cases h4 : A.kind = 4
      · have h40 : (A.kind != 4) = false := by simp [h4]
        clear h4
        go_wp2
        refine ⟨⟨i + 1, D, s, nx, ep, B, F, G, by omega, by omega, by go_num, by have := HS.out.more.more; rw [show 2 * (i + 1) = 2 * i + 1 + 1 by omega]; exact this, HAR.out⟩, by simp [intOf]; omega⟩
      · have h40 : (A.kind != 4) = true := by simpa using h4
        have H4 := hid h4
        clear h4
        go_wp2_with (first | (refine wpList_load_mid_w (by rfl) 35 (.tmp 68) (by rfl) b (o + i * 3) (by rfl) (actL A tp tc) _ (by exact HRG.out) Try.underlying35 rfl (by rw [size_fact]; rfl) ?_))
        refine HACT.out.mono ?_
        rintro e w3 ⟨er, rfl, hao⟩
        obtain ⟨D', s', nx', B', F', G', hcase, _, _, _, _, hz⟩ := HS.out.step hao
        obtain ⟨rfl, harm'⟩ := hz ⟨HAR.out, H4.out⟩
        have hS2 : SS w w3 base p gb n (2 * i + 1) g D' s' nx' ep B' F' G' := by
          rcases hcase with ⟨_, x⟩ | ⟨x, _⟩
          · exact x
          · exact absurd x (by decide)
        have HS2 := hid hS2
        have HAR2 := hid harm'
        clear hao HACT HRG hcase hz harm' hS2 HS HAR ck
        go_wp2
        refine ⟨⟨i + 1, D', s', nx', ep, B', F', G', by omega, by omega, by go_num, by have := HS2.out.more; rw [show 2 * (i + 1) = 2 * i + 1 + 1 by omega]; exact this, HAR2.out⟩, by simp [intOf]; omega⟩
    · have HS := hid hS
      have HAR := hid harm
      have HSU := hid (FSuper_any wr g p s nx ep hS.fk)
      have hx : ¬ ((i : Int) < (ac.length : Int)) ∨ (((i : Int) < (ac.length : Int)) ∧ ¬ ((i : Int) < 60)) := by omega
      clear hS harm hlt
      rcases hx with k1 | ⟨k1, k2⟩
      · go_wp2_with (first
          | (go_at_call 8; refine HSU.out.mono ?_; rintro e w3 ⟨rfl, hb3⟩; have HB3 := hid hb3; clear hb3)
          | (refine wpList_store_row (by rfl) 40 (.tmp 19) (.tmp 76) (by rfl) w3.heap.size (supC s) (by rfl) (by rfl) 40 _ (by exact hnew _ _) (supN s) (supZ s) (supO s) ?_; rw [setRow_alloc]; have r9 := hnew w3 (.cells (supC s) 40); have b4 := below_new w3 (.cells (supC s) 40); generalize hw4 : w3.alloc (.cells (supC s) 40) = w4 at *; generalize hG9 : w3.heap.size = G9 at *; have hb4 : Below wr.heap.size wr w4 := HB3.out.trans ((hG9 ▸ b4 : Below w3.heap.size w3 w4).mono HB3.out.size); have HS4 := hid (HS.out.below hb4); have R9 := hid r9; have HNX := hid (FNext_any w4 g p s nx ep HS4.out.fk); have HLI := hid (Live_any w4 base F p D HS4.out.da g s nx ep HS4.out.fk); rw [HS4.out.lv.live] at HLI; clear r9 b4 hb4 hw4)
          | (go_at_call 9; refine HNX.out.mono ?_; rintro e w5 ⟨rfl, rfl⟩)
          | (go_at_call 10; refine HLI.out.mono ?_; rintro e w5 ⟨rfl, hb5⟩; have HB5 := hid hb5; clear hb5)
          | (go_at_call 11; refine (HPL.out w5).mono ?_; rintro e w6 ⟨rfl, rfl⟩))
        have HCL := hid (Claim_same w5 base F p D (HS4.out.da.below HB5.out) (by have := HS4.out.lv.cnt; omega))
        refine HCL.out.mono ?_
        rintro e w6 ⟨rfl, hD6, hF6⟩
        have HDX := hid hD6
        have HKX := hid ((HS4.out.fk.below HB5.out).other (HS4.out.da.below HB5.out) hF6)
        have HLX := hid (show liveF ({ D with epoch := D.epoch + 1 } : DS) ep = 3 from by unfold liveF; rw [if_pos (show D.epoch + 1 ≠ ep by rw [HS4.out.lv.hep]; omega)])
        have HNPX := hid (show ({ D with epoch := D.epoch + 1 } : DS).np = n from HS4.out.lv.np)
        have r95 := (HB5.out.block G9 (hlt_ R9.out)).trans R9.out
        have R9X := hid (hF6.keep r95 ((HS4.out.da.below HB5.out).not_in r95 (by decide) (by decide) (by decide)))
        have HBX := hid (Fr.go (HS4.out.da.below HB5.out) (HS4.out.bl.trans (HB5.out.mono (Nat.le_trans BW.out HS4.out.bl.size))) BW.out hF6)
        have HBG := hid HS4.out.bg
        clear hD6 hF6 r95 HCL HNX HLI HB5 HPL HSU HB3 R9 HS HS4 HAR
        generalize ({ D with epoch := D.epoch + 1 } : DS) = DX at *
        have HIM := hid (Image_any w6 base F p DX HDX.out)
        have HCO := hid (fun (w' : World) (hb : Below w6.heap.size w6 w') => Counts_any w' base F p DX (HDX.out.below hb))
        have HAPP := hid (fun (w' : World) (hb : Below w6.heap.size w6 w') => Append_dead w' base F p DX (HDX.out.below hb) g s nx ep (HKX.out.below hb) 3 HLX.out (by decide) qn sq l.length caq)
        have HRDD := hid (fun (w' : World) (hb : Below w6.heap.size w6 w') => FRead_dead w' base F p DX (HDX.out.below hb) g s nx ep (HKX.out.below hb) 3 HLX.out (by decide) qn)
        have HPBD := hid (fun (w' : World) (hb : Below w6.heap.size w6 w') => Publish_dead w' base F p DX (HDX.out.below hb) g s nx ep (HKX.out.below hb) 3 HLX.out (by decide) qn)
        have HLVD := hid (fun (w' : World) (hb : Below w6.heap.size w6 w') => (show Calls Try.prog 10 #[.pointer (some ⟨g, 0, none⟩)] w' fun e w2 => e = .returned (.int .i64 3) ∧ Below w'.heap.size w' w2 from by have := Live_any w' base F p DX (HDX.out.below hb) g s nx ep (HKX.out.below hb); rwa [HLX.out] at this))
        have HLEN := hid (show DX.img.length = 256 * n by rw [HDX.out.ok.np.2.2.1]; rw [HNPX.out])
        have HNP3 := hid (show 3 ≤ n by have := HDX.out.ok.np; rw [HNPX.out] at this; omega)
        go_wp2_with (first
          | (go_at_call 15; refine HIM.out.mono ?_; rintro e w7 ⟨vi, rfl, hOi, hb7⟩; obtain ⟨ib, ic, irest, hvi, hib, hir, hic, him, hio⟩ := own_in hOi (by rw [HLEN.out]; have := HNP3.out; omega); subst hvi; obtain ⟨si, ci, hvi2, hsi, _⟩ := hOi.form; simp only [Value.slice.injEq] at hvi2; obtain ⟨rfl, _, rfl⟩ := hvi2; have HB7 := hid hb7; have HSI := hid hsi; clear hOi hib hir hic him hio hsi hb7)
          | (go_at_call 16; refine (HCO.out w7 HB7.out).mono ?_; rintro e w8 ⟨rfl, hb8⟩; have HB8 := hid (HB7.out.trans (hb8.mono HB7.out.size)); have HS8 := hid (HSI.out.below hb8 (Nat.le_refl _)); clear hb8)
          | (refine wpList_store_row (by rfl) 50 (.tmp 25) (.tmp 122) (by rfl) w8.heap.size (cntC DX.reads DX.writes DX.syncs DX.ops.length) (by rfl) (by rfl) 50 _ (by exact hnew _ _) (by rw [size_counts]; rfl) (by rfl) (by simp [cntC, Value.oneCell']) ?_; rw [setRow_alloc]; have rC := hnew w8 (.cells (cntC DX.reads DX.writes DX.syncs DX.ops.length) 50); have bC := below_new w8 (.cells (cntC DX.reads DX.writes DX.syncs DX.ops.length) 50); generalize hw9 : w8.alloc (.cells (cntC DX.reads DX.writes DX.syncs DX.ops.length) 50) = w9 at *; generalize hGC : w8.heap.size = GC at *; have HB9 := hid (HB8.out.trans ((hGC ▸ bC : Below w8.heap.size w8 w9).mono HB8.out.size)); have HS9 := hid (HS8.out.below (hGC ▸ bC : Below w8.heap.size w8 w9) (Nat.le_refl _)); have RC := hid rC; clear rC bC hw9)
          | (go_at_call 17; refine (HAPP.out w9 HB9.out).mono ?_; rintro e w10 ⟨rfl, hb10⟩; have HC10 := hid hb10; have HB10 := hid (HB9.out.trans (hb10.mono HB9.out.size)); clear hb10)
          | (go_at_call 18; refine (HRDD.out w10 HB10.out).mono ?_; rintro e w11 ⟨rfl, hb11⟩; have HC11 := hid (HC10.out.trans (hb11.mono HC10.out.size)); have HB11 := hid (HB10.out.trans (hb11.mono HB10.out.size)); clear hb11)
          | (go_at_call 19; refine (HPBD.out w11 HB11.out).mono ?_; rintro e w12 ⟨rfl, hb12⟩; have HC12 := hid (HC11.out.trans (hb12.mono HC11.out.size)); have HB12 := hid (HB11.out.trans (hb12.mono HB11.out.size)); clear hb12)
          | (go_at_call 10; refine (HLVD.out w12 HB12.out).mono ?_; rintro e WC ⟨rfl, hb13⟩; have HCC := hid (HC12.out.trans (hb13.mono HC12.out.size)); have HBC := hid (HB12.out.trans (hb13.mono HB12.out.size)); clear hb13))
        have HDC := hid (HDX.out.below HBC.out)
        have HKC := hid (HKX.out.below HBC.out)
        have R9C := hid ((HBC.out.block G9 (hlt_ R9X.out)).trans R9X.out)
        have RCC := hid ((HCC.out.block GC (hlt_ RC.out)).trans RC.out)
        have HSC := hid (HS9.out.below HCC.out (Nat.le_refl _))
        have HQ := hid (show ∀ w : World, (Op.equalIn 10000 40 (.agg (supC s)) (.agg (supC s))).run Try.prog w = .ok true w from fun w => by have := eqSup s s w; rwa [show decide (s = s) = true from decide_eq_true rfl] at this)
        have HQ2 := hid (show ∀ w : World, (Op.equalIn 10000 50 (.agg #[.int .i64 DX.reads, .int .i64 DX.writes, .int .i64 DX.syncs, .int .i64 DX.ops.length]) (.agg (cntC DX.reads DX.writes DX.syncs DX.ops.length))).run Try.prog w = .ok true w from eqCnt DX.reads DX.writes DX.syncs DX.ops.length)
        have HSAM := hid (fun (w' : World) (hb : Below WC.heap.size WC w') (sx : Option Addr) (cx : Nat) (hsx : Src w' sx cx DX.img) => (show Calls Try.prog 20 #[.slice sx DX.img.length cx, .slice (some ⟨ib, 0, none⟩) DX.img.length ic] w' fun e w2 => e = .returned (.bool true) ∧ Below w'.heap.size w' w2 from by
          have := same_any w' DX.img DX.img sx (some ⟨ib, 0, none⟩) cx ic hsx (HSC.out.below hb (Nat.le_refl _))
          rwa [show decide (DX.img = DX.img) = true from decide_eq_true rfl] at this))
        clear HIM HCO HAPP HRDD HPBD HLVD HB7 HB8 HS8 HB9 HS9 HSI HC10 HB10 HC11 HB11 HC12 HB12 RC
        refine wp_region_noPanic ?_
        refine wp_region_held_drew (S := fun w' => Below WC.heap.size WC w') (by kernel_rfl) (Below.refl _ _).drew (fun hHeld => ?_)
        refine wpAnyH_take (i := 0) (oi := { dst := some 168, op := Op.move (Operand.tmp 14), type := 26, pos := "outright.go:363", after := #[], guard := none }) (v := .pointer (some ⟨g, 0, none⟩)) rfl (by kernel_rfl) (by kernel_rfl) (by kernel_rfl) (fun _ _ _ h => h) (Or.inl ⟨by rfl, by intro w hS; go_simp⟩) hHeld ?_
        try simp only [Act.put, List.setIfInBounds_toArray, List.set_cons_zero, List.set_cons_succ]
        refine wpAnyH_take (i := 2) (oi := { dst := some 170, op := Op.load 40 (Operand.tmp 19), type := 40, pos := "outright.go:363", after := #[], guard := none }) (v := .agg (supC s)) rfl (by kernel_rfl) (by kernel_rfl) (by kernel_rfl) (fun _ _ _ h => h) (yieldsIf_load_sup (by rfl) (.tmp 19) rfl G9 rfl s (fun w1 hS => (hS.block G9 (hlt_ R9C.out)).trans R9C.out)) hHeld ?_
        try simp only [Act.put, List.setIfInBounds_toArray, List.set_cons_zero, List.set_cons_succ]
        refine wpAnyH_ready (rs := [1]) (by kernel_rfl) (by simp) ?_
        refine (AllReadyH.cons (o := { dst := some 169, op := Op.call { callee := Callee.value (Operand.func 8), args := #[Operand.tmp 168], argTypes := #[26] }, type := 40, pos := "outright.go:363", after := #[{ on := 0, ground := Ground.data }], guard := none }) rfl (fun K hK => ?_) AllReadyH.nil)
        go_simp
        go_at_call 8
        refine (FSuper_any _ g p s nx ep (HKC.out.below hHeld)).mono ?_
        rintro e x1 ⟨rfl, hbx⟩
        go_wp2_with fail
        refine hK.out _ _ (hHeld.trans (hbx.mono hHeld.size)) (fun hHeld2 => ?_)
        clear hK K hHeld
        have hHeld := hHeld2
        clear hHeld2
        clear hbx
        try simp only [Act.put, List.setIfInBounds_toArray, List.set_cons_zero, List.set_cons_succ]
        refine wpAnyH_take (i := 3) (oi := { dst := some 171, op := Op.binOp BinOp.neq 40 (Operand.tmp 169) (Operand.tmp 170) 40, type := 4, pos := "outright.go:363", after := #[{ on := 1, ground := Ground.data }, { on := 2, ground := Ground.data }], guard := none }) (v := .bool false) rfl (by kernel_rfl) (by kernel_rfl) (by kernel_rfl) (fun _ _ _ h => h) (Or.inl ⟨by rfl, by intro w hS; (have KQ := HQ.out; have KG := guardU; go_simp)⟩) hHeld ?_
        try simp only [Act.put, List.setIfInBounds_toArray, List.set_cons_zero, List.set_cons_succ]
        refine wpAnyH_take (i := 4) (oi := { dst := some 172, op := Op.move (Operand.tmp 171), type := 4, pos := "outright.go:363", after := #[{ on := 3, ground := Ground.data }, { on := 1, ground := Ground.chain }], guard := none }) (v := .bool false) rfl (by kernel_rfl) (by kernel_rfl) (by kernel_rfl) (fun _ _ _ h => h) (Or.inl ⟨by rfl, by intro w hS; go_simp⟩) hHeld ?_
        try simp only [Act.put, List.setIfInBounds_toArray, List.set_cons_zero, List.set_cons_succ]
        refine wpAnyH_take (i := 5) (oi := { dst := some 173, op := Op.move (Operand.tmp 14), type := 26, pos := "outright.go:363", after := #[{ on := 4, ground := Ground.guard }], guard := some (4, false) }) (v := .pointer (some ⟨g, 0, none⟩)) rfl (by kernel_rfl) (by kernel_rfl) (by kernel_rfl) (fun _ _ _ h => h) (Or.inl ⟨by rfl, by intro w hS; go_simp⟩) hHeld ?_
        try simp only [Act.put, List.setIfInBounds_toArray, List.set_cons_zero, List.set_cons_succ]
        refine wpAnyH_take (i := 7) (oi := { dst := some 175, op := Op.move (Operand.tmp 20), type := 3, pos := "outright.go:363", after := #[{ on := 4, ground := Ground.guard }], guard := some (4, false) }) (v := .int .i64 (nx : Int)) rfl (by kernel_rfl) (by kernel_rfl) (by kernel_rfl) (fun _ _ _ h => h) (Or.inl ⟨by rfl, by intro w hS; go_simp⟩) hHeld ?_
        try simp only [Act.put, List.setIfInBounds_toArray, List.set_cons_zero, List.set_cons_succ]
        refine wpAnyH_ready (rs := [6]) (by kernel_rfl) (by simp) ?_
        refine (AllReadyH.cons (o := { dst := some 174, op := Op.call { callee := Callee.value (Operand.func 9), args := #[Operand.tmp 173], argTypes := #[26] }, type := 3, pos := "outright.go:363", after := #[{ on := 5, ground := Ground.data }, { on := 4, ground := Ground.chain }, { on := 4, ground := Ground.guard }], guard := some (4, false) }) rfl (fun K hK => ?_) AllReadyH.nil)
        go_simp
        go_at_call 9
        refine (FNext_any _ g p s nx ep (HKC.out.below hHeld)).mono ?_
        rintro e x2 ⟨rfl, rfl⟩
        go_wp2_with fail
        refine hK.out _ _ (hHeld) (fun hHeld2 => ?_)
        clear hK K hHeld
        have hHeld := hHeld2
        clear hHeld2
        try simp only [Act.put, List.setIfInBounds_toArray, List.set_cons_zero, List.set_cons_succ]
        refine wpAnyH_take (i := 8) (oi := { dst := some 176, op := Op.binOp BinOp.neq 3 (Operand.tmp 174) (Operand.tmp 175) 3, type := 4, pos := "outright.go:363", after := #[{ on := 6, ground := Ground.data }, { on := 7, ground := Ground.data }, { on := 4, ground := Ground.guard }], guard := some (4, false) }) (v := .bool false) rfl (by kernel_rfl) (by kernel_rfl) (by kernel_rfl) (fun _ _ _ h => h) (Or.inl ⟨by rfl, by intro w hS; go_simp⟩) hHeld ?_
        try simp only [Act.put, List.setIfInBounds_toArray, List.set_cons_zero, List.set_cons_succ]
        refine wpAnyH_take (i := 9) (oi := { dst := some 177, op := Op.pick (Operand.tmp 172) (Operand.const (Value.bool true)) (Operand.tmp 176), type := 4, pos := "outright.go:363", after := #[{ on := 4, ground := Ground.data }, { on := 8, ground := Ground.data }], guard := none }) (v := .bool false) rfl (by kernel_rfl) (by kernel_rfl) (by kernel_rfl) (fun _ _ _ h => h) (Or.inl ⟨by rfl, by intro w hS; go_simp⟩) hHeld ?_
        try simp only [Act.put, List.setIfInBounds_toArray, List.set_cons_zero, List.set_cons_succ]
        refine wpAnyH_take (i := 10) (oi := { dst := some 178, op := Op.move (Operand.tmp 177), type := 4, pos := "outright.go:363", after := #[{ on := 9, ground := Ground.data }, { on := 6, ground := Ground.chain }], guard := none }) (v := .bool false) rfl (by kernel_rfl) (by kernel_rfl) (by kernel_rfl) (fun _ _ _ h => h) (Or.inl ⟨by rfl, by intro w hS; go_simp⟩) hHeld ?_
        try simp only [Act.put, List.setIfInBounds_toArray, List.set_cons_zero, List.set_cons_succ]
        refine wpAnyH_take (i := 11) (oi := { dst := some 179, op := Op.move (Operand.tmp 13), type := 25, pos := "outright.go:363", after := #[{ on := 10, ground := Ground.guard }], guard := some (10, false) }) (v := .pointer (some ⟨p, 0, none⟩)) rfl (by kernel_rfl) (by kernel_rfl) (by kernel_rfl) (fun _ _ _ h => h) (Or.inl ⟨by rfl, by intro w hS; go_simp⟩) hHeld ?_
        try simp only [Act.put, List.setIfInBounds_toArray, List.set_cons_zero, List.set_cons_succ]
        refine wpAnyH_take (i := 13) (oi := { dst := some 181, op := Op.move (Operand.tmp 24), type := 23, pos := "outright.go:363", after := #[{ on := 10, ground := Ground.guard }], guard := some (10, false) }) (v := .slice (some ⟨ib, 0, none⟩) DX.img.length ic) rfl (by kernel_rfl) (by kernel_rfl) (by kernel_rfl) (fun _ _ _ h => h) (Or.inl ⟨by rfl, by intro w hS; go_simp⟩) hHeld ?_
        try simp only [Act.put, List.setIfInBounds_toArray, List.set_cons_zero, List.set_cons_succ]
        refine wpAnyH_ready (rs := [12]) (by kernel_rfl) (by simp) ?_
        refine (AllReadyH.cons (o := { dst := some 180, op := Op.call { callee := Callee.value (Operand.func 15), args := #[Operand.tmp 179], argTypes := #[25] }, type := 23, pos := "outright.go:363", after := #[{ on := 11, ground := Ground.data }, { on := 10, ground := Ground.chain }, { on := 10, ground := Ground.guard }], guard := some (10, false) }) rfl (fun K hK => ?_) AllReadyH.nil)
        go_simp
        go_at_call 15
        refine (Image_any _ base F p DX (HDC.out.below hHeld)).mono ?_
        rintro e x3 ⟨vx, rfl, hOx, hbx⟩
        obtain ⟨sx, cx, hvx, hsx, _⟩ := hOx.form
        subst hvx
        have HSX2 := hid hsx
        clear hOx hsx
        go_wp2_with fail
        refine hK.out _ _ (hHeld.trans (hbx.mono hHeld.size)) (fun hHeld2 => ?_)
        clear hK K hHeld
        have hHeld := hHeld2
        clear hHeld2
        clear hbx
        try simp only [Act.put, List.setIfInBounds_toArray, List.set_cons_zero, List.set_cons_succ]
        refine wpAnyH_ready (rs := [14]) (by kernel_rfl) (by simp) ?_
        refine (AllReadyH.cons (o := { dst := some 182, op := Op.call { callee := Callee.value (Operand.func 20), args := #[Operand.tmp 180, Operand.tmp 181], argTypes := #[23, 23] }, type := 4, pos := "outright.go:363", after := #[{ on := 12, ground := Ground.data }, { on := 13, ground := Ground.data }, { on := 12, ground := Ground.chain }, { on := 10, ground := Ground.guard }], guard := some (10, false) }) rfl (fun K hK => ?_) AllReadyH.nil)
        go_simp
        go_at_call 20
        refine (HSAM.out _ hHeld sx cx HSX2.out).mono ?_
        rintro e x4 ⟨rfl, hbx⟩
        go_wp2_with fail
        refine hK.out _ _ (hHeld.trans (hbx.mono hHeld.size)) (fun hHeld2 => ?_)
        clear hK K hHeld
        have hHeld := hHeld2
        clear hHeld2
        clear hbx
        try simp only [Act.put, List.setIfInBounds_toArray, List.set_cons_zero, List.set_cons_succ]
        refine wpAnyH_take (i := 15) (oi := { dst := some 183, op := Op.unOp UnOp.not 4 (Operand.tmp 182), type := 4, pos := "outright.go:363", after := #[{ on := 14, ground := Ground.data }, { on := 10, ground := Ground.guard }], guard := some (10, false) }) (v := .bool false) rfl (by kernel_rfl) (by kernel_rfl) (by kernel_rfl) (fun _ _ _ h => h) (Or.inl ⟨by rfl, by intro w hS; go_simp⟩) hHeld ?_
        try simp only [Act.put, List.setIfInBounds_toArray, List.set_cons_zero, List.set_cons_succ]
        refine wpAnyH_take (i := 16) (oi := { dst := some 184, op := Op.pick (Operand.tmp 178) (Operand.const (Value.bool true)) (Operand.tmp 183), type := 4, pos := "outright.go:363", after := #[{ on := 10, ground := Ground.data }, { on := 15, ground := Ground.data }], guard := none }) (v := .bool false) rfl (by kernel_rfl) (by kernel_rfl) (by kernel_rfl) (fun _ _ _ h => h) (Or.inl ⟨by rfl, by intro w hS; go_simp⟩) hHeld ?_
        try simp only [Act.put, List.setIfInBounds_toArray, List.set_cons_zero, List.set_cons_succ]
        refine wpAnyH_take (i := 17) (oi := { dst := some 185, op := Op.move (Operand.tmp 184), type := 4, pos := "outright.go:363", after := #[{ on := 16, ground := Ground.data }, { on := 14, ground := Ground.chain }], guard := none }) (v := .bool false) rfl (by kernel_rfl) (by kernel_rfl) (by kernel_rfl) (fun _ _ _ h => h) (Or.inl ⟨by rfl, by intro w hS; go_simp⟩) hHeld ?_
        try simp only [Act.put, List.setIfInBounds_toArray, List.set_cons_zero, List.set_cons_succ]
        refine wpAnyH_take (i := 18) (oi := { dst := some 186, op := Op.move (Operand.tmp 13), type := 25, pos := "outright.go:363", after := #[{ on := 17, ground := Ground.guard }], guard := some (17, false) }) (v := .pointer (some ⟨p, 0, none⟩)) rfl (by kernel_rfl) (by kernel_rfl) (by kernel_rfl) (fun _ _ _ h => h) (Or.inl ⟨by rfl, by intro w hS; go_simp⟩) hHeld ?_
        try simp only [Act.put, List.setIfInBounds_toArray, List.set_cons_zero, List.set_cons_succ]
        refine wpAnyH_take (i := 22) (oi := { dst := some 190, op := Op.load 50 (Operand.tmp 25), type := 50, pos := "outright.go:363", after := #[{ on := 17, ground := Ground.guard }], guard := some (17, false) }) (v := .agg (cntC DX.reads DX.writes DX.syncs DX.ops.length)) rfl (by kernel_rfl) (by kernel_rfl) (by kernel_rfl) (fun _ _ _ h => h) (yieldsIf_load_mid (by rfl) 50 (.tmp 25) rfl GC 0 rfl (cntC DX.reads DX.writes DX.syncs DX.ops.length).toList _ (fun w1 hS => rng ((hS.block GC (hlt_ RCC.out)).trans RCC.out)) Try.underlying50 rfl (by rw [size_counts]; rfl)) hHeld ?_
        try simp only [Act.put, List.setIfInBounds_toArray, List.set_cons_zero, List.set_cons_succ]
        refine wpAnyH_take (i := 19) (oi := { dst := some 187, op := Op.nilCheck (Operand.tmp 186), type := 0, pos := "outright.go:363", after := #[{ on := 18, ground := Ground.data }, { on := 17, ground := Ground.guard }], guard := some (17, false) }) (v := .pointer (some ⟨p, 0, none⟩)) rfl (by kernel_rfl) (by kernel_rfl) (by kernel_rfl) (fun _ _ _ h => h) (Or.inl ⟨by rfl, by intro w hS; go_simp⟩) hHeld ?_
        try simp only [Act.put, List.setIfInBounds_toArray, List.set_cons_zero, List.set_cons_succ]
        refine wpAnyH_take (i := 20) (oi := { dst := some 188, op := Op.fieldAddr 57 (Operand.tmp 187) 0, type := 0, pos := "outright.go:363", after := #[{ on := 19, ground := Ground.data }, { on := 17, ground := Ground.guard }], guard := some (17, false) }) (v := .pointer (some ⟨p, 0, none⟩)) rfl (by kernel_rfl) (by kernel_rfl) (by kernel_rfl) (fun _ _ _ h => h) (Or.inl ⟨by rfl, by intro w hS; go_simp⟩) hHeld ?_
        try simp only [Act.put, List.setIfInBounds_toArray, List.set_cons_zero, List.set_cons_succ]
        refine wpAnyH_ready (rs := [21]) (by kernel_rfl) (by simp) ?_
        refine (AllReadyH.cons (o := { dst := some 189, op := Op.call { callee := Callee.value (Operand.func 16), args := #[Operand.tmp 188], argTypes := #[53] }, type := 50, pos := "outright.go:363", after := #[{ on := 20, ground := Ground.data }, { on := 17, ground := Ground.chain }, { on := 17, ground := Ground.guard }], guard := some (17, false) }) rfl (fun K hK => ?_) AllReadyH.nil)
        go_simp
        go_at_call 16
        refine (Counts_any _ base F p DX (HDC.out.below hHeld)).mono ?_
        rintro e x5 ⟨rfl, hbx⟩
        go_wp2_with fail
        refine hK.out _ _ (hHeld.trans (hbx.mono hHeld.size)) (fun hHeld2 => ?_)
        clear hK K hHeld
        have hHeld := hHeld2
        clear hHeld2
        clear hbx
        try simp only [Act.put, List.setIfInBounds_toArray, List.set_cons_zero, List.set_cons_succ]
        refine wpAnyH_take (i := 23) (oi := { dst := some 191, op := Op.binOp BinOp.neq 50 (Operand.tmp 189) (Operand.tmp 190) 50, type := 4, pos := "outright.go:363", after := #[{ on := 21, ground := Ground.data }, { on := 22, ground := Ground.data }, { on := 17, ground := Ground.guard }], guard := some (17, false) }) (v := .bool false) rfl (by kernel_rfl) (by kernel_rfl) (by kernel_rfl) (fun _ _ _ h => h) (Or.inl ⟨by rfl, by intro w hS; (have KQ := HQ2.out; have KG := guardN; go_simp)⟩) hHeld ?_
        try simp only [Act.put, List.setIfInBounds_toArray, List.set_cons_zero, List.set_cons_succ]
        refine wpAnyH_take (i := 24) (oi := { dst := some 192, op := Op.pick (Operand.tmp 185) (Operand.const (Value.bool true)) (Operand.tmp 191), type := 4, pos := "outright.go:363", after := #[{ on := 17, ground := Ground.data }, { on := 23, ground := Ground.data }], guard := none }) (v := .bool false) rfl (by kernel_rfl) (by kernel_rfl) (by kernel_rfl) (fun _ _ _ h => h) (Or.inl ⟨by rfl, by intro w hS; go_simp⟩) hHeld ?_
        try simp only [Act.put, List.setIfInBounds_toArray, List.set_cons_zero, List.set_cons_succ]
        refine wpAnyH_done (by kernel_rfl) ?_ _
        refine NoPanic.normal ?_
        go_wp2_with fail
        have HFG := hid (Forget_any _ base F p DX (HDC.out.below hHeld) g s nx ep (HKC.out.below hHeld))
        have HH35 := hid hHeld
        clear hHeld
        refine HFG.out.mono ?_
        rintro e wF ⟨rfl, hDF, hKF, hFF⟩
        have r9x := (HH35.out.block G9 (hlt_ R9C.out)).trans R9C.out
        have R9F := hid (hFF.keep r9x (fun e => by rcases List.mem_cons.1 e with q | q; exact ne_ty r9x (HKC.out.below HH35.out) (by decide) q; exact (HDC.out.below HH35.out).not_in r9x (by decide) (by decide) (by decide) q))
        have HKF := hid hKF
        have HDF := hid hDF
        have hbx5 : Below base w x5 := HBX.out.trans ((HBC.out.trans (HH35.out.mono HBC.out.size)).mono (Nat.le_trans BW.out HBX.out.size))
        have HBF := hid (hbx5.trans (hFF.below (fun k hk => by rcases List.mem_cons.1 hk with q | q; rw [q]; exact HBG.out; exact (HDC.out.lt k q).1) (Nat.le_trans BW.out hbx5.size)))
        have HLF := hid (fun (w' : World) (hb : Below wF.heap.size wF w') => (show Calls Try.prog 10 #[.pointer (some ⟨g, 0, none⟩)] w' fun e w2 => e = .returned (.int .i64 3) ∧ Below w'.heap.size w' w2 from by have := Live_any w' base F p DX (HDF.out.below hb) g s s.ma ep (HKF.out.below hb); rwa [HLX.out] at this))
        have HNE := hid (eqPtr g)
        clear r9x hDF hKF hFF hbx5 HFG HH35
        go_wp2
        refine wp_region_noPanic ?_
        refine wp_region_held_drew (S := fun w' => Below wF.heap.size wF w') (by kernel_rfl) (Below.refl _ _).drew (fun hHeld => ?_)
        refine wpAnyH_take (i := 0) (oi := { dst := some 195, op := Op.move (Operand.tmp 14), type := 26, pos := "outright.go:367", after := #[], guard := none }) (v := .pointer (some ⟨g, 0, none⟩)) rfl (by kernel_rfl) (by kernel_rfl) (by kernel_rfl) (fun _ _ _ h => h) (Or.inl ⟨by rfl, by intro w hS; go_simp⟩) hHeld ?_
        try simp only [Act.put, List.setIfInBounds_toArray, List.set_cons_zero, List.set_cons_succ]
        refine wpAnyH_take (i := 2) (oi := { dst := some 197, op := Op.fieldAddr 40 (Operand.tmp 19) 2, type := 0, pos := "outright.go:367", after := #[], guard := none }) (v := .pointer (some ⟨G9, 2, none⟩)) rfl (by kernel_rfl) (by kernel_rfl) (by kernel_rfl) (fun _ _ _ h => h) (Or.inl ⟨by rfl, by intro w hS; go_simp⟩) hHeld ?_
        try simp only [Act.put, List.setIfInBounds_toArray, List.set_cons_zero, List.set_cons_succ]
        refine wpAnyH_take (i := 3) (oi := { dst := some 198, op := Op.load 3 (Operand.tmp 197), type := 3, pos := "outright.go:367", after := #[{ on := 2, ground := Ground.data }], guard := none }) (v := .int .i64 s.ma) rfl (by kernel_rfl) (by kernel_rfl) (by kernel_rfl) (fun _ _ _ h => h) (Or.inl ⟨by rfl, by intro w hS; have hc := cell_sup2 ((hS.block G9 (hlt_ R9F.out)).trans R9F.out); go_simp⟩) hHeld ?_
        try simp only [Act.put, List.setIfInBounds_toArray, List.set_cons_zero, List.set_cons_succ]
        refine wpAnyH_ready (rs := [1]) (by kernel_rfl) (by simp) ?_
        refine (AllReadyH.cons (o := { dst := some 196, op := Op.call { callee := Callee.value (Operand.func 9), args := #[Operand.tmp 195], argTypes := #[26] }, type := 3, pos := "outright.go:367", after := #[{ on := 0, ground := Ground.data }], guard := none }) rfl (fun K hK => ?_) AllReadyH.nil)
        go_simp
        go_at_call 9
        refine (FNext_any _ g p s s.ma ep (HKF.out.below hHeld)).mono ?_
        rintro e y1 ⟨rfl, rfl⟩
        go_wp2_with fail
        refine hK.out _ _ (hHeld) (fun hHeld2 => ?_)
        clear hK K hHeld
        have hHeld := hHeld2
        clear hHeld2
        try simp only [Act.put, List.setIfInBounds_toArray, List.set_cons_zero, List.set_cons_succ]
        refine wpAnyH_take (i := 4) (oi := { dst := some 199, op := Op.binOp BinOp.neq 3 (Operand.tmp 196) (Operand.tmp 198) 3, type := 4, pos := "outright.go:367", after := #[{ on := 1, ground := Ground.data }, { on := 3, ground := Ground.data }], guard := none }) (v := .bool false) rfl (by kernel_rfl) (by kernel_rfl) (by kernel_rfl) (fun _ _ _ h => h) (Or.inl ⟨by rfl, by intro w hS; go_simp⟩) hHeld ?_
        try simp only [Act.put, List.setIfInBounds_toArray, List.set_cons_zero, List.set_cons_succ]
        refine wpAnyH_take (i := 5) (oi := { dst := some 200, op := Op.move (Operand.tmp 199), type := 4, pos := "outright.go:367", after := #[{ on := 4, ground := Ground.data }, { on := 1, ground := Ground.chain }], guard := none }) (v := .bool false) rfl (by kernel_rfl) (by kernel_rfl) (by kernel_rfl) (fun _ _ _ h => h) (Or.inl ⟨by rfl, by intro w hS; go_simp⟩) hHeld ?_
        try simp only [Act.put, List.setIfInBounds_toArray, List.set_cons_zero, List.set_cons_succ]
        refine wpAnyH_take (i := 6) (oi := { dst := some 201, op := Op.move (Operand.tmp 14), type := 26, pos := "outright.go:367", after := #[{ on := 5, ground := Ground.guard }], guard := some (5, false) }) (v := .pointer (some ⟨g, 0, none⟩)) rfl (by kernel_rfl) (by kernel_rfl) (by kernel_rfl) (fun _ _ _ h => h) (Or.inl ⟨by rfl, by intro w hS; go_simp⟩) hHeld ?_
        try simp only [Act.put, List.setIfInBounds_toArray, List.set_cons_zero, List.set_cons_succ]
        refine wpAnyH_ready (rs := [7]) (by kernel_rfl) (by simp) ?_
        refine (AllReadyH.cons (o := { dst := some 202, op := Op.call { callee := Callee.value (Operand.func 10), args := #[Operand.tmp 201], argTypes := #[26] }, type := 36, pos := "outright.go:367", after := #[{ on := 6, ground := Ground.data }, { on := 5, ground := Ground.chain }, { on := 5, ground := Ground.guard }], guard := some (5, false) }) rfl (fun K hK => ?_) AllReadyH.nil)
        go_simp
        go_at_call 10
        refine (HLF.out _ hHeld).mono ?_
        rintro e y2 ⟨rfl, hby⟩
        go_wp2_with fail
        refine hK.out _ _ (hHeld.trans (hby.mono hHeld.size)) (fun hHeld2 => ?_)
        clear hK K hHeld
        have hHeld := hHeld2
        clear hHeld2
        clear hby
        try simp only [Act.put, List.setIfInBounds_toArray, List.set_cons_zero, List.set_cons_succ]
        refine wpAnyH_take (i := 8) (oi := { dst := some 203, op := Op.binOp BinOp.neq 36 (Operand.tmp 202) (Operand.const (Value.int IntKind.i64 3)) 36, type := 4, pos := "outright.go:367", after := #[{ on := 7, ground := Ground.data }, { on := 5, ground := Ground.guard }], guard := some (5, false) }) (v := .bool false) rfl (by kernel_rfl) (by kernel_rfl) (by kernel_rfl) (fun _ _ _ h => h) (Or.inl ⟨by rfl, by intro w hS; go_simp⟩) hHeld ?_
        try simp only [Act.put, List.setIfInBounds_toArray, List.set_cons_zero, List.set_cons_succ]
        refine wpAnyH_take (i := 9) (oi := { dst := some 204, op := Op.pick (Operand.tmp 200) (Operand.const (Value.bool true)) (Operand.tmp 203), type := 4, pos := "outright.go:367", after := #[{ on := 5, ground := Ground.data }, { on := 8, ground := Ground.data }], guard := none }) (v := .bool false) rfl (by kernel_rfl) (by kernel_rfl) (by kernel_rfl) (fun _ _ _ h => h) (Or.inl ⟨by rfl, by intro w hS; go_simp⟩) hHeld ?_
        try simp only [Act.put, List.setIfInBounds_toArray, List.set_cons_zero, List.set_cons_succ]
        refine wpAnyH_done (by kernel_rfl) ?_ _
        refine NoPanic.normal ?_
        have HHF := hid hHeld
        clear hHeld
        go_wp2
        refine wp_region_noPanic ?_
        refine wp_region_held_drew (S := fun w' => Below wF.heap.size wF w') (by kernel_rfl) HHF.out.drew (fun hHeld => ?_)
        refine wpAnyH_take (i := 0) (oi := { dst := some 205, op := Op.move (Operand.tmp 21), type := 26, pos := "outright.go:370", after := #[], guard := none }) (v := .pointer (some ⟨g, 0, none⟩)) rfl (by kernel_rfl) (by kernel_rfl) (by kernel_rfl) (fun _ _ _ h => h) (Or.inl ⟨by rfl, by intro w hS; go_simp⟩) hHeld ?_
        try simp only [Act.put, List.setIfInBounds_toArray, List.set_cons_zero, List.set_cons_succ]
        refine wpAnyH_take (i := 1) (oi := { dst := some 206, op := Op.move (Operand.tmp 14), type := 26, pos := "outright.go:370", after := #[], guard := none }) (v := .pointer (some ⟨g, 0, none⟩)) rfl (by kernel_rfl) (by kernel_rfl) (by kernel_rfl) (fun _ _ _ h => h) (Or.inl ⟨by rfl, by intro w hS; go_simp⟩) hHeld ?_
        try simp only [Act.put, List.setIfInBounds_toArray, List.set_cons_zero, List.set_cons_succ]
        refine wpAnyH_take (i := 2) (oi := { dst := some 207, op := Op.binOp BinOp.eql 26 (Operand.tmp 205) (Operand.tmp 206) 26, type := 4, pos := "outright.go:370", after := #[{ on := 0, ground := Ground.data }, { on := 1, ground := Ground.data }], guard := none }) (v := .bool true) rfl (by kernel_rfl) (by kernel_rfl) (by kernel_rfl) (fun _ _ _ h => h) (Or.inl ⟨by rfl, by intro w hS; (have NEQ := HNE.out; go_simp)⟩) hHeld ?_
        try simp only [Act.put, List.setIfInBounds_toArray, List.set_cons_zero, List.set_cons_succ]
        refine wpAnyH_take (i := 3) (oi := { dst := some 208, op := Op.move (Operand.tmp 207), type := 4, pos := "outright.go:370", after := #[{ on := 2, ground := Ground.data }], guard := none }) (v := .bool true) rfl (by kernel_rfl) (by kernel_rfl) (by kernel_rfl) (fun _ _ _ h => h) (Or.inl ⟨by rfl, by intro w hS; go_simp⟩) hHeld ?_
        try simp only [Act.put, List.setIfInBounds_toArray, List.set_cons_zero, List.set_cons_succ]
        refine wpAnyH_take (i := 4) (oi := { dst := some 209, op := Op.move (Operand.tmp 21), type := 26, pos := "outright.go:370", after := #[{ on := 3, ground := Ground.guard }], guard := some (3, false) }) (v := undef) rfl (by kernel_rfl) (by kernel_rfl) (by kernel_rfl) (fun _ _ _ h => h) (Or.inr ⟨by rfl, rfl⟩) hHeld ?_
        try simp only [Act.put, List.setIfInBounds_toArray, List.set_cons_zero, List.set_cons_succ]
        refine wpAnyH_take (i := 5) (oi := { dst := some 210, op := Op.call { callee := Callee.value (Operand.func 10), args := #[Operand.tmp 209], argTypes := #[26] }, type := 36, pos := "outright.go:370", after := #[{ on := 4, ground := Ground.data }, { on := 3, ground := Ground.chain }, { on := 3, ground := Ground.guard }], guard := some (3, false) }) (v := undef) rfl (by kernel_rfl) (by kernel_rfl) (by kernel_rfl) (fun _ _ _ h => h) (Or.inr ⟨by rfl, rfl⟩) hHeld ?_
        try simp only [Act.put, List.setIfInBounds_toArray, List.set_cons_zero, List.set_cons_succ]
        refine wpAnyH_take (i := 6) (oi := { dst := some 211, op := Op.binOp BinOp.eql 36 (Operand.tmp 210) (Operand.const (Value.int IntKind.i64 0)) 36, type := 4, pos := "outright.go:370", after := #[{ on := 5, ground := Ground.data }, { on := 3, ground := Ground.guard }], guard := some (3, false) }) (v := undef) rfl (by kernel_rfl) (by kernel_rfl) (by kernel_rfl) (fun _ _ _ h => h) (Or.inr ⟨by rfl, rfl⟩) hHeld ?_
        try simp only [Act.put, List.setIfInBounds_toArray, List.set_cons_zero, List.set_cons_succ]
        refine wpAnyH_take (i := 7) (oi := { dst := some 212, op := Op.move (Operand.tmp 211), type := 4, pos := "outright.go:370", after := #[{ on := 6, ground := Ground.data }, { on := 5, ground := Ground.chain }, { on := 3, ground := Ground.guard }], guard := some (3, false) }) (v := undef) rfl (by kernel_rfl) (by kernel_rfl) (by kernel_rfl) (fun _ _ _ h => h) (Or.inr ⟨by rfl, rfl⟩) hHeld ?_
        try simp only [Act.put, List.setIfInBounds_toArray, List.set_cons_zero, List.set_cons_succ]
        refine wpAnyH_take (i := 8) (oi := { dst := some 213, op := Op.move (Operand.tmp 21), type := 26, pos := "outright.go:370", after := #[{ on := 7, ground := Ground.guard }], guard := some (7, true) }) (v := undef) rfl (by kernel_rfl) (by kernel_rfl) (by kernel_rfl) (fun _ _ _ h => h) (Or.inr ⟨by rfl, rfl⟩) hHeld ?_
        try simp only [Act.put, List.setIfInBounds_toArray, List.set_cons_zero, List.set_cons_succ]
        refine wpAnyH_take (i := 10) (oi := { dst := some 215, op := Op.fieldAddr 40 (Operand.tmp 19) 2, type := 0, pos := "outright.go:370", after := #[{ on := 7, ground := Ground.guard }], guard := some (7, true) }) (v := undef) rfl (by kernel_rfl) (by kernel_rfl) (by kernel_rfl) (fun _ _ _ h => h) (Or.inr ⟨by rfl, rfl⟩) hHeld ?_
        try simp only [Act.put, List.setIfInBounds_toArray, List.set_cons_zero, List.set_cons_succ]
        refine wpAnyH_take (i := 9) (oi := { dst := some 214, op := Op.call { callee := Callee.value (Operand.func 9), args := #[Operand.tmp 213], argTypes := #[26] }, type := 3, pos := "outright.go:370", after := #[{ on := 8, ground := Ground.data }, { on := 7, ground := Ground.chain }, { on := 7, ground := Ground.guard }], guard := some (7, true) }) (v := undef) rfl (by kernel_rfl) (by kernel_rfl) (by kernel_rfl) (fun _ _ _ h => h) (Or.inr ⟨by rfl, rfl⟩) hHeld ?_
        try simp only [Act.put, List.setIfInBounds_toArray, List.set_cons_zero, List.set_cons_succ]
        refine wpAnyH_take (i := 11) (oi := { dst := some 216, op := Op.load 3 (Operand.tmp 215), type := 3, pos := "outright.go:370", after := #[{ on := 10, ground := Ground.data }, { on := 7, ground := Ground.guard }], guard := some (7, true) }) (v := undef) rfl (by kernel_rfl) (by kernel_rfl) (by kernel_rfl) (fun _ _ _ h => h) (Or.inr ⟨by rfl, rfl⟩) hHeld ?_
        try simp only [Act.put, List.setIfInBounds_toArray, List.set_cons_zero, List.set_cons_succ]
        refine wpAnyH_take (i := 12) (oi := { dst := some 217, op := Op.binOp BinOp.eql 3 (Operand.tmp 214) (Operand.tmp 216) 3, type := 4, pos := "outright.go:370", after := #[{ on := 9, ground := Ground.data }, { on := 11, ground := Ground.data }, { on := 7, ground := Ground.guard }], guard := some (7, true) }) (v := undef) rfl (by kernel_rfl) (by kernel_rfl) (by kernel_rfl) (fun _ _ _ h => h) (Or.inr ⟨by rfl, rfl⟩) hHeld ?_
        try simp only [Act.put, List.setIfInBounds_toArray, List.set_cons_zero, List.set_cons_succ]
        refine wpAnyH_take (i := 13) (oi := { dst := some 218, op := Op.pick (Operand.tmp 212) (Operand.tmp 217) (Operand.const (Value.bool false)), type := 4, pos := "outright.go:370", after := #[{ on := 7, ground := Ground.data }, { on := 12, ground := Ground.data }, { on := 3, ground := Ground.guard }], guard := some (3, false) }) (v := undef) rfl (by kernel_rfl) (by kernel_rfl) (by kernel_rfl) (fun _ _ _ h => h) (Or.inr ⟨by rfl, rfl⟩) hHeld ?_
        try simp only [Act.put, List.setIfInBounds_toArray, List.set_cons_zero, List.set_cons_succ]
        refine wpAnyH_take (i := 14) (oi := { dst := some 219, op := Op.pick (Operand.tmp 208) (Operand.const (Value.bool true)) (Operand.tmp 218), type := 4, pos := "outright.go:370", after := #[{ on := 3, ground := Ground.data }, { on := 13, ground := Ground.data }], guard := none }) (v := .bool true) rfl (by kernel_rfl) (by kernel_rfl) (by kernel_rfl) (fun _ _ _ h => h) (Or.inl ⟨by rfl, by intro w hS; go_simp⟩) hHeld ?_
        try simp only [Act.put, List.setIfInBounds_toArray, List.set_cons_zero, List.set_cons_succ]
        refine wpAnyH_take (i := 15) (oi := { dst := some 12, op := Op.assign (Operand.tmp 219), type := 4, pos := "outright.go:370", after := #[{ on := 14, ground := Ground.data }, { on := 9, ground := Ground.chain }, { on := 0, ground := Ground.phase }, { on := 1, ground := Ground.phase }, { on := 2, ground := Ground.phase }, { on := 3, ground := Ground.phase }, { on := 4, ground := Ground.phase }, { on := 5, ground := Ground.phase }, { on := 6, ground := Ground.phase }, { on := 7, ground := Ground.phase }, { on := 8, ground := Ground.phase }, { on := 9, ground := Ground.phase }, { on := 10, ground := Ground.phase }, { on := 11, ground := Ground.phase }, { on := 12, ground := Ground.phase }, { on := 13, ground := Ground.phase }, { on := 14, ground := Ground.phase }], guard := none }) (v := .bool true) rfl (by kernel_rfl) (by kernel_rfl) (by kernel_rfl) (fun _ _ _ h => h) (Or.inl ⟨by rfl, by intro w hS; go_simp⟩) hHeld ?_
        try simp only [Act.put, List.setIfInBounds_toArray, List.set_cons_zero, List.set_cons_succ]
        refine wpAnyH_done (by kernel_rfl) ?_ _
        refine NoPanic.normal ?_
        go_wp2
        go_ret
        exact ⟨rfl, HBF.out.trans (hHeld.mono (Nat.le_trans BW.out HBF.out.size))⟩
      · go_wp2_with (first
          | (go_at_call 8; refine HSU.out.mono ?_; rintro e w3 ⟨rfl, hb3⟩; have HB3 := hid hb3; clear hb3)
          | (refine wpList_store_row (by rfl) 40 (.tmp 19) (.tmp 76) (by rfl) w3.heap.size (supC s) (by rfl) (by rfl) 40 _ (by exact hnew _ _) (supN s) (supZ s) (supO s) ?_; rw [setRow_alloc]; have r9 := hnew w3 (.cells (supC s) 40); have b4 := below_new w3 (.cells (supC s) 40); generalize hw4 : w3.alloc (.cells (supC s) 40) = w4 at *; generalize hG9 : w3.heap.size = G9 at *; have hb4 : Below wr.heap.size wr w4 := HB3.out.trans ((hG9 ▸ b4 : Below w3.heap.size w3 w4).mono HB3.out.size); have HS4 := hid (HS.out.below hb4); have R9 := hid r9; have HNX := hid (FNext_any w4 g p s nx ep HS4.out.fk); have HLI := hid (Live_any w4 base F p D HS4.out.da g s nx ep HS4.out.fk); rw [HS4.out.lv.live] at HLI; clear r9 b4 hb4 hw4)
          | (go_at_call 9; refine HNX.out.mono ?_; rintro e w5 ⟨rfl, rfl⟩)
          | (go_at_call 10; refine HLI.out.mono ?_; rintro e w5 ⟨rfl, hb5⟩; have HB5 := hid hb5; clear hb5)
          | (go_at_call 11; refine (HPL.out w5).mono ?_; rintro e w6 ⟨rfl, rfl⟩))
        have HCL := hid (Claim_same w5 base F p D (HS4.out.da.below HB5.out) (by have := HS4.out.lv.cnt; omega))
        refine HCL.out.mono ?_
        rintro e w6 ⟨rfl, hD6, hF6⟩
        have HDX := hid hD6
        have HKX := hid ((HS4.out.fk.below HB5.out).other (HS4.out.da.below HB5.out) hF6)
        have HLX := hid (show liveF ({ D with epoch := D.epoch + 1 } : DS) ep = 3 from by unfold liveF; rw [if_pos (show D.epoch + 1 ≠ ep by rw [HS4.out.lv.hep]; omega)])
        have HNPX := hid (show ({ D with epoch := D.epoch + 1 } : DS).np = n from HS4.out.lv.np)
        have r95 := (HB5.out.block G9 (hlt_ R9.out)).trans R9.out
        have R9X := hid (hF6.keep r95 ((HS4.out.da.below HB5.out).not_in r95 (by decide) (by decide) (by decide)))
        have HBX := hid (Fr.go (HS4.out.da.below HB5.out) (HS4.out.bl.trans (HB5.out.mono (Nat.le_trans BW.out HS4.out.bl.size))) BW.out hF6)
        have HBG := hid HS4.out.bg
        clear hD6 hF6 r95 HCL HNX HLI HB5 HPL HSU HB3 R9 HS HS4 HAR
        generalize ({ D with epoch := D.epoch + 1 } : DS) = DX at *
        have HIM := hid (Image_any w6 base F p DX HDX.out)
        have HCO := hid (fun (w' : World) (hb : Below w6.heap.size w6 w') => Counts_any w' base F p DX (HDX.out.below hb))
        have HAPP := hid (fun (w' : World) (hb : Below w6.heap.size w6 w') => Append_dead w' base F p DX (HDX.out.below hb) g s nx ep (HKX.out.below hb) 3 HLX.out (by decide) qn sq l.length caq)
        have HRDD := hid (fun (w' : World) (hb : Below w6.heap.size w6 w') => FRead_dead w' base F p DX (HDX.out.below hb) g s nx ep (HKX.out.below hb) 3 HLX.out (by decide) qn)
        have HPBD := hid (fun (w' : World) (hb : Below w6.heap.size w6 w') => Publish_dead w' base F p DX (HDX.out.below hb) g s nx ep (HKX.out.below hb) 3 HLX.out (by decide) qn)
        have HLVD := hid (fun (w' : World) (hb : Below w6.heap.size w6 w') => (show Calls Try.prog 10 #[.pointer (some ⟨g, 0, none⟩)] w' fun e w2 => e = .returned (.int .i64 3) ∧ Below w'.heap.size w' w2 from by have := Live_any w' base F p DX (HDX.out.below hb) g s nx ep (HKX.out.below hb); rwa [HLX.out] at this))
        have HLEN := hid (show DX.img.length = 256 * n by rw [HDX.out.ok.np.2.2.1]; rw [HNPX.out])
        have HNP3 := hid (show 3 ≤ n by have := HDX.out.ok.np; rw [HNPX.out] at this; omega)
        go_wp2_with (first
          | (go_at_call 15; refine HIM.out.mono ?_; rintro e w7 ⟨vi, rfl, hOi, hb7⟩; obtain ⟨ib, ic, irest, hvi, hib, hir, hic, him, hio⟩ := own_in hOi (by rw [HLEN.out]; have := HNP3.out; omega); subst hvi; obtain ⟨si, ci, hvi2, hsi, _⟩ := hOi.form; simp only [Value.slice.injEq] at hvi2; obtain ⟨rfl, _, rfl⟩ := hvi2; have HB7 := hid hb7; have HSI := hid hsi; clear hOi hib hir hic him hio hsi hb7)
          | (go_at_call 16; refine (HCO.out w7 HB7.out).mono ?_; rintro e w8 ⟨rfl, hb8⟩; have HB8 := hid (HB7.out.trans (hb8.mono HB7.out.size)); have HS8 := hid (HSI.out.below hb8 (Nat.le_refl _)); clear hb8)
          | (refine wpList_store_row (by rfl) 50 (.tmp 25) (.tmp 122) (by rfl) w8.heap.size (cntC DX.reads DX.writes DX.syncs DX.ops.length) (by rfl) (by rfl) 50 _ (by exact hnew _ _) (by rw [size_counts]; rfl) (by rfl) (by simp [cntC, Value.oneCell']) ?_; rw [setRow_alloc]; have rC := hnew w8 (.cells (cntC DX.reads DX.writes DX.syncs DX.ops.length) 50); have bC := below_new w8 (.cells (cntC DX.reads DX.writes DX.syncs DX.ops.length) 50); generalize hw9 : w8.alloc (.cells (cntC DX.reads DX.writes DX.syncs DX.ops.length) 50) = w9 at *; generalize hGC : w8.heap.size = GC at *; have HB9 := hid (HB8.out.trans ((hGC ▸ bC : Below w8.heap.size w8 w9).mono HB8.out.size)); have HS9 := hid (HS8.out.below (hGC ▸ bC : Below w8.heap.size w8 w9) (Nat.le_refl _)); have RC := hid rC; clear rC bC hw9)
          | (go_at_call 17; refine (HAPP.out w9 HB9.out).mono ?_; rintro e w10 ⟨rfl, hb10⟩; have HC10 := hid hb10; have HB10 := hid (HB9.out.trans (hb10.mono HB9.out.size)); clear hb10)
          | (go_at_call 18; refine (HRDD.out w10 HB10.out).mono ?_; rintro e w11 ⟨rfl, hb11⟩; have HC11 := hid (HC10.out.trans (hb11.mono HC10.out.size)); have HB11 := hid (HB10.out.trans (hb11.mono HB10.out.size)); clear hb11)
          | (go_at_call 19; refine (HPBD.out w11 HB11.out).mono ?_; rintro e w12 ⟨rfl, hb12⟩; have HC12 := hid (HC11.out.trans (hb12.mono HC11.out.size)); have HB12 := hid (HB11.out.trans (hb12.mono HB11.out.size)); clear hb12)
          | (go_at_call 10; refine (HLVD.out w12 HB12.out).mono ?_; rintro e WC ⟨rfl, hb13⟩; have HCC := hid (HC12.out.trans (hb13.mono HC12.out.size)); have HBC := hid (HB12.out.trans (hb13.mono HB12.out.size)); clear hb13))
        have HDC := hid (HDX.out.below HBC.out)
        have HKC := hid (HKX.out.below HBC.out)
        have R9C := hid ((HBC.out.block G9 (hlt_ R9X.out)).trans R9X.out)
        have RCC := hid ((HCC.out.block GC (hlt_ RC.out)).trans RC.out)
        have HSC := hid (HS9.out.below HCC.out (Nat.le_refl _))
        have HQ := hid (show ∀ w : World, (Op.equalIn 10000 40 (.agg (supC s)) (.agg (supC s))).run Try.prog w = .ok true w from fun w => by have := eqSup s s w; rwa [show decide (s = s) = true from decide_eq_true rfl] at this)
        have HQ2 := hid (show ∀ w : World, (Op.equalIn 10000 50 (.agg #[.int .i64 DX.reads, .int .i64 DX.writes, .int .i64 DX.syncs, .int .i64 DX.ops.length]) (.agg (cntC DX.reads DX.writes DX.syncs DX.ops.length))).run Try.prog w = .ok true w from eqCnt DX.reads DX.writes DX.syncs DX.ops.length)
        have HSAM := hid (fun (w' : World) (hb : Below WC.heap.size WC w') (sx : Option Addr) (cx : Nat) (hsx : Src w' sx cx DX.img) => (show Calls Try.prog 20 #[.slice sx DX.img.length cx, .slice (some ⟨ib, 0, none⟩) DX.img.length ic] w' fun e w2 => e = .returned (.bool true) ∧ Below w'.heap.size w' w2 from by
          have := same_any w' DX.img DX.img sx (some ⟨ib, 0, none⟩) cx ic hsx (HSC.out.below hb (Nat.le_refl _))
          rwa [show decide (DX.img = DX.img) = true from decide_eq_true rfl] at this))
        clear HIM HCO HAPP HRDD HPBD HLVD HB7 HB8 HS8 HB9 HS9 HSI HC10 HB10 HC11 HB11 HC12 HB12 RC
        refine wp_region_noPanic ?_
        refine wp_region_held_drew (S := fun w' => Below WC.heap.size WC w') (by kernel_rfl) (Below.refl _ _).drew (fun hHeld => ?_)
        refine wpAnyH_take (i := 0) (oi := { dst := some 168, op := Op.move (Operand.tmp 14), type := 26, pos := "outright.go:363", after := #[], guard := none }) (v := .pointer (some ⟨g, 0, none⟩)) rfl (by kernel_rfl) (by kernel_rfl) (by kernel_rfl) (fun _ _ _ h => h) (Or.inl ⟨by rfl, by intro w hS; go_simp⟩) hHeld ?_
        try simp only [Act.put, List.setIfInBounds_toArray, List.set_cons_zero, List.set_cons_succ]
        refine wpAnyH_take (i := 2) (oi := { dst := some 170, op := Op.load 40 (Operand.tmp 19), type := 40, pos := "outright.go:363", after := #[], guard := none }) (v := .agg (supC s)) rfl (by kernel_rfl) (by kernel_rfl) (by kernel_rfl) (fun _ _ _ h => h) (yieldsIf_load_sup (by rfl) (.tmp 19) rfl G9 rfl s (fun w1 hS => (hS.block G9 (hlt_ R9C.out)).trans R9C.out)) hHeld ?_
        try simp only [Act.put, List.setIfInBounds_toArray, List.set_cons_zero, List.set_cons_succ]
        refine wpAnyH_ready (rs := [1]) (by kernel_rfl) (by simp) ?_
        refine (AllReadyH.cons (o := { dst := some 169, op := Op.call { callee := Callee.value (Operand.func 8), args := #[Operand.tmp 168], argTypes := #[26] }, type := 40, pos := "outright.go:363", after := #[{ on := 0, ground := Ground.data }], guard := none }) rfl (fun K hK => ?_) AllReadyH.nil)
        go_simp
        go_at_call 8
        refine (FSuper_any _ g p s nx ep (HKC.out.below hHeld)).mono ?_
        rintro e x1 ⟨rfl, hbx⟩
        go_wp2_with fail
        refine hK.out _ _ (hHeld.trans (hbx.mono hHeld.size)) (fun hHeld2 => ?_)
        clear hK K hHeld
        have hHeld := hHeld2
        clear hHeld2
        clear hbx
        try simp only [Act.put, List.setIfInBounds_toArray, List.set_cons_zero, List.set_cons_succ]
        refine wpAnyH_take (i := 3) (oi := { dst := some 171, op := Op.binOp BinOp.neq 40 (Operand.tmp 169) (Operand.tmp 170) 40, type := 4, pos := "outright.go:363", after := #[{ on := 1, ground := Ground.data }, { on := 2, ground := Ground.data }], guard := none }) (v := .bool false) rfl (by kernel_rfl) (by kernel_rfl) (by kernel_rfl) (fun _ _ _ h => h) (Or.inl ⟨by rfl, by intro w hS; (have KQ := HQ.out; have KG := guardU; go_simp)⟩) hHeld ?_
        try simp only [Act.put, List.setIfInBounds_toArray, List.set_cons_zero, List.set_cons_succ]
        refine wpAnyH_take (i := 4) (oi := { dst := some 172, op := Op.move (Operand.tmp 171), type := 4, pos := "outright.go:363", after := #[{ on := 3, ground := Ground.data }, { on := 1, ground := Ground.chain }], guard := none }) (v := .bool false) rfl (by kernel_rfl) (by kernel_rfl) (by kernel_rfl) (fun _ _ _ h => h) (Or.inl ⟨by rfl, by intro w hS; go_simp⟩) hHeld ?_
        try simp only [Act.put, List.setIfInBounds_toArray, List.set_cons_zero, List.set_cons_succ]
        refine wpAnyH_take (i := 5) (oi := { dst := some 173, op := Op.move (Operand.tmp 14), type := 26, pos := "outright.go:363", after := #[{ on := 4, ground := Ground.guard }], guard := some (4, false) }) (v := .pointer (some ⟨g, 0, none⟩)) rfl (by kernel_rfl) (by kernel_rfl) (by kernel_rfl) (fun _ _ _ h => h) (Or.inl ⟨by rfl, by intro w hS; go_simp⟩) hHeld ?_
        try simp only [Act.put, List.setIfInBounds_toArray, List.set_cons_zero, List.set_cons_succ]
        refine wpAnyH_take (i := 7) (oi := { dst := some 175, op := Op.move (Operand.tmp 20), type := 3, pos := "outright.go:363", after := #[{ on := 4, ground := Ground.guard }], guard := some (4, false) }) (v := .int .i64 (nx : Int)) rfl (by kernel_rfl) (by kernel_rfl) (by kernel_rfl) (fun _ _ _ h => h) (Or.inl ⟨by rfl, by intro w hS; go_simp⟩) hHeld ?_
        try simp only [Act.put, List.setIfInBounds_toArray, List.set_cons_zero, List.set_cons_succ]
        refine wpAnyH_ready (rs := [6]) (by kernel_rfl) (by simp) ?_
        refine (AllReadyH.cons (o := { dst := some 174, op := Op.call { callee := Callee.value (Operand.func 9), args := #[Operand.tmp 173], argTypes := #[26] }, type := 3, pos := "outright.go:363", after := #[{ on := 5, ground := Ground.data }, { on := 4, ground := Ground.chain }, { on := 4, ground := Ground.guard }], guard := some (4, false) }) rfl (fun K hK => ?_) AllReadyH.nil)
        go_simp
        go_at_call 9
        refine (FNext_any _ g p s nx ep (HKC.out.below hHeld)).mono ?_
        rintro e x2 ⟨rfl, rfl⟩
        go_wp2_with fail
        refine hK.out _ _ (hHeld) (fun hHeld2 => ?_)
        clear hK K hHeld
        have hHeld := hHeld2
        clear hHeld2
        try simp only [Act.put, List.setIfInBounds_toArray, List.set_cons_zero, List.set_cons_succ]
        refine wpAnyH_take (i := 8) (oi := { dst := some 176, op := Op.binOp BinOp.neq 3 (Operand.tmp 174) (Operand.tmp 175) 3, type := 4, pos := "outright.go:363", after := #[{ on := 6, ground := Ground.data }, { on := 7, ground := Ground.data }, { on := 4, ground := Ground.guard }], guard := some (4, false) }) (v := .bool false) rfl (by kernel_rfl) (by kernel_rfl) (by kernel_rfl) (fun _ _ _ h => h) (Or.inl ⟨by rfl, by intro w hS; go_simp⟩) hHeld ?_
        try simp only [Act.put, List.setIfInBounds_toArray, List.set_cons_zero, List.set_cons_succ]
        refine wpAnyH_take (i := 9) (oi := { dst := some 177, op := Op.pick (Operand.tmp 172) (Operand.const (Value.bool true)) (Operand.tmp 176), type := 4, pos := "outright.go:363", after := #[{ on := 4, ground := Ground.data }, { on := 8, ground := Ground.data }], guard := none }) (v := .bool false) rfl (by kernel_rfl) (by kernel_rfl) (by kernel_rfl) (fun _ _ _ h => h) (Or.inl ⟨by rfl, by intro w hS; go_simp⟩) hHeld ?_
        try simp only [Act.put, List.setIfInBounds_toArray, List.set_cons_zero, List.set_cons_succ]
        refine wpAnyH_take (i := 10) (oi := { dst := some 178, op := Op.move (Operand.tmp 177), type := 4, pos := "outright.go:363", after := #[{ on := 9, ground := Ground.data }, { on := 6, ground := Ground.chain }], guard := none }) (v := .bool false) rfl (by kernel_rfl) (by kernel_rfl) (by kernel_rfl) (fun _ _ _ h => h) (Or.inl ⟨by rfl, by intro w hS; go_simp⟩) hHeld ?_
        try simp only [Act.put, List.setIfInBounds_toArray, List.set_cons_zero, List.set_cons_succ]
        refine wpAnyH_take (i := 11) (oi := { dst := some 179, op := Op.move (Operand.tmp 13), type := 25, pos := "outright.go:363", after := #[{ on := 10, ground := Ground.guard }], guard := some (10, false) }) (v := .pointer (some ⟨p, 0, none⟩)) rfl (by kernel_rfl) (by kernel_rfl) (by kernel_rfl) (fun _ _ _ h => h) (Or.inl ⟨by rfl, by intro w hS; go_simp⟩) hHeld ?_
        try simp only [Act.put, List.setIfInBounds_toArray, List.set_cons_zero, List.set_cons_succ]
        refine wpAnyH_take (i := 13) (oi := { dst := some 181, op := Op.move (Operand.tmp 24), type := 23, pos := "outright.go:363", after := #[{ on := 10, ground := Ground.guard }], guard := some (10, false) }) (v := .slice (some ⟨ib, 0, none⟩) DX.img.length ic) rfl (by kernel_rfl) (by kernel_rfl) (by kernel_rfl) (fun _ _ _ h => h) (Or.inl ⟨by rfl, by intro w hS; go_simp⟩) hHeld ?_
        try simp only [Act.put, List.setIfInBounds_toArray, List.set_cons_zero, List.set_cons_succ]
        refine wpAnyH_ready (rs := [12]) (by kernel_rfl) (by simp) ?_
        refine (AllReadyH.cons (o := { dst := some 180, op := Op.call { callee := Callee.value (Operand.func 15), args := #[Operand.tmp 179], argTypes := #[25] }, type := 23, pos := "outright.go:363", after := #[{ on := 11, ground := Ground.data }, { on := 10, ground := Ground.chain }, { on := 10, ground := Ground.guard }], guard := some (10, false) }) rfl (fun K hK => ?_) AllReadyH.nil)
        go_simp
        go_at_call 15
        refine (Image_any _ base F p DX (HDC.out.below hHeld)).mono ?_
        rintro e x3 ⟨vx, rfl, hOx, hbx⟩
        obtain ⟨sx, cx, hvx, hsx, _⟩ := hOx.form
        subst hvx
        have HSX2 := hid hsx
        clear hOx hsx
        go_wp2_with fail
        refine hK.out _ _ (hHeld.trans (hbx.mono hHeld.size)) (fun hHeld2 => ?_)
        clear hK K hHeld
        have hHeld := hHeld2
        clear hHeld2
        clear hbx
        try simp only [Act.put, List.setIfInBounds_toArray, List.set_cons_zero, List.set_cons_succ]
        refine wpAnyH_ready (rs := [14]) (by kernel_rfl) (by simp) ?_
        refine (AllReadyH.cons (o := { dst := some 182, op := Op.call { callee := Callee.value (Operand.func 20), args := #[Operand.tmp 180, Operand.tmp 181], argTypes := #[23, 23] }, type := 4, pos := "outright.go:363", after := #[{ on := 12, ground := Ground.data }, { on := 13, ground := Ground.data }, { on := 12, ground := Ground.chain }, { on := 10, ground := Ground.guard }], guard := some (10, false) }) rfl (fun K hK => ?_) AllReadyH.nil)
        go_simp
        go_at_call 20
        refine (HSAM.out _ hHeld sx cx HSX2.out).mono ?_
        rintro e x4 ⟨rfl, hbx⟩
        go_wp2_with fail
        refine hK.out _ _ (hHeld.trans (hbx.mono hHeld.size)) (fun hHeld2 => ?_)
        clear hK K hHeld
        have hHeld := hHeld2
        clear hHeld2
        clear hbx
        try simp only [Act.put, List.setIfInBounds_toArray, List.set_cons_zero, List.set_cons_succ]
        refine wpAnyH_take (i := 15) (oi := { dst := some 183, op := Op.unOp UnOp.not 4 (Operand.tmp 182), type := 4, pos := "outright.go:363", after := #[{ on := 14, ground := Ground.data }, { on := 10, ground := Ground.guard }], guard := some (10, false) }) (v := .bool false) rfl (by kernel_rfl) (by kernel_rfl) (by kernel_rfl) (fun _ _ _ h => h) (Or.inl ⟨by rfl, by intro w hS; go_simp⟩) hHeld ?_
        try simp only [Act.put, List.setIfInBounds_toArray, List.set_cons_zero, List.set_cons_succ]
        refine wpAnyH_take (i := 16) (oi := { dst := some 184, op := Op.pick (Operand.tmp 178) (Operand.const (Value.bool true)) (Operand.tmp 183), type := 4, pos := "outright.go:363", after := #[{ on := 10, ground := Ground.data }, { on := 15, ground := Ground.data }], guard := none }) (v := .bool false) rfl (by kernel_rfl) (by kernel_rfl) (by kernel_rfl) (fun _ _ _ h => h) (Or.inl ⟨by rfl, by intro w hS; go_simp⟩) hHeld ?_
        try simp only [Act.put, List.setIfInBounds_toArray, List.set_cons_zero, List.set_cons_succ]
        refine wpAnyH_take (i := 17) (oi := { dst := some 185, op := Op.move (Operand.tmp 184), type := 4, pos := "outright.go:363", after := #[{ on := 16, ground := Ground.data }, { on := 14, ground := Ground.chain }], guard := none }) (v := .bool false) rfl (by kernel_rfl) (by kernel_rfl) (by kernel_rfl) (fun _ _ _ h => h) (Or.inl ⟨by rfl, by intro w hS; go_simp⟩) hHeld ?_
        try simp only [Act.put, List.setIfInBounds_toArray, List.set_cons_zero, List.set_cons_succ]
        refine wpAnyH_take (i := 18) (oi := { dst := some 186, op := Op.move (Operand.tmp 13), type := 25, pos := "outright.go:363", after := #[{ on := 17, ground := Ground.guard }], guard := some (17, false) }) (v := .pointer (some ⟨p, 0, none⟩)) rfl (by kernel_rfl) (by kernel_rfl) (by kernel_rfl) (fun _ _ _ h => h) (Or.inl ⟨by rfl, by intro w hS; go_simp⟩) hHeld ?_
        try simp only [Act.put, List.setIfInBounds_toArray, List.set_cons_zero, List.set_cons_succ]
        refine wpAnyH_take (i := 22) (oi := { dst := some 190, op := Op.load 50 (Operand.tmp 25), type := 50, pos := "outright.go:363", after := #[{ on := 17, ground := Ground.guard }], guard := some (17, false) }) (v := .agg (cntC DX.reads DX.writes DX.syncs DX.ops.length)) rfl (by kernel_rfl) (by kernel_rfl) (by kernel_rfl) (fun _ _ _ h => h) (yieldsIf_load_mid (by rfl) 50 (.tmp 25) rfl GC 0 rfl (cntC DX.reads DX.writes DX.syncs DX.ops.length).toList _ (fun w1 hS => rng ((hS.block GC (hlt_ RCC.out)).trans RCC.out)) Try.underlying50 rfl (by rw [size_counts]; rfl)) hHeld ?_
        try simp only [Act.put, List.setIfInBounds_toArray, List.set_cons_zero, List.set_cons_succ]
        refine wpAnyH_take (i := 19) (oi := { dst := some 187, op := Op.nilCheck (Operand.tmp 186), type := 0, pos := "outright.go:363", after := #[{ on := 18, ground := Ground.data }, { on := 17, ground := Ground.guard }], guard := some (17, false) }) (v := .pointer (some ⟨p, 0, none⟩)) rfl (by kernel_rfl) (by kernel_rfl) (by kernel_rfl) (fun _ _ _ h => h) (Or.inl ⟨by rfl, by intro w hS; go_simp⟩) hHeld ?_
        try simp only [Act.put, List.setIfInBounds_toArray, List.set_cons_zero, List.set_cons_succ]
        refine wpAnyH_take (i := 20) (oi := { dst := some 188, op := Op.fieldAddr 57 (Operand.tmp 187) 0, type := 0, pos := "outright.go:363", after := #[{ on := 19, ground := Ground.data }, { on := 17, ground := Ground.guard }], guard := some (17, false) }) (v := .pointer (some ⟨p, 0, none⟩)) rfl (by kernel_rfl) (by kernel_rfl) (by kernel_rfl) (fun _ _ _ h => h) (Or.inl ⟨by rfl, by intro w hS; go_simp⟩) hHeld ?_
        try simp only [Act.put, List.setIfInBounds_toArray, List.set_cons_zero, List.set_cons_succ]
        refine wpAnyH_ready (rs := [21]) (by kernel_rfl) (by simp) ?_
        refine (AllReadyH.cons (o := { dst := some 189, op := Op.call { callee := Callee.value (Operand.func 16), args := #[Operand.tmp 188], argTypes := #[53] }, type := 50, pos := "outright.go:363", after := #[{ on := 20, ground := Ground.data }, { on := 17, ground := Ground.chain }, { on := 17, ground := Ground.guard }], guard := some (17, false) }) rfl (fun K hK => ?_) AllReadyH.nil)
        go_simp
        go_at_call 16
        refine (Counts_any _ base F p DX (HDC.out.below hHeld)).mono ?_
        rintro e x5 ⟨rfl, hbx⟩
        go_wp2_with fail
        refine hK.out _ _ (hHeld.trans (hbx.mono hHeld.size)) (fun hHeld2 => ?_)
        clear hK K hHeld
        have hHeld := hHeld2
        clear hHeld2
        clear hbx
        try simp only [Act.put, List.setIfInBounds_toArray, List.set_cons_zero, List.set_cons_succ]
        refine wpAnyH_take (i := 23) (oi := { dst := some 191, op := Op.binOp BinOp.neq 50 (Operand.tmp 189) (Operand.tmp 190) 50, type := 4, pos := "outright.go:363", after := #[{ on := 21, ground := Ground.data }, { on := 22, ground := Ground.data }, { on := 17, ground := Ground.guard }], guard := some (17, false) }) (v := .bool false) rfl (by kernel_rfl) (by kernel_rfl) (by kernel_rfl) (fun _ _ _ h => h) (Or.inl ⟨by rfl, by intro w hS; (have KQ := HQ2.out; have KG := guardN; go_simp)⟩) hHeld ?_
        try simp only [Act.put, List.setIfInBounds_toArray, List.set_cons_zero, List.set_cons_succ]
        refine wpAnyH_take (i := 24) (oi := { dst := some 192, op := Op.pick (Operand.tmp 185) (Operand.const (Value.bool true)) (Operand.tmp 191), type := 4, pos := "outright.go:363", after := #[{ on := 17, ground := Ground.data }, { on := 23, ground := Ground.data }], guard := none }) (v := .bool false) rfl (by kernel_rfl) (by kernel_rfl) (by kernel_rfl) (fun _ _ _ h => h) (Or.inl ⟨by rfl, by intro w hS; go_simp⟩) hHeld ?_
        try simp only [Act.put, List.setIfInBounds_toArray, List.set_cons_zero, List.set_cons_succ]
        refine wpAnyH_done (by kernel_rfl) ?_ _
        refine NoPanic.normal ?_
        go_wp2_with fail
        have HFG := hid (Forget_any _ base F p DX (HDC.out.below hHeld) g s nx ep (HKC.out.below hHeld))
        have HH35 := hid hHeld
        clear hHeld
        refine HFG.out.mono ?_
        rintro e wF ⟨rfl, hDF, hKF, hFF⟩
        have r9x := (HH35.out.block G9 (hlt_ R9C.out)).trans R9C.out
        have R9F := hid (hFF.keep r9x (fun e => by rcases List.mem_cons.1 e with q | q; exact ne_ty r9x (HKC.out.below HH35.out) (by decide) q; exact (HDC.out.below HH35.out).not_in r9x (by decide) (by decide) (by decide) q))
        have HKF := hid hKF
        have HDF := hid hDF
        have hbx5 : Below base w x5 := HBX.out.trans ((HBC.out.trans (HH35.out.mono HBC.out.size)).mono (Nat.le_trans BW.out HBX.out.size))
        have HBF := hid (hbx5.trans (hFF.below (fun k hk => by rcases List.mem_cons.1 hk with q | q; rw [q]; exact HBG.out; exact (HDC.out.lt k q).1) (Nat.le_trans BW.out hbx5.size)))
        have HLF := hid (fun (w' : World) (hb : Below wF.heap.size wF w') => (show Calls Try.prog 10 #[.pointer (some ⟨g, 0, none⟩)] w' fun e w2 => e = .returned (.int .i64 3) ∧ Below w'.heap.size w' w2 from by have := Live_any w' base F p DX (HDF.out.below hb) g s s.ma ep (HKF.out.below hb); rwa [HLX.out] at this))
        have HNE := hid (eqPtr g)
        clear r9x hDF hKF hFF hbx5 HFG HH35
        go_wp2
        refine wp_region_noPanic ?_
        refine wp_region_held_drew (S := fun w' => Below wF.heap.size wF w') (by kernel_rfl) (Below.refl _ _).drew (fun hHeld => ?_)
        refine wpAnyH_take (i := 0) (oi := { dst := some 195, op := Op.move (Operand.tmp 14), type := 26, pos := "outright.go:367", after := #[], guard := none }) (v := .pointer (some ⟨g, 0, none⟩)) rfl (by kernel_rfl) (by kernel_rfl) (by kernel_rfl) (fun _ _ _ h => h) (Or.inl ⟨by rfl, by intro w hS; go_simp⟩) hHeld ?_
        try simp only [Act.put, List.setIfInBounds_toArray, List.set_cons_zero, List.set_cons_succ]
        refine wpAnyH_take (i := 2) (oi := { dst := some 197, op := Op.fieldAddr 40 (Operand.tmp 19) 2, type := 0, pos := "outright.go:367", after := #[], guard := none }) (v := .pointer (some ⟨G9, 2, none⟩)) rfl (by kernel_rfl) (by kernel_rfl) (by kernel_rfl) (fun _ _ _ h => h) (Or.inl ⟨by rfl, by intro w hS; go_simp⟩) hHeld ?_
        try simp only [Act.put, List.setIfInBounds_toArray, List.set_cons_zero, List.set_cons_succ]
        refine wpAnyH_take (i := 3) (oi := { dst := some 198, op := Op.load 3 (Operand.tmp 197), type := 3, pos := "outright.go:367", after := #[{ on := 2, ground := Ground.data }], guard := none }) (v := .int .i64 s.ma) rfl (by kernel_rfl) (by kernel_rfl) (by kernel_rfl) (fun _ _ _ h => h) (Or.inl ⟨by rfl, by intro w hS; have hc := cell_sup2 ((hS.block G9 (hlt_ R9F.out)).trans R9F.out); go_simp⟩) hHeld ?_
        try simp only [Act.put, List.setIfInBounds_toArray, List.set_cons_zero, List.set_cons_succ]
        refine wpAnyH_ready (rs := [1]) (by kernel_rfl) (by simp) ?_
        refine (AllReadyH.cons (o := { dst := some 196, op := Op.call { callee := Callee.value (Operand.func 9), args := #[Operand.tmp 195], argTypes := #[26] }, type := 3, pos := "outright.go:367", after := #[{ on := 0, ground := Ground.data }], guard := none }) rfl (fun K hK => ?_) AllReadyH.nil)
        go_simp
        go_at_call 9
        refine (FNext_any _ g p s s.ma ep (HKF.out.below hHeld)).mono ?_
        rintro e y1 ⟨rfl, rfl⟩
        go_wp2_with fail
        refine hK.out _ _ (hHeld) (fun hHeld2 => ?_)
        clear hK K hHeld
        have hHeld := hHeld2
        clear hHeld2
        try simp only [Act.put, List.setIfInBounds_toArray, List.set_cons_zero, List.set_cons_succ]
        refine wpAnyH_take (i := 4) (oi := { dst := some 199, op := Op.binOp BinOp.neq 3 (Operand.tmp 196) (Operand.tmp 198) 3, type := 4, pos := "outright.go:367", after := #[{ on := 1, ground := Ground.data }, { on := 3, ground := Ground.data }], guard := none }) (v := .bool false) rfl (by kernel_rfl) (by kernel_rfl) (by kernel_rfl) (fun _ _ _ h => h) (Or.inl ⟨by rfl, by intro w hS; go_simp⟩) hHeld ?_
        try simp only [Act.put, List.setIfInBounds_toArray, List.set_cons_zero, List.set_cons_succ]
        refine wpAnyH_take (i := 5) (oi := { dst := some 200, op := Op.move (Operand.tmp 199), type := 4, pos := "outright.go:367", after := #[{ on := 4, ground := Ground.data }, { on := 1, ground := Ground.chain }], guard := none }) (v := .bool false) rfl (by kernel_rfl) (by kernel_rfl) (by kernel_rfl) (fun _ _ _ h => h) (Or.inl ⟨by rfl, by intro w hS; go_simp⟩) hHeld ?_
        try simp only [Act.put, List.setIfInBounds_toArray, List.set_cons_zero, List.set_cons_succ]
        refine wpAnyH_take (i := 6) (oi := { dst := some 201, op := Op.move (Operand.tmp 14), type := 26, pos := "outright.go:367", after := #[{ on := 5, ground := Ground.guard }], guard := some (5, false) }) (v := .pointer (some ⟨g, 0, none⟩)) rfl (by kernel_rfl) (by kernel_rfl) (by kernel_rfl) (fun _ _ _ h => h) (Or.inl ⟨by rfl, by intro w hS; go_simp⟩) hHeld ?_
        try simp only [Act.put, List.setIfInBounds_toArray, List.set_cons_zero, List.set_cons_succ]
        refine wpAnyH_ready (rs := [7]) (by kernel_rfl) (by simp) ?_
        refine (AllReadyH.cons (o := { dst := some 202, op := Op.call { callee := Callee.value (Operand.func 10), args := #[Operand.tmp 201], argTypes := #[26] }, type := 36, pos := "outright.go:367", after := #[{ on := 6, ground := Ground.data }, { on := 5, ground := Ground.chain }, { on := 5, ground := Ground.guard }], guard := some (5, false) }) rfl (fun K hK => ?_) AllReadyH.nil)
        go_simp
        go_at_call 10
        refine (HLF.out _ hHeld).mono ?_
        rintro e y2 ⟨rfl, hby⟩
        go_wp2_with fail
        refine hK.out _ _ (hHeld.trans (hby.mono hHeld.size)) (fun hHeld2 => ?_)
        clear hK K hHeld
        have hHeld := hHeld2
        clear hHeld2
        clear hby
        try simp only [Act.put, List.setIfInBounds_toArray, List.set_cons_zero, List.set_cons_succ]
        refine wpAnyH_take (i := 8) (oi := { dst := some 203, op := Op.binOp BinOp.neq 36 (Operand.tmp 202) (Operand.const (Value.int IntKind.i64 3)) 36, type := 4, pos := "outright.go:367", after := #[{ on := 7, ground := Ground.data }, { on := 5, ground := Ground.guard }], guard := some (5, false) }) (v := .bool false) rfl (by kernel_rfl) (by kernel_rfl) (by kernel_rfl) (fun _ _ _ h => h) (Or.inl ⟨by rfl, by intro w hS; go_simp⟩) hHeld ?_
        try simp only [Act.put, List.setIfInBounds_toArray, List.set_cons_zero, List.set_cons_succ]
        refine wpAnyH_take (i := 9) (oi := { dst := some 204, op := Op.pick (Operand.tmp 200) (Operand.const (Value.bool true)) (Operand.tmp 203), type := 4, pos := "outright.go:367", after := #[{ on := 5, ground := Ground.data }, { on := 8, ground := Ground.data }], guard := none }) (v := .bool false) rfl (by kernel_rfl) (by kernel_rfl) (by kernel_rfl) (fun _ _ _ h => h) (Or.inl ⟨by rfl, by intro w hS; go_simp⟩) hHeld ?_
        try simp only [Act.put, List.setIfInBounds_toArray, List.set_cons_zero, List.set_cons_succ]
        refine wpAnyH_done (by kernel_rfl) ?_ _
        refine NoPanic.normal ?_
        have HHF := hid hHeld
        clear hHeld
        go_wp2
        refine wp_region_noPanic ?_
        refine wp_region_held_drew (S := fun w' => Below wF.heap.size wF w') (by kernel_rfl) HHF.out.drew (fun hHeld => ?_)
        refine wpAnyH_take (i := 0) (oi := { dst := some 205, op := Op.move (Operand.tmp 21), type := 26, pos := "outright.go:370", after := #[], guard := none }) (v := .pointer (some ⟨g, 0, none⟩)) rfl (by kernel_rfl) (by kernel_rfl) (by kernel_rfl) (fun _ _ _ h => h) (Or.inl ⟨by rfl, by intro w hS; go_simp⟩) hHeld ?_
        try simp only [Act.put, List.setIfInBounds_toArray, List.set_cons_zero, List.set_cons_succ]
        refine wpAnyH_take (i := 1) (oi := { dst := some 206, op := Op.move (Operand.tmp 14), type := 26, pos := "outright.go:370", after := #[], guard := none }) (v := .pointer (some ⟨g, 0, none⟩)) rfl (by kernel_rfl) (by kernel_rfl) (by kernel_rfl) (fun _ _ _ h => h) (Or.inl ⟨by rfl, by intro w hS; go_simp⟩) hHeld ?_
        try simp only [Act.put, List.setIfInBounds_toArray, List.set_cons_zero, List.set_cons_succ]
        refine wpAnyH_take (i := 2) (oi := { dst := some 207, op := Op.binOp BinOp.eql 26 (Operand.tmp 205) (Operand.tmp 206) 26, type := 4, pos := "outright.go:370", after := #[{ on := 0, ground := Ground.data }, { on := 1, ground := Ground.data }], guard := none }) (v := .bool true) rfl (by kernel_rfl) (by kernel_rfl) (by kernel_rfl) (fun _ _ _ h => h) (Or.inl ⟨by rfl, by intro w hS; (have NEQ := HNE.out; go_simp)⟩) hHeld ?_
        try simp only [Act.put, List.setIfInBounds_toArray, List.set_cons_zero, List.set_cons_succ]
        refine wpAnyH_take (i := 3) (oi := { dst := some 208, op := Op.move (Operand.tmp 207), type := 4, pos := "outright.go:370", after := #[{ on := 2, ground := Ground.data }], guard := none }) (v := .bool true) rfl (by kernel_rfl) (by kernel_rfl) (by kernel_rfl) (fun _ _ _ h => h) (Or.inl ⟨by rfl, by intro w hS; go_simp⟩) hHeld ?_
        try simp only [Act.put, List.setIfInBounds_toArray, List.set_cons_zero, List.set_cons_succ]
        refine wpAnyH_take (i := 4) (oi := { dst := some 209, op := Op.move (Operand.tmp 21), type := 26, pos := "outright.go:370", after := #[{ on := 3, ground := Ground.guard }], guard := some (3, false) }) (v := undef) rfl (by kernel_rfl) (by kernel_rfl) (by kernel_rfl) (fun _ _ _ h => h) (Or.inr ⟨by rfl, rfl⟩) hHeld ?_
        try simp only [Act.put, List.setIfInBounds_toArray, List.set_cons_zero, List.set_cons_succ]
        refine wpAnyH_take (i := 5) (oi := { dst := some 210, op := Op.call { callee := Callee.value (Operand.func 10), args := #[Operand.tmp 209], argTypes := #[26] }, type := 36, pos := "outright.go:370", after := #[{ on := 4, ground := Ground.data }, { on := 3, ground := Ground.chain }, { on := 3, ground := Ground.guard }], guard := some (3, false) }) (v := undef) rfl (by kernel_rfl) (by kernel_rfl) (by kernel_rfl) (fun _ _ _ h => h) (Or.inr ⟨by rfl, rfl⟩) hHeld ?_
        try simp only [Act.put, List.setIfInBounds_toArray, List.set_cons_zero, List.set_cons_succ]
        refine wpAnyH_take (i := 6) (oi := { dst := some 211, op := Op.binOp BinOp.eql 36 (Operand.tmp 210) (Operand.const (Value.int IntKind.i64 0)) 36, type := 4, pos := "outright.go:370", after := #[{ on := 5, ground := Ground.data }, { on := 3, ground := Ground.guard }], guard := some (3, false) }) (v := undef) rfl (by kernel_rfl) (by kernel_rfl) (by kernel_rfl) (fun _ _ _ h => h) (Or.inr ⟨by rfl, rfl⟩) hHeld ?_
        try simp only [Act.put, List.setIfInBounds_toArray, List.set_cons_zero, List.set_cons_succ]
        refine wpAnyH_take (i := 7) (oi := { dst := some 212, op := Op.move (Operand.tmp 211), type := 4, pos := "outright.go:370", after := #[{ on := 6, ground := Ground.data }, { on := 5, ground := Ground.chain }, { on := 3, ground := Ground.guard }], guard := some (3, false) }) (v := undef) rfl (by kernel_rfl) (by kernel_rfl) (by kernel_rfl) (fun _ _ _ h => h) (Or.inr ⟨by rfl, rfl⟩) hHeld ?_
        try simp only [Act.put, List.setIfInBounds_toArray, List.set_cons_zero, List.set_cons_succ]
        refine wpAnyH_take (i := 8) (oi := { dst := some 213, op := Op.move (Operand.tmp 21), type := 26, pos := "outright.go:370", after := #[{ on := 7, ground := Ground.guard }], guard := some (7, true) }) (v := undef) rfl (by kernel_rfl) (by kernel_rfl) (by kernel_rfl) (fun _ _ _ h => h) (Or.inr ⟨by rfl, rfl⟩) hHeld ?_
        try simp only [Act.put, List.setIfInBounds_toArray, List.set_cons_zero, List.set_cons_succ]
        refine wpAnyH_take (i := 10) (oi := { dst := some 215, op := Op.fieldAddr 40 (Operand.tmp 19) 2, type := 0, pos := "outright.go:370", after := #[{ on := 7, ground := Ground.guard }], guard := some (7, true) }) (v := undef) rfl (by kernel_rfl) (by kernel_rfl) (by kernel_rfl) (fun _ _ _ h => h) (Or.inr ⟨by rfl, rfl⟩) hHeld ?_
        try simp only [Act.put, List.setIfInBounds_toArray, List.set_cons_zero, List.set_cons_succ]
        refine wpAnyH_take (i := 9) (oi := { dst := some 214, op := Op.call { callee := Callee.value (Operand.func 9), args := #[Operand.tmp 213], argTypes := #[26] }, type := 3, pos := "outright.go:370", after := #[{ on := 8, ground := Ground.data }, { on := 7, ground := Ground.chain }, { on := 7, ground := Ground.guard }], guard := some (7, true) }) (v := undef) rfl (by kernel_rfl) (by kernel_rfl) (by kernel_rfl) (fun _ _ _ h => h) (Or.inr ⟨by rfl, rfl⟩) hHeld ?_
        try simp only [Act.put, List.setIfInBounds_toArray, List.set_cons_zero, List.set_cons_succ]
        refine wpAnyH_take (i := 11) (oi := { dst := some 216, op := Op.load 3 (Operand.tmp 215), type := 3, pos := "outright.go:370", after := #[{ on := 10, ground := Ground.data }, { on := 7, ground := Ground.guard }], guard := some (7, true) }) (v := undef) rfl (by kernel_rfl) (by kernel_rfl) (by kernel_rfl) (fun _ _ _ h => h) (Or.inr ⟨by rfl, rfl⟩) hHeld ?_
        try simp only [Act.put, List.setIfInBounds_toArray, List.set_cons_zero, List.set_cons_succ]
        refine wpAnyH_take (i := 12) (oi := { dst := some 217, op := Op.binOp BinOp.eql 3 (Operand.tmp 214) (Operand.tmp 216) 3, type := 4, pos := "outright.go:370", after := #[{ on := 9, ground := Ground.data }, { on := 11, ground := Ground.data }, { on := 7, ground := Ground.guard }], guard := some (7, true) }) (v := undef) rfl (by kernel_rfl) (by kernel_rfl) (by kernel_rfl) (fun _ _ _ h => h) (Or.inr ⟨by rfl, rfl⟩) hHeld ?_
        try simp only [Act.put, List.setIfInBounds_toArray, List.set_cons_zero, List.set_cons_succ]
        refine wpAnyH_take (i := 13) (oi := { dst := some 218, op := Op.pick (Operand.tmp 212) (Operand.tmp 217) (Operand.const (Value.bool false)), type := 4, pos := "outright.go:370", after := #[{ on := 7, ground := Ground.data }, { on := 12, ground := Ground.data }, { on := 3, ground := Ground.guard }], guard := some (3, false) }) (v := undef) rfl (by kernel_rfl) (by kernel_rfl) (by kernel_rfl) (fun _ _ _ h => h) (Or.inr ⟨by rfl, rfl⟩) hHeld ?_
        try simp only [Act.put, List.setIfInBounds_toArray, List.set_cons_zero, List.set_cons_succ]
        refine wpAnyH_take (i := 14) (oi := { dst := some 219, op := Op.pick (Operand.tmp 208) (Operand.const (Value.bool true)) (Operand.tmp 218), type := 4, pos := "outright.go:370", after := #[{ on := 3, ground := Ground.data }, { on := 13, ground := Ground.data }], guard := none }) (v := .bool true) rfl (by kernel_rfl) (by kernel_rfl) (by kernel_rfl) (fun _ _ _ h => h) (Or.inl ⟨by rfl, by intro w hS; go_simp⟩) hHeld ?_
        try simp only [Act.put, List.setIfInBounds_toArray, List.set_cons_zero, List.set_cons_succ]
        refine wpAnyH_take (i := 15) (oi := { dst := some 12, op := Op.assign (Operand.tmp 219), type := 4, pos := "outright.go:370", after := #[{ on := 14, ground := Ground.data }, { on := 9, ground := Ground.chain }, { on := 0, ground := Ground.phase }, { on := 1, ground := Ground.phase }, { on := 2, ground := Ground.phase }, { on := 3, ground := Ground.phase }, { on := 4, ground := Ground.phase }, { on := 5, ground := Ground.phase }, { on := 6, ground := Ground.phase }, { on := 7, ground := Ground.phase }, { on := 8, ground := Ground.phase }, { on := 9, ground := Ground.phase }, { on := 10, ground := Ground.phase }, { on := 11, ground := Ground.phase }, { on := 12, ground := Ground.phase }, { on := 13, ground := Ground.phase }, { on := 14, ground := Ground.phase }], guard := none }) (v := .bool true) rfl (by kernel_rfl) (by kernel_rfl) (by kernel_rfl) (fun _ _ _ h => h) (Or.inl ⟨by rfl, by intro w hS; go_simp⟩) hHeld ?_
        try simp only [Act.put, List.setIfInBounds_toArray, List.set_cons_zero, List.set_cons_succ]
        refine wpAnyH_done (by kernel_rfl) ?_ _
        refine NoPanic.normal ?_
        go_wp2
        go_ret
        exact ⟨rfl, HBF.out.trans (hHeld.mono (Nat.le_trans BW.out HBF.out.size))⟩
end Go.Proofs.Ytbgjnihkiolmlab
