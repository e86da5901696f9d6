import Derived.Test.YtbgjnihkiolmlaaGw
namespace Go.Proofs.Ytbgjnihkiolmlaa
set_option linter.unusedVariables false
set_option linter.unusedSimpArgs false
open Go.RowKit
attribute [local go_sem ↓] Go.wp_at_zero Go.wp_at_succ


theorem DK.base_le {w : World} {base b2 : Nat} {P : DP} {D : DS} (h : DK w base P D) (hb : b2 ≤ base) : DK w b2 P D := by
  refine ⟨h.cell, h.im, h.gl, h.gm, ⟨h.opn.1, ?_⟩, h.mp, h.new, Nat.le_trans hb h.bp, Nat.le_trans hb h.bg, Nat.le_trans hb h.bm⟩
  rcases h.opn.2 with q | ⟨g, cap, cur, e1, e2, r⟩
  · exact Or.inl q
  · exact Or.inr ⟨g, cap, cur, e1, Nat.le_trans hb e2, r⟩
theorem DA.base_le {w : World} {base b2 : Nat} {F : List Nat} {p : Nat} {D : DS} (h : DA w base F p D) (hb : b2 ≤ base) : DA w b2 F p D := by
  obtain ⟨P, e1, e2, h, k⟩ := h; exact ⟨P, e1, e2, h.base_le hb, k⟩
theorem sl_cut (w : World) (g L cap l h : Nat) (h1 : l ≤ h) (h2 : h ≤ cap) (h3 : l < cap) (x y : Int) (hx : x = (l : Int)) (hy : y = (h : Int)) : (Instr.slice 22 (.slice (some ⟨g, 0, none⟩) L cap) (some (.int .i64 x)) (some (.int .i64 y)) none).run Try.prog w = .ok (.slice (some ⟨g, l, none⟩) (h - l) (cap - l)) w := by
  subst hx hy
  have hz : (sizeOf (Try.prog.elem 22)).run Try.prog w = .ok 1 w := by kernel_rfl
  rw [run_slice_lh w 22 _ _ _ (by kernel_rfl) .i64 .i64 l h (by omega) (by omega) (by omega), hz]
  simp only [Result.andThen_ok, sliced, Int.toNat_natCast, Nat.mul_one, if_neg (show ¬ cap = l by omega), Option.map_some, Addr.add_mid, Nat.zero_add]
theorem newD_np {img : List Int} {n : Nat} (hi : img.length = 256 * n) : (newD img).np = n := by
  show img.length / 256 = n; omega
def tw (img : List Int) (r : Int) : DS := { newD img with reads := r, epoch := 1 }
theorem tw_live (img : List Int) (r : Int) : liveF (tw img r) 1 = 0 := rfl
theorem BA.mrk {w : World} {base : Nat} {G : List Nat} {gb : Nat} {B : Bk} (h : BA w base G gb B) : w.cell? ⟨gb, 2, none⟩ = some (.int .i64 B.mrk) := by
  obtain ⟨lv, kv, vs, hb⟩ := h; exact cell_of_row _ _ _ _ _ _ hb.cell
theorem cell_sup0 {w : World} {b : Nat} {s : Sup} {t : TypeId} (h : w.heap[b]? = some (.cells (supC s) t (0, 0))) : w.cell? ⟨b, 0, none⟩ = some (.int .i64 s.wd) := by simp [World.cell?, h, supC]
theorem wpList_load_supW {ops : Array Oper} {rest : List Oper} {op : Oper} {a : Act} {w : World} {Q : Exit → Act → World → Prop} (hw : Region.wanted op (yielded ops a.tmps) = true) (x : Operand) (ho : op.op = .load 37 x)
    (b : Nat) (hx : a.eval x = .pointer (some ⟨b, 0, none⟩)) (s : Sup) (hS : w.heap[b]? = some (.cells (supC s) 37 (0, 0)))
    (h : wpList Try.prog ops Q rest (a.put op.dst (.agg (supC s))) w) : wpList Try.prog ops Q (op :: rest) a w :=
  wpList_load_mid_w hw 37 x ho b 0 hx (supL s) _ (rng hS) Try.underlying37 rfl (by rw [size_super]; rfl) h
theorem build1 (w : World) : (Instr.buildSlice 22 1 #[(0, .int .u8 1)]).run Try.prog w = .ok (.slice (some ⟨w.heap.size, 0, none⟩) 1 1) (w.alloc (.cells #[.int .u8 1] 5)) := by kernel_rfl
/-- The image alone holds what was published last. -/
theorem Lv.twin {D : DS} {s : Sup} {nx : Nat} {ep : Int} {B : Bk} {n c : Nat} (h : Lv D s nx ep B n c) : chooseF ((newD D.img).readOf 0) ((newD D.img).readOf 1) = (s, 0) ∧ ∃ m : Nat, s.ma = (m : Int) ∧ 2 ≤ m ∧ m ≤ n ∧ m - 2 ≤ B.Ls.length ∧ ∀ T : DS, T.img = D.img → T.ops = [] → Pgs T B m := by
  obtain ⟨o, hg⟩ := h.good
  obtain ⟨m, hm1, hm2, hm3⟩ := sup_ma h.val h.pg
  refine ⟨by rw [readOf_nil rfl, readOf_nil rfl]; exact hg.choose.1, m, hm1, hm2, hm3, by have := h.len; have := h.hnx; omega, fun T hT hO q h2 hq => ?_⟩
  rw [readOf_nil hO, hT]
  have := h.pgs q h2 (by have := h.hnx; omega)
  rwa [read_page q (fun o ho => by have := h.opn o ho; omega)] at this
theorem Lv.two {D : DS} {s : Sup} {nx : Nat} {ep : Int} {B : Bk} {n c : Nat} (h : Lv D s nx ep B n c) : ∃ (o : Sup) (k : Nat), s.ge % 2 = (k : Int) ∧ k ≤ 1 ∧ unSuperF (pgO D.img k) = (s, 0) ∧ unSuperF (pgO D.img (1 - k)) = (o, 0) ∧ o.ge = s.ge - 1 := by
  obtain ⟨o, hv, ho, hf, Y, Z, hY, hZ, y8, z8, hc⟩ := h.good
  have h1 := hf.1
  rcases hc with ⟨hp, e0, e1⟩ | ⟨hp, e0, e1⟩
  · exact ⟨o, 0, hp, by omega, by rw [e0]; exact unS_app s Y hv hY, by show unSuperF (pgO D.img 1) = _; rw [e1]; exact unS_app o Z ho hZ, by omega⟩
  · exact ⟨o, 1, hp, by omega, by rw [e1]; exact unS_app s Z hv hZ, by show unSuperF (pgO D.img 0) = _; rw [e0]; exact unS_app o Y ho hY, by omega⟩
set_option maxRecDepth 100000 in
set_option maxHeartbeats 4000000 in
theorem twin_in (w : World) (n : Nat) (wd : Int) (hn : 3 ≤ n ∧ n ≤ 64) (hw : 1 ≤ wd ∧ wd ≤ 32) (ac : List AC) (hok : ∀ a ∈ ac, AcOk a) (sp : Option Addr) (cap : Nat) (hA : Acs w w.heap.size sp ac) (hal : (ac.length : Int) ≤ 9223372036854775807) :
    Calls Try.prog 8 #[.int .i64 n, .int .i64 wd, .slice sp ac.length cap] w fun e w' => e = .returned (.bool true) ∧ Below w.heap.size w w' := by
  have HFT := hid (fits_yes w n wd ⟨by omega, by omega, hw.1, hw.2⟩)
  have HFR := hid (fresh_in w n wd hn hw)
  obtain ⟨base, hbase⟩ : ∃ base, base = w.heap.size := ⟨_, rfl⟩
  rw [← hbase] at HFR hA ⊢
  have BW := hid (show base ≤ w.heap.size by omega)
  have HA := hid hA
  have HOK := hid hok
  have HBK := build_book
  have nn1 : 3 ≤ (n : Int) := by omega
  have nn2 : (n : Int) ≤ 64 := by omega
  clear hA hok hbase hn hw
  go_enter Try.func8, Try.ntmps8
  go_wp2_with (first | (go_at_call 9; refine HFT.out.mono ?_; rintro e w0 ⟨rfl, rfl⟩))
  refine HFR.out.mono ?_
  rintro e w1 ⟨p, g, F, D, rfl, hD1, hK1, hg1, hlv1, harm1, hB1⟩
  have HD1 := hid hD1
  have HK1 := hid hK1
  have HG1 := hid hg1
  have HLV1 := hid hlv1
  have HB1 := hid hB1
  have HAR1 := hid harm1
  clear hD1 hK1 hg1 hlv1 harm1 hB1 HFR HFT
  go_wp2
  have HS0 := hid (SS.start HD1.out HK1.out HG1.out HLV1.out HB1.out BW.out)
  generalize hgb : w1.heap.size = gb at *
  clear HBK HD1 HK1 HG1 HLV1 HB1
  go_loopw [10, 11, 12, 13, 14, 15, 16, 17, 18, 19, 20, 21, 22, 23] (fun iv _ _ _ _ _ _ _ _ _ _ _ _ _ wr => ∃ (i : Nat) (D : DS) (s : Sup) (nx : Nat) (ep : Int) (B : Bk) (F G : List Nat), i ≤ ac.length ∧ i ≤ 60 ∧ iv = .int .i64 i ∧ SS w wr base p gb n (2 * i) g D s nx ep B F G ∧ D.armed = 0 ∧ s.wd = wd ∧ 1 ≤ s.ge) (fun iv _ _ _ _ _ _ _ _ _ _ _ _ _ _ => ac.length - (intOf iv).toNat)
  case atStart => exact ⟨0, D, _, 2, _, _, F, _, by omega, by omega, rfl, HS0.out, HAR1.out, rfl, Int.le_refl _⟩
  case round =>
    clear HS0 HAR1
    obtain ⟨i, D, s, nx, ep, B, F, G, hi, hi2, rfl, hS, harm, hwd, hge⟩ := hrel
    have j0 : (i : Int) ≤ 60 := by omega
    by_cases hlt : i < ac.length ∧ i < 60
    · have k1 : (i : Int) < (ac.length : Int) := by omega
      have k2 : (i : Int) < 60 := by omega
      have k3 : i < ac.length := hlt.1
      have k4 : i < 60 := hlt.2
      obtain ⟨b, o, tp, tc, rfl, hbb, hrg, hsr⟩ := HA.out.at hS.bl i hlt.1
      have hai := HOK.out (ac.getD i dA) (getD_memA ac i hlt.1)
      have HACT := hid (acts_in wr base F p D hS.da (Nat.le_trans hS.bw hS.bl.size) g s nx ep hS.fk G gb B hS.ba hS.ap hS.ng n (2 * i) hS.lv (by omega) (ac.getD i dA).kind (ac.getD i dA).N hai.1 (ac.getD i dA).load hai.2.1 tp tc hsr hai.2.2)
      have ck : wr.cell? ⟨b, o + i * 3, none⟩ = some (.int .i64 (ac.getD i dA).kind) := hrg 0 _ rfl
      have HRG := hid hrg
      have HS := hid hS
      have HAR := hid harm
      have HWD := hid hwd
      have HGE := hid hge
      clear hS hrg hsr hai hlt harm hwd hge
      generalize ac.getD i dA = A at *
      by_cases h4 : A.kind = 4
      · have h40 : (A.kind == 4) = true := by simp [h4]
        clear h4
        go_wp2
        refine ⟨⟨i + 1, D, s, nx, ep, B, F, G, by omega, by omega, by go_num, by have := HS.out.more.more; rw [show 2 * (i + 1) = 2 * i + 1 + 1 by omega]; exact this, HAR.out, HWD.out, HGE.out⟩, by simp [intOf]; omega⟩
      · have h40 : (A.kind == 4) = false := by simpa using h4
        have H4 := hid h4
        clear h4
        go_wp2_with (first | (refine wpList_load_mid_w (by rfl) 50 (.tmp 60) (by rfl) b (o + i * 3) (by rfl) (actL A tp tc) _ (by exact HRG.out) Try.underlying50 rfl (by rw [size_fact]; rfl) ?_))
        refine HACT.out.mono ?_
        rintro e w3 ⟨er, rfl, hao⟩
        obtain ⟨D', s', nx', B', F', G', hcase, hkp, _, _, _, hz⟩ := HS.out.step hao
        obtain ⟨rfl, harm'⟩ := hz ⟨HAR.out, H4.out⟩
        have hS2 : SS w w3 base p gb n (2 * i + 1) g D' s' nx' ep B' F' G' := by
          rcases hcase with ⟨_, x⟩ | ⟨x, _⟩
          · exact x
          · exact absurd x (by decide)
        have HS2 := hid hS2
        have HAR2 := hid harm'
        have HWD2 := hid (hkp.2.2.1.trans HWD.out)
        have HGE2 := hid (Int.le_trans HGE.out hkp.2.2.2)
        clear hao HACT HRG hcase hz harm' hS2 HS HAR HWD HGE ck hkp
        have HIM := hid (Image_any w3 base F' p D' HS2.out.da)
        have HLEN := hid (show D'.img.length = 256 * n by rw [HS2.out.lv.ok.np.2.2.1, HS2.out.lv.np])
        go_wp2_with fail
        refine HIM.out.mono ?_
        rintro e w6 ⟨vi, rfl, hOi, hbi⟩
        obtain ⟨ib, ic, irest, hvi, hib, hir, hic, him, hio⟩ := own_in hOi (by rw [HLEN.out]; omega)
        subst hvi
        obtain ⟨si, ci, hvi2, hsi, _⟩ := hOi.form
        simp only [Value.slice.injEq] at hvi2
        obtain ⟨rfl, _, rfl⟩ := hvi2
        have HS6 := hid (HS2.out.below hbi)
        have HSI := hid hsi
        have HIB := hid (hlt_ hir)
        have hic2 : 256 * n ≤ ic := by rw [← HLEN.out]; exact hic
        have HLO := hid (Load_any w6 D'.img n (by omega) (by omega) HLEN.out HS6.out.lv.ok.bts (some ⟨ib, 0, none⟩) ic hsi (by simp))
        clear hsi hir hib him hio hic hOi HIM HS2 hbi
        go_wp2_with fail
        refine HLO.out.mono ?_
        rintro e w7 ⟨p2, F2, rfl, hD7, hb7⟩
        have hnp7 : (newD D'.img).np = n := newD_np HLEN.out
        obtain ⟨hch, m, hm1, hm2, hm3, hml, hpgs⟩ := HS6.out.lv.twin
        have HOP := hid (Open_ok w7 w6.heap.size F2 p2 (newD D'.img) hD7 rfl (by show (0 : Int) < _; decide) (by show (0 : Int) < _; decide) s' hch (by rw [hnp7]; exact HS6.out.lv.pg))
        have HPG := hid hpgs
        have HB7 := hid hb7
        have HD7 := hid hD7
        clear hD7 hb7 hnp7 hch hpgs HLO
        go_wp2_with fail
        refine HOP.out.mono ?_
        rintro e w8 ⟨g2, rfl, hg8, hK8, hD8, hF8⟩
        have HB8 := hid (HB7.out.trans (hF8.below (fun k hk => (HD7.out.lt k hk).1) HB7.out.size))
        have HK8 := hid (show FK w8 g2 p2 s' (m : Int) 1 from by rw [← hm1]; exact hK8)
        have HL8 := hid (fun k hk => (hD8.lt k hk).1)
        have HD8 := hid (show DA w8 base F2 p2 (tw D'.img 2) from hD8.base_le (Nat.le_trans BW.out HS6.out.bl.size))
        have HG8 := hid (Nat.le_trans HB7.out.size hg8)
        clear hg8 hK8 hD8 hF8 HOP HD7
        have KQ : ∀ w : World, (Op.equalIn 10000 37 (.agg (supC s')) (.agg (supC s'))).run Try.prog w = .ok true w := fun w => by have := eqSup s' s' w; rwa [show decide (s' = s') = true from decide_eq_true rfl] at this
        have KG := guardU
        have HSA := hid (FSuper_any w8 g2 p2 s' (m : Int) 1 HK8.out)
        have HSB := hid (fun (w' : World) (hb : Below w6.heap.size w6 w') => FSuper_any w' g p s' nx' ep (HS6.out.below hb).fk)
        have HHO := hid (fun (w' : World) (h6 : Below w6.heap.size w6 w') (h8 : Below w8.heap.size w8 w') => holds_in w' base F2 p2 (tw D'.img 2) (HD8.out.below h8) g2 s' (m : Int) 1 (HK8.out.below h8) (tw_live _ _) G' gb B' (HS6.out.below h6).ba (fun k hk e => by have := HL8.out k hk; have := (HS6.out.ba.lt k e).2; omega) HS6.out.lv.len.1 m ⟨hm2, hml, Int.le_refl _, by show m ≤ (newD D'.img).np; rw [newD_np HLEN.out]; exact hm3⟩ (HPG.out _ rfl rfl) (by show (2 : Int) + (m : Int) < _; omega))
        go_wp2_with (first
          | (go_at_call 17; refine HSA.out.mono ?_; rintro e w9 ⟨rfl, hb9⟩; have HB9 := hid (HB8.out.trans (hb9.mono HB8.out.size)); have HC9 := hid hb9; clear hb9)
          | (go_at_call 17; refine (HSB.out w9 HB9.out).mono ?_; rintro e w10 ⟨rfl, hb10⟩; have HB10 := hid (HB9.out.trans (hb10.mono HB9.out.size)); have HC10 := hid (HC9.out.trans (hb10.mono HC9.out.size)); clear hb10; have cb : w10.cell? ⟨gb, 2, none⟩ = some (.int .i64 (m : Int)) := by rw [(HS6.out.below HB10.out).ba.mrk, HS6.out.lv.bk.1, hm1])
          | (go_at_call 27; refine (HHO.out w10 HB10.out HC10.out).mono ?_; rintro e w11 ⟨rfl, hD11, hF11⟩; have HD11 := hid hD11; have HB11 := hid (HB10.out.trans (hF11.below HL8.out HB10.out.size)); have HK11 := hid ((HK8.out.below HC10.out).other (HD8.out.below HC10.out) hF11); clear hD11 hF11 cb HSA HHO))
        obtain ⟨os, kk, hk1, hk2, hu1, hu2, hog⟩ := HS6.out.lv.two
        have hgel := HS6.out.lv.ge
        have hge1 := HGE2.out
        have hrem : s'.ge.tmod 2 = (kk : Int) := by rw [Int.tmod_eq_emod_of_nonneg (by omega)]; exact hk1
        have hge9 : s'.ge ≤ 1000 := by push_cast at hgel; omega
        have hkk1 : (kk : Int) ≤ 1 := by omega
        have HSC := hid (FSuper_any w11 g p s' nx' ep (HS6.out.below HB11.out).fk)
        have HUG := hid (fun (w' : World) (hb : Below w6.heap.size w6 w') (kk : Nat) (hk2 : kk ≤ 1) (sx : Sup) (hu : unSuperF (pgO D'.img kk) = (sx, 0)) => (show Calls Try.prog 34 #[.slice (some ⟨ib, 256 * kk, none⟩) 256 (ic - 256 * kk)] w' fun e w2 => e = .returned (.tuple #[.agg (supC sx), .int .i64 0]) ∧ Below w'.heap.size w' w2 from by
            have hln := HLEN.out
            have hp : (D'.img.drop (256 * kk)).take 256 = pgO D'.img kk := by unfold pgO; rw [Nat.mul_comm]
            have hl1 : ((D'.img.drop (256 * kk)).take 256).length = 256 := by rw [List.length_take, List.length_drop]; omega
            have := unSuper_any w' ((D'.img.drop (256 * kk)).take 256) (((show Byts D'.img from HS6.out.lv.ok.bts).drop _).take _) (some ⟨ib, 0 + 256 * kk, none⟩) (ic - 256 * kk) ((HSI.out.below hb (Nat.le_refl _)).mid (256 * kk) 256 (by omega) (Nat.lt_of_lt_of_le HIB.out hb.size) _ (by omega) (by have := HSI.out.2.1; omega))
            rw [hl1, Nat.zero_add, hp, hu] at this
            exact this))
        have HCP := hid (show 512 ≤ ic by omega)
        have hsA : ∀ w : World, (Instr.slice 22 (.slice (some ⟨ib, 0, none⟩) (256 * n) ic) (some (.int .i64 0)) (some (.int .i64 256)) none).run Try.prog w = .ok (.slice (some ⟨ib, 0, none⟩) 256 ic) w := fun w => sl_cut w ib (256 * n) ic 0 256 (by omega) (by omega) (by omega) 0 256 rfl rfl
        have hsB : ∀ w : World, (Instr.slice 22 (.slice (some ⟨ib, 0, none⟩) (256 * n) ic) (some (.int .i64 256)) (some (.int .i64 512)) none).run Try.prog w = .ok (.slice (some ⟨ib, 256, none⟩) 256 (ic - 256)) w := fun w => sl_cut w ib (256 * n) ic 256 512 (by omega) (by omega) (by omega) 256 512 rfl rfl
        have hkk : kk = 0 ∨ kk = 1 := by omega
        have HOG := hid hog
        clear hk1 hog hgel hic2
        rcases hkk with rfl | rfl
        · obtain ⟨c2, hc2⟩ : ∃ c2, c2 = ic - 256 := ⟨_, rfl⟩
          have HU1 := hid (show ∀ (w' : World), Below w6.heap.size w6 w' → Calls Try.prog 34 #[.slice (some ⟨ib, 0, none⟩) 256 ic] w' fun e w2 => e = .returned (.tuple #[.agg (supC s'), .int .i64 0]) ∧ Below w'.heap.size w' w2 from fun w' hb => HUG.out w' hb 0 (by omega) s' hu1)
          have HU2 := hid (show ∀ (w' : World), Below w6.heap.size w6 w' → Calls Try.prog 34 #[.slice (some ⟨ib, 256, none⟩) 256 c2] w' fun e w2 => e = .returned (.tuple #[.agg (supC os), .int .i64 0]) ∧ Below w'.heap.size w' w2 from fun w' hb => by rw [hc2]; exact HUG.out w' hb 1 (by omega) os hu2)
          rw [← hc2] at hsB
          clear hc2 HUG hu1 hu2 hkk1 hk2
          change s'.ge.tmod 2 = 0 at hrem
          have hnn : ((256 * n : Nat) : Int) = 256 * (n : Int) := by push_cast; rfl
          have KB := build1
          rw [HLEN.out]
          go_wp2_with (first
            | (go_at_call 17; refine HSC.out.mono ?_; rintro e w12 ⟨rfl, hb12⟩; have HB_w12 := hid (HB11.out.trans (hb12.mono HB11.out.size)); have HE_w12 := hid hb12; clear hb12 HSC)
            | (refine wpList_store_row (by rfl) 37 (.tmp 18) (.tmp 109) (by rfl) w12.heap.size (supC s') (by rfl) (by rfl) 37 _ (by exact hnew _ _) (supN s') (supZ s') (supO s') ?_; rw [setRow_alloc]; have rr := hnew w12 (.cells (supC s') 37); have bb := below_new w12 (.cells (supC s') 37); generalize hw_w13 : w12.alloc (.cells (supC s') 37) = w13 at *; generalize hGA : w12.heap.size = GA at *; have HGL := hid (show w11.heap.size ≤ GA by rw [← hGA]; exact HE_w12.out.size); have HB_w13 := hid (HB_w12.out.trans ((hGA ▸ bb : Below w12.heap.size w12 w13).mono HB_w12.out.size)); have HE_w13 := hid (HE_w12.out.trans ((hGA ▸ bb : Below w12.heap.size w12 w13).mono HE_w12.out.size)); have RGA := hid rr; clear rr bb hw_w13 hGA; have c91 : w13.cell? ⟨GA, 1, none⟩ = some (.int .i64 s'.ge) := cell_sup1 RGA.out)
            | (go_at_call 34; refine (HU1.out w13 HB_w13.out).mono ?_; rintro e w14 ⟨rfl, hb14⟩; have HB_w14 := hid (HB_w13.out.trans (hb14.mono HB_w13.out.size)); have HE_w14 := hid (HE_w13.out.trans (hb14.mono HE_w13.out.size)); have RGA1 := hid ((hb14.block GA (hlt_ RGA.out)).trans RGA.out); clear hb14 c91 HU1)
            | (refine wpList_store_row (by rfl) 37 (.tmp 20) (.tmp 131) (by rfl) w14.heap.size (supC s') (by rfl) (by rfl) 37 _ (by exact hnew _ _) (supN s') (supZ s') (supO s') ?_; rw [setRow_alloc]; have rr := hnew w14 (.cells (supC s') 37); have bb := below_new w14 (.cells (supC s') 37); generalize hw_w15 : w14.alloc (.cells (supC s') 37) = w15 at *; generalize hGB : w14.heap.size = GB at *; have HB_w15 := hid (HB_w14.out.trans ((hGB ▸ bb : Below w14.heap.size w14 w15).mono HB_w14.out.size)); have HE_w15 := hid (HE_w14.out.trans ((hGB ▸ bb : Below w14.heap.size w14 w15).mono HE_w14.out.size)); have RGB := hid rr; have RGA2 := hid (((hGB ▸ bb : Below w14.heap.size w14 w15).block GA (hlt_ RGA1.out)).trans RGA1.out); clear rr bb hw_w15 hGB)
            | (go_at_call 34; refine (HU2.out w15 HB_w15.out).mono ?_; rintro e w16 ⟨rfl, hb16⟩; have HB_w16 := hid (HB_w15.out.trans (hb16.mono HB_w15.out.size)); have HE_w16 := hid (HE_w15.out.trans (hb16.mono HE_w15.out.size)); have RGB1 := hid ((hb16.block GB (hlt_ RGB.out)).trans RGB.out); have RGA3 := hid ((hb16.block GA (hlt_ RGA2.out)).trans RGA2.out); clear hb16 HU2)
            | (refine wpList_store_row (by rfl) 37 (.tmp 22) (.tmp 141) (by rfl) w16.heap.size (supC os) (by rfl) (by rfl) 37 _ (by exact hnew _ _) (supN os) (supZ os) (supO os) ?_; rw [setRow_alloc]; have rr := hnew w16 (.cells (supC os) 37); have bb := below_new w16 (.cells (supC os) 37); generalize hw_w17 : w16.alloc (.cells (supC os) 37) = w17 at *; generalize hGC : w16.heap.size = GC at *; have HB_w17 := hid (HB_w16.out.trans ((hGC ▸ bb : Below w16.heap.size w16 w17).mono HB_w16.out.size)); have HE_w17 := hid (HE_w16.out.trans ((hGC ▸ bb : Below w16.heap.size w16 w17).mono HE_w16.out.size)); have RGC := hid rr; have RGA4 := hid (((hGC ▸ bb : Below w16.heap.size w16 w17).block GA (hlt_ RGA3.out)).trans RGA3.out); have RGB2 := hid (((hGC ▸ bb : Below w16.heap.size w16 w17).block GB (hlt_ RGB1.out)).trans RGB1.out); have c91 : w17.cell? ⟨GA, 1, none⟩ = some (.int .i64 s'.ge) := cell_sup1 RGA4.out; have c90 : w17.cell? ⟨GA, 0, none⟩ = some (.int .i64 wd) := (by rw [← HWD2.out]; exact cell_sup0 RGA4.out); have c221 : w17.cell? ⟨GC, 1, none⟩ = some (.int .i64 (s'.ge - 1)) := (by rw [← HOG.out]; exact cell_sup1 rr); clear rr bb hw_w17 hGC)
            | (refine wpList_load_supW (by rfl) (.tmp 20) (by rfl) GB (by rfl) s' RGB2.out ?_)
            | (refine wpList_load_supW (by rfl) (.tmp 18) (by rfl) GA (by rfl) s' RGA4.out ?_))
          have HG18 := hid (show GA ∉ F2 ∧ GA ≠ g2 ∧ GA < w17.heap.size from ⟨fun e => by have := (HD11.out.lt GA e).2; have := HGL.out; omega, fun e => by have := hlt_ HK11.out; have := HGL.out; omega, hlt_ RGA4.out⟩)
          have HTS := hid (show TS GA w17 base w6.heap.size p2 g2 n 0 s' _ m F2 from ⟨HD11.out.below HE_w17.out, HK11.out.below HE_w17.out, HL8.out, HG8.out, HB_w17.out.size, Nat.le_trans (Nat.le_trans BW.out HS6.out.bl.size) HB_w17.out.size, rfl, rfl, rfl, newD_np HLEN.out, Nat.le_refl _, Int.le_refl _, Int.le_refl _, by omega, ⟨hm2, hm3⟩, HG18.out⟩)
          have bN := below_new w17 (.cells #[.int .u8 1] 5)
          have HTN := hid (HTS.out.below bN)
          have HBN := hid (HB_w17.out.trans (bN.mono HB_w17.out.size))
          have RGN := hid ((bN.block GA (hlt_ RGA4.out)).trans RGA4.out)
          refine (tw_append GA _ base w6.heap.size p2 g2 n 0 s' _ m F2 HTN.out (by omega) _ 1 (src_new w17 [1] _ _ 1 (by decide) (by simp [maxLen]))).mono ?_
          rintro e w19 ⟨⟨x19, y19, rfl⟩, ⟨T9, nx9, F9, hT9⟩, hb19, hr19⟩
          have HT9 := hid hT9
          have HB19 := hid (HBN.out.trans hb19)
          have RG19 := hid (hr19.trans RGN.out)
          clear hT9 hb19 hr19 HTN HBN RGN bN HTS HG18
          go_wp2_with fail
          refine (tw_publish GA w19 base w6.heap.size p2 g2 n 1 s' T9 nx9 F9 HT9.out HS6.out.lv.val HS6.out.lv.pg (by omega)).mono ?_
          rintro e w20 ⟨⟨x20, rfl⟩, ⟨T10, F10, hD10, hE10, hF10, hx10⟩, hb20, hr20⟩
          have HB20 := hid (HB19.out.trans hb20)
          have RG20 := hid (hr20.trans RG19.out)
          have HCR := hid (tw_crash GA w20 base w6.heap.size p2 T10 F10 hD10 hE10 hF10 HB20.out.size hx10 (hlt_ RG20.out))
          clear hD10 hE10 hF10 hx10 hb20 hr20 HT9
          go_wp2_with fail
          refine HCR.out.mono ?_
          rintro e wZ ⟨⟨x21, rfl⟩, hbZ, hrZ⟩
          have HBZ := hid (HB20.out.trans hbZ)
          have RGZ := hid (hrZ.trans RG20.out)
          have HSZ := hid (HS6.out.below HBZ.out)
          have HIMZ := hid (fun (w' : World) (hb : Below wZ.heap.size wZ w') => Image_any w' base F' p D' (HSZ.out.da.below hb))
          have HLVZ := hid (fun (w' : World) (hb : Below wZ.heap.size wZ w') => (show Calls Try.prog 19 #[.pointer (some ⟨g, 0, none⟩)] w' fun e w2 => e = .returned (.int .i64 0) ∧ Below w'.heap.size w' w2 from by have := Live_any w' base F' p D' (HSZ.out.da.below hb) g s' nx' ep (HSZ.out.fk.below hb); rwa [HSZ.out.lv.live] at this))
          have HSUZ := hid (fun (w' : World) (hb : Below wZ.heap.size wZ w') => FSuper_any w' g p s' nx' ep (HSZ.out.fk.below hb))
          have HSIZ := hid (HSI.out.below HBZ.out (Nat.le_refl _))
          have HSAM := hid (fun (w' : World) (hb : Below wZ.heap.size wZ w') (sx : Option Addr) (cx : Nat) (hsx : Src w' sx cx D'.img) => (show Calls Try.prog 29 #[.slice sx (256 * n) cx, .slice (some ⟨ib, 0, none⟩) (256 * n) ic] w' fun e w2 => e = .returned (.bool true) ∧ Below w'.heap.size w' w2 from by
            have := same_any w' D'.img D'.img sx (some ⟨ib, 0, none⟩) cx ic hsx (HSIZ.out.below hb (Nat.le_refl _))
            rwa [show decide (D'.img = D'.img) = true from decide_eq_true rfl, HLEN.out] at this))
          clear hbZ hrZ HCR HB19 HB20 RG19 RG20 HB_w12 HB_w13 HB_w14 HB_w15 HB_w16 HB_w17 HE_w12 HE_w13 HE_w14 HE_w15 HE_w16 HE_w17 RGA RGA1 RGA2 RGA3 RGA4 RGB RGB1 RGB2 RGC c90 c91 c221 KB hsA hsB HD11 HK11 HB11 HB8 HK8 HD8 HSB HPG
          go_wp2_with fail
          refine wp_region_noPanic ?_
          refine wp_region_held_drew (S := fun w' => Below wZ.heap.size wZ w') (by kernel_rfl) (Below.refl _ _).drew (fun hHeld => ?_)
          refine wpAnyH_take (i := 0) (oi := { dst := some 175, op := Op.move (Operand.tmp 7), type := 24, pos := "outright.go:253", after := #[], guard := none }) (v := .pointer (some ⟨p, 0, none⟩)) rfl (by kernel_rfl) (by kernel_rfl) (by kernel_rfl) (fun _ _ _ h => h) (Or.inl ⟨by rfl, by intro w hS; go_simp⟩) hHeld ?_
          try simp only [Act.put, List.setIfInBounds_toArray, List.set_cons_zero, List.set_cons_succ]
          refine wpAnyH_take (i := 2) (oi := { dst := some 177, op := Op.move (Operand.tmp 13), type := 22, pos := "outright.go:253", after := #[], guard := none }) (v := .slice (some ⟨ib, 0, none⟩) (256 * n) ic) rfl (by kernel_rfl) (by kernel_rfl) (by kernel_rfl) (fun _ _ _ h => h) (Or.inl ⟨by rfl, by intro w hS; go_simp⟩) hHeld ?_
          try simp only [Act.put, List.setIfInBounds_toArray, List.set_cons_zero, List.set_cons_succ]
          refine wpAnyH_ready (rs := [1]) (by kernel_rfl) (by simp) ?_
          refine (AllReadyH.cons (o := { dst := some 176, op := Op.call { callee := Callee.value (Operand.func 31), args := #[Operand.tmp 175], argTypes := #[24] }, type := 22, pos := "outright.go:253", after := #[{ on := 0, ground := Ground.data }], guard := none }) rfl (fun K hK => ?_) AllReadyH.nil)
          go_simp
          go_at_call 31
          refine (HIMZ.out _ hHeld).mono ?_
          rintro e z1 ⟨vx, rfl, hOx, hbx⟩
          obtain ⟨sx, cx, hvx, hsx, _⟩ := hOx.form
          rw [HLEN.out] at hvx
          subst hvx
          have HSX2 := hid hsx
          clear hOx hsx
          go_wp2_with fail
          refine hK.out _ _ (hHeld.trans (hbx.mono hHeld.size)) (fun hHeld2 => ?_)
          clear hK K hHeld
          have hHeld := hHeld2
          clear hHeld2
          clear hbx
          try simp only [Act.put, List.setIfInBounds_toArray, List.set_cons_zero, List.set_cons_succ]
          refine wpAnyH_ready (rs := [3]) (by kernel_rfl) (by simp) ?_
          refine (AllReadyH.cons (o := { dst := some 178, op := Op.call { callee := Callee.value (Operand.func 29), args := #[Operand.tmp 176, Operand.tmp 177], argTypes := #[22, 22] }, type := 4, pos := "outright.go:253", after := #[{ on := 1, ground := Ground.data }, { on := 2, ground := Ground.data }, { on := 1, ground := Ground.chain }], guard := none }) rfl (fun K hK => ?_) AllReadyH.nil)
          go_simp
          go_at_call 29
          refine (HSAM.out _ hHeld sx cx HSX2.out).mono ?_
          rintro e z2 ⟨rfl, hbx⟩
          go_wp2_with fail
          refine hK.out _ _ (hHeld.trans (hbx.mono hHeld.size)) (fun hHeld2 => ?_)
          clear hK K hHeld
          have hHeld := hHeld2
          clear hHeld2
          clear hbx
          try simp only [Act.put, List.setIfInBounds_toArray, List.set_cons_zero, List.set_cons_succ]
          refine wpAnyH_take (i := 4) (oi := { dst := some 179, op := Op.unOp UnOp.not 4 (Operand.tmp 178), type := 4, pos := "outright.go:253", after := #[{ on := 3, ground := Ground.data }], guard := none }) (v := .bool false) rfl (by kernel_rfl) (by kernel_rfl) (by kernel_rfl) (fun _ _ _ h => h) (Or.inl ⟨by rfl, by intro w hS; go_simp⟩) hHeld ?_
          try simp only [Act.put, List.setIfInBounds_toArray, List.set_cons_zero, List.set_cons_succ]
          refine wpAnyH_take (i := 5) (oi := { dst := some 180, op := Op.move (Operand.tmp 179), type := 4, pos := "outright.go:253", after := #[{ on := 4, ground := Ground.data }, { on := 3, ground := Ground.chain }], guard := none }) (v := .bool false) rfl (by kernel_rfl) (by kernel_rfl) (by kernel_rfl) (fun _ _ _ h => h) (Or.inl ⟨by rfl, by intro w hS; go_simp⟩) hHeld ?_
          try simp only [Act.put, List.setIfInBounds_toArray, List.set_cons_zero, List.set_cons_succ]
          refine wpAnyH_take (i := 6) (oi := { dst := some 181, op := Op.move (Operand.tmp 8), type := 33, pos := "outright.go:253", after := #[{ on := 5, ground := Ground.guard }], guard := some (5, false) }) (v := .pointer (some ⟨g, 0, none⟩)) rfl (by kernel_rfl) (by kernel_rfl) (by kernel_rfl) (fun _ _ _ h => h) (Or.inl ⟨by rfl, by intro w hS; go_simp⟩) hHeld ?_
          try simp only [Act.put, List.setIfInBounds_toArray, List.set_cons_zero, List.set_cons_succ]
          refine wpAnyH_ready (rs := [7]) (by kernel_rfl) (by simp) ?_
          refine (AllReadyH.cons (o := { dst := some 182, op := Op.call { callee := Callee.value (Operand.func 19), args := #[Operand.tmp 181], argTypes := #[33] }, type := 25, pos := "outright.go:253", after := #[{ on := 6, ground := Ground.data }, { on := 5, ground := Ground.chain }, { on := 5, ground := Ground.guard }], guard := some (5, false) }) rfl (fun K hK => ?_) AllReadyH.nil)
          go_simp
          go_at_call 19
          refine (HLVZ.out _ hHeld).mono ?_
          rintro e z3 ⟨rfl, hbx⟩
          go_wp2_with fail
          refine hK.out _ _ (hHeld.trans (hbx.mono hHeld.size)) (fun hHeld2 => ?_)
          clear hK K hHeld
          have hHeld := hHeld2
          clear hHeld2
          clear hbx
          try simp only [Act.put, List.setIfInBounds_toArray, List.set_cons_zero, List.set_cons_succ]
          refine wpAnyH_take (i := 8) (oi := { dst := some 183, op := Op.binOp BinOp.neq 25 (Operand.tmp 182) (Operand.const (Value.int IntKind.i64 0)) 25, type := 4, pos := "outright.go:253", after := #[{ on := 7, ground := Ground.data }, { on := 5, ground := Ground.guard }], guard := some (5, false) }) (v := .bool false) rfl (by kernel_rfl) (by kernel_rfl) (by kernel_rfl) (fun _ _ _ h => h) (Or.inl ⟨by rfl, by intro w hS; go_simp⟩) hHeld ?_
          try simp only [Act.put, List.setIfInBounds_toArray, List.set_cons_zero, List.set_cons_succ]
          refine wpAnyH_take (i := 9) (oi := { dst := some 184, op := Op.pick (Operand.tmp 180) (Operand.const (Value.bool true)) (Operand.tmp 183), type := 4, pos := "outright.go:253", after := #[{ on := 5, ground := Ground.data }, { on := 8, ground := Ground.data }], guard := none }) (v := .bool false) rfl (by kernel_rfl) (by kernel_rfl) (by kernel_rfl) (fun _ _ _ h => h) (Or.inl ⟨by rfl, by intro w hS; go_simp⟩) hHeld ?_
          try simp only [Act.put, List.setIfInBounds_toArray, List.set_cons_zero, List.set_cons_succ]
          refine wpAnyH_take (i := 10) (oi := { dst := some 185, op := Op.move (Operand.tmp 184), type := 4, pos := "outright.go:253", after := #[{ on := 9, ground := Ground.data }, { on := 7, ground := Ground.chain }], guard := none }) (v := .bool false) rfl (by kernel_rfl) (by kernel_rfl) (by kernel_rfl) (fun _ _ _ h => h) (Or.inl ⟨by rfl, by intro w hS; go_simp⟩) hHeld ?_
          try simp only [Act.put, List.setIfInBounds_toArray, List.set_cons_zero, List.set_cons_succ]
          refine wpAnyH_take (i := 11) (oi := { dst := some 186, op := Op.move (Operand.tmp 8), type := 33, pos := "outright.go:253", after := #[{ on := 10, ground := Ground.guard }], guard := some (10, false) }) (v := .pointer (some ⟨g, 0, none⟩)) rfl (by kernel_rfl) (by kernel_rfl) (by kernel_rfl) (fun _ _ _ h => h) (Or.inl ⟨by rfl, by intro w hS; go_simp⟩) hHeld ?_
          try simp only [Act.put, List.setIfInBounds_toArray, List.set_cons_zero, List.set_cons_succ]
          refine wpAnyH_take (i := 13) (oi := { dst := some 188, op := Op.load 37 (Operand.tmp 18), type := 37, pos := "outright.go:253", after := #[{ on := 10, ground := Ground.guard }], guard := some (10, false) }) (v := .agg (supC s')) rfl (by kernel_rfl) (by kernel_rfl) (by kernel_rfl) (fun _ _ _ h => h) (yieldsIf_load_sup (by rfl) (.tmp 18) rfl GA rfl s' (fun w1 hS => (hS.block GA (hlt_ RGZ.out)).trans RGZ.out)) hHeld ?_
          try simp only [Act.put, List.setIfInBounds_toArray, List.set_cons_zero, List.set_cons_succ]
          refine wpAnyH_ready (rs := [12]) (by kernel_rfl) (by simp) ?_
          refine (AllReadyH.cons (o := { dst := some 187, op := Op.call { callee := Callee.value (Operand.func 17), args := #[Operand.tmp 186], argTypes := #[33] }, type := 37, pos := "outright.go:253", after := #[{ on := 11, ground := Ground.data }, { on := 10, ground := Ground.chain }, { on := 10, ground := Ground.guard }], guard := some (10, false) }) rfl (fun K hK => ?_) AllReadyH.nil)
          go_simp
          go_at_call 17
          refine (HSUZ.out _ hHeld).mono ?_
          rintro e z4 ⟨rfl, hbx⟩
          go_wp2_with fail
          refine hK.out _ _ (hHeld.trans (hbx.mono hHeld.size)) (fun hHeld2 => ?_)
          clear hK K hHeld
          have hHeld := hHeld2
          clear hHeld2
          clear hbx
          try simp only [Act.put, List.setIfInBounds_toArray, List.set_cons_zero, List.set_cons_succ]
          refine wpAnyH_take (i := 14) (oi := { dst := some 189, op := Op.binOp BinOp.neq 37 (Operand.tmp 187) (Operand.tmp 188) 37, type := 4, pos := "outright.go:253", after := #[{ on := 12, ground := Ground.data }, { on := 13, ground := Ground.data }, { on := 10, ground := Ground.guard }], guard := some (10, false) }) (v := .bool false) rfl (by kernel_rfl) (by kernel_rfl) (by kernel_rfl) (fun _ _ _ h => h) (Or.inl ⟨by rfl, by intro w hS; (have KQ2 := KQ; have KG2 := KG; go_simp)⟩) hHeld ?_
          try simp only [Act.put, List.setIfInBounds_toArray, List.set_cons_zero, List.set_cons_succ]
          refine wpAnyH_take (i := 15) (oi := { dst := some 190, op := Op.pick (Operand.tmp 185) (Operand.const (Value.bool true)) (Operand.tmp 189), type := 4, pos := "outright.go:253", after := #[{ on := 10, ground := Ground.data }, { on := 14, ground := Ground.data }], guard := none }) (v := .bool false) rfl (by kernel_rfl) (by kernel_rfl) (by kernel_rfl) (fun _ _ _ h => h) (Or.inl ⟨by rfl, by intro w hS; go_simp⟩) hHeld ?_
          try simp only [Act.put, List.setIfInBounds_toArray, List.set_cons_zero, List.set_cons_succ]
          refine wpAnyH_done (by kernel_rfl) ?_ _
          refine NoPanic.normal ?_
          go_wp2_with fail
          refine ⟨⟨i + 1, D', s', nx', ep, B', F', G', by omega, by omega, by go_num, by have := (HSZ.out.below hHeld).more; rw [show 2 * (i + 1) = 2 * i + 1 + 1 by omega]; exact this, HAR2.out, HWD2.out, HGE2.out⟩, by simp [intOf]; omega⟩
        · obtain ⟨c2, hc2⟩ : ∃ c2, c2 = ic - 256 := ⟨_, rfl⟩
          have HU1 := hid (show ∀ (w' : World), Below w6.heap.size w6 w' → Calls Try.prog 34 #[.slice (some ⟨ib, 256, none⟩) 256 c2] w' fun e w2 => e = .returned (.tuple #[.agg (supC s'), .int .i64 0]) ∧ Below w'.heap.size w' w2 from fun w' hb => by rw [hc2]; exact HUG.out w' hb 1 (by omega) s' hu1)
          have HU2 := hid (show ∀ (w' : World), Below w6.heap.size w6 w' → Calls Try.prog 34 #[.slice (some ⟨ib, 0, none⟩) 256 ic] w' fun e w2 => e = .returned (.tuple #[.agg (supC os), .int .i64 0]) ∧ Below w'.heap.size w' w2 from fun w' hb => HUG.out w' hb 0 (by omega) os hu2)
          rw [← hc2] at hsB
          clear hc2 HUG hu1 hu2 hkk1 hk2
          change s'.ge.tmod 2 = 1 at hrem
          have hnn : ((256 * n : Nat) : Int) = 256 * (n : Int) := by push_cast; rfl
          have KB := build1
          rw [HLEN.out]
          go_wp2_with (first
            | (go_at_call 17; refine HSC.out.mono ?_; rintro e w12 ⟨rfl, hb12⟩; have HB_w12 := hid (HB11.out.trans (hb12.mono HB11.out.size)); have HE_w12 := hid hb12; clear hb12 HSC)
            | (refine wpList_store_row (by rfl) 37 (.tmp 18) (.tmp 109) (by rfl) w12.heap.size (supC s') (by rfl) (by rfl) 37 _ (by exact hnew _ _) (supN s') (supZ s') (supO s') ?_; rw [setRow_alloc]; have rr := hnew w12 (.cells (supC s') 37); have bb := below_new w12 (.cells (supC s') 37); generalize hw_w13 : w12.alloc (.cells (supC s') 37) = w13 at *; generalize hGA : w12.heap.size = GA at *; have HGL := hid (show w11.heap.size ≤ GA by rw [← hGA]; exact HE_w12.out.size); have HB_w13 := hid (HB_w12.out.trans ((hGA ▸ bb : Below w12.heap.size w12 w13).mono HB_w12.out.size)); have HE_w13 := hid (HE_w12.out.trans ((hGA ▸ bb : Below w12.heap.size w12 w13).mono HE_w12.out.size)); have RGA := hid rr; clear rr bb hw_w13 hGA; have c91 : w13.cell? ⟨GA, 1, none⟩ = some (.int .i64 s'.ge) := cell_sup1 RGA.out)
            | (go_at_call 34; refine (HU1.out w13 HB_w13.out).mono ?_; rintro e w14 ⟨rfl, hb14⟩; have HB_w14 := hid (HB_w13.out.trans (hb14.mono HB_w13.out.size)); have HE_w14 := hid (HE_w13.out.trans (hb14.mono HE_w13.out.size)); have RGA1 := hid ((hb14.block GA (hlt_ RGA.out)).trans RGA.out); clear hb14 c91 HU1)
            | (refine wpList_store_row (by rfl) 37 (.tmp 20) (.tmp 131) (by rfl) w14.heap.size (supC s') (by rfl) (by rfl) 37 _ (by exact hnew _ _) (supN s') (supZ s') (supO s') ?_; rw [setRow_alloc]; have rr := hnew w14 (.cells (supC s') 37); have bb := below_new w14 (.cells (supC s') 37); generalize hw_w15 : w14.alloc (.cells (supC s') 37) = w15 at *; generalize hGB : w14.heap.size = GB at *; have HB_w15 := hid (HB_w14.out.trans ((hGB ▸ bb : Below w14.heap.size w14 w15).mono HB_w14.out.size)); have HE_w15 := hid (HE_w14.out.trans ((hGB ▸ bb : Below w14.heap.size w14 w15).mono HE_w14.out.size)); have RGB := hid rr; have RGA2 := hid (((hGB ▸ bb : Below w14.heap.size w14 w15).block GA (hlt_ RGA1.out)).trans RGA1.out); clear rr bb hw_w15 hGB)
            | (go_at_call 34; refine (HU2.out w15 HB_w15.out).mono ?_; rintro e w16 ⟨rfl, hb16⟩; have HB_w16 := hid (HB_w15.out.trans (hb16.mono HB_w15.out.size)); have HE_w16 := hid (HE_w15.out.trans (hb16.mono HE_w15.out.size)); have RGB1 := hid ((hb16.block GB (hlt_ RGB.out)).trans RGB.out); have RGA3 := hid ((hb16.block GA (hlt_ RGA2.out)).trans RGA2.out); clear hb16 HU2)
            | (refine wpList_store_row (by rfl) 37 (.tmp 22) (.tmp 141) (by rfl) w16.heap.size (supC os) (by rfl) (by rfl) 37 _ (by exact hnew _ _) (supN os) (supZ os) (supO os) ?_; rw [setRow_alloc]; have rr := hnew w16 (.cells (supC os) 37); have bb := below_new w16 (.cells (supC os) 37); generalize hw_w17 : w16.alloc (.cells (supC os) 37) = w17 at *; generalize hGC : w16.heap.size = GC at *; have HB_w17 := hid (HB_w16.out.trans ((hGC ▸ bb : Below w16.heap.size w16 w17).mono HB_w16.out.size)); have HE_w17 := hid (HE_w16.out.trans ((hGC ▸ bb : Below w16.heap.size w16 w17).mono HE_w16.out.size)); have RGC := hid rr; have RGA4 := hid (((hGC ▸ bb : Below w16.heap.size w16 w17).block GA (hlt_ RGA3.out)).trans RGA3.out); have RGB2 := hid (((hGC ▸ bb : Below w16.heap.size w16 w17).block GB (hlt_ RGB1.out)).trans RGB1.out); have c91 : w17.cell? ⟨GA, 1, none⟩ = some (.int .i64 s'.ge) := cell_sup1 RGA4.out; have c90 : w17.cell? ⟨GA, 0, none⟩ = some (.int .i64 wd) := (by rw [← HWD2.out]; exact cell_sup0 RGA4.out); have c221 : w17.cell? ⟨GC, 1, none⟩ = some (.int .i64 (s'.ge - 1)) := (by rw [← HOG.out]; exact cell_sup1 rr); clear rr bb hw_w17 hGC)
            | (refine wpList_load_supW (by rfl) (.tmp 20) (by rfl) GB (by rfl) s' RGB2.out ?_)
            | (refine wpList_load_supW (by rfl) (.tmp 18) (by rfl) GA (by rfl) s' RGA4.out ?_))
          have HG18 := hid (show GA ∉ F2 ∧ GA ≠ g2 ∧ GA < w17.heap.size from ⟨fun e => by have := (HD11.out.lt GA e).2; have := HGL.out; omega, fun e => by have := hlt_ HK11.out; have := HGL.out; omega, hlt_ RGA4.out⟩)
          have HTS := hid (show TS GA w17 base w6.heap.size p2 g2 n 0 s' _ m F2 from ⟨HD11.out.below HE_w17.out, HK11.out.below HE_w17.out, HL8.out, HG8.out, HB_w17.out.size, Nat.le_trans (Nat.le_trans BW.out HS6.out.bl.size) HB_w17.out.size, rfl, rfl, rfl, newD_np HLEN.out, Nat.le_refl _, Int.le_refl _, Int.le_refl _, by omega, ⟨hm2, hm3⟩, HG18.out⟩)
          have bN := below_new w17 (.cells #[.int .u8 1] 5)
          have HTN := hid (HTS.out.below bN)
          have HBN := hid (HB_w17.out.trans (bN.mono HB_w17.out.size))
          have RGN := hid ((bN.block GA (hlt_ RGA4.out)).trans RGA4.out)
          refine (tw_append GA _ base w6.heap.size p2 g2 n 0 s' _ m F2 HTN.out (by omega) _ 1 (src_new w17 [1] _ _ 1 (by decide) (by simp [maxLen]))).mono ?_
          rintro e w19 ⟨⟨x19, y19, rfl⟩, ⟨T9, nx9, F9, hT9⟩, hb19, hr19⟩
          have HT9 := hid hT9
          have HB19 := hid (HBN.out.trans hb19)
          have RG19 := hid (hr19.trans RGN.out)
          clear hT9 hb19 hr19 HTN HBN RGN bN HTS HG18
          go_wp2_with fail
          refine (tw_publish GA w19 base w6.heap.size p2 g2 n 1 s' T9 nx9 F9 HT9.out HS6.out.lv.val HS6.out.lv.pg (by omega)).mono ?_
          rintro e w20 ⟨⟨x20, rfl⟩, ⟨T10, F10, hD10, hE10, hF10, hx10⟩, hb20, hr20⟩
          have HB20 := hid (HB19.out.trans hb20)
          have RG20 := hid (hr20.trans RG19.out)
          have HCR := hid (tw_crash GA w20 base w6.heap.size p2 T10 F10 hD10 hE10 hF10 HB20.out.size hx10 (hlt_ RG20.out))
          clear hD10 hE10 hF10 hx10 hb20 hr20 HT9
          go_wp2_with fail
          refine HCR.out.mono ?_
          rintro e wZ ⟨⟨x21, rfl⟩, hbZ, hrZ⟩
          have HBZ := hid (HB20.out.trans hbZ)
          have RGZ := hid (hrZ.trans RG20.out)
          have HSZ := hid (HS6.out.below HBZ.out)
          have HIMZ := hid (fun (w' : World) (hb : Below wZ.heap.size wZ w') => Image_any w' base F' p D' (HSZ.out.da.below hb))
          have HLVZ := hid (fun (w' : World) (hb : Below wZ.heap.size wZ w') => (show Calls Try.prog 19 #[.pointer (some ⟨g, 0, none⟩)] w' fun e w2 => e = .returned (.int .i64 0) ∧ Below w'.heap.size w' w2 from by have := Live_any w' base F' p D' (HSZ.out.da.below hb) g s' nx' ep (HSZ.out.fk.below hb); rwa [HSZ.out.lv.live] at this))
          have HSUZ := hid (fun (w' : World) (hb : Below wZ.heap.size wZ w') => FSuper_any w' g p s' nx' ep (HSZ.out.fk.below hb))
          have HSIZ := hid (HSI.out.below HBZ.out (Nat.le_refl _))
          have HSAM := hid (fun (w' : World) (hb : Below wZ.heap.size wZ w') (sx : Option Addr) (cx : Nat) (hsx : Src w' sx cx D'.img) => (show Calls Try.prog 29 #[.slice sx (256 * n) cx, .slice (some ⟨ib, 0, none⟩) (256 * n) ic] w' fun e w2 => e = .returned (.bool true) ∧ Below w'.heap.size w' w2 from by
            have := same_any w' D'.img D'.img sx (some ⟨ib, 0, none⟩) cx ic hsx (HSIZ.out.below hb (Nat.le_refl _))
            rwa [show decide (D'.img = D'.img) = true from decide_eq_true rfl, HLEN.out] at this))
          clear hbZ hrZ HCR HB19 HB20 RG19 RG20 HB_w12 HB_w13 HB_w14 HB_w15 HB_w16 HB_w17 HE_w12 HE_w13 HE_w14 HE_w15 HE_w16 HE_w17 RGA RGA1 RGA2 RGA3 RGA4 RGB RGB1 RGB2 RGC c90 c91 c221 KB hsA hsB HD11 HK11 HB11 HB8 HK8 HD8 HSB HPG
          go_wp2_with fail
          refine wp_region_noPanic ?_
          refine wp_region_held_drew (S := fun w' => Below wZ.heap.size wZ w') (by kernel_rfl) (Below.refl _ _).drew (fun hHeld => ?_)
          refine wpAnyH_take (i := 0) (oi := { dst := some 175, op := Op.move (Operand.tmp 7), type := 24, pos := "outright.go:253", after := #[], guard := none }) (v := .pointer (some ⟨p, 0, none⟩)) rfl (by kernel_rfl) (by kernel_rfl) (by kernel_rfl) (fun _ _ _ h => h) (Or.inl ⟨by rfl, by intro w hS; go_simp⟩) hHeld ?_
          try simp only [Act.put, List.setIfInBounds_toArray, List.set_cons_zero, List.set_cons_succ]
          refine wpAnyH_take (i := 2) (oi := { dst := some 177, op := Op.move (Operand.tmp 13), type := 22, pos := "outright.go:253", after := #[], guard := none }) (v := .slice (some ⟨ib, 0, none⟩) (256 * n) ic) rfl (by kernel_rfl) (by kernel_rfl) (by kernel_rfl) (fun _ _ _ h => h) (Or.inl ⟨by rfl, by intro w hS; go_simp⟩) hHeld ?_
          try simp only [Act.put, List.setIfInBounds_toArray, List.set_cons_zero, List.set_cons_succ]
          refine wpAnyH_ready (rs := [1]) (by kernel_rfl) (by simp) ?_
          refine (AllReadyH.cons (o := { dst := some 176, op := Op.call { callee := Callee.value (Operand.func 31), args := #[Operand.tmp 175], argTypes := #[24] }, type := 22, pos := "outright.go:253", after := #[{ on := 0, ground := Ground.data }], guard := none }) rfl (fun K hK => ?_) AllReadyH.nil)
          go_simp
          go_at_call 31
          refine (HIMZ.out _ hHeld).mono ?_
          rintro e z1 ⟨vx, rfl, hOx, hbx⟩
          obtain ⟨sx, cx, hvx, hsx, _⟩ := hOx.form
          rw [HLEN.out] at hvx
          subst hvx
          have HSX2 := hid hsx
          clear hOx hsx
          go_wp2_with fail
          refine hK.out _ _ (hHeld.trans (hbx.mono hHeld.size)) (fun hHeld2 => ?_)
          clear hK K hHeld
          have hHeld := hHeld2
          clear hHeld2
          clear hbx
          try simp only [Act.put, List.setIfInBounds_toArray, List.set_cons_zero, List.set_cons_succ]
          refine wpAnyH_ready (rs := [3]) (by kernel_rfl) (by simp) ?_
          refine (AllReadyH.cons (o := { dst := some 178, op := Op.call { callee := Callee.value (Operand.func 29), args := #[Operand.tmp 176, Operand.tmp 177], argTypes := #[22, 22] }, type := 4, pos := "outright.go:253", after := #[{ on := 1, ground := Ground.data }, { on := 2, ground := Ground.data }, { on := 1, ground := Ground.chain }], guard := none }) rfl (fun K hK => ?_) AllReadyH.nil)
          go_simp
          go_at_call 29
          refine (HSAM.out _ hHeld sx cx HSX2.out).mono ?_
          rintro e z2 ⟨rfl, hbx⟩
          go_wp2_with fail
          refine hK.out _ _ (hHeld.trans (hbx.mono hHeld.size)) (fun hHeld2 => ?_)
          clear hK K hHeld
          have hHeld := hHeld2
          clear hHeld2
          clear hbx
          try simp only [Act.put, List.setIfInBounds_toArray, List.set_cons_zero, List.set_cons_succ]
          refine wpAnyH_take (i := 4) (oi := { dst := some 179, op := Op.unOp UnOp.not 4 (Operand.tmp 178), type := 4, pos := "outright.go:253", after := #[{ on := 3, ground := Ground.data }], guard := none }) (v := .bool false) rfl (by kernel_rfl) (by kernel_rfl) (by kernel_rfl) (fun _ _ _ h => h) (Or.inl ⟨by rfl, by intro w hS; go_simp⟩) hHeld ?_
          try simp only [Act.put, List.setIfInBounds_toArray, List.set_cons_zero, List.set_cons_succ]
          refine wpAnyH_take (i := 5) (oi := { dst := some 180, op := Op.move (Operand.tmp 179), type := 4, pos := "outright.go:253", after := #[{ on := 4, ground := Ground.data }, { on := 3, ground := Ground.chain }], guard := none }) (v := .bool false) rfl (by kernel_rfl) (by kernel_rfl) (by kernel_rfl) (fun _ _ _ h => h) (Or.inl ⟨by rfl, by intro w hS; go_simp⟩) hHeld ?_
          try simp only [Act.put, List.setIfInBounds_toArray, List.set_cons_zero, List.set_cons_succ]
          refine wpAnyH_take (i := 6) (oi := { dst := some 181, op := Op.move (Operand.tmp 8), type := 33, pos := "outright.go:253", after := #[{ on := 5, ground := Ground.guard }], guard := some (5, false) }) (v := .pointer (some ⟨g, 0, none⟩)) rfl (by kernel_rfl) (by kernel_rfl) (by kernel_rfl) (fun _ _ _ h => h) (Or.inl ⟨by rfl, by intro w hS; go_simp⟩) hHeld ?_
          try simp only [Act.put, List.setIfInBounds_toArray, List.set_cons_zero, List.set_cons_succ]
          refine wpAnyH_ready (rs := [7]) (by kernel_rfl) (by simp) ?_
          refine (AllReadyH.cons (o := { dst := some 182, op := Op.call { callee := Callee.value (Operand.func 19), args := #[Operand.tmp 181], argTypes := #[33] }, type := 25, pos := "outright.go:253", after := #[{ on := 6, ground := Ground.data }, { on := 5, ground := Ground.chain }, { on := 5, ground := Ground.guard }], guard := some (5, false) }) rfl (fun K hK => ?_) AllReadyH.nil)
          go_simp
          go_at_call 19
          refine (HLVZ.out _ hHeld).mono ?_
          rintro e z3 ⟨rfl, hbx⟩
          go_wp2_with fail
          refine hK.out _ _ (hHeld.trans (hbx.mono hHeld.size)) (fun hHeld2 => ?_)
          clear hK K hHeld
          have hHeld := hHeld2
          clear hHeld2
          clear hbx
          try simp only [Act.put, List.setIfInBounds_toArray, List.set_cons_zero, List.set_cons_succ]
          refine wpAnyH_take (i := 8) (oi := { dst := some 183, op := Op.binOp BinOp.neq 25 (Operand.tmp 182) (Operand.const (Value.int IntKind.i64 0)) 25, type := 4, pos := "outright.go:253", after := #[{ on := 7, ground := Ground.data }, { on := 5, ground := Ground.guard }], guard := some (5, false) }) (v := .bool false) rfl (by kernel_rfl) (by kernel_rfl) (by kernel_rfl) (fun _ _ _ h => h) (Or.inl ⟨by rfl, by intro w hS; go_simp⟩) hHeld ?_
          try simp only [Act.put, List.setIfInBounds_toArray, List.set_cons_zero, List.set_cons_succ]
          refine wpAnyH_take (i := 9) (oi := { dst := some 184, op := Op.pick (Operand.tmp 180) (Operand.const (Value.bool true)) (Operand.tmp 183), type := 4, pos := "outright.go:253", after := #[{ on := 5, ground := Ground.data }, { on := 8, ground := Ground.data }], guard := none }) (v := .bool false) rfl (by kernel_rfl) (by kernel_rfl) (by kernel_rfl) (fun _ _ _ h => h) (Or.inl ⟨by rfl, by intro w hS; go_simp⟩) hHeld ?_
          try simp only [Act.put, List.setIfInBounds_toArray, List.set_cons_zero, List.set_cons_succ]
          refine wpAnyH_take (i := 10) (oi := { dst := some 185, op := Op.move (Operand.tmp 184), type := 4, pos := "outright.go:253", after := #[{ on := 9, ground := Ground.data }, { on := 7, ground := Ground.chain }], guard := none }) (v := .bool false) rfl (by kernel_rfl) (by kernel_rfl) (by kernel_rfl) (fun _ _ _ h => h) (Or.inl ⟨by rfl, by intro w hS; go_simp⟩) hHeld ?_
          try simp only [Act.put, List.setIfInBounds_toArray, List.set_cons_zero, List.set_cons_succ]
          refine wpAnyH_take (i := 11) (oi := { dst := some 186, op := Op.move (Operand.tmp 8), type := 33, pos := "outright.go:253", after := #[{ on := 10, ground := Ground.guard }], guard := some (10, false) }) (v := .pointer (some ⟨g, 0, none⟩)) rfl (by kernel_rfl) (by kernel_rfl) (by kernel_rfl) (fun _ _ _ h => h) (Or.inl ⟨by rfl, by intro w hS; go_simp⟩) hHeld ?_
          try simp only [Act.put, List.setIfInBounds_toArray, List.set_cons_zero, List.set_cons_succ]
          refine wpAnyH_take (i := 13) (oi := { dst := some 188, op := Op.load 37 (Operand.tmp 18), type := 37, pos := "outright.go:253", after := #[{ on := 10, ground := Ground.guard }], guard := some (10, false) }) (v := .agg (supC s')) rfl (by kernel_rfl) (by kernel_rfl) (by kernel_rfl) (fun _ _ _ h => h) (yieldsIf_load_sup (by rfl) (.tmp 18) rfl GA rfl s' (fun w1 hS => (hS.block GA (hlt_ RGZ.out)).trans RGZ.out)) hHeld ?_
          try simp only [Act.put, List.setIfInBounds_toArray, List.set_cons_zero, List.set_cons_succ]
          refine wpAnyH_ready (rs := [12]) (by kernel_rfl) (by simp) ?_
          refine (AllReadyH.cons (o := { dst := some 187, op := Op.call { callee := Callee.value (Operand.func 17), args := #[Operand.tmp 186], argTypes := #[33] }, type := 37, pos := "outright.go:253", after := #[{ on := 11, ground := Ground.data }, { on := 10, ground := Ground.chain }, { on := 10, ground := Ground.guard }], guard := some (10, false) }) rfl (fun K hK => ?_) AllReadyH.nil)
          go_simp
          go_at_call 17
          refine (HSUZ.out _ hHeld).mono ?_
          rintro e z4 ⟨rfl, hbx⟩
          go_wp2_with fail
          refine hK.out _ _ (hHeld.trans (hbx.mono hHeld.size)) (fun hHeld2 => ?_)
          clear hK K hHeld
          have hHeld := hHeld2
          clear hHeld2
          clear hbx
          try simp only [Act.put, List.setIfInBounds_toArray, List.set_cons_zero, List.set_cons_succ]
          refine wpAnyH_take (i := 14) (oi := { dst := some 189, op := Op.binOp BinOp.neq 37 (Operand.tmp 187) (Operand.tmp 188) 37, type := 4, pos := "outright.go:253", after := #[{ on := 12, ground := Ground.data }, { on := 13, ground := Ground.data }, { on := 10, ground := Ground.guard }], guard := some (10, false) }) (v := .bool false) rfl (by kernel_rfl) (by kernel_rfl) (by kernel_rfl) (fun _ _ _ h => h) (Or.inl ⟨by rfl, by intro w hS; (have KQ2 := KQ; have KG2 := KG; go_simp)⟩) hHeld ?_
          try simp only [Act.put, List.setIfInBounds_toArray, List.set_cons_zero, List.set_cons_succ]
          refine wpAnyH_take (i := 15) (oi := { dst := some 190, op := Op.pick (Operand.tmp 185) (Operand.const (Value.bool true)) (Operand.tmp 189), type := 4, pos := "outright.go:253", after := #[{ on := 10, ground := Ground.data }, { on := 14, ground := Ground.data }], guard := none }) (v := .bool false) rfl (by kernel_rfl) (by kernel_rfl) (by kernel_rfl) (fun _ _ _ h => h) (Or.inl ⟨by rfl, by intro w hS; go_simp⟩) hHeld ?_
          try simp only [Act.put, List.setIfInBounds_toArray, List.set_cons_zero, List.set_cons_succ]
          refine wpAnyH_done (by kernel_rfl) ?_ _
          refine NoPanic.normal ?_
          go_wp2_with fail
          refine ⟨⟨i + 1, D', s', nx', ep, B', F', G', by omega, by omega, by go_num, by have := (HSZ.out.below hHeld).more; rw [show 2 * (i + 1) = 2 * i + 1 + 1 by omega]; exact this, HAR2.out, HWD2.out, HGE2.out⟩, by simp [intOf]; omega⟩
    · have HBE := hid hS.bl
      clear hS harm hwd hge
      by_cases hx : i < ac.length
      · have k1 : (i : Int) < (ac.length : Int) := by omega
        have k2 : ¬ (i : Int) < 60 := by omega
        have k3 : i < ac.length := hx
        have k4 : ¬ i < 60 := by omega
        clear hlt
        go_wp2
        go_ret
        exact ⟨rfl, HBE.out⟩
      · have k1 : ¬ (i : Int) < (ac.length : Int) := by omega
        clear hlt
        go_wp2
        go_ret
        exact ⟨rfl, HBE.out⟩
end Go.Proofs.Ytbgjnihkiolmlaa
