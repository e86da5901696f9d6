import Derived.Test.YtbgjnihkiolmlaaGc
namespace Go.Proofs.Ytbgjnihkiolmlaa
set_option linter.unusedVariables false
set_option linter.unusedSimpArgs false
open Go.RowKit
attribute [local go_sem ↓] Go.wp_at_zero Go.wp_at_succ


theorem past_keep {X Y : List Int} {n mk : Nat} (h1 : X.length = 256 * n) (h2 : Y.length = 256 * n) (hmk : mk ≤ n) (hk : ∀ q, 2 ≤ q → q < mk → pgO Y q = pgO X q) : (Y.drop 512).take (256 * (mk - 2)) = (X.drop 512).take (256 * (mk - 2)) := by
  refine list_ext0 (by simp [h1, h2]) fun j hj => ?_
  have hj2 : j < 256 * (mk - 2) := by rw [List.length_take] at hj; omega
  have g : ∀ Z : List Int, ((Z.drop 512).take (256 * (mk - 2))).getD j 0 = (pgO Z ((512 + j) / 256)).getD ((512 + j) % 256) 0 := fun Z => by
    rw [pgO_get _ _ _ (by omega), List.getD_eq_getElem?_getD, List.getElem?_take, if_pos hj2, List.getElem?_drop, ← List.getD_eq_getElem?_getD]
    congr 1; omega
  rw [g, g, hk _ (by omega) (by omega)]
theorem sl_cut (w : World) (g L cap l h : Nat) (h1 : l ≤ h) (h2 : h ≤ cap) (h3 : l < cap) (x y : Int) (hx : x = (l : Int)) (hy : y = (h : Int)) : (Instr.slice 22 (.slice (some ⟨g, 0, none⟩) L cap) (some (.int .i64 x)) (some (.int .i64 y)) none).run Try.prog w = .ok (.slice (some ⟨g, l, none⟩) (h - l) (cap - l)) w := by
  subst hx hy
  have hz : (sizeOf (Try.prog.elem 22)).run Try.prog w = .ok 1 w := by kernel_rfl
  rw [run_slice_lh w 22 _ _ _ (by kernel_rfl) .i64 .i64 l h (by omega) (by omega) (by omega), hz]
  simp only [Result.andThen_ok, sliced, Int.toNat_natCast, Nat.mul_one, if_neg (show ¬ cap = l by omega), Option.map_some, Addr.add_mid, Nat.zero_add]
/-- The bytes that may not change. -/
structure Ps (wr : World) (base g : Nat) (F G : List Nat) (D : DS) (s : Sup) (n : Nat) (pv : Value) (P : List Int) : Prop where
  own : Own wr base pv P
  no : ∀ k, pv.ownBlock = some k → k ∉ F ∧ k ∉ G ∧ k ≠ g
  was : ∃ mk : Nat, 2 ≤ mk ∧ mk ≤ n ∧ (mk : Int) ≤ s.ma ∧ P = (D.img.drop 512).take (256 * (mk - 2)) ∧ P.length = 256 * (mk - 2)
theorem Ps.lt {wr : World} {base g : Nat} {F G : List Nat} {D : DS} {s : Sup} {n : Nat} {pv : Value} {P : List Int} (h : Ps wr base g F G D s n pv P) : ∀ k, pv.ownBlock = some k → k < wr.heap.size := fun k e => by
  obtain ⟨_, cur, hh⟩ := ownsRow_block h.own k e; exact hlt_ hh
theorem Ps.below {wr w2 : World} {base g : Nat} {F G : List Nat} {D : DS} {s : Sup} {n : Nat} {pv : Value} {P : List Int} (h : Ps wr base g F G D s n pv P) (hb : Below wr.heap.size wr w2) : Ps w2 base g F G D s n pv P :=
  ⟨h.own.heap fun k e => hb.block k (h.lt k e), h.no, h.was⟩
theorem Ps.step {wr w2 : World} {base g g' : Nat} {F G F' G' L : List Nat} {D D' : DS} {s s' : Sup} {n : Nat} {pv : Value} {P : List Int} (h : Ps wr base g F G D s n pv P) (hL : ∀ k ∈ L, k = g ∨ k ∈ F ∨ k ∈ G) (hf : Fr L wr w2) (hF : Gr wr F F') (hG : Gr wr G G') (hg : g' = g ∨ wr.heap.size ≤ g') (hn : D.img.length = 256 * n) (hn' : D'.img.length = 256 * n) (hm : s.ma ≤ s'.ma) (hk : ∀ q : Nat, 2 ≤ q → (q : Int) < s.ma → pgO D'.img q = pgO D.img q) : Ps w2 base g' F' G' D' s' n pv P := by
  refine ⟨h.own.heap fun k e => hf.block k (h.lt k e) (fun q => ?_), fun k e => ?_, ?_⟩
  · obtain ⟨n1, n2, n3⟩ := h.no k e
    rcases hL k q with x | x | x
    · exact n3 x
    · exact n1 x
    · exact n2 x
  · obtain ⟨n1, n2, n3⟩ := h.no k e
    have hl := h.lt k e
    refine ⟨fun q => ?_, fun q => ?_, fun q => ?_⟩
    · rcases hF k q with x | x
      · exact n1 x
      · omega
    · rcases hG k q with x | x
      · exact n2 x
      · omega
    · rcases hg with x | x
      · exact n3 (q.trans x)
      · omega
  · obtain ⟨mk, a1, a2, a3, a4, a5⟩ := h.was
    refine ⟨mk, a1, a2, by omega, ?_, a5⟩
    rw [a4]
    exact (past_keep hn hn' a2 (fun q h2 hq => hk q h2 (by omega))).symm
set_option maxRecDepth 100000 in
set_option maxHeartbeats 4000000 in
theorem stands_in (w : World) (n : Nat) (wd : Int) (hn : 3 ≤ n ∧ n ≤ 64) (hw : 1 ≤ wd ∧ wd ≤ 32) (ac : List AC) (hok : ∀ a ∈ ac, AcOk a) (sp : Option Addr) (cap : Nat) (hA : Acs w w.heap.size sp ac) (hal : (ac.length : Int) ≤ 9223372036854775807) (fs : List Int) (hfb : Bts fs) (sq : Option Addr) (caq : Nat) (hF : Src w sq caq fs) (hFB : ∀ a, 0 < fs.length → sq = some a → a.block < w.heap.size) :
    Calls Try.prog 7 #[.int .i64 n, .int .i64 wd, .slice sp ac.length cap, .slice sq fs.length caq] w fun e w' => e = .returned (.bool true) ∧ Below w.heap.size w w' := by
  have HFT := hid (fits_yes w n wd ⟨by omega, by omega, hw.1, hw.2⟩)
  have HFR := hid (fresh_in w n wd hn hw)
  obtain ⟨base, hbase⟩ : ∃ base, base = w.heap.size := ⟨_, rfl⟩
  rw [← hbase] at HFR hA hFB ⊢
  have BW := hid (show base ≤ w.heap.size by omega)
  have HA := hid hA
  have HFS := hid hF
  have HFK := hid hFB
  have HOK := hid hok
  have HFB := hid hfb
  have HBK := build_book
  have nn1 : 3 ≤ (n : Int) := by omega
  have nn2 : (n : Int) ≤ 64 := by omega
  clear hA hF hok hfb hbase hn hw hFB
  go_enter Try.func7, Try.ntmps7
  go_wp2_with (first | (go_at_call 9; refine HFT.out.mono ?_; rintro e w0 ⟨rfl, rfl⟩))
  refine HFR.out.mono ?_
  rintro e w1 ⟨p, g, F, D, rfl, hD1, hK1, hg1, hlv1, harm1, hB1⟩
  have HD1 := hid hD1
  have HK1 := hid hK1
  have HG1 := hid hg1
  have HLV1 := hid hlv1
  have HB1 := hid hB1
  clear hD1 hK1 hg1 hlv1 harm1 hB1 HFR HFT
  go_wp2
  have HS0 := hid (SS.start HD1.out HK1.out HG1.out HLV1.out HB1.out BW.out)
  have HP0 := hid (show Ps (w1.alloc (.cells (bcells (.slice none 0 0) (.slice none 0 0) bk0) 48)) base g F [w1.heap.size] D (fS n wd 1) n (.slice none 0 0) [] from ⟨Own.nil _ _, fun k e => by simp [Value.ownBlock] at e, 2, by omega, by omega, by show (2 : Int) ≤ 2; omega, by simp, rfl⟩)
  generalize hgb : w1.heap.size = gb at *
  clear HBK HD1 HK1 HG1 HLV1 HB1
  go_loopw [10, 12, 13, 14, 15, 16, 17] (fun fv pv iv _ _ _ _ wr => ∃ (i g : Nat) (D : DS) (s : Sup) (nx : Nat) (ep : Int) (B : Bk) (F G : List Nat) (P : List Int), i ≤ ac.length ∧ i ≤ 200 ∧ fv = .pointer (some ⟨g, 0, none⟩) ∧ iv = .int .i64 i ∧ SS w wr base p gb n (2 * i) g D s nx ep B F G ∧ Ps wr base g F G D s n pv P) (fun _ _ iv _ _ _ _ _ => ac.length - (intOf iv).toNat)
  case atStart => exact ⟨0, g, D, _, 2, _, _, F, _, [], by omega, by omega, rfl, rfl, HS0.out, HP0.out⟩
  case round =>
    clear HS0 HP0
    obtain ⟨i, g, D, s, nx, ep, B, F, G, P, hi, hi2, rfl, rfl, hS, hP⟩ := hrel
    have j0 : (i : Int) ≤ 200 := by omega
    by_cases hlt : i < ac.length ∧ i < 200
    · have k1 : (i : Int) < (ac.length : Int) := by omega
      have k2 : (i : Int) < 200 := by omega
      have k3 : i < ac.length := hlt.1
      have k4 : i < 200 := hlt.2
      obtain ⟨b, o, tp, tc, rfl, hbb, hrg, hsr⟩ := HA.out.at hS.bl i hlt.1
      have hai := HOK.out (ac.getD i dA) (getD_memA ac i hlt.1)
      have HACT := hid (acts_in wr base F p D hS.da (Nat.le_trans hS.bw hS.bl.size) g s nx ep hS.fk G gb B hS.ba hS.ap hS.ng n (2 * i) hS.lv (by omega) (ac.getD i dA).kind (ac.getD i dA).N hai.1 (ac.getD i dA).load hai.2.1 tp tc hsr hai.2.2)
      have HRG := hid hrg
      have HS := hid hS
      have HP := hid hP
      clear hS hrg hsr hai hlt hP
      generalize ac.getD i dA = A at *
      go_wp2_with (first | (refine wpList_load_mid_w (by rfl) 50 (.tmp 48) (by rfl) b (o + i * 3) (by rfl) (actL A tp tc) _ (by exact HRG.out) Try.underlying50 rfl (by rw [size_fact]; rfl) ?_))
      refine HACT.out.mono ?_
      rintro e w3 ⟨er, rfl, hao⟩
      obtain ⟨D', s', nx', B', F', G', hcase, hkp, hfr, hgF, hgG, _⟩ := HS.out.step hao
      have hlD : D.img.length = 256 * n := by rw [HS.out.lv.ok.np.2.2.1, HS.out.lv.np]
      clear hao HACT HRG
      rcases hcase with ⟨rfl, hS2⟩ | ⟨rfl, hD3, hK3, hB3, hA3, hp3, he3, hcr3, hbl3, hmk3⟩
      · have HS2 := hid hS2.more
        have HP2 := hid (HP.out.step (g' := g) (fun k hk => by rcases List.mem_cons.1 hk with x | x; exact Or.inl x; exact Or.inr (List.mem_append.1 x)) hfr hgF hgG (Or.inl rfl) hlD (by rw [hS2.lv.ok.np.2.2.1, hS2.lv.np]) hkp.1 hkp.2)
        clear hS2 HS HP hkp hfr hgF hgG hlD
        have HIM := hid (Image_any w3 base F' p D' HS2.out.da)
        have HLEN := hid (show D'.img.length = 256 * n by rw [HS2.out.lv.ok.np.2.2.1, HS2.out.lv.np])
        obtain ⟨pp, pc, hpv, hpsr, _⟩ := HP2.out.own.form
        subst hpv
        have HPL := hid (show P.length + 512 ≤ 256 * n from by obtain ⟨mk, _, _, _, _, _⟩ := HP2.out.was; omega)
        obtain ⟨m, hm1, hm2, hm3⟩ := sup_ma HS2.out.lv.val HS2.out.lv.pg
        clear hpsr
        go_wp2_with fail
        refine HIM.out.mono ?_
        rintro e w6 ⟨vi, rfl, hOi, hbi⟩
        obtain ⟨ib, ic, irest, hvi, hib, hir, hic, him, hio⟩ := own_in hOi (by rw [HLEN.out]; omega)
        subst hvi
        obtain ⟨si, ci, hvi2, hsi, _⟩ := hOi.form
        simp only [Value.slice.injEq] at hvi2
        obtain ⟨rfl, _, rfl⟩ := hvi2
        have HS6 := hid (HS2.out.below hbi)
        have HP6 := hid (HP2.out.below hbi)
        have HSI := hid hsi
        have HIB := hid (hlt_ hir)
        have hic2 : 256 * n ≤ ic := by rw [← HLEN.out]; exact hic
        have HSU := hid (FSuper_any w6 g p s' nx' ep HS6.out.fk)
        have hfd : ∀ w : World, (Instr.field 37 (.agg (supC s')) 2).run Try.prog w = .ok (.int .i64 (m : Int)) w := fun _ => by rw [← hm1]; rfl
        have HSM := hid (fun (w' : World) (hb : Below w6.heap.size w6 w') => (show Calls Try.prog 29 #[.slice (some ⟨ib, 512, none⟩) P.length (ic - 512), .slice pp P.length pc] w' fun e w2 => e = .returned (.bool true) ∧ Below w'.heap.size w' w2 from by
            obtain ⟨mk, a1, a2, a3, a4, a5⟩ := HP2.out.was
            have hln := HLEN.out
            have hP : (D'.img.drop 512).take P.length = P := by rw [a5]; exact a4.symm
            have hl1 : ((D'.img.drop 512).take P.length).length = P.length := by rw [hP]
            obtain ⟨pp2, pc2, hv2, hs2, _⟩ := (HP6.out.below hb).own.form
            simp only [Value.slice.injEq] at hv2
            obtain ⟨rfl, _, rfl⟩ := hv2
            have := same_any w' ((D'.img.drop 512).take P.length) P (some ⟨ib, 0 + 512, none⟩) pp (ic - 512) pc ((HSI.out.below hb (Nat.le_refl _)).mid 512 P.length (by omega) (Nat.lt_of_lt_of_le HIB.out hb.size) _ (by omega) (by omega)) hs2
            rw [hl1, Nat.zero_add, show decide ((D'.img.drop 512).take P.length = P) = true from decide_eq_true hP] at this
            exact this))
        have HCP := hid (fun (w' : World) (hb : Below w6.heap.size w6 w') => (show Calls Try.prog 32 #[.slice (some ⟨ib, 512, none⟩) (256 * m - 512) (ic - 512)] w' fun e w2 => ∃ v, e = .returned v ∧ Own w2 w'.heap.size v ((D'.img.drop 512).take (256 * (m - 2))) ∧ Below w'.heap.size w' w2 from by
            have hln := HLEN.out
            have hl1 : ((D'.img.drop 512).take (256 * (m - 2))).length = 256 * m - 512 := by rw [List.length_take, List.length_drop]; omega
            have := copied_any w' ((D'.img.drop 512).take (256 * (m - 2))) (some ⟨ib, 0 + 512, none⟩) (ic - 512) ((HSI.out.below hb (Nat.le_refl _)).mid 512 (256 * (m - 2)) (by omega) (Nat.lt_of_lt_of_le HIB.out hb.size) _ (by omega) (by omega)) (by omega)
            rw [hl1, Nat.zero_add] at this
            exact this))
        have HLM := hid (show ((D'.img.drop 512).take (256 * (m - 2))).length = 256 * (m - 2) by have hln := HLEN.out; rw [List.length_take, List.length_drop]; omega)
        have hpl := HPL.out
        have hs1 : ∀ w : World, (Instr.slice 22 (.slice (some ⟨ib, 0, none⟩) (256 * n) ic) (some (.int .i64 512)) (some (.int .i64 (512 + (P.length : Int)))) none).run Try.prog w = .ok (.slice (some ⟨ib, 512, none⟩) P.length (ic - 512)) w := fun w => by
          have := sl_cut w ib (256 * n) ic 512 (512 + P.length) (by omega) (by omega) (by omega) 512 (512 + (P.length : Int)) (by rfl) (by push_cast; rfl)
          rwa [show 512 + P.length - 512 = P.length by omega] at this
        have hs2 : ∀ w : World, (Instr.slice 22 (.slice (some ⟨ib, 0, none⟩) (256 * n) ic) (some (.int .i64 512)) (some (.int .i64 (256 * (m : Int)))) none).run Try.prog w = .ok (.slice (some ⟨ib, 512, none⟩) (256 * m - 512) (ic - 512)) w := fun w => sl_cut w ib (256 * n) ic 512 (256 * m) (by omega) (by omega) (by omega) 512 (256 * (m : Int)) (by rfl) (by push_cast; rfl)
        rw [HLEN.out]
        have hnn : ((256 * n : Nat) : Int) = 256 * (n : Int) := by push_cast; rfl
        have hm4 : 2 ≤ (m : Int) := by omega
        have hm5 : (m : Int) ≤ (n : Int) := by omega
        have hpl2 : (P.length : Int) + 512 ≤ 16384 := by omega
        clear hsi hir hib him hio hic hOi HIM hm2 hm3 hpl hic2 hbi
        go_wp2_with (first
          | (go_at_call 17; refine HSU.out.mono ?_; rintro e w7 ⟨rfl, hb7⟩; have HB7 := hid hb7; clear hb7)
          | (go_at_call 29; refine (HSM.out w7 HB7.out).mono ?_; rintro e w8 ⟨rfl, hb8⟩; have HB8 := hid (HB7.out.trans (hb8.mono HB7.out.size)); clear hb8)
          | (go_at_call 32; refine (HCP.out w8 HB8.out).mono ?_; rintro e w9 ⟨v9, rfl, hO9, hb9⟩; have HO9 := hid hO9; have HB9 := hid hb9; clear hO9 hb9))
        have hb69 := HB8.out.trans (HB9.out.mono HB8.out.size)
        refine ⟨⟨i + 1, g, D', s', nx', ep, B', F', G', _, by omega, by omega, rfl, by go_num, by rw [show 2 * (i + 1) = 2 * i + 1 + 1 by omega]; exact HS6.out.below hb69, ⟨HO9.out.base (Nat.le_trans BW.out (Nat.le_trans HS6.out.bl.size HB8.out.size)), fun k e => ?_, m, by omega, by omega, by omega, rfl, HLM.out⟩⟩, by simp [intOf]; omega⟩
        obtain ⟨hk, _⟩ := ownsRow_block HO9.out k e
        have h8 := HB8.out.size
        exact ⟨fun q => by have := (HS6.out.da.lt k q).2; omega, fun q => by have := (HS6.out.ba.lt k q).2; omega, fun q => by have := hlt_ HS6.out.fk; omega⟩
      · have hbl4 := hbl3
        have HAG := hid (again_in w3 base F' p D' hD3 (Nat.le_trans BW.out hbl3.size) G' gb B' hB3 hA3 n (2 * i + 1) hcr3 (by omega) fs HFB.out sq caq (HFS.out.below' hbl3 (fun h a e => HFK.out a h e)) (fun a h e x => by have := HFK.out a h e; have := (hD3.lt _ x).1; omega))
        have HP3 := hid (HP.out.step (g' := g) (s' := s') (fun k hk => by rcases List.mem_cons.1 hk with x | x; exact Or.inl x; exact Or.inr (List.mem_append.1 x)) hfr hgF hgG (Or.inl rfl) hlD (by rw [hcr3.ok.np.2.2.1, hcr3.np]) hkp.1 hkp.2)
        have HD3 := hid hD3
        have HB3 := hid hB3
        have HCR3 := hid hcr3
        have HBL3 := hid hbl3
        have HMK3 := hid hmk3
        clear hmk3 hD3 hK3 hB3 hA3 hp3 he3 hcr3 hbl3 hbl4 HS HP hkp hfr hgF hgG hlD
        go_wp2_with fail
        refine HAG.out.mono ?_
        rintro e w5 ⟨g5, D5, s5, nx5, ep5, B5, F5, rfl, hg5, hD5, hK5, hB5, hA5, hfr5, hgr5, hlv5, harm5, hmk5, hkp5⟩
        have HS5 := hid (show SS w w5 base p gb n (2 * i + 1 + 1) g5 D5 s5 nx5 ep5 B5 F5 G' from ⟨hD5, hK5, hB5, hA5, fun e => by have := (HB3.out.lt _ e).2; omega, by have := HBL3.out.size; have := BW.out; omega, hlv5, HBL3.out.trans (hfr5.below (fun k hk => by rcases List.mem_append.1 hk with x | x; exact (HD3.out.lt k x).1; exact (HB3.out.lt k x).1) (Nat.le_trans BW.out HBL3.out.size)), BW.out⟩)
        have HP5 := hid (HP3.out.step (g' := g5) (L := F' ++ G') (fun k hk => Or.inr (List.mem_append.1 hk)) hfr5 hgr5 (Gr.refl _ _) (Or.inr hg5) (by rw [HCR3.out.ok.np.2.2.1, HCR3.out.np]) (by rw [hlv5.ok.np.2.2.1, hlv5.np]) (Int.le_trans HMK3.out hmk5) (fun q h2 hq => hkp5 q h2 (Int.lt_of_lt_of_le hq HMK3.out)))
        clear hg5 hD5 hK5 hB5 hA5 hfr5 hgr5 hlv5 harm5 hmk5 hkp5 HAG HP3 HD3 HB3 HCR3 HBL3 HMK3
        have HIM := hid (Image_any w5 base F5 p D5 HS5.out.da)
        have HLEN := hid (show D5.img.length = 256 * n by rw [HS5.out.lv.ok.np.2.2.1, HS5.out.lv.np])
        obtain ⟨pp, pc, hpv, hpsr, _⟩ := HP5.out.own.form
        subst hpv
        have HPL := hid (show P.length + 512 ≤ 256 * n from by obtain ⟨mk, _, _, _, _, _⟩ := HP5.out.was; omega)
        obtain ⟨m, hm1, hm2, hm3⟩ := sup_ma HS5.out.lv.val HS5.out.lv.pg
        clear hpsr
        go_wp2_with fail
        refine HIM.out.mono ?_
        rintro e w6 ⟨vi, rfl, hOi, hbi⟩
        obtain ⟨ib, ic, irest, hvi, hib, hir, hic, him, hio⟩ := own_in hOi (by rw [HLEN.out]; omega)
        subst hvi
        obtain ⟨si, ci, hvi2, hsi, _⟩ := hOi.form
        simp only [Value.slice.injEq] at hvi2
        obtain ⟨rfl, _, rfl⟩ := hvi2
        have HS6 := hid (HS5.out.below hbi)
        have HP6 := hid (HP5.out.below hbi)
        have HSI := hid hsi
        have HIB := hid (hlt_ hir)
        have hic2 : 256 * n ≤ ic := by rw [← HLEN.out]; exact hic
        have HSU := hid (FSuper_any w6 g5 p s5 nx5 ep5 HS6.out.fk)
        have hfd : ∀ w : World, (Instr.field 37 (.agg (supC s5)) 2).run Try.prog w = .ok (.int .i64 (m : Int)) w := fun _ => by rw [← hm1]; rfl
        have HSM := hid (fun (w' : World) (hb : Below w6.heap.size w6 w') => (show Calls Try.prog 29 #[.slice (some ⟨ib, 512, none⟩) P.length (ic - 512), .slice pp P.length pc] w' fun e w2 => e = .returned (.bool true) ∧ Below w'.heap.size w' w2 from by
            obtain ⟨mk, a1, a2, a3, a4, a5⟩ := HP5.out.was
            have hln := HLEN.out
            have hP : (D5.img.drop 512).take P.length = P := by rw [a5]; exact a4.symm
            have hl1 : ((D5.img.drop 512).take P.length).length = P.length := by rw [hP]
            obtain ⟨pp2, pc2, hv2, hs2, _⟩ := (HP6.out.below hb).own.form
            simp only [Value.slice.injEq] at hv2
            obtain ⟨rfl, _, rfl⟩ := hv2
            have := same_any w' ((D5.img.drop 512).take P.length) P (some ⟨ib, 0 + 512, none⟩) pp (ic - 512) pc ((HSI.out.below hb (Nat.le_refl _)).mid 512 P.length (by omega) (Nat.lt_of_lt_of_le HIB.out hb.size) _ (by omega) (by omega)) hs2
            rw [hl1, Nat.zero_add, show decide ((D5.img.drop 512).take P.length = P) = true from decide_eq_true hP] at this
            exact this))
        have HCP := hid (fun (w' : World) (hb : Below w6.heap.size w6 w') => (show Calls Try.prog 32 #[.slice (some ⟨ib, 512, none⟩) (256 * m - 512) (ic - 512)] w' fun e w2 => ∃ v, e = .returned v ∧ Own w2 w'.heap.size v ((D5.img.drop 512).take (256 * (m - 2))) ∧ Below w'.heap.size w' w2 from by
            have hln := HLEN.out
            have hl1 : ((D5.img.drop 512).take (256 * (m - 2))).length = 256 * m - 512 := by rw [List.length_take, List.length_drop]; omega
            have := copied_any w' ((D5.img.drop 512).take (256 * (m - 2))) (some ⟨ib, 0 + 512, none⟩) (ic - 512) ((HSI.out.below hb (Nat.le_refl _)).mid 512 (256 * (m - 2)) (by omega) (Nat.lt_of_lt_of_le HIB.out hb.size) _ (by omega) (by omega)) (by omega)
            rw [hl1, Nat.zero_add] at this
            exact this))
        have HLM := hid (show ((D5.img.drop 512).take (256 * (m - 2))).length = 256 * (m - 2) by have hln := HLEN.out; rw [List.length_take, List.length_drop]; omega)
        have hpl := HPL.out
        have hs1 : ∀ w : World, (Instr.slice 22 (.slice (some ⟨ib, 0, none⟩) (256 * n) ic) (some (.int .i64 512)) (some (.int .i64 (512 + (P.length : Int)))) none).run Try.prog w = .ok (.slice (some ⟨ib, 512, none⟩) P.length (ic - 512)) w := fun w => by
          have := sl_cut w ib (256 * n) ic 512 (512 + P.length) (by omega) (by omega) (by omega) 512 (512 + (P.length : Int)) (by rfl) (by push_cast; rfl)
          rwa [show 512 + P.length - 512 = P.length by omega] at this
        have hs2 : ∀ w : World, (Instr.slice 22 (.slice (some ⟨ib, 0, none⟩) (256 * n) ic) (some (.int .i64 512)) (some (.int .i64 (256 * (m : Int)))) none).run Try.prog w = .ok (.slice (some ⟨ib, 512, none⟩) (256 * m - 512) (ic - 512)) w := fun w => sl_cut w ib (256 * n) ic 512 (256 * m) (by omega) (by omega) (by omega) 512 (256 * (m : Int)) (by rfl) (by push_cast; rfl)
        rw [HLEN.out]
        have hnn : ((256 * n : Nat) : Int) = 256 * (n : Int) := by push_cast; rfl
        have hm4 : 2 ≤ (m : Int) := by omega
        have hm5 : (m : Int) ≤ (n : Int) := by omega
        have hpl2 : (P.length : Int) + 512 ≤ 16384 := by omega
        clear hsi hir hib him hio hic hOi HIM hm2 hm3 hpl hic2 hbi
        go_wp2_with (first
          | (go_at_call 17; refine HSU.out.mono ?_; rintro e w7 ⟨rfl, hb7⟩; have HB7 := hid hb7; clear hb7)
          | (go_at_call 29; refine (HSM.out w7 HB7.out).mono ?_; rintro e w8 ⟨rfl, hb8⟩; have HB8 := hid (HB7.out.trans (hb8.mono HB7.out.size)); clear hb8)
          | (go_at_call 32; refine (HCP.out w8 HB8.out).mono ?_; rintro e w9 ⟨v9, rfl, hO9, hb9⟩; have HO9 := hid hO9; have HB9 := hid hb9; clear hO9 hb9))
        have hb69 := HB8.out.trans (HB9.out.mono HB8.out.size)
        refine ⟨⟨i + 1, g5, D5, s5, nx5, ep5, B5, F5, G', _, by omega, by omega, rfl, by go_num, by rw [show 2 * (i + 1) = 2 * i + 1 + 1 by omega]; exact HS6.out.below hb69, ⟨HO9.out.base (Nat.le_trans BW.out (Nat.le_trans HS6.out.bl.size HB8.out.size)), fun k e => ?_, m, by omega, by omega, by omega, rfl, HLM.out⟩⟩, by simp [intOf]; omega⟩
        obtain ⟨hk, _⟩ := ownsRow_block HO9.out k e
        have h8 := HB8.out.size
        exact ⟨fun q => by have := (HS6.out.da.lt k q).2; omega, fun q => by have := (HS6.out.ba.lt k q).2; omega, fun q => by have := hlt_ HS6.out.fk; omega⟩
    · have HBE := hid hS.bl
      clear hS hP
      by_cases hx : i < ac.length
      · have k1 : (i : Int) < (ac.length : Int) := by omega
        have k2 : ¬ (i : Int) < 200 := by omega
        have k3 : i < ac.length := hx
        have k4 : ¬ i < 200 := by omega
        clear hlt
        go_wp2
        go_ret
        exact ⟨rfl, HBE.out⟩
      · have k1 : ¬ (i : Int) < (ac.length : Int) := by omega
        clear hlt
        go_wp2
        go_ret
        exact ⟨rfl, HBE.out⟩
end Go.Proofs.Ytbgjnihkiolmlaa
