import Derived.Test.YthhchbeaefcljaaKf1
namespace Go.Proofs.Ythhchbeaefcljaa
set_option linter.unusedVariables false
set_option linter.unusedSimpArgs false
open Go.RowKit
attribute [local go_sem ↓] Go.wp_at_zero Go.wp_at_succ

theorem ld_len {p : Int} {r l : List Int} {k : Int} (h : unpackF p r = (k, l, 0)) : l.length ≤ 256 := by
  unfold unpackF at h
  split at h
  · simp at h
  split at h
  · simp at h
  rename_i hl
  split at h
  · simp at h
  split at h
  · simp at h
  split at h
  · simp at h
  split at h
  · simp at h
  split at h
  · simp at h
  simp only [Prod.mk.injEq] at h
  rw [← h.2.1, List.length_take, List.length_drop]
  simp at hl
  omega
set_option maxRecDepth 100000 in
set_option maxHeartbeats 4000000 in
theorem ffresh_in (w : World) (n : Nat) (wd : Int) (hn : 3 ≤ n ∧ n ≤ 12) (hw : 1 ≤ wd ∧ wd ≤ 32) (ac : List AC) (hok : ∀ a ∈ ac, AcOk a) (sp : Option Addr) (cap : Nat) (hA : Acs w w.heap.size sp ac) (hal : (ac.length : Int) ≤ 9223372036854775807) :
    Calls Try.prog 5 #[.int .i64 n, .int .i64 wd, .slice sp ac.length cap] w fun e w' => e = .returned (.bool true) ∧ Below w.heap.size w w' := by
  have HFT := hid (fits_yes w n wd ⟨by omega, by omega, hw.1, hw.2⟩)
  have HFR := hid (fresh_in w n wd ⟨hn.1, by omega⟩ hw)
  obtain ⟨base, hbase⟩ : ∃ base, base = w.heap.size := ⟨_, rfl⟩
  rw [← hbase] at HFR hA ⊢
  have BW := hid (show base ≤ w.heap.size by omega)
  have HA := hid hA
  have HOK := hid hok
  have HBK := build_book
  have HKB := hid built_kp
  have HN12 := hid hn
  have n12 : (n : Int) ≤ 12 := by omega
  clear hA hok hbase hn hw
  go_enter Try.func5, Try.ntmps5
  go_wp2_with (first | (go_at_call 6; refine HFT.out.mono ?_; rintro e w0 ⟨rfl, rfl⟩))
  refine HFR.out.mono ?_
  rintro e w1 ⟨p, g, F, D, rfl, hD1, hK1, hg1, hlv1, harm1, hB1⟩
  have HD1 := hid hD1
  have HK1 := hid hK1
  have HG1 := hid hg1
  have HLV1 := hid hlv1
  have HB1 := hid hB1
  have HAR1 := hid harm1
  clear hD1 hK1 hg1 hlv1 harm1 hB1 HFR HFT
  go_wp2_with (first | refine wpList_built (by rfl) 67 _ rfl _ rfl _ HKB.out ?_)
  have hS0 := SS.start HD1.out HK1.out HG1.out HLV1.out HB1.out BW.out
  have hk0 := KF.start (base := base) (Nat.le_trans hS0.bw hS0.bl.size) hS0.bs.lt
  have hS0 := hS0.below (below_new _ (.cells #[.slice none 0 0, .slice none 0 0] 67))
  rw [show (w1.alloc (.cells (bcells (.slice none 0 0) (.slice none 0 0) bk0) 32)).heap.size = w1.heap.size + 1 by simp] at hk0
  have HS0 := hid hS0
  have HKF0 := hid hk0
  clear hS0 hk0
  generalize hgb : w1.heap.size = gb at *
  clear HBK HKB HD1 HK1 HG1 HLV1 HB1
  go_loopw [11, 12, 13, 14, 15, 16, 17, 18, 19, 20] (fun iv _ _ _ _ _ _ _ _ _ wr => ∃ (i : Nat) (D : DS) (s : Sup) (nx : Nat) (ep : Int) (B : Bk) (F G : List Nat), i ≤ ac.length ∧ i ≤ 24 ∧ iv = .int .i64 i ∧ SS w wr base p gb n (4 * i) g D s nx ep B F G ∧ D.armed = 0 ∧ KF wr base (gb + 1) (25 * i) (g :: (F ++ G)) []) (fun iv _ _ _ _ _ _ _ _ _ _ => ac.length - (intOf iv).toNat)
  case atStart => exact ⟨0, D, _, 2, _, _, F, _, by omega, by omega, rfl, HS0.out, HAR1.out, HKF0.out⟩
  case round =>
    clear HS0 HAR1 HKF0
    obtain ⟨i, D, s, nx, ep, B, F, G, hi, hi2, rfl, hS, harm, hKF⟩ := hrel
    have j0 : (i : Int) ≤ 24 := by omega
    by_cases hlt : i < ac.length ∧ i < 24
    · have k1 : (i : Int) < (ac.length : Int) := by omega
      have k2 : (i : Int) < 24 := by omega
      have k3 : i < ac.length := hlt.1
      have k4 : i < 24 := hlt.2
      obtain ⟨b, o, tp, tc, rfl, hbb, hrg, hsr⟩ := HA.out.at hS.bl i hlt.1
      have hai := HOK.out (ac.getD i dA) (getD_memA ac i hlt.1)
      have HACT := hid (acts_in wr base F p D hS.da (Nat.le_trans hS.bw hS.bl.size) g s nx ep hS.fk G gb B hS.ba hS.ap hS.ng n (4 * i) hS.lv (by omega) (ac.getD i dA).kind (ac.getD i dA).N hai.1 (ac.getD i dA).load hai.2.1 tp tc hsr hai.2.2)
      have ck : wr.cell? ⟨b, o + i * 3, none⟩ = some (.int .i64 (ac.getD i dA).kind) := hrg 0 _ rfl
      have HRG := hid hrg
      have HS := hid hS
      have HAR := hid harm
      have HK := hid hKF
      clear hS hrg hsr hai hlt harm hKF
      generalize ac.getD i dA = A at *
      by_cases h4 : A.kind = 4
      · have h40 : (A.kind == 4) = true := by simp [h4]
        clear h4
        go_wp2
        refine ⟨⟨i + 1, D, s, nx, ep, B, F, G, by omega, by omega, by go_num, by have := HS.out.more.more.more.more; rw [show 4 * (i + 1) = 4 * i + 1 + 1 + 1 + 1 by omega]; exact this, HAR.out, HK.out.mono (by omega)⟩, by simp [intOf]; omega⟩
      · have h40 : (A.kind == 4) = false := by simpa using h4
        have H4 := hid h4
        clear h4
        go_wp2_with (first | (refine wpList_load_mid_w (by rfl) 35 (.tmp 65) (by rfl) b (o + i * 3) (by rfl) (actL A tp tc) _ (by exact HRG.out) Try.underlying35 rfl (by rw [size_fact]; rfl) ?_))
        refine HACT.out.mono ?_
        rintro e w3 ⟨er, rfl, hao⟩
        obtain ⟨D', s', nx', B', F', G', hcase, _, hFr, hGF, hGG, hz⟩ := HS.out.step hao
        obtain ⟨rfl, harm'⟩ := hz ⟨HAR.out, H4.out⟩
        have hS2 : SS w w3 base p gb n (4 * i + 1) g D' s' nx' ep B' F' G' := by
          rcases hcase with ⟨_, x⟩ | ⟨x, _⟩
          · exact x
          · exact absurd x (by decide)
        have hK3 := HK.out.other hFr (Gr.all hGF hGG) hS2.bs.lt
        obtain ⟨m0, hm0, hm1, hm2⟩ := sup_ma hS2.lv.val hS2.lv.pg
        have hnx := hS2.lv.hnx
        have hn12 := HN12.out
        have x1 : 2 ≤ nx' := by omega
        have x2 : nx' ≤ 12 := by omega
        have HNX := hid (FNext_any w3 g p s' nx' ep hS2.fk)
        have HH := hid (holds_in w3 base F' p D' hS2.da g s' nx' ep hS2.fk hS2.lv.live G' gb B' hS2.ba hS2.ap hS2.lv.len.1 nx' ⟨x1, hS2.lv.len.2.1, Int.le_refl _, by rw [hS2.lv.np]; omega⟩ hS2.lv.pgs (by have := hS2.lv.cnt; omega))
        have hlv4 := hS2.lv.reads (by omega) ((nx' - 2 : Nat) : Int) (by omega) (by omega)
        have HLV4 := hid hlv4
        have HARM := hid harm'
        have HB2 := hid hS2.bs
        have HK3 := hid hK3
        clear hao HACT HRG hcase hz harm' HS HAR HK hFr hGF hGG hS2 hK3 hlv4 ck hm0 hm1 hm2 hnx
        go_wp2_with (first | (go_at_call 9; refine HNX.out.mono ?_; rintro e w4 ⟨rfl, rfl⟩))
        refine HH.out.mono ?_
        rintro e w4 ⟨rfl, hD4, hF4⟩
        have hB4 := HB2.out.fr hD4 hF4
        have HK4 := hid (HK3.out.other (Fr.inl hF4) (Gr.refl _ _) hB4.lt)
        have HB4 := hid hB4
        clear hD4 hF4 hB4 HB2 HK3 HH HNX
        generalize h4e : ({ D' with reads := D'.reads + ((nx' - 2 : Nat) : Int) } : DS) = D4 at *
        have HAR4 := hid (show D4.armed = 0 by rw [← h4e]; exact HARM.out)
        clear h4e HARM
        have HIM := hid (Image_any w4 base F' p D4 HB4.out.da)
        have hil : D4.img.length = 256 * n := by have := HLV4.out.ok.np; rw [HLV4.out.np] at this; exact this.2.2.1
        go_wp2_with fail
        refine HIM.out.mono ?_
        rintro e w5 ⟨v5, rfl, hO5, hb5⟩
        obtain ⟨s5, c5, rfl, S5, n5⟩ := hO5.form
        have HB5 := hid (HB4.out.below hb5)
        have hK5 := HK4.out.new (Fr.of_below hb5) hO5
        have KK5 := hid (hK5.keep (by omega) (own_base hO5 (Nat.le_trans HB4.out.bw HB4.out.bl.size)) (by omega) (fun y hy => by cases hy) (fun k e hE => by have := (own_blk hO5 e).1; have := HB4.out.lt k hE; omega))
        have y1 : (D4.img.length : Int) ≤ 256 * (n : Int) := by omega
        have y2 : 256 * (n : Int) ≤ (D4.img.length : Int) := by omega
        clear hO5 S5 n5 hK5 hil HB4 HK4 HIM hb5
        go_wp2_with fail
        refine KK5.out.mono ?_
        rintro e w6 ⟨rfl, hK6, hE6, hb6⟩
        have hB6 := HB5.out.stay (fun k h => h) hE6 hb6
        obtain ⟨lv6, kv6, vs6, hbi⟩ := hB6.ba
        obtain ⟨lp6, lc6, hlv6, _⟩ := ownsRow_shape hbi.rl
        have c6 : w6.cell? ⟨gb, 0, none⟩ = some (.slice lp6 B'.Ls.length lc6) := by rw [cell_of_row _ _ _ _ _ _ hbi.cell, ← hlv6]; rfl
        have HNX := hid (FNext_any w6 g p s' nx' ep hB6.fk)
        have i5 : (nx' : Int) - 2 ≤ (B'.Ls.length : Int) := by have := HLV4.out.len; omega
        have i6 : 2 ≤ (nx' : Int) := by omega
        have i7 : (nx' : Int) ≤ 12 := by omega
        have i8 : (B'.Ls.length : Int) ≤ 64 := by have := HLV4.out.len; have := HLV4.out.small; omega
        have HB6 := hid hB6
        have HK6 := hid hK6
        clear hB6 hK6 hE6 hb6 hbi hlv6 HB5 KK5 y1 y2
        go_wp2_with (first | (go_at_call 9; refine HNX.out.mono ?_; rintro e w7 ⟨rfl, rfl⟩))
        clear HNX c6
        go_loopw [16, 17, 18, 19, 20] (fun iv _ _ _ _ wr => ∃ q : Nat, 2 ≤ q ∧ q ≤ nx' ∧ iv = .int .i64 q ∧ BS w wr base p gb g { D4 with reads := D4.reads + ((2 * (q - 2) : Nat) : Int) } s' nx' ep B' F' G' ∧ KF wr base (gb + 1) (25 * i + 1 + 2 * (q - 2)) (g :: (F' ++ G')) []) (fun iv _ _ _ _ _ => nx' - (intOf iv).toNat)
        case atStart => exact ⟨2, by omega, x1, rfl, by simpa using HB6.out, HK6.out⟩
        case round =>
          clear HB6 HK6
          obtain ⟨q, hq2, hqm, rfl, hBq, hKq⟩ := hrel
          have HBq := hid hBq
          have HKq := hid hKq
          by_cases hqlt : q < nx'
          · have j1 : (q : Int) < (nx' : Int) := by omega
            clear hBq hKq
            go_wp2
            go_loopw [17, 18, 19, 20] (fun tv _ _ _ wr => ∃ t : Nat, t ≤ 2 ∧ tv = .int .i64 t ∧ BS w wr base p gb g { D4 with reads := D4.reads + ((2 * (q - 2) + t : Nat) : Int) } s' nx' ep B' F' G' ∧ KF wr base (gb + 1) (25 * i + 1 + 2 * (q - 2) + t) (g :: (F' ++ G')) []) (fun tv _ _ _ _ => 2 - (intOf tv).toNat)
            case atStart => exact ⟨0, by omega, rfl, by simpa using HBq.out, HKq.out⟩
            case round =>
              clear HBq HKq
              obtain ⟨t, ht, rfl, hBt, hKt⟩ := hrel
              have HBt := hid hBt
              have HKt := hid hKt
              by_cases htl : t < 2
              · have j2 : (t : Int) < 2 := by omega
                have hi9 : q - 2 < B'.Ls.length := by have := HLV4.out.len; omega
                have HRD := hid (FRead_ok wr base F' p _ hBt.da g s' nx' ep hBt.fk (show liveF { D4 with reads := D4.reads + ((2 * (q - 2) + t : Nat) : Int) } ep = 0 from HLV4.out.live) q ⟨hq2, by omega, by show q < D4.np; rw [HLV4.out.np]; have := HN12.out; have := HLV4.out.hnx; omega⟩ (by show D4.reads + ((2 * (q - 2) + t : Nat) : Int) < _; have := HLV4.out.cnt; omega) _ _ (HLV4.out.pgs q hq2 hqlt) q rfl)
                have HI9 := hid hi9
                clear hBt hKt hi9
                go_wp2_with fail
                refine HRD.out.mono ?_
                rintro e w9 ⟨v, rfl, hO9, hD9, hK9, hF9⟩
                have hB9 := HBt.out.fr hD9 hF9
                have hKF9 := HKt.out.new (Fr.inl hF9) hO9
                obtain ⟨lv9, kv9, vs9, hBI⟩ := hB9.ba
                obtain ⟨lg, lc2, kg, kc, sv, cv, _, _, e1, e2, e3, e4, e5⟩ := hBI.at HLV4.out.len.1 (q - 2) HI9.out
                obtain ⟨s9, c9, hv9, hs9, _⟩ := hO9.form
                subst hv9
                have hl9 : (B'.Ls.getD (q - 2) []).length ≤ 140737488355000 := by
                  have hu := HLV4.out.pgs q hq2 hqlt
                  exact Nat.le_trans (ld_len hu) (by decide)
                have KK9 := hid (hKF9.keep (by omega) (own_base hO9 (Nat.le_trans HBt.out.bw HBt.out.bl.size)) hl9 (fun y hy => by cases hy) (fun k e hE => by have := (own_blk hO9 e).1; have := HBt.out.lt k hE; omega))
                have HB9 := hid hB9
                have n2 : (q : Int) - 2 = ((q - 2 : Nat) : Int) := by omega
                have n3 := wrap_nat (q - 2) (by omega)
                have n4 : ((q - 2 : Nat) : Int) < (B'.Ls.length : Int) := by have := HI9.out; omega
                have n5 : q - 2 < B'.Ls.length := HI9.out
                have n6 : 0 ≤ ((q - 2 : Nat) : Int) := by omega
                clear hO9 hD9 hK9 hF9 hs9 e5 hB9 hBI HRD hKF9 hl9 e2 e4
                generalize B'.Ls.getD (q - 2) [] = LL at *
                generalize B'.Ks.getD (q - 2) 0 = KK at *
                go_wp2_with fail
                refine KK9.out.mono ?_
                rintro e wx ⟨rfl, hKx, hEx, hbx⟩
                have HBx := hid (HB9.out.stay (fun k h => h) hEx hbx)
                have HKx := hid hKx
                clear hKx hEx hbx KK9 HB9 e1 e3 n2 n3
                go_wp2
                refine ⟨⟨t + 1, by omega, by go_num, ?_, HKx.out⟩, by simp [intOf]; omega⟩
                rw [show (({ D4 with reads := D4.reads + ((2 * (q - 2) + (t + 1) : Nat) : Int) } : DS)) = { D4 with reads := D4.reads + ((2 * (q - 2) + t : Nat) : Int) + 1 } by congr 1; omega]
                exact HBx.out
              · obtain rfl : 2 = t := by omega
                clear hBt hKt htl
                go_wp2
                refine ⟨⟨q + 1, by omega, by omega, by go_num, ?_, ?_⟩, by simp [intOf]; omega⟩
                · rw [show 2 * (q + 1 - 2) = 2 * (q - 2) + 2 by omega]; exact HBt.out
                · rw [show 25 * i + 1 + 2 * (q + 1 - 2) = 25 * i + 1 + 2 * (q - 2) + 2 by omega]; exact HKt.out
          · obtain rfl : nx' = q := by omega
            clear hBq hKq hqlt
            go_wp2
            refine ⟨⟨i + 1, { D4 with reads := D4.reads + ((2 * (nx' - 2) : Nat) : Int) }, s', nx', ep, B', F', G', by omega, by omega, by go_num, ?_, HAR4.out, HKq.out.mono (by omega)⟩, by simp [intOf]; omega⟩
            have hl := HLV4.out.reads (by omega) ((2 * (nx' - 2) : Nat) : Int) (by omega) (by omega)
            have := (HBq.out.ss hl).more
            rw [show 4 * (i + 1) = 4 * i + 1 + 1 + 1 + 1 by omega]; exact this
    · have hx : ¬ ((i : Int) < (ac.length : Int)) ∨ (((i : Int) < (ac.length : Int)) ∧ ¬ ((i : Int) < 24)) := by omega
      have HB := hid hS.bs
      have HLV := hid hS.lv
      have HK := hid hKF
      have hil : D.img.length = 256 * n := by have := hS.lv.ok.np; rw [hS.lv.np] at this; exact this.2.2.1
      have HIL := hid hil
      obtain ⟨m0, hm0, hm1, hm2⟩ := sup_ma hS.lv.val hS.lv.pg
      have x1 : 2 ≤ nx := by have := hS.lv.hnx; omega
      have HIM := hid (Image_any wr base F p D hS.da)
      clear hS harm hKF hlt hil hm0 hm1 hm2
      rcases hx with k1 | ⟨k1, k2⟩
      · skip
        go_wp2_with fail
        refine HIM.out.mono ?_
        rintro e w3 ⟨v3, rfl, hO3, hb3⟩
        obtain ⟨s3, c3, rfl, S3, n3⟩ := hO3.form
        have hB3 := HB.out.below hb3
        have hK3 := HK.out.new (Fr.of_below hb3) hO3
        have HCP := hid (copyBytes_any w3 D.img s3 c3 S3 (by rw [HIL.out]; have := HN12.out; omega))
        have O3 := own_base hO3 (Nat.le_trans HB.out.bw HB.out.bl.size)
        have HO3 := hid hO3
        clear S3 n3 hO3 HIM
        go_wp2_with fail
        refine HCP.out.mono ?_
        rintro e w4 ⟨v4, rfl, hO4, hb4⟩
        obtain ⟨gw, cw, hv4, _, S4, hg4⟩ := hO4.pos (by rw [HIL.out]; have := HN12.out; omega)
        subst hv4
        have hw4 := (own_blk hO4 (show (Value.slice (some ⟨gw, 0, none⟩) D.img.length cw).ownBlock = some gw from rfl))
        have hK4 := hK3.put hb4 gw hw4.1 hg4
        have hB4 := hB3.below hb4
        have KK := hid (hK4.keep (by omega) (O3.below hb4 (Nat.le_refl _)) (by rw [HIL.out]; have := HN12.out; omega) (fun y hy => by cases hy) (fun k e hE => by
          have e1 := own_blk HO3.out e
          rcases List.mem_cons.1 hE with x | x
          · rw [x] at e1; have := hw4.1; omega
          · have := HB.out.lt k x; omega))
        have HB4 := hid hB4
        have HO4 := hid hO4
        clear hB3 hK3 hK4 hB4 hO4 S4 HCP O3 HO3 hw4
        go_wp2_with fail
        refine KK.out.mono ?_
        rintro e w5 ⟨rfl, hK5, hE5, hb5⟩
        have HB5 := hid (HB4.out.stay (E := gw :: (g :: (F ++ G))) (fun k h => List.mem_cons_of_mem _ h) hE5 hb5)
        have HO5 := hid (HO4.out.of_heap fun k e => by simp [Value.ownBlock] at e; subst e; exact hE5 gw (.head _))
        have HUT := hid (hK5.untouched (by omega))
        have HK5 := hid hK5
        clear hK5 hE5 hb5 KK HB4 HO4
        go_wp2_with fail
        refine HUT.out.mono ?_
        rintro e w6 ⟨rfl, hb6⟩
        have HB6 := hid (HB5.out.below hb6)
        have HO6 := hid (HO5.out.of_heap fun k e => hb6.block k (own_blk HO5.out e).2.1)
        have HAP := hid ((HK5.out.call hb6).apart (by omega))
        clear hb6 HUT HK5 HB5 HO5
        go_wp2_with fail
        refine HAP.out.mono ?_
        rintro e w7 ⟨rfl, hE7, hb7⟩
        have HB7 := hid (HB6.out.stay (E := gw :: (g :: (F ++ G))) (fun k h => List.mem_cons_of_mem _ h) hE7 hb7)
        have hO7 := HO6.out.of_heap fun k e => by simp [Value.ownBlock] at e; subst e; exact hE7 gw (.head _)
        have HO7 := hid hO7
        have HIM7 := hid (Image_any w7 base F p D HB7.out.da)
        clear hE7 hb7 HAP HB6 HO6 hO7
        go_wp2_with fail
        refine HIM7.out.mono ?_
        rintro e w8 ⟨v8, rfl, hO8, hb8⟩
        obtain ⟨s8, c8, rfl, S8, n8⟩ := hO8.form
        have hO9 := HO7.out.of_heap fun k e => hb8.block k (own_blk HO7.out e).2.1
        obtain ⟨s9, c9, e9, S9, _⟩ := hO9.form
        cases e9
        have HSM := hid (same_self w8 D.img s8 (some ⟨gw, 0, none⟩) c8 cw S8 S9)
        have HB8 := hid (HB7.out.below hb8)
        clear hO8 hO9 S8 S9 n8 hb8 HB7 HO7 HIM7
        go_wp2_with fail
        refine HSM.out.mono ?_
        rintro e w9 ⟨rfl, hb9⟩
        have hB9 := HB8.out.below hb9
        have HNX := hid (FNext_any w9 g p s nx ep hB9.fk)
        have HH := hid (holds_in w9 base F p D hB9.da g s nx ep hB9.fk HLV.out.live G gb B hB9.ba hB9.ap HLV.out.len.1 nx ⟨x1, HLV.out.len.2.1, Int.le_refl _, by rw [HLV.out.np]; exact HLV.out.hnx.2⟩ HLV.out.pgs (by have := HLV.out.cnt; have := HLV.out.hnx; have := HLV.out.small; omega))
        have HB9 := hid hB9
        clear hB9 hb9 HSM HB8
        go_wp2_with (first | (go_at_call 9; refine HNX.out.mono ?_; rintro e wq ⟨rfl, rfl⟩))
        refine HH.out.mono ?_
        rintro e wz ⟨rfl, hDz, hFz⟩
        have hBz := HB9.out.fr hDz hFz
        go_wp2
        go_ret
        exact ⟨rfl, hBz.bl⟩
      · skip
        go_wp2_with fail
        refine HIM.out.mono ?_
        rintro e w3 ⟨v3, rfl, hO3, hb3⟩
        obtain ⟨s3, c3, rfl, S3, n3⟩ := hO3.form
        have hB3 := HB.out.below hb3
        have hK3 := HK.out.new (Fr.of_below hb3) hO3
        have HCP := hid (copyBytes_any w3 D.img s3 c3 S3 (by rw [HIL.out]; have := HN12.out; omega))
        have O3 := own_base hO3 (Nat.le_trans HB.out.bw HB.out.bl.size)
        have HO3 := hid hO3
        clear S3 n3 hO3 HIM
        go_wp2_with fail
        refine HCP.out.mono ?_
        rintro e w4 ⟨v4, rfl, hO4, hb4⟩
        obtain ⟨gw, cw, hv4, _, S4, hg4⟩ := hO4.pos (by rw [HIL.out]; have := HN12.out; omega)
        subst hv4
        have hw4 := (own_blk hO4 (show (Value.slice (some ⟨gw, 0, none⟩) D.img.length cw).ownBlock = some gw from rfl))
        have hK4 := hK3.put hb4 gw hw4.1 hg4
        have hB4 := hB3.below hb4
        have KK := hid (hK4.keep (by omega) (O3.below hb4 (Nat.le_refl _)) (by rw [HIL.out]; have := HN12.out; omega) (fun y hy => by cases hy) (fun k e hE => by
          have e1 := own_blk HO3.out e
          rcases List.mem_cons.1 hE with x | x
          · rw [x] at e1; have := hw4.1; omega
          · have := HB.out.lt k x; omega))
        have HB4 := hid hB4
        have HO4 := hid hO4
        clear hB3 hK3 hK4 hB4 hO4 S4 HCP O3 HO3 hw4
        go_wp2_with fail
        refine KK.out.mono ?_
        rintro e w5 ⟨rfl, hK5, hE5, hb5⟩
        have HB5 := hid (HB4.out.stay (E := gw :: (g :: (F ++ G))) (fun k h => List.mem_cons_of_mem _ h) hE5 hb5)
        have HO5 := hid (HO4.out.of_heap fun k e => by simp [Value.ownBlock] at e; subst e; exact hE5 gw (.head _))
        have HUT := hid (hK5.untouched (by omega))
        have HK5 := hid hK5
        clear hK5 hE5 hb5 KK HB4 HO4
        go_wp2_with fail
        refine HUT.out.mono ?_
        rintro e w6 ⟨rfl, hb6⟩
        have HB6 := hid (HB5.out.below hb6)
        have HO6 := hid (HO5.out.of_heap fun k e => hb6.block k (own_blk HO5.out e).2.1)
        have HAP := hid ((HK5.out.call hb6).apart (by omega))
        clear hb6 HUT HK5 HB5 HO5
        go_wp2_with fail
        refine HAP.out.mono ?_
        rintro e w7 ⟨rfl, hE7, hb7⟩
        have HB7 := hid (HB6.out.stay (E := gw :: (g :: (F ++ G))) (fun k h => List.mem_cons_of_mem _ h) hE7 hb7)
        have hO7 := HO6.out.of_heap fun k e => by simp [Value.ownBlock] at e; subst e; exact hE7 gw (.head _)
        have HO7 := hid hO7
        have HIM7 := hid (Image_any w7 base F p D HB7.out.da)
        clear hE7 hb7 HAP HB6 HO6 hO7
        go_wp2_with fail
        refine HIM7.out.mono ?_
        rintro e w8 ⟨v8, rfl, hO8, hb8⟩
        obtain ⟨s8, c8, rfl, S8, n8⟩ := hO8.form
        have hO9 := HO7.out.of_heap fun k e => hb8.block k (own_blk HO7.out e).2.1
        obtain ⟨s9, c9, e9, S9, _⟩ := hO9.form
        cases e9
        have HSM := hid (same_self w8 D.img s8 (some ⟨gw, 0, none⟩) c8 cw S8 S9)
        have HB8 := hid (HB7.out.below hb8)
        clear hO8 hO9 S8 S9 n8 hb8 HB7 HO7 HIM7
        go_wp2_with fail
        refine HSM.out.mono ?_
        rintro e w9 ⟨rfl, hb9⟩
        have hB9 := HB8.out.below hb9
        have HNX := hid (FNext_any w9 g p s nx ep hB9.fk)
        have HH := hid (holds_in w9 base F p D hB9.da g s nx ep hB9.fk HLV.out.live G gb B hB9.ba hB9.ap HLV.out.len.1 nx ⟨x1, HLV.out.len.2.1, Int.le_refl _, by rw [HLV.out.np]; exact HLV.out.hnx.2⟩ HLV.out.pgs (by have := HLV.out.cnt; have := HLV.out.hnx; have := HLV.out.small; omega))
        have HB9 := hid hB9
        clear hB9 hb9 HSM HB8
        go_wp2_with (first | (go_at_call 9; refine HNX.out.mono ?_; rintro e wq ⟨rfl, rfl⟩))
        refine HH.out.mono ?_
        rintro e wz ⟨rfl, hDz, hFz⟩
        have hBz := HB9.out.fr hDz hFz
        go_wp2
        go_ret
        exact ⟨rfl, hBz.bl⟩
end Go.Proofs.Ythhchbeaefcljaa
