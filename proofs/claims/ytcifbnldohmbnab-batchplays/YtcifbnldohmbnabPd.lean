import Derived.Test.YtcifbnldohmbnabPc
namespace Go.Proofs.Ytcifbnldohmbnab
set_option linter.unusedVariables false
set_option linter.unusedSimpArgs false
open Go.RowKit
attribute [local go_sem ↓] Go.wp_at_zero Go.wp_at_succ

theorem rone_any (w : World) (z : List Int) (a : Nat) (sp : Option Addr) (cap : Nat) (hS : Src w sp cap z) (hy : Byts z) (hz : z.length ≤ 140737488355328) (ha : a ≤ z.length) :
    Calls Try.prog 44 #[.slice sp z.length cap, .int .i64 a] w (ROpost w z a) := by
  by_cases h0 : a = z.length
  · exact rone_e1 w z a sp cap hS hy hz ha h0
  · by_cases h1 : z.getD a 0 = 1
    · by_cases h3 : z.length < a + 33
      · exact rone_e3 w z a sp cap hS hy hz ha (by omega) h1 h3
      · by_cases h4 : z.length < a + 35
        · exact rone_p1 w z a sp cap hS hy hz ha (by omega) h1 h4
        · have y33 := hy.get (a + 33)
          have y34 := hy.get (a + 34)
          by_cases h5 : 128 < z.getD (a + 33) 0 + 256 * z.getD (a + 34) 0
          · exact rone_p2 w z a sp cap hS hy hz ha (by omega) h1 (by omega) h5
          · obtain ⟨N, hN⟩ := Int.eq_ofNat_of_zero_le (show 0 ≤ z.getD (a + 33) 0 + 256 * z.getD (a + 34) 0 by omega)
            by_cases h6 : z.length < a + 35 + N
            · exact rone_p3 w z a sp cap hS hy hz ha (by omega) h1 (by omega) N hN (by omega) h6
            · exact rone_p4 w z a sp cap hS hy hz ha (by omega) h1 (by omega) N hN (by omega) (by omega)
    · by_cases h2 : z.getD a 0 = 2
      · by_cases h3 : z.length < a + 33
        · exact rone_e4 w z a sp cap hS hy hz ha (by omega) h2 h3
        · exact rone_del w z a sp cap hS hy hz ha (by omega) h2 trivial
      · exact rone_e2 w z a sp cap hS hy hz ha (by omega) h1 h2
theorem rtw_ok {ks : List (List Int)} (h : ¬ twiceK ks < ks.length) : rtw ks = -1 := by unfold rtw; rw [if_neg h]
theorem rtw_bad {ks : List (List Int)} (h : twiceK ks < ks.length) : rtw ks = (twiceK ks : Int) := by unfold rtw; rw [if_pos h]
set_option maxRecDepth 100000 in
set_option maxHeartbeats 2000000 in
theorem rParse_any (w : World) (z : List Int) (sp : Option Addr) (cap : Nat) (hS : Src w sp cap z) (hy : Byts z) (hz : z.length ≤ 140737488355328) :
    Calls Try.prog 28 #[.slice sp z.length cap] w fun e w' => ∃ v, e = .returned (.tuple #[v, .int .i64 (parseC z).at', .int .i64 (parseC z).e]) ∧ Mine w' w.heap.size v (parseC z).cs ∧ Below w.heap.size w w' := by
  have hm := hS.2.1
  have hc := hS.1
  unfold maxLen at hm
  have i0 : (z.length : Int) ≤ 9223372036854775807 := by omega
  go_enter Try.func28, Try.ntmps28
  by_cases hl2 : z.length < 2
  · have HP := hid (show parseC z = ⟨[], 0, 30⟩ by unfold parseC; rw [if_pos hl2])
    have j1 : (z.length : Int) < 2 := by omega
    clear hS
    generalize z.length = n at *
    go_wp2
    refine bodyPost_ret (results_tmp3 Try.results28 _ _ _) rfl ⟨.slice none 0 0, ?_, ?_, Below.refl _ _⟩
    · rw [HP.out]; rfl
    · rw [HP.out]; exact Mine.nil _ _
  · have j1 : ¬ (z.length : Int) < 2 := by omega
    have y0 := hy.get 0
    have y1 := hy.get 1
    obtain ⟨_, _, b, o, hb, hsp, hsrc⟩ := id hS
    obtain rfl := hsp (by omega)
    have hbl := hb (by omega)
    have c0 := hsrc 0 (by omega)
    have c1 := hsrc 1 (by omega)
    rw [Nat.add_zero] at c0
    have j5 : (0 : Int) < (z.length : Int) := by omega
    have j6 : (1 : Int) < (z.length : Int) := by omega
    have p0 : 0 ≤ z.getD 0 0 := y0.1
    have p1 : z.getD 0 0 < 256 := y0.2
    have q0 : 0 ≤ z.getD 1 0 := y1.1
    have q1 : z.getD 1 0 < 256 := y1.2
    obtain ⟨n, hn⟩ := Int.eq_ofNat_of_zero_le (show 0 ≤ z.getD 0 0 + 256 * z.getD 1 0 by omega)
    by_cases h64 : 64 < n
    · have HP := hid (show parseC z = ⟨[], 0, 31⟩ by unfold parseC; rw [if_neg hl2, if_pos (by omega)])
      have j2 : (64 : Int) < z.getD 0 0 + 256 * z.getD 1 0 := by omega
      clear hS hn hsrc
      generalize z.length = m at *
      generalize z.getD 0 0 = x0 at *
      generalize z.getD 1 0 = x1 at *
      go_wp2
      go_quiet (fail)
      go_wp2
      refine bodyPost_ret (results_tmp3 Try.results28 _ _ _) rfl ⟨.slice none 0 0, ?_, ?_, below_drewN (Below.refl _ _) _⟩
      · rw [HP.out]; rfl
      · rw [HP.out]; exact Mine.nil _ _
    · have HP := hid (show parseC z = (let r := parseL n (z.drop 2); if r.e ≠ 0 then ⟨[], r.k, r.e⟩ else if r.rest ≠ [] then ⟨[], n, 30⟩ else if twiceK (keysC r.cs) < n then ⟨[], twiceK (keysC r.cs), 33⟩ else ⟨r.cs, 0, 0⟩) by
        unfold parseC; rw [if_neg hl2, if_neg (by omega), hn, Int.toNat_natCast])
      have j2 : ¬ (64 : Int) < z.getD 0 0 + 256 * z.getD 1 0 := by omega
      obtain ⟨Z, hZ⟩ : ∃ Z, Z = encM dM := ⟨_, rfl⟩
      have SO := hid (show Z.toArray.size = 34 by rw [hZ]; simpa using encD_len)
      have HZ := hid hZ
      have J2 := hid (show 2 ≤ z.length by omega)
      have HNN := hid (show n ≤ 64 by omega)
      clear hZ y0 y1 hsrc
      generalize hpl : parseL n (z.drop 2) = R at *
      have HR0 := hid hpl
      clear hpl
      have HN0 := hid hn
      generalize z.getD 0 0 = x0 at *
      generalize z.getD 1 0 = x1 at *
      clear hn
      go_wp2
      go_quiet (fail)
      rw [HN0.out]
      have i9 : (n : Int) ≤ 64 := by have := HNN.out; omega
      have i8 : ¬ (64 : Int) < (n : Int) := by have := HNN.out; omega
      have hB1 := below_drewN (Below.refl w.heap.size w) nq
      clear c0 c1 p0 p1 q0 q1 j2 h64 HN0
      go_wp2
      have HI := hid (show R = (parseL (n - 0) (z.drop 2)).pre [] by rw [PL.pre_nil]; exact HR0.out.symm)
      go_loopw [6, 7, 8] (fun cv av iv wr => ∃ (i a : Nat) (dn : List Chg) (ns : List MC), i ≤ n ∧ iv = .int .i64 i ∧ av = .int .i64 a ∧ a ≤ z.length ∧ dn.length = i ∧ R = (parseL (n - i) (z.drop a)).pre dn ∧ OwnM wr w.heap.size cv ns ∧ OwnV wr w.heap.size ns dn ∧ Below w.heap.size w wr) (fun _ _ iv _ => n - (intOf iv).toNat)
      case atStart => exact ⟨0, 2, [], [], by omega, rfl, rfl, J2.out, rfl, HI.out, OwnM.nil _ _, OwnV.nil _ _, hB1⟩
      case round =>
        clear HI hB1 HR0
        obtain ⟨i, a, dn, ns, hi, rfl, rfl, ha, hdl, hRR, hO, hV, hB⟩ := hrel
        by_cases hlt : i < n
        · have i1 : (i : Int) < (n : Int) := by omega
          have KP := hid (rone_any wr z a _ cap (hS.below hB (Nat.le_refl _)) hy hz ha)
          have HRR := hid hRR
          have HDL := hid hdl
          clear hRR hdl
          have hstep : parseL (n - i) (z.drop a) = if (one (z.drop a)).e = 0 then (parseL (n - (i + 1)) ((z.drop a).drop (one (z.drop a)).n)).pre [(one (z.drop a)).c] else ⟨[], 0, (one (z.drop a)).e, z.drop a⟩ := by
            rw [show n - i = (n - (i + 1)) + 1 by omega]; rfl
          have HST := hid hstep
          clear hstep
          by_cases he : (one (z.drop a)).e = 0
          · obtain ⟨q1, q2, q3⟩ := one_ok he
            have HN := hid (show R = (parseL (n - (i + 1)) ((z.drop a).drop (one (z.drop a)).n)).pre (dn ++ [(one (z.drop a)).c]) by rw [HRR.out, HST.out, if_pos he, PL.pre_pre])
            clear HST HRR
            go_wp2_with fail
            refine KP.out.mono ?_
            rintro e w2 ⟨mm, x, rfl, hkl, ⟨spm, nm, cm, hsv⟩, hok, hB2⟩
            obtain ⟨hx, hk1, hk2, hO9⟩ := hok he
            have HX := hid hx
            clear hx
            clear hok KP
            rw [he]
            have hs0 := hB.size
            have hBw : Below w.heap.size w w2 := hB.trans (hB2.mono hB.size)
            have hO2 := hO.below hB2 (Nat.le_refl _)
            have hV2 := hV.below hB2
            have hO3 := hO2.below ((Below.refl w2.heap.size w2).alloc (Nat.le_refl _) (.cells (encM mm).toArray 52)) (Nat.le_refl _)
            have hV3 := hV2.below ((Below.refl w2.heap.size w2).alloc (Nat.le_refl _) (.cells (encM mm).toArray 52))
            have hO8 := (hO9.base hB.size).below ((Below.refl w2.heap.size w2).alloc (Nat.le_refl _) (.cells (encM mm).toArray 52)) (Nat.le_refl _)
            have lm : (encM mm).length = 34 := by simp [encM, ints, hkl]
            have SM := hid (show (encM mm).toArray.size = 34 by simpa using lm)
            have om : ∀ v ∈ encM mm, v.oneCell' = true := by
              intro v hv
              rcases List.mem_append.1 hv with h | h
              · exact ints_one _ _ v h
              · simp at h; rcases h with rfl | rfl
                · rfl
                · rw [hsv]; rfl
            have g9 := hnew w2 (.cells (encM mm).toArray 52)
            have hB3 : Below w.heap.size w (w2.alloc (.cells (encM mm).toArray 52)) := hBw.alloc hBw.size _
            have HLN := hid (show ns.length + 1 ≤ 2199023255552 by have := hV.1; have := HDL.out; omega)
            clear hO hV hO2 hV2 hB2 hB hO9
            have HXL := hid (show x ≤ z.length by have h1 := HX.out; rw [List.length_drop] at q2; omega)
            have HNX := hid (show R = (parseL (n - (i + 1)) (z.drop x)).pre (dn ++ [(one (z.drop a)).c]) by
              have := HN.out
              rw [List.drop_drop, ← HX.out] at this
              exact this)
            clear HN HX q2 q1
            generalize hnn : (one (z.drop a)).n = n1 at *
            generalize hcc : (one (z.drop a)).c = c1 at *
            clear hnn hcc he
            generalize hw3 : w2.alloc (.cells (encM mm).toArray 52) = w3 at *
            go_wp2_with (first
              | refine wpList_allocZ rfl rfl Z HZ.out ?_
              | (refine wpList_store_row rfl 52 _ _ rfl _ _ rfl rfl 52 _ (by exact hnew _ _) (by rw [chgSize, SM.out]) (by rw [SM.out, SO.out]) (all_oneCell_toArray om) ?_; rw [setRow_alloc, hw3])
              | refine wpList_load_row rfl 52 _ rfl _ rfl 52 _ _ _ (by exact g9) Try.underlying52 rfl (by rw [chgSize, SM.out]) ?_
              | refine wpList_slice rfl _ rfl (encM mm) lm rfl ?_
              | (at_builtin; refine wpList_pushC rfl (.tmp 44) (.tmp 46) rfl w.heap.size _ ns mm rfl hO3 rfl lm om HLN.out hB3.size _ _ ?_; intro v7 w7 hO7 hB7 hK7 hD7))
            have hfin : OwnV w7 w.heap.size (ns ++ [mm]) (dn ++ [c1]) := by
              refine OwnV.snoc (hV3.of_heap fun kk x hx => hK7 kk (hlt_ hx) fun e => by obtain ⟨_, _, y, hy⟩ := hO3.block kk e; exact ne_of_type hx hy (by decide) rfl) hk1 q3 hk2 (hO8.of_heap fun kk e => ?_)
              obtain ⟨q1, x, hx⟩ := hO8.ne_chg kk e
              exact hK7 kk q1 fun e2 => by obtain ⟨_, _, y, hy⟩ := hO3.block kk e2; exact ne_of_type hx hy (by decide) rfl
            go_roundw
            case rel => exact ⟨i + 1, x, dn ++ [c1], ns ++ [mm], by omega, by go_num, rfl, HXL.out, by rw [List.length_append, HDL.out]; rfl, HNX.out, hO7, hfin, hB3.trans hB7⟩
            case measure => simp [intOf]; omega
          · have HE := hid (show parseC z = ⟨[], i, (one (z.drop a)).e⟩ by
              rw [HP.out, HRR.out, HST.out, if_neg he]
              simp only [PL.pre, Nat.add_zero, HDL.out]
              rw [if_pos he])
            clear HST HRR HP
            go_wp2_with fail
            refine KP.out.mono ?_
            rintro e w2 ⟨mm, x, rfl, hkl, ⟨spm, nm, cm, hsv⟩, hok, hB2⟩
            have hBw : Below w.heap.size w w2 := hB.trans (hB2.mono hB.size)
            have lm : (encM mm).length = 34 := by simp [encM, ints, hkl]
            have SM := hid (show (encM mm).toArray.size = 34 by simpa using lm)
            have om : ∀ v ∈ encM mm, v.oneCell' = true := by
              intro v hv
              rcases List.mem_append.1 hv with h | h
              · exact ints_one _ _ v h
              · simp at h; rcases h with rfl | rfl
                · rfl
                · rw [hsv]; rfl
            have hB3 : Below w.heap.size w (w2.alloc (.cells (encM mm).toArray 52)) := hBw.alloc hBw.size _
            clear hok KP
            generalize (one (z.drop a)).e = ee at *
            generalize (one (z.drop a)).n = n1 at *
            go_wp2_with (first
              | refine wpList_allocZ rfl rfl Z HZ.out ?_
              | (refine wpList_store_row rfl 52 _ _ rfl _ _ rfl rfl 52 _ (by exact hnew _ _) (by rw [chgSize, SM.out]) (by rw [SM.out, SO.out]) (all_oneCell_toArray om) ?_; rw [setRow_alloc]))
            refine bodyPost_ret (results_tmp3 Try.results28 _ _ _) rfl ⟨.slice none 0 0, ?_, ?_, hB3⟩
            · rw [HE.out]; rfl
            · rw [HE.out]; exact Mine.nil _ _
        · obtain rfl : i = n := by omega
          rw [Nat.sub_self, parseL_done 0] at hRR
          clear hlt
          by_cases hr0 : a ≠ z.length
          · have HE := hid (show parseC z = ⟨[], i, 30⟩ by
              rw [HP.out, hRR]
              simp only []
              rw [if_neg (by simp), if_pos (by intro h; apply hr0; have := congrArg List.length h; simp at this; omega)])
            have j9 : ¬ ((a : Int) = (z.length : Int)) := by omega
            clear HP hRR
            go_wp2
            refine bodyPost_ret (results_tmp3 Try.results28 _ _ _) rfl ⟨.slice none 0 0, ?_, ?_, hB⟩
            · rw [HE.out]; rfl
            · rw [HE.out]; exact Mine.nil _ _
          · obtain rfl : a = z.length := by omega
            rw [List.drop_length] at hRR
            obtain ⟨spc, capc, bc, hvc, hCc, _⟩ := hO.chs hV.says
            subst hvc
            have KR := hid (rtwice_any wr dn spc capc bc 0 ns hCc)
            have HE := hid (show parseC z = if twiceK (keysC dn) < i then ⟨[], twiceK (keysC dn), 33⟩ else ⟨dn, 0, 0⟩ by
              rw [HP.out, hRR]
              simp only []
              rw [if_neg (by simp), if_neg (by simp)])
            have HD := hid hdl
            clear HP hRR hr0 hdl
            have HKL := hid (show (keysC dn).length = i by simp [keysC, HD.out])
            by_cases htw : twiceK (keysC dn) < i
            · rw [if_pos htw] at HE
              have e := rtw_bad (show twiceK (keysC dn) < (keysC dn).length by rw [HKL.out]; exact htw)
              rw [e] at KR
              have j9 : (0 : Int) ≤ (twiceK (keysC dn) : Int) := by omega
              clear e htw
              generalize twiceK (keysC dn) = tw at *
              go_wp2_with fail
              refine KR.out.mono ?_
              rintro e w2 ⟨rfl, hB2⟩
              go_wp2
              refine bodyPost_ret (results_tmp3 Try.results28 _ _ _) rfl ⟨.slice none 0 0, ?_, ?_, hB.trans (hB2.mono hB.size)⟩
              · rw [HE.out]; rfl
              · rw [HE.out]; exact Mine.nil _ _
            · rw [if_neg htw] at HE
              have e := rtw_ok (show ¬ twiceK (keysC dn) < (keysC dn).length by rw [HKL.out]; exact htw)
              rw [e] at KR
              clear e htw
              go_wp2_with fail
              refine KR.out.mono ?_
              rintro e w2 ⟨rfl, hB2⟩
              go_wp2
              refine bodyPost_ret (results_tmp3 Try.results28 _ _ _) rfl ⟨.slice spc dn.length capc, ?_, ?_, hB.trans (hB2.mono hB.size)⟩
              · rw [HE.out]; rfl
              · rw [HE.out]; exact ⟨ns, hO.below hB2 (Nat.le_refl _), hV.below hB2⟩
end Go.Proofs.Ytcifbnldohmbnab
