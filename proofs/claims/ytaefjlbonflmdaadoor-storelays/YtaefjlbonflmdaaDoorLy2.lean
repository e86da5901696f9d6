import Derived.Test.YtaefjlbonflmdaaDoorLy1
namespace Go.Proofs.YtaefjlbonflmdaaDoor
set_option linter.unusedVariables false
set_option linter.unusedSimpArgs false
open Go.RowKit
open Go.Proofs.YtaefjlbonflmdaaDoor.Ca (Ct ct0 ctC argV AS)
attribute [local go_sem ↓] Go.wp_at_zero Go.wp_at_succ

/-- Lots of pages that came in. -/
def Lts (w : World) (B : Nat) (sp : Option Addr) (ls : List (List MD)) : Prop := ∃ b o, (0 < ls.length → b < B ∧ sp = some ⟨b, o, none⟩) ∧ ∀ i, i < ls.length → ∃ tp tc, w.cell? ⟨b, o + i, none⟩ = some (.slice tp (ls.getD i []).length tc) ∧ Mds w B tp (ls.getD i []) ∧ (ls.getD i []).length ≤ tc ∧ tc ≤ 9223372036854775807 ∧ ∀ j, j < (ls.getD i []).length → MdOk ((ls.getD i []).getD j dM)
theorem Mds.below {w w1 : World} {B : Nat} {sp : Option Addr} {ms : List MD} (h : Mds w B sp ms) (hb : Below B w w1) : Mds w1 B sp ms := by
  obtain ⟨b, o, h1, h2⟩ := h
  refine ⟨b, o, h1, fun i hi => ?_⟩
  obtain ⟨tp, tc, a1, a2, a3⟩ := h2 i hi
  have hbB := (h1 (by omega)).1
  exact ⟨tp, tc, rng_below a1 hb hbB, SrcB a2 hb a3, a3⟩
theorem cutN_any (w : World) (sp : Option Addr) (cap : Nat) (ms : List MD) (m : Nat) (hM : Mds w w.heap.size sp ms) (hc : ms.length ≤ cap) (hcl : cap ≤ 9223372036854775807) :
    Calls Tryd.prog 10 #[.slice sp ms.length cap, .int .i64 m] w fun e w' => e = .returned (.slice sp (ms.take m).length cap) ∧ w' = w := by
  rw [List.length_take]
  by_cases h : m < ms.length
  · obtain ⟨b, o, h1, _⟩ := hM
    obtain ⟨-, rfl⟩ := h1 (by omega)
    rw [show min m ms.length = m by omega]
    have i0 : (m : Int) < (ms.length : Int) := by omega
    have i1 : (m : Int) ≤ (cap : Int) := by omega
    have i2 : (ms.length : Int) ≤ (cap : Int) := by omega
    have i3 : (cap : Int) ≤ 9223372036854775807 := by omega
    generalize ms.length = n at *
    go_enter Tryd.func10, Tryd.ntmps10
    go_wp2
    go_ret
    exact ⟨rfl, rfl⟩
  · rw [show min m ms.length = ms.length by omega]
    have i0 : (ms.length : Int) ≤ (m : Int) := by omega
    generalize ms.length = n at *
    go_enter Tryd.func10, Tryd.ntmps10
    go_wp2
    go_ret
    exact ⟨rfl, rfl⟩
/-- A head that fits. -/
def HdOk (hd : Int) (N : Nat) : Prop := hd = 0 ∨ (2 ≤ hd ∧ hd < (N : Int))
/-- Between two lots. -/
def LI (w0 wr : World) (base B2 st p g cv n sb : Nat) (i : Nat) : Prop := ∃ (S : Sto) (o : Sup) (L : List (Int × List Int)) (vs : List Value) (Ps : List (List Int)), LM w0 wr base B2 S n o L (2000 + 1000 * i) (.slice (some ⟨g, 0, none⟩) n cv) vs Ps sb S.s ∧ S.vs = [] ∧ S.st = st ∧ S.p = p ∧ Ps.length = n ∧ (∀ q, q < n → pgO S.D.img q = Ps.getD q []) ∧ S.s.ge = 1 + (i : Int)
theorem LM.more {w0 w : World} {base B2 : Nat} {S : Sto} {n : Nat} {o : Sup} {L : List (Int × List Int)} {b : Nat} {v : Value} {vs : List Value} {Ps : List (List Int)} {sb : Nat} {sc : Sup} (h : LM w0 w base B2 S n o L b v vs Ps sb sc) (c : Nat) (hc : b ≤ c) : LM w0 w base B2 S n o L c v vs Ps sb sc := ⟨h.sx.more c hc, h.wn, h.bk, h.ap, h.bb, h.bl⟩
theorem LM.re {w0 w : World} {base B2 : Nat} {S : Sto} {n : Nat} {o o' : Sup} {L : List (Int × List Int)} {b : Nat} {v : Value} {vs : List Value} {Ps : List (List Int)} {sb : Nat} {sc : Sup} (h : LM w0 w base B2 S n o L b v vs Ps sb sc) (hx : Hs S.D n S.s o' L) : LM w0 w base B2 S n o' L b v vs Ps sb sc := ⟨⟨h.sx.sk, hx, h.sx.nx, h.sx.lv, h.sx.ar, h.sx.N, h.sx.rd, h.sx.wr, h.sx.sy, h.sx.ge, h.sx.ep⟩, h.wn, h.bk, h.ap, h.bb, h.bl⟩
theorem rep_getD {α : Type} (n q : Nat) (x d : α) (h : q < n) : (List.replicate n x).getD q d = x := by
  rw [List.getD_eq_getElem?_getD, List.getElem?_replicate, if_pos h]; rfl
theorem Hs.il {D : DS} {n : Nat} {s o : Sup} {L : List (Int × List Int)} (h : Hs D n s o L) : D.img.length = 256 * n := by
  obtain ⟨_, _, q, _⟩ := h.ok.np
  rw [q, h.np]
theorem same_pg (w : World) (gi ci q n : Nat) (img : List Int) (rs : List Value) (hr : w.heap[gi]? = some (.cells (ints .u8 img ++ rs).toArray 5 (0, 0))) (hi : img.length = 256 * n) (hq : q < n) (hc : 256 * n ≤ ci) (hm : ci ≤ maxLen) (base : Nat) (P : List Int) (sq : Option Addr) (d : Nat) (hY : Src w sq d P) (hP : P.length = 256) (he : pgO img q = P) :
    Calls Tryd.prog 9 #[.slice (some ⟨gi, 256 * q, none⟩) 256 (ci - 256 * q), .slice sq 256 d] w fun e w' => e = .returned (.bool true) ∧ Below w.heap.size w w' := by
  have hX : Src w (some ⟨gi, 256 * q, none⟩) (ci - 256 * q) P := by
    refine ⟨by omega, by omega, gi, 256 * q, fun _ => hlt hr, fun _ => rfl, fun j hj => ?_⟩
    rw [hP] at hj
    rw [cell_of_row _ _ _ _ _ _ hr, List.getElem?_toArray, List.getElem?_append_left (by rw [ints_len, hi]; omega), ints_get _ _ _ (by rw [hi]; omega), ← he]
    unfold pgO
    rw [List.getD_eq_getElem?_getD, List.getD_eq_getElem?_getD, List.getElem?_take, if_pos hj, List.getElem?_drop, show q * 256 + j = 256 * q + j by omega]
  have := same_any w P P _ _ _ _ hX hY
  rw [hP] at this
  simpa using this
theorem buildS (w : World) (a b : Int) : (Instr.build 31 #[(0, .int .i64 a), (1, .int .i64 0), (2, .int .i64 2), (3, .int .i64 0), (4, .int .i64 b)]).run Tryd.prog w = .ok (.agg #[.int .i64 a, .int .i64 0, .int .i64 2, .int .i64 0, .int .i64 b]) w := by kernel_rfl
theorem buildL (w : World) (sp : Option Addr) (n c : Nat) : (Instr.buildSlice 28 1 #[(0, .slice sp n c)]).run Tryd.prog w = .ok (.slice (some ⟨w.heap.size, 0, none⟩) 1 1) (w.alloc (.cells #[.slice sp n c] 29)) := by kernel_rfl
set_option maxRecDepth 100000 in
set_option maxHeartbeats 2000000 in
theorem storeLays_any (w : World) (hG : Gl w) (pages width room : Int) (sp : Option Addr) (cap : Nat) (ls : List (List MD)) (hL : Lts w w.heap.size sp ls) (hc : ls.length ≤ cap) (hcl : (ls.length : Int) ≤ 9223372036854775807) :
    Calls Tryd.prog 3 #[.int .i64 pages, .int .i64 width, .int .i64 room, .slice sp ls.length cap] w fun e w' => e = .returned (.bool true) ∧ Below w.heap.size w w' := by
  obtain ⟨i5, hi5, hz5, hs5, hy5⟩ := Tryd.info5
  have HI := hid hi5
  have K1 := hid (show i5.bytes * 256 ≤ 281474976710656 by rw [hy5]; omega)
  have K2 := hid (show 256 ≤ maxLen by unfold maxLen; omega)
  have PZ := hid (show padz [] 256 = zz 256 by simp [padz, zz])
  clear hi5
  have HGL := hid hG
  have HLT := hid hL
  obtain ⟨base, hbase⟩ : ∃ base, base = w.heap.size := ⟨_, rfl⟩
  have HBASE := hid hbase
  have KP := hid (fun w' => hwhole_any w' pages 3 40 (by omega) (by omega) (by omega))
  have KW := hid (fun w' => hwhole_any w' width 1 32 (by omega) (by omega) (by omega))
  have hp := wholeF_bd pages 3 40 (by omega)
  have hw := wholeF_bd width 1 32 (by omega)
  generalize wholeF pages 3 40 = ni at *
  generalize wholeF width 1 32 = wd at *
  obtain ⟨n, rfl⟩ : ∃ k : Nat, ni = (k : Int) := ⟨ni.toNat, by omega⟩
  have hbd := buildS
  have hbl := buildL
  clear hG hL hbase
  go_enter Tryd.func3, Tryd.ntmps3
  go_wp2_with fail
  refine (KP.out w).mono ?_
  rintro _ wx ⟨rfl, hx⟩
  obtain rfl := hx.symm
  go_wp2_with fail
  refine (KW.out w).mono ?_
  rintro _ wx ⟨rfl, hx⟩
  obtain rfl := hx.symm
  clear KP KW
  go_wp2_with fail
  refine (begun_hs w n wd ⟨by omega, by omega⟩ hw).mono ?_
  rintro _ w1 ⟨p, F, D, rfl, hD, ⟨hB1, hH1, hI1⟩, hb1⟩
  have HN := hid (And.intro hp hw)
  have HD := hid (And.intro hD (And.intro hB1 (And.intro hH1 hI1)))
  rw [← HBASE.out] at hb1
  have HB1 := hid hb1
  have hni : (n : Int) ≤ 40 := by omega
  have hn3 : (3 : Int) ≤ (n : Int) := by omega
  have hn0 : 0 < n := by omega
  have hn1 : 1 < n := by omega
  clear hD hB1 hH1 hI1 hb1 hp hw
  go_wp2_with fail
  have hBo := HD.out.2.1
  refine (opened_hs w1 base F p D (by rw [HBASE.out]; exact HD.out.1) (Nat.le_trans (Nat.le_of_eq HBASE.out) HB1.out.size) n _ _ _ HD.out.2.2.1 1000 (by omega) (by rw [hBo.reads]; omega) (by rw [hBo.writes]; omega) (by rw [hBo.syncs]; omega) (by show (1 : Int) ≤ _; omega) (by rw [hBo.epoch]; omega) hBo.arm room).mono ?_
  rintro _ w2 ⟨S, rfl, hS, ⟨hvs, hSp, hSs, hSi⟩, hb2⟩
  clear hBo
  have HS := hid (And.intro hS (And.intro hvs (And.intro hSp (And.intro hSs (And.intro hSi (HB1.out.trans hb2))))))
  clear hS hvs hSp hSs hSi hb2 HB1
  have HF := hid (show ∃ st, st = S.st from ⟨_, rfl⟩)
  obtain ⟨st, hst⟩ := HF.out
  have HST := hid hst
  rw [← hst]
  clear hst HF
  go_wp2
  go_loopw [13, 14] (fun v i wr => ∃ (k : Nat) (vs : List Value), k ≤ n ∧ i = .int .i64 k ∧ WN wr w2.heap.size v vs (List.replicate k (zz 256)) ∧ Below w2.heap.size w2 wr) (fun _ i _ => n - (intOf i).toNat)
  case atStart => exact ⟨0, [], by omega, rfl, WN.nil _ _, Below.refl _ _⟩
  case round =>
    obtain ⟨k, vs, hk, rfl, hW, hB⟩ := hrel
    obtain ⟨sv, cv, bv, rfl, -, -, -, -⟩ := hW.k.at
    by_cases hkn : k < n
    · have i1 : (k : Int) < (n : Int) := by omega
      have HW := hid (And.intro hW hB)
      clear hW hB
      go_wp2_with (refine wpList_make_full _ rfl _ _ 29 rfl wr.heap.size 5 i5 (.int .u8 0) 1 Tryd.underlying29 HI.out hz5 hs5 .i64 .i64 _ _ 256 rfl rfl rfl rfl K1.out K2.out (Nat.le_refl _) ?_; intro w3 hO hg; refine Hid.out ?_)
      refine hid ?_
      have hy : Own w3 wr.heap.size (.slice (some ⟨wr.heap.size, 0, none⟩) 256 256) (zz 256) := by
        refine ⟨by simp [ints, zz], Or.inr ⟨wr.heap.size, 256, (ints .u8 (zz 256)).toArray, by simp [zz], Nat.le_refl _, ?_, by simp [zz], K2.out, by simp [ints, zz], by simp [ints, zz]⟩⟩
        have := made_row hO
        rw [PZ.out] at this; exact this
      have b3 : Below wr.heap.size wr w3 := grown_keeps hg (fun k hk => by cases hk) (Nat.le_refl _)
      have hw3 : WN w3 w2.heap.size (.slice sv vs.length cv) vs (List.replicate k (zz 256)) := HW.out.1.of_heap fun j hj => b3.block j (HW.out.1.lt hj).2
      have hw2 : w2.heap.size ≤ wr.heap.size := HW.out.2.size
      have hy2 : Own w3 w2.heap.size (.slice (some ⟨wr.heap.size, 0, none⟩) 256 256) (zz 256) := by
        refine ⟨hy.1, ?_⟩
        rcases hy.2 with q | ⟨g, c, cur, e, hg, r⟩
        · exact Or.inl q
        · exact Or.inr ⟨g, c, cur, e, Nat.le_trans hw2 hg, r⟩
      have BB : Below w2.heap.size w2 w3 := HW.out.2.trans (b3.mono hw2)
      have HY := hid (And.intro hw3 (And.intro hy2 BB))
      have hk3 := hw3.k
      have hlen : vs.length + [Value.slice (some ⟨wr.heap.size, 0, none⟩) 256 256].length ≤ 1000000000000 := by
        have := hw3.l; rw [List.length_replicate] at this; simp; omega
      have hsz := BB.size
      clear hO hg hy b3 hw3 hw2 hy2 BB
      have HYo := hid (show (Value.slice (some ⟨wr.heap.size, 0, none⟩) 256 256).oneCell' = true from rfl)
      generalize wr.heap.size = yb at *
      go_wp2_with (first | (at_builtin; refine wpList_pushKp rfl (.tmp 41) (.tmp 43) rfl w2.heap.size (.slice sv vs.length cv) vs [.slice (some ⟨yb, 0, none⟩) 256 256] rfl hk3 rfl (by intro z hz; obtain rfl := List.mem_singleton.1 hz; exact HYo.out) hlen hsz _ _ ?_; intro v' w4 hO4 hB4 hk4 hd4))
      refine ⟨⟨k + 1, vs ++ [.slice (some ⟨yb, 0, none⟩) 256 256], by omega, by go_num, ?_, HY.out.2.2.trans hB4⟩, by simp [intOf]; omega⟩
      rw [List.replicate_succ']
      exact HY.out.1.push HY.out.2.1 (zz_len 256) hO4 hk4
    · obtain rfl : n = k := by omega
      clear hkn
      have HW := hid (And.intro hW hB)
      clear hW hB hk
      have hvl : vs.length = n := by have := HW.out.1.l; rwa [List.length_replicate] at this
      obtain ⟨sv', cv', g, e9, hcv, hcm, hsv, -⟩ := HW.out.1.k.at
      obtain rfl : sv = some ⟨g, 0, none⟩ := by
        injection e9 with e1 e2 e3
        rw [e1]; exact hsv (by rw [hvl]; have := HN.out.1.1; omega)
      obtain rfl : cv = cv' := by injection e9 with e1 e2 e3
      rw [hvl] at hcv ⊢
      rw [hvl] at HW
      have S0 : supC (fS n wd 0) = #[.int .i64 wd, .int .i64 0, .int .i64 2, .int .i64 0, .int .i64 n] := rfl
      have S1 : supC (fS n wd 1) = #[.int .i64 wd, .int .i64 1, .int .i64 2, .int .i64 0, .int .i64 n] := rfl
      have v0 : validS (fS n wd 0) = true := fS_valid (by have := HN.out.1.1; omega) (by have := HN.out.1.2; omega) HN.out.2 ⟨by omega, by omega⟩
      have v1 : validS (fS n wd 1) = true := fS_valid (by have := HN.out.1.1; omega) (by have := HN.out.1.2; omega) HN.out.2 ⟨by omega, by omega⟩
      have hbl2 : base ≤ w2.heap.size := by have := HS.out.2.2.2.2.2.size; have := HBASE.out; omega
      have LM0 : LM w (wr.alloc (.cells (supC (fS n wd 0)) 31)) base w2.heap.size S n (fS n wd 0) [] (1000 + 200) (.slice (some ⟨g, 0, none⟩) n cv) vs (List.replicate n (zz 256)) wr.heap.size (fS n wd 0) := by
        obtain ⟨hW, hB⟩ := HW.out
        have hal : Below wr.heap.size wr (wr.alloc (.cells (supC (fS n wd 0)) 31)) := (Below.refl _ wr).alloc (Nat.le_refl _) _
        have hB2 := hB.trans (hal.mono hB.size)
        refine ⟨HS.out.1.below hB2, hW.of_heap fun k hk => hal.block k (hW.lt hk).2, hnew wr _, fun k hk q => ?_, ⟨hbl2, hB.size⟩, HS.out.2.2.2.2.2.trans (hB2.mono hbl2)⟩
        have := HS.out.1.sk.fp_lt q
        rcases hk with rfl | hk
        · have := hB.size; omega
        · have := (hW.lt hk).1; omega
      have G0 : Gl (wr.alloc (.cells (supC (fS n wd 0)) 31)) := HGL.out.below LM0.bl (by rw [HBASE.out]; exact HGL.out.1)
      have HQ0 := hid (qSuper_any _ G0 _ v0)
      rw [S0] at HQ0
      have HL0 := hid LM0
      clear LM0 G0 e9 hsv
      go_wp2_with fail
      refine HQ0.out.mono ?_
      rintro _ w3 ⟨y0, rfl, hy0, hb3⟩
      have hy0 : Own w3 _ y0 (secP (fS n wd 0)) := hy0
      obtain ⟨o0, a0⟩ := HL0.out.own hy0
      have L1 := HL0.out.below hb3
      obtain ⟨sp0, cp0, ey0, -, -⟩ := hy0.form
      rw [secP_len] at ey0
      obtain ⟨p1, p2, p3⟩ := L1.put' o0 a0 (secP_len _) 0 (by rw [List.length_replicate]; have := HN.out.1.1; omega)
      have HL1 := hid (p3.sup 1 (.int .i64 1) (s1 := fS n wd 1) rfl)
      have cs1 : w3.cell? ⟨wr.heap.size, 1, none⟩ = some (.int .i64 0) := by rw [cell_of_row _ _ _ _ _ _ L1.bk]; rfl
      have fs1 : w3.frozen? ⟨wr.heap.size, 1, none⟩ = false := frozen_of_row _ _ _ _ _ L1.bk
      clear o0 a0 L1 hy0 hb3 p3 HL0 HQ0
      subst ey0
      generalize vs.getD 0 undef = ov at *
      have rk1 := HL1.out.bk
      rw [S1] at rk1
      have hsz : (Tryd.prog.info? 31).map (·.size) = some 5 := by kernel_rfl
      go_wp2_with (first | refine wpList_load_row rfl 31 _ rfl _ rfl 31 _ _ _ rk1 Tryd.underlying31 rfl hsz ?_)
      have HQ1 := hid (qSuper_any _ (HGL.out.below HL1.out.bl (by rw [HBASE.out]; exact HGL.out.1)) _ v1)
      rw [S1] at HQ1
      clear p1 p2 cs1 fs1 rk1
      generalize (w3.setCell ⟨g, 0, none⟩ (.slice sp0 256 cp0)).setCell ⟨wr.heap.size, 1, none⟩ (.int .i64 1) = w4 at *
      refine HQ1.out.mono ?_
      rintro _ w5 ⟨y1, rfl, hy1, hb5⟩
      have hy1 : Own w5 _ y1 (secP (fS n wd 1)) := hy1
      obtain ⟨o1, a1⟩ := HL1.out.own hy1
      have L2 := HL1.out.below hb5
      obtain ⟨sp1, cp1, ey1, -, -⟩ := hy1.form
      rw [secP_len] at ey1
      obtain ⟨p1, p2, p3⟩ := L2.put' o1 a1 (secP_len _) 1 (by rw [List.length_set, List.length_replicate]; omega)
      have HL2 := hid p3
      clear o1 a1 L2 hy1 hb5 p3 HL1 HQ1
      subst ey1
      generalize (vs.set 0 (Value.slice sp0 256 cp0)).getD 1 undef = ov1 at *
      have HL3 : Hid (LI w (w5.setCell ⟨g, 1, none⟩ (.slice sp1 256 cp1)) base w2.heap.size st p g cv n wr.heap.size 0) := hid (by
        obtain ⟨h1, h2, h3, h4, h5, h6⟩ := HS.out
        have hsS : S.s = fS n wd 1 := h4
        refine ⟨S, fS n wd 0, [], (vs.set 0 (.slice sp0 256 cp0)).set 1 (.slice sp1 256 cp1), ((List.replicate n (zz 256)).set 0 (secP (fS n wd 0))).set 1 (secP (fS n wd 1)), ?_, h2, HST.out.symm, h3, ?_, fun q hq => ?_, by rw [hsS]; rfl⟩
        · have := HL2.out.more 2000 (by omega)
          rw [hsS]
          exact this
        · rw [List.length_set, List.length_set, List.length_replicate]
        · rw [h5, HD.out.2.2.2 q hq]
          by_cases c1 : q = 1
          · subst c1
            rw [if_neg (by omega), if_pos rfl, getD_set_same _ _ (by rw [List.length_set, List.length_replicate]; omega)]
          · rw [getD_set_other _ _ _ (by omega)]
            by_cases c0 : q = 0
            · subst c0
              rw [if_pos rfl, getD_set_same _ _ (by rw [List.length_replicate]; omega)]
            · rw [if_neg c0, if_neg c1, getD_set_other _ _ _ (by omega), rep_getD _ _ _ _ hq])
      clear HL2 HW HS
      generalize wr.heap.size = sb at *
      generalize w2.heap.size = B2 at *
      clear S0 S1 v0 v1
      go_wp2_with fail
      go_loopw [16] (fun i wr => ∃ k : Nat, k ≤ ls.length ∧ k ≤ 20 ∧ i = .int .i64 k ∧ Hid (LI w wr base B2 st p g cv n sb k)) (fun i _ => 21 - (intOf i).toNat)
      case atStart => exact ⟨0, by omega, by omega, rfl, HL3⟩
      case round =>
        clear HL3 p1 p2
        obtain ⟨k, hkl, hk20, rfl, HLI⟩ := hrel
        have hkli : (k : Int) ≤ (ls.length : Int) := by omega
        by_cases hk9 : k < 20
        · have k9 : (k : Int) < 20 := by omega
          obtain ⟨S, o, L, vs, Ps, hM, hvs, hst, hp, hPs, him, hgek⟩ := HLI.out
          have HM := hid (And.intro hM (And.intro hvs (And.intro hst (And.intro hp (And.intro hPs him)))))
          have HGK := hid hgek
          clear hM hvs hst hp hPs him HLI hgek
          go_wp2_with fail
          refine (Image_any wr base S.F p S.D (HM.out.2.2.2.1 ▸ HM.out.1.sx.sk.da)).mono ?_
          rintro _ w6 ⟨vi, rfl, hO6, hb6⟩
          have hil := HM.out.1.sx.hs.il
          obtain ⟨spi, ci, gi, rs, rfl, -, hci, hcm, hgi, hr6⟩ := Own.ot hO6
          rw [hil] at hci hr6 ⊢
          obtain ⟨rfl, hr7⟩ := hr6 (by omega)
          have HM6 := hid (And.intro (HM.out.1.below hb6) (And.intro hr7 (And.intro hil (And.intro hci hcm))))
          have hci' : 256 * (n : Int) ≤ (ci : Int) := by omega
          have hcm' : (ci : Int) ≤ 9223372036854775807 := by unfold maxLen at hcm; omega
          clear hO6 hb6 hil hci hcm hgi hr6 hr7
          go_wp2_with fail
          go_loopw [18] (fun i wr => ∃ q : Nat, q ≤ n ∧ i = .int .i64 q ∧ Hid (LM w wr base B2 S n o L (2000 + 1000 * k) (.slice (some ⟨g, 0, none⟩) n cv) vs Ps sb S.s ∧ wr.heap[gi]? = some (.cells (ints .u8 S.D.img ++ rs).toArray 5 (0, 0)))) (fun i _ => n - (intOf i).toNat)
          case atStart => exact ⟨0, by omega, rfl, hid ⟨HM6.out.1, HM6.out.2.1⟩⟩
          case round =>
            obtain ⟨q, hqn, rfl, hQ⟩ := hrel
            by_cases hq : q < n
            · have hqi : (q : Int) < (n : Int) := by omega
              obtain ⟨lo, hlo⟩ : ∃ lo : Nat, lo = 256 * q := ⟨_, rfl⟩
              have el : 256 * (q : Int) = (lo : Int) := by omega
              have l1 : (lo : Int) + 256 ≤ (ci : Int) := by omega
              have l2 : ¬ ci = lo := by omega
              have l3 : (lo : Int) ≤ 10240 := by omega
              have l4 : lo ≤ lo + 256 := by omega
              have wl : IntKind.i64.wrap (lo : Int) = (lo : Int) := wrap_i64_id _ (by omega) (by omega)
              have wl2 : IntKind.i64.wrap ((lo : Int) + 256) = (lo : Int) + 256 := wrap_i64_id _ (by omega) (by omega)
              have t1 : ((lo : Int) + 256).toNat = lo + 256 := by omega
              have t2 : (0 : Int) ≤ (lo : Int) + 256 := by omega
              have t3 : lo + 256 - lo = 256 := by omega
              obtain ⟨hoq, hlq⟩ := hQ.out.1.wn.o q (by rw [HM.out.2.2.2.2.1]; exact hq)
              obtain ⟨spq, cpq, evq, hsq, -⟩ := hoq.form
              have hcq : wr.cell? ⟨g, q, none⟩ = some (.slice spq 256 cpq) := by
                obtain ⟨sv9, cv9, b9, e9, -, -, hs9, hc9⟩ := hQ.out.1.wn.k.at
                injection e9 with z1 z2 z3
                rw [hs9 (by rw [hQ.out.1.wn.l, HM.out.2.2.2.2.1]; omega)] at z1
                injection z1 with z1
                injection z1 with z1
                rw [z1, hc9 q (by rw [hQ.out.1.wn.l, HM.out.2.2.2.2.1]; exact hq), evq, hlq]
              have hsq2 := hid (show ∀ w1, Below wr.heap.size wr w1 → Src w1 spq cpq (Ps.getD q []) from fun w1 hb => hsq.below hb (Nat.le_refl _))
              have hgl : g < wr.heap.size := by
                have := (hQ.out.1.wn.lt (k := g) (Or.inl rfl)).2; exact this
              have hWQ := hid (And.intro hlq (And.intro hgl (And.intro hcq (HM.out.2.2.2.2.2 q hq))))
              have HSM := hid (fun (w1 : World) (hb : Below wr.heap.size wr w1) => same_pg w1 gi ci q n S.D.img rs ((hb.block gi (hlt hQ.out.2)).trans hQ.out.2) HM6.out.2.2.1 hq HM6.out.2.2.2.1 HM6.out.2.2.2.2 base (Ps.getD q []) spq cpq (hsq2.out w1 hb) hlq (HM.out.2.2.2.2.2 q hq))
              rw [← hlo] at HSM
              have hbr : Below wr.heap.size wr wr.drew := ⟨rfl, rfl, rfl, Nat.le_refl _, fun _ _ => rfl⟩
              clear hoq hlq evq hsq hsq2 hqn hlo
              go_wp2_with fail
              refine wp_region_noPanic ?_
              refine wp_region_held_drew (S := fun w' => Below wr.heap.size wr w') (by kernel_rfl) hbr (fun hHeld => ?_)
              refine wpAnyH_take (i := 0) (oi := { dst := some 79, op := Op.move (Operand.tmp 17), type := 29, pos := "law.go:624", after := #[], guard := none }) (v := .slice (some ⟨gi, 0, none⟩) (256 * n) ci) rfl (by kernel_rfl) (by kernel_rfl) (by kernel_rfl) (fun _ _ _ h => h) (Or.inl ⟨by rfl, by intro w hS; go_simp⟩) hHeld ?_
              try simp only [Act.put, List.setIfInBounds_toArray, List.set_cons_zero, List.set_cons_succ]
              refine wpAnyH_take (i := 1) (oi := { dst := some 80, op := Op.move (Operand.tmp 18), type := 3, pos := "law.go:624", after := #[], guard := none }) (v := .int .i64 q) rfl (by kernel_rfl) (by kernel_rfl) (by kernel_rfl) (fun _ _ _ h => h) (Or.inl ⟨by rfl, by intro w hS; go_simp⟩) hHeld ?_
              try simp only [Act.put, List.setIfInBounds_toArray, List.set_cons_zero, List.set_cons_succ]
              refine wpAnyH_take (i := 3) (oi := { dst := some 82, op := Op.move (Operand.tmp 18), type := 3, pos := "law.go:624", after := #[], guard := none }) (v := .int .i64 q) rfl (by kernel_rfl) (by kernel_rfl) (by kernel_rfl) (fun _ _ _ h => h) (Or.inl ⟨by rfl, by intro w hS; go_simp⟩) hHeld ?_
              try simp only [Act.put, List.setIfInBounds_toArray, List.set_cons_zero, List.set_cons_succ]
              refine wpAnyH_take (i := 7) (oi := { dst := some 86, op := Op.move (Operand.tmp 13), type := 28, pos := "law.go:624", after := #[], guard := none }) (v := .slice (some ⟨g, 0, none⟩) n cv) rfl (by kernel_rfl) (by kernel_rfl) (by kernel_rfl) (fun _ _ _ h => h) (Or.inl ⟨by rfl, by intro w hS; go_simp⟩) hHeld ?_
              try simp only [Act.put, List.setIfInBounds_toArray, List.set_cons_zero, List.set_cons_succ]
              refine wpAnyH_take (i := 8) (oi := { dst := some 87, op := Op.move (Operand.tmp 18), type := 3, pos := "law.go:624", after := #[], guard := none }) (v := .int .i64 q) rfl (by kernel_rfl) (by kernel_rfl) (by kernel_rfl) (fun _ _ _ h => h) (Or.inl ⟨by rfl, by intro w hS; go_simp⟩) hHeld ?_
              try simp only [Act.put, List.setIfInBounds_toArray, List.set_cons_zero, List.set_cons_succ]
              refine wpAnyH_take (i := 2) (oi := { dst := some 81, op := Op.binOp BinOp.mul 3 (Operand.const (Value.int IntKind.i64 256)) (Operand.tmp 80) 3, type := 3, pos := "law.go:624", after := #[{ on := 1, ground := Ground.data }], guard := none }) (v := .int .i64 (lo : Int)) rfl (by kernel_rfl) (by kernel_rfl) (by kernel_rfl) (fun _ _ _ h => h) (Or.inl ⟨by rfl, by intro w hS; go_simp⟩) hHeld ?_
              try simp only [Act.put, List.setIfInBounds_toArray, List.set_cons_zero, List.set_cons_succ]
              refine wpAnyH_take (i := 4) (oi := { dst := some 83, op := Op.binOp BinOp.mul 3 (Operand.const (Value.int IntKind.i64 256)) (Operand.tmp 82) 3, type := 3, pos := "law.go:624", after := #[{ on := 3, ground := Ground.data }], guard := none }) (v := .int .i64 (lo : Int)) rfl (by kernel_rfl) (by kernel_rfl) (by kernel_rfl) (fun _ _ _ h => h) (Or.inl ⟨by rfl, by intro w hS; go_simp⟩) hHeld ?_
              try simp only [Act.put, List.setIfInBounds_toArray, List.set_cons_zero, List.set_cons_succ]
              refine wpAnyH_take (i := 9) (oi := { dst := some 88, op := Op.indexAddr 28 (Operand.tmp 86) (Operand.tmp 87), type := 0, pos := "law.go:624", after := #[{ on := 7, ground := Ground.data }, { on := 8, ground := Ground.data }], guard := none }) (v := .pointer (some ⟨g, 0 + q, none⟩)) rfl (by kernel_rfl) (by kernel_rfl) (by kernel_rfl) (fun _ _ _ h => h) (Or.inl ⟨by rfl, by intro w hS; go_simp⟩) hHeld ?_
              try simp only [Act.put, List.setIfInBounds_toArray, List.set_cons_zero, List.set_cons_succ]
              refine wpAnyH_take (i := 5) (oi := { dst := some 84, op := Op.binOp BinOp.add 3 (Operand.tmp 83) (Operand.const (Value.int IntKind.i64 256)) 3, type := 3, pos := "law.go:624", after := #[{ on := 4, ground := Ground.data }], guard := none }) (v := .int .i64 ((lo : Int) + 256)) rfl (by kernel_rfl) (by kernel_rfl) (by kernel_rfl) (fun _ _ _ h => h) (Or.inl ⟨by rfl, by intro w hS; go_simp⟩) hHeld ?_
              try simp only [Act.put, List.setIfInBounds_toArray, List.set_cons_zero, List.set_cons_succ]
              refine wpAnyH_take (i := 10) (oi := { dst := some 89, op := Op.load 29 (Operand.tmp 88), type := 29, pos := "law.go:624", after := #[{ on := 9, ground := Ground.data }], guard := none }) (v := .slice spq 256 cpq) rfl (by kernel_rfl) (by kernel_rfl) (by kernel_rfl) (fun _ _ _ h => h) (Or.inl ⟨by rfl, by intro w hS; have hc := ((hS.cell (p := ⟨g, q, none⟩) hgl).trans hcq); go_simp⟩) hHeld ?_
              try simp only [Act.put, List.setIfInBounds_toArray, List.set_cons_zero, List.set_cons_succ]
              refine wpAnyH_take (i := 6) (oi := { dst := some 85, op := Op.slice 29 (Operand.tmp 79) (some (Operand.tmp 81)) (some (Operand.tmp 84)) none, type := 29, pos := "law.go:624", after := #[{ on := 0, ground := Ground.data }, { on := 2, ground := Ground.data }, { on := 5, ground := Ground.data }], guard := none }) (v := .slice (some ⟨gi, lo, none⟩) 256 (ci - lo)) rfl (by kernel_rfl) (by kernel_rfl) (by kernel_rfl) (fun _ _ _ h => h) (Or.inl ⟨by rfl, by intro w hS; go_simp⟩) hHeld ?_
              try simp only [Act.put, List.setIfInBounds_toArray, List.set_cons_zero, List.set_cons_succ]
              refine wpAnyH_ready (rs := [11]) (by kernel_rfl) (by simp) ?_
              refine (AllReadyH.cons (o := { dst := some 90, op := Op.call { callee := Callee.value (Operand.func 9), args := #[Operand.tmp 85, Operand.tmp 89], argTypes := #[29, 29] }, type := 4, pos := "law.go:624", after := #[{ on := 6, ground := Ground.data }, { on := 10, ground := Ground.data }], guard := none }) rfl (fun K hK => ?_) AllReadyH.nil)
              go_simp
              go_at_call 9
              refine (HSM.out _ hHeld).mono ?_
              rintro e w4 ⟨rfl, hB⟩
              go_wp2_with fail
              refine hK.out _ _ (hHeld.trans (hB.mono hHeld.size)) (fun hHeld2 => ?_)
              clear hK K hHeld
              have hHeld := hHeld2
              clear hHeld2
              clear hB
              try simp only [Act.put, List.setIfInBounds_toArray, List.set_cons_zero, List.set_cons_succ]
              refine wpAnyH_take (i := 12) (oi := { dst := some 91, op := Op.unOp UnOp.not 4 (Operand.tmp 90), type := 4, pos := "law.go:624", after := #[{ on := 11, ground := Ground.data }], guard := none }) (v := .bool false) rfl (by kernel_rfl) (by kernel_rfl) (by kernel_rfl) (fun _ _ _ h => h) (Or.inl ⟨by rfl, by intro w hS; go_simp⟩) hHeld ?_
              try simp only [Act.put, List.setIfInBounds_toArray, List.set_cons_zero, List.set_cons_succ]
              refine wpAnyH_done (by kernel_rfl) ?_ _
              refine NoPanic.normal ?_
              have hHH := hHeld
              clear hHeld
              go_wp2
              go_roundw
              case rel => exact ⟨q + 1, by omega, by go_num, hid ⟨hQ.out.1.below hHH, (hHH.block gi (hlt hQ.out.2)).trans hQ.out.2⟩⟩
              case measure => simp [intOf]; omega
            · have hqi : ¬ (q : Int) < (n : Int) := by omega
              obtain rfl : n = q := by omega
              clear hq hqn
              have HM := hid (And.intro hQ.out.1 HM.out.2)
              clear hQ HM6
              by_cases hke : k = ls.length
              · have hki : ((k : Int) == (ls.length : Int)) = true := by simp [hke]
                have hB := HM.out.1.bl
                rw [HBASE.out] at hB
                have HB9 := hid hB
                clear hB HM hke hkl hk20 hk9
                go_wp2
                go_ret
                exact ⟨rfl, HB9.out⟩
              · have hki : ((k : Int) == (ls.length : Int)) = false := by simp; omega
                have hkl2 : k < ls.length := by omega
                have hkl3 : (k : Int) < (ls.length : Int) := by omega
                obtain ⟨lb, lo, hl1, hl2⟩ := HLT.out
                obtain ⟨hlb, rfl⟩ := hl1 (by omega)
                obtain ⟨tp, tc, hl3, hl4, hl5, hl6, hl7⟩ := hl2 k hkl2
                rw [← HBASE.out] at hlb hl4
                have hbw := HM.out.1.bl
                have hcl := (hbw.cell (p := ⟨lb, lo + k, none⟩) hlb).trans hl3
                have hMs := hl4.below hbw
                obtain ⟨m, hm⟩ : ∃ m, m = 2 + L.length := ⟨_, rfl⟩
                have hma : S.s.ma = (m : Int) := by rw [hm]; exact HM.out.1.sx.hs.ma
                have hmn : m ≤ n := by rw [hm]; exact HM.out.1.sx.hs.le
                have hcm : wr.cell? ⟨sb, 2, none⟩ = some (.int .i64 (m : Int)) := by rw [cell_of_row _ _ _ _ _ _ HM.out.1.bk, ← hma]; rfl
                obtain ⟨r, hr⟩ : ∃ r, r = n - m := ⟨_, rfl⟩
                have hri : (n : Int) - (m : Int) = (r : Int) := by omega
                have hrb : (r : Int) ≤ 40 := by omega
                have hwr : IntKind.i64.wrap (r : Int) = (r : Int) := wrap_i64_id _ (by omega) (by omega)
                generalize ls.getD k [] = ms at *
                have HMS := hid (And.intro hMs (And.intro hl5 (And.intro hl6 (And.intro hl7 (And.intro hlb (And.intro hm (And.intro hr (And.intro hma hmn))))))))
                have hsbl := hlt HM.out.1.bk
                have hbsz : base ≤ wr.heap.size := by have := HM.out.1.bb; omega
                have KCU := hid (fun (w1 : World) (hb : Below wr.heap.size wr w1) => cutN_any w1 tp tc ms r (by
                  obtain ⟨b9, o9, z1, z2⟩ := HMS.out.1.below (hb.mono hbsz)
                  exact ⟨b9, o9, fun q => ⟨by have := (z1 q).1; have := hb.size; omega, (z1 q).2⟩, fun i hi => by
                    obtain ⟨tp9, tc9, a1, a2, a3⟩ := z2 i hi
                    exact ⟨tp9, tc9, a1, a2, fun q a e => by have := a3 q a e; have := hb.size; omega⟩⟩) HMS.out.2.1 HMS.out.2.2.1)
                have hbr : Below wr.heap.size wr wr.drew := ⟨rfl, rfl, rfl, Nat.le_refl _, fun _ _ => rfl⟩
                have hlbl : lb < wr.heap.size := by omega
                clear hl1 hl2 hl3 hl4 hl5 hl6 hl7 hMs hm hr hma hbw hke hkl
                generalize hml9 : ms.length = ml at *
                have HML := hid hml9
                clear hml9
                go_wp2_with fail
                refine wp_region_noPanic ?_
                refine wp_region_held_drew (S := fun w' => Below wr.heap.size wr w') (by kernel_rfl) hbr (fun hHeld => ?_)
                refine wpAnyH_take (i := 0) (oi := { dst := some 96, op := Op.move (Operand.tmp 3), type := 22, pos := "law.go:631", after := #[], guard := none }) (v := .slice (some ⟨lb, lo, none⟩) ls.length cap) rfl (by kernel_rfl) (by kernel_rfl) (by kernel_rfl) (fun _ _ _ h => h) (Or.inl ⟨by rfl, by intro w hS; go_simp⟩) hHeld ?_
                try simp only [Act.put, List.setIfInBounds_toArray, List.set_cons_zero, List.set_cons_succ]
                refine wpAnyH_take (i := 1) (oi := { dst := some 97, op := Op.move (Operand.tmp 16), type := 3, pos := "law.go:631", after := #[], guard := none }) (v := .int .i64 k) rfl (by kernel_rfl) (by kernel_rfl) (by kernel_rfl) (fun _ _ _ h => h) (Or.inl ⟨by rfl, by intro w hS; go_simp⟩) hHeld ?_
                try simp only [Act.put, List.setIfInBounds_toArray, List.set_cons_zero, List.set_cons_succ]
                refine wpAnyH_take (i := 4) (oi := { dst := some 100, op := Op.move (Operand.tmp 9), type := 3, pos := "law.go:631", after := #[], guard := none }) (v := .int .i64 n) rfl (by kernel_rfl) (by kernel_rfl) (by kernel_rfl) (fun _ _ _ h => h) (Or.inl ⟨by rfl, by intro w hS; go_simp⟩) hHeld ?_
                try simp only [Act.put, List.setIfInBounds_toArray, List.set_cons_zero, List.set_cons_succ]
                refine wpAnyH_take (i := 5) (oi := { dst := some 101, op := Op.fieldAddr 31 (Operand.tmp 15) 2, type := 0, pos := "law.go:631", after := #[], guard := none }) (v := .pointer (some ⟨sb, 2, none⟩)) rfl (by kernel_rfl) (by kernel_rfl) (by kernel_rfl) (fun _ _ _ h => h) (Or.inl ⟨by rfl, by intro w hS; go_simp⟩) hHeld ?_
                try simp only [Act.put, List.setIfInBounds_toArray, List.set_cons_zero, List.set_cons_succ]
                refine wpAnyH_take (i := 2) (oi := { dst := some 98, op := Op.indexAddr 22 (Operand.tmp 96) (Operand.tmp 97), type := 0, pos := "law.go:631", after := #[{ on := 0, ground := Ground.data }, { on := 1, ground := Ground.data }], guard := none }) (v := .pointer (some ⟨lb, lo + k, none⟩)) rfl (by kernel_rfl) (by kernel_rfl) (by kernel_rfl) (fun _ _ _ h => h) (Or.inl ⟨by rfl, by intro w hS; go_simp⟩) hHeld ?_
                try simp only [Act.put, List.setIfInBounds_toArray, List.set_cons_zero, List.set_cons_succ]
                refine wpAnyH_take (i := 6) (oi := { dst := some 102, op := Op.load 3 (Operand.tmp 101), type := 3, pos := "law.go:631", after := #[{ on := 5, ground := Ground.data }], guard := none }) (v := .int .i64 m) rfl (by kernel_rfl) (by kernel_rfl) (by kernel_rfl) (fun _ _ _ h => h) (Or.inl ⟨by rfl, by intro w hS; have hc := ((hS.cell (p := ⟨sb, 2, none⟩) hsbl).trans hcm); go_simp⟩) hHeld ?_
                try simp only [Act.put, List.setIfInBounds_toArray, List.set_cons_zero, List.set_cons_succ]
                refine wpAnyH_take (i := 3) (oi := { dst := some 99, op := Op.load 35 (Operand.tmp 98), type := 35, pos := "law.go:631", after := #[{ on := 2, ground := Ground.data }], guard := none }) (v := .slice tp ml tc) rfl (by kernel_rfl) (by kernel_rfl) (by kernel_rfl) (fun _ _ _ h => h) (Or.inl ⟨by rfl, by intro w hS; have hc := ((hS.cell (p := ⟨lb, lo + k, none⟩) hlbl).trans hcl); go_simp⟩) hHeld ?_
                try simp only [Act.put, List.setIfInBounds_toArray, List.set_cons_zero, List.set_cons_succ]
                refine wpAnyH_take (i := 7) (oi := { dst := some 103, op := Op.binOp BinOp.sub 3 (Operand.tmp 100) (Operand.tmp 102) 3, type := 3, pos := "law.go:631", after := #[{ on := 4, ground := Ground.data }, { on := 6, ground := Ground.data }], guard := none }) (v := .int .i64 (r : Int)) rfl (by kernel_rfl) (by kernel_rfl) (by kernel_rfl) (fun _ _ _ h => h) (Or.inl ⟨by rfl, by intro w hS; go_simp⟩) hHeld ?_
                try simp only [Act.put, List.setIfInBounds_toArray, List.set_cons_zero, List.set_cons_succ]
                refine wpAnyH_ready (rs := [8]) (by kernel_rfl) (by simp) ?_
                refine (AllReadyH.cons (o := { dst := some 104, op := Op.call { callee := Callee.value (Operand.func 10), args := #[Operand.tmp 99, Operand.tmp 103], argTypes := #[35, 3] }, type := 35, pos := "law.go:631", after := #[{ on := 3, ground := Ground.data }, { on := 7, ground := Ground.data }], guard := none }) rfl (fun K hK => ?_) AllReadyH.nil)
                go_simp
                go_at_call 10
                refine (KCU.out _ hHeld).mono ?_
                rintro e w4 ⟨rfl, hw⟩
                obtain rfl := hw.symm
                go_wp2_with fail
                refine hK.out _ _ (hHeld) (fun hHeld2 => ?_)
                clear hK K hHeld
                have hHeld := hHeld2
                clear hHeld2
                try simp only [Act.put, List.setIfInBounds_toArray, List.set_cons_zero, List.set_cons_succ]
                refine wpAnyH_take (i := 9) (oi := { dst := some 19, op := Op.assign (Operand.tmp 104), type := 35, pos := "law.go:631", after := #[{ on := 8, ground := Ground.data }, { on := 8, ground := Ground.chain }, { on := 0, ground := Ground.phase }, { on := 1, ground := Ground.phase }, { on := 2, ground := Ground.phase }, { on := 3, ground := Ground.phase }, { on := 4, ground := Ground.phase }, { on := 5, ground := Ground.phase }, { on := 6, ground := Ground.phase }, { on := 7, ground := Ground.phase }, { on := 8, ground := Ground.phase }], guard := none }) (v := .slice tp (ms.take r).length tc) rfl (by kernel_rfl) (by kernel_rfl) (by kernel_rfl) (fun _ _ _ h => h) (Or.inl ⟨by rfl, by intro w hS; go_simp⟩) hHeld ?_
                try simp only [Act.put, List.setIfInBounds_toArray, List.set_cons_zero, List.set_cons_succ]
                refine wpAnyH_done (by kernel_rfl) ?_ _
                refine NoPanic.normal ?_
                have hHH := hHeld
                clear hHeld
                have hLMd := HM.out.1.below hHH
                have hsxd := hLMd.sx
                have hvl2 : (ms.take r).length ≤ r := by rw [List.length_take]; omega
                have hMd : Mds wr.drew base tp (ms.take r) := ((HMS.out.1.below ⟨rfl, rfl, rfl, Nat.le_refl _, fun _ _ => rfl⟩ : Mds wr.drew base tp ms)).take r
                have hok2 : ∀ i, i < (ms.take r).length → MdOk ((ms.take r).getD i dM) := fun i hi => by
                  have hi2 : i < r ∧ i < ms.length := by rw [List.length_take] at hi; omega
                  have := HMS.out.2.2.2.1 i (by rw [← HML.out]; exact hi2.2)
                  rwa [List.getD_eq_getElem?_getD, List.getElem?_take, if_pos hi2.1, ← List.getD_eq_getElem?_getD]
                have hle2 : (ms.take r).length ≤ tc := Nat.le_trans (by rw [List.length_take, ← HML.out]; omega) HMS.out.2.1
                have hfit : m + (ms.take r).length ≤ n := by have := HMS.out.2.2.2.2.2.2.1; have := HMS.out.2.2.2.2.2.2.2.2; omega
                have HST9 := hid (Sx.stages hsxd (by omega) (by omega) HM.out.2.1 tp tc (ms.take r) hMd hok2 m HMS.out.2.2.2.2.2.1 (by omega) hfit)
                rw [HM.out.2.2.1] at HST9
                have HX9 := hid (And.intro hLMd (And.intro hMd (And.intro hok2 (And.intro hle2 (And.intro hfit HMS.out.2.2.2.2)))))
                have hHD := hid hHH
                clear hLMd hsxd hvl2 hMd hok2 hle2 hfit HMS KCU hHH hbr
                generalize ms.take r = mt at *
                have hml : (mt.length : Int) ≤ 40 := by have := HX9.out.2.2.2.2.1; omega
                generalize wr.drew = w7 at *
                have hcm7 : w7.cell? ⟨sb, 2, none⟩ = some (.int .i64 (m : Int)) := (hHD.out.cell (p := ⟨sb, 2, none⟩) hsbl).trans hcm
                go_wp2_with fail
                refine HST9.out.mono ?_
                rintro _ w8 ⟨rfl, S2, hS2, hvs2, ⟨e1, e2, e3, e4, e5, e6⟩, hb8, hf8, hg8⟩
                have hLM8 := HX9.out.1.stage hS2 hf8 hg8 hb8
                have HM8 := hid (And.intro hLM8 (And.intro hvs2 (And.intro e1 (And.intro e2 (And.intro e4 (And.intro e5 (And.intro hS2 hb8)))))))
                clear hLM8 hS2 hvs2 e1 e2 e3 e4 e5 e6 hb8 hf8 hg8 HST9 hcm7 hcm hcl hHD hlbl hsbl
                generalize hml8 : mt.length = mtl at *
                have HML8 := hid hml8
                clear hml8
                go_wp2_with fail
                go_loopw [20] (fun i wr => ∃ j : Nat, j ≤ mtl ∧ i = .int .i64 j ∧ Hid (Below base w7 wr ∧ ∃ (vs' : List Value) (Ps' : List (List Int)), LM w wr base B2 S2 n o L (2000 + 1000 * k + 200) (.slice (some ⟨g, 0, none⟩) n cv) vs' Ps' sb S.s ∧ Ps'.length = n ∧ ∀ q, q < n → Ps'.getD q [] = if m ≤ q ∧ q < m + j then pageP (mdV (mt.getD (q - m) dM)).1 (q : Int) (mdV (mt.getD (q - m) dM)).2 else Ps.getD q [])) (fun i _ => mtl - (intOf i).toNat)
                case atStart => exact ⟨0, by omega, rfl, hid ⟨HM8.out.2.2.2.2.2.2.2, vs, Ps, HM8.out.1, HM.out.2.2.2.2.1, fun q hq => by rw [if_neg (by omega)]⟩⟩
                case round =>
                  obtain ⟨j, hjl, rfl, hJ⟩ := hrel
                  have hjli : (j : Int) ≤ (mtl : Int) := by omega
                  by_cases hj : j < mtl
                  · have hji : (j : Int) < (mtl : Int) := by omega
                    obtain ⟨hbJ, vs', Ps', hLJ, hPl, hPq⟩ := hJ.out
                    obtain ⟨hLMd, hMd, hok2, hle2, hfit, hlb9, hm9, hr9, hma9, hmn9⟩ := HX9.out
                    obtain ⟨tb, tO, tp2, tc2, rfl, htb, q0, q1, hsrc, hsb9⟩ := hMd.at hbJ j (by rw [HML8.out]; exact hj)
                    obtain ⟨hby, hle⟩ := hok2 j (by first | exact hj | (rw [HML8.out]; exact hj))
                    have hcm9 : wr.cell? ⟨sb, 2, none⟩ = some (.int .i64 (m : Int)) := by rw [cell_of_row _ _ _ _ _ _ hLJ.bk, ← hma9]; rfl
                    have hsl9 := hlt hLJ.bk
                    have HMA9 := hid hma9
                    have HMV := hid (show mdV (mt.getD j dM) = (wholeF (mt.getD j dM).kind 1 3, (mt.getD j dM).load.take 246) from rfl)
                    generalize hmd9 : mt.getD j dM = md at *
                    have HMD := hid hmd9
                    clear hmd9
                    have KWJ := hid (fun w' => hwhole_any w' md.kind 1 3 (by omega) (by omega) (by omega))
                    have hwb := wholeF_bd md.kind 1 3 (by omega)
                    have KSH := hid (fun w' (hb : Below base wr w') => hshort_any w' md.load tp2 tc2 (SrcB hsrc hb hsb9) (by omega) 246 (by omega))
                    have h8 : Byts (md.load.take 246) := fun x hx => hby x (List.mem_of_mem_take hx)
                    have hz : (md.load.take 246).length ≤ 246 := by rw [List.length_take]; omega
                    generalize wholeF md.kind 1 3 = kd at *
                    generalize md.load.take 246 = zs at *
                    have hJJ := hid (And.intro hLJ (And.intro hPl (And.intro hPq (And.intro hbJ (And.intro h8 (And.intro hz hwb))))))
                    have hmj : (m : Int) + (j : Int) = ((m + j : Nat) : Int) := by push_cast; rfl
                    have hmjn : m + j < n := by omega
                    have hbw9 : base ≤ wr.heap.size := by have := hLJ.bb; omega
                    obtain ⟨mj, hmj9⟩ : ∃ x, x = m + j := ⟨_, rfl⟩
                    have hmj2 : (m : Int) + (j : Int) = (mj : Int) := by omega
                    have hmj3 : (mj : Int) < (n : Int) := by omega
                    have hmj4 : (mj : Int) ≤ 40 := by omega
                    have hwm : IntKind.i64.wrap (mj : Int) = (mj : Int) := wrap_i64_id _ (by omega) (by omega)
                    have HJL := hid hj
                    have HMJ := hid (And.intro hmj9 (And.intro hm9 hmjn))
                    have hbd9 : Below base wr wr.drew := ⟨rfl, rfl, rfl, Nat.le_refl _, fun _ _ => rfl⟩
                    clear hLMd hMd hok2 hle2 hfit hlb9 hm9 hr9 hma9 hmn9 hsrc hsb9 hby hle h8 hz hwb hLJ hPl hPq hbJ hmj hmjn hmj9 hj hjl hjli
                    generalize (md.load.length) = tl at *
                    go_wp2_with fail
                    refine wp_region_noPanic ?_
                    refine wp_region_held_drew (S := fun w' => Below base wr w' ∧ w'.cell? ⟨sb, 2, none⟩ = some (.int .i64 (m : Int))) (by kernel_rfl) ⟨hbd9, hcm9⟩ (fun hHeld => ?_)
                    refine wpAnyH_take (i := 0) (oi := { dst := some 117, op := Op.move (Operand.tmp 13), type := 28, pos := "law.go:636", after := #[], guard := none }) (v := .slice (some ⟨g, 0, none⟩) n cv) rfl (by kernel_rfl) (by kernel_rfl) (by kernel_rfl) (fun _ _ _ h => h) (Or.inl ⟨by rfl, by intro w hS; go_simp⟩) hHeld ?_
                    try simp only [Act.put, List.setIfInBounds_toArray, List.set_cons_zero, List.set_cons_succ]
                    refine wpAnyH_take (i := 1) (oi := { dst := some 118, op := Op.fieldAddr 31 (Operand.tmp 15) 2, type := 0, pos := "law.go:636", after := #[], guard := none }) (v := .pointer (some ⟨sb, 2, none⟩)) rfl (by kernel_rfl) (by kernel_rfl) (by kernel_rfl) (fun _ _ _ h => h) (Or.inl ⟨by rfl, by intro w hS; go_simp⟩) hHeld ?_
                    try simp only [Act.put, List.setIfInBounds_toArray, List.set_cons_zero, List.set_cons_succ]
                    refine wpAnyH_take (i := 3) (oi := { dst := some 120, op := Op.move (Operand.tmp 20), type := 3, pos := "law.go:636", after := #[], guard := none }) (v := .int .i64 j) rfl (by kernel_rfl) (by kernel_rfl) (by kernel_rfl) (fun _ _ _ h => h) (Or.inl ⟨by rfl, by intro w hS; go_simp⟩) hHeld ?_
                    try simp only [Act.put, List.setIfInBounds_toArray, List.set_cons_zero, List.set_cons_succ]
                    refine wpAnyH_take (i := 5) (oi := { dst := some 122, op := Op.move (Operand.tmp 19), type := 35, pos := "law.go:636", after := #[], guard := none }) (v := .slice (some ⟨tb, tO, none⟩) mtl tc) rfl (by kernel_rfl) (by kernel_rfl) (by kernel_rfl) (fun _ _ _ h => h) (Or.inl ⟨by rfl, by intro w hS; go_simp⟩) hHeld ?_
                    try simp only [Act.put, List.setIfInBounds_toArray, List.set_cons_zero, List.set_cons_succ]
                    refine wpAnyH_take (i := 6) (oi := { dst := some 123, op := Op.move (Operand.tmp 20), type := 3, pos := "law.go:636", after := #[], guard := none }) (v := .int .i64 j) rfl (by kernel_rfl) (by kernel_rfl) (by kernel_rfl) (fun _ _ _ h => h) (Or.inl ⟨by rfl, by intro w hS; go_simp⟩) hHeld ?_
                    try simp only [Act.put, List.setIfInBounds_toArray, List.set_cons_zero, List.set_cons_succ]
                    refine wpAnyH_take (i := 11) (oi := { dst := some 128, op := Op.fieldAddr 31 (Operand.tmp 15) 2, type := 0, pos := "law.go:636", after := #[], guard := none }) (v := .pointer (some ⟨sb, 2, none⟩)) rfl (by kernel_rfl) (by kernel_rfl) (by kernel_rfl) (fun _ _ _ h => h) (Or.inl ⟨by rfl, by intro w hS; go_simp⟩) hHeld ?_
                    try simp only [Act.put, List.setIfInBounds_toArray, List.set_cons_zero, List.set_cons_succ]
                    refine wpAnyH_take (i := 13) (oi := { dst := some 130, op := Op.move (Operand.tmp 20), type := 3, pos := "law.go:636", after := #[], guard := none }) (v := .int .i64 j) rfl (by kernel_rfl) (by kernel_rfl) (by kernel_rfl) (fun _ _ _ h => h) (Or.inl ⟨by rfl, by intro w hS; go_simp⟩) hHeld ?_
                    try simp only [Act.put, List.setIfInBounds_toArray, List.set_cons_zero, List.set_cons_succ]
                    refine wpAnyH_take (i := 15) (oi := { dst := some 132, op := Op.move (Operand.tmp 19), type := 35, pos := "law.go:636", after := #[], guard := none }) (v := .slice (some ⟨tb, tO, none⟩) mtl tc) rfl (by kernel_rfl) (by kernel_rfl) (by kernel_rfl) (fun _ _ _ h => h) (Or.inl ⟨by rfl, by intro w hS; go_simp⟩) hHeld ?_
                    try simp only [Act.put, List.setIfInBounds_toArray, List.set_cons_zero, List.set_cons_succ]
                    refine wpAnyH_take (i := 16) (oi := { dst := some 133, op := Op.move (Operand.tmp 20), type := 3, pos := "law.go:636", after := #[], guard := none }) (v := .int .i64 j) rfl (by kernel_rfl) (by kernel_rfl) (by kernel_rfl) (fun _ _ _ h => h) (Or.inl ⟨by rfl, by intro w hS; go_simp⟩) hHeld ?_
                    try simp only [Act.put, List.setIfInBounds_toArray, List.set_cons_zero, List.set_cons_succ]
                    refine wpAnyH_take (i := 2) (oi := { dst := some 119, op := Op.load 3 (Operand.tmp 118), type := 3, pos := "law.go:636", after := #[{ on := 1, ground := Ground.data }], guard := none }) (v := .int .i64 m) rfl (by kernel_rfl) (by kernel_rfl) (by kernel_rfl) (fun _ _ _ h => h) (Or.inl ⟨by rfl, by intro w hS; have hc := hS.2; go_simp⟩) hHeld ?_
                    try simp only [Act.put, List.setIfInBounds_toArray, List.set_cons_zero, List.set_cons_succ]
                    refine wpAnyH_take (i := 7) (oi := { dst := some 124, op := Op.indexAddr 35 (Operand.tmp 122) (Operand.tmp 123), type := 0, pos := "law.go:636", after := #[{ on := 5, ground := Ground.data }, { on := 6, ground := Ground.data }], guard := none }) (v := .pointer (some ⟨tb, tO + j * 2, none⟩)) rfl (by kernel_rfl) (by kernel_rfl) (by kernel_rfl) (fun _ _ _ h => h) (Or.inl ⟨by rfl, by intro w hS; go_simp⟩) hHeld ?_
                    try simp only [Act.put, List.setIfInBounds_toArray, List.set_cons_zero, List.set_cons_succ]
                    refine wpAnyH_take (i := 12) (oi := { dst := some 129, op := Op.load 3 (Operand.tmp 128), type := 3, pos := "law.go:636", after := #[{ on := 11, ground := Ground.data }], guard := none }) (v := .int .i64 m) rfl (by kernel_rfl) (by kernel_rfl) (by kernel_rfl) (fun _ _ _ h => h) (Or.inl ⟨by rfl, by intro w hS; have hc := hS.2; go_simp⟩) hHeld ?_
                    try simp only [Act.put, List.setIfInBounds_toArray, List.set_cons_zero, List.set_cons_succ]
                    refine wpAnyH_take (i := 17) (oi := { dst := some 134, op := Op.indexAddr 35 (Operand.tmp 132) (Operand.tmp 133), type := 0, pos := "law.go:636", after := #[{ on := 15, ground := Ground.data }, { on := 16, ground := Ground.data }], guard := none }) (v := .pointer (some ⟨tb, tO + j * 2, none⟩)) rfl (by kernel_rfl) (by kernel_rfl) (by kernel_rfl) (fun _ _ _ h => h) (Or.inl ⟨by rfl, by intro w hS; go_simp⟩) hHeld ?_
                    try simp only [Act.put, List.setIfInBounds_toArray, List.set_cons_zero, List.set_cons_succ]
                    refine wpAnyH_take (i := 4) (oi := { dst := some 121, op := Op.binOp BinOp.add 3 (Operand.tmp 119) (Operand.tmp 120) 3, type := 3, pos := "law.go:636", after := #[{ on := 2, ground := Ground.data }, { on := 3, ground := Ground.data }], guard := none }) (v := .int .i64 (mj : Int)) rfl (by kernel_rfl) (by kernel_rfl) (by kernel_rfl) (fun _ _ _ h => h) (Or.inl ⟨by rfl, by intro w hS; go_simp⟩) hHeld ?_
                    try simp only [Act.put, List.setIfInBounds_toArray, List.set_cons_zero, List.set_cons_succ]
                    refine wpAnyH_take (i := 8) (oi := { dst := some 125, op := Op.fieldAddr 40 (Operand.tmp 124) 0, type := 0, pos := "law.go:636", after := #[{ on := 7, ground := Ground.data }], guard := none }) (v := .pointer (some ⟨tb, tO + j * 2, none⟩)) rfl (by kernel_rfl) (by kernel_rfl) (by kernel_rfl) (fun _ _ _ h => h) (Or.inl ⟨by rfl, by intro w hS; go_simp⟩) hHeld ?_
                    try simp only [Act.put, List.setIfInBounds_toArray, List.set_cons_zero, List.set_cons_succ]
                    refine wpAnyH_take (i := 14) (oi := { dst := some 131, op := Op.binOp BinOp.add 3 (Operand.tmp 129) (Operand.tmp 130) 3, type := 3, pos := "law.go:636", after := #[{ on := 12, ground := Ground.data }, { on := 13, ground := Ground.data }], guard := none }) (v := .int .i64 (mj : Int)) rfl (by kernel_rfl) (by kernel_rfl) (by kernel_rfl) (fun _ _ _ h => h) (Or.inl ⟨by rfl, by intro w hS; go_simp⟩) hHeld ?_
                    try simp only [Act.put, List.setIfInBounds_toArray, List.set_cons_zero, List.set_cons_succ]
                    refine wpAnyH_take (i := 18) (oi := { dst := some 135, op := Op.fieldAddr 40 (Operand.tmp 134) 1, type := 0, pos := "law.go:636", after := #[{ on := 17, ground := Ground.data }], guard := none }) (v := .pointer (some ⟨tb, tO + j * 2 + 1, none⟩)) rfl (by kernel_rfl) (by kernel_rfl) (by kernel_rfl) (fun _ _ _ h => h) (Or.inl ⟨by rfl, by intro w hS; go_simp⟩) hHeld ?_
                    try simp only [Act.put, List.setIfInBounds_toArray, List.set_cons_zero, List.set_cons_succ]
                    refine wpAnyH_take (i := 9) (oi := { dst := some 126, op := Op.load 3 (Operand.tmp 125), type := 3, pos := "law.go:636", after := #[{ on := 8, ground := Ground.data }], guard := none }) (v := .int .i64 md.kind) rfl (by kernel_rfl) (by kernel_rfl) (by kernel_rfl) (fun _ _ _ h => h) (Or.inl ⟨by rfl, by intro w hS; have hc := ((hS.1.cell (p := ⟨tb, tO + j * 2, none⟩) htb).trans q0); go_simp⟩) hHeld ?_
                    try simp only [Act.put, List.setIfInBounds_toArray, List.set_cons_zero, List.set_cons_succ]
                    refine wpAnyH_take (i := 19) (oi := { dst := some 136, op := Op.load 29 (Operand.tmp 135), type := 29, pos := "law.go:636", after := #[{ on := 18, ground := Ground.data }], guard := none }) (v := .slice tp2 tl tc2) rfl (by kernel_rfl) (by kernel_rfl) (by kernel_rfl) (fun _ _ _ h => h) (Or.inl ⟨by rfl, by intro w hS; have hc := ((hS.1.cell (p := ⟨tb, tO + j * 2 + 1, none⟩) htb).trans q1); go_simp⟩) hHeld ?_
                    try simp only [Act.put, List.setIfInBounds_toArray, List.set_cons_zero, List.set_cons_succ]
                    refine wpAnyH_ready (rs := [10]) (by kernel_rfl) (by simp) ?_
                    refine (AllReadyH.cons (o := { dst := some 127, op := Op.call { callee := Callee.value (Operand.func 4), args := #[Operand.tmp 126, Operand.const (Value.int IntKind.i64 1), Operand.const (Value.int IntKind.i64 3)], argTypes := #[3, 3, 3] }, type := 3, pos := "law.go:636", after := #[{ on := 9, ground := Ground.data }], guard := none }) rfl (fun K hK => ?_) AllReadyH.nil)
                    go_simp
                    go_at_call 4
                    refine (KWJ.out _).mono ?_
                    rintro e w4 ⟨rfl, hw⟩
                    obtain rfl := hw.symm
                    go_wp2_with fail
                    refine hK.out _ _ (hHeld) (fun hHeld2 => ?_)
                    clear hK K hHeld
                    have hHeld := hHeld2
                    clear hHeld2
                    try simp only [Act.put, List.setIfInBounds_toArray, List.set_cons_zero, List.set_cons_succ]
                    refine wpAnyH_ready (rs := [20]) (by kernel_rfl) (by simp) ?_
                    refine (AllReadyH.cons (o := { dst := some 137, op := Op.call { callee := Callee.value (Operand.func 13), args := #[Operand.tmp 136, Operand.const (Value.int IntKind.i64 246)], argTypes := #[29, 3] }, type := 29, pos := "law.go:636", after := #[{ on := 19, ground := Ground.data }, { on := 10, ground := Ground.chain }], guard := none }) rfl (fun K hK => ?_) AllReadyH.nil)
                    go_simp
                    go_at_call 13
                    refine (KSH.out _ hHeld.1).mono ?_
                    rintro e w5 ⟨v5, rfl, hO5, hb5⟩
                    obtain ⟨sp5, cap5, rfl, hs5, hn5⟩ := hO5.form
                    have HB5 := hid (And.intro hb5 hs5)
                    go_wp2_with fail
                    refine hK.out _ _ (⟨hHeld.1.trans (hb5.mono (Nat.le_trans hbw9 hHeld.1.size)), (hb5.cell (p := ⟨sb, 2, none⟩) (Nat.lt_of_lt_of_le hsl9 hHeld.1.size)).trans hHeld.2⟩) (fun hHeld2 => ?_)
                    clear hK K hHeld
                    have hHeld := hHeld2
                    clear hHeld2
                    clear hO5 hs5 hn5 hb5
                    try simp only [Act.put, List.setIfInBounds_toArray, List.set_cons_zero, List.set_cons_succ]
                    refine wpAnyH_ready (rs := [21]) (by kernel_rfl) (by simp) ?_
                    refine (AllReadyH.cons (o := { dst := some 138, op := Op.call { callee := Callee.value (Operand.func 12), args := #[Operand.tmp 127, Operand.tmp 131, Operand.tmp 137], argTypes := #[3, 3, 29] }, type := 29, pos := "law.go:636", after := #[{ on := 10, ground := Ground.data }, { on := 14, ground := Ground.data }, { on := 20, ground := Ground.data }, { on := 20, ground := Ground.chain }], guard := none }) rfl (fun K hK => ?_) AllReadyH.nil)
                    go_simp
                    go_at_call 12
                    refine (qPage_any w5 (HGL.out.below ((hJJ.out.1.bl.trans hHeld.1)) (by rw [HBASE.out]; exact HGL.out.1)) kd mj ⟨hJJ.out.2.2.2.2.2.2.1, hJJ.out.2.2.2.2.2.2.2⟩ ⟨by have := HMJ.out; omega, by have := HMJ.out; omega⟩ zs hJJ.out.2.2.2.2.1 hJJ.out.2.2.2.2.2.1 sp5 cap5 HB5.out.2).mono ?_
                    rintro e w6 ⟨y6, rfl, hO6, hb6⟩
                    have HB6 := hid (And.intro hb6 hO6)
                    obtain ⟨sp6, cp6, ey6, -, -⟩ := hO6.form
                    rw [pageP_len _ _ _ hJJ.out.2.2.2.2.2.1] at ey6
                    subst ey6
                    go_wp2_with fail
                    refine hK.out _ _ (⟨hHeld.1.trans (hb6.mono (Nat.le_trans hbw9 hHeld.1.size)), (hb6.cell (p := ⟨sb, 2, none⟩) (Nat.lt_of_lt_of_le hsl9 hHeld.1.size)).trans hHeld.2⟩) (fun hHeld2 => ?_)
                    clear hK K hHeld
                    have hHeld := hHeld2
                    clear hHeld2
                    clear hO6 hb6
                    try simp only [Act.put, List.setIfInBounds_toArray, List.set_cons_zero, List.set_cons_succ]
                    refine wpAnyH_take (i := 22) (oi := { dst := some 139, op := Op.indexAddr 28 (Operand.tmp 117) (Operand.tmp 121), type := 0, pos := "law.go:636", after := #[{ on := 0, ground := Ground.data }, { on := 4, ground := Ground.data }, { on := 0, ground := Ground.phase }, { on := 1, ground := Ground.phase }, { on := 2, ground := Ground.phase }, { on := 3, ground := Ground.phase }, { on := 4, ground := Ground.phase }, { on := 5, ground := Ground.phase }, { on := 6, ground := Ground.phase }, { on := 7, ground := Ground.phase }, { on := 8, ground := Ground.phase }, { on := 9, ground := Ground.phase }, { on := 10, ground := Ground.phase }, { on := 11, ground := Ground.phase }, { on := 12, ground := Ground.phase }, { on := 13, ground := Ground.phase }, { on := 14, ground := Ground.phase }, { on := 15, ground := Ground.phase }, { on := 16, ground := Ground.phase }, { on := 17, ground := Ground.phase }, { on := 18, ground := Ground.phase }, { on := 19, ground := Ground.phase }, { on := 20, ground := Ground.phase }, { on := 21, ground := Ground.phase }], guard := none }) (v := .pointer (some ⟨g, 0 + mj, none⟩)) rfl (by kernel_rfl) (by kernel_rfl) (by kernel_rfl) (fun _ _ _ h => h) (Or.inl ⟨by rfl, by intro w hS; go_simp⟩) hHeld ?_
                    try simp only [Act.put, List.setIfInBounds_toArray, List.set_cons_zero, List.set_cons_succ]
                    refine wpAnyH_ready (rs := [23]) (by kernel_rfl) (by simp) ?_
                    refine (AllReadyH.cons (o := { dst := none, op := Op.store 29 (Operand.tmp 139) (Operand.tmp 138), type := 0, pos := "law.go:636", after := #[{ on := 22, ground := Ground.data }, { on := 21, ground := Ground.data }, { on := 21, ground := Ground.chain }, { on := 0, ground := Ground.phase }, { on := 1, ground := Ground.phase }, { on := 2, ground := Ground.phase }, { on := 3, ground := Ground.phase }, { on := 4, ground := Ground.phase }, { on := 5, ground := Ground.phase }, { on := 6, ground := Ground.phase }, { on := 7, ground := Ground.phase }, { on := 8, ground := Ground.phase }, { on := 9, ground := Ground.phase }, { on := 10, ground := Ground.phase }, { on := 11, ground := Ground.phase }, { on := 12, ground := Ground.phase }, { on := 13, ground := Ground.phase }, { on := 14, ground := Ground.phase }, { on := 15, ground := Ground.phase }, { on := 16, ground := Ground.phase }, { on := 17, ground := Ground.phase }, { on := 18, ground := Ground.phase }, { on := 19, ground := Ground.phase }, { on := 20, ground := Ground.phase }, { on := 21, ground := Ground.phase }], guard := none }) rfl (fun K hK => ?_) AllReadyH.nil)
                    have L8 := (hJJ.out.1.below (w1 := wr.drew) ⟨rfl, rfl, rfl, Nat.le_refl _, fun _ _ => rfl⟩).below HB5.out.1
                    obtain ⟨o9, a9⟩ := L8.own HB6.out.2
                    have L9 := L8.below HB6.out.1
                    obtain ⟨z1, z2, z3⟩ := L9.put' o9 a9 (pageP_len _ _ _ hJJ.out.2.2.2.2.2.1) mj (by rw [hJJ.out.2.1]; have := HMJ.out; omega)
                    have hgb : base ≤ g := by have := L9.bb.1; have := (L9.wn.lt (k := g) (Or.inl rfl)).1; omega
                    have HL9 := hid z3
                    clear L8 o9 a9 L9
                    go_simp
                    refine hK.out _ _ (⟨hHeld.1.trans ⟨rfl, rfl, rfl, by rw [World.size_setCell]; exact Nat.le_refl _, fun q hq => heap_setCell_other _ _ _ _ (by show q ≠ g; omega)⟩, by rw [cell_of_row _ _ _ _ _ _ HL9.out.bk]; exact congrArg some (congrArg (Value.int IntKind.i64) HMA9.out)⟩) (fun hHeld2 => ?_)
                    clear hK K hHeld
                    have hHeld := hHeld2
                    clear hHeld2
                    try simp only [Act.put, List.setIfInBounds_toArray, List.set_cons_zero, List.set_cons_succ]
                    refine wpAnyH_done (by kernel_rfl) ?_ _
                    refine NoPanic.normal ?_
                    have HBZ := hid hHeld.1
                    clear hHeld
                    go_wp2
                    go_roundw
                    case rel => exact ⟨j + 1, by have := HJL.out; omega, by go_num, hid ⟨hJJ.out.2.2.2.1.trans HBZ.out, _, _, HL9.out, by rw [List.length_set]; exact hJJ.out.2.1, fun q hq => by
                        obtain ⟨m1, m2, m3⟩ := HMJ.out
                        by_cases c0 : mj = q
                        · subst c0
                          rw [getD_set_same _ _ (by rw [hJJ.out.2.1]; omega), if_pos (by omega), show mj - m = j by omega, HMD.out, HMV.out]
                        · rw [getD_set_other _ _ _ c0, hJJ.out.2.2.1 q hq]
                          by_cases c1 : m ≤ q ∧ q < m + j
                          · rw [if_pos c1, if_pos (by omega)]
                          · rw [if_neg c1, if_neg (by omega)]⟩⟩
                    case measure => simp [intOf]; omega
                  · obtain rfl : mtl = j := by omega
                    have hjn : ¬ (mtl : Int) < (mtl : Int) := by omega
                    obtain ⟨hbJ, vs', Ps', hLJ, hPl, hPq⟩ := hJ.out
                    obtain ⟨hLMd, hMd, hok2, hle2, hfit, hlb9, hm9, hr9, hma9, hmn9⟩ := HX9.out
                    obtain ⟨hLM8, hvs2, he1, he2, he4, he5, hS2, hb8⟩ := HM8.out
                    have hvl2 : S2.vs.length = mtl := by rw [hvs2, List.length_map]; exact HML8.out
                    have hge9 : 0 ≤ S.s.ge ∧ S.s.ge ≤ 30000 := by rw [HGK.out]; omega
                    obtain ⟨M, hM9⟩ : ∃ x, x = m + mtl := ⟨_, rfl⟩
                    have hMM : (m : Int) + (mtl : Int) = (M : Int) := by omega
                    have hMb : (M : Int) ≤ 40 := by omega
                    have hM2 : (2 : Int) ≤ (M : Int) := by omega
                    have hMn : M ≤ n := by omega
                    have hwM : IntKind.i64.wrap (M : Int) = (M : Int) := wrap_i64_id _ (by omega) (by omega)
                    have hwM1 : IntKind.i64.wrap ((M : Int) - 1) = (M : Int) - 1 := wrap_i64_id _ (by omega) (by omega)
                    have c2 : wr.cell? ⟨sb, 2, none⟩ = some (.int .i64 (m : Int)) := by rw [cell_of_row _ _ _ _ _ _ hLJ.bk, ← hma9]; rfl
                    have c1 : wr.cell? ⟨sb, 1, none⟩ = some (.int .i64 S.s.ge) := by rw [cell_of_row _ _ _ _ _ _ hLJ.bk]; rfl
                    have c3 : wr.cell? ⟨sb, 3, none⟩ = some (.int .i64 S.s.hd) := by rw [cell_of_row _ _ _ _ _ _ hLJ.bk]; rfl
                    have f1 : wr.frozen? ⟨sb, 1, none⟩ = false := frozen_of_row _ _ _ _ _ hLJ.bk
                    have f2 : wr.frozen? ⟨sb, 2, none⟩ = false := frozen_of_row _ _ _ _ _ hLJ.bk
                    have f3 : wr.frozen? ⟨sb, 3, none⟩ = false := frozen_of_row _ _ _ _ _ hLJ.bk
                    have L3 := hid (((hLJ.sup 2 (.int .i64 (M : Int)) (s1 := ⟨S.s.wd, S.s.ge, (M : Int), S.s.hd, S.s.pg⟩) rfl).sup 1 (.int .i64 (S.s.ge + 1)) (s1 := ⟨S.s.wd, S.s.ge + 1, (M : Int), S.s.hd, S.s.pg⟩) rfl).sup 3 (.int .i64 0) (s1 := ⟨S.s.wd, S.s.ge + 1, (M : Int), 0, S.s.pg⟩) rfl)
                    have L4 := hid (L3.out.sup 3 (.int .i64 ((M : Int) - 1)) (s1 := ⟨S.s.wd, S.s.ge + 1, (M : Int), (M : Int) - 1, S.s.pg⟩) rfl)
                    have HE := hid (And.intro hPl (And.intro hPq (And.intro hm9 (And.intro hma9 (And.intro hM9 (And.intro hMn (And.intro hvl2 (And.intro hvs2 (And.intro he1 (And.intro he2 (And.intro he4 (And.intro he5 hge9))))))))))))
                    generalize S.s.hd = hdo at *
                    obtain ⟨ge, hge8⟩ : ∃ x, x = S.s.ge := ⟨_, rfl⟩
                    have HGE := hid hge8
                    rw [← hge8] at hge9 c1 L3 L4
                    obtain ⟨hge0, hge1⟩ := hge9
                    have hwg : IntKind.i64.wrap (ge + 1) = ge + 1 := wrap_i64_id _ (by omega) (by omega)
                    have hm3 : 0 ≤ (k : Int) % 3 := by omega
                    clear hbJ hLJ hPl hPq hLMd hMd hok2 hle2 hfit hlb9 hm9 hr9 hma9 hmn9 hLM8 hvs2 he1 he2 he4 he5 hS2 hb8 hvl2 hM9 hMn hge8 hJ hj hjl hjli
                    by_cases hh1 : (2 : Int) < (M : Int)
                    · by_cases hh2 : (0 : Int) < (k : Int) % 3
                      · as_aux_lemma =>
                        clear L3
                        go_wp2_with fail
                        have HL := L4
                        clear L4 c1 c2 c3 f1 f2 f3
                        generalize (((wr.setCell ⟨sb, 2, none⟩ (.int .i64 (M : Int))).setCell ⟨sb, 1, none⟩ (.int .i64 (ge + 1))).setCell ⟨sb, 3, none⟩ (.int .i64 0)).setCell ⟨sb, 3, none⟩ (.int .i64 ((M : Int) - 1)) = w9 at *
                        obtain ⟨s2, hs2⟩ : ∃ x, x = (⟨S.s.wd, ge + 1, (M : Int), (M : Int) - 1, S.s.pg⟩ : Sup) := ⟨_, rfl⟩
                        rw [← hs2] at HL
                        obtain ⟨hPl, hPq, hm9, hma9, hM9, hMn, hvl2, hvs2, he1, he2, he4, he5, hge9⟩ := HE.out
                        have hML : 2 + L.length + S2.vs.length = M := by omega
                        have hs3 : (⟨S2.s.wd, S2.s.ge + 1, ((2 + L.length + S2.vs.length : Nat) : Int), (M : Int) - 1, S2.s.pg⟩ : Sup) = s2 := by rw [hs2, he4, hML, HGE.out]
                        have hhd : ((M : Int) - 1) = 0 ∨ (2 ≤ ((M : Int) - 1) ∧ ((M : Int) - 1) < ((2 + L.length + S2.vs.length : Nat) : Int)) := by rw [hML]; exact Or.inr ⟨by omega, by omega⟩
                        have hgl : S2.s.ge < 1099511627776 := by rw [he4, ← HGE.out]; omega
                        have HV := HL.out.sx.val hgl (by omega) (by omega) _ hhd
                        rw [hs3] at HV
                        have hhd9 : HdOk ((M : Int) - 1) (2 + L.length + S2.vs.length) := hhd
                        have HFIN := hid (And.intro hML (And.intro hs3 (And.intro hhd9 (And.intro hgl (And.intro HV hs2)))))
                        obtain ⟨gr, hgrE⟩ : ∃ x : Nat, (ge + 1) % 2 = (x : Int) := ⟨((ge + 1) % 2).toNat, by omega⟩
                        have hgr : (ge + 1).tmod 2 = (gr : Int) := by rw [Int.tmod_eq_emod_of_nonneg (by omega)]; exact hgrE
                        have hgr2 : gr < 2 := by omega
                        have hgr3 : (gr : Int) < (n : Int) := by omega
                        have hgr5 : gr < n := by omega
                        have HGR := hid hgrE
                        clear hgrE
                        have HC1 := hid (show ∀ w' : World, w'.heap[sb]? = some (.cells (supC s2) 31 (0, 0)) → w'.cell? ⟨sb, 1, none⟩ = some (.int .i64 (ge + 1)) from fun w' h => by rw [cell_of_row _ _ _ _ _ _ h, hs2]; rfl)
                        have HC3 := hid (show ∀ w' : World, w'.heap[sb]? = some (.cells (supC s2) 31 (0, 0)) → w'.cell? ⟨sb, 3, none⟩ = some (.int .i64 ((M : Int) - 1)) from fun w' h => by rw [cell_of_row _ _ _ _ _ _ h, hs2]; rfl)
                        have hbk := HL.out.bk
                        have hbk9 : w9.drew.heap[sb]? = some (.cells (supC s2) 31 (0, 0)) := hbk
                        have hwg2 : IntKind.i64.wrap (gr : Int) = (gr : Int) := wrap_i64_id _ (by omega) (by omega)
                        clear hML hs3 hhd hhd9 hgl HV hs2 hPl hPq hm9 hma9 hM9 hMn hvl2 hvs2 he1 he2 he4 he5 hge9 hbk
                        refine wp_region_noPanic ?_
                        refine wp_region_held_drew (S := fun w' => w'.heap[sb]? = some (.cells (supC s2) 31 (0, 0))) (by kernel_rfl) hbk9 (fun hHeld => ?_)
                        refine wpAnyH_take (i := 0) (oi := { dst := some 163, op := Op.move (Operand.tmp 13), type := 28, pos := "law.go:644", after := #[], guard := none }) (v := .slice (some ⟨g, 0, none⟩) n cv) rfl (by kernel_rfl) (by kernel_rfl) (by kernel_rfl) (fun _ _ _ h => h) (Or.inl ⟨by rfl, by intro w hS; go_simp⟩) hHeld ?_
                        try simp only [Act.put, List.setIfInBounds_toArray, List.set_cons_zero, List.set_cons_succ]
                        refine wpAnyH_take (i := 1) (oi := { dst := some 164, op := Op.fieldAddr 31 (Operand.tmp 15) 1, type := 0, pos := "law.go:644", after := #[], guard := none }) (v := .pointer (some ⟨sb, 1, none⟩)) rfl (by kernel_rfl) (by kernel_rfl) (by kernel_rfl) (fun _ _ _ h => h) (Or.inl ⟨by rfl, by intro w hS; go_simp⟩) hHeld ?_
                        try simp only [Act.put, List.setIfInBounds_toArray, List.set_cons_zero, List.set_cons_succ]
                        refine wpAnyH_take (i := 4) (oi := { dst := some 167, op := Op.load 31 (Operand.tmp 15), type := 31, pos := "law.go:644", after := #[], guard := none }) (v := .agg (supC s2)) rfl (by kernel_rfl) (by kernel_rfl) (by kernel_rfl) (fun _ _ _ h => h) (yieldsIf_load_mid (by rfl) 31 _ rfl sb (0) rfl ((supC s2).toList) _ (fun w hS => rng (cs := (supC s2).toList) hS) Tryd.underlying31 rfl hsz) hHeld ?_
                        try simp only [Act.put, List.setIfInBounds_toArray, List.set_cons_zero, List.set_cons_succ]
                        refine wpAnyH_take (i := 2) (oi := { dst := some 165, op := Op.load 3 (Operand.tmp 164), type := 3, pos := "law.go:644", after := #[{ on := 1, ground := Ground.data }], guard := none }) (v := .int .i64 (ge + 1)) rfl (by kernel_rfl) (by kernel_rfl) (by kernel_rfl) (fun _ _ _ h => h) (Or.inl ⟨by rfl, by intro w hS; have hc := (HC1.out _ hS); go_simp⟩) hHeld ?_
                        try simp only [Act.put, List.setIfInBounds_toArray, List.set_cons_zero, List.set_cons_succ]
                        refine wpAnyH_take (i := 3) (oi := { dst := some 166, op := Op.binOp BinOp.rem 3 (Operand.tmp 165) (Operand.const (Value.int IntKind.i64 2)) 3, type := 3, pos := "law.go:644", after := #[{ on := 2, ground := Ground.data }], guard := none }) (v := .int .i64 (gr : Int)) rfl (by kernel_rfl) (by kernel_rfl) (by kernel_rfl) (fun _ _ _ h => h) (Or.inl ⟨by rfl, by intro w hS; go_simp⟩) hHeld ?_
                        try simp only [Act.put, List.setIfInBounds_toArray, List.set_cons_zero, List.set_cons_succ]
                        refine wpAnyH_ready (rs := [5]) (by kernel_rfl) (by simp) ?_
                        refine (AllReadyH.cons (o := { dst := some 168, op := Op.call { callee := Callee.value (Operand.func 7), args := #[Operand.tmp 167], argTypes := #[31] }, type := 29, pos := "law.go:644", after := #[{ on := 4, ground := Ground.data }], guard := none }) rfl (fun K hK => ?_) AllReadyH.nil)
                        go_simp
                        go_at_call 7
                        refine (qSuper_any _ (HGL.out.below (HL.out.bl.trans (⟨rfl, rfl, rfl, Nat.le_refl _, fun _ _ => rfl⟩ : Below base w9 w9.drew)) (by rw [HBASE.out]; exact HGL.out.1)) s2 HFIN.out.2.2.2.2.1).mono ?_
                        rintro e w4 ⟨y6, rfl, hO6, hb6⟩
                        have hO6 : Own w4 _ y6 (secP s2) := hO6
                        have HB6 := hid (And.intro hb6 hO6)
                        obtain ⟨sp6, cp6, ey6, -, -⟩ := hO6.form
                        rw [secP_len] at ey6
                        subst ey6
                        go_wp2_with fail
                        refine hK.out _ _ ((hb6.block sb (hlt hHeld)).trans hHeld) (fun hHeld2 => ?_)
                        clear hK K hHeld
                        have hHeld := hHeld2
                        clear hHeld2
                        clear hO6 hb6
                        try simp only [Act.put, List.setIfInBounds_toArray, List.set_cons_zero, List.set_cons_succ]
                        refine wpAnyH_take (i := 6) (oi := { dst := some 169, op := Op.indexAddr 28 (Operand.tmp 163) (Operand.tmp 166), type := 0, pos := "law.go:644", after := #[{ on := 0, ground := Ground.data }, { on := 3, ground := Ground.data }, { on := 0, ground := Ground.phase }, { on := 1, ground := Ground.phase }, { on := 2, ground := Ground.phase }, { on := 3, ground := Ground.phase }, { on := 4, ground := Ground.phase }, { on := 5, ground := Ground.phase }], guard := none }) (v := .pointer (some ⟨g, 0 + gr, none⟩)) rfl (by kernel_rfl) (by kernel_rfl) (by kernel_rfl) (fun _ _ _ h => h) (Or.inl ⟨by rfl, by intro w hS; go_simp⟩) hHeld ?_
                        try simp only [Act.put, List.setIfInBounds_toArray, List.set_cons_zero, List.set_cons_succ]
                        refine wpAnyH_ready (rs := [7]) (by kernel_rfl) (by simp) ?_
                        refine (AllReadyH.cons (o := { dst := none, op := Op.store 29 (Operand.tmp 169) (Operand.tmp 168), type := 0, pos := "law.go:644", after := #[{ on := 6, ground := Ground.data }, { on := 5, ground := Ground.data }, { on := 5, ground := Ground.chain }, { on := 0, ground := Ground.phase }, { on := 1, ground := Ground.phase }, { on := 2, ground := Ground.phase }, { on := 3, ground := Ground.phase }, { on := 4, ground := Ground.phase }, { on := 5, ground := Ground.phase }], guard := none }) rfl (fun K hK => ?_) AllReadyH.nil)
                        have L8 := HL.out.below (w1 := w9.drew) ⟨rfl, rfl, rfl, Nat.le_refl _, fun _ _ => rfl⟩
                        obtain ⟨o9, a9⟩ := L8.own HB6.out.2
                        have L9 := L8.below HB6.out.1
                        obtain ⟨z1, z2, z3⟩ := L9.put' o9 a9 (secP_len _) gr (by rw [HE.out.1]; exact hgr5)
                        have hgb : g ≠ sb := by
                          rintro rfl
                          obtain ⟨_, _, cs8, hc8⟩ := L9.wn.k.heap g rfl
                          exact ne_tyK L9.bk hc8 (by decide) rfl
                        have HL9 := hid z3
                        clear L8 o9 a9 L9
                        go_simp
                        refine hK.out _ _ ((heap_setCell_other _ _ _ _ (Ne.symm hgb)).trans hHeld) (fun hHeld2 => ?_)
                        clear hK K hHeld
                        have hHeld := hHeld2
                        clear hHeld2
                        try simp only [Act.put, List.setIfInBounds_toArray, List.set_cons_zero, List.set_cons_succ]
                        refine wpAnyH_done (by kernel_rfl) ?_ _
                        refine NoPanic.normal ?_
                        have c3 := HC3.out _ hHeld
                        have hsx9 := HL9.out.sx
                        have hfit9 : 2 + L.length + S2.vs.length ≤ n := by rw [HFIN.out.1]; exact HE.out.2.2.2.2.2.1
                        have hvl9 : S2.vs.length ≤ 64 := by rw [HE.out.2.2.2.2.2.2.1]; omega
                        have HFL := hid (hsx9.flush HFIN.out.2.2.2.1 (by omega) hfit9 _ HFIN.out.2.2.1 hvl9)
                        clear hsx9 hfit9 hvl9
                        rw [HE.out.2.2.2.2.2.2.2.2.1] at HFL
                        clear hHeld hbk9
                        go_wp2_with fail
                        refine HFL.out.mono ?_
                        rintro _ w12 ⟨rfl, S3, hS3, hvs3, ⟨f1, f2, f3, f4, f5⟩, ⟨hb12, hf12, hg12⟩, himg⟩
                        have L12 := HL9.out.stage hS3 hf12 hg12 hb12
                        have hs3 : S3.s = s2 := f4.trans HFIN.out.2.1
                        have HSU := hid (fun (w' : World) (hb : Below w12.heap.size w12 w') => oSuper_any w' base S3 (L12.sx.sk.below hb))
                        rw [f1, hs3] at HSU
                        have HL12 := hid (And.intro L12 (And.intro hvs3 (And.intro f1 (And.intro f2 (And.intro hs3 himg)))))
                        have hEQ : ∀ w : World, (Op.equalIn 10000 31 (.agg (supC s2)) (.agg (supC s2))).run Tryd.prog w = .ok true w := fun w => by have := eqSup s2 s2 w; simpa using this
                        have hGU := guardU
                        have hb9 : Below w12.heap.size w12 w12.drew := ⟨rfl, rfl, rfl, Nat.le_refl _, fun _ _ => rfl⟩
                        have hbk12 := L12.bk
                        have hsb12 := hlt hbk12
                        clear L12 hvs3 f1 f2 f3 f4 f5 hs3 himg hS3 hb12 hf12 hg12 HFL c3 z1 z2
                        go_wp2_with fail
                        refine wp_region_noPanic ?_
                        refine wp_region_held_drew (S := fun w' => Below w12.heap.size w12 w') (by kernel_rfl) hb9 (fun hHeld => ?_)
                        refine wpAnyH_take (i := 0) (oi := { dst := some 174, op := Op.move (Operand.tmp 21), type := 42, pos := "law.go:646", after := #[], guard := none }) (v := .int .i64 0) rfl (by kernel_rfl) (by kernel_rfl) (by kernel_rfl) (fun _ _ _ h => h) (Or.inl ⟨by rfl, by intro w hS; go_simp⟩) hHeld ?_
                        try simp only [Act.put, List.setIfInBounds_toArray, List.set_cons_zero, List.set_cons_succ]
                        refine wpAnyH_take (i := 1) (oi := { dst := some 175, op := Op.binOp BinOp.neq 42 (Operand.tmp 174) (Operand.const (Value.int IntKind.i64 0)) 42, type := 4, pos := "law.go:646", after := #[{ on := 0, ground := Ground.data }], guard := none }) (v := .bool false) rfl (by kernel_rfl) (by kernel_rfl) (by kernel_rfl) (fun _ _ _ h => h) (Or.inl ⟨by rfl, by intro w hS; go_simp⟩) hHeld ?_
                        try simp only [Act.put, List.setIfInBounds_toArray, List.set_cons_zero, List.set_cons_succ]
                        refine wpAnyH_take (i := 2) (oi := { dst := some 176, op := Op.move (Operand.tmp 175), type := 4, pos := "law.go:646", after := #[{ on := 1, ground := Ground.data }], guard := none }) (v := .bool false) rfl (by kernel_rfl) (by kernel_rfl) (by kernel_rfl) (fun _ _ _ h => h) (Or.inl ⟨by rfl, by intro w hS; go_simp⟩) hHeld ?_
                        try simp only [Act.put, List.setIfInBounds_toArray, List.set_cons_zero, List.set_cons_succ]
                        refine wpAnyH_take (i := 3) (oi := { dst := some 177, op := Op.move (Operand.tmp 12), type := 26, pos := "law.go:646", after := #[{ on := 2, ground := Ground.guard }], guard := some (2, false) }) (v := .pointer (some ⟨st, 0, none⟩)) rfl (by kernel_rfl) (by kernel_rfl) (by kernel_rfl) (fun _ _ _ h => h) (Or.inl ⟨by rfl, by intro w hS; go_simp⟩) hHeld ?_
                        try simp only [Act.put, List.setIfInBounds_toArray, List.set_cons_zero, List.set_cons_succ]
                        refine wpAnyH_take (i := 5) (oi := { dst := some 179, op := Op.load 31 (Operand.tmp 15), type := 31, pos := "law.go:646", after := #[{ on := 2, ground := Ground.guard }], guard := some (2, false) }) (v := .agg (supC s2)) rfl (by kernel_rfl) (by kernel_rfl) (by kernel_rfl) (fun _ _ _ h => h) (yieldsIf_load_mid (by rfl) 31 _ rfl sb (0) rfl ((supC s2).toList) _ (fun w hS => rng (cs := (supC s2).toList) ((hS.block sb hsb12).trans hbk12)) Tryd.underlying31 rfl hsz) hHeld ?_
                        try simp only [Act.put, List.setIfInBounds_toArray, List.set_cons_zero, List.set_cons_succ]
                        refine wpAnyH_ready (rs := [4]) (by kernel_rfl) (by simp) ?_
                        refine (AllReadyH.cons (o := { dst := some 178, op := Op.call { callee := Callee.value (Operand.func 15), args := #[Operand.tmp 177], argTypes := #[26] }, type := 31, pos := "law.go:646", after := #[{ on := 3, ground := Ground.data }, { on := 2, ground := Ground.chain }, { on := 2, ground := Ground.guard }], guard := some (2, false) }) rfl (fun K hK => ?_) AllReadyH.nil)
                        go_simp
                        go_at_call 15
                        refine (HSU.out _ hHeld).mono ?_
                        rintro e w13 ⟨rfl, hb13⟩
                        go_wp2_with fail
                        refine hK.out _ _ (hHeld.trans (hb13.mono hHeld.size)) (fun hHeld2 => ?_)
                        clear hK K hHeld
                        have hHeld := hHeld2
                        clear hHeld2
                        clear hb13
                        try simp only [Act.put, List.setIfInBounds_toArray, List.set_cons_zero, List.set_cons_succ]
                        refine wpAnyH_take (i := 6) (oi := { dst := some 180, op := Op.binOp BinOp.neq 31 (Operand.tmp 178) (Operand.tmp 179) 31, type := 4, pos := "law.go:646", after := #[{ on := 4, ground := Ground.data }, { on := 5, ground := Ground.data }, { on := 2, ground := Ground.guard }], guard := some (2, false) }) (v := .bool false) rfl (by kernel_rfl) (by kernel_rfl) (by kernel_rfl) (fun _ _ _ h => h) (Or.inl ⟨by rfl, by intro w hS; go_simp⟩) hHeld ?_
                        try simp only [Act.put, List.setIfInBounds_toArray, List.set_cons_zero, List.set_cons_succ]
                        refine wpAnyH_take (i := 7) (oi := { dst := some 181, op := Op.pick (Operand.tmp 176) (Operand.const (Value.bool true)) (Operand.tmp 180), type := 4, pos := "law.go:646", after := #[{ on := 2, ground := Ground.data }, { on := 6, ground := Ground.data }], guard := none }) (v := .bool false) rfl (by kernel_rfl) (by kernel_rfl) (by kernel_rfl) (fun _ _ _ h => h) (Or.inl ⟨by rfl, by intro w hS; go_simp⟩) hHeld ?_
                        try simp only [Act.put, List.setIfInBounds_toArray, List.set_cons_zero, List.set_cons_succ]
                        refine wpAnyH_done (by kernel_rfl) ?_ _
                        refine NoPanic.normal ?_
                        have hHH := hHeld
                        clear hHeld
                        go_wp2
                        go_roundw
                        case rel =>
                          obtain ⟨L12, hvs3, f1, f2, hs3, himg⟩ := HL12.out
                          obtain ⟨hPl, hPq, hm9, hma9, hM9, hMn, hvl2, hvs2, he1, he2, he4, he5, hge9⟩ := HE.out
                          have L13 := (L12.below hHH).more (2000 + 1000 * (k + 1)) (by omega)
                          refine ⟨k + 1, by omega, by omega, by go_num, hid ⟨S3, S2.s, L ++ S2.vs, _, _, (by rw [hs3]; exact L13), hvs3, f1, (f2.trans he2).trans HM.out.2.2.2.1, by rw [List.length_set]; exact hPl, fun q hq => ?_, ?_⟩⟩
                          · rw [himg q hq, hs3, show s2.ge = ge + 1 by rw [HFIN.out.2.2.2.2.2]]
                            by_cases c0 : gr = q
                            · subst c0
                              rw [if_pos HGR.out.symm, getD_set_same _ _ (by rw [hPl]; exact hgr5)]
                            · rw [if_neg (by rw [HGR.out]; omega), getD_set_other _ _ _ c0, hPq q hq, hvl2, ← hm9]
                              by_cases c1 : m ≤ q ∧ q < m + mtl
                              · rw [if_pos c1, if_pos c1, hvs2, List.getD_eq_getElem?_getD, List.getElem?_map, List.getD_eq_getElem?_getD]
                                have hql : q - m < mt.length := by rw [HML8.out]; omega
                                rw [List.getElem?_eq_getElem hql]; rfl
                              · rw [if_neg c1, if_neg c1, he5]
                                exact HM.out.2.2.2.2.2 q hq
                          · rw [hs3, HFIN.out.2.2.2.2.2]; show ge + 1 = _; rw [HGE.out, HGK.out]; push_cast; omega
                        case measure => simp [intOf]; omega
                      · as_aux_lemma =>
                        clear L4
                        go_wp2_with fail
                        have HL := L3
                        clear L3 c1 c2 c3 f1 f2 f3
                        generalize ((wr.setCell ⟨sb, 2, none⟩ (.int .i64 (M : Int))).setCell ⟨sb, 1, none⟩ (.int .i64 (ge + 1))).setCell ⟨sb, 3, none⟩ (.int .i64 0) = w9 at *
                        obtain ⟨s2, hs2⟩ : ∃ x, x = (⟨S.s.wd, ge + 1, (M : Int), (0 : Int), S.s.pg⟩ : Sup) := ⟨_, rfl⟩
                        rw [← hs2] at HL
                        obtain ⟨hPl, hPq, hm9, hma9, hM9, hMn, hvl2, hvs2, he1, he2, he4, he5, hge9⟩ := HE.out
                        have hML : 2 + L.length + S2.vs.length = M := by omega
                        have hs3 : (⟨S2.s.wd, S2.s.ge + 1, ((2 + L.length + S2.vs.length : Nat) : Int), (0 : Int), S2.s.pg⟩ : Sup) = s2 := by rw [hs2, he4, hML, HGE.out]
                        have hhd : ((0 : Int)) = 0 ∨ (2 ≤ ((0 : Int)) ∧ ((0 : Int)) < ((2 + L.length + S2.vs.length : Nat) : Int)) := by rw [hML]; exact Or.inl rfl
                        have hgl : S2.s.ge < 1099511627776 := by rw [he4, ← HGE.out]; omega
                        have HV := HL.out.sx.val hgl (by omega) (by omega) _ hhd
                        rw [hs3] at HV
                        have hhd9 : HdOk ((0 : Int)) (2 + L.length + S2.vs.length) := hhd
                        have HFIN := hid (And.intro hML (And.intro hs3 (And.intro hhd9 (And.intro hgl (And.intro HV hs2)))))
                        obtain ⟨gr, hgrE⟩ : ∃ x : Nat, (ge + 1) % 2 = (x : Int) := ⟨((ge + 1) % 2).toNat, by omega⟩
                        have hgr : (ge + 1).tmod 2 = (gr : Int) := by rw [Int.tmod_eq_emod_of_nonneg (by omega)]; exact hgrE
                        have hgr2 : gr < 2 := by omega
                        have hgr3 : (gr : Int) < (n : Int) := by omega
                        have hgr5 : gr < n := by omega
                        have HGR := hid hgrE
                        clear hgrE
                        have HC1 := hid (show ∀ w' : World, w'.heap[sb]? = some (.cells (supC s2) 31 (0, 0)) → w'.cell? ⟨sb, 1, none⟩ = some (.int .i64 (ge + 1)) from fun w' h => by rw [cell_of_row _ _ _ _ _ _ h, hs2]; rfl)
                        have HC3 := hid (show ∀ w' : World, w'.heap[sb]? = some (.cells (supC s2) 31 (0, 0)) → w'.cell? ⟨sb, 3, none⟩ = some (.int .i64 ((0 : Int))) from fun w' h => by rw [cell_of_row _ _ _ _ _ _ h, hs2]; rfl)
                        have hbk := HL.out.bk
                        have hbk9 : w9.drew.heap[sb]? = some (.cells (supC s2) 31 (0, 0)) := hbk
                        have hwg2 : IntKind.i64.wrap (gr : Int) = (gr : Int) := wrap_i64_id _ (by omega) (by omega)
                        clear hML hs3 hhd hhd9 hgl HV hs2 hPl hPq hm9 hma9 hM9 hMn hvl2 hvs2 he1 he2 he4 he5 hge9 hbk
                        refine wp_region_noPanic ?_
                        refine wp_region_held_drew (S := fun w' => w'.heap[sb]? = some (.cells (supC s2) 31 (0, 0))) (by kernel_rfl) hbk9 (fun hHeld => ?_)
                        refine wpAnyH_take (i := 0) (oi := { dst := some 163, op := Op.move (Operand.tmp 13), type := 28, pos := "law.go:644", after := #[], guard := none }) (v := .slice (some ⟨g, 0, none⟩) n cv) rfl (by kernel_rfl) (by kernel_rfl) (by kernel_rfl) (fun _ _ _ h => h) (Or.inl ⟨by rfl, by intro w hS; go_simp⟩) hHeld ?_
                        try simp only [Act.put, List.setIfInBounds_toArray, List.set_cons_zero, List.set_cons_succ]
                        refine wpAnyH_take (i := 1) (oi := { dst := some 164, op := Op.fieldAddr 31 (Operand.tmp 15) 1, type := 0, pos := "law.go:644", after := #[], guard := none }) (v := .pointer (some ⟨sb, 1, none⟩)) rfl (by kernel_rfl) (by kernel_rfl) (by kernel_rfl) (fun _ _ _ h => h) (Or.inl ⟨by rfl, by intro w hS; go_simp⟩) hHeld ?_
                        try simp only [Act.put, List.setIfInBounds_toArray, List.set_cons_zero, List.set_cons_succ]
                        refine wpAnyH_take (i := 4) (oi := { dst := some 167, op := Op.load 31 (Operand.tmp 15), type := 31, pos := "law.go:644", after := #[], guard := none }) (v := .agg (supC s2)) rfl (by kernel_rfl) (by kernel_rfl) (by kernel_rfl) (fun _ _ _ h => h) (yieldsIf_load_mid (by rfl) 31 _ rfl sb (0) rfl ((supC s2).toList) _ (fun w hS => rng (cs := (supC s2).toList) hS) Tryd.underlying31 rfl hsz) hHeld ?_
                        try simp only [Act.put, List.setIfInBounds_toArray, List.set_cons_zero, List.set_cons_succ]
                        refine wpAnyH_take (i := 2) (oi := { dst := some 165, op := Op.load 3 (Operand.tmp 164), type := 3, pos := "law.go:644", after := #[{ on := 1, ground := Ground.data }], guard := none }) (v := .int .i64 (ge + 1)) rfl (by kernel_rfl) (by kernel_rfl) (by kernel_rfl) (fun _ _ _ h => h) (Or.inl ⟨by rfl, by intro w hS; have hc := (HC1.out _ hS); go_simp⟩) hHeld ?_
                        try simp only [Act.put, List.setIfInBounds_toArray, List.set_cons_zero, List.set_cons_succ]
                        refine wpAnyH_take (i := 3) (oi := { dst := some 166, op := Op.binOp BinOp.rem 3 (Operand.tmp 165) (Operand.const (Value.int IntKind.i64 2)) 3, type := 3, pos := "law.go:644", after := #[{ on := 2, ground := Ground.data }], guard := none }) (v := .int .i64 (gr : Int)) rfl (by kernel_rfl) (by kernel_rfl) (by kernel_rfl) (fun _ _ _ h => h) (Or.inl ⟨by rfl, by intro w hS; go_simp⟩) hHeld ?_
                        try simp only [Act.put, List.setIfInBounds_toArray, List.set_cons_zero, List.set_cons_succ]
                        refine wpAnyH_ready (rs := [5]) (by kernel_rfl) (by simp) ?_
                        refine (AllReadyH.cons (o := { dst := some 168, op := Op.call { callee := Callee.value (Operand.func 7), args := #[Operand.tmp 167], argTypes := #[31] }, type := 29, pos := "law.go:644", after := #[{ on := 4, ground := Ground.data }], guard := none }) rfl (fun K hK => ?_) AllReadyH.nil)
                        go_simp
                        go_at_call 7
                        refine (qSuper_any _ (HGL.out.below (HL.out.bl.trans (⟨rfl, rfl, rfl, Nat.le_refl _, fun _ _ => rfl⟩ : Below base w9 w9.drew)) (by rw [HBASE.out]; exact HGL.out.1)) s2 HFIN.out.2.2.2.2.1).mono ?_
                        rintro e w4 ⟨y6, rfl, hO6, hb6⟩
                        have hO6 : Own w4 _ y6 (secP s2) := hO6
                        have HB6 := hid (And.intro hb6 hO6)
                        obtain ⟨sp6, cp6, ey6, -, -⟩ := hO6.form
                        rw [secP_len] at ey6
                        subst ey6
                        go_wp2_with fail
                        refine hK.out _ _ ((hb6.block sb (hlt hHeld)).trans hHeld) (fun hHeld2 => ?_)
                        clear hK K hHeld
                        have hHeld := hHeld2
                        clear hHeld2
                        clear hO6 hb6
                        try simp only [Act.put, List.setIfInBounds_toArray, List.set_cons_zero, List.set_cons_succ]
                        refine wpAnyH_take (i := 6) (oi := { dst := some 169, op := Op.indexAddr 28 (Operand.tmp 163) (Operand.tmp 166), type := 0, pos := "law.go:644", after := #[{ on := 0, ground := Ground.data }, { on := 3, ground := Ground.data }, { on := 0, ground := Ground.phase }, { on := 1, ground := Ground.phase }, { on := 2, ground := Ground.phase }, { on := 3, ground := Ground.phase }, { on := 4, ground := Ground.phase }, { on := 5, ground := Ground.phase }], guard := none }) (v := .pointer (some ⟨g, 0 + gr, none⟩)) rfl (by kernel_rfl) (by kernel_rfl) (by kernel_rfl) (fun _ _ _ h => h) (Or.inl ⟨by rfl, by intro w hS; go_simp⟩) hHeld ?_
                        try simp only [Act.put, List.setIfInBounds_toArray, List.set_cons_zero, List.set_cons_succ]
                        refine wpAnyH_ready (rs := [7]) (by kernel_rfl) (by simp) ?_
                        refine (AllReadyH.cons (o := { dst := none, op := Op.store 29 (Operand.tmp 169) (Operand.tmp 168), type := 0, pos := "law.go:644", after := #[{ on := 6, ground := Ground.data }, { on := 5, ground := Ground.data }, { on := 5, ground := Ground.chain }, { on := 0, ground := Ground.phase }, { on := 1, ground := Ground.phase }, { on := 2, ground := Ground.phase }, { on := 3, ground := Ground.phase }, { on := 4, ground := Ground.phase }, { on := 5, ground := Ground.phase }], guard := none }) rfl (fun K hK => ?_) AllReadyH.nil)
                        have L8 := HL.out.below (w1 := w9.drew) ⟨rfl, rfl, rfl, Nat.le_refl _, fun _ _ => rfl⟩
                        obtain ⟨o9, a9⟩ := L8.own HB6.out.2
                        have L9 := L8.below HB6.out.1
                        obtain ⟨z1, z2, z3⟩ := L9.put' o9 a9 (secP_len _) gr (by rw [HE.out.1]; exact hgr5)
                        have hgb : g ≠ sb := by
                          rintro rfl
                          obtain ⟨_, _, cs8, hc8⟩ := L9.wn.k.heap g rfl
                          exact ne_tyK L9.bk hc8 (by decide) rfl
                        have HL9 := hid z3
                        clear L8 o9 a9 L9
                        go_simp
                        refine hK.out _ _ ((heap_setCell_other _ _ _ _ (Ne.symm hgb)).trans hHeld) (fun hHeld2 => ?_)
                        clear hK K hHeld
                        have hHeld := hHeld2
                        clear hHeld2
                        try simp only [Act.put, List.setIfInBounds_toArray, List.set_cons_zero, List.set_cons_succ]
                        refine wpAnyH_done (by kernel_rfl) ?_ _
                        refine NoPanic.normal ?_
                        have c3 := HC3.out _ hHeld
                        have hsx9 := HL9.out.sx
                        have hfit9 : 2 + L.length + S2.vs.length ≤ n := by rw [HFIN.out.1]; exact HE.out.2.2.2.2.2.1
                        have hvl9 : S2.vs.length ≤ 64 := by rw [HE.out.2.2.2.2.2.2.1]; omega
                        have HFL := hid (hsx9.flush HFIN.out.2.2.2.1 (by omega) hfit9 _ HFIN.out.2.2.1 hvl9)
                        clear hsx9 hfit9 hvl9
                        rw [HE.out.2.2.2.2.2.2.2.2.1] at HFL
                        clear hHeld hbk9
                        go_wp2_with fail
                        refine HFL.out.mono ?_
                        rintro _ w12 ⟨rfl, S3, hS3, hvs3, ⟨f1, f2, f3, f4, f5⟩, ⟨hb12, hf12, hg12⟩, himg⟩
                        have L12 := HL9.out.stage hS3 hf12 hg12 hb12
                        have hs3 : S3.s = s2 := f4.trans HFIN.out.2.1
                        have HSU := hid (fun (w' : World) (hb : Below w12.heap.size w12 w') => oSuper_any w' base S3 (L12.sx.sk.below hb))
                        rw [f1, hs3] at HSU
                        have HL12 := hid (And.intro L12 (And.intro hvs3 (And.intro f1 (And.intro f2 (And.intro hs3 himg)))))
                        have hEQ : ∀ w : World, (Op.equalIn 10000 31 (.agg (supC s2)) (.agg (supC s2))).run Tryd.prog w = .ok true w := fun w => by have := eqSup s2 s2 w; simpa using this
                        have hGU := guardU
                        have hb9 : Below w12.heap.size w12 w12.drew := ⟨rfl, rfl, rfl, Nat.le_refl _, fun _ _ => rfl⟩
                        have hbk12 := L12.bk
                        have hsb12 := hlt hbk12
                        clear L12 hvs3 f1 f2 f3 f4 f5 hs3 himg hS3 hb12 hf12 hg12 HFL c3 z1 z2
                        go_wp2_with fail
                        refine wp_region_noPanic ?_
                        refine wp_region_held_drew (S := fun w' => Below w12.heap.size w12 w') (by kernel_rfl) hb9 (fun hHeld => ?_)
                        refine wpAnyH_take (i := 0) (oi := { dst := some 174, op := Op.move (Operand.tmp 21), type := 42, pos := "law.go:646", after := #[], guard := none }) (v := .int .i64 0) rfl (by kernel_rfl) (by kernel_rfl) (by kernel_rfl) (fun _ _ _ h => h) (Or.inl ⟨by rfl, by intro w hS; go_simp⟩) hHeld ?_
                        try simp only [Act.put, List.setIfInBounds_toArray, List.set_cons_zero, List.set_cons_succ]
                        refine wpAnyH_take (i := 1) (oi := { dst := some 175, op := Op.binOp BinOp.neq 42 (Operand.tmp 174) (Operand.const (Value.int IntKind.i64 0)) 42, type := 4, pos := "law.go:646", after := #[{ on := 0, ground := Ground.data }], guard := none }) (v := .bool false) rfl (by kernel_rfl) (by kernel_rfl) (by kernel_rfl) (fun _ _ _ h => h) (Or.inl ⟨by rfl, by intro w hS; go_simp⟩) hHeld ?_
                        try simp only [Act.put, List.setIfInBounds_toArray, List.set_cons_zero, List.set_cons_succ]
                        refine wpAnyH_take (i := 2) (oi := { dst := some 176, op := Op.move (Operand.tmp 175), type := 4, pos := "law.go:646", after := #[{ on := 1, ground := Ground.data }], guard := none }) (v := .bool false) rfl (by kernel_rfl) (by kernel_rfl) (by kernel_rfl) (fun _ _ _ h => h) (Or.inl ⟨by rfl, by intro w hS; go_simp⟩) hHeld ?_
                        try simp only [Act.put, List.setIfInBounds_toArray, List.set_cons_zero, List.set_cons_succ]
                        refine wpAnyH_take (i := 3) (oi := { dst := some 177, op := Op.move (Operand.tmp 12), type := 26, pos := "law.go:646", after := #[{ on := 2, ground := Ground.guard }], guard := some (2, false) }) (v := .pointer (some ⟨st, 0, none⟩)) rfl (by kernel_rfl) (by kernel_rfl) (by kernel_rfl) (fun _ _ _ h => h) (Or.inl ⟨by rfl, by intro w hS; go_simp⟩) hHeld ?_
                        try simp only [Act.put, List.setIfInBounds_toArray, List.set_cons_zero, List.set_cons_succ]
                        refine wpAnyH_take (i := 5) (oi := { dst := some 179, op := Op.load 31 (Operand.tmp 15), type := 31, pos := "law.go:646", after := #[{ on := 2, ground := Ground.guard }], guard := some (2, false) }) (v := .agg (supC s2)) rfl (by kernel_rfl) (by kernel_rfl) (by kernel_rfl) (fun _ _ _ h => h) (yieldsIf_load_mid (by rfl) 31 _ rfl sb (0) rfl ((supC s2).toList) _ (fun w hS => rng (cs := (supC s2).toList) ((hS.block sb hsb12).trans hbk12)) Tryd.underlying31 rfl hsz) hHeld ?_
                        try simp only [Act.put, List.setIfInBounds_toArray, List.set_cons_zero, List.set_cons_succ]
                        refine wpAnyH_ready (rs := [4]) (by kernel_rfl) (by simp) ?_
                        refine (AllReadyH.cons (o := { dst := some 178, op := Op.call { callee := Callee.value (Operand.func 15), args := #[Operand.tmp 177], argTypes := #[26] }, type := 31, pos := "law.go:646", after := #[{ on := 3, ground := Ground.data }, { on := 2, ground := Ground.chain }, { on := 2, ground := Ground.guard }], guard := some (2, false) }) rfl (fun K hK => ?_) AllReadyH.nil)
                        go_simp
                        go_at_call 15
                        refine (HSU.out _ hHeld).mono ?_
                        rintro e w13 ⟨rfl, hb13⟩
                        go_wp2_with fail
                        refine hK.out _ _ (hHeld.trans (hb13.mono hHeld.size)) (fun hHeld2 => ?_)
                        clear hK K hHeld
                        have hHeld := hHeld2
                        clear hHeld2
                        clear hb13
                        try simp only [Act.put, List.setIfInBounds_toArray, List.set_cons_zero, List.set_cons_succ]
                        refine wpAnyH_take (i := 6) (oi := { dst := some 180, op := Op.binOp BinOp.neq 31 (Operand.tmp 178) (Operand.tmp 179) 31, type := 4, pos := "law.go:646", after := #[{ on := 4, ground := Ground.data }, { on := 5, ground := Ground.data }, { on := 2, ground := Ground.guard }], guard := some (2, false) }) (v := .bool false) rfl (by kernel_rfl) (by kernel_rfl) (by kernel_rfl) (fun _ _ _ h => h) (Or.inl ⟨by rfl, by intro w hS; go_simp⟩) hHeld ?_
                        try simp only [Act.put, List.setIfInBounds_toArray, List.set_cons_zero, List.set_cons_succ]
                        refine wpAnyH_take (i := 7) (oi := { dst := some 181, op := Op.pick (Operand.tmp 176) (Operand.const (Value.bool true)) (Operand.tmp 180), type := 4, pos := "law.go:646", after := #[{ on := 2, ground := Ground.data }, { on := 6, ground := Ground.data }], guard := none }) (v := .bool false) rfl (by kernel_rfl) (by kernel_rfl) (by kernel_rfl) (fun _ _ _ h => h) (Or.inl ⟨by rfl, by intro w hS; go_simp⟩) hHeld ?_
                        try simp only [Act.put, List.setIfInBounds_toArray, List.set_cons_zero, List.set_cons_succ]
                        refine wpAnyH_done (by kernel_rfl) ?_ _
                        refine NoPanic.normal ?_
                        have hHH := hHeld
                        clear hHeld
                        go_wp2
                        go_roundw
                        case rel =>
                          obtain ⟨L12, hvs3, f1, f2, hs3, himg⟩ := HL12.out
                          obtain ⟨hPl, hPq, hm9, hma9, hM9, hMn, hvl2, hvs2, he1, he2, he4, he5, hge9⟩ := HE.out
                          have L13 := (L12.below hHH).more (2000 + 1000 * (k + 1)) (by omega)
                          refine ⟨k + 1, by omega, by omega, by go_num, hid ⟨S3, S2.s, L ++ S2.vs, _, _, (by rw [hs3]; exact L13), hvs3, f1, (f2.trans he2).trans HM.out.2.2.2.1, by rw [List.length_set]; exact hPl, fun q hq => ?_, ?_⟩⟩
                          · rw [himg q hq, hs3, show s2.ge = ge + 1 by rw [HFIN.out.2.2.2.2.2]]
                            by_cases c0 : gr = q
                            · subst c0
                              rw [if_pos HGR.out.symm, getD_set_same _ _ (by rw [hPl]; exact hgr5)]
                            · rw [if_neg (by rw [HGR.out]; omega), getD_set_other _ _ _ c0, hPq q hq, hvl2, ← hm9]
                              by_cases c1 : m ≤ q ∧ q < m + mtl
                              · rw [if_pos c1, if_pos c1, hvs2, List.getD_eq_getElem?_getD, List.getElem?_map, List.getD_eq_getElem?_getD]
                                have hql : q - m < mt.length := by rw [HML8.out]; omega
                                rw [List.getElem?_eq_getElem hql]; rfl
                              · rw [if_neg c1, if_neg c1, he5]
                                exact HM.out.2.2.2.2.2 q hq
                          · rw [hs3, HFIN.out.2.2.2.2.2]; show ge + 1 = _; rw [HGE.out, HGK.out]; push_cast; omega
                        case measure => simp [intOf]; omega
                    · as_aux_lemma =>
                      clear L4
                      go_wp2_with fail
                      have HL := L3
                      clear L3 c1 c2 c3 f1 f2 f3
                      generalize ((wr.setCell ⟨sb, 2, none⟩ (.int .i64 (M : Int))).setCell ⟨sb, 1, none⟩ (.int .i64 (ge + 1))).setCell ⟨sb, 3, none⟩ (.int .i64 0) = w9 at *
                      obtain ⟨s2, hs2⟩ : ∃ x, x = (⟨S.s.wd, ge + 1, (M : Int), (0 : Int), S.s.pg⟩ : Sup) := ⟨_, rfl⟩
                      rw [← hs2] at HL
                      obtain ⟨hPl, hPq, hm9, hma9, hM9, hMn, hvl2, hvs2, he1, he2, he4, he5, hge9⟩ := HE.out
                      have hML : 2 + L.length + S2.vs.length = M := by omega
                      have hs3 : (⟨S2.s.wd, S2.s.ge + 1, ((2 + L.length + S2.vs.length : Nat) : Int), (0 : Int), S2.s.pg⟩ : Sup) = s2 := by rw [hs2, he4, hML, HGE.out]
                      have hhd : ((0 : Int)) = 0 ∨ (2 ≤ ((0 : Int)) ∧ ((0 : Int)) < ((2 + L.length + S2.vs.length : Nat) : Int)) := by rw [hML]; exact Or.inl rfl
                      have hgl : S2.s.ge < 1099511627776 := by rw [he4, ← HGE.out]; omega
                      have HV := HL.out.sx.val hgl (by omega) (by omega) _ hhd
                      rw [hs3] at HV
                      have hhd9 : HdOk ((0 : Int)) (2 + L.length + S2.vs.length) := hhd
                      have HFIN := hid (And.intro hML (And.intro hs3 (And.intro hhd9 (And.intro hgl (And.intro HV hs2)))))
                      obtain ⟨gr, hgrE⟩ : ∃ x : Nat, (ge + 1) % 2 = (x : Int) := ⟨((ge + 1) % 2).toNat, by omega⟩
                      have hgr : (ge + 1).tmod 2 = (gr : Int) := by rw [Int.tmod_eq_emod_of_nonneg (by omega)]; exact hgrE
                      have hgr2 : gr < 2 := by omega
                      have hgr3 : (gr : Int) < (n : Int) := by omega
                      have hgr5 : gr < n := by omega
                      have HGR := hid hgrE
                      clear hgrE
                      have HC1 := hid (show ∀ w' : World, w'.heap[sb]? = some (.cells (supC s2) 31 (0, 0)) → w'.cell? ⟨sb, 1, none⟩ = some (.int .i64 (ge + 1)) from fun w' h => by rw [cell_of_row _ _ _ _ _ _ h, hs2]; rfl)
                      have HC3 := hid (show ∀ w' : World, w'.heap[sb]? = some (.cells (supC s2) 31 (0, 0)) → w'.cell? ⟨sb, 3, none⟩ = some (.int .i64 ((0 : Int))) from fun w' h => by rw [cell_of_row _ _ _ _ _ _ h, hs2]; rfl)
                      have hbk := HL.out.bk
                      have hbk9 : w9.drew.heap[sb]? = some (.cells (supC s2) 31 (0, 0)) := hbk
                      have hwg2 : IntKind.i64.wrap (gr : Int) = (gr : Int) := wrap_i64_id _ (by omega) (by omega)
                      clear hML hs3 hhd hhd9 hgl HV hs2 hPl hPq hm9 hma9 hM9 hMn hvl2 hvs2 he1 he2 he4 he5 hge9 hbk
                      refine wp_region_noPanic ?_
                      refine wp_region_held_drew (S := fun w' => w'.heap[sb]? = some (.cells (supC s2) 31 (0, 0))) (by kernel_rfl) hbk9 (fun hHeld => ?_)
                      refine wpAnyH_take (i := 0) (oi := { dst := some 163, op := Op.move (Operand.tmp 13), type := 28, pos := "law.go:644", after := #[], guard := none }) (v := .slice (some ⟨g, 0, none⟩) n cv) rfl (by kernel_rfl) (by kernel_rfl) (by kernel_rfl) (fun _ _ _ h => h) (Or.inl ⟨by rfl, by intro w hS; go_simp⟩) hHeld ?_
                      try simp only [Act.put, List.setIfInBounds_toArray, List.set_cons_zero, List.set_cons_succ]
                      refine wpAnyH_take (i := 1) (oi := { dst := some 164, op := Op.fieldAddr 31 (Operand.tmp 15) 1, type := 0, pos := "law.go:644", after := #[], guard := none }) (v := .pointer (some ⟨sb, 1, none⟩)) rfl (by kernel_rfl) (by kernel_rfl) (by kernel_rfl) (fun _ _ _ h => h) (Or.inl ⟨by rfl, by intro w hS; go_simp⟩) hHeld ?_
                      try simp only [Act.put, List.setIfInBounds_toArray, List.set_cons_zero, List.set_cons_succ]
                      refine wpAnyH_take (i := 4) (oi := { dst := some 167, op := Op.load 31 (Operand.tmp 15), type := 31, pos := "law.go:644", after := #[], guard := none }) (v := .agg (supC s2)) rfl (by kernel_rfl) (by kernel_rfl) (by kernel_rfl) (fun _ _ _ h => h) (yieldsIf_load_mid (by rfl) 31 _ rfl sb (0) rfl ((supC s2).toList) _ (fun w hS => rng (cs := (supC s2).toList) hS) Tryd.underlying31 rfl hsz) hHeld ?_
                      try simp only [Act.put, List.setIfInBounds_toArray, List.set_cons_zero, List.set_cons_succ]
                      refine wpAnyH_take (i := 2) (oi := { dst := some 165, op := Op.load 3 (Operand.tmp 164), type := 3, pos := "law.go:644", after := #[{ on := 1, ground := Ground.data }], guard := none }) (v := .int .i64 (ge + 1)) rfl (by kernel_rfl) (by kernel_rfl) (by kernel_rfl) (fun _ _ _ h => h) (Or.inl ⟨by rfl, by intro w hS; have hc := (HC1.out _ hS); go_simp⟩) hHeld ?_
                      try simp only [Act.put, List.setIfInBounds_toArray, List.set_cons_zero, List.set_cons_succ]
                      refine wpAnyH_take (i := 3) (oi := { dst := some 166, op := Op.binOp BinOp.rem 3 (Operand.tmp 165) (Operand.const (Value.int IntKind.i64 2)) 3, type := 3, pos := "law.go:644", after := #[{ on := 2, ground := Ground.data }], guard := none }) (v := .int .i64 (gr : Int)) rfl (by kernel_rfl) (by kernel_rfl) (by kernel_rfl) (fun _ _ _ h => h) (Or.inl ⟨by rfl, by intro w hS; go_simp⟩) hHeld ?_
                      try simp only [Act.put, List.setIfInBounds_toArray, List.set_cons_zero, List.set_cons_succ]
                      refine wpAnyH_ready (rs := [5]) (by kernel_rfl) (by simp) ?_
                      refine (AllReadyH.cons (o := { dst := some 168, op := Op.call { callee := Callee.value (Operand.func 7), args := #[Operand.tmp 167], argTypes := #[31] }, type := 29, pos := "law.go:644", after := #[{ on := 4, ground := Ground.data }], guard := none }) rfl (fun K hK => ?_) AllReadyH.nil)
                      go_simp
                      go_at_call 7
                      refine (qSuper_any _ (HGL.out.below (HL.out.bl.trans (⟨rfl, rfl, rfl, Nat.le_refl _, fun _ _ => rfl⟩ : Below base w9 w9.drew)) (by rw [HBASE.out]; exact HGL.out.1)) s2 HFIN.out.2.2.2.2.1).mono ?_
                      rintro e w4 ⟨y6, rfl, hO6, hb6⟩
                      have hO6 : Own w4 _ y6 (secP s2) := hO6
                      have HB6 := hid (And.intro hb6 hO6)
                      obtain ⟨sp6, cp6, ey6, -, -⟩ := hO6.form
                      rw [secP_len] at ey6
                      subst ey6
                      go_wp2_with fail
                      refine hK.out _ _ ((hb6.block sb (hlt hHeld)).trans hHeld) (fun hHeld2 => ?_)
                      clear hK K hHeld
                      have hHeld := hHeld2
                      clear hHeld2
                      clear hO6 hb6
                      try simp only [Act.put, List.setIfInBounds_toArray, List.set_cons_zero, List.set_cons_succ]
                      refine wpAnyH_take (i := 6) (oi := { dst := some 169, op := Op.indexAddr 28 (Operand.tmp 163) (Operand.tmp 166), type := 0, pos := "law.go:644", after := #[{ on := 0, ground := Ground.data }, { on := 3, ground := Ground.data }, { on := 0, ground := Ground.phase }, { on := 1, ground := Ground.phase }, { on := 2, ground := Ground.phase }, { on := 3, ground := Ground.phase }, { on := 4, ground := Ground.phase }, { on := 5, ground := Ground.phase }], guard := none }) (v := .pointer (some ⟨g, 0 + gr, none⟩)) rfl (by kernel_rfl) (by kernel_rfl) (by kernel_rfl) (fun _ _ _ h => h) (Or.inl ⟨by rfl, by intro w hS; go_simp⟩) hHeld ?_
                      try simp only [Act.put, List.setIfInBounds_toArray, List.set_cons_zero, List.set_cons_succ]
                      refine wpAnyH_ready (rs := [7]) (by kernel_rfl) (by simp) ?_
                      refine (AllReadyH.cons (o := { dst := none, op := Op.store 29 (Operand.tmp 169) (Operand.tmp 168), type := 0, pos := "law.go:644", after := #[{ on := 6, ground := Ground.data }, { on := 5, ground := Ground.data }, { on := 5, ground := Ground.chain }, { on := 0, ground := Ground.phase }, { on := 1, ground := Ground.phase }, { on := 2, ground := Ground.phase }, { on := 3, ground := Ground.phase }, { on := 4, ground := Ground.phase }, { on := 5, ground := Ground.phase }], guard := none }) rfl (fun K hK => ?_) AllReadyH.nil)
                      have L8 := HL.out.below (w1 := w9.drew) ⟨rfl, rfl, rfl, Nat.le_refl _, fun _ _ => rfl⟩
                      obtain ⟨o9, a9⟩ := L8.own HB6.out.2
                      have L9 := L8.below HB6.out.1
                      obtain ⟨z1, z2, z3⟩ := L9.put' o9 a9 (secP_len _) gr (by rw [HE.out.1]; exact hgr5)
                      have hgb : g ≠ sb := by
                        rintro rfl
                        obtain ⟨_, _, cs8, hc8⟩ := L9.wn.k.heap g rfl
                        exact ne_tyK L9.bk hc8 (by decide) rfl
                      have HL9 := hid z3
                      clear L8 o9 a9 L9
                      go_simp
                      refine hK.out _ _ ((heap_setCell_other _ _ _ _ (Ne.symm hgb)).trans hHeld) (fun hHeld2 => ?_)
                      clear hK K hHeld
                      have hHeld := hHeld2
                      clear hHeld2
                      try simp only [Act.put, List.setIfInBounds_toArray, List.set_cons_zero, List.set_cons_succ]
                      refine wpAnyH_done (by kernel_rfl) ?_ _
                      refine NoPanic.normal ?_
                      have c3 := HC3.out _ hHeld
                      have hsx9 := HL9.out.sx
                      have hfit9 : 2 + L.length + S2.vs.length ≤ n := by rw [HFIN.out.1]; exact HE.out.2.2.2.2.2.1
                      have hvl9 : S2.vs.length ≤ 64 := by rw [HE.out.2.2.2.2.2.2.1]; omega
                      have HFL := hid (hsx9.flush HFIN.out.2.2.2.1 (by omega) hfit9 _ HFIN.out.2.2.1 hvl9)
                      clear hsx9 hfit9 hvl9
                      rw [HE.out.2.2.2.2.2.2.2.2.1] at HFL
                      clear hHeld hbk9
                      go_wp2_with fail
                      refine HFL.out.mono ?_
                      rintro _ w12 ⟨rfl, S3, hS3, hvs3, ⟨f1, f2, f3, f4, f5⟩, ⟨hb12, hf12, hg12⟩, himg⟩
                      have L12 := HL9.out.stage hS3 hf12 hg12 hb12
                      have hs3 : S3.s = s2 := f4.trans HFIN.out.2.1
                      have HSU := hid (fun (w' : World) (hb : Below w12.heap.size w12 w') => oSuper_any w' base S3 (L12.sx.sk.below hb))
                      rw [f1, hs3] at HSU
                      have HL12 := hid (And.intro L12 (And.intro hvs3 (And.intro f1 (And.intro f2 (And.intro hs3 himg)))))
                      have hEQ : ∀ w : World, (Op.equalIn 10000 31 (.agg (supC s2)) (.agg (supC s2))).run Tryd.prog w = .ok true w := fun w => by have := eqSup s2 s2 w; simpa using this
                      have hGU := guardU
                      have hb9 : Below w12.heap.size w12 w12.drew := ⟨rfl, rfl, rfl, Nat.le_refl _, fun _ _ => rfl⟩
                      have hbk12 := L12.bk
                      have hsb12 := hlt hbk12
                      clear L12 hvs3 f1 f2 f3 f4 f5 hs3 himg hS3 hb12 hf12 hg12 HFL c3 z1 z2
                      go_wp2_with fail
                      refine wp_region_noPanic ?_
                      refine wp_region_held_drew (S := fun w' => Below w12.heap.size w12 w') (by kernel_rfl) hb9 (fun hHeld => ?_)
                      refine wpAnyH_take (i := 0) (oi := { dst := some 174, op := Op.move (Operand.tmp 21), type := 42, pos := "law.go:646", after := #[], guard := none }) (v := .int .i64 0) rfl (by kernel_rfl) (by kernel_rfl) (by kernel_rfl) (fun _ _ _ h => h) (Or.inl ⟨by rfl, by intro w hS; go_simp⟩) hHeld ?_
                      try simp only [Act.put, List.setIfInBounds_toArray, List.set_cons_zero, List.set_cons_succ]
                      refine wpAnyH_take (i := 1) (oi := { dst := some 175, op := Op.binOp BinOp.neq 42 (Operand.tmp 174) (Operand.const (Value.int IntKind.i64 0)) 42, type := 4, pos := "law.go:646", after := #[{ on := 0, ground := Ground.data }], guard := none }) (v := .bool false) rfl (by kernel_rfl) (by kernel_rfl) (by kernel_rfl) (fun _ _ _ h => h) (Or.inl ⟨by rfl, by intro w hS; go_simp⟩) hHeld ?_
                      try simp only [Act.put, List.setIfInBounds_toArray, List.set_cons_zero, List.set_cons_succ]
                      refine wpAnyH_take (i := 2) (oi := { dst := some 176, op := Op.move (Operand.tmp 175), type := 4, pos := "law.go:646", after := #[{ on := 1, ground := Ground.data }], guard := none }) (v := .bool false) rfl (by kernel_rfl) (by kernel_rfl) (by kernel_rfl) (fun _ _ _ h => h) (Or.inl ⟨by rfl, by intro w hS; go_simp⟩) hHeld ?_
                      try simp only [Act.put, List.setIfInBounds_toArray, List.set_cons_zero, List.set_cons_succ]
                      refine wpAnyH_take (i := 3) (oi := { dst := some 177, op := Op.move (Operand.tmp 12), type := 26, pos := "law.go:646", after := #[{ on := 2, ground := Ground.guard }], guard := some (2, false) }) (v := .pointer (some ⟨st, 0, none⟩)) rfl (by kernel_rfl) (by kernel_rfl) (by kernel_rfl) (fun _ _ _ h => h) (Or.inl ⟨by rfl, by intro w hS; go_simp⟩) hHeld ?_
                      try simp only [Act.put, List.setIfInBounds_toArray, List.set_cons_zero, List.set_cons_succ]
                      refine wpAnyH_take (i := 5) (oi := { dst := some 179, op := Op.load 31 (Operand.tmp 15), type := 31, pos := "law.go:646", after := #[{ on := 2, ground := Ground.guard }], guard := some (2, false) }) (v := .agg (supC s2)) rfl (by kernel_rfl) (by kernel_rfl) (by kernel_rfl) (fun _ _ _ h => h) (yieldsIf_load_mid (by rfl) 31 _ rfl sb (0) rfl ((supC s2).toList) _ (fun w hS => rng (cs := (supC s2).toList) ((hS.block sb hsb12).trans hbk12)) Tryd.underlying31 rfl hsz) hHeld ?_
                      try simp only [Act.put, List.setIfInBounds_toArray, List.set_cons_zero, List.set_cons_succ]
                      refine wpAnyH_ready (rs := [4]) (by kernel_rfl) (by simp) ?_
                      refine (AllReadyH.cons (o := { dst := some 178, op := Op.call { callee := Callee.value (Operand.func 15), args := #[Operand.tmp 177], argTypes := #[26] }, type := 31, pos := "law.go:646", after := #[{ on := 3, ground := Ground.data }, { on := 2, ground := Ground.chain }, { on := 2, ground := Ground.guard }], guard := some (2, false) }) rfl (fun K hK => ?_) AllReadyH.nil)
                      go_simp
                      go_at_call 15
                      refine (HSU.out _ hHeld).mono ?_
                      rintro e w13 ⟨rfl, hb13⟩
                      go_wp2_with fail
                      refine hK.out _ _ (hHeld.trans (hb13.mono hHeld.size)) (fun hHeld2 => ?_)
                      clear hK K hHeld
                      have hHeld := hHeld2
                      clear hHeld2
                      clear hb13
                      try simp only [Act.put, List.setIfInBounds_toArray, List.set_cons_zero, List.set_cons_succ]
                      refine wpAnyH_take (i := 6) (oi := { dst := some 180, op := Op.binOp BinOp.neq 31 (Operand.tmp 178) (Operand.tmp 179) 31, type := 4, pos := "law.go:646", after := #[{ on := 4, ground := Ground.data }, { on := 5, ground := Ground.data }, { on := 2, ground := Ground.guard }], guard := some (2, false) }) (v := .bool false) rfl (by kernel_rfl) (by kernel_rfl) (by kernel_rfl) (fun _ _ _ h => h) (Or.inl ⟨by rfl, by intro w hS; go_simp⟩) hHeld ?_
                      try simp only [Act.put, List.setIfInBounds_toArray, List.set_cons_zero, List.set_cons_succ]
                      refine wpAnyH_take (i := 7) (oi := { dst := some 181, op := Op.pick (Operand.tmp 176) (Operand.const (Value.bool true)) (Operand.tmp 180), type := 4, pos := "law.go:646", after := #[{ on := 2, ground := Ground.data }, { on := 6, ground := Ground.data }], guard := none }) (v := .bool false) rfl (by kernel_rfl) (by kernel_rfl) (by kernel_rfl) (fun _ _ _ h => h) (Or.inl ⟨by rfl, by intro w hS; go_simp⟩) hHeld ?_
                      try simp only [Act.put, List.setIfInBounds_toArray, List.set_cons_zero, List.set_cons_succ]
                      refine wpAnyH_done (by kernel_rfl) ?_ _
                      refine NoPanic.normal ?_
                      have hHH := hHeld
                      clear hHeld
                      go_wp2
                      go_roundw
                      case rel =>
                        obtain ⟨L12, hvs3, f1, f2, hs3, himg⟩ := HL12.out
                        obtain ⟨hPl, hPq, hm9, hma9, hM9, hMn, hvl2, hvs2, he1, he2, he4, he5, hge9⟩ := HE.out
                        have L13 := (L12.below hHH).more (2000 + 1000 * (k + 1)) (by omega)
                        refine ⟨k + 1, by omega, by omega, by go_num, hid ⟨S3, S2.s, L ++ S2.vs, _, _, (by rw [hs3]; exact L13), hvs3, f1, (f2.trans he2).trans HM.out.2.2.2.1, by rw [List.length_set]; exact hPl, fun q hq => ?_, ?_⟩⟩
                        · rw [himg q hq, hs3, show s2.ge = ge + 1 by rw [HFIN.out.2.2.2.2.2]]
                          by_cases c0 : gr = q
                          · subst c0
                            rw [if_pos HGR.out.symm, getD_set_same _ _ (by rw [hPl]; exact hgr5)]
                          · rw [if_neg (by rw [HGR.out]; omega), getD_set_other _ _ _ c0, hPq q hq, hvl2, ← hm9]
                            by_cases c1 : m ≤ q ∧ q < m + mtl
                            · rw [if_pos c1, if_pos c1, hvs2, List.getD_eq_getElem?_getD, List.getElem?_map, List.getD_eq_getElem?_getD]
                              have hql : q - m < mt.length := by rw [HML8.out]; omega
                              rw [List.getElem?_eq_getElem hql]; rfl
                            · rw [if_neg c1, if_neg c1, he5]
                              exact HM.out.2.2.2.2.2 q hq
                        · rw [hs3, HFIN.out.2.2.2.2.2]; show ge + 1 = _; rw [HGE.out, HGK.out]; push_cast; omega
                      case measure => simp [intOf]; omega

        · have k9 : ¬ (k : Int) < 20 := by omega
          obtain ⟨S, o, L, vs, Ps, hM, -⟩ := HLI.out
          have hB := hM.bl
          rw [HBASE.out] at hB
          have HB9 := hid hB
          clear hM hB HLI hk9 hk20 hkl
          go_wp2
          go_ret
          exact ⟨rfl, HB9.out⟩
end Go.Proofs.YtaefjlbonflmdaaDoor
