import Derived.Test.YtepeiclagalnaaaSf
import Derived.Deep.DeepCutAuto
import Derived.Deep.CutBlock
namespace Go.Proofs.Ytepeiclagalnaaa
set_option linter.unusedVariables false
set_option linter.unusedSimpArgs false
open Go.RowKit
open Go.Proofs.Ytepeiclagalnaaa.Ca (Ct ct0 ctC argV AS)
attribute [local go_sem ↓] Go.wp_at_zero Go.wp_at_succ

theorem wpList_fieldW3 {ops : Array Oper} {rest : List Oper} {o : Oper} {a : Act} {w : World} {Q : Exit → Act → World → Prop} (hw : Region.wanted o (yielded ops a.tmps) = true) (x : Operand) (ho : o.op = .field 38 x 3) (s2 : Sup) (y : Int) (hy : s2.hd = y) (hx : a.eval x = .agg (supC s2))
    (h : wpList Try.prog ops Q rest (a.put o.dst (.int .i64 y)) w) : wpList Try.prog ops Q (o :: rest) a w := by
  refine BigFrame.wpList_want hw fun K hK => ?_
  unfold Oper.wp
  have e : (execOp a.eval o).run Try.prog w = .ok (.value (.int .i64 y)) w := by
    subst hy
    unfold execOp
    simp only [ho, hx]
    kernel_rfl
  rw [e]
  exact hK _ _ h
theorem wpList_fieldW2 {ops : Array Oper} {rest : List Oper} {o : Oper} {a : Act} {w : World} {Q : Exit → Act → World → Prop} (hw : Region.wanted o (yielded ops a.tmps) = true) (x : Operand) (ho : o.op = .field 38 x 2) (s2 : Sup) (y : Int) (hy : s2.ma = y) (hx : a.eval x = .agg (supC s2))
    (h : wpList Try.prog ops Q rest (a.put o.dst (.int .i64 y)) w) : wpList Try.prog ops Q (o :: rest) a w := by
  refine BigFrame.wpList_want hw fun K hK => ?_
  unfold Oper.wp
  have e : (execOp a.eval o).run Try.prog w = .ok (.value (.int .i64 y)) w := by
    subst hy
    unfold execOp
    simp only [ho, hx]
    kernel_rfl
  rw [e]
  exact hK _ _ h
theorem Mds.later {w w1 : World} {B : Nat} {sp : Option Addr} {ms : List MD} (h : Mds w B sp ms) (hb : Below B w w1) : Mds w1 B sp ms := by
  obtain ⟨b, o, h1, h2⟩ := h
  refine ⟨b, o, h1, fun i hi => ?_⟩
  obtain ⟨tp, tc, q3, q4, q5⟩ := h2 i hi
  have q1 := (h1 (by omega)).1
  exact ⟨tp, tc, fun j v hv => (hb.cell (p := ⟨b, o + i * 2 + j, none⟩) q1).trans (q3 j v hv), SrcB q4 hb q5, q5⟩
theorem Mds.wide {w : World} {B B2 : Nat} {sp : Option Addr} {ms : List MD} (h : Mds w B sp ms) (hB : B ≤ B2) : Mds w B2 sp ms := by
  obtain ⟨b, o, h1, h2⟩ := h
  refine ⟨b, o, fun q => ⟨by have := (h1 q).1; omega, (h1 q).2⟩, fun i hi => ?_⟩
  obtain ⟨tp, tc, q3, q4, q5⟩ := h2 i hi
  exact ⟨tp, tc, q3, q4, fun q a e => by have := q5 q a e; omega⟩
theorem Sx.next {w : World} {base : Nat} {S : Sto} {n : Nat} {o : Sup} {L : List (Int × List Int)} {b : Nat} {a : Int} (h : Sx w base S n o L b a) (hv : S.vs.length ≤ 4096) (x : Int) (hx : x = 2 + (L.length : Int) + (S.vs.length : Int)) : Calls Try.prog 10 #[.pointer (some ⟨S.st, 0, none⟩)] w fun e w' => e = .returned (.int .i64 x) ∧ Below w.heap.size w w' := by
  obtain ⟨b1, b2, b3, b4, b5⟩ := h.bd
  have := oNext_any w base S h.sk (by omega) (by rw [b1]; omega)
  rw [show S.s.ma + (S.cts.length : Int) = x by rw [b1, b4, hx]; push_cast; rfl] at this
  exact this
theorem Sx.staged {w : World} {base : Nat} {S : Sto} {n : Nat} {o : Sup} {L : List (Int × List Int)} {b : Nat} {a : Int} (h : Sx w base S n o L b a) (hv : S.vs.length ≤ 4096) (x : Int) (hx : x = (S.vs.length : Int)) : Calls Try.prog 13 #[.pointer (some ⟨S.st, 0, none⟩)] w fun e w' => e = .returned (.int .i64 x) ∧ w = w' := by
  have := oStaged_any w base S h.sk (by rw [h.sk.cl]; omega)
  rw [h.sk.cl, ← hx] at this
  exact this
theorem mds_nil (w : World) (B : Nat) : Mds w B none [] := ⟨0, 0, fun q => absurd q (by simp), fun i hi => absurd hi (by simp)⟩
theorem kn_map {S : Sto} {n : Nat} {o : Sup} {L1 : List (Int × List Int)} {L2 : List (Int × List Int)} {ms : List MD} (h : Hs S.D n S.s o (L1 ++ ms.map mdV ++ L2)) (l : Nat) (hl : L1.length = l) (i : Nat) (hi : i < ms.length) : Kn S (2 + l + i) (mdV (ms.getD i dM)) := by
  have := h.kn (l + i) (by simp only [List.length_append, List.length_map]; omega)
  rw [Nat.add_assoc 2 l i]
  rw [List.getD_eq_getElem?_getD, List.append_assoc, List.getElem?_append_right (by omega), List.getElem?_append_left (by rw [List.length_map]; omega), List.getElem?_map, show l + i - L1.length = i by omega, List.getElem?_eq_getElem hi] at this
  rw [List.getD_eq_getElem?_getD, List.getElem?_eq_getElem hi]; exact this
/-- What holds behind the choice between what was kept and what was not. -/
def R233 (B N ka kx kc : Nat) (wr : World) (oT : Sup) (A X : List (Int × List Int)) (mc : List MD) (kept : Bool) (tt p : Nat) (s18 s19 s28 : Value) (wx : World) : Prop :=
  ∃ (sp4 : Option Addr) (cap4 k4 : Nat) (m4 : List MD) (sp5 : Option Addr) (cap5 k5 : Nat) (m5 : List MD) (th2 : Int) (SK2 : Sto), s18 = .slice sp4 k4 cap4 ∧ s19 = .slice sp5 k5 cap5 ∧ s28 = .int .i64 th2 ∧ m4.length = k4 ∧ m5.length = k5 ∧ (∀ w4, Below B wr w4 → Mds w4 B sp4 m4) ∧ (∀ w4, Below B wr w4 → Mds w4 B sp5 m5) ∧ (∀ i, i < m4.length → MdOk (m4.getD i dM)) ∧ (∀ i, i < m5.length → MdOk (m5.getD i dM)) ∧ k4 ≤ 12 ∧ k5 ≤ 12 ∧ kx + kc = k4 + k5 ∧ X ++ mc.map mdV = m4.map mdV ++ m5.map mdV ∧ ((kept = true ∧ m5 = mc) ∨ (kept = false ∧ m4 = mc)) ∧ (th2 = 0 ∨ (2 ≤ th2 ∧ th2 < 2 + (ka : Int) + (kx : Int))) ∧ Sx wx B SK2 N oT (A ++ X) 3600 0 ∧ SK2.vs = [] ∧ SK2.st = tt ∧ SK2.p = p ∧ Below B wr wx
/-- What holds behind the third lot's staging. -/
def R54 (B N : Nat) (wr : World) (oT : Sup) (L : List (Int × List Int)) (mc : List MD) (tt p : Nat) (s : Value) (wx : World) : Prop :=
  s = .bool false ∧ ∃ SM, Sx wx B SM N oT L 3800 0 ∧ SM.vs = mc.map mdV ∧ SM.st = tt ∧ SM.p = p ∧ Below B wr wx
theorem md_take {ms : List MD} (hok : ∀ i, i < ms.length → MdOk (ms.getD i dM)) : ∀ i, i < (ms.take 12).length → MdOk ((ms.take 12).getD i dM) := fun i hi => by
  have e : (ms.take 12).getD i dM = ms.getD i dM := by
    rw [List.length_take] at hi
    rw [List.getD_eq_getElem?_getD, List.getD_eq_getElem?_getD, List.getElem?_take, if_pos (by omega)]
  rw [e]; exact hok i (by rw [List.length_take] at hi; omega)
set_option maxRecDepth 100000 in
set_option maxHeartbeats 4000000 in
theorem storeCrashes_any (w : World) (pages width n : Int) (rsp : Option Addr) (rcap : Nat) (rs : List Int) (hR : ∃ b o, (0 < rs.length → b < w.heap.size ∧ rsp = some ⟨b, o, none⟩) ∧ ∀ i, i < rs.length → w.cell? ⟨b, o + i, none⟩ = some (.int .i64 (rs.getD i 0))) (hrl : rs.length ≤ 9223372036854775807)
    (sp1 : Option Addr) (cap1 : Nat) (ms1 : List MD) (hM1 : Mds w w.heap.size sp1 ms1) (hok1 : ∀ i, i < ms1.length → MdOk (ms1.getD i dM)) (hc1 : ms1.length ≤ cap1) (hcl1 : cap1 ≤ 9223372036854775807)
    (sp2 : Option Addr) (cap2 : Nat) (ms2 : List MD) (hM2 : Mds w w.heap.size sp2 ms2) (hok2 : ∀ i, i < ms2.length → MdOk (ms2.getD i dM)) (hc2 : ms2.length ≤ cap2) (hcl2 : cap2 ≤ 9223372036854775807)
    (sp3 : Option Addr) (cap3 : Nat) (ms3 : List MD) (hM3 : Mds w w.heap.size sp3 ms3) (hok3 : ∀ i, i < ms3.length → MdOk (ms3.getD i dM)) (hc3 : ms3.length ≤ cap3) (hcl3 : cap3 ≤ 9223372036854775807)
    (fsp : Option Addr) (fcap : Nat) (fs : List Int) (hF : Src w fsp fcap fs) (hfl : fs.length ≤ 140737488355000) (hfb : Bts fs) :
    Calls Try.prog 3 #[.int .i64 pages, .int .i64 width, .slice rsp rs.length rcap, .slice sp1 ms1.length cap1, .slice sp2 ms2.length cap2, .slice sp3 ms3.length cap3, .int .i64 n, .slice fsp fs.length fcap] w fun e w' => e = .returned (.bool true) ∧ Below w.heap.size w w' := by
  have hl1 : (ms1.take 12).length ≤ 12 := by rw [List.length_take]; omega
  have hl2 : (ms2.take 12).length ≤ 12 := by rw [List.length_take]; omega
  have hl3 : (ms3.take 12).length ≤ 12 := by rw [List.length_take]; omega
  have HM1 := hid (hM1.take 12)
  have HM2 := hid (hM2.take 12)
  have HM3 := hid (hM3.take 12)
  have HO1 := hid (md_take hok1)
  have HO2 := hid (md_take hok2)
  have HO3 := hid (md_take hok3)
  have CUT1 := hid (cut_any w sp1 cap1 ms1 hM1 hc1 hcl1)
  have CUT2 := hid (cut_any w sp2 cap2 ms2 hM2 hc2 hcl2)
  have CUT3 := hid (cut_any w sp3 cap3 ms3 hM3 hc3 hcl3)
  clear hM1 hok1 hc1 hcl1 hM2 hok2 hc2 hcl2 hM3 hok3 hc3 hcl3
  obtain ⟨base, hbase⟩ : ∃ base, base = w.heap.size := ⟨_, rfl⟩
  obtain ⟨rb, ro, hr1, hr2⟩ := hR
  rw [← hbase] at HM1 HM2 HM3 hr1
  have HBA := hid hbase
  have HFS := hid hF
  have HFB := hid hfb
  have HR1 := hid hr1
  have HR2 := hid hr2
  clear hF hfb hr1 hr2
  generalize ms1.take 12 = ma at *
  generalize ms2.take 12 = mb at *
  generalize ms3.take 12 = mc at *
  have HA4 := hid (fun (w4 : World) (hb : Below base w w4) => HM1.out.later hb)
  have HB4 := hid (fun (w4 : World) (hb : Below base w w4) => HM2.out.later hb)
  have HC4 := hid (fun (w4 : World) (hb : Below base w w4) => HM3.out.later hb)
  generalize hka : ma.length = ka at *
  generalize hkb : mb.length = kb at *
  generalize hkc : mc.length = kc at *
  generalize hkr : rs.length = kr at *
  have HKA := hid hka
  have HKB := hid hkb
  have HKC := hid hkc
  have HKR := hid hkr
  have HOA := hid (fun i (hi : i < ma.length) => HO1.out i (by rw [← HKA.out]; exact hi))
  have HOB := hid (fun i (hi : i < mb.length) => HO2.out i (by rw [← HKB.out]; exact hi))
  have HOC := hid (fun i (hi : i < mc.length) => HO3.out i (by rw [← HKC.out]; exact hi))
  clear hka hkb hkc hkr
  go_enter Try.func3, Try.ntmps3
  go_wp2_with fail
  refine CUT1.out.mono ?_
  rintro _ wx ⟨rfl, hw⟩
  obtain rfl := hw.symm
  go_wp2_with fail
  refine CUT2.out.mono ?_
  rintro _ wx ⟨rfl, hw⟩
  obtain rfl := hw.symm
  go_wp2_with fail
  refine CUT3.out.mono ?_
  rintro _ wx ⟨rfl, hw⟩
  obtain rfl := hw.symm
  clear CUT1 CUT2 CUT3 hbase
  go_upto_block 0 with fail
  go_cut [] from 42 to 57 (fun wx => ∃ r0 r1 r2 : Int, wx.heap[w.heap.size]? = some (.cells #[.int .i64 r0, .int .i64 r1, .int .i64 r2] 26 (0, 0)) ∧ Below base w wx)
  case first => as_aux_lemma =>
    go_wp2_with fail
    go_loopw [21] (fun i w' => ∃ (k : Nat) (r0 r1 r2 : Int), k ≤ 3 ∧ k ≤ kr ∧ i = .int .i64 k ∧ w'.heap[w.heap.size]? = some (.cells #[.int .i64 r0, .int .i64 r1, .int .i64 r2] 26 (0, 0)) ∧ Below base w w') (fun i _ => 3 - (intOf i).toNat)
    case atStart => exact ⟨0, 0, 0, 0, by omega, by omega, rfl, hnew w _, (Below.refl base w).alloc (by have := HBA.out; omega) _⟩
    case round =>
      obtain ⟨k, r0, r1, r2, hk3, hkr, rfl, hrow, hbl⟩ := hrel
      by_cases hk : k < 3 ∧ k < kr
      · obtain ⟨hbr, rfl⟩ := HR1.out (by omega)
        obtain ⟨hk4, hk5⟩ := hk
        have hk6 : k = 0 ∨ k = 1 ∨ k = 2 := by omega
        rcases hk6 with rfl | rfl | rfl
        · have c0 := (hbl.cell (p := ⟨rb, ro, none⟩) hbr).trans (HR2.out 0 (by omega))
          have d0 : wr.cell? ⟨w.heap.size, 0, none⟩ = some (.int .i64 r0) := by rw [cell_of_row _ _ _ _ _ _ hrow]; rfl
          have d1 : wr.frozen? ⟨w.heap.size, 0, none⟩ = false := frozen_of_row _ _ _ _ _ hrow
          have HROW : Hid ((wr.setCell ⟨w.heap.size, 0, none⟩ (.int .i64 (rs.getD 0 0))).heap[w.heap.size]? = some (.cells #[.int .i64 (rs.getD 0 0), .int .i64 r1, .int .i64 r2] 26 (0, 0))) := hid (by rw [heap_setCell_same _ _ _ _ _ _ hrow]; rfl)
          have HBL := hid (hbl.setCell (p := ⟨w.heap.size, 0, none⟩) (by show base ≤ w.heap.size; have := HBA.out; omega) (.int .i64 (rs.getD 0 0)))
          generalize rs.getD 0 0 = x at *
          have hkr3 : (0 : Int) < (kr : Int) := by omega
          clear hbl hrow
          go_wp2
          go_roundw
          case rel => exact ⟨0 + 1, _, _, _, by omega, by omega, by go_num, HROW.out, HBL.out⟩
          case measure => simp [intOf]
        · have c0 := (hbl.cell (p := ⟨rb, ro + 1, none⟩) hbr).trans (HR2.out 1 (by omega))
          have d0 : wr.cell? ⟨w.heap.size, 1, none⟩ = some (.int .i64 r1) := by rw [cell_of_row _ _ _ _ _ _ hrow]; rfl
          have d1 : wr.frozen? ⟨w.heap.size, 1, none⟩ = false := frozen_of_row _ _ _ _ _ hrow
          have HROW : Hid ((wr.setCell ⟨w.heap.size, 1, none⟩ (.int .i64 (rs.getD 1 0))).heap[w.heap.size]? = some (.cells #[.int .i64 r0, .int .i64 (rs.getD 1 0), .int .i64 r2] 26 (0, 0))) := hid (by rw [heap_setCell_same _ _ _ _ _ _ hrow]; rfl)
          have HBL := hid (hbl.setCell (p := ⟨w.heap.size, 1, none⟩) (by show base ≤ w.heap.size; have := HBA.out; omega) (.int .i64 (rs.getD 1 0)))
          generalize rs.getD 1 0 = x at *
          have hkr3 : (1 : Int) < (kr : Int) := by omega
          clear hbl hrow
          go_wp2
          go_roundw
          case rel => exact ⟨1 + 1, _, _, _, by omega, by omega, by go_num, HROW.out, HBL.out⟩
          case measure => simp [intOf]
        · have c0 := (hbl.cell (p := ⟨rb, ro + 2, none⟩) hbr).trans (HR2.out 2 (by omega))
          have d0 : wr.cell? ⟨w.heap.size, 2, none⟩ = some (.int .i64 r2) := by rw [cell_of_row _ _ _ _ _ _ hrow]; rfl
          have d1 : wr.frozen? ⟨w.heap.size, 2, none⟩ = false := frozen_of_row _ _ _ _ _ hrow
          have HROW : Hid ((wr.setCell ⟨w.heap.size, 2, none⟩ (.int .i64 (rs.getD 2 0))).heap[w.heap.size]? = some (.cells #[.int .i64 r0, .int .i64 r1, .int .i64 (rs.getD 2 0)] 26 (0, 0))) := hid (by rw [heap_setCell_same _ _ _ _ _ _ hrow]; rfl)
          have HBL := hid (hbl.setCell (p := ⟨w.heap.size, 2, none⟩) (by show base ≤ w.heap.size; have := HBA.out; omega) (.int .i64 (rs.getD 2 0)))
          generalize rs.getD 2 0 = x at *
          have hkr3 : (2 : Int) < (kr : Int) := by omega
          clear hbl hrow
          go_wp2
          go_roundw
          case rel => exact ⟨2 + 1, _, _, _, by omega, by omega, by go_num, HROW.out, HBL.out⟩
          case measure => simp [intOf]
      · have KRX : kr < 3 → k = kr := fun q => by omega
        have KRY : 3 ≤ kr → k = 3 := fun q => by omega
        by_cases q : kr < 3
        · obtain rfl := KRX q
          have q2 : (k : Int) < 3 := by omega
          clear KRX KRY hk
          go_wp2_with fail
          go_meet
          exact ⟨r0, r1, r2, hrow, hbl⟩
        · obtain rfl := KRY (by omega)
          clear KRX KRY hk
          go_wp2_with fail
          go_meet
          exact ⟨r0, r1, r2, hrow, hbl⟩
  case rest =>
  obtain ⟨r0, r1, r2, hrow, hbl⟩ := hcut
  obtain ⟨wr, hwr⟩ : ∃ wr, wr = wc := ⟨_, rfl⟩
  subst hwr
  go_upto_region 10 with fail
  go_cut [23] from 67 to 73 (fun s23 wx => ∃ (N : Nat) (wd : Int) (p : Nat) (F : List Nat) (D : DS), s23 = .pointer (some ⟨p, 0, none⟩) ∧ (3 ≤ N ∧ N ≤ 60 ∧ 2 + ka + kb + kc ≤ N) ∧ DA wx wr.heap.size F p D ∧ (Born D N wd ∧ Hs D N (fS N wd 1) (fS N wd 0) []) ∧ Below wr.heap.size wr wx)
  case first => as_aux_lemma =>
    by_cases mx : 2 + (ka : Int) + (kb : Int) + (kc : Int) < 3
    · have KP := hid (hwhole_any wr pages (3) 60 (by omega) (by omega) (by omega))
      have hpb := wholeF_bd pages (3) 60 (by omega)
      obtain ⟨N, hN⟩ : ∃ N : Nat, (N : Int) = wholeF pages (3) 60 := ⟨(wholeF pages (3) 60).toNat, by omega⟩
      rw [← hN] at KP hpb
      clear hN
      have HRO := hid hrow
      clear hrow
      go_wp2_with fail
      refine KP.out.mono ?_
      rintro _ wx ⟨rfl, hw⟩
      obtain rfl := hw.symm
      have hwb := wholeF_bd width 1 32 (by omega)
      have KWd := hid (hwhole_any wr width 1 32 (by omega) (by omega) (by omega))
      generalize wholeF width 1 32 = wd at *
      go_wp2_with fail
      refine KWd.out.mono ?_
      rintro _ wx ⟨rfl, hw⟩
      obtain rfl := hw.symm
      clear KP KWd
      go_wp2_with fail
      refine (begun_hs wr N wd (by omega) (by omega)).mono ?_
      rintro _ w1 ⟨p, F, D, rfl, hD, hBH, hb1⟩
      have ST1 := hid hD
      have ST2 := hid hBH
      have ST3 := hid hb1
      clear hD hBH hb1
      go_wp2_with fail
      go_meet
      exact ⟨N, wd, p, F, D, rfl, ⟨by omega, by omega, by omega⟩, ST1.out, ST2.out, ST3.out⟩
    · have KP := hid (hwhole_any wr pages (2 + (ka : Int) + (kb : Int) + (kc : Int)) 60 (by omega) (by omega) (by omega))
      have hpb := wholeF_bd pages (2 + (ka : Int) + (kb : Int) + (kc : Int)) 60 (by omega)
      obtain ⟨N, hN⟩ : ∃ N : Nat, (N : Int) = wholeF pages (2 + (ka : Int) + (kb : Int) + (kc : Int)) 60 := ⟨(wholeF pages (2 + (ka : Int) + (kb : Int) + (kc : Int)) 60).toNat, by omega⟩
      rw [← hN] at KP hpb
      clear hN
      have HRO := hid hrow
      clear hrow
      go_wp2_with fail
      refine KP.out.mono ?_
      rintro _ wx ⟨rfl, hw⟩
      obtain rfl := hw.symm
      have hwb := wholeF_bd width 1 32 (by omega)
      have KWd := hid (hwhole_any wr width 1 32 (by omega) (by omega) (by omega))
      generalize wholeF width 1 32 = wd at *
      go_wp2_with fail
      refine KWd.out.mono ?_
      rintro _ wx ⟨rfl, hw⟩
      obtain rfl := hw.symm
      clear KP KWd
      go_wp2_with fail
      refine (begun_hs wr N wd (by omega) (by omega)).mono ?_
      rintro _ w1 ⟨p, F, D, rfl, hD, hBH, hb1⟩
      have ST1 := hid hD
      have ST2 := hid hBH
      have ST3 := hid hb1
      clear hD hBH hb1
      go_wp2_with fail
      go_meet
      exact ⟨N, wd, p, F, D, rfl, ⟨by omega, by omega, by omega⟩, ST1.out, ST2.out, ST3.out⟩
  case rest =>
  obtain ⟨N, wd, p, F, D, rfl, ⟨hN1, hN2, hN3⟩, hD, ⟨hB, hH⟩, hb1⟩ := hcut
  obtain ⟨w1, hw1⟩ : ∃ w1, w1 = wc := ⟨_, rfl⟩
  subst hw1
  obtain ⟨B, hBe⟩ : ∃ B, B = wr.heap.size := ⟨_, rfl⟩
  rw [← hBe] at hD hb1
  have HWB := hid (show base ≤ B by rw [hBe]; exact Nat.le_trans (by have := HBA.out; omega) hbl.size)
  have HBl := hid (fun w4 (z : Below B wr w4) => hbl.trans (z.mono HWB.out))
  have HRW := hid (fun w4 (z : Below B wr w4) => (z.block w.heap.size (by rw [hBe]; exact hlt_ hrow)).trans hrow)
  have HMa := hid (fun w4 (z : Below B wr w4) => (HA4.out w4 (HBl.out w4 z)).wide HWB.out)
  have HMb := hid (fun w4 (z : Below B wr w4) => (HB4.out w4 (HBl.out w4 z)).wide HWB.out)
  have HMc := hid (fun w4 (z : Below B wr w4) => (HC4.out w4 (HBl.out w4 z)).wide HWB.out)
  have HB1 := hid hb1
  have HBW2 := hid (Nat.le_of_eq hBe)
  have HBS := hid (show B ≤ w1.heap.size by rw [hBe]; exact hb1.size)
  have HOP := hid (opened_hs w1 B F p D hD HBS.out N (fS N wd 1) (fS N wd 0) [] hH 10 (by omega) (by rw [hB.reads]; decide) (by rw [hB.writes]; decide) (by rw [hB.syncs]; decide) (by show (1 : Int) ≤ _; decide) (by rw [hB.epoch]; decide) hB.arm r0)
  have k0 : w1.cell? ⟨w.heap.size, 0, none⟩ = some (.int .i64 r0) := by rw [cell_of_row _ _ _ _ _ _ (HRW.out w1 hb1)]; rfl
  clear hD hB hH hb1 hBe hrow hbl
  go_wp2_with fail
  refine HOP.out.mono ?_
  rintro _ w2 ⟨S2, rfl, hX2, ⟨hv2, hp2, hs2⟩, hb2⟩
  have HB2 := hid (HB1.out.trans hb2)
  have STG := hX2.stages (by omega) (by omega) hv2 sp1 cap1 ma (HMa.out w2 HB2.out) HOA.out 2 rfl (by rw [HKA.out]; omega) (by rw [HKA.out]; omega)
  rw [HKA.out, show ((2 : Nat) : Int) = 2 from rfl] at STG
  generalize hst : S2.st = st at *
  replace STG := hid STG
  have HP2 := hid hp2
  have HS2 := hid hs2
  have HST := hid hst
  clear hX2 hv2 hp2 hs2 hb2 hst HOP k0
  go_wp2_with fail
  refine STG.out.mono ?_
  rintro _ w3 ⟨rfl, S3, hX3, hv3, hq3, hb3⟩
  have HB3 := hid (HB2.out.trans hb3)
  have hln3 : S3.vs.length = ka := by rw [hv3, List.length_map, HKA.out]
  have HX3 := hid hX3
  have HV3 := hid hv3
  have HQ3 := hid hq3
  have HL3 := hid hln3
  clear hX3 hv3 hq3 hb3 STG hln3
  go_upto_if 93 with fail
  go_cut [26] from 91 to 95 (fun s26 wx => ∃ hd : Int, s26 = .int .i64 hd ∧ (hd = 0 ∨ (2 ≤ hd ∧ hd < 2 + (ka : Int))) ∧ w3 = wx)
  case first => as_aux_lemma =>
    by_cases hA : 0 < ka
    · have hA0 : decide ((0 : Int) < (ka : Int)) = true := by simp; omega
      go_wp2_with fail
      go_meet
      exact ⟨2 + (ka : Int) - 1, rfl, Or.inr ⟨by omega, by omega⟩, rfl⟩
    · have hA0 : decide ((0 : Int) < (ka : Int)) = false := by simp; omega
      go_wp2_with fail
      go_meet
      exact ⟨0, rfl, Or.inl rfl, rfl⟩
  case rest =>
  obtain ⟨hd, rfl, hhd, rfl⟩ := hcut
  have HHD := hid hhd
  have FLS := HX3.out.flush (by omega) (by show 2 + 0 + S3.vs.length ≤ N; rw [HL3.out]; omega) hd (by show _ ∨ (_ ∧ _ < ((2 + 0 + S3.vs.length : Nat) : Int)); rw [HL3.out]; push_cast; omega) (by rw [HL3.out]; omega)
  rw [show S3.st = st from HQ3.out.1] at FLS
  replace FLS := hid FLS
  clear hhd
  go_wp2_with fail
  refine FLS.out.mono ?_
  rintro _ w4 ⟨rfl, S4, hX4, hv4, hq4, hb4⟩
  have HB4' := hid (HB3.out.trans hb4)
  have hLA : ([] : List (Int × List Int)) ++ S3.vs = ma.map mdV := by rw [List.nil_append]; exact HV3.out
  rw [hLA] at hX4
  have STG2 := hX4.stages (by omega) (by omega) hv4 sp2 cap2 mb (HMb.out w4 HB4'.out) HOB.out (2 + ka) (by rw [List.length_map, HKA.out]) (by rw [HKB.out]; omega) (by rw [HKB.out]; omega)
  rw [HKB.out, show S4.st = st from hq4.1, show ((2 + ka : Nat) : Int) = 2 + (ka : Int) by push_cast; rfl] at STG2
  replace STG2 := hid STG2
  have HQ4 := hid hq4
  clear hX4 hv4 hq4 hb4 FLS hLA
  go_wp2_with fail
  refine STG2.out.mono ?_
  rintro _ w5 ⟨rfl, S5, hX5, hv5, hq5, hb5⟩
  have HB5 := hid (HB4'.out.trans hb5)
  have hl5 : S5.cts.length = kb := by rw [hX5.sk.cl, hv5, List.length_map, HKB.out]
  have hs5 : S5.s.ma = 2 + (ka : Int) := by rw [hX5.hs.ma, List.length_map, HKA.out]; push_cast; rfl
  have NXT := oNext_any w5 B S5 hX5.sk (by omega) (by rw [hs5]; omega)
  rw [hs5, hl5, show S5.st = st from hq5.1] at NXT
  replace NXT := hid NXT
  have HX5 := hid hX5
  have HV5 := hid hv5
  have HQ5 := hid hq5
  have HL5 := hid hl5
  clear hX5 hv5 hq5 hb5 STG2 hl5 hs5
  go_wp2_with fail
  refine NXT.out.mono ?_
  rintro _ w6 ⟨rfl, hb6⟩
  have hX6 := HX5.out.below hb6
  have HB6 := hid (HB5.out.trans (hb6.mono HX5.out.sk.base))
  have hkA : ∀ i, i < ma.length → Kn S5 (2 + i) (mdV (ma.getD i dM)) := fun i hi => by
    have := hX6.hs.kn i (by rw [List.length_map]; exact hi)
    rw [List.getD_eq_getElem?_getD, List.getElem?_map, List.getElem?_eq_getElem hi] at this
    rw [List.getD_eq_getElem?_getD, List.getElem?_eq_getElem hi]; exact this
  have hkB : ∀ i, i < mb.length → Kn S5 (2 + ka + i) (mdV (mb.getD i dM)) := fun i hi => kn_staged hX6.sk mb HV5.out (2 + ka) (by rw [hX6.hs.ma, List.length_map, HKA.out]) i hi
  have LDA := hX6.loads (by omega) (by omega) (by rw [HV5.out, List.length_map, HKB.out]; omega) sp1 cap1 ma (HMa.out w6 HB6.out) HOA.out 2 (by omega) (by rw [HKA.out]; omega) hkA
  rw [HKA.out, show ((2 : Nat) : Int) = 2 from rfl, show S5.st = st from HQ5.out.1] at LDA
  replace LDA := hid LDA
  have HKB5 := hid hkB
  clear hX6 hb6 NXT hkA hkB
  go_wp2_with fail
  refine LDA.out.mono ?_
  rintro _ w7 ⟨rfl, S7, hX7, hv7, hq7, hk7, hb7⟩
  have HB7 := hid (HB6.out.trans hb7)
  have LDB := hX7.loads (by omega) (by omega) (by rw [hv7, HV5.out, List.length_map, HKB.out]; omega) sp2 cap2 mb (HMb.out w7 HB7.out) HOB.out (2 + ka) (by omega) (by rw [HKB.out]; omega) (fun i hi => hk7 _ _ (HKB5.out i hi))
  rw [HKB.out, show ((2 + ka : Nat) : Int) = 2 + (ka : Int) by push_cast; rfl, show S7.st = st from hq7.1] at LDB
  replace LDB := hid LDB
  have HQ7 := hid hq7
  have HV7 := hid hv7
  clear hX7 hv7 hq7 hk7 hb7 LDA
  go_wp2_with fail
  refine LDB.out.mono ?_
  rintro _ w8 ⟨rfl, S8, hX8, hv8, hq8, _, hb8⟩
  have HB8 := hid (HB7.out.trans hb8)
  have hp8 : S8.p = p := hq8.2.1.trans (HQ7.out.2.1.trans (HQ5.out.2.1.trans (HQ4.out.2.1.trans (HQ3.out.2.1.trans HP2.out))))
  have hs8 : S8.s = S4.s := hq8.2.2.2.1.trans (HQ7.out.2.2.2.1.trans HQ5.out.2.2.2.1)
  have hh8 : S8.s.hd = hd := by rw [hs8, HQ4.out.2.2.2.1]
  have hl8 : S8.vs.length = kb := by rw [hv8, HV7.out, HV5.out, List.length_map, HKB.out]
  have hv8' : S8.vs = mb.map mdV := by rw [hv8, HV7.out, HV5.out]
  have HX8 := hid hX8
  have HQ8 := hid hq8
  have HL8 := hid hl8
  have HV8 := hid hv8'
  have HH8 := hid hh8
  have HP8 := hid hp8
  clear hX8 hv8 hq8 hb8 hp8 hs8 hh8 hl8 hv8' LDB
  go_upto_if 132 with fail
  go_cut [28] from 130 to 137 (fun s28 wx => ∃ th : Int, s28 = .int .i64 th ∧ (th = 0 ∨ (2 ≤ th ∧ th < 2 + (ka : Int) + (kb : Int))) ∧ w8 = wx)
  case first => as_aux_lemma =>
    by_cases hA : 0 < kb
    · have hA0 : decide ((0 : Int) < (kb : Int)) = true := by simp; omega
      go_wp2_with fail
      go_meet
      exact ⟨2 + (ka : Int) + (kb : Int) - 1, rfl, Or.inr ⟨by omega, by omega⟩, rfl⟩
    · have hA0 : decide ((0 : Int) < (kb : Int)) = false := by simp; omega
      go_wp2_with fail
      go_meet
      exact ⟨0, rfl, Or.inl rfl, rfl⟩
  case rest =>
  obtain ⟨th, rfl, hth, rfl⟩ := hcut
  have HTH := hid hth
  clear hth
  have hab := wholeF_bd n 1 ((kb : Int) + 3 + 1) (by omega)
  have KA := hid (hwhole_any w8 n 1 ((kb : Int) + 3 + 1) (by omega) (by omega) (by omega))
  generalize wholeF n 1 ((kb : Int) + 3 + 1) = at_ at *
  have ARM := HX8.out.arm at_ (by omega)
  rw [HP8.out] at ARM
  replace ARM := hid ARM
  go_wp2_with fail
  refine KA.out.mono ?_
  rintro _ wx ⟨rfl, hw⟩
  obtain rfl := hw.symm
  clear KA
  go_wp2_with fail
  refine ARM.out.mono ?_
  rintro _ w9 ⟨rfl, S9, hX9, hv9, hq9, hb9⟩
  have HB9 := hid (HB8.out.trans hb9)
  have hl9 : S9.vs.length = kb := by rw [hv9]; exact HL8.out
  have FLA := hX9.flushA (by omega) (by omega) (by rw [List.length_map, HKA.out, hl9]; omega) th (by rw [List.length_map, HKA.out, hl9]; have := HTH.out; push_cast; omega) (by rw [hl9]; omega)
  rw [hl9, show S9.st = st from hq9.1.trans HQ8.out.1] at FLA
  replace FLA := hid FLA
  have HX9 := hid hX9
  have HQ9 := hid hq9
  have HV9 := hid hv9
  have HL9 := hid hl9
  clear hX9 hv9 hq9 hb9 hl9 ARM
  go_wp2_with fail
  refine FLA.out.mono ?_
  rintro _ wA ⟨SA, sA, rfl, hsA, hKA, hqA, hlA, hcA, hcr, hbA⟩
  have HBA2 := hid (HB9.out.trans hbA)
  clear FLA
  obtain ⟨er, her⟩ : ∃ er : Int, er = (if at_ ≤ (kb : Int) + 3 then 2 else 0) := ⟨_, rfl⟩
  rw [← her]
  have HER := hid her
  have HSA := hid hsA
  have HKA2 := hid hKA
  have HQA := hid hqA
  have HLA := hid hlA
  have HCA := hid hcA
  have HCR := hid hcr
  clear her hsA hKA hqA hlA hcA hcr hbA
  go_upto_region 30 with fail
  go_cut [164] from 151 to 164 (fun s164 wx => s164 = .bool false ∧ wA = wx)
  case first => as_aux_lemma =>
    by_cases hlow : at_ ≤ (kb : Int) + 3
    · have her := HER.out
      rw [if_pos hlow] at her
      subst her
      have hd8 : decide ((kb : Int) + 3 < at_) = false := by simp; omega
      go_wp2_with fail
      go_meet
      exact ⟨rfl, rfl⟩
    · have her := HER.out
      rw [if_neg hlow] at her
      subst her
      have hd8 : decide ((kb : Int) + 3 < at_) = true := by simp; omega
      go_wp2_with fail
      go_meet
      exact ⟨rfl, rfl⟩
  case rest =>
  obtain ⟨rfl, rfl⟩ := hcut
  go_upto_region 32 with fail
  go_cut [196] from 165 to 196 (fun s196 wx => s196 = .bool false ∧ Below wA.heap.size wA wx)
  case first => as_aux_lemma =>
    by_cases hlow : at_ ≤ (kb : Int) + 3
    · have her := HER.out
      rw [if_pos hlow] at her
      subst her
      obtain ⟨sE, vE, cE⟩ := HLA.out (by omega)
      have hmA : SA.s.ma = 2 + (ka : Int) := by rw [sE, HX9.out.hs.ma, List.length_map, HKA.out]; push_cast; rfl
      have hhA : SA.s.hd = hd := by rw [sE, HQ9.out.2.2.2.1]; exact HH8.out
      have hlA2 : SA.cts.length = kb := by rw [HKA2.out.cl, vE, HV9.out]; exact HL8.out
      have hstA : SA.st = st := HQA.out.1
      have NXA := oNext_any wA B SA HKA2.out (by omega) (by rw [hmA]; omega)
      rw [hmA, hlA2, hstA] at NXA
      replace NXA := hid NXA
      have STA := hid (fun wB (z : Below wA.heap.size wA wB) => show Calls Try.prog 13 #[.pointer (some ⟨st, 0, none⟩)] wB fun e w' => e = .returned (.int .i64 kb) ∧ wB = w' by
        have := oStaged_any wB B SA (HKA2.out.below z) (by omega)
        rw [hlA2, hstA] at this; exact this)
      have SUA := hid (fun wB (z : Below wA.heap.size wA wB) => show Calls Try.prog 14 #[.pointer (some ⟨st, 0, none⟩)] wB fun e w' => e = .returned (.agg (supC SA.s)) ∧ Below wB.heap.size wB w' by
        have := oSuper_any wB B SA (HKA2.out.below z)
        rw [hstA] at this; exact this)
      clear sE vE cE hlA2 hstA
      go_wp2_with fail
      refine NXA.out.mono ?_
      rintro _ wB ⟨rfl, hbB⟩
      have HbB := hid hbB
      clear hbB NXA
      go_wp2_with fail
      refine (STA.out wB HbB.out).mono ?_
      rintro _ wx ⟨rfl, hw⟩
      obtain rfl := hw
      clear STA
      go_wp2_with fail
      refine (SUA.out wB HbB.out).mono ?_
      rintro _ wC ⟨rfl, hbC⟩
      have HbC := hid (HbB.out.trans (hbC.mono HbB.out.size))
      clear hbC
      go_wp2_with (first | refine wpList_fieldW2 (by rfl) _ (by rfl) SA.s (2 + (ka : Int)) hmA (by rfl) ?_)
      refine (SUA.out wC HbC.out).mono ?_
      rintro _ wD ⟨rfl, hbD⟩
      have HbD := hid (HbC.out.trans (hbD.mono HbC.out.size))
      clear hbD
      go_wp2_with (first | refine wpList_fieldW3 (by rfl) _ (by rfl) SA.s hd hhA (by rfl) ?_)
      go_meet
      exact ⟨rfl, HbD.out⟩
    · have her := HER.out
      rw [if_neg hlow] at her
      subst her
      go_wp2_with fail
      go_meet
      exact ⟨rfl, Below.refl _ _⟩
  case rest =>
  obtain ⟨rfl, hbD⟩ := hcut
  obtain ⟨wD, hwD⟩ : ∃ wD, wD = wc := ⟨_, rfl⟩
  subst hwD
  have HbD := hid hbD
  have HBD := hid (HBA2.out.trans (hbD.mono (Nat.le_trans HBW2.out HBA2.out.size)))
  clear hbD
  go_upto_region 35 with fail
  go_cut [208] from 200 to 208 (fun s208 wx => ∃ d2 : Bool, s208 = .bool d2 ∧ (d2 = true ↔ (at_ = (kb : Int) + 2 ∨ at_ = (kb : Int) + 3)) ∧ wD = wx)
  case first => as_aux_lemma =>
    by_cases h2 : at_ = (kb : Int) + 2
    · have e9 : (at_ == (kb : Int) + 3 - 1) = true := by simp; omega
      have e10 : (true = true) ↔ (at_ = (kb : Int) + 2 ∨ at_ = (kb : Int) + 3) := by simp; omega
      have HE10 := hid e10
      clear h2 e10
      go_wp2_with fail
      go_meet
      exact ⟨_, rfl, by simpa using HE10.out, rfl⟩
    · by_cases h3 : at_ = (kb : Int) + 3
      · have e9 : (at_ == (kb : Int) + 3 - 1) = false := by simp; omega
        have e11 : (at_ == (kb : Int) + 3) = true := by simp [h3]
        have e10 : (true = true) ↔ (at_ = (kb : Int) + 2 ∨ at_ = (kb : Int) + 3) := by simp; omega
        have HE10 := hid e10
        clear h2 h3 e10
        go_wp2_with fail
        go_meet
        exact ⟨_, rfl, by simpa using HE10.out, rfl⟩
      · have e9 : (at_ == (kb : Int) + 3 - 1) = false := by simp; omega
        have e11 : (at_ == (kb : Int) + 3) = false := by simp [h3]
        have e10 : (false = true) ↔ (at_ = (kb : Int) + 2 ∨ at_ = (kb : Int) + 3) := by simp; omega
        have HE10 := hid e10
        clear h2 h3 e10
        go_wp2_with fail
        go_meet
        exact ⟨_, rfl, by simpa using HE10.out, rfl⟩
  case rest =>
  obtain ⟨d2, rfl, hd2, rfl⟩ := hcut
  have HD2 := hid hd2
  clear hd2
  go_upto_if 208 with fail
  go_cut [31] from 208 to 218 (fun s31 wx => ∃ kept : Bool, s31 = .bool kept ∧ (kept = true ↔ Kp at_ kb (fs.take 300)) ∧ wD = wx)
  case first => as_aux_lemma =>
    have hSD : Src wD fsp fcap fs := HFS.out.below (HBl.out wD HBD.out) (Nat.le_of_eq HBA.out.symm)
    have hd2 := HD2.out
    by_cases h2 : at_ = (kb : Int) + 2 ∨ at_ = (kb : Int) + 3
    · obtain rfl : d2 = true := hd2.2 h2
      by_cases hf : 0 < fs.length
      · obtain ⟨hl1, hl2, fb, fo, hs1, hs2, hs3⟩ := hSD
        obtain rfl := hs2 hf
        have c0 : wD.cell? ⟨fb, fo, none⟩ = some (.int .u8 (fs.getD 0 0)) := hs3 0 hf
        have hbt : 0 ≤ fs.getD 0 0 ∧ fs.getD 0 0 < 256 := HFB.out _ (by rw [List.getD_eq_getElem?_getD, List.getElem?_eq_getElem hf]; exact List.getElem_mem hf)
        have HKP : Hid (((fs.getD 0 0) % 2 == 1) = true ↔ Kp at_ kb (fs.take 300)) := hid (by
          unfold Kp fateOf
          have e1 : (fs.take 300).getD 0 0 = fs.getD 0 0 := by rw [List.getD_eq_getElem?_getD, List.getElem?_take, if_pos (by omega), ← List.getD_eq_getElem?_getD]
          have e2 : 0 < (fs.take 300).length := by rw [List.length_take]; omega
          rw [e1]
          generalize fs.getD 0 0 = z at *
          obtain ⟨m, rfl⟩ : ∃ m : Nat, z = (m : Int) := ⟨z.toNat, by omega⟩
          rw [Int.toNat_natCast, Nat.testBit_zero, show ((m : Int) % 2 == 1) = true ↔ m % 2 = 1 from by rw [beq_iff_eq]; omega]
          simp only [decide_eq_true_eq]
          constructor
          · intro q; exact Or.inr ⟨by omega, e2, q⟩
          · rintro (q | q)
            · omega
            · exact q.2.2)
        have hf2 : (0 : Int) < (fs.length : Int) := by omega
        generalize fs.getD 0 0 = z at *
        clear hs1 hs2 hs3 hl1 hl2 h2 hd2
        go_wp2_with fail
        go_meet
        exact ⟨_, rfl, HKP.out, rfl⟩
      · have hf2 : ¬ (0 : Int) < (fs.length : Int) := by omega
        have HKP : Hid (false = true ↔ Kp at_ kb (fs.take 300)) := hid (by
          unfold Kp
          have e2 : (fs.take 300).length = 0 := by rw [List.length_take]; omega
          rw [e2]
          constructor
          · intro q; cases q
          · rintro (q | q)
            · omega
            · omega)
        clear hSD h2 hd2
        go_wp2_with fail
        go_meet
        exact ⟨_, rfl, HKP.out, rfl⟩
    · obtain rfl : d2 = false := by cases d2 with | false => rfl | true => exact absurd (hd2.1 rfl) h2
      have HKP : Hid (decide ((kb : Int) + 3 < at_) = true ↔ Kp at_ kb (fs.take 300)) := hid (by
        unfold Kp
        rw [decide_eq_true_eq]
        constructor
        · intro q; exact Or.inl q
        · rintro (q | q)
          · exact q
          · omega)
      clear hSD h2 hd2
      go_wp2_with fail
      go_meet
      exact ⟨_, rfl, HKP.out, rfl⟩
  case rest =>
  obtain ⟨kept, rfl, hkept, rfl⟩ := hcut
  have hHS : ∃ sT oT X, Hs (SA.D.crashed (fs.take 300)) N sT oT (ma.map mdV ++ X) ∧ sT.ge ≤ 3000 ∧ ((kept = true ∧ X = mb.map mdV ∧ sT.hd = th) ∨ (kept = false ∧ X = [] ∧ sT.hd = hd)) := by
    have hc := HCR.out (fs.take 300)
    have hg := HX9.out.ge
    cases kept with
    | true => exact ⟨sA, S9.s, mb.map mdV, by have := hc.1 (hkept.1 rfl); rw [HV9.out, HV8.out] at this; exact this, by rw [HSA.out]; show S9.s.ge + 1 ≤ _; omega, Or.inl ⟨rfl, rfl, by rw [HSA.out]⟩⟩
    | false => exact ⟨S9.s, S3.s, [], by rw [List.append_nil]; exact hc.2 (fun q => by cases hkept.2 q), by omega, Or.inr ⟨rfl, rfl, by rw [HQ9.out.2.2.2.1]; exact HH8.out⟩⟩
  obtain ⟨sT, oT, X, hHS, hgT, hXk⟩ := hHS
  have HHS := hid hHS
  have HGT := hid hgT
  have HXK2 := hid hXk
  clear hHS hgT hXk hkept
  go_wp2_with fail
  refine (hshort_any wD fs fsp fcap (HFS.out.below (HBl.out wD HBD.out) (Nat.le_of_eq HBA.out.symm)) hfl 300 (by omega)).mono ?_
  rintro _ wE ⟨vE, rfl, hOE, hbE⟩
  obtain ⟨spE, capE, hvE, hSE, hnE⟩ := hOE.form
  have hKE := (HKA2.out.below HbD.out).below hbE
  have HBE := hid (HBD.out.trans (hbE.mono (Nat.le_trans HBW2.out HBD.out.size)))
  have CRS := hKE.crash (by rw [HCA.out.1, HQA.out.2.2.2, (live_0 HX9.out.lv).1]) (by rw [HCA.out.1]; have := HX9.out.ep; omega) (fs.take 300) (fun x hx => HFB.out x (List.mem_of_mem_take hx)) spE capE hSE (fun a _ e z => by
    have q1 := (ownsRow_block hOE a.block (by rw [hvE, e]; rfl)).1
    have q2 := ((HKA2.out.below HbD.out).in_lt (k := a.block) (by simp [z])).2
    omega)
  rw [show SA.p = p from HQA.out.2.1.trans HQ9.out.2.1, show SA.st = st from HQA.out.1] at CRS
  replace CRS := hid CRS
  subst hvE
  generalize hX : fs.take 300 = ft at *
  generalize ft.length = lt at *
  clear hOE hSE hnE hKE hbE hX
  go_wp2_with fail
  refine CRS.out.mono ?_
  rintro _ wF ⟨FF, rfl, hDF, hLF, hbF⟩
  have HBF := hid (HBE.out.trans hbF)
  have LVF := hid (hLF wF (Below.refl _ _))
  have HDF := hid hDF
  clear hDF hLF hbF CRS
  go_wp2_with fail
  refine LVF.out.mono ?_
  rintro _ wG ⟨rfl, hbG⟩
  have HBG := hid (HBF.out.trans (hbG.mono (Nat.le_trans HBW2.out HBF.out.size)))
  have HDG := hid (HDF.out.below hbG)
  clear hbG LVF HDF
  have OP2 := hid (opened_hs wG B FF p (SA.D.crashed ft) HDG.out (Nat.le_trans HBW2.out HBG.out.size) N sT oT (ma.map mdV ++ X) HHS.out 3000 (by omega) (by show SA.D.reads ≤ _; have := HCA.out.2.1; omega) (by show SA.D.writes ≤ _; have := HCA.out.2.2.1; omega) (by show SA.D.syncs ≤ _; have := HCA.out.2.2.2; omega) (by have := HGT.out; omega) (by show SA.D.epoch + 1 ≤ _; rw [HCA.out.1]; have := HX9.out.ep; omega) rfl r1)
  have k1 : wG.cell? ⟨w.heap.size, 1, none⟩ = some (.int .i64 r1) := by rw [cell_of_row _ _ _ _ _ _ (HRW.out wG HBG.out)]; rfl
  go_wp2_with fail
  refine OP2.out.mono ?_
  rintro _ wH ⟨ST, rfl, hXT, ⟨hvT, hpT, hsT⟩, hbH⟩
  have HBH := hid (HBG.out.trans hbH)
  have hlT : ST.vs.length = 0 := by rw [hvT]; rfl
  have hhT : ST.s.hd = sT.hd := by rw [hsT]
  generalize hst : ST.st = tt at *
  have HXT := hid hXT
  have HTT := hid hst
  have HPT := hid hpT
  have HVT := hid hvT
  have HLT := hid hlT
  have HHT := hid hhT
  clear hXT hvT hpT hsT hbH OP2 k1 hst hlT hhT
  obtain ⟨kx, hkx⟩ : ∃ kx, kx = X.length := ⟨_, rfl⟩
  have HKX := hid hkx
  have hkx2 : kx ≤ kb := by
    rcases HXK2.out with q | q
    · rw [hkx, q.2.1, List.length_map, HKB.out]; exact Nat.le_refl _
    · rw [hkx, q.2.1]; exact Nat.zero_le _
  have HLX := hid (show (ma.map mdV ++ X).length = ka + kx by rw [List.length_append, List.length_map, HKA.out, hkx])
  clear hkx
  go_upto_if 233 with fail
  go_cut [18, 19, 28] from 232 to 278 (fun s18 s19 s28 wx => R233 B N ka kx kc wr oT (ma.map mdV) X mc kept tt p s18 s19 s28 wx)
  case first => as_aux_lemma =>
    have NXT := hid (HXT.out.next (by rw [HLT.out]; omega) (2 + (ka : Int) + (kx : Int)) (by rw [HLX.out, HLT.out]; push_cast; omega))
    rw [HTT.out] at NXT
    have SUT := hid (fun wB (z : Below wH.heap.size wH wB) => oSuper_any wB B ST (HXT.out.sk.below z))
    rw [HTT.out] at SUT
    rcases HXK2.out with ⟨q1, q2, q3⟩ | ⟨q1, q2, q3⟩
    · subst q1
      have hx : kx = kb := by rw [HKX.out, q2, List.length_map, HKB.out]
      subst hx
      have hhT : ST.s.hd = th := by rw [HHT.out, q3]
      have HQ2 := hid q2
      clear q2 q3
      go_wp2_with fail
      refine NXT.out.mono ?_
      rintro _ wI ⟨rfl, hbI⟩
      have HBI := hid (HBH.out.trans (hbI.mono (Nat.le_trans HBW2.out HBH.out.size)))
      have HbI := hid hbI
      clear hbI NXT
      go_wp2_with fail
      refine (SUT.out wI HbI.out).mono ?_
      rintro _ wJ ⟨rfl, hbJ⟩
      have HbJ := hid (HbI.out.trans (hbJ.mono HbI.out.size))
      have HBJ := hid (HBI.out.trans (hbJ.mono (Nat.le_trans HBW2.out HBI.out.size)))
      clear hbJ SUT
      have hXJ := HXT.out.below HbJ.out
      have hkJ1 : ∀ i, i < ma.length → Kn ST (2 + 0 + i) (mdV (ma.getD i dM)) := fun i hi => kn_map (L1 := []) (L2 := X) (ms := ma) hXJ.hs 0 rfl i hi
      have hkJ2 : ∀ i, i < mb.length → Kn ST (2 + ka + i) (mdV (mb.getD i dM)) := fun i hi => kn_map (L1 := ma.map mdV) (L2 := []) (ms := mb) (by rw [List.append_nil, ← HQ2.out]; exact hXJ.hs) ka (by rw [List.length_map, HKA.out]) i hi
      have LDT := hXJ.loads (by omega) (by omega) (by rw [HVT.out]; simp) sp1 cap1 ma (HMa.out wJ HBJ.out) HOA.out 2 (by omega) (by rw [HKA.out]; omega) hkJ1
      rw [HKA.out, show ((2 : Nat) : Int) = 2 from rfl, HTT.out] at LDT
      replace LDT := hid LDT
      have HKJ2 := hid hkJ2
      clear hXJ hkJ1 hkJ2
      go_wp2_with (first | refine wpList_fieldW3 (by rfl) _ (by rfl) ST.s th hhT (by rfl) ?_)
      refine LDT.out.mono ?_
      rintro _ wK ⟨rfl, SK1, hXK, hvK, hqK, hkK, hbK⟩
      have HBK := hid (HBJ.out.trans hbK)
      have LDU := hXK.loads (by omega) (by omega) (by rw [hvK, HVT.out]; simp) sp2 cap2 mb (HMb.out wK HBK.out) HOB.out (2 + ka) (by omega) (by rw [HKB.out]; omega) (fun i hi => hkK _ _ (HKJ2.out i hi))
      rw [HKB.out, show ((2 + ka : Nat) : Int) = 2 + (ka : Int) by push_cast; rfl, show SK1.st = tt from hqK.1] at LDU
      replace LDU := hid LDU
      have HVK := hid (hvK.trans HVT.out)
      have HQK := hid hqK
      clear hXK hvK hqK hkK hbK LDT
      go_wp2_with fail
      refine LDU.out.mono ?_
      rintro _ wL ⟨rfl, SK2, hXL, hvL, hqL, hkL, hbL⟩
      have HBL := hid (HBK.out.trans hbL)
      have HXL := hid hXL
      have HVL := hid (hvL.trans HVK.out)
      have HQL := hid hqL
      clear hXL hvL hqL hkL hbL LDU
      go_wp2_with fail
      go_meet
      refine ⟨sp2, cap2, kx, mb, sp3, cap3, kc, mc, th, SK2, rfl, rfl, rfl, HKB.out, HKC.out, HMb.out, HMc.out, HOB.out, HOC.out, by omega, by omega, rfl, by rw [HQ2.out], Or.inl ⟨rfl, rfl⟩, HTH.out, HXL.out, HVL.out, HQL.out.1, HQL.out.2.1.trans (HQK.out.2.1.trans HPT.out), HBL.out⟩
    · subst q1
      have hx : kx = 0 := by rw [HKX.out, q2]; rfl
      subst hx
      have hhT : ST.s.hd = hd := by rw [HHT.out, q3]
      have HQ2 := hid q2
      rw [show 2 + (ka : Int) + ((0 : Nat) : Int) = 2 + (ka : Int) by omega] at NXT
      clear q2 q3
      go_wp2_with fail
      refine NXT.out.mono ?_
      rintro _ wI ⟨rfl, hbI⟩
      have HBI := hid (HBH.out.trans (hbI.mono (Nat.le_trans HBW2.out HBH.out.size)))
      have HbI := hid hbI
      clear hbI NXT
      go_wp2_with fail
      refine (SUT.out wI HbI.out).mono ?_
      rintro _ wJ ⟨rfl, hbJ⟩
      have HbJ := hid (HbI.out.trans (hbJ.mono HbI.out.size))
      have HBJ := hid (HBI.out.trans (hbJ.mono (Nat.le_trans HBW2.out HBI.out.size)))
      clear hbJ SUT
      have hXJ := HXT.out.below HbJ.out
      have hkJ1 : ∀ i, i < ma.length → Kn ST (2 + 0 + i) (mdV (ma.getD i dM)) := fun i hi => kn_map (L1 := []) (L2 := X) (ms := ma) hXJ.hs 0 rfl i hi
      have LDT := hXJ.loads (by omega) (by omega) (by rw [HVT.out]; simp) sp1 cap1 ma (HMa.out wJ HBJ.out) HOA.out 2 (by omega) (by rw [HKA.out]; omega) hkJ1
      rw [HKA.out, show ((2 : Nat) : Int) = 2 from rfl, HTT.out] at LDT
      replace LDT := hid LDT
      clear hXJ hkJ1
      go_wp2_with (first | refine wpList_fieldW3 (by rfl) _ (by rfl) ST.s hd hhT (by rfl) ?_)
      refine LDT.out.mono ?_
      rintro _ wK ⟨rfl, SK1, hXK, hvK, hqK, hkK, hbK⟩
      have HBK := hid (HBJ.out.trans hbK)
      have HXL := hid (hXK.more 3600 (by omega))
      have HVL := hid (hvK.trans HVT.out)
      have HQL := hid hqK
      clear hXK hvK hqK hkK hbK LDT
      go_wp2_with fail
      go_meet
      refine ⟨sp3, cap3, kc, mc, none, 0, 0, [], 0, SK1, rfl, rfl, rfl, HKC.out, rfl, HMc.out, fun w4 _ => mds_nil w4 B, HOC.out, fun i hi => absurd hi (by simp), by omega, by omega, by omega, by rw [HQ2.out]; simp, Or.inr ⟨rfl, rfl⟩, Or.inl rfl, HXL.out, HVL.out, HQL.out.1, HQL.out.2.1.trans HPT.out, HBK.out⟩
  case rest =>
  obtain ⟨sp4, cap4, k4, m4, sp5, cap5, k5, m5, th2, SK2, rfl, rfl, rfl, hm4, hm5, hM4, hM5, hO4, hO5, hk4, hk5, hk45, hX45, hkm, hth2, hXK, hvK, hstK, hpK, hbK⟩ := hcut
  obtain ⟨wK, hwK⟩ : ∃ wK, wK = wc := ⟨_, rfl⟩
  subst hwK
  have HM4L := hid hm4
  have HM5L := hid hm5
  have HM4 := hid hM4
  have HM5 := hid hM5
  have HO4 := hid hO4
  have HO5 := hid hO5
  have HX45 := hid hX45
  have HKM := hid hkm
  have HTH2 := hid hth2
  have HXK := hid hXK
  have HVK := hid hvK
  have HSTK := hid hstK
  have HPK := hid hpK
  have HBK := hid hbK
  have hlK : SK2.vs.length = 0 := by rw [hvK]; rfl
  have STK := hXK.staged (by omega) 0 (by rw [hlK]; rfl)
  have NXK := hXK.next (by omega) (2 + (ka : Int) + (kx : Int)) (by rw [HLX.out, hlK]; push_cast; omega)
  rw [hstK] at STK NXK
  replace STK := hid STK
  replace NXK := hid NXK
  clear hm4 hm5 hM4 hM5 hO4 hO5 hX45 hkm hth2 hXK hvK hstK hpK hbK hlK
  go_wp2_with fail
  refine STK.out.mono ?_
  rintro _ wx ⟨rfl, hw⟩
  obtain rfl := hw
  clear STK
  go_wp2_with fail
  refine NXK.out.mono ?_
  rintro _ wL ⟨rfl, hbL⟩
  have HBL2 := hid (HBK.out.trans (hbL.mono (Nat.le_trans HBW2.out HBK.out.size)))
  have STG3 := hid (fun (sp : Option Addr) (cap : Nat) (m : List MD) (hm : m = mc) (hM : ∀ w4, Below B wr w4 → Mds w4 B sp m) => (HXK.out.below hbL).stages (by omega) (by omega) HVK.out sp cap m (hM wL HBL2.out) (by rw [hm]; exact HOC.out) (2 + ka + kx) (by rw [HLX.out]; omega) (by rw [hm, HKC.out]; omega) (by rw [hm, HKC.out]; omega))
  clear hbL NXK
  go_upto_region 54 with fail
  go_cut [302] from 284 to 302 (fun s302 wx => R54 B N wr oT (ma.map mdV ++ X) mc tt p s302 wx)
  case first => as_aux_lemma =>
    rcases HKM.out with ⟨q1, q2⟩ | ⟨q1, q2⟩
    · subst q1
      have S3 := STG3.out sp5 cap5 m5 q2 HM5.out
      rw [HM5L.out, HSTK.out, show ((2 + ka + kx : Nat) : Int) = 2 + (ka : Int) + (kx : Int) by push_cast; rfl, q2] at S3
      replace S3 := hid S3
      clear q2
      go_wp2_with fail
      refine S3.out.mono ?_
      rintro _ wM ⟨rfl, SM, hXM, hvM, hqM, hbM⟩
      have R1 := hid hXM
      have R2 := hid hvM
      have R3 := hid (show SM.st = tt ∧ SM.p = p from And.intro hqM.1 (hqM.2.1.trans HPK.out))
      have R4 := hid (HBL2.out.trans hbM)
      clear hXM hvM hqM hbM
      go_wp2_with fail
      go_meet
      exact ⟨rfl, SM, R1.out, R2.out, R3.out.1, R3.out.2, R4.out⟩
    · subst q1
      have S3 := STG3.out sp4 cap4 m4 q2 HM4.out
      rw [HM4L.out, HSTK.out, show ((2 + ka + kx : Nat) : Int) = 2 + (ka : Int) + (kx : Int) by push_cast; rfl, q2] at S3
      replace S3 := hid S3
      clear q2
      go_wp2_with fail
      refine S3.out.mono ?_
      rintro _ wM ⟨rfl, SM, hXM, hvM, hqM, hbM⟩
      have R1 := hid hXM
      have R2 := hid hvM
      have R3 := hid (show SM.st = tt ∧ SM.p = p from And.intro hqM.1 (hqM.2.1.trans HPK.out))
      have R4 := hid (HBL2.out.trans hbM)
      clear hXM hvM hqM hbM
      go_wp2_with fail
      go_meet
      exact ⟨rfl, SM, R1.out, R2.out, R3.out.1, R3.out.2, R4.out⟩
  case rest =>
  obtain ⟨rfl, SM, hXM, hvM, hstM, hpM, hbM⟩ := hcut
  obtain ⟨wM, hwM⟩ : ∃ wM, wM = wc := ⟨_, rfl⟩
  subst hwM
  have HBM := hid hbM
  have hlM : SM.vs.length = kc := by rw [hvM, List.length_map, HKC.out]
  have FL3 := hXM.flush (by omega) (by rw [HLX.out, hlM]; omega) th2 (by rw [HLX.out, hlM]; have := HTH2.out; push_cast; omega) (by rw [hlM]; omega)
  rw [hstM, hvM, List.append_assoc, HX45.out, ← List.append_assoc] at FL3
  replace FL3 := hid FL3
  have HPM := hid hpM
  clear hXM hvM hstM hpM hbM hlM STG3
  go_wp2_with fail
  refine FL3.out.mono ?_
  rintro _ wN ⟨rfl, SN, hXN, hvN, hqN, hbN⟩
  have HBN := hid (HBM.out.trans hbN)
  have hpN : SN.p = p := hqN.2.1.trans HPM.out
  have OP3 := opened_hs wN B SN.F SN.p SN.D hXN.sk.da (Nat.le_trans HBW2.out HBN.out.size) N SN.s SM.s (ma.map mdV ++ m4.map mdV ++ m5.map mdV) hXN.hs 5000 (by omega) (by have := hXN.rd; omega) (by have := hXN.wr; omega) (by have := hXN.sy; omega) (by have := hXN.ge; omega) (by have := hXN.ep; omega) hXN.ar r2
  rw [hpN] at OP3
  replace OP3 := hid OP3
  have k2 : wN.cell? ⟨w.heap.size, 2, none⟩ = some (.int .i64 r2) := by rw [cell_of_row _ _ _ _ _ _ (HRW.out wN HBN.out)]; rfl
  have HHN := hid (show SN.s.hd = th2 by rw [hqN.2.2.2.1])
  clear hXN hvN hqN hbN hpN FL3
  go_wp2_with fail
  refine OP3.out.mono ?_
  rintro _ wO ⟨SU, rfl, hXU, ⟨hvU, hpU, hsU⟩, hbO⟩
  have HBO := hid (HBN.out.trans hbO)
  have hhU : SU.s.hd = th2 := by rw [hsU]; exact HHN.out
  have hkU1 : ∀ i, i < ma.length → Kn SU (2 + 0 + i) (mdV (ma.getD i dM)) := fun i hi => kn_map (L1 := []) (L2 := m4.map mdV ++ m5.map mdV) (ms := ma) (by rw [List.nil_append, ← List.append_assoc]; exact hXU.hs) 0 rfl i hi
  have hkU2 : ∀ i, i < m4.length → Kn SU (2 + ka + i) (mdV (m4.getD i dM)) := fun i hi => kn_map (L1 := ma.map mdV) (L2 := m5.map mdV) (ms := m4) hXU.hs ka (by rw [List.length_map, HKA.out]) i hi
  have hkU3 : ∀ i, i < m5.length → Kn SU (2 + (ka + k4) + i) (mdV (m5.getD i dM)) := fun i hi => kn_map (L1 := ma.map mdV ++ m4.map mdV) (L2 := []) (ms := m5) (by rw [List.append_nil]; exact hXU.hs) (ka + k4) (by rw [List.length_append, List.length_map, List.length_map, HKA.out, HM4L.out]) i hi
  have LU1 := hXU.loads (by omega) (by omega) (by rw [hvU]; simp) sp1 cap1 ma (HMa.out wO HBO.out) HOA.out 2 (by omega) (by rw [HKA.out]; omega) hkU1
  generalize hst : SU.st = uu at *
  rw [HKA.out, show ((2 : Nat) : Int) = 2 from rfl] at LU1
  replace LU1 := hid LU1
  have HKU2 := hid hkU2
  have HKU3 := hid hkU3
  have HVU := hid hvU
  have HHU := hid hhU
  clear hXU hvU hpU hsU hbO OP3 k2 hkU1 hkU2 hkU3 hst hhU
  go_wp2_with fail
  refine LU1.out.mono ?_
  rintro _ wP ⟨rfl, SP, hXP, hvP, hqP, hkP, hbP⟩
  have HBP := hid (HBO.out.trans hbP)
  have LU2 := hXP.loads (by omega) (by omega) (by rw [hvP, HVU.out]; simp) sp4 cap4 m4 (HM4.out wP HBP.out) HO4.out (2 + ka) (by omega) (by rw [HM4L.out]; omega) (fun i hi => hkP _ _ (HKU2.out i hi))
  rw [HM4L.out, show SP.st = uu from hqP.1, show ((2 + ka : Nat) : Int) = 2 + (ka : Int) by push_cast; rfl] at LU2
  replace LU2 := hid LU2
  have HVP := hid (hvP.trans HVU.out)
  have HSP := hid hqP.2.2.2.1
  have HKP3 := hid (fun i (hi : i < m5.length) => hkP _ _ (HKU3.out i hi))
  clear hXP hvP hqP hkP hbP LU1
  go_wp2_with fail
  refine LU2.out.mono ?_
  rintro _ wQ ⟨rfl, SQ, hXQ, hvQ, hqQ, hkQ, hbQ⟩
  have HBQ := hid (HBP.out.trans hbQ)
  have LU3 := hXQ.loads (by omega) (by omega) (by rw [hvQ, HVP.out]; simp) sp5 cap5 m5 (HM5.out wQ HBQ.out) HO5.out (2 + (ka + k4)) (by omega) (by rw [HM5L.out]; omega) (fun i hi => hkQ _ _ (HKP3.out i hi))
  rw [show SQ.st = uu from hqQ.1, show ((2 + (ka + k4) : Nat) : Int) = 2 + (ka : Int) + (k4 : Int) by push_cast; omega, HM5L.out] at LU3
  replace LU3 := hid LU3
  have HVQ := hid (hvQ.trans HVP.out)
  have HSQ := hid (hqQ.2.2.2.1.trans HSP.out)
  clear hXQ hvQ hqQ hkQ hbQ LU2
  go_wp2_with fail
  refine LU3.out.mono ?_
  rintro _ wR ⟨rfl, SR, hXR, hvR, hqR, _, hbR⟩
  have HBR := hid (HBQ.out.trans hbR)
  have NXR := hXR.next (by rw [hvR, HVQ.out]; simp) (2 + (ka : Int) + (k4 : Int) + (k5 : Int)) (by rw [hvR, HVQ.out, List.length_append, List.length_append, List.length_map, List.length_map, List.length_map, HKA.out, HM4L.out, HM5L.out]; push_cast; simp; omega)
  have SUR := hid (fun wB (z : Below wR.heap.size wR wB) => oSuper_any wB B SR (hXR.sk.below z))
  rw [show SR.st = uu from hqR.1] at NXR SUR
  replace NXR := hid NXR
  have hhR : SR.s.hd = th2 := by rw [hqR.2.2.2.1, HSQ.out]; exact HHU.out
  clear hXR hvR hqR hbR LU3
  go_wp2_with fail
  refine NXR.out.mono ?_
  rintro _ wS ⟨rfl, hbS⟩
  have HBS2 := hid (HBR.out.trans (hbS.mono (Nat.le_trans HBW2.out HBR.out.size)))
  have HbS := hid hbS
  clear hbS NXR
  go_wp2_with fail
  refine (SUR.out wS HbS.out).mono ?_
  rintro _ wT ⟨rfl, hbT⟩
  have HBT := hid (HBS2.out.trans (hbT.mono (Nat.le_trans HBW2.out HBS2.out.size)))
  clear hbT SUR
  go_wp2_with (first | refine wpList_fieldW3 (by rfl) _ (by rfl) SR.s th2 hhR (by rfl) ?_)
  go_ret
  exact ⟨rfl, HBA.out ▸ HBl.out wT HBT.out⟩
end Go.Proofs.Ytepeiclagalnaaa
