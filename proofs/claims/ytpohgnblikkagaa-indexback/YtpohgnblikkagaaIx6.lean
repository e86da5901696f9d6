import Derived.Test.YtpohgnblikkagaaIx5
namespace Go.Proofs.Ytpohgnblikkagaa
set_option linter.unusedVariables false
set_option linter.unusedSimpArgs false
open Go.RowKit
attribute [local go_sem ↓] Go.wp_at_zero Go.wp_at_succ

theorem built_keeper : Try.prog.built 36 [] = some #[.slice none 0 0, .slice none 0 0] := by kernel_rfl
theorem RS.begin {w0 w : World} (hb : Below w0.heap.size w0 w) (ex : List Value) (rows : List (Nat × List Value × Nat)) (hr : ∀ x ∈ rows, w0.heap.size ≤ x.1 ∧ w.heap[x.1]? = some (.cells x.2.1.toArray x.2.2 (0, 0)) ∧ Plain x.2.2) :
    RS w0 (w.alloc (.cells #[.slice none 0 0, .slice none 0 0] 36)) w.heap.size 0 ex rows := by
  have h1 := hnew w (.cells #[.slice none 0 0, .slice none 0 0] 36)
  refine ⟨hb.alloc hb.size _, ⟨.slice none 0 0, .slice none 0 0, [], [], [], ⟨⟨hb.size, h1, OwnK.nil _ _, OwnK.nil _ _, DjB.nil _⟩, rfl, rfl, fun i hi => by simp at hi, fun i hi => by simp at hi, fun i j _ hj => by simp at hj⟩, Nat.le_refl _, fun r => by simp, fun x hx r hr => by simp at hr⟩, fun x hx => ?_⟩
  exact ⟨(hr x hx).1, hold (hr x hx).2.1, (hr x hx).2.2⟩
def xor1 (b : Int) : Int := bits .xor .u8 b 1
theorem xor1_ne : ∀ b : Int, 0 ≤ b → b < 256 → xor1 b ≠ b := by
  intro b h0 h1
  obtain ⟨n, rfl⟩ := Int.eq_ofNat_of_zero_le h0
  have : ∀ n : Nat, n < 256 → xor1 (n : Int) ≠ (n : Int) := by decide +kernel
  exact this n (by omega)
theorem RS.keepN {w0 w : World} {B N n : Nat} {ex : List Value} {rows : List (Nat × List Value × Nat)} {sp : Option Addr} {cap : Nat} {ys : List Int} (hn : ys.length = n) (h : RS w0 w B N (.slice sp n cap :: ex) rows) (hN : N ≤ 100000000) (ho : Own w w0.heap.size (.slice sp n cap) ys) (hlen : n ≤ 1000000) (hd : ∀ y ∈ ex, DjB (.slice sp n cap) y) :
    Calls Try.prog 7 #[.pointer (some ⟨B, 0, none⟩), .slice sp n cap] w fun e w' => e = .returned (.tuple #[]) ∧ RS w0 w' B (N + 1) ex rows ∧ TF w w' ∧ w.heap.size ≤ w'.heap.size := by
  subst hn
  exact h.keep hN ho (by omega) hd
theorem Own.formN {w : World} {base n : Nat} {v : Value} {zs : List Int} (h : Own w base v zs) (hn : zs.length = n) : ∃ sp cap, v = .slice sp n cap ∧ Src w sp cap zs ∧ (sp = none → cap = 0) := by
  subst hn
  exact h.form
theorem sameN (w : World) (n : Nat) (zs ys : List Int) (hz : zs.length = n) (hy : ys.length = n) (sp tp : Option Addr) (cap dap : Nat) (hS : Src w sp cap zs) (hT : Src w tp dap ys) :
    Calls Try.prog 8 #[.slice sp n cap, .slice tp n dap] w fun e w' => e = .returned (.bool (decide (zs = ys))) ∧ Below w.heap.size w w' := by
  have := sameBytes_any w zs ys sp tp cap dap hS hT
  rwa [hz, hy] at this
theorem four_bys (x : Int) : Bys (four x) := fun y hy => by
  simp only [four, List.mem_cons, List.not_mem_nil, or_false] at hy
  rcases hy with rfl | rfl | rfl | rfl <;> omega
theorem bys_app {a b : List Int} (ha : Bys a) (hb : Bys b) : Bys (a ++ b) := fun x hx => (List.mem_append.1 hx).elim (ha x) (hb x)
theorem load_bys {x : Rc} (h : Bys x.sm) : Bys (loadR x) := bys_app (four_bys _) (bys_app (four_bys _) (bys_app (four_bys _) (bys_app (four_bys _) (bys_app (four_bys _) (bys_app (four_bys _) h)))))
def othR (x : Rc) : Rc := ⟨x.v, x.f, x.p, x.s, x.r, x.c, x.sm.set 31 (xor1 (x.sm.getD 31 0))⟩
theorem othR_ok {x : Rc} (ok : RcOk x) : RcOk (othR x) := ⟨by simp [othR, ok.sm]⟩
theorem othR_right {x : Rc} (h : RightR x) : RightR (othR x) := h
theorem othR_ne {x : Rc} (ok : RcOk x) (hy : Bys x.sm) : loadR (othR x) ≠ loadR x := fun h => by
  unfold loadR othR at h
  simp only [List.append_cancel_left_eq] at h
  have hl := ok.sm
  have e := congrArg (fun l => l.getD 31 0) h
  simp only [List.getD_eq_getElem?_getD] at e
  rw [List.getElem?_set_self (by omega)] at e
  exact xor1_ne _ (hy.at 31 (by omega)).1 (hy.at 31 (by omega)).2 (by rw [List.getD_eq_getElem?_getD]; exact e)
theorem rcC_set (x : Rc) (y : Int) : (rcC x).set 37 (.int .u8 y) = rcC ⟨x.v, x.f, x.p, x.s, x.r, x.c, x.sm.set 31 y⟩ := by
  unfold rcC
  rw [List.set_append_right 37 _ (by simp)]
  simp [ints]
theorem rcC_37 {x : Rc} (ok : RcOk x) : (rcC x)[37]? = some (.int .u8 (x.sm.getD 31 0)) := rcC_sm x 31 _ (ints_get .u8 _ 31 (by rw [ok.sm]; decide))
set_option maxRecDepth 100000 in
set_option maxHeartbeats 4000000 in
theorem indexBack_any (w : World) (x : Rc) (ok : RcOk x) (hys : Bys x.sm) (t : List Int) (hy : Bys t) (sp : Option Addr) (cap : Nat) (hS : Src w sp cap t) :
    Calls Try.prog 3 #[.agg (rcC x).toArray, .slice sp t.length cap] w fun e w' => e = .returned (.bool true) ∧ Below w.heap.size w w' := by
  have AR := hid allocRc
  have PLr := hid (show Plain 25 from ⟨by decide, by decide⟩)
  have L0 := hid (show (rcC rc0).length = 38 from rfl)
  have O0 := hid (rcC_one rc0)
  have BZ := hid built_rc0
  have BKp := hid built_keeper
  have d0 := (BK.nil w).alloc (rcC x) 25
  have LX := hid (rcC_len ok)
  have OX := hid (rcC_one x)
  have SX := hid (show (Try.prog.info? 25).map (·.size) = some (rcC x).toArray.size by rw [Try.sizeRc, List.size_toArray, rcC_len ok])
  have KL := hid (fun w1 => lright_any w1 x ok)
  have r0 := d0.row (.head _)
  have e1 := hS.1
  have e2 := hS.2.1
  unfold maxLen at e2
  have i0 : (t.length : Int) ≤ 9223372036854775807 := by omega
  by_cases hr : RightR x
  · rw [decide_eq_true hr] at KL
    have KE := hid (fun w1 => iencode_yes w1 x ok hr)
    have KO := hid (fun w1 => iencode_yes w1 (othR x) (othR_ok ok) (othR_right hr))
    have NE := hid (othR_ne ok hys)
    have KD := hid (fun w1 sp cap (h : Src w1 sp cap (loadR x)) => idecode_any w1 (loadR x) (load_bys hys) sp cap h)
    have eV : decRV (loadR x) = x := by unfold decRV; rw [dec_loadR ok hr]; rfl
    have eE : decRE (loadR x) = 0 := by unfold decRE; rw [dec_loadR ok hr]; rfl
    rw [eV, eE, loadR_len ok] at KD
    clear eV eE
    have LL := hid (loadR_len ok)
    have LO := hid (loadR_len (othR_ok ok))
    have qX := eqRc x ok
    have gR := Try.guardRc
    have KSET : (rcC x).set 37 (.int .u8 (xor1 (x.sm.getD 31 0))) = rcC (othR x) := rcC_set x _
    have KSET := hid KSET
    have K37 := hid (rcC_37 ok)
    have SO := hid (show (Try.prog.info? 25).map (·.size) = some (rcC (othR x)).toArray.size by rw [Try.sizeRc, List.size_toArray, rcC_len (othR_ok ok)])
    have b37 := hys.at 31 (by rw [ok.sm]; decide)
    have HX1 := hid (show bits .xor .u8 (x.sm.getD 31 0) 1 = xor1 (x.sm.getD 31 0) from rfl)
    generalize rcC (othR x) = CO at *
    generalize hx1 : xor1 (x.sm.getD 31 0) = y1 at *
    clear hx1
    generalize x.sm.getD 31 0 = y0 at *
    generalize loadR (othR x) = LDO at *
    generalize loadR x = LD at *
    generalize hC : rcC x = C at *
    clear hC
    go_enter Try.func3, Try.ntmps3
    go_wp2_with (first | refine wpList_load_row_w (by rfl) 25 _ (by rfl) w.heap.size (by rfl) 25 _ _ _ r0 Try.underlying25 rfl SX.out ?_)
    refine (KE.out _).mono ?_
    rintro e w1 ⟨vl, rfl, hOl, hb1⟩
    have d1 := d0.call hb1
    have Ol := own_base hOl (d0.1.size)
    obtain ⟨sl, cl, rfl, Sl, nl⟩ := Ol.formN LL.out
    have r1 := d1.row (.head _)
    clear r0
    go_wp2_with (first | refine wpList_load_row_w (by rfl) 25 _ (by rfl) w.heap.size (by rfl) 25 _ _ _ r1 Try.underlying25 rfl SX.out ?_)
    refine (KL.out _).mono ?_
    rintro e w2 ⟨rfl, hb2⟩
    have d2 := d1.call hb2
    have Ol := Ol.below hb2 (Nat.le_refl _)
    have Sl := Sl.below hb2 (Nat.le_refl _)
    clear r1
    go_wp2_with fail
    refine (KD.out _ _ _ Sl).mono ?_
    rintro e w3 ⟨rfl, hb3⟩
    have d3 := d2.call hb3
    have Ol := Ol.below hb3 (Nat.le_refl _)
    go_wp2_with (first
      | (refine wpList_new AR.out L0.out Try.sizeRc rfl rfl rfl _ _ rfl rfl C rfl rfl LX.out OX.out ?_; refine Hid.out ?_))
    refine hid ?_
    have d4 := d3.alloc C 25
    have Ol := own_pushes Ol (.cells C.toArray 25)
    have r4 := d4.row (.head _)
    have q4 := d4.row (.tail _ (.head _))
    have g4 : w.heap.size < w3.heap.size := d3.lt (.head _)
    go_wp2_with (first
      | refine wpList_load_row_w (by rfl) 25 _ (by rfl) w3.heap.size (by rfl) 25 _ _ _ r4 Try.underlying25 rfl SX.out ?_
      | refine wpList_load_row_w (by rfl) 25 _ (by rfl) w.heap.size (by rfl) 25 _ _ _ q4 Try.underlying25 rfl SX.out ?_
      | (refine wpList_built (by rfl) 36 _ rfl _ rfl _ BKp.out ?_; refine Hid.out ?_))
    refine hid ?_
    generalize (w3.alloc (.cells C.toArray 25)) = w4 at *
    have R0 := RS.begin d4.1 [.slice sl 56 cl] [(w.heap.size, C, 25)] (fun y hy => by
      simp only [List.mem_cons, List.not_mem_nil, or_false] at hy
      subst hy
      exact ⟨Nat.le_refl _, q4, PLr.out⟩)
    have OlK := own_pushes Ol (.cells #[.slice none 0 0, .slice none 0 0] 36)
    have KK := hid (R0.keepN LL.out (by omega) OlK (by omega) (fun y hy => by cases hy))
    clear r4 q4 R0
    have zB : w.heap.size < w4.heap.size := d4.lt (.tail _ (.head _))
    go_wp2_with fail
    refine KK.out.mono ?_
    rintro e w5 ⟨rfl, R5, t5, z5⟩
    generalize w4.heap.size = KB at *
    have Ol := own_tf OlK t5
    clear OlK KK t5 z5
    have r5 := R5.row (.head _)
    have hg5 := hlt r5
    go_wp2_with (first
      | refine wpList_load_row_w (by rfl) 25 _ (by rfl) w.heap.size (by rfl) 25 _ _ _ r5 Try.underlying25 rfl SX.out ?_
      | (refine wpList_new AR.out L0.out Try.sizeRc rfl rfl rfl _ _ rfl rfl C rfl rfl LX.out OX.out ?_; refine Hid.out ?_))
    refine hid ?_
    have R6 := R5.alloc C 25 PLr.out
    have Ol := own_pushes Ol (.cells C.toArray 25)
    clear r5 R5
    generalize w5.alloc (.cells C.toArray 25) = w6 at *
    generalize w5.heap.size = g at *
    have c37 := R6.cell (.head _) K37.out
    have fz : w6.frozen? ⟨g, 37, none⟩ = false := frozen_of_row _ _ _ _ _ (R6.row (.head _))
    have R7 := R6.set (by decide) (fun y hy => by simp at hy; subst hy; exact Nat.ne_of_lt hg5) 37 (.int .u8 (bits .xor .u8 y0 1))
    rw [HX1.out, KSET.out] at R7
    have Ol7 : Own (w6.setCell ⟨g, 37, none⟩ (.int .u8 y1)) w.heap.size (.slice sl 56 cl) LD := Ol.of_heap (fun k hk => heap_setCell_other w6 _ k _ (by
      intro e
      obtain ⟨_, _, cs, hc⟩ := own_blk Ol hk
      have := R6.row (.head _)
      rw [show k = g from e, this] at hc
      cases hc))
    go_wp2_with fail
    have hgw : w6.heap.size = (w6.setCell ⟨g, 37, none⟩ (.int .u8 y1)).heap.size := by simp
    clear c37 fz R6 Ol hb1 hb2 hb3 d0 d1 d2 d3 d4 hOl Sl
    try rw [HX1.out]
    generalize (w6.setCell ⟨g, 37, none⟩ (.int .u8 y1)) = w7 at *
    go_loopw [11, 12, 13, 14, 15] (fun i _ _ _ _ wr => ∃ k : Nat, k ≤ 4 ∧ i = .int .i64 k ∧ RS w wr KB (1 + 2 * k) [] [(g, CO, 25), (w.heap.size, C, 25)] ∧ Own wr w.heap.size (.slice sl 56 cl) LD) (fun i _ _ _ _ _ => 4 - (intOf i).toNat)
    case atStart => exact ⟨0, by omega, rfl, R7, Ol7⟩
    case round =>
      clear R7 Ol7
      obtain ⟨k, hk, rfl, hR, Ol⟩ := hrel
      by_cases hlt4 : k < 4
      · have i4 : (k : Int) < 4 := by omega
        have rn := hR.row (.tail _ (.head _))
        go_wp2_with (first | refine wpList_load_row_w (by rfl) 25 _ (by rfl) w.heap.size (by rfl) 25 _ _ _ rn Try.underlying25 rfl SX.out ?_)
        refine (KE.out _).mono ?_
        rintro e w1 ⟨v1, rfl, hO1, hb1⟩
        obtain ⟨s1, c1, rfl, S1, n1⟩ := hO1.formN LL.out
        have R1 := hR.new hb1 hO1
        have O1 := own_base hO1 hR.bel.size
        have Ol := Ol.below hb1 (Nat.le_refl _)
        have hz1 := hb1.size
        have ro := R1.row (.head _)
        clear hR rn
        go_wp2_with (first | refine wpList_load_row_w (by rfl) 25 _ (by rfl) g (by rfl) 25 _ _ _ ro Try.underlying25 rfl SO.out ?_)
        refine (KO.out _).mono ?_
        rintro e w2 ⟨v2, rfl, hO2, hb2⟩
        obtain ⟨s2, c2, rfl, S2, n2⟩ := hO2.formN LO.out
        have R2 := R1.new hb2 hO2
        have O2 := own_base hO2 R1.bel.size
        have D12 := djb_lt O1 hO2 (Nat.le_refl _)
        have O1 := O1.below hb2 (Nat.le_refl _)
        have S1 := S1.below hb2 (Nat.le_refl _)
        have Ol := Ol.below hb2 (Nat.le_refl _)
        obtain ⟨sl', cl', el, Sl, _⟩ := Ol.formN LL.out
        cases el
        have K1 := hid (sameN w2 56 LD LD LL.out LL.out s1 sl c1 cl S1 Sl)
        rw [decide_eq_true rfl] at K1
        clear R1 ro
        go_wp2_with fail
        refine K1.out.mono ?_
        rintro e w3 ⟨rfl, hb3⟩
        have R3 := R2.call hb3
        have O1 := O1.below hb3 (Nat.le_refl _)
        have O2 := O2.below hb3 (Nat.le_refl _)
        have Ol := Ol.below hb3 (Nat.le_refl _)
        have S2 := S2.below hb3 (Nat.le_refl _)
        have Sl := Sl.below hb3 (Nat.le_refl _)
        have K2 := hid (sameN w3 56 LDO LD LO.out LL.out s2 sl c2 cl S2 Sl)
        rw [decide_eq_false NE.out] at K2
        clear R2 K1 S1
        go_wp2_with fail
        refine K2.out.mono ?_
        rintro e w8 ⟨rfl, hb8⟩
        have R8 := (R3.call hb8).sub (ex' := [.slice s1 56 c1, .slice s2 56 c2]) (fun x h => by simp at h ⊢; exact h.symm) (fun x h => h)
        have O1 := O1.below hb8 (Nat.le_refl _)
        have O2 := O2.below hb8 (Nat.le_refl _)
        have Ol := Ol.below hb8 (Nat.le_refl _)
        have KK1 := hid (R8.keepN LL.out (by omega) O1 (by omega) (fun y hy => by simp at hy; subst hy; exact D12))
        clear R3 K2 S2 Sl R8
        go_wp2_with fail
        refine KK1.out.mono ?_
        rintro e w9 ⟨rfl, R9, t9, z9⟩
        have O2 := own_tf O2 t9
        have Ol := own_tf Ol t9
        have KK2 := hid (R9.keepN LO.out (by omega) O2 (by omega) (fun y hy => by cases hy))
        clear KK1 R9
        go_wp2_with fail
        refine KK2.out.mono ?_
        rintro e wa ⟨rfl, Ra, ta, za⟩
        have Ol := own_tf Ol ta
        have Ra := Ra.mono (show 1 + 2 * k + 1 + 1 ≤ 1 + 2 * (k + 1) by omega)
        clear KK2
        go_wp2
        go_roundw
        case rel => exact ⟨k + 1, by omega, by go_num, Ra, Ol⟩
        case measure => simp [intOf]; omega
      · obtain rfl : k = 4 := by omega
        have KU := hid (hR.untouched (by omega))
        go_wp2_with fail
        refine KU.out.mono ?_
        rintro e wb ⟨rfl, hbb⟩
        have Rb := hR.call hbb
        have KA := hid (Rb.apart (by omega))
        clear KU
        go_wp2_with fail
        refine KA.out.mono ?_
        rintro e wc ⟨rfl, hbc⟩
        have WB := Rb.bel.trans hbc
        clear KA Rb hR Ol hbb hbc
        have TS := hid (hS.below WB (Nat.le_refl _))
        go_wp2_with fail
        refine (idecode_any _ t hy sp cap TS.out).mono ?_
        rintro e wt1 ⟨rfl, hbt1⟩
        have BT1 := WB.trans (hbt1.mono WB.size)
        clear TS
        cases hdt : decR t with
        | none =>
          have eV : decRV t = rc0 := by unfold decRV; rw [hdt]; rfl
          have eE : decRE t = 150 := by unfold decRE; rw [hdt]; rfl
          rw [eV, eE]
          have eq0 := eqRc rc0 rc0_ok
          have gR := Try.guardRc
          generalize rcC rc0 = C0 at *
          go_wp2_with (first
            | (refine wpList_new AR.out L0.out Try.sizeRc rfl rfl rfl _ _ rfl rfl C0 rfl rfl L0.out O0.out ?_; refine Hid.out ?_))
          refine hid ?_
          have BT2 := BT1.alloc BT1.size (.cells C0.toArray 25)
          have rt := hnew wt1 (.cells C0.toArray 25)
          have SR := hid (show (Try.prog.info? 25).map (·.size) = some C0.toArray.size by rw [Try.sizeRc, List.size_toArray, L0.out])
          go_wp2_with (first
            | refine wpList_load_row_w (by rfl) 25 _ (by rfl) wt1.heap.size (by rfl) 25 _ _ _ rt Try.underlying25 rfl SR.out ?_
            | refine wpList_built (by rfl) 25 _ rfl _ rfl _ BZ.out ?_)
          go_ret
          exact ⟨rfl, BT2⟩
        | some y =>
          obtain ⟨hry, oky, hl56, hrd⟩ := decR_right hdt
          have eV : decRV t = y := by unfold decRV; rw [hdt]; rfl
          have eE : decRE t = 0 := by unfold decRE; rw [hdt]; rfl
          have hly := load_decR hy hdt
          rw [eV, eE]
          clear hrd hdt eV eE hl56
          have KE := hid (fun w1 => iencode_yes w1 y oky hry)
          have KL := hid (fun w1 => lright_any w1 y oky)
          rw [decide_eq_true hry] at KL
          rw [hly] at KE
          have LY := hid (rcC_len oky)
          have OY := hid (rcC_one y)
          generalize rcC y = CY at *
          go_wp2_with (first
            | (refine wpList_new AR.out L0.out Try.sizeRc rfl rfl rfl _ _ rfl rfl CY rfl rfl LY.out OY.out ?_; refine Hid.out ?_))
          refine hid ?_
          have BT2 := BT1.alloc BT1.size (.cells CY.toArray 25)
          have rt := hnew wt1 (.cells CY.toArray 25)
          have zt := hlt rt
          have SR := hid (show (Try.prog.info? 25).map (·.size) = some CY.toArray.size by rw [Try.sizeRc, List.size_toArray, LY.out])
          go_wp2_with (first
            | refine wpList_load_row_w (by rfl) 25 _ (by rfl) wt1.heap.size (by rfl) 25 _ _ _ rt Try.underlying25 rfl SR.out ?_)
          refine (KE.out _).mono ?_
          rintro e wt3 ⟨vt, rfl, hOt, hbt3⟩
          obtain ⟨st, ct, rfl, St, nt⟩ := hOt.form
          have BT3 := BT2.trans (hbt3.mono BT2.size)
          have rt := hbel hbt3 rt zt
          have zt := hlt rt
          go_wp2_with (first
            | refine wpList_load_row_w (by rfl) 25 _ (by rfl) wt1.heap.size (by rfl) 25 _ _ _ rt Try.underlying25 rfl SR.out ?_)
          refine (KL.out _).mono ?_
          rintro e wt4 ⟨rfl, hbt4⟩
          have BT4 := BT3.trans (hbt4.mono BT3.size)
          have St := St.below hbt4 (Nat.le_refl _)
          have TS := hS.below BT4 (Nat.le_refl _)
          clear rt
          go_wp2_with fail
          refine (same_self wt4 t st sp ct cap St TS).mono ?_
          rintro e wt5 ⟨rfl, hbt5⟩
          have BT5 := BT4.trans (hbt5.mono BT4.size)
          go_wp2
          go_ret
          exact ⟨rfl, BT5⟩
  · rw [decide_eq_false hr] at KL
    have KE := hid (fun w1 => iencode_no w1 x ok hr)
    generalize rcC x = C at *
    go_enter Try.func3, Try.ntmps3
    go_wp2_with (first | refine wpList_load_row_w (by rfl) 25 _ (by rfl) w.heap.size (by rfl) 25 _ _ _ r0 Try.underlying25 rfl SX.out ?_)
    refine (KE.out _).mono ?_
    rintro e w1 ⟨rfl, hb1⟩
    have d1 := d0.call hb1
    have r1 := d1.row (.head _)
    clear r0
    go_wp2_with (first | refine wpList_load_row_w (by rfl) 25 _ (by rfl) w.heap.size (by rfl) 25 _ _ _ r1 Try.underlying25 rfl SX.out ?_)
    refine (KL.out _).mono ?_
    rintro e w2 ⟨rfl, hb2⟩
    have WB := (d1.call hb2).1
    clear r1 d1 d0
    have TS := hid (hS.below WB (Nat.le_refl _))
    go_wp2_with fail
    refine (idecode_any _ t hy sp cap TS.out).mono ?_
    rintro e wt1 ⟨rfl, hbt1⟩
    have BT1 := WB.trans (hbt1.mono WB.size)
    clear TS
    cases hdt : decR t with
    | none =>
      have eV : decRV t = rc0 := by unfold decRV; rw [hdt]; rfl
      have eE : decRE t = 150 := by unfold decRE; rw [hdt]; rfl
      rw [eV, eE]
      have eq0 := eqRc rc0 rc0_ok
      have gR := Try.guardRc
      generalize rcC rc0 = C0 at *
      go_wp2_with (first
        | (refine wpList_new AR.out L0.out Try.sizeRc rfl rfl rfl _ _ rfl rfl C0 rfl rfl L0.out O0.out ?_; refine Hid.out ?_))
      refine hid ?_
      have BT2 := BT1.alloc BT1.size (.cells C0.toArray 25)
      have rt := hnew wt1 (.cells C0.toArray 25)
      have SR := hid (show (Try.prog.info? 25).map (·.size) = some C0.toArray.size by rw [Try.sizeRc, List.size_toArray, L0.out])
      go_wp2_with (first
        | refine wpList_load_row_w (by rfl) 25 _ (by rfl) wt1.heap.size (by rfl) 25 _ _ _ rt Try.underlying25 rfl SR.out ?_
        | refine wpList_built (by rfl) 25 _ rfl _ rfl _ BZ.out ?_)
      go_ret
      exact ⟨rfl, BT2⟩
    | some y =>
      obtain ⟨hry, oky, hl56, hrd⟩ := decR_right hdt
      have eV : decRV t = y := by unfold decRV; rw [hdt]; rfl
      have eE : decRE t = 0 := by unfold decRE; rw [hdt]; rfl
      have hly := load_decR hy hdt
      rw [eV, eE]
      clear hrd hdt eV eE hl56
      have KE := hid (fun w1 => iencode_yes w1 y oky hry)
      have KL := hid (fun w1 => lright_any w1 y oky)
      rw [decide_eq_true hry] at KL
      rw [hly] at KE
      have LY := hid (rcC_len oky)
      have OY := hid (rcC_one y)
      generalize rcC y = CY at *
      go_wp2_with (first
        | (refine wpList_new AR.out L0.out Try.sizeRc rfl rfl rfl _ _ rfl rfl CY rfl rfl LY.out OY.out ?_; refine Hid.out ?_))
      refine hid ?_
      have BT2 := BT1.alloc BT1.size (.cells CY.toArray 25)
      have rt := hnew wt1 (.cells CY.toArray 25)
      have zt := hlt rt
      have SR := hid (show (Try.prog.info? 25).map (·.size) = some CY.toArray.size by rw [Try.sizeRc, List.size_toArray, LY.out])
      go_wp2_with (first
        | refine wpList_load_row_w (by rfl) 25 _ (by rfl) wt1.heap.size (by rfl) 25 _ _ _ rt Try.underlying25 rfl SR.out ?_)
      refine (KE.out _).mono ?_
      rintro e wt3 ⟨vt, rfl, hOt, hbt3⟩
      obtain ⟨st, ct, rfl, St, nt⟩ := hOt.form
      have BT3 := BT2.trans (hbt3.mono BT2.size)
      have rt := hbel hbt3 rt zt
      have zt := hlt rt
      go_wp2_with (first
        | refine wpList_load_row_w (by rfl) 25 _ (by rfl) wt1.heap.size (by rfl) 25 _ _ _ rt Try.underlying25 rfl SR.out ?_)
      refine (KL.out _).mono ?_
      rintro e wt4 ⟨rfl, hbt4⟩
      have BT4 := BT3.trans (hbt4.mono BT3.size)
      have St := St.below hbt4 (Nat.le_refl _)
      have TS := hS.below BT4 (Nat.le_refl _)
      clear rt
      go_wp2_with fail
      refine (same_self wt4 t st sp ct cap St TS).mono ?_
      rintro e wt5 ⟨rfl, hbt5⟩
      have BT5 := BT4.trans (hbt5.mono BT4.size)
      go_wp2
      go_ret
      exact ⟨rfl, BT5⟩
end Go.Proofs.Ytpohgnblikkagaa
