import Derived.Test.YtbjahdbmkcamoaaGreatDoorNj
namespace Go.Proofs.YtbjahdbmkcamoaaGreatDoor
set_option linter.unusedVariables false
set_option linter.unusedSimpArgs false
open Go.RowKit
attribute [local go_sem ↓] Go.wp_at_zero Go.wp_at_succ

theorem cell_ck {w : World} {cb : Nat} {C : List Value} {t : TypeId} {fr : Nat × Nat} (h : w.heap[cb]? = some (.cells C.toArray t fr)) {j : Nat} {v : Value} (hv : C[j]? = some v) : w.cell? ⟨cb, j, none⟩ = some v := by
  rw [cell_of_row _ _ _ _ _ _ h, List.getElem?_toArray]; exact hv
theorem rng_ck {w : World} {cb o : Nat} {C : List Value} {t : TypeId} {fr : Nat × Nat} (h : w.heap[cb]? = some (.cells C.toArray t fr)) {zs : List Value} (hz : ∀ j x, zs[j]? = some x → C[o + j]? = some x) : w.rangeAt cb o zs := fun j x hx => by
  rw [cell_of_row _ _ _ _ _ _ h, List.getElem?_toArray]; exact hz j x hx
theorem keeps_two {g : Nat} {w3 wr w4 : World} {w : World} {cb : Nat} (hK : Keeps cb w w3) (hr : Keeps g w3 wr) (hb : Below wr.heap.size wr w4) (hg : w.heap.size ≤ g) : Keeps cb w w4 :=
  ⟨hb.os.trans (hr.os.trans hK.os), hb.tape.trans (hr.tape.trans hK.tape), hb.output.trans (hr.output.trans hK.output), Nat.le_trans hK.size (Nat.le_trans hr.size hb.size), fun k hk hne => by
    have h1 := Nat.lt_of_lt_of_le hk hK.size
    have h2 := Nat.lt_of_lt_of_le h1 hr.size
    rw [hb.block k h2, hr.block k h1 (by omega), hK.block k hk hne]⟩
theorem ne_tyC {w : World} {a b : Nat} {x y : Array Value} {t u : TypeId} {f f' : Nat × Nat} (ha : w.heap[a]? = some (.cells x t f)) (hb : w.heap[b]? = some (.cells y u f')) (h : t ≠ u) : a ≠ b := by
  intro e; subst e; rw [ha] at hb
  simp only [Option.some.injEq, Obj.cells.injEq] at hb
  exact h hb.2.1
set_option maxRecDepth 100000 in
set_option maxHeartbeats 4000000 in
theorem digests_any (w : World) (cb b0 : Nat) (n : Nat) (hn : n ≤ 32) (root ks : List Int) (hr : root.length = 32) (hk : ks.length = 32) (ge : Nat) (rv : Value) (p : Pf) (ok : PfOk p) (y : PfY p) (hw : WellP p) (s1 s2 : Option Addr) (c1 c2 : Nat) (bv : Value)
    (hc : w.heap[cb]? = some (.cells (ckC n root ks (.slice (some ⟨ge, 0, none⟩) 256 256) rv (pfC p (.slice s1 p.vs.length c1) (.slice s2 p.ss.length c2)) bv).toArray 64 (0, 0)))
    (he : w.heap[ge]? = some (.cells (ints .u8 (emps n 256).flatten).toArray 28 (0, 0))) (hO : OwnD w b0 (.slice s2 p.ss.length c2) p.ss) :
    Calls Tryz.prog 42 #[.pointer (some ⟨cb, 0, none⟩)] w fun en w' => ∃ g c, en = .returned (.int .i64 (digE n p 256)) ∧
      w'.heap[cb]? = some (.cells (ckC n root ks (.slice (some ⟨ge, 0, none⟩) 256 256) rv (pfC p (.slice s1 p.vs.length c1) (.slice s2 p.ss.length c2)) (.slice (some ⟨g, 0, none⟩) 256 c)).toArray 64 (0, 0)) ∧ w.heap.size ≤ g ∧
      (digE n p 256 = 0 → OwnD w' w.heap.size (.slice (some ⟨g, 0, none⟩) 256 c) (nears n p)) ∧ Keeps cb w w' := by
  have hPl := pfC_len ok (.slice s1 p.vs.length c1) (.slice s2 p.ss.length c2)
  have hel := hid (emps_len n 256)
  have hem := emps_mem n 256
  have eg := hid (fun h (hh : h < 256) => emps_get n 256 h hh)
  have b0' := hid (besH_zero n p)
  have b256 := hid (besH_full n p)
  have bse := hid (fun h hh => besH_set n p h hh)
  have bsa := hid (fun h hb => besH_same n p h hb)
  have bln := hid (fun h => besH_len n p h)
  have d00 := hid (show digE n p 0 = 0 from rfl)
  have ds0 := hid (fun h => digE_s0 (k := n) (p := p) (h := h))
  have ds1 := hid (fun h => digE_s1 (k := n) (p := p) (h := h))
  have ds2 := hid (fun h => digE_s2 (k := n) (p := p) (h := h))
  have ds3 := hid (fun h => digE_s3 (k := n) (p := p) (h := h))
  have dse := hid (fun h e => digE_end (k := n) (p := p) (h := h) (e := e))
  have hkn := kept_nat n hn
  rw [hkn] at ds1 ds2 ds3
  have nb1 := hid (fun h (hb : bitB p.bs h = 1) => show nbr n p h = p.ss.getD (lft p.bs h) [] by unfold nbr; rw [if_pos hb])
  have hed := hid (fun h => emptyD_len (n : Int) h)
  generalize emps (n : Int) 256 = EM at *
  generalize nears (n : Int) p = NE at *
  generalize digE (n : Int) p = DE at *
  generalize besH (n : Int) p = BH at *
  generalize nbr (n : Int) p = NB at *
  generalize emptyD (n : Int) = ED at *
  have hcb := hlt hc
  have hge := hlt he
  have c33 := cell_ck hc (ckC_e hr)
  have KC := hid (fun w1 h => cloneD_any w1 EM hem ge 256 h (by rw [hel.out]; omega))
  rw [hel.out] at KC
  have SB := hid (fun v => ckC_setb (k := n) (e := .slice (some ⟨ge, 0, none⟩) 256 256) (r := rv) (b := bv) (c := v) hr hk hPl)
  have C0 := hid (fun b => ckC_tm (k := n) (root := root) (ks := ks) (e := .slice (some ⟨ge, 0, none⟩) 256 256) (r := rv) (b := b) (pc := pfC p (.slice s1 p.vs.length c1) (.slice s2 p.ss.length c2)))
  have C33 := hid (fun b => ckC_e (k := n) (ks := ks) (e := .slice (some ⟨ge, 0, none⟩) 256 256) (r := rv) (b := b) (pc := pfC p (.slice s1 p.vs.length c1) (.slice s2 p.ss.length c2)) hr)
  have CS := hid (fun b => ckC_p (k := n) (e := .slice (some ⟨ge, 0, none⟩) 256 256) (r := rv) (b := b) hr hk 34 _ (pfC_s ok (.slice s1 p.vs.length c1) (.slice s2 p.ss.length c2)))
  have CB := hid (fun b j x (hx : (ints .u8 p.bs)[j]? = some x) => ckC_p (k := n) (e := .slice (some ⟨ge, 0, none⟩) 256 256) (r := rv) (b := b) hr hk (2 + j) _ (pfC_b p (.slice s1 p.vs.length c1) (.slice s2 p.ss.length c2) j x hx))
  have hLC := fun b => ckC_len (k := n) (e := .slice (some ⟨ge, 0, none⟩) 256 256) (r := rv) (b := b) hr hk hPl
  have C102 := hid (fun b => ckC_b (k := n) (e := .slice (some ⟨ge, 0, none⟩) 256 256) (r := rv) (b := b) hr hk hPl)
  have LT := hid (show (Tryz.prog.info? 57).map (·.size) = some (tmC n root (.slice (some ⟨ge, 0, none⟩) 256 256)).length by rw [Tryz.sizeTm, tmC_len hr])
  have KF := hid (fun w1 d (hd : d.length = 32) => fits_any w1 n hn root d hr hd (.slice (some ⟨ge, 0, none⟩) 256 256))
  generalize ckC n root ks (.slice (some ⟨ge, 0, none⟩) 256 256) rv (pfC p (.slice s1 p.vs.length c1) (.slice s2 p.ss.length c2)) = CC at *
  generalize tmC n root (.slice (some ⟨ge, 0, none⟩) 256 256) = TM at *
  have hss : ∀ k, Value.ownBlock (.slice s2 p.ss.length c2) = some k → k ≠ cb := fun k e => by
    obtain ⟨_, cur, hh⟩ := ownsRow_block hO.2 k e
    exact ne_tyC hh hc (by decide)
  go_enter Tryz.func42, Tryz.ntmps42
  go_wp2_with fail
  refine (KC.out _ he).mono ?_
  rintro en w2 ⟨v2, rfl, hO2, hB2⟩
  obtain ⟨g, c, cur2, hv2, hg2, hh2⟩ : ∃ g c cur, v2 = .slice (some ⟨g, 0, none⟩) 256 c ∧ w.heap.size ≤ g ∧ w2.heap[g]? = some (.cells cur 28 (0, 0)) := by
    obtain ⟨_, _, ⟨rfl, hh⟩ | ⟨g, cap, cur, rfl, hg, hh, _⟩⟩ := hO2
    · rw [hel.out] at hh; cases hh
    · exact ⟨g, cap, cur, by rw [hel.out], hg, hh⟩
  subst hv2
  have hc2 := hbel hB2 hc hcb
  have hO' := hO.below hB2 (Nat.le_refl _)
  have he2 := hbel hB2 he hge
  have LC := hid (hLC bv)
  go_wp2_with (first | (refine wpList_storeC rfl 48 _ _ rfl cb 102 (.slice (some ⟨g, 0, none⟩) 256 c) rfl rfl (CC bv) 64 hc2 (by rw [LC.out]; decide) Tryz.sizeDs rfl rfl ?_; rw [SB.out]; refine Hid.out ?_))
  refine hid ?_
  have hc3 := setRow_heap _ _ _ (CC (.slice (some ⟨g, 0, none⟩) 256 c)).toArray _ _ hc2
  have hK3 : Keeps cb w (w2.setRow cb (CC (.slice (some ⟨g, 0, none⟩) 256 c)).toArray) := (Keeps.of_below hB2).setRow _
  have hgcb : g ≠ cb := by omega
  have hgb : ∀ k, k ≠ cb → (w2.setRow cb (CC (.slice (some ⟨g, 0, none⟩) 256 c)).toArray).heap[k]? = w2.heap[k]? := fun k hk => setRow_other _ cb k _ hk
  have hgcb' : ge ≠ cb := ne_tyC he hc (by decide)
  have hO3 := hO'.of_heap (fun k e => hgb k (hss k e))
  have hD3 := hO2.of_heap (fun k e => hgb k (by simp only [Value.ownBlock, Option.some.injEq] at e; subst e; exact hgcb))
  have he3 := (hgb ge hgcb').trans he2
  have hgl : g < (w2.setRow cb (CC (.slice (some ⟨g, 0, none⟩) 256 c)).toArray).heap.size := by
    have h1 := (hgb g hgcb).trans hh2; exact hlt h1
  have c101 := cell_ck hc3 (CS.out _)
  have c102 := cell_ck hc3 (C102.out _)
  have hgs : g ≠ ge := by omega
  have hsg : ∀ k, Value.ownBlock (.slice s2 p.ss.length c2) = some k → k ≠ g := fun k e => by have := (hO.block k e).2; omega
  clear hO' hB2 hc2 he2 hO2 hh2 KC SB hc he c33 hO hgb
  generalize (w2.setRow cb (CC (.slice (some ⟨g, 0, none⟩) 256 c)).toArray) = w3 at *
  go_wp2_with fail
  have hX3 : SrcX g w3 s2 c2 p.ss := by
    obtain ⟨sp4, cap4, e4, S4, _⟩ := hO3.form
    cases e4
    refine ⟨S4, fun b o e hl => hsg b ?_⟩
    rw [e]; rfl
  have hL0 : lft p.bs 0 = 0 := rfl
  have HD0 : OwnD w3 w.heap.size (.slice (some ⟨g, 0, none⟩) 256 c) (BH 0) := by rw [b0'.out]; exact hD3
  have KS := hid (fun h (hh : h < 256) (hb : bitB p.bs h = 1) => show lft p.bs h < p.ss.length by rw [hw.num]; exact lft_lt y.bs ok.bs hh hb)
  have HBY := hid (fun h (hh : h < 256) => y.bs.at (h / 8) (by rw [ok.bs]; omega))
  have HBI := hid (fun h (hh : h < 256) => CB.out (.slice (some ⟨g, 0, none⟩) 256 c) (h / 8) _ (ints_get .u8 p.bs (h / 8) (by rw [ok.bs]; omega)))
  have HE := hid (fun h (hh : h < 256) (w1 : World) (hr1 : w1.heap[ge]? = some (.cells (ints .u8 EM.flatten).toArray 28 (0, 0))) => show w1.rangeAt ge (h * 32) (ints .u8 (ED h)) by
    have h1 := srcD_row hr1 hem 256 (by rw [hel.out]; omega) (by simp [maxLen])
    obtain ⟨_, _, _, b, o, _, h4, h5⟩ := h1
    have e := h4 (by rw [hel.out]; omega)
    simp only [Option.some.injEq, Addr.mk.injEq] at e
    obtain ⟨rfl, rfl, -⟩ := e
    have := h5 h (by rw [hel.out]; omega)
    rw [eg.out h hh, Nat.zero_add] at this
    exact this)
  have hssl := hid (fun h (hh : h < 256) (hb : bitB p.bs h = 1) => ok.ss (p.ss.getD (lft p.bs h) []) (by rw [List.getD_eq_getElem?_getD, List.getElem?_eq_getElem (by rw [hw.num]; exact lft_lt y.bs ok.bs hh hb)]; exact List.getElem_mem _))
  clear hO3 hD3 c101 c102 CB hsg hss
  go_loopw [3, 4, 24] (fun s3 _ iv wr => ∃ h : Nat, h ≤ 256 ∧ iv = .int .i64 h ∧ DE h = 0 ∧ (∃ sp' cap', s3 = .slice sp' (p.ss.drop (lft p.bs h)).length cap' ∧ SrcX g wr sp' cap' (p.ss.drop (lft p.bs h))) ∧ OwnD wr w.heap.size (.slice (some ⟨g, 0, none⟩) 256 c) (BH h) ∧ Keeps g w3 wr) (fun _ _ iv _ => 256 - (intOf iv).toNat)
  case atStart => exact ⟨0, by omega, rfl, d00.out, ⟨s2, c2, by rw [hL0]; rfl, by rw [hL0]; exact hX3⟩, HD0, Keeps.refl _ _⟩
  case round =>
    clear HD0 hX3 d00 b0' hL0
    obtain ⟨h, hh, rfl, hD0, ⟨sp', cap', rfl, hX⟩, hOr, hKr⟩ := hrel
    have hcr := hKr.heap hc3 (Ne.symm hgcb)
    have her := hKr.heap he3 (Ne.symm hgs)
    have hcbr := hlt hcr
    have hger := hlt her
    by_cases hlt' : h < 256
    · have i1 : (h : Int) < 256 := by omega
      have hx := HBY.out h hlt'
      have c69 : wr.cell? ⟨cb, 69 + h / 8, none⟩ = some (.int .u8 (p.bs.getD (h / 8) 0)) := by
        have := cell_ck hcr (HBI.out h hlt')
        rwa [← Nat.add_assoc] at this
      have HS := shr8_bd hx.1 hx.2 (h % 8)
      have HA1 := and_one8 HS.1 HS.2
      have HA2 : p.bs.getD (h / 8) 0 / 2 ^ (h % 8) % 2 = bitB p.bs h := rfl
      rw [HA2] at HA1
      clear HA2 HS
      generalize hxx : p.bs.getD (h / 8) 0 = x at *
      clear hxx
      rcases bitB_01 p.bs h with hb | hb
      · rw [hb] at HA1
        have HR := hid (show BH (h + 1) = BH h from bsa.out h hb)
        have HDn := hid (ds0.out h hD0 hb)
        have HL := hid (lft_s0 hb)
        have HX := hid hX
        generalize hM : (p.ss.drop (lft p.bs h)).length = m at *
        have HM := hid hM
        clear hM hX
        go_wp2
        go_roundw
        case rel => exact ⟨h + 1, by omega, by go_num, HDn.out, ⟨sp', cap', by rw [HL.out, HM.out], by rw [HL.out]; exact HX.out⟩, by rw [HR.out]; exact hOr, hKr⟩
        case measure => simp [intOf]; omega
      · rw [hb] at HA1
        have hl := KS.out h hlt' hb
        have HL := hid (lft_s1 hb)
        have hdl := hssl.out h hlt' hb
        have HDf := hid (fun hf => dse.out h 120 hlt' (by decide) (ds1.out h hD0 hb hf))
        have HDe := hid (fun hf he => dse.out h 130 hlt' (by decide) (ds2.out h hD0 hb hf he))
        have HDn := hid (fun hf he => ds3.out h hD0 hb hf he)
        have HN := hid (nb1.out h hb)
        have hcut := ss_cut p.ss (lft p.bs h) hl
        rw [← HL.out] at hcut
        rw [hcut] at hX
        rw [hcut]
        obtain ⟨bs, os, rfl, hbs, hbg, hrd⟩ := hX.first
        have hcap : (p.ss.drop (lft p.bs (h + 1))).length + 1 ≤ cap' := by have := hX.1.1; rwa [List.length_cons] at this
        have hcm : (cap' : Int) ≤ 9223372036854775807 := by have := hX.1.2.1; unfold maxLen at this; omega
        have hX2 := hid hX.tail
        have SL := hid (fun w1 => slD w1 (some ⟨bs, os, none⟩) (p.ss.drop (lft p.bs (h + 1))).length cap' hcap)
        rw [List.length_cons]
        have KFd := hid (fun w1 => KF.out w1 _ hdl)
        have hed' := hed.out h
        have RT : wr.rangeAt cb 0 TM := rng_ck hcr (C0.out _)
        have r33 : wr.cell? ⟨cb, 33, none⟩ = some (.slice (some ⟨ge, 0, none⟩) 256 256) := cell_ck hcr (C33.out _)
        have r102 : wr.cell? ⟨cb, 102, none⟩ = some (.slice (some ⟨g, 0, none⟩) 256 c) := cell_ck hcr (C102.out _)
        have RE := HE.out h hlt' wr her
        have RE0 : wr.rangeAt ge (0 + h * 32) (ints .u8 (ED h)) := by rw [Nat.zero_add]; exact RE
        have hbl := bln.out h
        have LD := hid (show (Tryz.prog.info? 28).map (·.size) = some (ints .u8 (p.ss.getD (lft p.bs h) [])).length by rw [Tryz.sizeD, ints_len, hdl])
        have LE := hid (show (Tryz.prog.info? 28).map (·.size) = some (ints .u8 (ED h)).length by rw [Tryz.sizeD, ints_len, hed'])
        have OS := hid (fun (w1 : World) (hO1 : OwnD w1 w.heap.size (.slice (some ⟨g, 0, none⟩) 256 c) (BH h)) => hO1.store h (by rw [hbl]; omega) _ hdl)
        have BS := hid (bse.out h hlt')
        rw [HN.out] at BS
        clear hX hcut KF KS hssl nb1 hed HBY HBI HE bln bse bsa dse ds0 ds1 ds2 ds3 hl eg
        generalize hM : (p.ss.drop (lft p.bs (h + 1))).length = m at *
        have HM := hid hM
        clear hM
        generalize hd : p.ss.getD (lft p.bs h) [] = d at *
        clear hd
        generalize hE : ED h = e at *
        clear hE
        have hSx := fun w1 => SL.out w1
        by_cases hf : fitB n d = false
        · have HF := hid (HDf.out hf)
          rw [hf] at KFd
          clear HDf HDe HDn SL OS BS hX2
          go_wp2_with fail
          refine wp_region_noPanic ?_
          refine wp_region_held_drew (S := (fun w' => Below wr.heap.size wr w')) (by kernel_rfl) (Below.refl _ _).drew (fun hHeld => ?_)
          refine wpAnyH_take (i := 0) (oi := { dst := some 40, op := Op.move (Operand.tmp 0), type := 60, pos := "check.go:100", after := #[], guard := none }) (v := .pointer (some ⟨cb, 0, none⟩)) rfl (by kernel_rfl) (by kernel_rfl) (by kernel_rfl) (fun _ _ _ h => h) (Or.inl ⟨by rfl, by intro w hS; go_simp⟩) hHeld ?_
          try simp only [Act.put, List.setIfInBounds_toArray, List.set_cons_zero, List.set_cons_succ]
          refine wpAnyH_take (i := 4) (oi := { dst := some 44, op := Op.move (Operand.tmp 3), type := 48, pos := "check.go:100", after := #[], guard := none }) (v := .slice (some ⟨bs, os, none⟩) (m + 1) cap') rfl (by kernel_rfl) (by kernel_rfl) (by kernel_rfl) (fun _ _ _ h => h) (Or.inl ⟨by rfl, by intro w hS; go_simp⟩) hHeld ?_
          try simp only [Act.put, List.setIfInBounds_toArray, List.set_cons_zero, List.set_cons_succ]
          refine wpAnyH_take (i := 1) (oi := { dst := some 41, op := Op.nilCheck (Operand.tmp 40), type := 0, pos := "check.go:100", after := #[{ on := 0, ground := Ground.data }], guard := none }) (v := .pointer (some ⟨cb, 0, none⟩)) rfl (by kernel_rfl) (by kernel_rfl) (by kernel_rfl) (fun _ _ _ h => h) (Or.inl ⟨by rfl, by intro w hS; go_simp⟩) hHeld ?_
          try simp only [Act.put, List.setIfInBounds_toArray, List.set_cons_zero, List.set_cons_succ]
          refine wpAnyH_take (i := 5) (oi := { dst := some 45, op := Op.indexAddr 48 (Operand.tmp 44) (Operand.const (Value.int IntKind.i64 0)), type := 0, pos := "check.go:100", after := #[{ on := 4, ground := Ground.data }], guard := none }) (v := .pointer (some ⟨bs, os, none⟩)) rfl (by kernel_rfl) (by kernel_rfl) (by kernel_rfl) (fun _ _ _ h => h) (Or.inl ⟨by rfl, by intro w hS; go_simp⟩) hHeld ?_
          try simp only [Act.put, List.setIfInBounds_toArray, List.set_cons_zero, List.set_cons_succ]
          refine wpAnyH_take (i := 2) (oi := { dst := some 42, op := Op.fieldAddr 64 (Operand.tmp 41) 0, type := 0, pos := "check.go:100", after := #[{ on := 1, ground := Ground.data }], guard := none }) (v := .pointer (some ⟨cb, 0, none⟩)) rfl (by kernel_rfl) (by kernel_rfl) (by kernel_rfl) (fun _ _ _ h => h) (Or.inl ⟨by rfl, by intro w hS; go_simp⟩) hHeld ?_
          try simp only [Act.put, List.setIfInBounds_toArray, List.set_cons_zero, List.set_cons_succ]
          refine wpAnyH_take (i := 6) (oi := { dst := some 46, op := Op.load 28 (Operand.tmp 45), type := 28, pos := "check.go:100", after := #[{ on := 5, ground := Ground.data }], guard := none }) (v := .agg (ints .u8 d).toArray) rfl (by kernel_rfl) (by kernel_rfl) (by kernel_rfl) (fun _ _ _ h => h) (yieldsIf_load_mid (by rfl) 28 _ rfl bs (os) rfl (ints .u8 d) _ (fun w hS => rng_below hrd hS hbs) Tryz.underlying28 rfl LD.out) hHeld ?_
          try simp only [Act.put, List.setIfInBounds_toArray, List.set_cons_zero, List.set_cons_succ]
          refine wpAnyH_take (i := 3) (oi := { dst := some 43, op := Op.load 57 (Operand.tmp 42), type := 57, pos := "check.go:100", after := #[{ on := 2, ground := Ground.data }], guard := none }) (v := .agg (TM).toArray) rfl (by kernel_rfl) (by kernel_rfl) (by kernel_rfl) (fun _ _ _ h => h) (yieldsIf_load_mid (by rfl) 57 _ rfl cb (0) rfl (TM) _ (fun w hS => rng_below RT hS hcbr) Tryz.underlying57 rfl LT.out) hHeld ?_
          try simp only [Act.put, List.setIfInBounds_toArray, List.set_cons_zero, List.set_cons_succ]
          refine wpAnyH_ready (rs := [7]) (by kernel_rfl) (by simp) ?_
          refine (AllReadyH.cons (o := { dst := some 47, op := Op.call { callee := Callee.value (Operand.func 71), args := #[Operand.tmp 43, Operand.tmp 46], argTypes := #[57, 28] }, type := 4, pos := "check.go:100", after := #[{ on := 3, ground := Ground.data }, { on := 6, ground := Ground.data }], guard := none }) rfl (fun K hK => ?_) AllReadyH.nil)
          go_simp
          go_at_call 71
          refine (KFd.out _).mono ?_
          rintro e w4 ⟨rfl, hb4⟩
          go_wp2_with fail
          refine hK.out _ _ (hHeld.trans (hb4.mono hHeld.size)) (fun hHeld2 => ?_)
          clear hK K hHeld
          have hHeld := hHeld2
          clear hHeld2
          have hb5 := hb4
          clear hb4
          try simp only [Act.put, List.setIfInBounds_toArray, List.set_cons_zero, List.set_cons_succ]
          refine wpAnyH_take (i := 8) (oi := { dst := some 48, op := Op.unOp UnOp.not 4 (Operand.tmp 47), type := 4, pos := "check.go:100", after := #[{ on := 7, ground := Ground.data }], guard := none }) (v := .bool true) rfl (by kernel_rfl) (by kernel_rfl) (by kernel_rfl) (fun _ _ _ h => h) (Or.inl ⟨by rfl, by intro w hS; go_simp⟩) hHeld ?_
          try simp only [Act.put, List.setIfInBounds_toArray, List.set_cons_zero, List.set_cons_succ]
          refine wpAnyH_done (by kernel_rfl) ?_ _
          refine NoPanic.normal ?_
          go_wp2_with fail
          go_ret
          exact ⟨g, c, by rw [HF.out]; rfl, hbel hHeld hcr hcbr, hg2, fun q => absurd (HF.out.symm.trans q) (by decide), keeps_two hK3 hKr hHeld hg2⟩
        · have hf' : fitB n d = true := by simpa using hf
          rw [hf'] at KFd
          have gD := Tryz.guardD
          by_cases he : d = e
          · have HF := hid (HDe.out hf' he)
            have qE : ∀ w1 : World, (Op.equalIn 10000 28 (.agg (ints .u8 d).toArray) (.agg (ints .u8 e).toArray)).run Tryz.prog w1 = .ok true w1 := fun w1 => by rw [← he]; exact eqD_self d hdl w1
            clear HDf HDe HDn SL OS BS hX2
            have HE2 := hid he
            clear he
            go_wp2_with fail
            refine wp_region_noPanic ?_
            refine wp_region_held_drew (S := (fun w' => Below wr.heap.size wr w')) (by kernel_rfl) (Below.refl _ _).drew (fun hHeld => ?_)
            refine wpAnyH_take (i := 0) (oi := { dst := some 40, op := Op.move (Operand.tmp 0), type := 60, pos := "check.go:100", after := #[], guard := none }) (v := .pointer (some ⟨cb, 0, none⟩)) rfl (by kernel_rfl) (by kernel_rfl) (by kernel_rfl) (fun _ _ _ h => h) (Or.inl ⟨by rfl, by intro w hS; go_simp⟩) hHeld ?_
            try simp only [Act.put, List.setIfInBounds_toArray, List.set_cons_zero, List.set_cons_succ]
            refine wpAnyH_take (i := 4) (oi := { dst := some 44, op := Op.move (Operand.tmp 3), type := 48, pos := "check.go:100", after := #[], guard := none }) (v := .slice (some ⟨bs, os, none⟩) (m + 1) cap') rfl (by kernel_rfl) (by kernel_rfl) (by kernel_rfl) (fun _ _ _ h => h) (Or.inl ⟨by rfl, by intro w hS; go_simp⟩) hHeld ?_
            try simp only [Act.put, List.setIfInBounds_toArray, List.set_cons_zero, List.set_cons_succ]
            refine wpAnyH_take (i := 1) (oi := { dst := some 41, op := Op.nilCheck (Operand.tmp 40), type := 0, pos := "check.go:100", after := #[{ on := 0, ground := Ground.data }], guard := none }) (v := .pointer (some ⟨cb, 0, none⟩)) rfl (by kernel_rfl) (by kernel_rfl) (by kernel_rfl) (fun _ _ _ h => h) (Or.inl ⟨by rfl, by intro w hS; go_simp⟩) hHeld ?_
            try simp only [Act.put, List.setIfInBounds_toArray, List.set_cons_zero, List.set_cons_succ]
            refine wpAnyH_take (i := 5) (oi := { dst := some 45, op := Op.indexAddr 48 (Operand.tmp 44) (Operand.const (Value.int IntKind.i64 0)), type := 0, pos := "check.go:100", after := #[{ on := 4, ground := Ground.data }], guard := none }) (v := .pointer (some ⟨bs, os, none⟩)) rfl (by kernel_rfl) (by kernel_rfl) (by kernel_rfl) (fun _ _ _ h => h) (Or.inl ⟨by rfl, by intro w hS; go_simp⟩) hHeld ?_
            try simp only [Act.put, List.setIfInBounds_toArray, List.set_cons_zero, List.set_cons_succ]
            refine wpAnyH_take (i := 2) (oi := { dst := some 42, op := Op.fieldAddr 64 (Operand.tmp 41) 0, type := 0, pos := "check.go:100", after := #[{ on := 1, ground := Ground.data }], guard := none }) (v := .pointer (some ⟨cb, 0, none⟩)) rfl (by kernel_rfl) (by kernel_rfl) (by kernel_rfl) (fun _ _ _ h => h) (Or.inl ⟨by rfl, by intro w hS; go_simp⟩) hHeld ?_
            try simp only [Act.put, List.setIfInBounds_toArray, List.set_cons_zero, List.set_cons_succ]
            refine wpAnyH_take (i := 6) (oi := { dst := some 46, op := Op.load 28 (Operand.tmp 45), type := 28, pos := "check.go:100", after := #[{ on := 5, ground := Ground.data }], guard := none }) (v := .agg (ints .u8 d).toArray) rfl (by kernel_rfl) (by kernel_rfl) (by kernel_rfl) (fun _ _ _ h => h) (yieldsIf_load_mid (by rfl) 28 _ rfl bs (os) rfl (ints .u8 d) _ (fun w hS => rng_below hrd hS hbs) Tryz.underlying28 rfl LD.out) hHeld ?_
            try simp only [Act.put, List.setIfInBounds_toArray, List.set_cons_zero, List.set_cons_succ]
            refine wpAnyH_take (i := 3) (oi := { dst := some 43, op := Op.load 57 (Operand.tmp 42), type := 57, pos := "check.go:100", after := #[{ on := 2, ground := Ground.data }], guard := none }) (v := .agg (TM).toArray) rfl (by kernel_rfl) (by kernel_rfl) (by kernel_rfl) (fun _ _ _ h => h) (yieldsIf_load_mid (by rfl) 57 _ rfl cb (0) rfl (TM) _ (fun w hS => rng_below RT hS hcbr) Tryz.underlying57 rfl LT.out) hHeld ?_
            try simp only [Act.put, List.setIfInBounds_toArray, List.set_cons_zero, List.set_cons_succ]
            refine wpAnyH_ready (rs := [7]) (by kernel_rfl) (by simp) ?_
            refine (AllReadyH.cons (o := { dst := some 47, op := Op.call { callee := Callee.value (Operand.func 71), args := #[Operand.tmp 43, Operand.tmp 46], argTypes := #[57, 28] }, type := 4, pos := "check.go:100", after := #[{ on := 3, ground := Ground.data }, { on := 6, ground := Ground.data }], guard := none }) rfl (fun K hK => ?_) AllReadyH.nil)
            go_simp
            go_at_call 71
            refine (KFd.out _).mono ?_
            rintro e w4 ⟨rfl, hb4⟩
            go_wp2_with fail
            refine hK.out _ _ (hHeld.trans (hb4.mono hHeld.size)) (fun hHeld2 => ?_)
            clear hK K hHeld
            have hHeld := hHeld2
            clear hHeld2
            have hb5 := hb4
            clear hb4
            try simp only [Act.put, List.setIfInBounds_toArray, List.set_cons_zero, List.set_cons_succ]
            refine wpAnyH_take (i := 8) (oi := { dst := some 48, op := Op.unOp UnOp.not 4 (Operand.tmp 47), type := 4, pos := "check.go:100", after := #[{ on := 7, ground := Ground.data }], guard := none }) (v := .bool false) rfl (by kernel_rfl) (by kernel_rfl) (by kernel_rfl) (fun _ _ _ h => h) (Or.inl ⟨by rfl, by intro w hS; go_simp⟩) hHeld ?_
            try simp only [Act.put, List.setIfInBounds_toArray, List.set_cons_zero, List.set_cons_succ]
            refine wpAnyH_done (by kernel_rfl) ?_ _
            refine NoPanic.normal ?_
            go_wp2_with fail
            clear KFd
            refine wp_region_noPanic ?_
            refine wp_region_held_drew (S := (fun w' => Below wr.heap.size wr w')) (by kernel_rfl) hHeld.drew (fun hHeld => ?_)
            refine wpAnyH_take (i := 0) (oi := { dst := some 49, op := Op.move (Operand.tmp 3), type := 48, pos := "check.go:104", after := #[], guard := none }) (v := .slice (some ⟨bs, os, none⟩) (m + 1) cap') rfl (by kernel_rfl) (by kernel_rfl) (by kernel_rfl) (fun _ _ _ h => h) (Or.inl ⟨by rfl, by intro w hS; go_simp⟩) hHeld ?_
            try simp only [Act.put, List.setIfInBounds_toArray, List.set_cons_zero, List.set_cons_succ]
            refine wpAnyH_take (i := 3) (oi := { dst := some 52, op := Op.move (Operand.tmp 0), type := 60, pos := "check.go:104", after := #[], guard := none }) (v := .pointer (some ⟨cb, 0, none⟩)) rfl (by kernel_rfl) (by kernel_rfl) (by kernel_rfl) (fun _ _ _ h => h) (Or.inl ⟨by rfl, by intro w hS; go_simp⟩) hHeld ?_
            try simp only [Act.put, List.setIfInBounds_toArray, List.set_cons_zero, List.set_cons_succ]
            refine wpAnyH_take (i := 8) (oi := { dst := some 57, op := Op.move (Operand.tmp 4), type := 3, pos := "check.go:104", after := #[], guard := none }) (v := .int .i64 h) rfl (by kernel_rfl) (by kernel_rfl) (by kernel_rfl) (fun _ _ _ h => h) (Or.inl ⟨by rfl, by intro w hS; go_simp⟩) hHeld ?_
            try simp only [Act.put, List.setIfInBounds_toArray, List.set_cons_zero, List.set_cons_succ]
            refine wpAnyH_take (i := 1) (oi := { dst := some 50, op := Op.indexAddr 48 (Operand.tmp 49) (Operand.const (Value.int IntKind.i64 0)), type := 0, pos := "check.go:104", after := #[{ on := 0, ground := Ground.data }], guard := none }) (v := .pointer (some ⟨bs, os, none⟩)) rfl (by kernel_rfl) (by kernel_rfl) (by kernel_rfl) (fun _ _ _ h => h) (Or.inl ⟨by rfl, by intro w hS; go_simp⟩) hHeld ?_
            try simp only [Act.put, List.setIfInBounds_toArray, List.set_cons_zero, List.set_cons_succ]
            refine wpAnyH_take (i := 4) (oi := { dst := some 53, op := Op.nilCheck (Operand.tmp 52), type := 0, pos := "check.go:104", after := #[{ on := 3, ground := Ground.data }], guard := none }) (v := .pointer (some ⟨cb, 0, none⟩)) rfl (by kernel_rfl) (by kernel_rfl) (by kernel_rfl) (fun _ _ _ h => h) (Or.inl ⟨by rfl, by intro w hS; go_simp⟩) hHeld ?_
            try simp only [Act.put, List.setIfInBounds_toArray, List.set_cons_zero, List.set_cons_succ]
            refine wpAnyH_take (i := 2) (oi := { dst := some 51, op := Op.load 28 (Operand.tmp 50), type := 28, pos := "check.go:104", after := #[{ on := 1, ground := Ground.data }], guard := none }) (v := .agg (ints .u8 d).toArray) rfl (by kernel_rfl) (by kernel_rfl) (by kernel_rfl) (fun _ _ _ h => h) (yieldsIf_load_mid (by rfl) 28 _ rfl bs (os) rfl (ints .u8 d) _ (fun w hS => rng_below hrd hS hbs) Tryz.underlying28 rfl LD.out) hHeld ?_
            try simp only [Act.put, List.setIfInBounds_toArray, List.set_cons_zero, List.set_cons_succ]
            refine wpAnyH_take (i := 5) (oi := { dst := some 54, op := Op.fieldAddr 64 (Operand.tmp 53) 0, type := 0, pos := "check.go:104", after := #[{ on := 4, ground := Ground.data }], guard := none }) (v := .pointer (some ⟨cb, 0, none⟩)) rfl (by kernel_rfl) (by kernel_rfl) (by kernel_rfl) (fun _ _ _ h => h) (Or.inl ⟨by rfl, by intro w hS; go_simp⟩) hHeld ?_
            try simp only [Act.put, List.setIfInBounds_toArray, List.set_cons_zero, List.set_cons_succ]
            refine wpAnyH_take (i := 6) (oi := { dst := some 55, op := Op.fieldAddr 57 (Operand.tmp 54) 2, type := 0, pos := "check.go:104", after := #[{ on := 5, ground := Ground.data }], guard := none }) (v := .pointer (some ⟨cb, 33, none⟩)) rfl (by kernel_rfl) (by kernel_rfl) (by kernel_rfl) (fun _ _ _ h => h) (Or.inl ⟨by rfl, by intro w hS; go_simp⟩) hHeld ?_
            try simp only [Act.put, List.setIfInBounds_toArray, List.set_cons_zero, List.set_cons_succ]
            refine wpAnyH_take (i := 7) (oi := { dst := some 56, op := Op.load 48 (Operand.tmp 55), type := 48, pos := "check.go:104", after := #[{ on := 6, ground := Ground.data }], guard := none }) (v := .slice (some ⟨ge, 0, none⟩) 256 256) rfl (by kernel_rfl) (by kernel_rfl) (by kernel_rfl) (fun _ _ _ h => h) (Or.inl ⟨by rfl, by intro w hS; have hc := (hS.cell (p := ⟨cb, 33, none⟩) hcbr).trans r33; go_simp⟩) hHeld ?_
            try simp only [Act.put, List.setIfInBounds_toArray, List.set_cons_zero, List.set_cons_succ]
            refine wpAnyH_take (i := 9) (oi := { dst := some 58, op := Op.indexAddr 48 (Operand.tmp 56) (Operand.tmp 57), type := 0, pos := "check.go:104", after := #[{ on := 7, ground := Ground.data }, { on := 8, ground := Ground.data }], guard := none }) (v := .pointer (some ⟨ge, 0 + h * 32, none⟩)) rfl (by kernel_rfl) (by kernel_rfl) (by kernel_rfl) (fun _ _ _ h => h) (Or.inl ⟨by rfl, by intro w hS; go_simp⟩) hHeld ?_
            try simp only [Act.put, List.setIfInBounds_toArray, List.set_cons_zero, List.set_cons_succ]
            refine wpAnyH_take (i := 10) (oi := { dst := some 59, op := Op.load 28 (Operand.tmp 58), type := 28, pos := "check.go:104", after := #[{ on := 9, ground := Ground.data }], guard := none }) (v := .agg (ints .u8 e).toArray) rfl (by kernel_rfl) (by kernel_rfl) (by kernel_rfl) (fun _ _ _ h => h) (yieldsIf_load_mid (by rfl) 28 _ rfl ge (0 + h * 32) rfl (ints .u8 e) _ (fun w hS => rng_below RE0 hS hger) Tryz.underlying28 rfl LE.out) hHeld ?_
            try simp only [Act.put, List.setIfInBounds_toArray, List.set_cons_zero, List.set_cons_succ]
            refine wpAnyH_take (i := 11) (oi := { dst := some 60, op := Op.binOp BinOp.eql 28 (Operand.tmp 51) (Operand.tmp 59) 28, type := 4, pos := "check.go:104", after := #[{ on := 2, ground := Ground.data }, { on := 10, ground := Ground.data }], guard := none }) (v := .bool true) rfl (by kernel_rfl) (by kernel_rfl) (by kernel_rfl) (fun _ _ _ h => h) (Or.inl ⟨by rfl, by intro w hS; go_simp⟩) hHeld ?_
            try simp only [Act.put, List.setIfInBounds_toArray, List.set_cons_zero, List.set_cons_succ]
            refine wpAnyH_done (by kernel_rfl) ?_ _
            refine NoPanic.normal ?_
            go_wp2_with fail
            go_ret
            exact ⟨g, c, by rw [HF.out]; rfl, hbel hHeld hcr hcbr, hg2, fun q => absurd (HF.out.symm.trans q) (by decide), keeps_two hK3 hKr hHeld hg2⟩
          · have HF := hid (HDn.out hf' he)
            have qE := eqD_ne d e hdl hed' he
            clear HDf HDe HDn SL
            go_wp2_with fail
            refine wp_region_noPanic ?_
            refine wp_region_held_drew (S := (fun w' => Below wr.heap.size wr w')) (by kernel_rfl) (Below.refl _ _).drew (fun hHeld => ?_)
            refine wpAnyH_take (i := 0) (oi := { dst := some 40, op := Op.move (Operand.tmp 0), type := 60, pos := "check.go:100", after := #[], guard := none }) (v := .pointer (some ⟨cb, 0, none⟩)) rfl (by kernel_rfl) (by kernel_rfl) (by kernel_rfl) (fun _ _ _ h => h) (Or.inl ⟨by rfl, by intro w hS; go_simp⟩) hHeld ?_
            try simp only [Act.put, List.setIfInBounds_toArray, List.set_cons_zero, List.set_cons_succ]
            refine wpAnyH_take (i := 4) (oi := { dst := some 44, op := Op.move (Operand.tmp 3), type := 48, pos := "check.go:100", after := #[], guard := none }) (v := .slice (some ⟨bs, os, none⟩) (m + 1) cap') rfl (by kernel_rfl) (by kernel_rfl) (by kernel_rfl) (fun _ _ _ h => h) (Or.inl ⟨by rfl, by intro w hS; go_simp⟩) hHeld ?_
            try simp only [Act.put, List.setIfInBounds_toArray, List.set_cons_zero, List.set_cons_succ]
            refine wpAnyH_take (i := 1) (oi := { dst := some 41, op := Op.nilCheck (Operand.tmp 40), type := 0, pos := "check.go:100", after := #[{ on := 0, ground := Ground.data }], guard := none }) (v := .pointer (some ⟨cb, 0, none⟩)) rfl (by kernel_rfl) (by kernel_rfl) (by kernel_rfl) (fun _ _ _ h => h) (Or.inl ⟨by rfl, by intro w hS; go_simp⟩) hHeld ?_
            try simp only [Act.put, List.setIfInBounds_toArray, List.set_cons_zero, List.set_cons_succ]
            refine wpAnyH_take (i := 5) (oi := { dst := some 45, op := Op.indexAddr 48 (Operand.tmp 44) (Operand.const (Value.int IntKind.i64 0)), type := 0, pos := "check.go:100", after := #[{ on := 4, ground := Ground.data }], guard := none }) (v := .pointer (some ⟨bs, os, none⟩)) rfl (by kernel_rfl) (by kernel_rfl) (by kernel_rfl) (fun _ _ _ h => h) (Or.inl ⟨by rfl, by intro w hS; go_simp⟩) hHeld ?_
            try simp only [Act.put, List.setIfInBounds_toArray, List.set_cons_zero, List.set_cons_succ]
            refine wpAnyH_take (i := 2) (oi := { dst := some 42, op := Op.fieldAddr 64 (Operand.tmp 41) 0, type := 0, pos := "check.go:100", after := #[{ on := 1, ground := Ground.data }], guard := none }) (v := .pointer (some ⟨cb, 0, none⟩)) rfl (by kernel_rfl) (by kernel_rfl) (by kernel_rfl) (fun _ _ _ h => h) (Or.inl ⟨by rfl, by intro w hS; go_simp⟩) hHeld ?_
            try simp only [Act.put, List.setIfInBounds_toArray, List.set_cons_zero, List.set_cons_succ]
            refine wpAnyH_take (i := 6) (oi := { dst := some 46, op := Op.load 28 (Operand.tmp 45), type := 28, pos := "check.go:100", after := #[{ on := 5, ground := Ground.data }], guard := none }) (v := .agg (ints .u8 d).toArray) rfl (by kernel_rfl) (by kernel_rfl) (by kernel_rfl) (fun _ _ _ h => h) (yieldsIf_load_mid (by rfl) 28 _ rfl bs (os) rfl (ints .u8 d) _ (fun w hS => rng_below hrd hS hbs) Tryz.underlying28 rfl LD.out) hHeld ?_
            try simp only [Act.put, List.setIfInBounds_toArray, List.set_cons_zero, List.set_cons_succ]
            refine wpAnyH_take (i := 3) (oi := { dst := some 43, op := Op.load 57 (Operand.tmp 42), type := 57, pos := "check.go:100", after := #[{ on := 2, ground := Ground.data }], guard := none }) (v := .agg (TM).toArray) rfl (by kernel_rfl) (by kernel_rfl) (by kernel_rfl) (fun _ _ _ h => h) (yieldsIf_load_mid (by rfl) 57 _ rfl cb (0) rfl (TM) _ (fun w hS => rng_below RT hS hcbr) Tryz.underlying57 rfl LT.out) hHeld ?_
            try simp only [Act.put, List.setIfInBounds_toArray, List.set_cons_zero, List.set_cons_succ]
            refine wpAnyH_ready (rs := [7]) (by kernel_rfl) (by simp) ?_
            refine (AllReadyH.cons (o := { dst := some 47, op := Op.call { callee := Callee.value (Operand.func 71), args := #[Operand.tmp 43, Operand.tmp 46], argTypes := #[57, 28] }, type := 4, pos := "check.go:100", after := #[{ on := 3, ground := Ground.data }, { on := 6, ground := Ground.data }], guard := none }) rfl (fun K hK => ?_) AllReadyH.nil)
            go_simp
            go_at_call 71
            refine (KFd.out _).mono ?_
            rintro e w4 ⟨rfl, hb4⟩
            go_wp2_with fail
            refine hK.out _ _ (hHeld.trans (hb4.mono hHeld.size)) (fun hHeld2 => ?_)
            clear hK K hHeld
            have hHeld := hHeld2
            clear hHeld2
            have hb5 := hb4
            clear hb4
            try simp only [Act.put, List.setIfInBounds_toArray, List.set_cons_zero, List.set_cons_succ]
            refine wpAnyH_take (i := 8) (oi := { dst := some 48, op := Op.unOp UnOp.not 4 (Operand.tmp 47), type := 4, pos := "check.go:100", after := #[{ on := 7, ground := Ground.data }], guard := none }) (v := .bool false) rfl (by kernel_rfl) (by kernel_rfl) (by kernel_rfl) (fun _ _ _ h => h) (Or.inl ⟨by rfl, by intro w hS; go_simp⟩) hHeld ?_
            try simp only [Act.put, List.setIfInBounds_toArray, List.set_cons_zero, List.set_cons_succ]
            refine wpAnyH_done (by kernel_rfl) ?_ _
            refine NoPanic.normal ?_
            go_wp2_with fail
            clear KFd
            refine wp_region_noPanic ?_
            refine wp_region_held_drew (S := (fun w' => Below wr.heap.size wr w')) (by kernel_rfl) hHeld.drew (fun hHeld => ?_)
            refine wpAnyH_take (i := 0) (oi := { dst := some 49, op := Op.move (Operand.tmp 3), type := 48, pos := "check.go:104", after := #[], guard := none }) (v := .slice (some ⟨bs, os, none⟩) (m + 1) cap') rfl (by kernel_rfl) (by kernel_rfl) (by kernel_rfl) (fun _ _ _ h => h) (Or.inl ⟨by rfl, by intro w hS; go_simp⟩) hHeld ?_
            try simp only [Act.put, List.setIfInBounds_toArray, List.set_cons_zero, List.set_cons_succ]
            refine wpAnyH_take (i := 3) (oi := { dst := some 52, op := Op.move (Operand.tmp 0), type := 60, pos := "check.go:104", after := #[], guard := none }) (v := .pointer (some ⟨cb, 0, none⟩)) rfl (by kernel_rfl) (by kernel_rfl) (by kernel_rfl) (fun _ _ _ h => h) (Or.inl ⟨by rfl, by intro w hS; go_simp⟩) hHeld ?_
            try simp only [Act.put, List.setIfInBounds_toArray, List.set_cons_zero, List.set_cons_succ]
            refine wpAnyH_take (i := 8) (oi := { dst := some 57, op := Op.move (Operand.tmp 4), type := 3, pos := "check.go:104", after := #[], guard := none }) (v := .int .i64 h) rfl (by kernel_rfl) (by kernel_rfl) (by kernel_rfl) (fun _ _ _ h => h) (Or.inl ⟨by rfl, by intro w hS; go_simp⟩) hHeld ?_
            try simp only [Act.put, List.setIfInBounds_toArray, List.set_cons_zero, List.set_cons_succ]
            refine wpAnyH_take (i := 1) (oi := { dst := some 50, op := Op.indexAddr 48 (Operand.tmp 49) (Operand.const (Value.int IntKind.i64 0)), type := 0, pos := "check.go:104", after := #[{ on := 0, ground := Ground.data }], guard := none }) (v := .pointer (some ⟨bs, os, none⟩)) rfl (by kernel_rfl) (by kernel_rfl) (by kernel_rfl) (fun _ _ _ h => h) (Or.inl ⟨by rfl, by intro w hS; go_simp⟩) hHeld ?_
            try simp only [Act.put, List.setIfInBounds_toArray, List.set_cons_zero, List.set_cons_succ]
            refine wpAnyH_take (i := 4) (oi := { dst := some 53, op := Op.nilCheck (Operand.tmp 52), type := 0, pos := "check.go:104", after := #[{ on := 3, ground := Ground.data }], guard := none }) (v := .pointer (some ⟨cb, 0, none⟩)) rfl (by kernel_rfl) (by kernel_rfl) (by kernel_rfl) (fun _ _ _ h => h) (Or.inl ⟨by rfl, by intro w hS; go_simp⟩) hHeld ?_
            try simp only [Act.put, List.setIfInBounds_toArray, List.set_cons_zero, List.set_cons_succ]
            refine wpAnyH_take (i := 2) (oi := { dst := some 51, op := Op.load 28 (Operand.tmp 50), type := 28, pos := "check.go:104", after := #[{ on := 1, ground := Ground.data }], guard := none }) (v := .agg (ints .u8 d).toArray) rfl (by kernel_rfl) (by kernel_rfl) (by kernel_rfl) (fun _ _ _ h => h) (yieldsIf_load_mid (by rfl) 28 _ rfl bs (os) rfl (ints .u8 d) _ (fun w hS => rng_below hrd hS hbs) Tryz.underlying28 rfl LD.out) hHeld ?_
            try simp only [Act.put, List.setIfInBounds_toArray, List.set_cons_zero, List.set_cons_succ]
            refine wpAnyH_take (i := 5) (oi := { dst := some 54, op := Op.fieldAddr 64 (Operand.tmp 53) 0, type := 0, pos := "check.go:104", after := #[{ on := 4, ground := Ground.data }], guard := none }) (v := .pointer (some ⟨cb, 0, none⟩)) rfl (by kernel_rfl) (by kernel_rfl) (by kernel_rfl) (fun _ _ _ h => h) (Or.inl ⟨by rfl, by intro w hS; go_simp⟩) hHeld ?_
            try simp only [Act.put, List.setIfInBounds_toArray, List.set_cons_zero, List.set_cons_succ]
            refine wpAnyH_take (i := 6) (oi := { dst := some 55, op := Op.fieldAddr 57 (Operand.tmp 54) 2, type := 0, pos := "check.go:104", after := #[{ on := 5, ground := Ground.data }], guard := none }) (v := .pointer (some ⟨cb, 33, none⟩)) rfl (by kernel_rfl) (by kernel_rfl) (by kernel_rfl) (fun _ _ _ h => h) (Or.inl ⟨by rfl, by intro w hS; go_simp⟩) hHeld ?_
            try simp only [Act.put, List.setIfInBounds_toArray, List.set_cons_zero, List.set_cons_succ]
            refine wpAnyH_take (i := 7) (oi := { dst := some 56, op := Op.load 48 (Operand.tmp 55), type := 48, pos := "check.go:104", after := #[{ on := 6, ground := Ground.data }], guard := none }) (v := .slice (some ⟨ge, 0, none⟩) 256 256) rfl (by kernel_rfl) (by kernel_rfl) (by kernel_rfl) (fun _ _ _ h => h) (Or.inl ⟨by rfl, by intro w hS; have hc := (hS.cell (p := ⟨cb, 33, none⟩) hcbr).trans r33; go_simp⟩) hHeld ?_
            try simp only [Act.put, List.setIfInBounds_toArray, List.set_cons_zero, List.set_cons_succ]
            refine wpAnyH_take (i := 9) (oi := { dst := some 58, op := Op.indexAddr 48 (Operand.tmp 56) (Operand.tmp 57), type := 0, pos := "check.go:104", after := #[{ on := 7, ground := Ground.data }, { on := 8, ground := Ground.data }], guard := none }) (v := .pointer (some ⟨ge, 0 + h * 32, none⟩)) rfl (by kernel_rfl) (by kernel_rfl) (by kernel_rfl) (fun _ _ _ h => h) (Or.inl ⟨by rfl, by intro w hS; go_simp⟩) hHeld ?_
            try simp only [Act.put, List.setIfInBounds_toArray, List.set_cons_zero, List.set_cons_succ]
            refine wpAnyH_take (i := 10) (oi := { dst := some 59, op := Op.load 28 (Operand.tmp 58), type := 28, pos := "check.go:104", after := #[{ on := 9, ground := Ground.data }], guard := none }) (v := .agg (ints .u8 e).toArray) rfl (by kernel_rfl) (by kernel_rfl) (by kernel_rfl) (fun _ _ _ h => h) (yieldsIf_load_mid (by rfl) 28 _ rfl ge (0 + h * 32) rfl (ints .u8 e) _ (fun w hS => rng_below RE0 hS hger) Tryz.underlying28 rfl LE.out) hHeld ?_
            try simp only [Act.put, List.setIfInBounds_toArray, List.set_cons_zero, List.set_cons_succ]
            refine wpAnyH_take (i := 11) (oi := { dst := some 60, op := Op.binOp BinOp.eql 28 (Operand.tmp 51) (Operand.tmp 59) 28, type := 4, pos := "check.go:104", after := #[{ on := 2, ground := Ground.data }, { on := 10, ground := Ground.data }], guard := none }) (v := .bool false) rfl (by kernel_rfl) (by kernel_rfl) (by kernel_rfl) (fun _ _ _ h => h) (Or.inl ⟨by rfl, by intro w hS; go_simp⟩) hHeld ?_
            try simp only [Act.put, List.setIfInBounds_toArray, List.set_cons_zero, List.set_cons_succ]
            refine wpAnyH_done (by kernel_rfl) ?_ _
            refine NoPanic.normal ?_
            go_wp2_with fail
            have hB4 := hHeld
            clear hHeld
            refine wp_region_noPanic ?_
            refine wp_region_held_drew (S := (fun w' => w'.cell? ⟨cb, 102, none⟩ = some (.slice (some ⟨g, 0, none⟩) 256 c) ∧ w'.rangeAt bs os (ints .u8 d))) (by kernel_rfl) ⟨(hB4.cell (p := ⟨cb, 102, none⟩) hcbr).trans r102, rng_below hrd hB4.drew hbs⟩ (fun hHeld => ?_)
            refine wpAnyH_take (i := 0) (oi := { dst := some 61, op := Op.move (Operand.tmp 0), type := 60, pos := "check.go:107", after := #[], guard := none }) (v := .pointer (some ⟨cb, 0, none⟩)) rfl (by kernel_rfl) (by kernel_rfl) (by kernel_rfl) (fun _ _ _ h => h) (Or.inl ⟨by rfl, by intro w hS; go_simp⟩) hHeld ?_
            try simp only [Act.put, List.setIfInBounds_toArray, List.set_cons_zero, List.set_cons_succ]
            refine wpAnyH_take (i := 4) (oi := { dst := some 65, op := Op.move (Operand.tmp 4), type := 3, pos := "check.go:107", after := #[], guard := none }) (v := .int .i64 h) rfl (by kernel_rfl) (by kernel_rfl) (by kernel_rfl) (fun _ _ _ h => h) (Or.inl ⟨by rfl, by intro w hS; go_simp⟩) hHeld ?_
            try simp only [Act.put, List.setIfInBounds_toArray, List.set_cons_zero, List.set_cons_succ]
            refine wpAnyH_take (i := 5) (oi := { dst := some 66, op := Op.move (Operand.tmp 3), type := 48, pos := "check.go:107", after := #[], guard := none }) (v := .slice (some ⟨bs, os, none⟩) (m + 1) cap') rfl (by kernel_rfl) (by kernel_rfl) (by kernel_rfl) (fun _ _ _ h => h) (Or.inl ⟨by rfl, by intro w hS; go_simp⟩) hHeld ?_
            try simp only [Act.put, List.setIfInBounds_toArray, List.set_cons_zero, List.set_cons_succ]
            refine wpAnyH_take (i := 1) (oi := { dst := some 62, op := Op.nilCheck (Operand.tmp 61), type := 0, pos := "check.go:107", after := #[{ on := 0, ground := Ground.data }], guard := none }) (v := .pointer (some ⟨cb, 0, none⟩)) rfl (by kernel_rfl) (by kernel_rfl) (by kernel_rfl) (fun _ _ _ h => h) (Or.inl ⟨by rfl, by intro w hS; go_simp⟩) hHeld ?_
            try simp only [Act.put, List.setIfInBounds_toArray, List.set_cons_zero, List.set_cons_succ]
            refine wpAnyH_take (i := 6) (oi := { dst := some 67, op := Op.indexAddr 48 (Operand.tmp 66) (Operand.const (Value.int IntKind.i64 0)), type := 0, pos := "check.go:107", after := #[{ on := 5, ground := Ground.data }], guard := none }) (v := .pointer (some ⟨bs, os, none⟩)) rfl (by kernel_rfl) (by kernel_rfl) (by kernel_rfl) (fun _ _ _ h => h) (Or.inl ⟨by rfl, by intro w hS; go_simp⟩) hHeld ?_
            try simp only [Act.put, List.setIfInBounds_toArray, List.set_cons_zero, List.set_cons_succ]
            refine wpAnyH_take (i := 2) (oi := { dst := some 63, op := Op.fieldAddr 64 (Operand.tmp 62) 4, type := 0, pos := "check.go:107", after := #[{ on := 1, ground := Ground.data }], guard := none }) (v := .pointer (some ⟨cb, 102, none⟩)) rfl (by kernel_rfl) (by kernel_rfl) (by kernel_rfl) (fun _ _ _ h => h) (Or.inl ⟨by rfl, by intro w hS; go_simp⟩) hHeld ?_
            try simp only [Act.put, List.setIfInBounds_toArray, List.set_cons_zero, List.set_cons_succ]
            refine wpAnyH_take (i := 7) (oi := { dst := some 68, op := Op.load 28 (Operand.tmp 67), type := 28, pos := "check.go:107", after := #[{ on := 6, ground := Ground.data }], guard := none }) (v := .agg (ints .u8 d).toArray) rfl (by kernel_rfl) (by kernel_rfl) (by kernel_rfl) (fun _ _ _ h => h) (yieldsIf_load_mid (by rfl) 28 _ rfl bs (os) rfl (ints .u8 d) _ (fun w hS => hS.2) Tryz.underlying28 rfl LD.out) hHeld ?_
            try simp only [Act.put, List.setIfInBounds_toArray, List.set_cons_zero, List.set_cons_succ]
            refine wpAnyH_take (i := 3) (oi := { dst := some 64, op := Op.load 48 (Operand.tmp 63), type := 48, pos := "check.go:107", after := #[{ on := 2, ground := Ground.data }], guard := none }) (v := .slice (some ⟨g, 0, none⟩) 256 c) rfl (by kernel_rfl) (by kernel_rfl) (by kernel_rfl) (fun _ _ _ h => h) (Or.inl ⟨by rfl, by intro w hS; have hc := hS.1; go_simp⟩) hHeld ?_
            try simp only [Act.put, List.setIfInBounds_toArray, List.set_cons_zero, List.set_cons_succ]
            refine wpAnyH_take (i := 8) (oi := { dst := some 69, op := Op.indexAddr 48 (Operand.tmp 64) (Operand.tmp 65), type := 0, pos := "check.go:107", after := #[{ on := 3, ground := Ground.data }, { on := 4, ground := Ground.data }, { on := 0, ground := Ground.phase }, { on := 1, ground := Ground.phase }, { on := 2, ground := Ground.phase }, { on := 3, ground := Ground.phase }, { on := 4, ground := Ground.phase }, { on := 5, ground := Ground.phase }, { on := 6, ground := Ground.phase }, { on := 7, ground := Ground.phase }], guard := none }) (v := .pointer (some ⟨g, 0 + h * 32, none⟩)) rfl (by kernel_rfl) (by kernel_rfl) (by kernel_rfl) (fun _ _ _ h => h) (Or.inl ⟨by rfl, by intro w hS; go_simp⟩) hHeld ?_
            try simp only [Act.put, List.setIfInBounds_toArray, List.set_cons_zero, List.set_cons_succ]
            refine wpAnyH_ready (rs := [9]) (by kernel_rfl) (by simp) ?_
            refine (AllReadyH.cons (o := { dst := none, op := Op.store 28 (Operand.tmp 69) (Operand.tmp 68), type := 0, pos := "check.go:107", after := #[{ on := 8, ground := Ground.data }, { on := 7, ground := Ground.data }, { on := 0, ground := Ground.phase }, { on := 1, ground := Ground.phase }, { on := 2, ground := Ground.phase }, { on := 3, ground := Ground.phase }, { on := 4, ground := Ground.phase }, { on := 5, ground := Ground.phase }, { on := 6, ground := Ground.phase }, { on := 7, ground := Ground.phase }], guard := none }) rfl (fun K hK => ?_) AllReadyH.nil)
            rw [if_pos (by rfl)]
            obtain ⟨q1, q2, q3, q4⟩ := OS.out _ (hOr.below hB4.drew (Nat.le_refl _))
            refine wp_store_mid 28 _ _ rfl g (0 + h * 32) (ints .u8 d).toArray rfl rfl (by rw [ints_size, hdl, Nat.zero_add]; exact q1) (by rw [Tryz.sizeD, ints_size, hdl]) (all_oneCell_toArray (ints_one _ _)) ?_
            rw [List.toList_toArray, Nat.zero_add]
            rw [BS.out] at q2
            have hKX := Keeps.trans hKr ((Keeps.of_below hB4.drew).trans q3)
            refine hK.out _ _ (⟨(World.cell?_of_block (q3.block cb (Nat.lt_of_lt_of_le hcbr hB4.size) (Ne.symm hgcb))).trans hHeld.1, rng_keeps hHeld.2 q3 (Nat.lt_of_lt_of_le hbs hB4.size) hbg⟩) (fun hHeld2 => ?_)
            clear hK K hHeld
            have hHeld := hHeld2
            clear hHeld2
            try simp only [Act.put, List.setIfInBounds_toArray, List.set_cons_zero, List.set_cons_succ]
            refine wpAnyH_done (by kernel_rfl) ?_ _
            refine NoPanic.normal ?_
            go_wp2
            go_roundw
            case rel => exact ⟨h + 1, by omega, by go_num, HF.out, ⟨_, _, by rw [HM.out]; rfl, hX2.out.keeps ((Keeps.of_below hB4.drew).trans q3)⟩, q2, hKX⟩
            case measure => simp [intOf]; omega
    · obtain rfl : h = 256 := by omega
      go_wp2_with fail
      go_ret
      rw [b256.out] at hOr
      exact ⟨g, c, by rw [hD0]; rfl, hcr, hg2, fun _ => hOr, keeps_two hK3 hKr (Below.refl _ _) hg2⟩
end Go.Proofs.YtbjahdbmkcamoaaGreatDoor
namespace Go.Proofs.YtbjahdbmkcamoaaGreatDoor
set_option linter.unusedVariables false
set_option linter.unusedSimpArgs false
open Go.RowKit
attribute [local go_sem ↓] Go.wp_at_zero Go.wp_at_succ

theorem results_cc {P : Program} {fn : Func} {p q : Tmp} {ty ty2 : TypeId} (h : fn.results = #[.cell p ty, .cell q ty2]) (tmps : Array Value) (w : World) (g : Nat) (t : TypeId) (cs : Array Value) (fr : Nat × Nat) (d : TypeDesc)
    (hp : tmps.getD p undef = .pointer (some ⟨g, 0, none⟩)) (hg : w.heap[g]? = some (.cells cs t fr))
    (hu : P.underlying ty = some d) (hd : (match d with | .struct _ | .array _ _ => true | _ => false) = true) (hi : (P.info? ty).map (·.size) = some cs.size) (g2 : Nat) (x : Value)
    (hq : tmps.getD q undef = .pointer (some ⟨g2, 0, none⟩)) (hx : (loadVar ty2 ⟨g2, 0, none⟩).run P w = .ok x w) :
    (results fn tmps).run P w = .ok (.tuple #[.agg cs, x]) w := by
  have hp' : tmps[p]?.getD undef = .pointer (some ⟨g, 0, none⟩) := by simpa using hp
  have hq' : tmps[q]?.getD undef = .pointer (some ⟨g2, 0, none⟩) := by simpa using hq
  simp [results, h, hp', hq', asAddr, run_loadVar_row w g t ty cs fr d hg hu hd hi, hx]
/-! A check that is read: where its parts lie. -/
structure CkP where
  ge : Nat
  rv : Value
  s1 : Option Addr
  c1 : Nat
  s2 : Option Addr
  c2 : Nat
  g : Nat
  c : Nat
def ckR (P : CkP) (n : Nat) (root ks : List Int) (p : Pf) : List Value := ckC n root ks (.slice (some ⟨P.ge, 0, none⟩) 256 256) P.rv (pfC p (.slice P.s1 p.vs.length P.c1) (.slice P.s2 p.ss.length P.c2)) (.slice (some ⟨P.g, 0, none⟩) 256 P.c)
structure CkV (w : World) (cb : Nat) (P : CkP) (n : Nat) (root ks : List Int) (p : Pf) (NB : List (List Int)) : Prop where
  hr : root.length = 32
  hk : ks.length = 32
  hy : Bys ks
  hn : n ≤ 32
  ok : PfOk p
  vl : p.vs.length ≤ 128
  nl : NB.length = 256
  nd : ∀ d ∈ NB, d.length = 32
  row : w.heap[cb]? = some (.cells (ckR P n root ks p).toArray 64 (0, 0))
  emp : w.heap[P.ge]? = some (.cells (ints .u8 (emps n 256).flatten).toArray 28 (0, 0))
  val : Src w P.s1 P.c1 p.vs
  nil : P.s1 = none → P.c1 = 0
  bes : SrcD w (some ⟨P.g, 0, none⟩) P.c NB
theorem CkV.below {w w1 : World} {cb : Nat} {P : CkP} {n : Nat} {root ks : List Int} {p : Pf} {NB : List (List Int)} (h : CkV w cb P n root ks p NB) (hb : Below w.heap.size w w1) : CkV w1 cb P n root ks p NB :=
  ⟨h.hr, h.hk, h.hy, h.hn, h.ok, h.vl, h.nl, h.nd, hbel hb h.row (hlt h.row), hbel hb h.emp (hlt h.emp), h.val.below hb (Nat.le_refl _), h.nil, h.bes.below hb (Nat.le_refl _)⟩
section
variable {w : World} {cb : Nat} {P : CkP} {n : Nat} {root ks : List Int} {p : Pf} {NB : List (List Int)}
theorem CkV.c0 (h : CkV w cb P n root ks p NB) : w.cell? ⟨cb, 0, none⟩ = some (.int .i64 n) := cell_ck h.row ckC_k
theorem CkV.rootR (h : CkV w cb P n root ks p NB) : w.rangeAt cb 1 (ints .u8 root) := rng_ck h.row (fun j x hx => ckC_root j x hx)
theorem CkV.c33 (h : CkV w cb P n root ks p NB) : w.cell? ⟨cb, 33, none⟩ = some (.slice (some ⟨P.ge, 0, none⟩) 256 256) := cell_ck h.row (ckC_e h.hr)
theorem CkV.key (h : CkV w cb P n root ks p NB) : w.rangeAt cb 34 (ints .u8 ks) := rng_ck h.row (fun j x hx => ckC_key h.hr j x hx)
theorem CkV.f (h : CkV w cb P n root ks p NB) : w.cell? ⟨cb, 67, none⟩ = some (.bool p.f) := cell_ck h.row (ckC_p h.hr h.hk 0 _ (pfC_f p _ _))
theorem CkV.v (h : CkV w cb P n root ks p NB) : w.cell? ⟨cb, 68, none⟩ = some (.slice P.s1 p.vs.length P.c1) := cell_ck h.row (ckC_p h.hr h.hk 1 _ (pfC_v p _ _))
theorem CkV.c102 (h : CkV w cb P n root ks p NB) : w.cell? ⟨cb, 102, none⟩ = some (.slice (some ⟨P.g, 0, none⟩) 256 P.c) := cell_ck h.row (ckC_b h.hr h.hk (pfC_len h.ok _ _))
theorem CkV.cbl (h : CkV w cb P n root ks p NB) : cb < w.heap.size := hlt h.row
theorem CkV.nb (h : CkV w cb P n root ks p NB) (j : Nat) (hj : j < 256) : P.g < w.heap.size ∧ w.rangeAt P.g (0 + j * 32) (ints .u8 (NB.getD j [])) ∧ (NB.getD j []).length = 32 := by
  have hnl := h.nl
  obtain ⟨b, o, e, hb, hr⟩ := h.bes.at (by omega)
  simp only [Option.some.injEq, Addr.mk.injEq] at e
  obtain ⟨rfl, rfl, -⟩ := e
  exact ⟨hb, hr j (by omega), h.nd _ (by rw [List.getD_eq_getElem?_getD, List.getElem?_eq_getElem (by omega)]; exact List.getElem_mem _)⟩
end
set_option maxRecDepth 100000 in
set_option maxHeartbeats 4000000 in
theorem foot_any (w : World) (hG : Glob w) (cb : Nat) (P : CkP) (n : Nat) (root ks : List Int) (p : Pf) (NB : List (List Int)) (h : CkV w cb P n root ks p NB) :
    Calls Tryz.prog 46 #[.pointer (some ⟨cb, 0, none⟩)] w fun en w' => en = .returned (.agg (ints .u8 (footD n ks p.f p.vs)).toArray) ∧ Below w.heap.size w w' := by
  have AD := hid allocDg
  have hcb := h.cbl
  have c0 := h.c0
  have ck := h.key
  have cf := h.f
  have cv := h.v
  have c33 := h.c33
  have hv := h.vl
  have hk := h.hk
  have LK := hid (show (Tryz.prog.info? 24).map (·.size) = some (ints .u8 ks).length by rw [Tryz.sizeKy, ints_len, hk])
  have LZ := hid (show (ints .u8 zB).length = 32 from rfl)
  have d0 := (BK.nil w).alloc (ints .u8 zB) 28
  have r0 := d0.row (.head _)
  have hb1 := d0.1
  have hG1 := hG.below hb1 hG.1
  have f1 := (hb1.cell (p := ⟨cb, 67, none⟩) hcb).trans cf
  have e33 := (hb1.cell (p := ⟨cb, 33, none⟩) hcb).trans c33
  cases hf : p.f with
  | true =>
    rw [hf] at f1
    have KL := hid (fun w1 (hG1 : Glob w1) (hS1 : Src w1 P.s1 P.c1 p.vs) => leaf_any w1 hG1 n ks p.vs hk P.s1 P.c1 hS1 h.nil (by omega))
    have HD := hid (show leafD n ks p.vs = footD n ks true p.vs from rfl)
    rw [HD.out] at KL
    have hDl := footD_len n ks true p.vs
    generalize footD n ks true p.vs = D at *
    have LDD := hid (show (ints .u8 D).length = 32 by rw [ints_len, hDl])
    have HV := hid h.val
    generalize hM : p.vs.length = m at *
    have HM := hid hM
    generalize P.s1 = s1 at *
    generalize P.c1 = c1 at *
    clear h hM hv HD e33 c33 hf
    generalize ints .u8 zB = Z at *
    go_enter Tryz.func46, Tryz.ntmps46
    go_wp2_with (first | refine wpList_allocV AD.out rfl rfl ?_)
    generalize w.alloc (.cells Z.toArray 28) = w1 at *
    refine wp_region_noPanic ?_
    refine wp_region_held_drew (S := (fun w' => Below w.heap.size w w' ∧ w.heap.size < w'.heap.size)) (by kernel_rfl) ⟨hb1.drew, hlt r0⟩ (fun hHeld => ?_)
    refine wpAnyH_take (i := 0) (oi := { dst := some 8, op := Op.move (Operand.tmp 0), type := 60, pos := "path.go:45", after := #[], guard := none }) (v := .pointer (some ⟨cb, 0, none⟩)) rfl (by kernel_rfl) (by kernel_rfl) (by kernel_rfl) (fun _ _ _ h => h) (Or.inl ⟨by rfl, by intro w hS; go_simp⟩) hHeld ?_
    try simp only [Act.put, List.setIfInBounds_toArray, List.set_cons_zero, List.set_cons_succ]
    refine wpAnyH_take (i := 5) (oi := { dst := some 13, op := Op.move (Operand.tmp 0), type := 60, pos := "path.go:45", after := #[], guard := none }) (v := .pointer (some ⟨cb, 0, none⟩)) rfl (by kernel_rfl) (by kernel_rfl) (by kernel_rfl) (fun _ _ _ h => h) (Or.inl ⟨by rfl, by intro w hS; go_simp⟩) hHeld ?_
    try simp only [Act.put, List.setIfInBounds_toArray, List.set_cons_zero, List.set_cons_succ]
    refine wpAnyH_take (i := 9) (oi := { dst := some 17, op := Op.move (Operand.tmp 0), type := 60, pos := "path.go:45", after := #[], guard := none }) (v := .pointer (some ⟨cb, 0, none⟩)) rfl (by kernel_rfl) (by kernel_rfl) (by kernel_rfl) (fun _ _ _ h => h) (Or.inl ⟨by rfl, by intro w hS; go_simp⟩) hHeld ?_
    try simp only [Act.put, List.setIfInBounds_toArray, List.set_cons_zero, List.set_cons_succ]
    refine wpAnyH_take (i := 1) (oi := { dst := some 9, op := Op.nilCheck (Operand.tmp 8), type := 0, pos := "path.go:45", after := #[{ on := 0, ground := Ground.data }], guard := none }) (v := .pointer (some ⟨cb, 0, none⟩)) rfl (by kernel_rfl) (by kernel_rfl) (by kernel_rfl) (fun _ _ _ h => h) (Or.inl ⟨by rfl, by intro w hS; go_simp⟩) hHeld ?_
    try simp only [Act.put, List.setIfInBounds_toArray, List.set_cons_zero, List.set_cons_succ]
    refine wpAnyH_take (i := 6) (oi := { dst := some 14, op := Op.nilCheck (Operand.tmp 13), type := 0, pos := "path.go:45", after := #[{ on := 5, ground := Ground.data }], guard := none }) (v := .pointer (some ⟨cb, 0, none⟩)) rfl (by kernel_rfl) (by kernel_rfl) (by kernel_rfl) (fun _ _ _ h => h) (Or.inl ⟨by rfl, by intro w hS; go_simp⟩) hHeld ?_
    try simp only [Act.put, List.setIfInBounds_toArray, List.set_cons_zero, List.set_cons_succ]
    refine wpAnyH_take (i := 10) (oi := { dst := some 18, op := Op.nilCheck (Operand.tmp 17), type := 0, pos := "path.go:45", after := #[{ on := 9, ground := Ground.data }], guard := none }) (v := .pointer (some ⟨cb, 0, none⟩)) rfl (by kernel_rfl) (by kernel_rfl) (by kernel_rfl) (fun _ _ _ h => h) (Or.inl ⟨by rfl, by intro w hS; go_simp⟩) hHeld ?_
    try simp only [Act.put, List.setIfInBounds_toArray, List.set_cons_zero, List.set_cons_succ]
    refine wpAnyH_take (i := 2) (oi := { dst := some 10, op := Op.fieldAddr 64 (Operand.tmp 9) 0, type := 0, pos := "path.go:45", after := #[{ on := 1, ground := Ground.data }], guard := none }) (v := .pointer (some ⟨cb, 0, none⟩)) rfl (by kernel_rfl) (by kernel_rfl) (by kernel_rfl) (fun _ _ _ h => h) (Or.inl ⟨by rfl, by intro w hS; go_simp⟩) hHeld ?_
    try simp only [Act.put, List.setIfInBounds_toArray, List.set_cons_zero, List.set_cons_succ]
    refine wpAnyH_take (i := 7) (oi := { dst := some 15, op := Op.fieldAddr 64 (Operand.tmp 14) 1, type := 0, pos := "path.go:45", after := #[{ on := 6, ground := Ground.data }], guard := none }) (v := .pointer (some ⟨cb, 34, none⟩)) rfl (by kernel_rfl) (by kernel_rfl) (by kernel_rfl) (fun _ _ _ h => h) (Or.inl ⟨by rfl, by intro w hS; go_simp⟩) hHeld ?_
    try simp only [Act.put, List.setIfInBounds_toArray, List.set_cons_zero, List.set_cons_succ]
    refine wpAnyH_take (i := 11) (oi := { dst := some 19, op := Op.fieldAddr 64 (Operand.tmp 18) 3, type := 0, pos := "path.go:45", after := #[{ on := 10, ground := Ground.data }], guard := none }) (v := .pointer (some ⟨cb, 67, none⟩)) rfl (by kernel_rfl) (by kernel_rfl) (by kernel_rfl) (fun _ _ _ h => h) (Or.inl ⟨by rfl, by intro w hS; go_simp⟩) hHeld ?_
    try simp only [Act.put, List.setIfInBounds_toArray, List.set_cons_zero, List.set_cons_succ]
    refine wpAnyH_take (i := 3) (oi := { dst := some 11, op := Op.fieldAddr 57 (Operand.tmp 10) 0, type := 0, pos := "path.go:45", after := #[{ on := 2, ground := Ground.data }], guard := none }) (v := .pointer (some ⟨cb, 0, none⟩)) rfl (by kernel_rfl) (by kernel_rfl) (by kernel_rfl) (fun _ _ _ h => h) (Or.inl ⟨by rfl, by intro w hS; go_simp⟩) hHeld ?_
    try simp only [Act.put, List.setIfInBounds_toArray, List.set_cons_zero, List.set_cons_succ]
    refine wpAnyH_take (i := 8) (oi := { dst := some 16, op := Op.load 24 (Operand.tmp 15), type := 24, pos := "path.go:45", after := #[{ on := 7, ground := Ground.data }], guard := none }) (v := .agg (ints .u8 ks).toArray) rfl (by kernel_rfl) (by kernel_rfl) (by kernel_rfl) (fun _ _ _ h => h) (yieldsIf_load_mid (by rfl) 24 _ rfl cb (34) rfl (ints .u8 ks) _ (fun w hS => rng_below ck hS.1 hcb) Tryz.underlying24 rfl LK.out) hHeld ?_
    try simp only [Act.put, List.setIfInBounds_toArray, List.set_cons_zero, List.set_cons_succ]
    refine wpAnyH_take (i := 12) (oi := { dst := some 20, op := Op.fieldAddr 52 (Operand.tmp 19) 1, type := 0, pos := "path.go:45", after := #[{ on := 11, ground := Ground.data }], guard := none }) (v := .pointer (some ⟨cb, 68, none⟩)) rfl (by kernel_rfl) (by kernel_rfl) (by kernel_rfl) (fun _ _ _ h => h) (Or.inl ⟨by rfl, by intro w hS; go_simp⟩) hHeld ?_
    try simp only [Act.put, List.setIfInBounds_toArray, List.set_cons_zero, List.set_cons_succ]
    refine wpAnyH_take (i := 4) (oi := { dst := some 12, op := Op.load 3 (Operand.tmp 11), type := 3, pos := "path.go:45", after := #[{ on := 3, ground := Ground.data }], guard := none }) (v := .int .i64 n) rfl (by kernel_rfl) (by kernel_rfl) (by kernel_rfl) (fun _ _ _ h => h) (Or.inl ⟨by rfl, by intro w hS; have hc := (hS.1.cell (p := ⟨cb, 0, none⟩) hcb).trans c0; go_simp⟩) hHeld ?_
    try simp only [Act.put, List.setIfInBounds_toArray, List.set_cons_zero, List.set_cons_succ]
    refine wpAnyH_take (i := 13) (oi := { dst := some 21, op := Op.load 30 (Operand.tmp 20), type := 30, pos := "path.go:45", after := #[{ on := 12, ground := Ground.data }], guard := none }) (v := .slice s1 m c1) rfl (by kernel_rfl) (by kernel_rfl) (by kernel_rfl) (fun _ _ _ h => h) (Or.inl ⟨by rfl, by intro w hS; have hc := (hS.1.cell (p := ⟨cb, 68, none⟩) hcb).trans cv; go_simp⟩) hHeld ?_
    try simp only [Act.put, List.setIfInBounds_toArray, List.set_cons_zero, List.set_cons_succ]
    refine wpAnyH_ready (rs := [14]) (by kernel_rfl) (by simp) ?_
    refine (AllReadyH.cons (o := { dst := some 22, op := Op.call { callee := Callee.value (Operand.func 74), args := #[Operand.tmp 12, Operand.tmp 16, Operand.tmp 21], argTypes := #[3, 24, 30] }, type := 28, pos := "path.go:45", after := #[{ on := 4, ground := Ground.data }, { on := 8, ground := Ground.data }, { on := 13, ground := Ground.data }], guard := none }) rfl (fun K hK => ?_) AllReadyH.nil)
    go_simp
    go_at_call 74
    refine (KL.out _ (hG.below hHeld.1 hG.1) (HV.out.below hHeld.1 (Nat.le_refl _))).mono ?_
    rintro e w4 ⟨rfl, hb4⟩
    have r4 := hbel hb4 (show w1.drew.heap[w.heap.size]? = _ from r0) (hlt r0)
    go_wp2_with fail
    refine hK.out _ _ (⟨hHeld.1.trans (hb4.mono hHeld.1.size), Nat.lt_of_lt_of_le hHeld.2 hb4.size⟩) (fun hHeld2 => ?_)
    clear hK K hHeld
    have hHeld := hHeld2
    clear hHeld2
    try simp only [Act.put, List.setIfInBounds_toArray, List.set_cons_zero, List.set_cons_succ]
    refine wpAnyH_ready (rs := [15]) (by kernel_rfl) (by simp) ?_
    refine (AllReadyH.cons (o := { dst := none, op := Op.store 28 (Operand.tmp 2) (Operand.tmp 22), type := 0, pos := "path.go:45", after := #[{ on := 14, ground := Ground.data }, { on := 14, ground := Ground.chain }, { on := 0, ground := Ground.phase }, { on := 1, ground := Ground.phase }, { on := 2, ground := Ground.phase }, { on := 3, ground := Ground.phase }, { on := 4, ground := Ground.phase }, { on := 5, ground := Ground.phase }, { on := 6, ground := Ground.phase }, { on := 7, ground := Ground.phase }, { on := 8, ground := Ground.phase }, { on := 9, ground := Ground.phase }, { on := 10, ground := Ground.phase }, { on := 11, ground := Ground.phase }, { on := 12, ground := Ground.phase }, { on := 13, ground := Ground.phase }, { on := 14, ground := Ground.phase }], guard := none }) rfl (fun K hK => ?_) AllReadyH.nil)
    rw [if_pos (by rfl)]
    refine wp_store_row 28 _ _ rfl w.heap.size (ints .u8 D).toArray rfl rfl 28 _ r4 (by rw [Tryz.sizeD, List.size_toArray, LDD.out]) (by rw [List.size_toArray, List.size_toArray, LDD.out, LZ.out]) (all_oneCell_toArray (ints_one _ _)) ?_
    have hb5 := below_setRow hHeld.1 (Nat.le_refl w.heap.size) (ints .u8 D).toArray
    refine hK.out _ _ (⟨hb5, hlt (setRow_heap _ _ _ _ _ _ r4)⟩) (fun hHeld2 => ?_)
    clear hK K hHeld
    have hHeld := hHeld2
    clear hHeld2
    try simp only [Act.put, List.setIfInBounds_toArray, List.set_cons_zero, List.set_cons_succ]
    refine wpAnyH_done (by kernel_rfl) ?_ _
    refine NoPanic.normal ?_
    go_wp2
    exact bodyPost_ret (v := .agg (ints .u8 D).toArray) (results_cell_row Tryz.results46 _ _ w.heap.size 28 _ _ _ rfl (setRow_heap _ _ _ _ _ _ r4) Tryz.underlying28 rfl (by rw [Tryz.sizeD, List.size_toArray, LDD.out])) rfl ⟨rfl, hb5⟩
  | false =>
    rw [hf] at f1
    have HD := hid (show emptyD n 0 = footD n ks false p.vs from rfl)
    have hDl := footD_len n ks false p.vs
    have RE : w.rangeAt P.ge 0 (ints .u8 (emptyD n 0)) := by
      have h1 := srcD_row h.emp (emps_mem n 256) 256 (by rw [emps_len]; omega) (by simp [maxLen])
      obtain ⟨_, _, _, b, o, _, h4, h5⟩ := h1
      have e := h4 (by rw [emps_len]; omega)
      simp only [Option.some.injEq, Addr.mk.injEq] at e
      obtain ⟨rfl, rfl, -⟩ := e
      have := h5 0 (by rw [emps_len]; omega)
      rwa [emps_get n 256 0 (by omega)] at this
    rw [HD.out] at RE
    have RE1 := rng_below RE hb1 (hlt h.emp)
    generalize footD n ks false p.vs = D at *
    have LDD := hid (show (ints .u8 D).length = 32 by rw [ints_len, hDl])
    have LD2 := hid (show (Tryz.prog.info? 28).map (·.size) = some (ints .u8 D).length by rw [Tryz.sizeD, LDD.out])
    generalize P.ge = ge at *
    clear h hv hf HD RE cf c33 cv c0 LK
    generalize ints .u8 zB = Z at *
    go_enter Tryz.func46, Tryz.ntmps46
    go_wp2_with (first
      | refine wpList_allocV AD.out rfl rfl ?_
      | refine wpList_load_mid rfl 28 _ rfl ge 0 rfl (ints .u8 D) _ RE1 Tryz.underlying28 rfl LD2.out ?_
      | refine wpList_store_row rfl 28 _ _ rfl _ _ rfl rfl 28 _ r0 (by rw [Tryz.sizeD, List.size_toArray, LDD.out]) (by rw [List.size_toArray, List.size_toArray, LDD.out, LZ.out]) (all_oneCell_toArray (ints_one _ _)) ?_)
    exact bodyPost_ret (v := .agg (ints .u8 D).toArray) (results_cell_row Tryz.results46 _ _ w.heap.size 28 _ _ _ rfl (setRow_heap _ _ _ _ _ _ r0) Tryz.underlying28 rfl (by rw [Tryz.sizeD, List.size_toArray, LDD.out])) rfl ⟨rfl, below_setRow hb1 (Nat.le_refl _) _⟩
/-- The two sides of a step. -/
def sideL (ks : List Int) (h : Nat) (d n : List Int) : List Int := if bitK ks (255 - h) = 0 then d else n
def sideR (ks : List Int) (h : Nat) (d n : List Int) : List Int := if bitK ks (255 - h) = 0 then n else d
set_option maxRecDepth 100000 in
set_option maxHeartbeats 4000000 in
theorem sides_any (w : World) (cb : Nat) (P : CkP) (n : Nat) (root ks : List Int) (p : Pf) (NB : List (List Int)) (hV : CkV w cb P n root ks p NB) (h : Nat) (hh : h < 256) (d : List Int) (hd : d.length = 32) :
    Calls Tryz.prog 48 #[.pointer (some ⟨cb, 0, none⟩), .int .i64 h, .agg (ints .u8 d).toArray] w fun en w' => en = .returned (.tuple #[.agg (ints .u8 (sideL ks h d (NB.getD h []))).toArray, .agg (ints .u8 (sideR ks h d (NB.getD h []))).toArray]) ∧ Below w.heap.size w w' := by
  have AD := hid allocDg
  have hcb := hV.cbl
  have ck := hV.key
  have c102 := hV.c102
  obtain ⟨hng, hnr, hnl⟩ := hV.nb h hh
  have hk := hV.hk
  have KB := hid (fun w1 => Bit_in w1 ks hk hV.hy (255 - h) (by omega))
  rw [show (((255 - h : Nat)) : Int) = 255 - (h : Int) by omega] at KB
  have i1 : (h : Int) < 256 := by omega
  have LK := hid (show (Tryz.prog.info? 24).map (·.size) = some (ints .u8 ks).length by rw [Tryz.sizeKy, ints_len, hk])
  have LZ := hid (show (ints .u8 zB).length = 32 from rfl)
  have HL := hid (show sideL ks h d (NB.getD h []) = if bitK ks (255 - h) = 0 then d else NB.getD h [] from rfl)
  have HR := hid (show sideR ks h d (NB.getD h []) = if bitK ks (255 - h) = 0 then NB.getD h [] else d from rfl)
  rw [HL.out, HR.out]
  clear HL HR
  generalize NB.getD h [] = NBh at *
  generalize P.g = pg at *
  generalize P.c = pc at *
  have Ld := hid (show (ints .u8 d).length = 32 by rw [ints_len, hd])
  have LNBh := hid (show (ints .u8 NBh).length = 32 by rw [ints_len, hnl])
  have LD := hid (show (Tryz.prog.info? 28).map (·.size) = some (ints .u8 d).length by rw [Tryz.sizeD, Ld.out])
  have LN := hid (show (Tryz.prog.info? 28).map (·.size) = some (ints .u8 NBh).length by rw [Tryz.sizeD, LNBh.out])
  have d5 := (((BK.nil w).alloc (ints .u8 d) 28).alloc (ints .u8 zB) 28).alloc (ints .u8 zB) 28
  rw [show (w.alloc (.cells (ints .u8 d).toArray 28)).heap.size = w.heap.size + 1 by simp, show ((w.alloc (.cells (ints .u8 d).toArray 28)).alloc (.cells (ints .u8 zB).toArray 28)).heap.size = w.heap.size + 2 by simp] at d5
  have ck1 := rng_below ck d5.1 hcb
  clear hV
  generalize ints .u8 zB = Z at *
  have hb01 := bitK_01 ks (255 - h)
  go_enter Tryz.func48, Tryz.ntmps48
  go_wp2_with (first
    | (refine wpList_allocV AD.out rfl rfl ?_)
    | (refine wpList_load_mid rfl 24 _ rfl cb 34 rfl (ints .u8 ks) _ ck1 Tryz.underlying24 rfl LK.out ?_)
    | (refine (KB.out _).mono ?_; rintro e w2 ⟨rfl, hb2⟩; refine Hid.out ?_))
  refine hid ?_
  replace d5 := d5.call hb2
  have r2 := d5.row (.head _)
  have r1 := d5.row (.tail _ (.head _))
  replace d5 : BK w w2 [(w.heap.size, ints .u8 d, 28)] := d5.sub (fun x hx => .tail _ (.tail _ hx))
  clear KB AD hb2 ck1
  rcases hb01 with hb | hb
  · rw [hb]
    have HI : (if (0 : Int) = 0 then d else NBh) = d := if_pos rfl
    have HJ : (if (0 : Int) = 0 then NBh else d) = NBh := if_pos rfl
    have HI' := hid HI
    have HJ' := hid HJ
    clear HI HJ
    go_wp2_with fail
    refine wp_region_noPanic ?_
    refine wp_region_held_drew (S := (fun w' => BK w w' [(w.heap.size, ints .u8 d, 28)])) (by kernel_rfl) d5.drew (fun hHeld => ?_)
    refine wpAnyH_take (i := 0) (oi := { dst := some 16, op := Op.load 28 (Operand.tmp 5), type := 28, pos := "path.go:27", after := #[], guard := none }) (v := .agg (ints .u8 d).toArray) rfl (by kernel_rfl) (by kernel_rfl) (by kernel_rfl) (fun _ _ _ h => h) (yieldsIf_load_mid (by rfl) 28 _ rfl w.heap.size (0) rfl (ints .u8 d) _ (fun w hS => hS.rng (.head _) (fun j x hx => by rw [Nat.zero_add]; exact hx)) Tryz.underlying28 rfl LD.out) hHeld ?_
    try simp only [Act.put, List.setIfInBounds_toArray, List.set_cons_zero, List.set_cons_succ]
    refine wpAnyH_take (i := 1) (oi := { dst := some 17, op := Op.move (Operand.tmp 0), type := 60, pos := "path.go:27", after := #[{ on := 8, ground := Ground.gcOnly Departure.lateStores }], guard := none }) (v := .pointer (some ⟨cb, 0, none⟩)) rfl (by kernel_rfl) (by kernel_rfl) (by kernel_rfl) (fun _ _ _ h => h) (Or.inl ⟨by rfl, by intro w hS; go_simp⟩) hHeld ?_
    try simp only [Act.put, List.setIfInBounds_toArray, List.set_cons_zero, List.set_cons_succ]
    refine wpAnyH_take (i := 5) (oi := { dst := some 21, op := Op.move (Operand.tmp 1), type := 3, pos := "path.go:27", after := #[{ on := 8, ground := Ground.gcOnly Departure.lateStores }], guard := none }) (v := .int .i64 h) rfl (by kernel_rfl) (by kernel_rfl) (by kernel_rfl) (fun _ _ _ h => h) (Or.inl ⟨by rfl, by intro w hS; go_simp⟩) hHeld ?_
    try simp only [Act.put, List.setIfInBounds_toArray, List.set_cons_zero, List.set_cons_succ]
    refine wpAnyH_take (i := 2) (oi := { dst := some 18, op := Op.nilCheck (Operand.tmp 17), type := 0, pos := "path.go:27", after := #[{ on := 1, ground := Ground.data }, { on := 8, ground := Ground.gcOnly Departure.lateStores }], guard := none }) (v := .pointer (some ⟨cb, 0, none⟩)) rfl (by kernel_rfl) (by kernel_rfl) (by kernel_rfl) (fun _ _ _ h => h) (Or.inl ⟨by rfl, by intro w hS; go_simp⟩) hHeld ?_
    try simp only [Act.put, List.setIfInBounds_toArray, List.set_cons_zero, List.set_cons_succ]
    refine wpAnyH_take (i := 3) (oi := { dst := some 19, op := Op.fieldAddr 64 (Operand.tmp 18) 4, type := 0, pos := "path.go:27", after := #[{ on := 2, ground := Ground.data }, { on := 8, ground := Ground.gcOnly Departure.lateStores }], guard := none }) (v := .pointer (some ⟨cb, 102, none⟩)) rfl (by kernel_rfl) (by kernel_rfl) (by kernel_rfl) (fun _ _ _ h => h) (Or.inl ⟨by rfl, by intro w hS; go_simp⟩) hHeld ?_
    try simp only [Act.put, List.setIfInBounds_toArray, List.set_cons_zero, List.set_cons_succ]
    refine wpAnyH_take (i := 4) (oi := { dst := some 20, op := Op.load 48 (Operand.tmp 19), type := 48, pos := "path.go:27", after := #[{ on := 3, ground := Ground.data }, { on := 8, ground := Ground.gcOnly Departure.lateStores }], guard := none }) (v := .slice (some ⟨pg, 0, none⟩) 256 pc) rfl (by kernel_rfl) (by kernel_rfl) (by kernel_rfl) (fun _ _ _ h => h) (Or.inl ⟨by rfl, by intro w hS; have hc := (hS.1.cell (p := ⟨cb, 102, none⟩) hcb).trans c102; go_simp⟩) hHeld ?_
    try simp only [Act.put, List.setIfInBounds_toArray, List.set_cons_zero, List.set_cons_succ]
    refine wpAnyH_take (i := 6) (oi := { dst := some 22, op := Op.indexAddr 48 (Operand.tmp 20) (Operand.tmp 21), type := 0, pos := "path.go:27", after := #[{ on := 4, ground := Ground.data }, { on := 5, ground := Ground.data }, { on := 8, ground := Ground.gcOnly Departure.lateStores }], guard := none }) (v := .pointer (some ⟨pg, 0 + h * 32, none⟩)) rfl (by kernel_rfl) (by kernel_rfl) (by kernel_rfl) (fun _ _ _ h => h) (Or.inl ⟨by rfl, by intro w hS; go_simp⟩) hHeld ?_
    try simp only [Act.put, List.setIfInBounds_toArray, List.set_cons_zero, List.set_cons_succ]
    refine wpAnyH_take (i := 7) (oi := { dst := some 23, op := Op.load 28 (Operand.tmp 22), type := 28, pos := "path.go:27", after := #[{ on := 6, ground := Ground.data }, { on := 8, ground := Ground.gcOnly Departure.lateStores }], guard := none }) (v := .agg (ints .u8 NBh).toArray) rfl (by kernel_rfl) (by kernel_rfl) (by kernel_rfl) (fun _ _ _ h => h) (yieldsIf_load_mid (by rfl) 28 _ rfl pg (0 + h * 32) rfl (ints .u8 NBh) _ (fun w hS => rng_below hnr hS.1 hng) Tryz.underlying28 rfl LN.out) hHeld ?_
    try simp only [Act.put, List.setIfInBounds_toArray, List.set_cons_zero, List.set_cons_succ]
    refine wpAnyH_ready (rs := [8]) (by kernel_rfl) (by simp) ?_
    refine (AllReadyH.cons (o := { dst := none, op := Op.store 28 (Operand.tmp 6) (Operand.tmp 16), type := 0, pos := "path.go:27", after := #[{ on := 0, ground := Ground.data }, { on := 0, ground := Ground.phase }, { on := 1, ground := Ground.textOnly Departure.lateStores }, { on := 2, ground := Ground.textOnly Departure.lateStores }, { on := 3, ground := Ground.textOnly Departure.lateStores }, { on := 4, ground := Ground.textOnly Departure.lateStores }, { on := 5, ground := Ground.textOnly Departure.lateStores }, { on := 6, ground := Ground.textOnly Departure.lateStores }, { on := 7, ground := Ground.textOnly Departure.lateStores }], guard := none }) rfl (fun K hK => ?_) AllReadyH.nil)
    rw [if_pos (by rfl)]
    refine wp_store_row 28 _ _ rfl (w.heap.size + 1) (ints .u8 d).toArray rfl rfl 28 _ (show w2.drew.heap[w.heap.size + 1]? = _ from r1) (by rw [Tryz.sizeD, List.size_toArray, Ld.out]) (by rw [List.size_toArray, List.size_toArray, Ld.out, LZ.out]) (all_oneCell_toArray (ints_one _ _)) ?_
    have q8 := (setRow_other w2.drew (w.heap.size + 1) (w.heap.size + 2) (ints .u8 d).toArray (by omega)).trans (show w2.drew.heap[w.heap.size + 2]? = _ from r2)
    have p8 := setRow_heap w2.drew (w.heap.size + 1) _ (ints .u8 d).toArray _ _ (show w2.drew.heap[w.heap.size + 1]? = _ from r1)
    refine hK.out _ _ (hHeld.setO (by omega) (by intro x hx; simp only [List.mem_cons, List.not_mem_nil, or_false] at hx; subst hx; simp) _) (fun hHeld2 => ?_)
    clear hK K hHeld
    have hHeld := hHeld2
    clear hHeld2
    try simp only [Act.put, List.setIfInBounds_toArray, List.set_cons_zero, List.set_cons_succ]
    refine wpAnyH_ready (rs := [9]) (by kernel_rfl) (by simp) ?_
    refine (AllReadyH.cons (o := { dst := none, op := Op.store 28 (Operand.tmp 7) (Operand.tmp 23), type := 0, pos := "path.go:27", after := #[{ on := 7, ground := Ground.data }, { on := 8, ground := Ground.chain }, { on := 0, ground := Ground.phase }, { on := 1, ground := Ground.phase }, { on := 2, ground := Ground.phase }, { on := 3, ground := Ground.phase }, { on := 4, ground := Ground.phase }, { on := 5, ground := Ground.phase }, { on := 6, ground := Ground.phase }, { on := 7, ground := Ground.phase }, { on := 8, ground := Ground.phase }], guard := none }) rfl (fun K hK => ?_) AllReadyH.nil)
    rw [if_pos (by rfl)]
    refine wp_store_row 28 _ _ rfl (w.heap.size + 2) (ints .u8 NBh).toArray rfl rfl 28 _ q8 (by rw [Tryz.sizeD, List.size_toArray, LNBh.out]) (by rw [List.size_toArray, List.size_toArray, LNBh.out, LZ.out]) (all_oneCell_toArray (ints_one _ _)) ?_
    have p9 := (setRow_other _ (w.heap.size + 2) (w.heap.size + 1) (ints .u8 NBh).toArray (by omega)).trans p8
    have q9 := setRow_heap _ (w.heap.size + 2) _ (ints .u8 NBh).toArray _ _ q8
    refine hK.out _ _ (hHeld.setO (by omega) (by intro x hx; simp only [List.mem_cons, List.not_mem_nil, or_false] at hx; subst hx; simp) _) (fun hHeld2 => ?_)
    clear hK K hHeld
    have hHeld := hHeld2
    clear hHeld2
    try simp only [Act.put, List.setIfInBounds_toArray, List.set_cons_zero, List.set_cons_succ]
    refine wpAnyH_done (by kernel_rfl) ?_ _
    refine NoPanic.normal ?_
    go_wp2
    exact bodyPost_ret (v := .tuple #[.agg (ints .u8 d).toArray, .agg (ints .u8 NBh).toArray]) (results_cc Tryz.results48 _ _ (w.heap.size + 1) 28 _ _ _ rfl p9 Tryz.underlying28 rfl (by rw [Tryz.sizeD, List.size_toArray, Ld.out]) (w.heap.size + 2) (.agg (ints .u8 NBh).toArray) rfl (run_loadVar_row _ _ 28 28 _ _ _ q9 Tryz.underlying28 rfl (by rw [Tryz.sizeD, List.size_toArray, LNBh.out]))) rfl ⟨rfl, hHeld.1⟩
  · rw [hb]
    have HI : (if (1 : Int) = 0 then d else NBh) = NBh := if_neg (by decide)
    have HJ : (if (1 : Int) = 0 then NBh else d) = d := if_neg (by decide)
    have HI' := hid HI
    have HJ' := hid HJ
    clear HI HJ
    go_wp2_with fail
    refine wp_region_noPanic ?_
    refine wp_region_held_drew (S := (fun w' => BK w w' [(w.heap.size, ints .u8 d, 28)])) (by kernel_rfl) d5.drew (fun hHeld => ?_)
    refine wpAnyH_take (i := 0) (oi := { dst := some 24, op := Op.move (Operand.tmp 0), type := 60, pos := "path.go:29", after := #[], guard := none }) (v := .pointer (some ⟨cb, 0, none⟩)) rfl (by kernel_rfl) (by kernel_rfl) (by kernel_rfl) (fun _ _ _ h => h) (Or.inl ⟨by rfl, by intro w hS; go_simp⟩) hHeld ?_
    try simp only [Act.put, List.setIfInBounds_toArray, List.set_cons_zero, List.set_cons_succ]
    refine wpAnyH_take (i := 4) (oi := { dst := some 28, op := Op.move (Operand.tmp 1), type := 3, pos := "path.go:29", after := #[], guard := none }) (v := .int .i64 h) rfl (by kernel_rfl) (by kernel_rfl) (by kernel_rfl) (fun _ _ _ h => h) (Or.inl ⟨by rfl, by intro w hS; go_simp⟩) hHeld ?_
    try simp only [Act.put, List.setIfInBounds_toArray, List.set_cons_zero, List.set_cons_succ]
    refine wpAnyH_take (i := 7) (oi := { dst := some 31, op := Op.load 28 (Operand.tmp 5), type := 28, pos := "path.go:29", after := #[{ on := 8, ground := Ground.gcOnly Departure.lateStores }], guard := none }) (v := .agg (ints .u8 d).toArray) rfl (by kernel_rfl) (by kernel_rfl) (by kernel_rfl) (fun _ _ _ h => h) (yieldsIf_load_mid (by rfl) 28 _ rfl w.heap.size (0) rfl (ints .u8 d) _ (fun w hS => hS.rng (.head _) (fun j x hx => by rw [Nat.zero_add]; exact hx)) Tryz.underlying28 rfl LD.out) hHeld ?_
    try simp only [Act.put, List.setIfInBounds_toArray, List.set_cons_zero, List.set_cons_succ]
    refine wpAnyH_take (i := 1) (oi := { dst := some 25, op := Op.nilCheck (Operand.tmp 24), type := 0, pos := "path.go:29", after := #[{ on := 0, ground := Ground.data }], guard := none }) (v := .pointer (some ⟨cb, 0, none⟩)) rfl (by kernel_rfl) (by kernel_rfl) (by kernel_rfl) (fun _ _ _ h => h) (Or.inl ⟨by rfl, by intro w hS; go_simp⟩) hHeld ?_
    try simp only [Act.put, List.setIfInBounds_toArray, List.set_cons_zero, List.set_cons_succ]
    refine wpAnyH_take (i := 2) (oi := { dst := some 26, op := Op.fieldAddr 64 (Operand.tmp 25) 4, type := 0, pos := "path.go:29", after := #[{ on := 1, ground := Ground.data }], guard := none }) (v := .pointer (some ⟨cb, 102, none⟩)) rfl (by kernel_rfl) (by kernel_rfl) (by kernel_rfl) (fun _ _ _ h => h) (Or.inl ⟨by rfl, by intro w hS; go_simp⟩) hHeld ?_
    try simp only [Act.put, List.setIfInBounds_toArray, List.set_cons_zero, List.set_cons_succ]
    refine wpAnyH_take (i := 3) (oi := { dst := some 27, op := Op.load 48 (Operand.tmp 26), type := 48, pos := "path.go:29", after := #[{ on := 2, ground := Ground.data }], guard := none }) (v := .slice (some ⟨pg, 0, none⟩) 256 pc) rfl (by kernel_rfl) (by kernel_rfl) (by kernel_rfl) (fun _ _ _ h => h) (Or.inl ⟨by rfl, by intro w hS; have hc := (hS.1.cell (p := ⟨cb, 102, none⟩) hcb).trans c102; go_simp⟩) hHeld ?_
    try simp only [Act.put, List.setIfInBounds_toArray, List.set_cons_zero, List.set_cons_succ]
    refine wpAnyH_take (i := 5) (oi := { dst := some 29, op := Op.indexAddr 48 (Operand.tmp 27) (Operand.tmp 28), type := 0, pos := "path.go:29", after := #[{ on := 3, ground := Ground.data }, { on := 4, ground := Ground.data }], guard := none }) (v := .pointer (some ⟨pg, 0 + h * 32, none⟩)) rfl (by kernel_rfl) (by kernel_rfl) (by kernel_rfl) (fun _ _ _ h => h) (Or.inl ⟨by rfl, by intro w hS; go_simp⟩) hHeld ?_
    try simp only [Act.put, List.setIfInBounds_toArray, List.set_cons_zero, List.set_cons_succ]
    refine wpAnyH_take (i := 6) (oi := { dst := some 30, op := Op.load 28 (Operand.tmp 29), type := 28, pos := "path.go:29", after := #[{ on := 5, ground := Ground.data }], guard := none }) (v := .agg (ints .u8 NBh).toArray) rfl (by kernel_rfl) (by kernel_rfl) (by kernel_rfl) (fun _ _ _ h => h) (yieldsIf_load_mid (by rfl) 28 _ rfl pg (0 + h * 32) rfl (ints .u8 NBh) _ (fun w hS => rng_below hnr hS.1 hng) Tryz.underlying28 rfl LN.out) hHeld ?_
    try simp only [Act.put, List.setIfInBounds_toArray, List.set_cons_zero, List.set_cons_succ]
    refine wpAnyH_ready (rs := [8]) (by kernel_rfl) (by simp) ?_
    refine (AllReadyH.cons (o := { dst := none, op := Op.store 28 (Operand.tmp 6) (Operand.tmp 30), type := 0, pos := "path.go:29", after := #[{ on := 6, ground := Ground.data }, { on := 0, ground := Ground.phase }, { on := 1, ground := Ground.phase }, { on := 2, ground := Ground.phase }, { on := 3, ground := Ground.phase }, { on := 4, ground := Ground.phase }, { on := 5, ground := Ground.phase }, { on := 6, ground := Ground.phase }, { on := 7, ground := Ground.textOnly Departure.lateStores }], guard := none }) rfl (fun K hK => ?_) AllReadyH.nil)
    rw [if_pos (by rfl)]
    refine wp_store_row 28 _ _ rfl (w.heap.size + 1) (ints .u8 NBh).toArray rfl rfl 28 _ (show w2.drew.heap[w.heap.size + 1]? = _ from r1) (by rw [Tryz.sizeD, List.size_toArray, LNBh.out]) (by rw [List.size_toArray, List.size_toArray, LNBh.out, LZ.out]) (all_oneCell_toArray (ints_one _ _)) ?_
    have q8 := (setRow_other w2.drew (w.heap.size + 1) (w.heap.size + 2) (ints .u8 NBh).toArray (by omega)).trans (show w2.drew.heap[w.heap.size + 2]? = _ from r2)
    have p8 := setRow_heap w2.drew (w.heap.size + 1) _ (ints .u8 NBh).toArray _ _ (show w2.drew.heap[w.heap.size + 1]? = _ from r1)
    refine hK.out _ _ (hHeld.setO (by omega) (by intro x hx; simp only [List.mem_cons, List.not_mem_nil, or_false] at hx; subst hx; simp) _) (fun hHeld2 => ?_)
    clear hK K hHeld
    have hHeld := hHeld2
    clear hHeld2
    try simp only [Act.put, List.setIfInBounds_toArray, List.set_cons_zero, List.set_cons_succ]
    refine wpAnyH_ready (rs := [9]) (by kernel_rfl) (by simp) ?_
    refine (AllReadyH.cons (o := { dst := none, op := Op.store 28 (Operand.tmp 7) (Operand.tmp 31), type := 0, pos := "path.go:29", after := #[{ on := 7, ground := Ground.data }, { on := 8, ground := Ground.chain }, { on := 0, ground := Ground.phase }, { on := 1, ground := Ground.phase }, { on := 2, ground := Ground.phase }, { on := 3, ground := Ground.phase }, { on := 4, ground := Ground.phase }, { on := 5, ground := Ground.phase }, { on := 6, ground := Ground.phase }, { on := 7, ground := Ground.phase }, { on := 8, ground := Ground.phase }], guard := none }) rfl (fun K hK => ?_) AllReadyH.nil)
    rw [if_pos (by rfl)]
    refine wp_store_row 28 _ _ rfl (w.heap.size + 2) (ints .u8 d).toArray rfl rfl 28 _ q8 (by rw [Tryz.sizeD, List.size_toArray, Ld.out]) (by rw [List.size_toArray, List.size_toArray, Ld.out, LZ.out]) (all_oneCell_toArray (ints_one _ _)) ?_
    have p9 := (setRow_other _ (w.heap.size + 2) (w.heap.size + 1) (ints .u8 d).toArray (by omega)).trans p8
    have q9 := setRow_heap _ (w.heap.size + 2) _ (ints .u8 d).toArray _ _ q8
    refine hK.out _ _ (hHeld.setO (by omega) (by intro x hx; simp only [List.mem_cons, List.not_mem_nil, or_false] at hx; subst hx; simp) _) (fun hHeld2 => ?_)
    clear hK K hHeld
    have hHeld := hHeld2
    clear hHeld2
    try simp only [Act.put, List.setIfInBounds_toArray, List.set_cons_zero, List.set_cons_succ]
    refine wpAnyH_done (by kernel_rfl) ?_ _
    refine NoPanic.normal ?_
    go_wp2
    exact bodyPost_ret (v := .tuple #[.agg (ints .u8 NBh).toArray, .agg (ints .u8 d).toArray]) (results_cc Tryz.results48 _ _ (w.heap.size + 1) 28 _ _ _ rfl p9 Tryz.underlying28 rfl (by rw [Tryz.sizeD, List.size_toArray, LNBh.out]) (w.heap.size + 2) (.agg (ints .u8 d).toArray) rfl (run_loadVar_row _ _ 28 28 _ _ _ q9 Tryz.underlying28 rfl (by rw [Tryz.sizeD, List.size_toArray, Ld.out]))) rfl ⟨rfl, hHeld.1⟩
end Go.Proofs.YtbjahdbmkcamoaaGreatDoor
