import Derived.Test.YtihkjfbhmlfonaaSk
import Derived.Test.YtihkjfbhmlfonaaMf6
namespace Go.Proofs.Ytihkjfbhmlfonaa
set_option linter.unusedVariables false
set_option linter.unusedSimpArgs false
open Go.RowKit
open Go.Proofs.Ytihkjfbhmlfonaa.Ca (Ct ct0 ctC argV AS)
attribute [local go_sem ↓] Go.wp_at_zero Go.wp_at_succ

theorem StB.e3 {E E' : Int} {S S' : Sto} (h : StB 3 E S S') : StB 3 E' S S' := ⟨h.p, h.g, h.st, h.rd, h.mi, h.hi, h.go, fun q => absurd q (by decide), by have := h.wr; rw [if_neg (by omega)] at this ⊢; exact this, by have := h.sy; rw [if_neg (by omega)] at this ⊢; exact this⟩
theorem bytsB {zs : List Int} (h : Byts zs) (j : Nat) : 0 ≤ zs.getD j 0 ∧ zs.getD j 0 < 256 := by
  by_cases q : j < zs.length
  · rw [List.getD_eq_getElem?_getD, List.getElem?_eq_getElem q]; exact h _ (List.getElem_mem q)
  · rw [List.getD_eq_getElem?_getD, List.getElem?_eq_none (by omega)]; exact ⟨Int.le_refl _, by decide⟩
theorem padz_ln (n : Nat) : (padz [] n).length = n := by simp [padz]
theorem own_made (w1 : World) (base g n : Nat) (hb : base ≤ g) (hn : n ≤ maxLen) (h : w1.heap[g]? = some (.cells (ints .u8 (padz [] n)).toArray 5 (0, 0))) : Own w1 base (.slice (some ⟨g, 0, none⟩) n n) (padz [] n) := by
  refine ⟨by simp [ints, padz], Or.inr ⟨g, n, (ints .u8 (padz [] n)).toArray, by simp [padz], hb, h, by simp [padz], hn, by simp [ints, padz], by simp [ints, padz]⟩⟩
set_option maxRecDepth 100000 in
set_option maxHeartbeats 1000000 in
theorem one_stage_fo (w : World) (base : Nat) (S : Sto) (n : Nat) (o : Sup) (L : List (Int × List Int)) (b rm : Nat) (h : Sb w base S n o L b rm) (hb : b ≤ 1000000000) (W : Wr) (c : Nat) (hW : WO w base W c) (hr : RmO W S) (hc : c ≤ 1000000000) (zr : List Int) (h8 : Byts zr) (hl : zr.length ≤ 140737488352000) (hzr : W.zr.length = 600) (hq : (((W.turn : Int) + 1) % 2 == 0) = false) (at_ nn m_ : Int) (sp : Option Addr) (l cap bt : Nat) (hlz : l = zr.length) (hS : Src w sp cap zr) (hlow : 0 < zr.length → ∀ a, sp = some a → a.block < base) :
    Calls Try.prog 11 #[.pointer (some ⟨W.g, 0, none⟩), .pointer (some ⟨S.st, 0, none⟩), .agg (opC 3 at_ nn m_ (.slice sp l cap) bt)] w (OneP w base S n rm b 3 W c) := by
  obtain ⟨w2, hw2⟩ : ∃ w2, w2 = (w.alloc (.cells (opC 3 at_ nn m_ (.slice sp l cap) bt) 41)).alloc (.cells #[.int .i64 0, .int .i64 0, .bool false, .slice none 0 0, .int .i64 0, .int .i64 0, .int .i64 0, .int .i64 0, .int .i64 0, .int .i64 0, .int .i64 0, .int .i64 0, .int .i64 0, .int .i64 0, .int .i64 0, .int .i64 0, .int .i64 0, .int .i64 0] 58) := ⟨_, rfl⟩
  have HW2 := hid hw2
  have hP : Pn w w2 (opC 3 at_ nn m_ (.slice sp l cap) bt) := by rw [hw2]; exact Pn.mk' w _
  have k0 : w2.cell? ⟨w.heap.size, 0, none⟩ = some (.int .i64 3) := by rw [cell_of_row _ _ _ _ _ _ hP.op]; rfl
  have k2 : w2.cell? ⟨w.heap.size, 2, none⟩ = some (.int .i64 nn) := by rw [cell_of_row _ _ _ _ _ _ hP.op]; rfl
  have h2 := h.below hP.bl
  have k4 : w2.cell? ⟨w.heap.size, 4, none⟩ = some (.slice sp l cap) := by rw [cell_of_row _ _ _ _ _ _ hP.op]; rfl
  subst hlz
  have HSH := hid (hshort_any w2 zr sp cap (hS.below hP.bl (Nat.le_refl _)) (by omega) 300 (by omega))
  have hW2 := hW.below hP.bl
  have HP := hid hP
  have HH := hid h
  have HWW := hid hW
  have HRR := hid hr
  have HSS := hid hS
  have HLO := hid hlow
  have H8 := hid h8
  have HLN := hid hl
  have HTU := hid hW.tu
  have HFL := hid (fun k hk => (hW.ty (k := k) hk).2.1)
  clear h h2 hW hr hP hS hlow h8 hl
  rw [hw2] at k0 k2 k4
  clear hw2
  go_enter Try.func11, Try.ntmps11
  go_wp2_with (first
    | refine wpList_box_Op rfl (.tmp 2) rfl _ at_ nn m_ sp l cap bt rfl ?_)
  rw [← HW2.out]
  refine HSH.out.mono ?_
  rintro e w3 ⟨v3, rfl, hO3, hb3⟩
  obtain ⟨s3, c3, rfl, _, _⟩ := hO3.form
  have hk3 : (zr.take 300).length ≤ 300 := by rw [List.length_take]; omega
  have hk4 : (zr.take 300).length ≤ zr.length := by rw [List.length_take]; omega
  generalize (zr.take 300).length = kk at *
  have hW3 := hW2.below hb3
  obtain ⟨_, _, _, c5, _, f5⟩ := hW3.cells
  have f5b := f5 5
  clear f5
  have hWt := hW3.turned
  obtain ⟨_, _, _, d5, d6, df⟩ := hWt.cells
  have df6 := df 6
  clear df
  have hti : (W.turn : Int) ≤ 1000000000 := by have := HTU.out; omega
  have hti0 : (0 : Int) ≤ (W.turn : Int) := by omega
  have d5b : (w3.setCell ⟨W.g, 5, none⟩ (.int .i64 ((W.turn : Int) + 1))).cell? ⟨W.g, 5, none⟩ = some (.int .i64 ((W.turn : Int) + 1)) := d5
  have HWT := hid hWt
  have HB3 := hid hb3
  have hrm := hWt.rm
  have HRM := hid hrm
  obtain ⟨spR, capR, hR, _, _⟩ := hrm.form
  have hR2 : W.room = .slice spR W.zr.length capR := hR
  have d6b : (w3.setCell ⟨W.g, 5, none⟩ (.int .i64 ((W.turn : Int) + 1))).cell? ⟨W.g, 6, none⟩ = some (.slice spR W.zr.length capR) := d6.trans (by rw [← hR2])
  have hR2a := hid hR2
  clear d5 d6 hO3 hb3 hW3 hWt hW2 HSH k0 k2 k4 hrm hR hR2
  rw [hzr] at d6b
  obtain ⟨wA, hwA⟩ : ∃ wA, wA = w3.setCell ⟨W.g, 5, none⟩ (.int .i64 ((W.turn : Int) + 1)) := ⟨_, rfl⟩
  have HWA := hid hwA
  obtain ⟨gA, hgA, capA, hcA, restA, hiA⟩ : ∃ gA, spR = some ⟨gA, 0, none⟩ ∧ ∃ capA, capR = capA ∧ ∃ rest, base ≤ gA ∧ W.zr.length ≤ capR := by
    rcases Bo.own_parts (hR2a.out ▸ HRM.out) with ⟨e, _⟩ | ⟨g, cap2, rest, e, q1, q2, q3, q4, q5⟩
    · injection e with _ e2 _; omega
    · injection e with e1 e2 e3
      exact ⟨g, e1, _, rfl, rest, q1, by omega⟩
  subst hgA hcA
  have hcap600 : (600 : Int) ≤ (capR : Int) := by omega
  obtain ⟨zA, hzA⟩ : ∃ zA, zA = W.zr := ⟨_, rfl⟩
  have HZA : Hid (zA.length = 600) := hid (by rw [hzA]; exact hzr)
  have HOA : Hid (Own wA base (.slice (some ⟨gA, 0, none⟩) 600 capR) zA) := hid (by rw [hwA, hzA]; have := HRM.out; rw [hR2a.out, hzr] at this; exact this)
  have hrg : W.room.ownBlock = some gA := by rw [hR2a.out]; rfl
  have hgm : gA ∈ W.fp := (W.mem _).2 (by simp [hrg])
  have hgl : gA < w.heap.size := HFL.out gA hgm
  have hgl2 := HFL.out W.g ((W.mem _).2 (by simp))
  have hPs := HP.out.sz
  have hBs := HB3.out.size
  have hAs : wA.heap.size = w3.heap.size := by rw [hwA, World.size_setCell]
  have hAe : ∀ k, k ≠ W.g → wA.heap[k]? = w3.heap[k]? := fun k e => by rw [hwA]; exact heap_setCell_other w3 ⟨W.g, 5, none⟩ k _ e
  have HSA : Hid (w.heap.size + 2 ≤ wA.heap.size) := hid (by omega)
  have HBWA : Hid (Below base w wA) := hid (by
    rw [hwA]
    have hbw := HH.out.sx.sk.base
    exact ((HP.out.bl.mono hbw).trans (HB3.out.mono (Nat.le_trans hbw HP.out.bl.size))).setCell HWW.out.hg _)
  have HGA : Hid (gA < wA.heap.size ∧ gA ∉ S.fp ∧ gA ≠ w.heap.size ∧ gA ≠ w.heap.size + 1) := hid ⟨by omega, HRR.out gA hrg, by omega, by omega⟩
  have HOPA : Hid (wA.heap[w.heap.size]? = some (.cells (opC 3 at_ nn m_ (.slice sp zr.length cap) bt) 41 (0, 0))) := hid ((hAe _ (by omega)).trans ((HB3.out.block _ (by omega)).trans HP.out.op))
  have HANA : Hid (wA.heap[w.heap.size + 1]? = some (.cells anZ 58 (0, 0))) := hid ((hAe _ (by omega)).trans ((HB3.out.block _ (by omega)).trans HP.out.an))
  have HF5A : Hid (∀ k, k < w.heap.size → k ∉ W.fp → k ≠ gA ∧ wA.heap[k]? = w.heap[k]?) := hid (fun k e1 e2 => ⟨fun e => e2 (e ▸ hgm), (hAe k (fun e => e2 ((W.mem _).2 (by simp [e])))).trans ((HB3.out.block k (by omega)).trans (HP.out.bl.block k e1))⟩)
  obtain ⟨W1, hW0, hTR, hW1g, hW1R⟩ : ∃ W1 : List Int → Wr, WO wA base (W1 zA) (c + 1) ∧ (∀ (wa wb : World) (z z' : List Int), WO wa base (W1 z) (c + 1) → Own wb base (.slice (some ⟨gA, 0, none⟩) 600 capR) z' → z'.length = 600 → (∀ k, k < wa.heap.size → k ≠ gA → wb.heap[k]? = wa.heap[k]?) → WO wb base (W1 z') (c + 1)) ∧ (∀ z, (W1 z).g = W.g) ∧ (∀ z k, (W1 z).room.ownBlock = some k → k < wA.heap.size ∧ k ∉ S.fp ∧ k ≠ w.heap.size + 1) := by
    refine ⟨fun z => { W with turn := W.turn + 1, zr := z }, ?_, fun wa wb z z' h1 h2 h3 h4 => ?_, fun _ => rfl, fun z k e => ?_⟩
    · rw [hzA, hwA]; exact HWT.out
    · exact h1.rewr z' (by show Own wb base W.room z'; rw [hR2a.out, hzr]; exact h2) (Or.inr h3) (fun k hk q => h4 k (h1.ty hk).2.1 (fun e => q (by show W.room.ownBlock = some k; rw [hrg, e])))
    · obtain rfl : gA = k := by have e : W.room.ownBlock = some k := e; rw [hrg] at e; simpa using e
      exact ⟨by omega, HRR.out gA hrg, by omega⟩
  have HW0 := hid hW0
  have HTR := hid hTR
  have HW1g := hid hW1g
  have HW1R := hid hW1R
  clear hW0 hTR hW1g hW1R hrg hgm hgl hgl2 hPs hBs hAs hAe hzA
  go_wp2_with fail
  rw [← HWA.out]
  clear hwA
  go_loopw [13] (fun i wr => ∃ k : Nat, k ≤ 600 ∧ i = .int .i64 k ∧ Own wr base (.slice (some ⟨gA, 0, none⟩) 600 capR) (List.replicate k 250 ++ zA.drop k) ∧ Bo.KV wA base (.slice (some ⟨gA, 0, none⟩) 600 capR) wr) (fun i _ => 600 - (intOf i).toNat)
  case atStart => exact ⟨0, by omega, rfl, HOA.out, Bo.KV.refl _ _ _⟩
  case round =>
    obtain ⟨k, hk, rfl, hO, hK⟩ := hrel
    by_cases hkn : k < 600
    · have i1 : (k : Int) < 600 := by omega
      have hlen : (List.replicate k (250 : Int) ++ zA.drop k).length = 600 := by rw [List.length_append, List.length_replicate, List.length_drop, HZA.out]; omega
      obtain ⟨g, hg0, hg, c0, f0, hset⟩ := Bo.own_set (m := 250) hO (by rw [hlen]; exact hkn)
      obtain rfl : gA = g := by injection hg0 with hg0; injection hg0
      have HR := hid (show (List.replicate k (250 : Int) ++ zA.drop k).set k 250 = List.replicate (k + 1) 250 ++ zA.drop (k + 1) by
        have hko : k < zA.length := by rw [HZA.out]; exact hkn
        rw [List.set_append_right _ _ (by simp), List.length_replicate, Nat.sub_self, List.drop_eq_getElem_cons hko, List.set_cons_zero, List.replicate_succ', List.append_assoc]; rfl)
      replace hlen := hid hlen
      generalize (List.replicate k (250 : Int) ++ zA.drop k).getD k 0 = zz at *
      replace hset := hid hset
      replace hO := hid hO
      clear hg0
      go_wp2
      go_roundw
      case rel => exact ⟨k + 1, by omega, by go_num, (by rw [← HR.out]; exact hset.out), hK.step (Bo.At.self _ _) ((Below.refl _ _).setCell hg _) (fun kk _ q2 => Bo.heap_set_ne (show kk ≠ gA from fun e => q2 (by rw [e]; rfl)))⟩
      case measure => simp [intOf]; omega
    · obtain rfl : k = 600 := by omega
      clear hkn
      rw [List.drop_of_length_le (by rw [HZA.out]; exact Nat.le_refl _), List.append_nil] at hO
      have HK := hid hK
      have HOP : Hid (∀ wr, Bo.KV wA base (.slice (some ⟨gA, 0, none⟩) 600 capR) wr → wr.heap[w.heap.size]? = some (.cells (opC 3 at_ nn m_ (.slice sp zr.length cap) bt) 41 (0, 0))) := hid (fun wr q => (q.2 _ (by have := HSA.out; omega) (fun e => HGA.out.2.2.1 (by simpa [Value.ownBlock] using e))).trans HOPA.out)
      have HRAW : Hid (∀ wr, Bo.KV wA base (.slice (some ⟨gA, 0, none⟩) 600 capR) wr → ∀ j, j < zr.length → ∃ b o, sp = some ⟨b, o, none⟩ ∧ wr.cell? ⟨b, o + j, none⟩ = some (.int .u8 (zr.getD j 0))) := hid (fun wr q j hj => by
        obtain ⟨_, _, b, o, _, h2, h3⟩ := HSS.out
        refine ⟨b, o, h2 (by omega), ?_⟩
        have hb := HLO.out (by omega) _ (h2 (by omega))
        exact ((HBWA.out.trans q.1).cell (p := ⟨b, o + j, none⟩) hb).trans (h3 j hj))
      have hkk : (kk : Int) ≤ 300 := by omega
      go_wp2_with fail
      go_loopw [14] (fun i wr => ∃ (j : Nat) (zs : List Int), j ≤ kk ∧ i = .int .i64 j ∧ Own wr base (.slice (some ⟨gA, 0, none⟩) 600 capR) zs ∧ zs.length = 600 ∧ Byts zs ∧ Bo.KV wA base (.slice (some ⟨gA, 0, none⟩) 600 capR) wr) (fun i _ => kk - (intOf i).toNat)
      case atStart => exact ⟨0, List.replicate 600 250, by omega, rfl, hO, by simp, (by intro x hx; rw [List.eq_of_mem_replicate hx]; exact ⟨by omega, by omega⟩), HK.out⟩
      case round =>
        clear hO hK HK
        obtain ⟨j, zs, hj, rfl, hO, hzl, hz8, hK⟩ := hrel
        by_cases hjn : j < kk
        · have i1 : (j : Int) < (kk : Int) := by omega
          have i2 : (j : Int) < 600 := by omega
          have i3 : (j : Int) < (zr.length : Int) := by omega
          obtain ⟨rb, ro, rfl, cr⟩ := HRAW.out _ hK j (by omega)
          have ck4 : wr.cell? ⟨w.heap.size, 4, none⟩ = some (.slice (some ⟨rb, ro, none⟩) zr.length cap) := by rw [cell_of_row _ _ _ _ _ _ (HOP.out _ hK)]; rfl
          have hy8 : 0 ≤ zr.getD j 0 ∧ zr.getD j 0 < 256 := bytsB H8.out j
          generalize zr.getD j 0 = y at *
          obtain ⟨g, hg0, hg, c0, f0, hset⟩ := Bo.own_set (k := j) (m := y) hO (by rw [hzl]; omega)
          obtain rfl : gA = g := by injection hg0 with hg0; injection hg0
          have HS8 : Hid (Byts (zs.set j y)) := hid (fun x hx => by
            rcases List.mem_or_eq_of_mem_set hx with q | q
            · exact hz8 x q
            · rw [q]; exact hy8)
          generalize zs.getD j 0 = zz at *
          replace hset := hid hset
          replace hO := hid hO
          replace hzl := hid hzl
          clear hg0 hz8 hy8
          go_wp2
          go_roundw
          case rel => exact ⟨j + 1, zs.set j y, by omega, by go_num, hset.out, by rw [List.length_set]; exact hzl.out, HS8.out, hK.step (Bo.At.self _ _) ((Below.refl _ _).setCell hg _) (fun kk2 _ q2 => Bo.heap_set_ne (show kk2 ≠ gA from fun e => q2 (by rw [e]; rfl)))⟩
          case measure => simp [intOf]; omega
        · obtain rfl : j = kk := by omega
          clear hjn
          have ck2 : wr.cell? ⟨w.heap.size, 2, none⟩ = some (.int .i64 nn) := by rw [cell_of_row _ _ _ _ _ _ (HOP.out _ hK)]; rfl
          have HO := hid hO
          have HK := hid hK
          have HZ8 := hid hz8
          have HZL := hid hzl
          clear hO hK hz8 hzl
          have F5 : ∀ k, k < w.heap.size → k ∉ W.fp → wr.heap[k]? = w.heap[k]? := fun k e1 e2 => (HK.out.2 k (by have := HSA.out; omega) (fun e => (HF5A.out k e1 e2).1 (by simpa [Value.ownBlock] using e.symm))).trans (HF5A.out k e1 e2).2
          have hgS : ∀ k ∈ S.fp, k ∉ W.fp := fun k hk q => HWW.out.off HH.out.sx.sk HRR.out q hk
          have hsr := HK.out.1.size
          have hsA := HSA.out
          have hSb : Sb wr base S n o L b rm := HH.out.keep (fun k hk => F5 k (HH.out.sx.sk.fp_lt hk).2 (hgS k hk)) (by omega)
          have hWr : WO wr base (W1 zs) (c + 1) := HTR.out _ _ _ _ HW0.out HO.out HZL.out (fun k hk q => HK.out.2 k hk (fun e => q (by simpa [Value.ownBlock] using e.symm)))
          have hlk : (zs.take j).length = j := by rw [List.length_take, HZL.out]; omega
          have hsrcA : Src wr (some ⟨gA, 0, none⟩) capR (zs.take j) := by
            obtain ⟨sx, cx, ex, ⟨g1, g2, gb, go, g3, g4, g5⟩, _⟩ := HO.out.form
            injection ex with e1 _ e3
            subst e1 e3
            refine ⟨by rw [hlk]; omega, g2, gb, go, fun q => g3 (by rw [HZL.out]; omega), fun q => g4 (by rw [HZL.out]; omega), fun i hi => ?_⟩
            rw [hlk] at hi
            rw [getD_takeB _ _ _ _ hi]
            exact g5 i (by rw [HZL.out]; omega)
          have HST := sb_stage wr base S n o L b rm hSb (by omega) nn (zs.take j) (fun x hx => HZ8.out x (List.mem_of_mem_take hx)) (by rw [hlk]; omega) (some ⟨gA, 0, none⟩) capR hsrcA (fun e => by cases e)
          rw [hlk] at HST
          replace HST := hid HST
          have HF5 := hid F5
          have HGS := hid hgS
          have HSb := hid hSb
          have HWr := hid hWr
          have HLK := hid hlk
          have HSR := hid hsr
          clear hsA F5 hgS hsr hSb hWr hlk hsrcA
          go_wp2_with fail
          refine HST.out.mono ?_
          rintro e w6 ⟨S', q, E, rfl, hO6⟩
          have HO6 := hid hO6
          have HM6 : Hid (WO w6 base (W1 zs) (c + 1) ∧ RmO (W1 zs) S' ∧ wr.heap.size ≤ w6.heap.size ∧ w6.heap[w.heap.size]? = some (.cells (opC 3 at_ nn m_ (.slice sp zr.length cap) bt) 41 (0, 0)) ∧ gA ∉ S'.fp ∧ Own w6 base (.slice (some ⟨gA, 0, none⟩) 600 capR) zs) := hid (by
            obtain ⟨_, _, hb, hf, hg⟩ := hO6
            have hsr := HSR.out
            have hsA := HSA.out
            refine ⟨HWr.out.keep fun k hk => hf.block k (HWr.out.ty hk).2.1 (HWr.out.off HSb.out.sx.sk (fun k e => (HW1R.out _ k e).2.1) hk), fun k e z => ?_, hf.size, (hf.block _ (by omega) (fun z => by have := (HH.out.sx.sk.fp_lt z).2; omega)).trans (HOP.out _ HK.out), fun z => ?_, HO.out.of_heap fun k e => ?_⟩
            · rcases hg k z with z | z
              · exact (HW1R.out _ k e).2.1 z
              · have := (HW1R.out _ k e).1; omega
            · rcases hg gA z with z | z
              · exact HGA.out.2.1 z
              · have := HGA.out.1; omega
            · obtain rfl : gA = k := by simpa [Value.ownBlock] using e
              exact hf.block _ (by have := HGA.out.1; omega) HGA.out.2.1)
          have HBW6 : Hid (Below base w w6) := hid ((HBWA.out.trans HK.out.1).trans hO6.2.2.1)
          have k46 : w6.cell? ⟨w.heap.size, 4, none⟩ = some (.slice sp zr.length cap) := by rw [cell_of_row _ _ _ _ _ _ HM6.out.2.2.2.1]; rfl
          have hsrc6 : Src w6 sp cap zr := by
            obtain ⟨g1, g2, gb, go, g3, g4, g5⟩ := HSS.out
            have hsz := HBW6.out.size
            exact ⟨g1, g2, gb, go, fun q => by have := g3 q; omega, g4, fun i hi => (HBW6.out.cell (p := ⟨gb, go + i, none⟩) (show gb < base from HLO.out (by omega) ⟨gb, go, none⟩ (g4 (by omega)))).trans (g5 i hi)⟩
          have HSH6 := hid (hshort_any w6 zr sp cap hsrc6 (by have := HLN.out; omega) 300 (by omega))
          clear hO6 HST hsrc6 ck2
          go_wp2_with fail
          refine HSH6.out.mono ?_
          rintro e w7 ⟨v7, rfl, hO7, hb7⟩
          obtain ⟨s7, c7, rfl, hsrc7, _⟩ := hO7.form
          have HB7 := hid hb7
          have hsrcA7 : Src w7 (some ⟨gA, 0, none⟩) capR (zs.take j) := by
            have hO := HM6.out.2.2.2.2.2.below hb7 (Nat.le_refl _)
            obtain ⟨sx, cx, ex, ⟨g1, g2, gb, go, g3, g4, g5⟩, _⟩ := hO.form
            injection ex with e1 _ e3
            subst e1 e3
            refine ⟨by rw [HLK.out]; omega, g2, gb, go, fun q => g3 (by show 0 < zs.length; rw [HZL.out]; omega), fun q => g4 (by show 0 < zs.length; rw [HZL.out]; omega), fun i hi => ?_⟩
            rw [HLK.out] at hi
            rw [getD_takeB _ _ _ _ hi]
            exact g5 i (by show i < zs.length; rw [HZL.out]; omega)
          have HSM := same_any w7 (zs.take j) (zr.take 300) (some ⟨gA, 0, none⟩) s7 capR c7 hsrcA7 hsrc7
          rw [HLK.out, List.length_take] at HSM
          replace HSM := hid HSM
          clear hO7 hb7 hsrc7 hsrcA7
          go_wp2_with fail
          refine HSM.out.mono ?_
          rintro e w8 ⟨rfl, hb8⟩
          have HB8 := hid hb8
          clear hb8
          have FIN : Hid (∀ wX, Below base w6 wX → (∀ k, k < w6.heap.size → k ≠ gA → wX.heap[k]? = w6.heap[k]?) → (∃ z, Own wX base (.slice (some ⟨gA, 0, none⟩) 600 capR) z ∧ z.length = 600) → wX.heap[w.heap.size + 1]? = some (.cells anZ 58 (0, 0)) ∧ ∀ E' N' : Int, OneP w base S n rm b 3 W c (.returned (.agg (anC E' N' (.slice none 0 0) sup0 0 0 0 0 0))) (wX.setRow (w.heap.size + 1) (anC E' N' (.slice none 0 0) sup0 0 0 0 0 0))) := hid (fun wX hbX hkX ⟨z, hzO, hzL⟩ => by
            have e1 := HSA.out
            have e2 := HSR.out
            have e3 := HM6.out.2.2.1
            have e4 := HGA.out.1
            obtain ⟨⟨o6, L6, hS6⟩, hB6, _, hf6, _⟩ := HO6.out
            have nS : ∀ k ∈ S'.fp, k ≠ gA := fun k hk q => HM6.out.2.2.2.2.1 (q ▸ hk)
            have nW : ∀ k, k < w.heap.size → k ∉ W.fp → k ≠ gA := fun k l hk => (HF5A.out k l hk).1
            have hWX : WO wX base (W1 z) (c + 1) := HTR.out _ _ _ _ HM6.out.1 hzO hzL hkX
            have ha : wX.heap[w.heap.size + 1]? = some (.cells anZ 58 (0, 0)) := by
              refine (hkX _ (by omega) (fun q => HGA.out.2.2.2 q.symm)).trans ((hf6.block _ (by omega) (fun q => by have := (HH.out.sx.sk.fp_lt q).2; omega)).trans ((HK.out.2 _ (by omega) (fun q => HGA.out.2.2.2 (by simpa [Value.ownBlock] using q))).trans HANA.out))
            refine ⟨ha, fun E' N' => ?_⟩
            have hrm : ∀ k, (W1 z).room.ownBlock = some k → k ∉ S'.fp ∧ k ≠ w.heap.size + 1 := fun k q => by
              refine ⟨fun q2 => ?_, (HW1R.out _ k q).2.2⟩
              obtain ⟨_, _, _, _, hg⟩ := HO6.out
              rcases hg k q2 with z | z
              · exact (HW1R.out _ k q).2.1 z
              · have := (HW1R.out _ k q).1; omega
            obtain ⟨z1, z2, z3, z4, z5⟩ := one_fin3 HH.out HF5.out (HBWA.out.trans HK.out.1) (by omega) HO6.out (fun k hk => hkX k (hS6.sx.sk.fp_lt hk).2 (nS k hk)) (fun k l1 l2 => hkX k (by omega) (nW k l1 l2)) hbX hWX ha hrm (anC E' N' (.slice none 0 0) sup0 0 0 0 0 0)
            exact ⟨S', _, _, _, _, _, _, _, _, _, _, rfl, rfl, z1, hB6.e3, z2, z3, HW1g.out _, z4, z5⟩)
          have HO6a : Hid (∀ wX, Below w6.heap.size w6 wX → ∃ z, Own wX base (.slice (some ⟨gA, 0, none⟩) 600 capR) z ∧ z.length = 600) := hid (fun wX q => by
            have hO := HM6.out.2.2.2.2.2.below q (Nat.le_refl _)
            exact ⟨_, hO, HZL.out⟩)
          have HB68 : Hid (Below w6.heap.size w6 w8) := hid (HB7.out.trans (HB8.out.mono HB7.out.size))
          have HB6b : Hid (base ≤ w6.heap.size) := hid (Nat.le_trans HH.out.sx.sk.base HBW6.out.size)
          generalize decide (zs.take j = zr.take 300) = b1 at *
          cases b1
          · have H9 := hid (FIN.out w8 (HB68.out.mono HB6b.out) (fun k q _ => HB68.out.block k q) (HO6a.out w8 HB68.out))
            have HS0 := hid (show anZ.size = (anC (-1) 0 (.slice none 0 0) sup0 0 0 0 0 0).size from rfl)
            have HSO := hid (anO (-1) 0 none 0 0 sup0 0 0 0 0 0)
            have HSN := hid (anN (-1) 0 (.slice none 0 0) sup0 0 0 0 0 0)
            go_wp2_with (first | (refine wpList_store_row rfl 58 (.tmp 6) (.tmp 175) rfl (w.heap.size + 1) (anC (-1) 0 (.slice none 0 0) sup0 0 0 0 0 0) rfl rfl 58 anZ H9.out.1 HSN.out HS0.out HSO.out ?_) | fail)
            refine bodyPost_ret (results_c1B Try.results11 _ _ (w.heap.size + 1) 58 _ _ _ (by first | rfl | simp) (setRow_heap _ _ _ _ _ _ H9.out.1) Try.underlying58 rfl (anN _ _ _ _ _ _ _ _ _)) rfl ?_
            exact H9.out.2 _ _
          · have hsrcF : Src w8 (some ⟨gA, j, none⟩) (capR - j) (zs.drop j) := by
              have hO := HM6.out.2.2.2.2.2.below HB68.out (Nat.le_refl _)
              obtain ⟨sx, cx, ex, ⟨g1, g2, gb, go, g3, g4, g5⟩, _⟩ := hO.form
              injection ex with e1 _ e3
              subst e1 e3
              have e6 : zs.length = 600 := HZL.out
              replace g1 : zs.length ≤ capR := g1
              replace g3 : 0 < zs.length → gb < w8.heap.size := g3
              replace g4 : 0 < zs.length → some (⟨gA, 0, none⟩ : Addr) = some (⟨gb, go, none⟩ : Addr) := g4
              replace g5 : ∀ i, i < zs.length → w8.cell? ⟨gb, go + i, none⟩ = some (.int .u8 (zs.getD i 0)) := g5
              have e7 := g4 (by omega)
              injection e7 with e7
              injection e7 with e8 e9 _
              subst e8 e9
              refine ⟨by rw [List.length_drop]; omega, by omega, gA, j, fun _ => g3 (by omega), fun _ => rfl, fun i hi => ?_⟩
              rw [List.length_drop] at hi
              have := g5 (j + i) (by omega)
              rw [Nat.zero_add] at this
              rw [this]
              simp [List.getD, List.getElem?_drop]
            have HFU := full_some w8 (zs.drop j) (some ⟨gA, j, none⟩) (capR - j) hsrcF 250 (600 - j) (by rw [List.length_drop, HZL.out]) (by omega)
            rw [show ((600 - j : Nat) : Int) = 600 - (j : Int) by omega] at HFU
            replace HFU := hid HFU
            clear hsrcF
            go_wp2_with fail
            refine HFU.out.mono ?_
            rintro e w9 ⟨b2, rfl, hb9⟩
            have HB69 : Hid (Below w6.heap.size w6 w9) := hid (HB68.out.trans (hb9.mono HB68.out.size))
            clear hb9 HFU
            cases b2
            · have H9 := hid (FIN.out w9 (HB69.out.mono HB6b.out) (fun k q _ => HB69.out.block k q) (HO6a.out w9 HB69.out))
              have HS0 := hid (show anZ.size = (anC (-1) 0 (.slice none 0 0) sup0 0 0 0 0 0).size from rfl)
              have HSO := hid (anO (-1) 0 none 0 0 sup0 0 0 0 0 0)
              have HSN := hid (anN (-1) 0 (.slice none 0 0) sup0 0 0 0 0 0)
              go_wp2_with (first | (refine wpList_store_row rfl 58 (.tmp 6) (.tmp 175) rfl (w.heap.size + 1) (anC (-1) 0 (.slice none 0 0) sup0 0 0 0 0 0) rfl rfl 58 anZ H9.out.1 HSN.out HS0.out HSO.out ?_) | fail)
              refine bodyPost_ret (results_c1B Try.results11 _ _ (w.heap.size + 1) 58 _ _ _ (by first | rfl | simp) (setRow_heap _ _ _ _ _ _ H9.out.1) Try.underlying58 rfl (anN _ _ _ _ _ _ _ _ _)) rfl ?_
              exact H9.out.2 _ _
            · obtain ⟨z9, hz9, hl9⟩ := HO6a.out w9 HB69.out
              go_wp2_with fail
              go_loopw [18] (fun i wr => ∃ (t : Nat) (z : List Int), t ≤ j ∧ i = .int .i64 t ∧ Own wr base (.slice (some ⟨gA, 0, none⟩) 600 capR) z ∧ z.length = 600 ∧ Bo.KV w9 base (.slice (some ⟨gA, 0, none⟩) 600 capR) wr) (fun i _ => j - (intOf i).toNat)
              case atStart => exact ⟨0, z9, by omega, rfl, hz9, hl9, Bo.KV.refl _ _ _⟩
              case round =>
                clear hz9 hl9
                obtain ⟨t, z, ht, rfl, hO, hzl, hK9⟩ := hrel
                by_cases htn : t < j
                · have i1 : (t : Int) < (j : Int) := by omega
                  obtain ⟨g, hg0, hg, c0, f0, hset⟩ := Bo.own_set (k := t) (m := 251) hO (by rw [hzl]; omega)
                  obtain rfl : gA = g := by injection hg0 with hg0; injection hg0
                  generalize z.getD t 0 = zz at *
                  replace hset := hid hset
                  replace hO := hid hO
                  replace hzl := hid hzl
                  clear hg0
                  go_wp2
                  go_roundw
                  case rel => exact ⟨t + 1, z.set t 251, by omega, by go_num, hset.out, by rw [List.length_set]; exact hzl.out, hK9.step (Bo.At.self _ _) ((Below.refl _ _).setCell hg _) (fun kk2 _ q2 => Bo.heap_set_ne (show kk2 ≠ gA from fun e => q2 (by rw [e]; rfl)))⟩
                  case measure => simp [intOf]; omega
                · obtain rfl : t = j := by omega
                  clear htn
                  have H9 := hid (FIN.out _ ((HB69.out.mono HB6b.out).trans hK9.1) (fun k q r => (hK9.2 k (Nat.lt_of_lt_of_le q HB69.out.size) (fun e => r (by simpa [Value.ownBlock] using e.symm))).trans (HB69.out.block k q)) ⟨z, hO, hzl⟩)
                  have HS0 := hid (show anZ.size = (anC E q (.slice none 0 0) sup0 0 0 0 0 0).size from rfl)
                  have HSO := hid (anO E q none 0 0 sup0 0 0 0 0 0)
                  have HSN := hid (anN E q (.slice none 0 0) sup0 0 0 0 0 0)
                  go_wp2_with (first | (refine wpList_store_row rfl 58 (.tmp 6) (.tmp 187) rfl (w.heap.size + 1) (anC E q (.slice none 0 0) sup0 0 0 0 0 0) rfl rfl 58 anZ H9.out.1 HSN.out HS0.out HSO.out ?_) | fail)
                  refine bodyPost_ret (results_c1B Try.results11 _ _ (w.heap.size + 1) 58 _ _ _ (by first | rfl | simp) (setRow_heap _ _ _ _ _ _ H9.out.1) Try.underlying58 rfl (anN _ _ _ _ _ _ _ _ _)) rfl ?_
                  exact H9.out.2 _ _

set_option maxRecDepth 100000 in
set_option maxHeartbeats 1000000 in
theorem one_stage_fe (w : World) (base : Nat) (S : Sto) (n : Nat) (o : Sup) (L : List (Int × List Int)) (b rm : Nat) (h : Sb w base S n o L b rm) (hb : b ≤ 1000000000) (W : Wr) (c : Nat) (hW : WO w base W c) (hr : RmO W S) (hc : c ≤ 1000000000) (zr : List Int) (h8 : Byts zr) (hl : zr.length ≤ 140737488352000) (hzr : W.zr.length = 600) (hq : (((W.turn : Int) + 1) % 2 == 0) = true) (at_ nn m_ : Int) (sp : Option Addr) (l cap bt : Nat) (hlz : l = zr.length) (hS : Src w sp cap zr) (hlow : 0 < zr.length → ∀ a, sp = some a → a.block < base) :
    Calls Try.prog 11 #[.pointer (some ⟨W.g, 0, none⟩), .pointer (some ⟨S.st, 0, none⟩), .agg (opC 3 at_ nn m_ (.slice sp l cap) bt)] w (OneP w base S n rm b 3 W c) := by
  obtain ⟨w2, hw2⟩ : ∃ w2, w2 = (w.alloc (.cells (opC 3 at_ nn m_ (.slice sp l cap) bt) 41)).alloc (.cells #[.int .i64 0, .int .i64 0, .bool false, .slice none 0 0, .int .i64 0, .int .i64 0, .int .i64 0, .int .i64 0, .int .i64 0, .int .i64 0, .int .i64 0, .int .i64 0, .int .i64 0, .int .i64 0, .int .i64 0, .int .i64 0, .int .i64 0, .int .i64 0] 58) := ⟨_, rfl⟩
  have HW2 := hid hw2
  have hP : Pn w w2 (opC 3 at_ nn m_ (.slice sp l cap) bt) := by rw [hw2]; exact Pn.mk' w _
  have k0 : w2.cell? ⟨w.heap.size, 0, none⟩ = some (.int .i64 3) := by rw [cell_of_row _ _ _ _ _ _ hP.op]; rfl
  have k2 : w2.cell? ⟨w.heap.size, 2, none⟩ = some (.int .i64 nn) := by rw [cell_of_row _ _ _ _ _ _ hP.op]; rfl
  have h2 := h.below hP.bl
  have k4 : w2.cell? ⟨w.heap.size, 4, none⟩ = some (.slice sp l cap) := by rw [cell_of_row _ _ _ _ _ _ hP.op]; rfl
  subst hlz
  have HSH := hid (hshort_any w2 zr sp cap (hS.below hP.bl (Nat.le_refl _)) (by omega) 300 (by omega))
  have hW2 := hW.below hP.bl
  have HP := hid hP
  have HH := hid h
  have HWW := hid hW
  have HRR := hid hr
  have HSS := hid hS
  have HLO := hid hlow
  have H8 := hid h8
  have HLN := hid hl
  have HTU := hid hW.tu
  have HFL := hid (fun k hk => (hW.ty (k := k) hk).2.1)
  clear h h2 hW hr hP hS hlow h8 hl
  rw [hw2] at k0 k2 k4
  clear hw2
  go_enter Try.func11, Try.ntmps11
  go_wp2_with (first
    | refine wpList_box_Op rfl (.tmp 2) rfl _ at_ nn m_ sp l cap bt rfl ?_)
  rw [← HW2.out]
  refine HSH.out.mono ?_
  rintro e w3 ⟨v3, rfl, hO3, hb3⟩
  obtain ⟨s3, c3, rfl, _, _⟩ := hO3.form
  have hk3 : (zr.take 300).length ≤ 300 := by rw [List.length_take]; omega
  have hk4 : (zr.take 300).length ≤ zr.length := by rw [List.length_take]; omega
  generalize (zr.take 300).length = kk at *
  have hW3 := hW2.below hb3
  obtain ⟨_, _, _, c5, _, f5⟩ := hW3.cells
  have f5b := f5 5
  clear f5
  have hWt := hW3.turned
  obtain ⟨_, _, _, d5, d6, df⟩ := hWt.cells
  have df6 := df 6
  clear df
  have hti : (W.turn : Int) ≤ 1000000000 := by have := HTU.out; omega
  have hti0 : (0 : Int) ≤ (W.turn : Int) := by omega
  have d5b : (w3.setCell ⟨W.g, 5, none⟩ (.int .i64 ((W.turn : Int) + 1))).cell? ⟨W.g, 5, none⟩ = some (.int .i64 ((W.turn : Int) + 1)) := d5
  have HWT := hid hWt
  have HB3 := hid hb3
  have hrm := hWt.rm
  have HRM := hid hrm
  obtain ⟨spR, capR, hR, _, _⟩ := hrm.form
  have hR2 : W.room = .slice spR W.zr.length capR := hR
  have d6b : (w3.setCell ⟨W.g, 5, none⟩ (.int .i64 ((W.turn : Int) + 1))).cell? ⟨W.g, 6, none⟩ = some (.slice spR W.zr.length capR) := d6.trans (by rw [← hR2])
  have hR2a := hid hR2
  clear d5 d6 hO3 hb3 hW3 hWt hW2 HSH k0 k2 k4 hrm hR hR2
  rw [hzr] at d6b
  obtain ⟨i5, hi5, hz5, hs5, hy5⟩ := Try.info5
  have HI := hid hi5
  have K1 := hid (show i5.bytes * 600 ≤ 281474976710656 by rw [hy5]; omega)
  have K2 := hid (show 600 ≤ maxLen by unfold maxLen; omega)
  clear hi5 hy5
  have HB0 := hid HH.out.sx.sk.base
  have hgl2 := HFL.out W.g ((W.mem _).2 (by simp))
  have hPs := HP.out.sz
  have hBs := HB3.out.size
  go_wp2_with (refine wpList_make_full _ rfl _ _ 36 rfl (w3.setCell ⟨W.g, 5, none⟩ (.int .i64 ((W.turn : Int) + 1))).heap.size 5 i5 (.int .u8 0) 1 Try.underlying36 HI.out hz5 hs5 .i64 .i64 _ _ 600 rfl rfl rfl rfl K1.out K2.out (Nat.le_refl _) ?_; intro wA hO hg; refine Hid.out ?_)
  refine hid ?_
  have hs0 : (w3.setCell ⟨W.g, 5, none⟩ (.int .i64 ((W.turn : Int) + 1))).heap.size = w3.heap.size := World.size_setCell ..
  have bA : Below (w3.setCell ⟨W.g, 5, none⟩ (.int .i64 ((W.turn : Int) + 1))).heap.size (w3.setCell ⟨W.g, 5, none⟩ (.int .i64 ((W.turn : Int) + 1))) wA := grown_keeps hg (fun k hk => by cases hk) (Nat.le_refl _)
  have hAe : ∀ k, k < w3.heap.size → k ≠ W.g → wA.heap[k]? = w3.heap[k]? := fun k l e => (bA.block k (by omega)).trans (heap_setCell_other w3 ⟨W.g, 5, none⟩ k _ e)
  obtain ⟨zA, hzA⟩ : ∃ zA, zA = padz [] 600 := ⟨_, rfl⟩
  have hz6 : zA.length = 600 := by rw [hzA]; exact padz_ln 600
  have hOA := own_made wA base (w3.setCell ⟨W.g, 5, none⟩ (.int .i64 ((W.turn : Int) + 1))).heap.size 600 (by have := HB0.out; omega) K2.out (made_row hO)
  have hlt := hlt_ (made_row hO)
  rw [← hzA] at hOA
  clear hO
  rw [hs0] at hOA hlt bA
  try rw [hs0]
  generalize hgA : w3.heap.size = gA at *
  have HZA := hid hz6
  have HOA := hid hOA
  have hcap600 : (600 : Int) ≤ ((600 : Nat) : Int) := by omega
  have HSA : Hid (w.heap.size + 2 ≤ wA.heap.size) := hid (by omega)
  have HBWA : Hid (Below base w wA) := hid (by
    have hbw := HH.out.sx.sk.base
    exact (((HP.out.bl.mono hbw).trans (HB3.out.mono (Nat.le_trans hbw HP.out.bl.size))).setCell HWW.out.hg _).trans (bA.mono (by omega)))
  have HGA : Hid (gA < wA.heap.size ∧ gA ∉ S.fp ∧ gA ≠ w.heap.size ∧ gA ≠ w.heap.size + 1) := hid ⟨by omega, fun q => by have := (HH.out.sx.sk.fp_lt q).2; omega, by omega, by omega⟩
  have HOPA : Hid (wA.heap[w.heap.size]? = some (.cells (opC 3 at_ nn m_ (.slice sp zr.length cap) bt) 41 (0, 0))) := hid ((hAe _ (by omega) (by omega)).trans ((HB3.out.block _ (by omega)).trans HP.out.op))
  have HANA : Hid (wA.heap[w.heap.size + 1]? = some (.cells anZ 58 (0, 0))) := hid ((hAe _ (by omega) (by omega)).trans ((HB3.out.block _ (by omega)).trans HP.out.an))
  have HF5A : Hid (∀ k, k < w.heap.size → k ∉ W.fp → k ≠ gA ∧ wA.heap[k]? = w.heap[k]?) := hid (fun k e1 e2 => ⟨by omega, (hAe k (by omega) (fun e => e2 ((W.mem _).2 (by simp [e])))).trans ((HB3.out.block k (by omega)).trans (HP.out.bl.block k e1))⟩)
  obtain ⟨W1, hW0, hTR, hW1g, hW1R⟩ : ∃ W1 : List Int → Wr, WO wA base (W1 zA) (c + 1) ∧ (∀ (wa wb : World) (z z' : List Int), WO wa base (W1 z) (c + 1) → Own wb base (.slice (some ⟨gA, 0, none⟩) 600 600) z' → z'.length = 600 → (∀ k, k < wa.heap.size → k ≠ gA → wb.heap[k]? = wa.heap[k]?) → WO wb base (W1 z') (c + 1)) ∧ (∀ z, (W1 z).g = W.g) ∧ (∀ z k, (W1 z).room.ownBlock = some k → k < wA.heap.size ∧ k ∉ S.fp ∧ k ≠ w.heap.size + 1) := by
    refine ⟨fun z => { W with turn := W.turn + 1 }, HWT.out.below (by rw [World.size_setCell, hgA]; exact bA), fun wa wb z z' h1 h2 h3 h4 => h1.keep fun k hk => h4 k (h1.ty hk).2.1 (fun e => ?_), fun _ => rfl, fun z k e => ?_⟩
    · have := HFL.out k hk; omega
    · have e2 : W.room.ownBlock = some k := e
      have := HFL.out k ((W.mem _).2 (by simp [e2])); exact ⟨by omega, HRR.out k e2, by omega⟩
  have HW0 := hid hW0
  have HTR := hid hTR
  have HW1g := hid hW1g
  have HW1R := hid hW1R
  clear hW0 hTR hW1g hW1R hgl2 hPs hBs hAe hzA hz6 hOA hs0 bA hg hlt hgA d5b d6b df6
  go_wp2_with fail
  go_loopw [13] (fun i wr => ∃ k : Nat, k ≤ 600 ∧ i = .int .i64 k ∧ Own wr base (.slice (some ⟨gA, 0, none⟩) 600 600) (List.replicate k 250 ++ zA.drop k) ∧ Bo.KV wA base (.slice (some ⟨gA, 0, none⟩) 600 600) wr) (fun i _ => 600 - (intOf i).toNat)
  case atStart => exact ⟨0, by omega, rfl, HOA.out, Bo.KV.refl _ _ _⟩
  case round =>
    obtain ⟨k, hk, rfl, hO, hK⟩ := hrel
    by_cases hkn : k < 600
    · have i1 : (k : Int) < 600 := by omega
      have hlen : (List.replicate k (250 : Int) ++ zA.drop k).length = 600 := by rw [List.length_append, List.length_replicate, List.length_drop, HZA.out]; omega
      obtain ⟨g, hg0, hg, c0, f0, hset⟩ := Bo.own_set (m := 250) hO (by rw [hlen]; exact hkn)
      obtain rfl : gA = g := by injection hg0 with hg0; injection hg0
      have HR := hid (show (List.replicate k (250 : Int) ++ zA.drop k).set k 250 = List.replicate (k + 1) 250 ++ zA.drop (k + 1) by
        have hko : k < zA.length := by rw [HZA.out]; exact hkn
        rw [List.set_append_right _ _ (by simp), List.length_replicate, Nat.sub_self, List.drop_eq_getElem_cons hko, List.set_cons_zero, List.replicate_succ', List.append_assoc]; rfl)
      replace hlen := hid hlen
      generalize (List.replicate k (250 : Int) ++ zA.drop k).getD k 0 = zz at *
      replace hset := hid hset
      replace hO := hid hO
      clear hg0
      go_wp2
      go_roundw
      case rel => exact ⟨k + 1, by omega, by go_num, (by rw [← HR.out]; exact hset.out), hK.step (Bo.At.self _ _) ((Below.refl _ _).setCell hg _) (fun kk _ q2 => Bo.heap_set_ne (show kk ≠ gA from fun e => q2 (by rw [e]; rfl)))⟩
      case measure => simp [intOf]; omega
    · obtain rfl : k = 600 := by omega
      clear hkn
      rw [List.drop_of_length_le (by rw [HZA.out]; exact Nat.le_refl _), List.append_nil] at hO
      have HK := hid hK
      have HOP : Hid (∀ wr, Bo.KV wA base (.slice (some ⟨gA, 0, none⟩) 600 600) wr → wr.heap[w.heap.size]? = some (.cells (opC 3 at_ nn m_ (.slice sp zr.length cap) bt) 41 (0, 0))) := hid (fun wr q => (q.2 _ (by have := HSA.out; omega) (fun e => HGA.out.2.2.1 (by simpa [Value.ownBlock] using e))).trans HOPA.out)
      have HRAW : Hid (∀ wr, Bo.KV wA base (.slice (some ⟨gA, 0, none⟩) 600 600) wr → ∀ j, j < zr.length → ∃ b o, sp = some ⟨b, o, none⟩ ∧ wr.cell? ⟨b, o + j, none⟩ = some (.int .u8 (zr.getD j 0))) := hid (fun wr q j hj => by
        obtain ⟨_, _, b, o, _, h2, h3⟩ := HSS.out
        refine ⟨b, o, h2 (by omega), ?_⟩
        have hb := HLO.out (by omega) _ (h2 (by omega))
        exact ((HBWA.out.trans q.1).cell (p := ⟨b, o + j, none⟩) hb).trans (h3 j hj))
      have hkk : (kk : Int) ≤ 300 := by omega
      go_wp2_with fail
      go_loopw [14] (fun i wr => ∃ (j : Nat) (zs : List Int), j ≤ kk ∧ i = .int .i64 j ∧ Own wr base (.slice (some ⟨gA, 0, none⟩) 600 600) zs ∧ zs.length = 600 ∧ Byts zs ∧ Bo.KV wA base (.slice (some ⟨gA, 0, none⟩) 600 600) wr) (fun i _ => kk - (intOf i).toNat)
      case atStart => exact ⟨0, List.replicate 600 250, by omega, rfl, hO, by simp, (by intro x hx; rw [List.eq_of_mem_replicate hx]; exact ⟨by omega, by omega⟩), HK.out⟩
      case round =>
        clear hO hK HK
        obtain ⟨j, zs, hj, rfl, hO, hzl, hz8, hK⟩ := hrel
        by_cases hjn : j < kk
        · have i1 : (j : Int) < (kk : Int) := by omega
          have i2 : (j : Int) < 600 := by omega
          have i3 : (j : Int) < (zr.length : Int) := by omega
          obtain ⟨rb, ro, rfl, cr⟩ := HRAW.out _ hK j (by omega)
          have ck4 : wr.cell? ⟨w.heap.size, 4, none⟩ = some (.slice (some ⟨rb, ro, none⟩) zr.length cap) := by rw [cell_of_row _ _ _ _ _ _ (HOP.out _ hK)]; rfl
          have hy8 : 0 ≤ zr.getD j 0 ∧ zr.getD j 0 < 256 := bytsB H8.out j
          generalize zr.getD j 0 = y at *
          obtain ⟨g, hg0, hg, c0, f0, hset⟩ := Bo.own_set (k := j) (m := y) hO (by rw [hzl]; omega)
          obtain rfl : gA = g := by injection hg0 with hg0; injection hg0
          have HS8 : Hid (Byts (zs.set j y)) := hid (fun x hx => by
            rcases List.mem_or_eq_of_mem_set hx with q | q
            · exact hz8 x q
            · rw [q]; exact hy8)
          generalize zs.getD j 0 = zz at *
          replace hset := hid hset
          replace hO := hid hO
          replace hzl := hid hzl
          clear hg0 hz8 hy8
          go_wp2
          go_roundw
          case rel => exact ⟨j + 1, zs.set j y, by omega, by go_num, hset.out, by rw [List.length_set]; exact hzl.out, HS8.out, hK.step (Bo.At.self _ _) ((Below.refl _ _).setCell hg _) (fun kk2 _ q2 => Bo.heap_set_ne (show kk2 ≠ gA from fun e => q2 (by rw [e]; rfl)))⟩
          case measure => simp [intOf]; omega
        · obtain rfl : j = kk := by omega
          clear hjn
          have ck2 : wr.cell? ⟨w.heap.size, 2, none⟩ = some (.int .i64 nn) := by rw [cell_of_row _ _ _ _ _ _ (HOP.out _ hK)]; rfl
          have HO := hid hO
          have HK := hid hK
          have HZ8 := hid hz8
          have HZL := hid hzl
          clear hO hK hz8 hzl
          have F5 : ∀ k, k < w.heap.size → k ∉ W.fp → wr.heap[k]? = w.heap[k]? := fun k e1 e2 => (HK.out.2 k (by have := HSA.out; omega) (fun e => (HF5A.out k e1 e2).1 (by simpa [Value.ownBlock] using e.symm))).trans (HF5A.out k e1 e2).2
          have hgS : ∀ k ∈ S.fp, k ∉ W.fp := fun k hk q => HWW.out.off HH.out.sx.sk HRR.out q hk
          have hsr := HK.out.1.size
          have hsA := HSA.out
          have hSb : Sb wr base S n o L b rm := HH.out.keep (fun k hk => F5 k (HH.out.sx.sk.fp_lt hk).2 (hgS k hk)) (by omega)
          have hWr : WO wr base (W1 zs) (c + 1) := HTR.out _ _ _ _ HW0.out HO.out HZL.out (fun k hk q => HK.out.2 k hk (fun e => q (by simpa [Value.ownBlock] using e.symm)))
          have hlk : (zs.take j).length = j := by rw [List.length_take, HZL.out]; omega
          have hsrcA : Src wr (some ⟨gA, 0, none⟩) 600 (zs.take j) := by
            obtain ⟨sx, cx, ex, ⟨g1, g2, gb, go, g3, g4, g5⟩, _⟩ := HO.out.form
            injection ex with e1 _ e3
            subst e1 e3
            refine ⟨by rw [hlk]; omega, g2, gb, go, fun q => g3 (by rw [HZL.out]; omega), fun q => g4 (by rw [HZL.out]; omega), fun i hi => ?_⟩
            rw [hlk] at hi
            rw [getD_takeB _ _ _ _ hi]
            exact g5 i (by rw [HZL.out]; omega)
          have HST := sb_stage wr base S n o L b rm hSb (by omega) nn (zs.take j) (fun x hx => HZ8.out x (List.mem_of_mem_take hx)) (by rw [hlk]; omega) (some ⟨gA, 0, none⟩) 600 hsrcA (fun e => by cases e)
          rw [hlk] at HST
          replace HST := hid HST
          have HF5 := hid F5
          have HGS := hid hgS
          have HSb := hid hSb
          have HWr := hid hWr
          have HLK := hid hlk
          have HSR := hid hsr
          clear hsA F5 hgS hsr hSb hWr hlk hsrcA
          go_wp2_with fail
          refine HST.out.mono ?_
          rintro e w6 ⟨S', q, E, rfl, hO6⟩
          have HO6 := hid hO6
          have HM6 : Hid (WO w6 base (W1 zs) (c + 1) ∧ RmO (W1 zs) S' ∧ wr.heap.size ≤ w6.heap.size ∧ w6.heap[w.heap.size]? = some (.cells (opC 3 at_ nn m_ (.slice sp zr.length cap) bt) 41 (0, 0)) ∧ gA ∉ S'.fp ∧ Own w6 base (.slice (some ⟨gA, 0, none⟩) 600 600) zs) := hid (by
            obtain ⟨_, _, hb, hf, hg⟩ := hO6
            have hsr := HSR.out
            have hsA := HSA.out
            refine ⟨HWr.out.keep fun k hk => hf.block k (HWr.out.ty hk).2.1 (HWr.out.off HSb.out.sx.sk (fun k e => (HW1R.out _ k e).2.1) hk), fun k e z => ?_, hf.size, (hf.block _ (by omega) (fun z => by have := (HH.out.sx.sk.fp_lt z).2; omega)).trans (HOP.out _ HK.out), fun z => ?_, HO.out.of_heap fun k e => ?_⟩
            · rcases hg k z with z | z
              · exact (HW1R.out _ k e).2.1 z
              · have := (HW1R.out _ k e).1; omega
            · rcases hg gA z with z | z
              · exact HGA.out.2.1 z
              · have := HGA.out.1; omega
            · obtain rfl : gA = k := by simpa [Value.ownBlock] using e
              exact hf.block _ (by have := HGA.out.1; omega) HGA.out.2.1)
          have HBW6 : Hid (Below base w w6) := hid ((HBWA.out.trans HK.out.1).trans hO6.2.2.1)
          have k46 : w6.cell? ⟨w.heap.size, 4, none⟩ = some (.slice sp zr.length cap) := by rw [cell_of_row _ _ _ _ _ _ HM6.out.2.2.2.1]; rfl
          have hsrc6 : Src w6 sp cap zr := by
            obtain ⟨g1, g2, gb, go, g3, g4, g5⟩ := HSS.out
            have hsz := HBW6.out.size
            exact ⟨g1, g2, gb, go, fun q => by have := g3 q; omega, g4, fun i hi => (HBW6.out.cell (p := ⟨gb, go + i, none⟩) (show gb < base from HLO.out (by omega) ⟨gb, go, none⟩ (g4 (by omega)))).trans (g5 i hi)⟩
          have HSH6 := hid (hshort_any w6 zr sp cap hsrc6 (by have := HLN.out; omega) 300 (by omega))
          clear hO6 HST hsrc6 ck2
          go_wp2_with fail
          refine HSH6.out.mono ?_
          rintro e w7 ⟨v7, rfl, hO7, hb7⟩
          obtain ⟨s7, c7, rfl, hsrc7, _⟩ := hO7.form
          have HB7 := hid hb7
          have hsrcA7 : Src w7 (some ⟨gA, 0, none⟩) 600 (zs.take j) := by
            have hO := HM6.out.2.2.2.2.2.below hb7 (Nat.le_refl _)
            obtain ⟨sx, cx, ex, ⟨g1, g2, gb, go, g3, g4, g5⟩, _⟩ := hO.form
            injection ex with e1 _ e3
            subst e1 e3
            refine ⟨by rw [HLK.out]; omega, g2, gb, go, fun q => g3 (by show 0 < zs.length; rw [HZL.out]; omega), fun q => g4 (by show 0 < zs.length; rw [HZL.out]; omega), fun i hi => ?_⟩
            rw [HLK.out] at hi
            rw [getD_takeB _ _ _ _ hi]
            exact g5 i (by show i < zs.length; rw [HZL.out]; omega)
          have HSM := same_any w7 (zs.take j) (zr.take 300) (some ⟨gA, 0, none⟩) s7 600 c7 hsrcA7 hsrc7
          rw [HLK.out, List.length_take] at HSM
          replace HSM := hid HSM
          clear hO7 hb7 hsrc7 hsrcA7
          go_wp2_with fail
          refine HSM.out.mono ?_
          rintro e w8 ⟨rfl, hb8⟩
          have HB8 := hid hb8
          clear hb8
          have FIN : Hid (∀ wX, Below base w6 wX → (∀ k, k < w6.heap.size → k ≠ gA → wX.heap[k]? = w6.heap[k]?) → (∃ z, Own wX base (.slice (some ⟨gA, 0, none⟩) 600 600) z ∧ z.length = 600) → wX.heap[w.heap.size + 1]? = some (.cells anZ 58 (0, 0)) ∧ ∀ E' N' : Int, OneP w base S n rm b 3 W c (.returned (.agg (anC E' N' (.slice none 0 0) sup0 0 0 0 0 0))) (wX.setRow (w.heap.size + 1) (anC E' N' (.slice none 0 0) sup0 0 0 0 0 0))) := hid (fun wX hbX hkX ⟨z, hzO, hzL⟩ => by
            have e1 := HSA.out
            have e2 := HSR.out
            have e3 := HM6.out.2.2.1
            have e4 := HGA.out.1
            obtain ⟨⟨o6, L6, hS6⟩, hB6, _, hf6, _⟩ := HO6.out
            have nS : ∀ k ∈ S'.fp, k ≠ gA := fun k hk q => HM6.out.2.2.2.2.1 (q ▸ hk)
            have nW : ∀ k, k < w.heap.size → k ∉ W.fp → k ≠ gA := fun k l hk => (HF5A.out k l hk).1
            have hWX : WO wX base (W1 z) (c + 1) := HTR.out _ _ _ _ HM6.out.1 hzO hzL hkX
            have ha : wX.heap[w.heap.size + 1]? = some (.cells anZ 58 (0, 0)) := by
              refine (hkX _ (by omega) (fun q => HGA.out.2.2.2 q.symm)).trans ((hf6.block _ (by omega) (fun q => by have := (HH.out.sx.sk.fp_lt q).2; omega)).trans ((HK.out.2 _ (by omega) (fun q => HGA.out.2.2.2 (by simpa [Value.ownBlock] using q))).trans HANA.out))
            refine ⟨ha, fun E' N' => ?_⟩
            have hrm : ∀ k, (W1 z).room.ownBlock = some k → k ∉ S'.fp ∧ k ≠ w.heap.size + 1 := fun k q => by
              refine ⟨fun q2 => ?_, (HW1R.out _ k q).2.2⟩
              obtain ⟨_, _, _, _, hg⟩ := HO6.out
              rcases hg k q2 with z | z
              · exact (HW1R.out _ k q).2.1 z
              · have := (HW1R.out _ k q).1; omega
            obtain ⟨z1, z2, z3, z4, z5⟩ := one_fin3 HH.out HF5.out (HBWA.out.trans HK.out.1) (by omega) HO6.out (fun k hk => hkX k (hS6.sx.sk.fp_lt hk).2 (nS k hk)) (fun k l1 l2 => hkX k (by omega) (nW k l1 l2)) hbX hWX ha hrm (anC E' N' (.slice none 0 0) sup0 0 0 0 0 0)
            exact ⟨S', _, _, _, _, _, _, _, _, _, _, rfl, rfl, z1, hB6.e3, z2, z3, HW1g.out _, z4, z5⟩)
          have HO6a : Hid (∀ wX, Below w6.heap.size w6 wX → ∃ z, Own wX base (.slice (some ⟨gA, 0, none⟩) 600 600) z ∧ z.length = 600) := hid (fun wX q => by
            have hO := HM6.out.2.2.2.2.2.below q (Nat.le_refl _)
            exact ⟨_, hO, HZL.out⟩)
          have HB68 : Hid (Below w6.heap.size w6 w8) := hid (HB7.out.trans (HB8.out.mono HB7.out.size))
          have HB6b : Hid (base ≤ w6.heap.size) := hid (Nat.le_trans HH.out.sx.sk.base HBW6.out.size)
          generalize decide (zs.take j = zr.take 300) = b1 at *
          cases b1
          · have H9 := hid (FIN.out w8 (HB68.out.mono HB6b.out) (fun k q _ => HB68.out.block k q) (HO6a.out w8 HB68.out))
            have HS0 := hid (show anZ.size = (anC (-1) 0 (.slice none 0 0) sup0 0 0 0 0 0).size from rfl)
            have HSO := hid (anO (-1) 0 none 0 0 sup0 0 0 0 0 0)
            have HSN := hid (anN (-1) 0 (.slice none 0 0) sup0 0 0 0 0 0)
            go_wp2_with (first | (refine wpList_store_row rfl 58 (.tmp 6) (.tmp 175) rfl (w.heap.size + 1) (anC (-1) 0 (.slice none 0 0) sup0 0 0 0 0 0) rfl rfl 58 anZ H9.out.1 HSN.out HS0.out HSO.out ?_) | fail)
            refine bodyPost_ret (results_c1B Try.results11 _ _ (w.heap.size + 1) 58 _ _ _ (by first | rfl | simp) (setRow_heap _ _ _ _ _ _ H9.out.1) Try.underlying58 rfl (anN _ _ _ _ _ _ _ _ _)) rfl ?_
            exact H9.out.2 _ _
          · have hsrcF : Src w8 (some ⟨gA, j, none⟩) (600 - j) (zs.drop j) := by
              have hO := HM6.out.2.2.2.2.2.below HB68.out (Nat.le_refl _)
              obtain ⟨sx, cx, ex, ⟨g1, g2, gb, go, g3, g4, g5⟩, _⟩ := hO.form
              injection ex with e1 _ e3
              subst e1 e3
              have e6 : zs.length = 600 := HZL.out
              replace g1 : zs.length ≤ 600 := g1
              replace g3 : 0 < zs.length → gb < w8.heap.size := g3
              replace g4 : 0 < zs.length → some (⟨gA, 0, none⟩ : Addr) = some (⟨gb, go, none⟩ : Addr) := g4
              replace g5 : ∀ i, i < zs.length → w8.cell? ⟨gb, go + i, none⟩ = some (.int .u8 (zs.getD i 0)) := g5
              have e7 := g4 (by omega)
              injection e7 with e7
              injection e7 with e8 e9 _
              subst e8 e9
              refine ⟨by rw [List.length_drop]; omega, by omega, gA, j, fun _ => g3 (by omega), fun _ => rfl, fun i hi => ?_⟩
              rw [List.length_drop] at hi
              have := g5 (j + i) (by omega)
              rw [Nat.zero_add] at this
              rw [this]
              simp [List.getD, List.getElem?_drop]
            have HFU := full_some w8 (zs.drop j) (some ⟨gA, j, none⟩) (600 - j) hsrcF 250 (600 - j) (by rw [List.length_drop, HZL.out]) (by omega)
            rw [show ((600 - j : Nat) : Int) = 600 - (j : Int) by omega] at HFU
            replace HFU := hid HFU
            clear hsrcF
            go_wp2_with fail
            refine HFU.out.mono ?_
            rintro e w9 ⟨b2, rfl, hb9⟩
            have HB69 : Hid (Below w6.heap.size w6 w9) := hid (HB68.out.trans (hb9.mono HB68.out.size))
            clear hb9 HFU
            cases b2
            · have H9 := hid (FIN.out w9 (HB69.out.mono HB6b.out) (fun k q _ => HB69.out.block k q) (HO6a.out w9 HB69.out))
              have HS0 := hid (show anZ.size = (anC (-1) 0 (.slice none 0 0) sup0 0 0 0 0 0).size from rfl)
              have HSO := hid (anO (-1) 0 none 0 0 sup0 0 0 0 0 0)
              have HSN := hid (anN (-1) 0 (.slice none 0 0) sup0 0 0 0 0 0)
              go_wp2_with (first | (refine wpList_store_row rfl 58 (.tmp 6) (.tmp 175) rfl (w.heap.size + 1) (anC (-1) 0 (.slice none 0 0) sup0 0 0 0 0 0) rfl rfl 58 anZ H9.out.1 HSN.out HS0.out HSO.out ?_) | fail)
              refine bodyPost_ret (results_c1B Try.results11 _ _ (w.heap.size + 1) 58 _ _ _ (by first | rfl | simp) (setRow_heap _ _ _ _ _ _ H9.out.1) Try.underlying58 rfl (anN _ _ _ _ _ _ _ _ _)) rfl ?_
              exact H9.out.2 _ _
            · obtain ⟨z9, hz9, hl9⟩ := HO6a.out w9 HB69.out
              go_wp2_with fail
              go_loopw [18] (fun i wr => ∃ (t : Nat) (z : List Int), t ≤ j ∧ i = .int .i64 t ∧ Own wr base (.slice (some ⟨gA, 0, none⟩) 600 600) z ∧ z.length = 600 ∧ Bo.KV w9 base (.slice (some ⟨gA, 0, none⟩) 600 600) wr) (fun i _ => j - (intOf i).toNat)
              case atStart => exact ⟨0, z9, by omega, rfl, hz9, hl9, Bo.KV.refl _ _ _⟩
              case round =>
                clear hz9 hl9
                obtain ⟨t, z, ht, rfl, hO, hzl, hK9⟩ := hrel
                by_cases htn : t < j
                · have i1 : (t : Int) < (j : Int) := by omega
                  obtain ⟨g, hg0, hg, c0, f0, hset⟩ := Bo.own_set (k := t) (m := 251) hO (by rw [hzl]; omega)
                  obtain rfl : gA = g := by injection hg0 with hg0; injection hg0
                  generalize z.getD t 0 = zz at *
                  replace hset := hid hset
                  replace hO := hid hO
                  replace hzl := hid hzl
                  clear hg0
                  go_wp2
                  go_roundw
                  case rel => exact ⟨t + 1, z.set t 251, by omega, by go_num, hset.out, by rw [List.length_set]; exact hzl.out, hK9.step (Bo.At.self _ _) ((Below.refl _ _).setCell hg _) (fun kk2 _ q2 => Bo.heap_set_ne (show kk2 ≠ gA from fun e => q2 (by rw [e]; rfl)))⟩
                  case measure => simp [intOf]; omega
                · obtain rfl : t = j := by omega
                  clear htn
                  have H9 := hid (FIN.out _ ((HB69.out.mono HB6b.out).trans hK9.1) (fun k q r => (hK9.2 k (Nat.lt_of_lt_of_le q HB69.out.size) (fun e => r (by simpa [Value.ownBlock] using e.symm))).trans (HB69.out.block k q)) ⟨z, hO, hzl⟩)
                  have HS0 := hid (show anZ.size = (anC E q (.slice none 0 0) sup0 0 0 0 0 0).size from rfl)
                  have HSO := hid (anO E q none 0 0 sup0 0 0 0 0 0)
                  have HSN := hid (anN E q (.slice none 0 0) sup0 0 0 0 0 0)
                  go_wp2_with (first | (refine wpList_store_row rfl 58 (.tmp 6) (.tmp 187) rfl (w.heap.size + 1) (anC E q (.slice none 0 0) sup0 0 0 0 0 0) rfl rfl 58 anZ H9.out.1 HSN.out HS0.out HSO.out ?_) | fail)
                  refine bodyPost_ret (results_c1B Try.results11 _ _ (w.heap.size + 1) 58 _ _ _ (by first | rfl | simp) (setRow_heap _ _ _ _ _ _ H9.out.1) Try.underlying58 rfl (anN _ _ _ _ _ _ _ _ _)) rfl ?_
                  exact H9.out.2 _ _

set_option maxRecDepth 100000 in
set_option maxHeartbeats 1000000 in
theorem one_stage_no (w : World) (base : Nat) (S : Sto) (n : Nat) (o : Sup) (L : List (Int × List Int)) (b rm : Nat) (h : Sb w base S n o L b rm) (hb : b ≤ 1000000000) (W : Wr) (c : Nat) (hW : WO w base W c) (hr : RmO W S) (hc : c ≤ 1000000000) (zr : List Int) (h8 : Byts zr) (hl : zr.length ≤ 140737488352000) (hzr : W.zr = []) (hq : (((W.turn : Int) + 1) % 2 == 0) = false) (at_ nn m_ : Int) (sp : Option Addr) (l cap bt : Nat) (hlz : l = zr.length) (hS : Src w sp cap zr) (hlow : 0 < zr.length → ∀ a, sp = some a → a.block < base) :
    Calls Try.prog 11 #[.pointer (some ⟨W.g, 0, none⟩), .pointer (some ⟨S.st, 0, none⟩), .agg (opC 3 at_ nn m_ (.slice sp l cap) bt)] w (OneP w base S n rm b 3 W c) := by
  obtain ⟨w2, hw2⟩ : ∃ w2, w2 = (w.alloc (.cells (opC 3 at_ nn m_ (.slice sp l cap) bt) 41)).alloc (.cells #[.int .i64 0, .int .i64 0, .bool false, .slice none 0 0, .int .i64 0, .int .i64 0, .int .i64 0, .int .i64 0, .int .i64 0, .int .i64 0, .int .i64 0, .int .i64 0, .int .i64 0, .int .i64 0, .int .i64 0, .int .i64 0, .int .i64 0, .int .i64 0] 58) := ⟨_, rfl⟩
  have HW2 := hid hw2
  have hP : Pn w w2 (opC 3 at_ nn m_ (.slice sp l cap) bt) := by rw [hw2]; exact Pn.mk' w _
  have k0 : w2.cell? ⟨w.heap.size, 0, none⟩ = some (.int .i64 3) := by rw [cell_of_row _ _ _ _ _ _ hP.op]; rfl
  have k2 : w2.cell? ⟨w.heap.size, 2, none⟩ = some (.int .i64 nn) := by rw [cell_of_row _ _ _ _ _ _ hP.op]; rfl
  have h2 := h.below hP.bl
  have k4 : w2.cell? ⟨w.heap.size, 4, none⟩ = some (.slice sp l cap) := by rw [cell_of_row _ _ _ _ _ _ hP.op]; rfl
  subst hlz
  have HSH := hid (hshort_any w2 zr sp cap (hS.below hP.bl (Nat.le_refl _)) (by omega) 300 (by omega))
  have hW2 := hW.below hP.bl
  have HP := hid hP
  have HH := hid h
  have HWW := hid hW
  have HRR := hid hr
  have HSS := hid hS
  have HLO := hid hlow
  have H8 := hid h8
  have HLN := hid hl
  have HTU := hid hW.tu
  have HFL := hid (fun k hk => (hW.ty (k := k) hk).2.1)
  clear h h2 hW hr hP hS hlow h8 hl
  rw [hw2] at k0 k2 k4
  clear hw2
  go_enter Try.func11, Try.ntmps11
  go_wp2_with (first
    | refine wpList_box_Op rfl (.tmp 2) rfl _ at_ nn m_ sp l cap bt rfl ?_)
  rw [← HW2.out]
  refine HSH.out.mono ?_
  rintro e w3 ⟨v3, rfl, hO3, hb3⟩
  obtain ⟨s3, c3, rfl, _, _⟩ := hO3.form
  have hk3 : (zr.take 300).length ≤ 300 := by rw [List.length_take]; omega
  have hk4 : (zr.take 300).length ≤ zr.length := by rw [List.length_take]; omega
  generalize (zr.take 300).length = kk at *
  have hW3 := hW2.below hb3
  obtain ⟨_, _, _, c5, _, f5⟩ := hW3.cells
  have f5b := f5 5
  clear f5
  have hWt := hW3.turned
  obtain ⟨_, _, _, d5, d6, df⟩ := hWt.cells
  have df6 := df 6
  clear df
  have hti : (W.turn : Int) ≤ 1000000000 := by have := HTU.out; omega
  have hti0 : (0 : Int) ≤ (W.turn : Int) := by omega
  have d5b : (w3.setCell ⟨W.g, 5, none⟩ (.int .i64 ((W.turn : Int) + 1))).cell? ⟨W.g, 5, none⟩ = some (.int .i64 ((W.turn : Int) + 1)) := d5
  have HWT := hid hWt
  have HB3 := hid hb3
  have hrm := hWt.rm
  have HRM := hid hrm
  obtain ⟨spR, capR, hR, _, _⟩ := hrm.form
  have hR2 : W.room = .slice spR W.zr.length capR := hR
  have d6b : (w3.setCell ⟨W.g, 5, none⟩ (.int .i64 ((W.turn : Int) + 1))).cell? ⟨W.g, 6, none⟩ = some (.slice spR W.zr.length capR) := d6.trans (by rw [← hR2])
  have hR2a := hid hR2
  clear d5 d6 hO3 hb3 hW3 hWt hW2 HSH k0 k2 k4 hrm hR hR2
  rw [hzr, List.length_nil] at d6b
  obtain ⟨i5, hi5, hz5, hs5, hy5⟩ := Try.info5
  have HI := hid hi5
  have K1 := hid (show i5.bytes * 600 ≤ 281474976710656 by rw [hy5]; omega)
  have K2 := hid (show 600 ≤ maxLen by unfold maxLen; omega)
  clear hi5 hy5
  have HB0 := hid HH.out.sx.sk.base
  have hgl2 := HFL.out W.g ((W.mem _).2 (by simp))
  have hPs := HP.out.sz
  have hBs := HB3.out.size
  go_wp2_with (refine wpList_make_full _ rfl _ _ 36 rfl (w3.setCell ⟨W.g, 5, none⟩ (.int .i64 ((W.turn : Int) + 1))).heap.size 5 i5 (.int .u8 0) 1 Try.underlying36 HI.out hz5 hs5 .i64 .i64 _ _ 600 rfl rfl rfl rfl K1.out K2.out (Nat.le_refl _) ?_; intro w4 hO hg; refine Hid.out ?_)
  refine hid ?_
  have hs0 : (w3.setCell ⟨W.g, 5, none⟩ (.int .i64 ((W.turn : Int) + 1))).heap.size = w3.heap.size := World.size_setCell ..
  have b4 : Below (w3.setCell ⟨W.g, 5, none⟩ (.int .i64 ((W.turn : Int) + 1))).heap.size (w3.setCell ⟨W.g, 5, none⟩ (.int .i64 ((W.turn : Int) + 1))) w4 := grown_keeps hg (fun k hk => by cases hk) (Nat.le_refl _)
  obtain ⟨z1, hz1⟩ : ∃ z1, z1 = padz [] 600 := ⟨_, rfl⟩
  have hz6 : z1.length = 600 := by rw [hz1]; exact padz_ln 600
  have hO1 := own_made w4 base (w3.setCell ⟨W.g, 5, none⟩ (.int .i64 ((W.turn : Int) + 1))).heap.size 600 (by have := HB0.out; omega) K2.out (made_row hO)
  have hlt := hlt_ (made_row hO)
  rw [← hz1] at hO1
  clear hO
  have hwr := HWT.out.roomed _ z1 hO1 hz6 b4 (fun k e => Nat.le_of_eq (by simpa [Value.ownBlock] using e))
  have hAe4 : ∀ k, k < w3.heap.size → k ≠ W.g → w4.heap[k]? = w3.heap[k]? := fun k l e => (b4.block k (by omega)).trans (heap_setCell_other w3 ⟨W.g, 5, none⟩ k _ e)
  rw [hs0] at hO1 hlt b4 hwr
  try rw [hs0]
  generalize hg1 : w3.heap.size = g1 at *
  obtain ⟨hrow, hWR⟩ := hwr
  have c6b : w4.cell? ⟨W.g, 6, none⟩ = some (.slice spR 0 capR) := by rw [cell_of_row _ _ _ _ _ _ hrow]; show some W.room = _; rw [hR2a.out, hzr, List.length_nil]
  obtain ⟨_, _, _, _, _, ef4⟩ := (HWT.out.below (by rw [World.size_setCell, hg1]; exact b4)).cells
  have ef46 := ef4 6
  clear ef4
  obtain ⟨_, _, _, e5, e6, ef⟩ := hWR.cells
  have ef6 := ef 6
  have e5b : (w4.setCell ⟨W.g, 6, none⟩ (.slice (some ⟨g1, 0, none⟩) 600 600)).cell? ⟨W.g, 5, none⟩ = some (.int .i64 ((W.turn : Int) + 1)) := e5
  have e6b : (w4.setCell ⟨W.g, 6, none⟩ (.slice (some ⟨g1, 0, none⟩) 600 600)).cell? ⟨W.g, 6, none⟩ = some (.slice (some ⟨g1, 0, none⟩) 600 600) := e6
  have HWR := hid hWR
  clear e5 e6 ef hrow hWR
  obtain ⟨gA, hgA⟩ : ∃ gA, gA = g1 := ⟨_, rfl⟩
  subst hgA
  obtain ⟨zA, hzA⟩ : ∃ zA, zA = z1 := ⟨_, rfl⟩
  subst hzA
  obtain ⟨wA, hwA⟩ : ∃ wA, wA = (w4.setCell ⟨W.g, 6, none⟩ (.slice (some ⟨gA, 0, none⟩) 600 600)) := ⟨_, rfl⟩
  have HWA := hid hwA
  have hAs : wA.heap.size = w4.heap.size := by rw [hwA, World.size_setCell]
  have hAe : ∀ k, k < w3.heap.size → k ≠ W.g → wA.heap[k]? = w3.heap[k]? := fun k l e => ((by rw [hwA]; exact heap_setCell_other w4 ⟨W.g, 6, none⟩ k _ e : wA.heap[k]? = w4.heap[k]?)).trans (hAe4 k (by omega) e)
  have HZA := hid hz6
  have HOA : Hid (Own wA base (.slice (some ⟨gA, 0, none⟩) 600 600) zA) := hid (by rw [hwA]; exact HWR.out.rm)
  have hcap600 : (600 : Int) ≤ ((600 : Nat) : Int) := by omega
  have HSA : Hid (w.heap.size + 2 ≤ wA.heap.size) := hid (by omega)
  have HBWA : Hid (Below base w wA) := hid (by
    have hbw := HH.out.sx.sk.base
    exact (((HP.out.bl.mono hbw).trans (HB3.out.mono (Nat.le_trans hbw HP.out.bl.size))).setCell HWW.out.hg _).trans (by rw [hwA]; exact (b4.mono (by omega)).setCell HWW.out.hg _))
  have HGA : Hid (gA < wA.heap.size ∧ gA ∉ S.fp ∧ gA ≠ w.heap.size ∧ gA ≠ w.heap.size + 1) := hid ⟨by omega, fun q => by have := (HH.out.sx.sk.fp_lt q).2; omega, by omega, by omega⟩
  have HOPA : Hid (wA.heap[w.heap.size]? = some (.cells (opC 3 at_ nn m_ (.slice sp zr.length cap) bt) 41 (0, 0))) := hid ((hAe _ (by omega) (by omega)).trans ((HB3.out.block _ (by omega)).trans HP.out.op))
  have HANA : Hid (wA.heap[w.heap.size + 1]? = some (.cells anZ 58 (0, 0))) := hid ((hAe _ (by omega) (by omega)).trans ((HB3.out.block _ (by omega)).trans HP.out.an))
  have HF5A : Hid (∀ k, k < w.heap.size → k ∉ W.fp → k ≠ gA ∧ wA.heap[k]? = w.heap[k]?) := hid (fun k e1 e2 => ⟨by omega, (hAe k (by omega) (fun e => e2 ((W.mem _).2 (by simp [e])))).trans ((HB3.out.block k (by omega)).trans (HP.out.bl.block k e1))⟩)
  obtain ⟨W1, hW0, hTR, hW1g, hW1R⟩ : ∃ W1 : List Int → Wr, WO wA base (W1 zA) (c + 1) ∧ (∀ (wa wb : World) (z z' : List Int), WO wa base (W1 z) (c + 1) → Own wb base (.slice (some ⟨gA, 0, none⟩) 600 600) z' → z'.length = 600 → (∀ k, k < wa.heap.size → k ≠ gA → wb.heap[k]? = wa.heap[k]?) → WO wb base (W1 z') (c + 1)) ∧ (∀ z, (W1 z).g = W.g) ∧ (∀ z k, (W1 z).room.ownBlock = some k → k < wA.heap.size ∧ k ∉ S.fp ∧ k ≠ w.heap.size + 1) := by
    refine ⟨fun z => { W with turn := W.turn + 1, room := .slice (some ⟨gA, 0, none⟩) 600 600, zr := z }, ?_, fun wa wb z z' h1 h2 h3 h4 => ?_, fun _ => rfl, fun z k e => ?_⟩
    · rw [hwA]; exact HWR.out
    · exact h1.rewr z' h2 (Or.inr h3) (fun k hk q => h4 k (h1.ty hk).2.1 (fun e => q (by rw [e]; rfl)))
    · obtain rfl : gA = k := by simpa [Value.ownBlock] using e
      exact ⟨by omega, fun q => by have := (HH.out.sx.sk.fp_lt q).2; omega, by omega⟩
  have HW0 := hid hW0
  have HTR := hid hTR
  have HW1g := hid hW1g
  have HW1R := hid hW1R
  clear hW0 hTR hW1g hW1R hgl2 hPs hBs hAe hAe4 hz6 hO1 hs0 b4 hg hlt hg1 d5b d6b df6 hAs hz1
  go_wp2_with fail
  rw [← HWA.out]
  clear hwA
  go_loopw [13] (fun i wr => ∃ k : Nat, k ≤ 600 ∧ i = .int .i64 k ∧ Own wr base (.slice (some ⟨gA, 0, none⟩) 600 600) (List.replicate k 250 ++ zA.drop k) ∧ Bo.KV wA base (.slice (some ⟨gA, 0, none⟩) 600 600) wr) (fun i _ => 600 - (intOf i).toNat)
  case atStart => exact ⟨0, by omega, rfl, HOA.out, Bo.KV.refl _ _ _⟩
  case round =>
    obtain ⟨k, hk, rfl, hO, hK⟩ := hrel
    by_cases hkn : k < 600
    · have i1 : (k : Int) < 600 := by omega
      have hlen : (List.replicate k (250 : Int) ++ zA.drop k).length = 600 := by rw [List.length_append, List.length_replicate, List.length_drop, HZA.out]; omega
      obtain ⟨g, hg0, hg, c0, f0, hset⟩ := Bo.own_set (m := 250) hO (by rw [hlen]; exact hkn)
      obtain rfl : gA = g := by injection hg0 with hg0; injection hg0
      have HR := hid (show (List.replicate k (250 : Int) ++ zA.drop k).set k 250 = List.replicate (k + 1) 250 ++ zA.drop (k + 1) by
        have hko : k < zA.length := by rw [HZA.out]; exact hkn
        rw [List.set_append_right _ _ (by simp), List.length_replicate, Nat.sub_self, List.drop_eq_getElem_cons hko, List.set_cons_zero, List.replicate_succ', List.append_assoc]; rfl)
      replace hlen := hid hlen
      generalize (List.replicate k (250 : Int) ++ zA.drop k).getD k 0 = zz at *
      replace hset := hid hset
      replace hO := hid hO
      clear hg0
      go_wp2
      go_roundw
      case rel => exact ⟨k + 1, by omega, by go_num, (by rw [← HR.out]; exact hset.out), hK.step (Bo.At.self _ _) ((Below.refl _ _).setCell hg _) (fun kk _ q2 => Bo.heap_set_ne (show kk ≠ gA from fun e => q2 (by rw [e]; rfl)))⟩
      case measure => simp [intOf]; omega
    · obtain rfl : k = 600 := by omega
      clear hkn
      rw [List.drop_of_length_le (by rw [HZA.out]; exact Nat.le_refl _), List.append_nil] at hO
      have HK := hid hK
      have HOP : Hid (∀ wr, Bo.KV wA base (.slice (some ⟨gA, 0, none⟩) 600 600) wr → wr.heap[w.heap.size]? = some (.cells (opC 3 at_ nn m_ (.slice sp zr.length cap) bt) 41 (0, 0))) := hid (fun wr q => (q.2 _ (by have := HSA.out; omega) (fun e => HGA.out.2.2.1 (by simpa [Value.ownBlock] using e))).trans HOPA.out)
      have HRAW : Hid (∀ wr, Bo.KV wA base (.slice (some ⟨gA, 0, none⟩) 600 600) wr → ∀ j, j < zr.length → ∃ b o, sp = some ⟨b, o, none⟩ ∧ wr.cell? ⟨b, o + j, none⟩ = some (.int .u8 (zr.getD j 0))) := hid (fun wr q j hj => by
        obtain ⟨_, _, b, o, _, h2, h3⟩ := HSS.out
        refine ⟨b, o, h2 (by omega), ?_⟩
        have hb := HLO.out (by omega) _ (h2 (by omega))
        exact ((HBWA.out.trans q.1).cell (p := ⟨b, o + j, none⟩) hb).trans (h3 j hj))
      have hkk : (kk : Int) ≤ 300 := by omega
      go_wp2_with fail
      go_loopw [14] (fun i wr => ∃ (j : Nat) (zs : List Int), j ≤ kk ∧ i = .int .i64 j ∧ Own wr base (.slice (some ⟨gA, 0, none⟩) 600 600) zs ∧ zs.length = 600 ∧ Byts zs ∧ Bo.KV wA base (.slice (some ⟨gA, 0, none⟩) 600 600) wr) (fun i _ => kk - (intOf i).toNat)
      case atStart => exact ⟨0, List.replicate 600 250, by omega, rfl, hO, by simp, (by intro x hx; rw [List.eq_of_mem_replicate hx]; exact ⟨by omega, by omega⟩), HK.out⟩
      case round =>
        clear hO hK HK
        obtain ⟨j, zs, hj, rfl, hO, hzl, hz8, hK⟩ := hrel
        by_cases hjn : j < kk
        · have i1 : (j : Int) < (kk : Int) := by omega
          have i2 : (j : Int) < 600 := by omega
          have i3 : (j : Int) < (zr.length : Int) := by omega
          obtain ⟨rb, ro, rfl, cr⟩ := HRAW.out _ hK j (by omega)
          have ck4 : wr.cell? ⟨w.heap.size, 4, none⟩ = some (.slice (some ⟨rb, ro, none⟩) zr.length cap) := by rw [cell_of_row _ _ _ _ _ _ (HOP.out _ hK)]; rfl
          have hy8 : 0 ≤ zr.getD j 0 ∧ zr.getD j 0 < 256 := bytsB H8.out j
          generalize zr.getD j 0 = y at *
          obtain ⟨g, hg0, hg, c0, f0, hset⟩ := Bo.own_set (k := j) (m := y) hO (by rw [hzl]; omega)
          obtain rfl : gA = g := by injection hg0 with hg0; injection hg0
          have HS8 : Hid (Byts (zs.set j y)) := hid (fun x hx => by
            rcases List.mem_or_eq_of_mem_set hx with q | q
            · exact hz8 x q
            · rw [q]; exact hy8)
          generalize zs.getD j 0 = zz at *
          replace hset := hid hset
          replace hO := hid hO
          replace hzl := hid hzl
          clear hg0 hz8 hy8
          go_wp2
          go_roundw
          case rel => exact ⟨j + 1, zs.set j y, by omega, by go_num, hset.out, by rw [List.length_set]; exact hzl.out, HS8.out, hK.step (Bo.At.self _ _) ((Below.refl _ _).setCell hg _) (fun kk2 _ q2 => Bo.heap_set_ne (show kk2 ≠ gA from fun e => q2 (by rw [e]; rfl)))⟩
          case measure => simp [intOf]; omega
        · obtain rfl : j = kk := by omega
          clear hjn
          have ck2 : wr.cell? ⟨w.heap.size, 2, none⟩ = some (.int .i64 nn) := by rw [cell_of_row _ _ _ _ _ _ (HOP.out _ hK)]; rfl
          have HO := hid hO
          have HK := hid hK
          have HZ8 := hid hz8
          have HZL := hid hzl
          clear hO hK hz8 hzl
          have F5 : ∀ k, k < w.heap.size → k ∉ W.fp → wr.heap[k]? = w.heap[k]? := fun k e1 e2 => (HK.out.2 k (by have := HSA.out; omega) (fun e => (HF5A.out k e1 e2).1 (by simpa [Value.ownBlock] using e.symm))).trans (HF5A.out k e1 e2).2
          have hgS : ∀ k ∈ S.fp, k ∉ W.fp := fun k hk q => HWW.out.off HH.out.sx.sk HRR.out q hk
          have hsr := HK.out.1.size
          have hsA := HSA.out
          have hSb : Sb wr base S n o L b rm := HH.out.keep (fun k hk => F5 k (HH.out.sx.sk.fp_lt hk).2 (hgS k hk)) (by omega)
          have hWr : WO wr base (W1 zs) (c + 1) := HTR.out _ _ _ _ HW0.out HO.out HZL.out (fun k hk q => HK.out.2 k hk (fun e => q (by simpa [Value.ownBlock] using e.symm)))
          have hlk : (zs.take j).length = j := by rw [List.length_take, HZL.out]; omega
          have hsrcA : Src wr (some ⟨gA, 0, none⟩) 600 (zs.take j) := by
            obtain ⟨sx, cx, ex, ⟨g1, g2, gb, go, g3, g4, g5⟩, _⟩ := HO.out.form
            injection ex with e1 _ e3
            subst e1 e3
            refine ⟨by rw [hlk]; omega, g2, gb, go, fun q => g3 (by rw [HZL.out]; omega), fun q => g4 (by rw [HZL.out]; omega), fun i hi => ?_⟩
            rw [hlk] at hi
            rw [getD_takeB _ _ _ _ hi]
            exact g5 i (by rw [HZL.out]; omega)
          have HST := sb_stage wr base S n o L b rm hSb (by omega) nn (zs.take j) (fun x hx => HZ8.out x (List.mem_of_mem_take hx)) (by rw [hlk]; omega) (some ⟨gA, 0, none⟩) 600 hsrcA (fun e => by cases e)
          rw [hlk] at HST
          replace HST := hid HST
          have HF5 := hid F5
          have HGS := hid hgS
          have HSb := hid hSb
          have HWr := hid hWr
          have HLK := hid hlk
          have HSR := hid hsr
          clear hsA F5 hgS hsr hSb hWr hlk hsrcA
          go_wp2_with fail
          refine HST.out.mono ?_
          rintro e w6 ⟨S', q, E, rfl, hO6⟩
          have HO6 := hid hO6
          have HM6 : Hid (WO w6 base (W1 zs) (c + 1) ∧ RmO (W1 zs) S' ∧ wr.heap.size ≤ w6.heap.size ∧ w6.heap[w.heap.size]? = some (.cells (opC 3 at_ nn m_ (.slice sp zr.length cap) bt) 41 (0, 0)) ∧ gA ∉ S'.fp ∧ Own w6 base (.slice (some ⟨gA, 0, none⟩) 600 600) zs) := hid (by
            obtain ⟨_, _, hb, hf, hg⟩ := hO6
            have hsr := HSR.out
            have hsA := HSA.out
            refine ⟨HWr.out.keep fun k hk => hf.block k (HWr.out.ty hk).2.1 (HWr.out.off HSb.out.sx.sk (fun k e => (HW1R.out _ k e).2.1) hk), fun k e z => ?_, hf.size, (hf.block _ (by omega) (fun z => by have := (HH.out.sx.sk.fp_lt z).2; omega)).trans (HOP.out _ HK.out), fun z => ?_, HO.out.of_heap fun k e => ?_⟩
            · rcases hg k z with z | z
              · exact (HW1R.out _ k e).2.1 z
              · have := (HW1R.out _ k e).1; omega
            · rcases hg gA z with z | z
              · exact HGA.out.2.1 z
              · have := HGA.out.1; omega
            · obtain rfl : gA = k := by simpa [Value.ownBlock] using e
              exact hf.block _ (by have := HGA.out.1; omega) HGA.out.2.1)
          have HBW6 : Hid (Below base w w6) := hid ((HBWA.out.trans HK.out.1).trans hO6.2.2.1)
          have k46 : w6.cell? ⟨w.heap.size, 4, none⟩ = some (.slice sp zr.length cap) := by rw [cell_of_row _ _ _ _ _ _ HM6.out.2.2.2.1]; rfl
          have hsrc6 : Src w6 sp cap zr := by
            obtain ⟨g1, g2, gb, go, g3, g4, g5⟩ := HSS.out
            have hsz := HBW6.out.size
            exact ⟨g1, g2, gb, go, fun q => by have := g3 q; omega, g4, fun i hi => (HBW6.out.cell (p := ⟨gb, go + i, none⟩) (show gb < base from HLO.out (by omega) ⟨gb, go, none⟩ (g4 (by omega)))).trans (g5 i hi)⟩
          have HSH6 := hid (hshort_any w6 zr sp cap hsrc6 (by have := HLN.out; omega) 300 (by omega))
          clear hO6 HST hsrc6 ck2
          go_wp2_with fail
          refine HSH6.out.mono ?_
          rintro e w7 ⟨v7, rfl, hO7, hb7⟩
          obtain ⟨s7, c7, rfl, hsrc7, _⟩ := hO7.form
          have HB7 := hid hb7
          have hsrcA7 : Src w7 (some ⟨gA, 0, none⟩) 600 (zs.take j) := by
            have hO := HM6.out.2.2.2.2.2.below hb7 (Nat.le_refl _)
            obtain ⟨sx, cx, ex, ⟨g1, g2, gb, go, g3, g4, g5⟩, _⟩ := hO.form
            injection ex with e1 _ e3
            subst e1 e3
            refine ⟨by rw [HLK.out]; omega, g2, gb, go, fun q => g3 (by show 0 < zs.length; rw [HZL.out]; omega), fun q => g4 (by show 0 < zs.length; rw [HZL.out]; omega), fun i hi => ?_⟩
            rw [HLK.out] at hi
            rw [getD_takeB _ _ _ _ hi]
            exact g5 i (by show i < zs.length; rw [HZL.out]; omega)
          have HSM := same_any w7 (zs.take j) (zr.take 300) (some ⟨gA, 0, none⟩) s7 600 c7 hsrcA7 hsrc7
          rw [HLK.out, List.length_take] at HSM
          replace HSM := hid HSM
          clear hO7 hb7 hsrc7 hsrcA7
          go_wp2_with fail
          refine HSM.out.mono ?_
          rintro e w8 ⟨rfl, hb8⟩
          have HB8 := hid hb8
          clear hb8
          have FIN : Hid (∀ wX, Below base w6 wX → (∀ k, k < w6.heap.size → k ≠ gA → wX.heap[k]? = w6.heap[k]?) → (∃ z, Own wX base (.slice (some ⟨gA, 0, none⟩) 600 600) z ∧ z.length = 600) → wX.heap[w.heap.size + 1]? = some (.cells anZ 58 (0, 0)) ∧ ∀ E' N' : Int, OneP w base S n rm b 3 W c (.returned (.agg (anC E' N' (.slice none 0 0) sup0 0 0 0 0 0))) (wX.setRow (w.heap.size + 1) (anC E' N' (.slice none 0 0) sup0 0 0 0 0 0))) := hid (fun wX hbX hkX ⟨z, hzO, hzL⟩ => by
            have e1 := HSA.out
            have e2 := HSR.out
            have e3 := HM6.out.2.2.1
            have e4 := HGA.out.1
            obtain ⟨⟨o6, L6, hS6⟩, hB6, _, hf6, _⟩ := HO6.out
            have nS : ∀ k ∈ S'.fp, k ≠ gA := fun k hk q => HM6.out.2.2.2.2.1 (q ▸ hk)
            have nW : ∀ k, k < w.heap.size → k ∉ W.fp → k ≠ gA := fun k l hk => (HF5A.out k l hk).1
            have hWX : WO wX base (W1 z) (c + 1) := HTR.out _ _ _ _ HM6.out.1 hzO hzL hkX
            have ha : wX.heap[w.heap.size + 1]? = some (.cells anZ 58 (0, 0)) := by
              refine (hkX _ (by omega) (fun q => HGA.out.2.2.2 q.symm)).trans ((hf6.block _ (by omega) (fun q => by have := (HH.out.sx.sk.fp_lt q).2; omega)).trans ((HK.out.2 _ (by omega) (fun q => HGA.out.2.2.2 (by simpa [Value.ownBlock] using q))).trans HANA.out))
            refine ⟨ha, fun E' N' => ?_⟩
            have hrm : ∀ k, (W1 z).room.ownBlock = some k → k ∉ S'.fp ∧ k ≠ w.heap.size + 1 := fun k q => by
              refine ⟨fun q2 => ?_, (HW1R.out _ k q).2.2⟩
              obtain ⟨_, _, _, _, hg⟩ := HO6.out
              rcases hg k q2 with z | z
              · exact (HW1R.out _ k q).2.1 z
              · have := (HW1R.out _ k q).1; omega
            obtain ⟨z1, z2, z3, z4, z5⟩ := one_fin3 HH.out HF5.out (HBWA.out.trans HK.out.1) (by omega) HO6.out (fun k hk => hkX k (hS6.sx.sk.fp_lt hk).2 (nS k hk)) (fun k l1 l2 => hkX k (by omega) (nW k l1 l2)) hbX hWX ha hrm (anC E' N' (.slice none 0 0) sup0 0 0 0 0 0)
            exact ⟨S', _, _, _, _, _, _, _, _, _, _, rfl, rfl, z1, hB6.e3, z2, z3, HW1g.out _, z4, z5⟩)
          have HO6a : Hid (∀ wX, Below w6.heap.size w6 wX → ∃ z, Own wX base (.slice (some ⟨gA, 0, none⟩) 600 600) z ∧ z.length = 600) := hid (fun wX q => by
            have hO := HM6.out.2.2.2.2.2.below q (Nat.le_refl _)
            exact ⟨_, hO, HZL.out⟩)
          have HB68 : Hid (Below w6.heap.size w6 w8) := hid (HB7.out.trans (HB8.out.mono HB7.out.size))
          have HB6b : Hid (base ≤ w6.heap.size) := hid (Nat.le_trans HH.out.sx.sk.base HBW6.out.size)
          generalize decide (zs.take j = zr.take 300) = b1 at *
          cases b1
          · have H9 := hid (FIN.out w8 (HB68.out.mono HB6b.out) (fun k q _ => HB68.out.block k q) (HO6a.out w8 HB68.out))
            have HS0 := hid (show anZ.size = (anC (-1) 0 (.slice none 0 0) sup0 0 0 0 0 0).size from rfl)
            have HSO := hid (anO (-1) 0 none 0 0 sup0 0 0 0 0 0)
            have HSN := hid (anN (-1) 0 (.slice none 0 0) sup0 0 0 0 0 0)
            go_wp2_with (first | (refine wpList_store_row rfl 58 (.tmp 6) (.tmp 175) rfl (w.heap.size + 1) (anC (-1) 0 (.slice none 0 0) sup0 0 0 0 0 0) rfl rfl 58 anZ H9.out.1 HSN.out HS0.out HSO.out ?_) | fail)
            refine bodyPost_ret (results_c1B Try.results11 _ _ (w.heap.size + 1) 58 _ _ _ (by first | rfl | simp) (setRow_heap _ _ _ _ _ _ H9.out.1) Try.underlying58 rfl (anN _ _ _ _ _ _ _ _ _)) rfl ?_
            exact H9.out.2 _ _
          · have hsrcF : Src w8 (some ⟨gA, j, none⟩) (600 - j) (zs.drop j) := by
              have hO := HM6.out.2.2.2.2.2.below HB68.out (Nat.le_refl _)
              obtain ⟨sx, cx, ex, ⟨g1, g2, gb, go, g3, g4, g5⟩, _⟩ := hO.form
              injection ex with e1 _ e3
              subst e1 e3
              have e6 : zs.length = 600 := HZL.out
              replace g1 : zs.length ≤ 600 := g1
              replace g3 : 0 < zs.length → gb < w8.heap.size := g3
              replace g4 : 0 < zs.length → some (⟨gA, 0, none⟩ : Addr) = some (⟨gb, go, none⟩ : Addr) := g4
              replace g5 : ∀ i, i < zs.length → w8.cell? ⟨gb, go + i, none⟩ = some (.int .u8 (zs.getD i 0)) := g5
              have e7 := g4 (by omega)
              injection e7 with e7
              injection e7 with e8 e9 _
              subst e8 e9
              refine ⟨by rw [List.length_drop]; omega, by omega, gA, j, fun _ => g3 (by omega), fun _ => rfl, fun i hi => ?_⟩
              rw [List.length_drop] at hi
              have := g5 (j + i) (by omega)
              rw [Nat.zero_add] at this
              rw [this]
              simp [List.getD, List.getElem?_drop]
            have HFU := full_some w8 (zs.drop j) (some ⟨gA, j, none⟩) (600 - j) hsrcF 250 (600 - j) (by rw [List.length_drop, HZL.out]) (by omega)
            rw [show ((600 - j : Nat) : Int) = 600 - (j : Int) by omega] at HFU
            replace HFU := hid HFU
            clear hsrcF
            go_wp2_with fail
            refine HFU.out.mono ?_
            rintro e w9 ⟨b2, rfl, hb9⟩
            have HB69 : Hid (Below w6.heap.size w6 w9) := hid (HB68.out.trans (hb9.mono HB68.out.size))
            clear hb9 HFU
            cases b2
            · have H9 := hid (FIN.out w9 (HB69.out.mono HB6b.out) (fun k q _ => HB69.out.block k q) (HO6a.out w9 HB69.out))
              have HS0 := hid (show anZ.size = (anC (-1) 0 (.slice none 0 0) sup0 0 0 0 0 0).size from rfl)
              have HSO := hid (anO (-1) 0 none 0 0 sup0 0 0 0 0 0)
              have HSN := hid (anN (-1) 0 (.slice none 0 0) sup0 0 0 0 0 0)
              go_wp2_with (first | (refine wpList_store_row rfl 58 (.tmp 6) (.tmp 175) rfl (w.heap.size + 1) (anC (-1) 0 (.slice none 0 0) sup0 0 0 0 0 0) rfl rfl 58 anZ H9.out.1 HSN.out HS0.out HSO.out ?_) | fail)
              refine bodyPost_ret (results_c1B Try.results11 _ _ (w.heap.size + 1) 58 _ _ _ (by first | rfl | simp) (setRow_heap _ _ _ _ _ _ H9.out.1) Try.underlying58 rfl (anN _ _ _ _ _ _ _ _ _)) rfl ?_
              exact H9.out.2 _ _
            · obtain ⟨z9, hz9, hl9⟩ := HO6a.out w9 HB69.out
              go_wp2_with fail
              go_loopw [18] (fun i wr => ∃ (t : Nat) (z : List Int), t ≤ j ∧ i = .int .i64 t ∧ Own wr base (.slice (some ⟨gA, 0, none⟩) 600 600) z ∧ z.length = 600 ∧ Bo.KV w9 base (.slice (some ⟨gA, 0, none⟩) 600 600) wr) (fun i _ => j - (intOf i).toNat)
              case atStart => exact ⟨0, z9, by omega, rfl, hz9, hl9, Bo.KV.refl _ _ _⟩
              case round =>
                clear hz9 hl9
                obtain ⟨t, z, ht, rfl, hO, hzl, hK9⟩ := hrel
                by_cases htn : t < j
                · have i1 : (t : Int) < (j : Int) := by omega
                  obtain ⟨g, hg0, hg, c0, f0, hset⟩ := Bo.own_set (k := t) (m := 251) hO (by rw [hzl]; omega)
                  obtain rfl : gA = g := by injection hg0 with hg0; injection hg0
                  generalize z.getD t 0 = zz at *
                  replace hset := hid hset
                  replace hO := hid hO
                  replace hzl := hid hzl
                  clear hg0
                  go_wp2
                  go_roundw
                  case rel => exact ⟨t + 1, z.set t 251, by omega, by go_num, hset.out, by rw [List.length_set]; exact hzl.out, hK9.step (Bo.At.self _ _) ((Below.refl _ _).setCell hg _) (fun kk2 _ q2 => Bo.heap_set_ne (show kk2 ≠ gA from fun e => q2 (by rw [e]; rfl)))⟩
                  case measure => simp [intOf]; omega
                · obtain rfl : t = j := by omega
                  clear htn
                  have H9 := hid (FIN.out _ ((HB69.out.mono HB6b.out).trans hK9.1) (fun k q r => (hK9.2 k (Nat.lt_of_lt_of_le q HB69.out.size) (fun e => r (by simpa [Value.ownBlock] using e.symm))).trans (HB69.out.block k q)) ⟨z, hO, hzl⟩)
                  have HS0 := hid (show anZ.size = (anC E q (.slice none 0 0) sup0 0 0 0 0 0).size from rfl)
                  have HSO := hid (anO E q none 0 0 sup0 0 0 0 0 0)
                  have HSN := hid (anN E q (.slice none 0 0) sup0 0 0 0 0 0)
                  go_wp2_with (first | (refine wpList_store_row rfl 58 (.tmp 6) (.tmp 187) rfl (w.heap.size + 1) (anC E q (.slice none 0 0) sup0 0 0 0 0 0) rfl rfl 58 anZ H9.out.1 HSN.out HS0.out HSO.out ?_) | fail)
                  refine bodyPost_ret (results_c1B Try.results11 _ _ (w.heap.size + 1) 58 _ _ _ (by first | rfl | simp) (setRow_heap _ _ _ _ _ _ H9.out.1) Try.underlying58 rfl (anN _ _ _ _ _ _ _ _ _)) rfl ?_
                  exact H9.out.2 _ _

set_option maxRecDepth 100000 in
set_option maxHeartbeats 1000000 in
theorem one_stage_ne (w : World) (base : Nat) (S : Sto) (n : Nat) (o : Sup) (L : List (Int × List Int)) (b rm : Nat) (h : Sb w base S n o L b rm) (hb : b ≤ 1000000000) (W : Wr) (c : Nat) (hW : WO w base W c) (hr : RmO W S) (hc : c ≤ 1000000000) (zr : List Int) (h8 : Byts zr) (hl : zr.length ≤ 140737488352000) (hzr : W.zr = []) (hq : (((W.turn : Int) + 1) % 2 == 0) = true) (at_ nn m_ : Int) (sp : Option Addr) (l cap bt : Nat) (hlz : l = zr.length) (hS : Src w sp cap zr) (hlow : 0 < zr.length → ∀ a, sp = some a → a.block < base) :
    Calls Try.prog 11 #[.pointer (some ⟨W.g, 0, none⟩), .pointer (some ⟨S.st, 0, none⟩), .agg (opC 3 at_ nn m_ (.slice sp l cap) bt)] w (OneP w base S n rm b 3 W c) := by
  obtain ⟨w2, hw2⟩ : ∃ w2, w2 = (w.alloc (.cells (opC 3 at_ nn m_ (.slice sp l cap) bt) 41)).alloc (.cells #[.int .i64 0, .int .i64 0, .bool false, .slice none 0 0, .int .i64 0, .int .i64 0, .int .i64 0, .int .i64 0, .int .i64 0, .int .i64 0, .int .i64 0, .int .i64 0, .int .i64 0, .int .i64 0, .int .i64 0, .int .i64 0, .int .i64 0, .int .i64 0] 58) := ⟨_, rfl⟩
  have HW2 := hid hw2
  have hP : Pn w w2 (opC 3 at_ nn m_ (.slice sp l cap) bt) := by rw [hw2]; exact Pn.mk' w _
  have k0 : w2.cell? ⟨w.heap.size, 0, none⟩ = some (.int .i64 3) := by rw [cell_of_row _ _ _ _ _ _ hP.op]; rfl
  have k2 : w2.cell? ⟨w.heap.size, 2, none⟩ = some (.int .i64 nn) := by rw [cell_of_row _ _ _ _ _ _ hP.op]; rfl
  have h2 := h.below hP.bl
  have k4 : w2.cell? ⟨w.heap.size, 4, none⟩ = some (.slice sp l cap) := by rw [cell_of_row _ _ _ _ _ _ hP.op]; rfl
  subst hlz
  have HSH := hid (hshort_any w2 zr sp cap (hS.below hP.bl (Nat.le_refl _)) (by omega) 300 (by omega))
  have hW2 := hW.below hP.bl
  have HP := hid hP
  have HH := hid h
  have HWW := hid hW
  have HRR := hid hr
  have HSS := hid hS
  have HLO := hid hlow
  have H8 := hid h8
  have HLN := hid hl
  have HTU := hid hW.tu
  have HFL := hid (fun k hk => (hW.ty (k := k) hk).2.1)
  clear h h2 hW hr hP hS hlow h8 hl
  rw [hw2] at k0 k2 k4
  clear hw2
  go_enter Try.func11, Try.ntmps11
  go_wp2_with (first
    | refine wpList_box_Op rfl (.tmp 2) rfl _ at_ nn m_ sp l cap bt rfl ?_)
  rw [← HW2.out]
  refine HSH.out.mono ?_
  rintro e w3 ⟨v3, rfl, hO3, hb3⟩
  obtain ⟨s3, c3, rfl, _, _⟩ := hO3.form
  have hk3 : (zr.take 300).length ≤ 300 := by rw [List.length_take]; omega
  have hk4 : (zr.take 300).length ≤ zr.length := by rw [List.length_take]; omega
  generalize (zr.take 300).length = kk at *
  have hW3 := hW2.below hb3
  obtain ⟨_, _, _, c5, _, f5⟩ := hW3.cells
  have f5b := f5 5
  clear f5
  have hWt := hW3.turned
  obtain ⟨_, _, _, d5, d6, df⟩ := hWt.cells
  have df6 := df 6
  clear df
  have hti : (W.turn : Int) ≤ 1000000000 := by have := HTU.out; omega
  have hti0 : (0 : Int) ≤ (W.turn : Int) := by omega
  have d5b : (w3.setCell ⟨W.g, 5, none⟩ (.int .i64 ((W.turn : Int) + 1))).cell? ⟨W.g, 5, none⟩ = some (.int .i64 ((W.turn : Int) + 1)) := d5
  have HWT := hid hWt
  have HB3 := hid hb3
  have hrm := hWt.rm
  have HRM := hid hrm
  obtain ⟨spR, capR, hR, _, _⟩ := hrm.form
  have hR2 : W.room = .slice spR W.zr.length capR := hR
  have d6b : (w3.setCell ⟨W.g, 5, none⟩ (.int .i64 ((W.turn : Int) + 1))).cell? ⟨W.g, 6, none⟩ = some (.slice spR W.zr.length capR) := d6.trans (by rw [← hR2])
  have hR2a := hid hR2
  clear d5 d6 hO3 hb3 hW3 hWt hW2 HSH k0 k2 k4 hrm hR hR2
  rw [hzr, List.length_nil] at d6b
  obtain ⟨i5, hi5, hz5, hs5, hy5⟩ := Try.info5
  have HI := hid hi5
  have K1 := hid (show i5.bytes * 600 ≤ 281474976710656 by rw [hy5]; omega)
  have K2 := hid (show 600 ≤ maxLen by unfold maxLen; omega)
  clear hi5 hy5
  have HB0 := hid HH.out.sx.sk.base
  have hgl2 := HFL.out W.g ((W.mem _).2 (by simp))
  have hPs := HP.out.sz
  have hBs := HB3.out.size
  go_wp2_with (refine wpList_make_full _ rfl _ _ 36 rfl (w3.setCell ⟨W.g, 5, none⟩ (.int .i64 ((W.turn : Int) + 1))).heap.size 5 i5 (.int .u8 0) 1 Try.underlying36 HI.out hz5 hs5 .i64 .i64 _ _ 600 rfl rfl rfl rfl K1.out K2.out (Nat.le_refl _) ?_; intro w4 hO hg; refine Hid.out ?_)
  refine hid ?_
  have hs0 : (w3.setCell ⟨W.g, 5, none⟩ (.int .i64 ((W.turn : Int) + 1))).heap.size = w3.heap.size := World.size_setCell ..
  have b4 : Below (w3.setCell ⟨W.g, 5, none⟩ (.int .i64 ((W.turn : Int) + 1))).heap.size (w3.setCell ⟨W.g, 5, none⟩ (.int .i64 ((W.turn : Int) + 1))) w4 := grown_keeps hg (fun k hk => by cases hk) (Nat.le_refl _)
  obtain ⟨z1, hz1⟩ : ∃ z1, z1 = padz [] 600 := ⟨_, rfl⟩
  have hz6 : z1.length = 600 := by rw [hz1]; exact padz_ln 600
  have hO1 := own_made w4 base (w3.setCell ⟨W.g, 5, none⟩ (.int .i64 ((W.turn : Int) + 1))).heap.size 600 (by have := HB0.out; omega) K2.out (made_row hO)
  have hlt := hlt_ (made_row hO)
  rw [← hz1] at hO1
  clear hO
  have hwr := HWT.out.roomed _ z1 hO1 hz6 b4 (fun k e => Nat.le_of_eq (by simpa [Value.ownBlock] using e))
  have hAe4 : ∀ k, k < w3.heap.size → k ≠ W.g → w4.heap[k]? = w3.heap[k]? := fun k l e => (b4.block k (by omega)).trans (heap_setCell_other w3 ⟨W.g, 5, none⟩ k _ e)
  rw [hs0] at hO1 hlt b4 hwr
  try rw [hs0]
  generalize hg1 : w3.heap.size = g1 at *
  obtain ⟨hrow, hWR⟩ := hwr
  have c6b : w4.cell? ⟨W.g, 6, none⟩ = some (.slice spR 0 capR) := by rw [cell_of_row _ _ _ _ _ _ hrow]; show some W.room = _; rw [hR2a.out, hzr, List.length_nil]
  obtain ⟨_, _, _, _, _, ef4⟩ := (HWT.out.below (by rw [World.size_setCell, hg1]; exact b4)).cells
  have ef46 := ef4 6
  clear ef4
  obtain ⟨_, _, _, e5, e6, ef⟩ := hWR.cells
  have ef6 := ef 6
  have e5b : (w4.setCell ⟨W.g, 6, none⟩ (.slice (some ⟨g1, 0, none⟩) 600 600)).cell? ⟨W.g, 5, none⟩ = some (.int .i64 ((W.turn : Int) + 1)) := e5
  have e6b : (w4.setCell ⟨W.g, 6, none⟩ (.slice (some ⟨g1, 0, none⟩) 600 600)).cell? ⟨W.g, 6, none⟩ = some (.slice (some ⟨g1, 0, none⟩) 600 600) := e6
  have HWR := hid hWR
  clear e5 e6 ef hrow hWR
  go_wp2_with (refine wpList_make_full _ rfl _ _ 36 rfl (w4.setCell ⟨W.g, 6, none⟩ (.slice (some ⟨g1, 0, none⟩) 600 600)).heap.size 5 i5 (.int .u8 0) 1 Try.underlying36 HI.out hz5 hs5 .i64 .i64 _ _ 600 rfl rfl rfl rfl K1.out K2.out (Nat.le_refl _) ?_; intro wA hO hg; refine Hid.out ?_)
  refine hid ?_
  have hs1 : (w4.setCell ⟨W.g, 6, none⟩ (.slice (some ⟨g1, 0, none⟩) 600 600)).heap.size = w4.heap.size := World.size_setCell ..
  have bA : Below (w4.setCell ⟨W.g, 6, none⟩ (.slice (some ⟨g1, 0, none⟩) 600 600)).heap.size (w4.setCell ⟨W.g, 6, none⟩ (.slice (some ⟨g1, 0, none⟩) 600 600)) wA := grown_keeps hg (fun k hk => by cases hk) (Nat.le_refl _)
  have hAe : ∀ k, k < w3.heap.size → k ≠ W.g → wA.heap[k]? = w3.heap[k]? := fun k l e => (bA.block k (by omega)).trans ((heap_setCell_other w4 ⟨W.g, 6, none⟩ k _ e).trans (hAe4 k (by omega) e))
  obtain ⟨zA, hzA⟩ : ∃ zA, zA = padz [] 600 := ⟨_, rfl⟩
  have hz7 : zA.length = 600 := by rw [hzA]; exact padz_ln 600
  have hOA := own_made wA base (w4.setCell ⟨W.g, 6, none⟩ (.slice (some ⟨g1, 0, none⟩) 600 600)).heap.size 600 (by have := HB0.out; omega) K2.out (made_row hO)
  have hlt2 := hlt_ (made_row hO)
  rw [← hzA] at hOA
  clear hO
  rw [hs1] at hOA hlt2 bA
  try rw [hs1]
  generalize hgA : w4.heap.size = gA at *
  have HZA := hid hz7
  have HOA := hid hOA
  have hcap600 : (600 : Int) ≤ ((600 : Nat) : Int) := by omega
  have HSA : Hid (w.heap.size + 2 ≤ wA.heap.size) := hid (by omega)
  have HBWA : Hid (Below base w wA) := hid (by
    have hbw := HH.out.sx.sk.base
    exact (((HP.out.bl.mono hbw).trans (HB3.out.mono (Nat.le_trans hbw HP.out.bl.size))).setCell HWW.out.hg _).trans (((b4.mono (by omega)).setCell HWW.out.hg _).trans (bA.mono (by omega))))
  have HGA : Hid (gA < wA.heap.size ∧ gA ∉ S.fp ∧ gA ≠ w.heap.size ∧ gA ≠ w.heap.size + 1) := hid ⟨by omega, fun q => by have := (HH.out.sx.sk.fp_lt q).2; omega, by omega, by omega⟩
  have HOPA : Hid (wA.heap[w.heap.size]? = some (.cells (opC 3 at_ nn m_ (.slice sp zr.length cap) bt) 41 (0, 0))) := hid ((hAe _ (by omega) (by omega)).trans ((HB3.out.block _ (by omega)).trans HP.out.op))
  have HANA : Hid (wA.heap[w.heap.size + 1]? = some (.cells anZ 58 (0, 0))) := hid ((hAe _ (by omega) (by omega)).trans ((HB3.out.block _ (by omega)).trans HP.out.an))
  have HF5A : Hid (∀ k, k < w.heap.size → k ∉ W.fp → k ≠ gA ∧ wA.heap[k]? = w.heap[k]?) := hid (fun k e1 e2 => ⟨by omega, (hAe k (by omega) (fun e => e2 ((W.mem _).2 (by simp [e])))).trans ((HB3.out.block k (by omega)).trans (HP.out.bl.block k e1))⟩)
  obtain ⟨W1, hW0, hTR, hW1g, hW1R⟩ : ∃ W1 : List Int → Wr, WO wA base (W1 zA) (c + 1) ∧ (∀ (wa wb : World) (z z' : List Int), WO wa base (W1 z) (c + 1) → Own wb base (.slice (some ⟨gA, 0, none⟩) 600 600) z' → z'.length = 600 → (∀ k, k < wa.heap.size → k ≠ gA → wb.heap[k]? = wa.heap[k]?) → WO wb base (W1 z') (c + 1)) ∧ (∀ z, (W1 z).g = W.g) ∧ (∀ z k, (W1 z).room.ownBlock = some k → k < wA.heap.size ∧ k ∉ S.fp ∧ k ≠ w.heap.size + 1) := by
    refine ⟨fun z => { W with turn := W.turn + 1, room := .slice (some ⟨g1, 0, none⟩) 600 600, zr := z1 }, HWR.out.below (by rw [World.size_setCell, hgA]; exact bA), fun wa wb z z' h1 h2 h3 h4 => h1.keep fun k hk => h4 k (h1.ty hk).2.1 (fun e => ?_), fun _ => rfl, fun z k e => ?_⟩
    · have hk2 : k ∈ W.fp ∨ k = g1 := by
        rcases (Wr.mem _ k).1 hk with q | q | q | q | q | q | q | q | q
        · exact Or.inl ((W.mem k).2 (Or.inl q))
        · exact Or.inl ((W.mem k).2 (Or.inr (Or.inl q)))
        · exact Or.inl ((W.mem k).2 (Or.inr (Or.inr (Or.inl q))))
        · exact Or.inl ((W.mem k).2 (Or.inr (Or.inr (Or.inr (Or.inl q)))))
        · exact Or.inl ((W.mem k).2 (Or.inr (Or.inr (Or.inr (Or.inr (Or.inl q))))))
        · exact Or.inl ((W.mem k).2 (Or.inr (Or.inr (Or.inr (Or.inr (Or.inr (Or.inl q)))))))
        · exact Or.inl ((W.mem k).2 (Or.inr (Or.inr (Or.inr (Or.inr (Or.inr (Or.inr (Or.inl q))))))))
        · exact Or.inl ((W.mem k).2 (Or.inr (Or.inr (Or.inr (Or.inr (Or.inr (Or.inr (Or.inr (Or.inl q)))))))))
        · exact Or.inr (by simpa [Value.ownBlock] using q.symm)
      rcases hk2 with q | q
      · have := HFL.out k q; omega
      · omega
    · obtain rfl : g1 = k := by simpa [Value.ownBlock] using e
      exact ⟨by omega, fun q => by have := (HH.out.sx.sk.fp_lt q).2; omega, by omega⟩
  have HW0 := hid hW0
  have HTR := hid hTR
  have HW1g := hid hW1g
  have HW1R := hid hW1R
  clear hW0 hTR hW1g hW1R hgl2 hPs hBs hAe hAe4 hz6 hz7 hO1 hOA hs0 hs1 b4 bA hg hlt hlt2 hg1 hgA d5b d6b df6 hz1 hzA c6b e5b e6b ef6
  go_wp2_with fail
  go_loopw [13] (fun i wr => ∃ k : Nat, k ≤ 600 ∧ i = .int .i64 k ∧ Own wr base (.slice (some ⟨gA, 0, none⟩) 600 600) (List.replicate k 250 ++ zA.drop k) ∧ Bo.KV wA base (.slice (some ⟨gA, 0, none⟩) 600 600) wr) (fun i _ => 600 - (intOf i).toNat)
  case atStart => exact ⟨0, by omega, rfl, HOA.out, Bo.KV.refl _ _ _⟩
  case round =>
    obtain ⟨k, hk, rfl, hO, hK⟩ := hrel
    by_cases hkn : k < 600
    · have i1 : (k : Int) < 600 := by omega
      have hlen : (List.replicate k (250 : Int) ++ zA.drop k).length = 600 := by rw [List.length_append, List.length_replicate, List.length_drop, HZA.out]; omega
      obtain ⟨g, hg0, hg, c0, f0, hset⟩ := Bo.own_set (m := 250) hO (by rw [hlen]; exact hkn)
      obtain rfl : gA = g := by injection hg0 with hg0; injection hg0
      have HR := hid (show (List.replicate k (250 : Int) ++ zA.drop k).set k 250 = List.replicate (k + 1) 250 ++ zA.drop (k + 1) by
        have hko : k < zA.length := by rw [HZA.out]; exact hkn
        rw [List.set_append_right _ _ (by simp), List.length_replicate, Nat.sub_self, List.drop_eq_getElem_cons hko, List.set_cons_zero, List.replicate_succ', List.append_assoc]; rfl)
      replace hlen := hid hlen
      generalize (List.replicate k (250 : Int) ++ zA.drop k).getD k 0 = zz at *
      replace hset := hid hset
      replace hO := hid hO
      clear hg0
      go_wp2
      go_roundw
      case rel => exact ⟨k + 1, by omega, by go_num, (by rw [← HR.out]; exact hset.out), hK.step (Bo.At.self _ _) ((Below.refl _ _).setCell hg _) (fun kk _ q2 => Bo.heap_set_ne (show kk ≠ gA from fun e => q2 (by rw [e]; rfl)))⟩
      case measure => simp [intOf]; omega
    · obtain rfl : k = 600 := by omega
      clear hkn
      rw [List.drop_of_length_le (by rw [HZA.out]; exact Nat.le_refl _), List.append_nil] at hO
      have HK := hid hK
      have HOP : Hid (∀ wr, Bo.KV wA base (.slice (some ⟨gA, 0, none⟩) 600 600) wr → wr.heap[w.heap.size]? = some (.cells (opC 3 at_ nn m_ (.slice sp zr.length cap) bt) 41 (0, 0))) := hid (fun wr q => (q.2 _ (by have := HSA.out; omega) (fun e => HGA.out.2.2.1 (by simpa [Value.ownBlock] using e))).trans HOPA.out)
      have HRAW : Hid (∀ wr, Bo.KV wA base (.slice (some ⟨gA, 0, none⟩) 600 600) wr → ∀ j, j < zr.length → ∃ b o, sp = some ⟨b, o, none⟩ ∧ wr.cell? ⟨b, o + j, none⟩ = some (.int .u8 (zr.getD j 0))) := hid (fun wr q j hj => by
        obtain ⟨_, _, b, o, _, h2, h3⟩ := HSS.out
        refine ⟨b, o, h2 (by omega), ?_⟩
        have hb := HLO.out (by omega) _ (h2 (by omega))
        exact ((HBWA.out.trans q.1).cell (p := ⟨b, o + j, none⟩) hb).trans (h3 j hj))
      have hkk : (kk : Int) ≤ 300 := by omega
      go_wp2_with fail
      go_loopw [14] (fun i wr => ∃ (j : Nat) (zs : List Int), j ≤ kk ∧ i = .int .i64 j ∧ Own wr base (.slice (some ⟨gA, 0, none⟩) 600 600) zs ∧ zs.length = 600 ∧ Byts zs ∧ Bo.KV wA base (.slice (some ⟨gA, 0, none⟩) 600 600) wr) (fun i _ => kk - (intOf i).toNat)
      case atStart => exact ⟨0, List.replicate 600 250, by omega, rfl, hO, by simp, (by intro x hx; rw [List.eq_of_mem_replicate hx]; exact ⟨by omega, by omega⟩), HK.out⟩
      case round =>
        clear hO hK HK
        obtain ⟨j, zs, hj, rfl, hO, hzl, hz8, hK⟩ := hrel
        by_cases hjn : j < kk
        · have i1 : (j : Int) < (kk : Int) := by omega
          have i2 : (j : Int) < 600 := by omega
          have i3 : (j : Int) < (zr.length : Int) := by omega
          obtain ⟨rb, ro, rfl, cr⟩ := HRAW.out _ hK j (by omega)
          have ck4 : wr.cell? ⟨w.heap.size, 4, none⟩ = some (.slice (some ⟨rb, ro, none⟩) zr.length cap) := by rw [cell_of_row _ _ _ _ _ _ (HOP.out _ hK)]; rfl
          have hy8 : 0 ≤ zr.getD j 0 ∧ zr.getD j 0 < 256 := bytsB H8.out j
          generalize zr.getD j 0 = y at *
          obtain ⟨g, hg0, hg, c0, f0, hset⟩ := Bo.own_set (k := j) (m := y) hO (by rw [hzl]; omega)
          obtain rfl : gA = g := by injection hg0 with hg0; injection hg0
          have HS8 : Hid (Byts (zs.set j y)) := hid (fun x hx => by
            rcases List.mem_or_eq_of_mem_set hx with q | q
            · exact hz8 x q
            · rw [q]; exact hy8)
          generalize zs.getD j 0 = zz at *
          replace hset := hid hset
          replace hO := hid hO
          replace hzl := hid hzl
          clear hg0 hz8 hy8
          go_wp2
          go_roundw
          case rel => exact ⟨j + 1, zs.set j y, by omega, by go_num, hset.out, by rw [List.length_set]; exact hzl.out, HS8.out, hK.step (Bo.At.self _ _) ((Below.refl _ _).setCell hg _) (fun kk2 _ q2 => Bo.heap_set_ne (show kk2 ≠ gA from fun e => q2 (by rw [e]; rfl)))⟩
          case measure => simp [intOf]; omega
        · obtain rfl : j = kk := by omega
          clear hjn
          have ck2 : wr.cell? ⟨w.heap.size, 2, none⟩ = some (.int .i64 nn) := by rw [cell_of_row _ _ _ _ _ _ (HOP.out _ hK)]; rfl
          have HO := hid hO
          have HK := hid hK
          have HZ8 := hid hz8
          have HZL := hid hzl
          clear hO hK hz8 hzl
          have F5 : ∀ k, k < w.heap.size → k ∉ W.fp → wr.heap[k]? = w.heap[k]? := fun k e1 e2 => (HK.out.2 k (by have := HSA.out; omega) (fun e => (HF5A.out k e1 e2).1 (by simpa [Value.ownBlock] using e.symm))).trans (HF5A.out k e1 e2).2
          have hgS : ∀ k ∈ S.fp, k ∉ W.fp := fun k hk q => HWW.out.off HH.out.sx.sk HRR.out q hk
          have hsr := HK.out.1.size
          have hsA := HSA.out
          have hSb : Sb wr base S n o L b rm := HH.out.keep (fun k hk => F5 k (HH.out.sx.sk.fp_lt hk).2 (hgS k hk)) (by omega)
          have hWr : WO wr base (W1 zs) (c + 1) := HTR.out _ _ _ _ HW0.out HO.out HZL.out (fun k hk q => HK.out.2 k hk (fun e => q (by simpa [Value.ownBlock] using e.symm)))
          have hlk : (zs.take j).length = j := by rw [List.length_take, HZL.out]; omega
          have hsrcA : Src wr (some ⟨gA, 0, none⟩) 600 (zs.take j) := by
            obtain ⟨sx, cx, ex, ⟨g1, g2, gb, go, g3, g4, g5⟩, _⟩ := HO.out.form
            injection ex with e1 _ e3
            subst e1 e3
            refine ⟨by rw [hlk]; omega, g2, gb, go, fun q => g3 (by rw [HZL.out]; omega), fun q => g4 (by rw [HZL.out]; omega), fun i hi => ?_⟩
            rw [hlk] at hi
            rw [getD_takeB _ _ _ _ hi]
            exact g5 i (by rw [HZL.out]; omega)
          have HST := sb_stage wr base S n o L b rm hSb (by omega) nn (zs.take j) (fun x hx => HZ8.out x (List.mem_of_mem_take hx)) (by rw [hlk]; omega) (some ⟨gA, 0, none⟩) 600 hsrcA (fun e => by cases e)
          rw [hlk] at HST
          replace HST := hid HST
          have HF5 := hid F5
          have HGS := hid hgS
          have HSb := hid hSb
          have HWr := hid hWr
          have HLK := hid hlk
          have HSR := hid hsr
          clear hsA F5 hgS hsr hSb hWr hlk hsrcA
          go_wp2_with fail
          refine HST.out.mono ?_
          rintro e w6 ⟨S', q, E, rfl, hO6⟩
          have HO6 := hid hO6
          have HM6 : Hid (WO w6 base (W1 zs) (c + 1) ∧ RmO (W1 zs) S' ∧ wr.heap.size ≤ w6.heap.size ∧ w6.heap[w.heap.size]? = some (.cells (opC 3 at_ nn m_ (.slice sp zr.length cap) bt) 41 (0, 0)) ∧ gA ∉ S'.fp ∧ Own w6 base (.slice (some ⟨gA, 0, none⟩) 600 600) zs) := hid (by
            obtain ⟨_, _, hb, hf, hg⟩ := hO6
            have hsr := HSR.out
            have hsA := HSA.out
            refine ⟨HWr.out.keep fun k hk => hf.block k (HWr.out.ty hk).2.1 (HWr.out.off HSb.out.sx.sk (fun k e => (HW1R.out _ k e).2.1) hk), fun k e z => ?_, hf.size, (hf.block _ (by omega) (fun z => by have := (HH.out.sx.sk.fp_lt z).2; omega)).trans (HOP.out _ HK.out), fun z => ?_, HO.out.of_heap fun k e => ?_⟩
            · rcases hg k z with z | z
              · exact (HW1R.out _ k e).2.1 z
              · have := (HW1R.out _ k e).1; omega
            · rcases hg gA z with z | z
              · exact HGA.out.2.1 z
              · have := HGA.out.1; omega
            · obtain rfl : gA = k := by simpa [Value.ownBlock] using e
              exact hf.block _ (by have := HGA.out.1; omega) HGA.out.2.1)
          have HBW6 : Hid (Below base w w6) := hid ((HBWA.out.trans HK.out.1).trans hO6.2.2.1)
          have k46 : w6.cell? ⟨w.heap.size, 4, none⟩ = some (.slice sp zr.length cap) := by rw [cell_of_row _ _ _ _ _ _ HM6.out.2.2.2.1]; rfl
          have hsrc6 : Src w6 sp cap zr := by
            obtain ⟨g1, g2, gb, go, g3, g4, g5⟩ := HSS.out
            have hsz := HBW6.out.size
            exact ⟨g1, g2, gb, go, fun q => by have := g3 q; omega, g4, fun i hi => (HBW6.out.cell (p := ⟨gb, go + i, none⟩) (show gb < base from HLO.out (by omega) ⟨gb, go, none⟩ (g4 (by omega)))).trans (g5 i hi)⟩
          have HSH6 := hid (hshort_any w6 zr sp cap hsrc6 (by have := HLN.out; omega) 300 (by omega))
          clear hO6 HST hsrc6 ck2
          go_wp2_with fail
          refine HSH6.out.mono ?_
          rintro e w7 ⟨v7, rfl, hO7, hb7⟩
          obtain ⟨s7, c7, rfl, hsrc7, _⟩ := hO7.form
          have HB7 := hid hb7
          have hsrcA7 : Src w7 (some ⟨gA, 0, none⟩) 600 (zs.take j) := by
            have hO := HM6.out.2.2.2.2.2.below hb7 (Nat.le_refl _)
            obtain ⟨sx, cx, ex, ⟨g1, g2, gb, go, g3, g4, g5⟩, _⟩ := hO.form
            injection ex with e1 _ e3
            subst e1 e3
            refine ⟨by rw [HLK.out]; omega, g2, gb, go, fun q => g3 (by show 0 < zs.length; rw [HZL.out]; omega), fun q => g4 (by show 0 < zs.length; rw [HZL.out]; omega), fun i hi => ?_⟩
            rw [HLK.out] at hi
            rw [getD_takeB _ _ _ _ hi]
            exact g5 i (by show i < zs.length; rw [HZL.out]; omega)
          have HSM := same_any w7 (zs.take j) (zr.take 300) (some ⟨gA, 0, none⟩) s7 600 c7 hsrcA7 hsrc7
          rw [HLK.out, List.length_take] at HSM
          replace HSM := hid HSM
          clear hO7 hb7 hsrc7 hsrcA7
          go_wp2_with fail
          refine HSM.out.mono ?_
          rintro e w8 ⟨rfl, hb8⟩
          have HB8 := hid hb8
          clear hb8
          have FIN : Hid (∀ wX, Below base w6 wX → (∀ k, k < w6.heap.size → k ≠ gA → wX.heap[k]? = w6.heap[k]?) → (∃ z, Own wX base (.slice (some ⟨gA, 0, none⟩) 600 600) z ∧ z.length = 600) → wX.heap[w.heap.size + 1]? = some (.cells anZ 58 (0, 0)) ∧ ∀ E' N' : Int, OneP w base S n rm b 3 W c (.returned (.agg (anC E' N' (.slice none 0 0) sup0 0 0 0 0 0))) (wX.setRow (w.heap.size + 1) (anC E' N' (.slice none 0 0) sup0 0 0 0 0 0))) := hid (fun wX hbX hkX ⟨z, hzO, hzL⟩ => by
            have e1 := HSA.out
            have e2 := HSR.out
            have e3 := HM6.out.2.2.1
            have e4 := HGA.out.1
            obtain ⟨⟨o6, L6, hS6⟩, hB6, _, hf6, _⟩ := HO6.out
            have nS : ∀ k ∈ S'.fp, k ≠ gA := fun k hk q => HM6.out.2.2.2.2.1 (q ▸ hk)
            have nW : ∀ k, k < w.heap.size → k ∉ W.fp → k ≠ gA := fun k l hk => (HF5A.out k l hk).1
            have hWX : WO wX base (W1 z) (c + 1) := HTR.out _ _ _ _ HM6.out.1 hzO hzL hkX
            have ha : wX.heap[w.heap.size + 1]? = some (.cells anZ 58 (0, 0)) := by
              refine (hkX _ (by omega) (fun q => HGA.out.2.2.2 q.symm)).trans ((hf6.block _ (by omega) (fun q => by have := (HH.out.sx.sk.fp_lt q).2; omega)).trans ((HK.out.2 _ (by omega) (fun q => HGA.out.2.2.2 (by simpa [Value.ownBlock] using q))).trans HANA.out))
            refine ⟨ha, fun E' N' => ?_⟩
            have hrm : ∀ k, (W1 z).room.ownBlock = some k → k ∉ S'.fp ∧ k ≠ w.heap.size + 1 := fun k q => by
              refine ⟨fun q2 => ?_, (HW1R.out _ k q).2.2⟩
              obtain ⟨_, _, _, _, hg⟩ := HO6.out
              rcases hg k q2 with z | z
              · exact (HW1R.out _ k q).2.1 z
              · have := (HW1R.out _ k q).1; omega
            obtain ⟨z1, z2, z3, z4, z5⟩ := one_fin3 HH.out HF5.out (HBWA.out.trans HK.out.1) (by omega) HO6.out (fun k hk => hkX k (hS6.sx.sk.fp_lt hk).2 (nS k hk)) (fun k l1 l2 => hkX k (by omega) (nW k l1 l2)) hbX hWX ha hrm (anC E' N' (.slice none 0 0) sup0 0 0 0 0 0)
            exact ⟨S', _, _, _, _, _, _, _, _, _, _, rfl, rfl, z1, hB6.e3, z2, z3, HW1g.out _, z4, z5⟩)
          have HO6a : Hid (∀ wX, Below w6.heap.size w6 wX → ∃ z, Own wX base (.slice (some ⟨gA, 0, none⟩) 600 600) z ∧ z.length = 600) := hid (fun wX q => by
            have hO := HM6.out.2.2.2.2.2.below q (Nat.le_refl _)
            exact ⟨_, hO, HZL.out⟩)
          have HB68 : Hid (Below w6.heap.size w6 w8) := hid (HB7.out.trans (HB8.out.mono HB7.out.size))
          have HB6b : Hid (base ≤ w6.heap.size) := hid (Nat.le_trans HH.out.sx.sk.base HBW6.out.size)
          generalize decide (zs.take j = zr.take 300) = b1 at *
          cases b1
          · have H9 := hid (FIN.out w8 (HB68.out.mono HB6b.out) (fun k q _ => HB68.out.block k q) (HO6a.out w8 HB68.out))
            have HS0 := hid (show anZ.size = (anC (-1) 0 (.slice none 0 0) sup0 0 0 0 0 0).size from rfl)
            have HSO := hid (anO (-1) 0 none 0 0 sup0 0 0 0 0 0)
            have HSN := hid (anN (-1) 0 (.slice none 0 0) sup0 0 0 0 0 0)
            go_wp2_with (first | (refine wpList_store_row rfl 58 (.tmp 6) (.tmp 175) rfl (w.heap.size + 1) (anC (-1) 0 (.slice none 0 0) sup0 0 0 0 0 0) rfl rfl 58 anZ H9.out.1 HSN.out HS0.out HSO.out ?_) | fail)
            refine bodyPost_ret (results_c1B Try.results11 _ _ (w.heap.size + 1) 58 _ _ _ (by first | rfl | simp) (setRow_heap _ _ _ _ _ _ H9.out.1) Try.underlying58 rfl (anN _ _ _ _ _ _ _ _ _)) rfl ?_
            exact H9.out.2 _ _
          · have hsrcF : Src w8 (some ⟨gA, j, none⟩) (600 - j) (zs.drop j) := by
              have hO := HM6.out.2.2.2.2.2.below HB68.out (Nat.le_refl _)
              obtain ⟨sx, cx, ex, ⟨g1, g2, gb, go, g3, g4, g5⟩, _⟩ := hO.form
              injection ex with e1 _ e3
              subst e1 e3
              have e6 : zs.length = 600 := HZL.out
              replace g1 : zs.length ≤ 600 := g1
              replace g3 : 0 < zs.length → gb < w8.heap.size := g3
              replace g4 : 0 < zs.length → some (⟨gA, 0, none⟩ : Addr) = some (⟨gb, go, none⟩ : Addr) := g4
              replace g5 : ∀ i, i < zs.length → w8.cell? ⟨gb, go + i, none⟩ = some (.int .u8 (zs.getD i 0)) := g5
              have e7 := g4 (by omega)
              injection e7 with e7
              injection e7 with e8 e9 _
              subst e8 e9
              refine ⟨by rw [List.length_drop]; omega, by omega, gA, j, fun _ => g3 (by omega), fun _ => rfl, fun i hi => ?_⟩
              rw [List.length_drop] at hi
              have := g5 (j + i) (by omega)
              rw [Nat.zero_add] at this
              rw [this]
              simp [List.getD, List.getElem?_drop]
            have HFU := full_some w8 (zs.drop j) (some ⟨gA, j, none⟩) (600 - j) hsrcF 250 (600 - j) (by rw [List.length_drop, HZL.out]) (by omega)
            rw [show ((600 - j : Nat) : Int) = 600 - (j : Int) by omega] at HFU
            replace HFU := hid HFU
            clear hsrcF
            go_wp2_with fail
            refine HFU.out.mono ?_
            rintro e w9 ⟨b2, rfl, hb9⟩
            have HB69 : Hid (Below w6.heap.size w6 w9) := hid (HB68.out.trans (hb9.mono HB68.out.size))
            clear hb9 HFU
            cases b2
            · have H9 := hid (FIN.out w9 (HB69.out.mono HB6b.out) (fun k q _ => HB69.out.block k q) (HO6a.out w9 HB69.out))
              have HS0 := hid (show anZ.size = (anC (-1) 0 (.slice none 0 0) sup0 0 0 0 0 0).size from rfl)
              have HSO := hid (anO (-1) 0 none 0 0 sup0 0 0 0 0 0)
              have HSN := hid (anN (-1) 0 (.slice none 0 0) sup0 0 0 0 0 0)
              go_wp2_with (first | (refine wpList_store_row rfl 58 (.tmp 6) (.tmp 175) rfl (w.heap.size + 1) (anC (-1) 0 (.slice none 0 0) sup0 0 0 0 0 0) rfl rfl 58 anZ H9.out.1 HSN.out HS0.out HSO.out ?_) | fail)
              refine bodyPost_ret (results_c1B Try.results11 _ _ (w.heap.size + 1) 58 _ _ _ (by first | rfl | simp) (setRow_heap _ _ _ _ _ _ H9.out.1) Try.underlying58 rfl (anN _ _ _ _ _ _ _ _ _)) rfl ?_
              exact H9.out.2 _ _
            · obtain ⟨z9, hz9, hl9⟩ := HO6a.out w9 HB69.out
              go_wp2_with fail
              go_loopw [18] (fun i wr => ∃ (t : Nat) (z : List Int), t ≤ j ∧ i = .int .i64 t ∧ Own wr base (.slice (some ⟨gA, 0, none⟩) 600 600) z ∧ z.length = 600 ∧ Bo.KV w9 base (.slice (some ⟨gA, 0, none⟩) 600 600) wr) (fun i _ => j - (intOf i).toNat)
              case atStart => exact ⟨0, z9, by omega, rfl, hz9, hl9, Bo.KV.refl _ _ _⟩
              case round =>
                clear hz9 hl9
                obtain ⟨t, z, ht, rfl, hO, hzl, hK9⟩ := hrel
                by_cases htn : t < j
                · have i1 : (t : Int) < (j : Int) := by omega
                  obtain ⟨g, hg0, hg, c0, f0, hset⟩ := Bo.own_set (k := t) (m := 251) hO (by rw [hzl]; omega)
                  obtain rfl : gA = g := by injection hg0 with hg0; injection hg0
                  generalize z.getD t 0 = zz at *
                  replace hset := hid hset
                  replace hO := hid hO
                  replace hzl := hid hzl
                  clear hg0
                  go_wp2
                  go_roundw
                  case rel => exact ⟨t + 1, z.set t 251, by omega, by go_num, hset.out, by rw [List.length_set]; exact hzl.out, hK9.step (Bo.At.self _ _) ((Below.refl _ _).setCell hg _) (fun kk2 _ q2 => Bo.heap_set_ne (show kk2 ≠ gA from fun e => q2 (by rw [e]; rfl)))⟩
                  case measure => simp [intOf]; omega
                · obtain rfl : t = j := by omega
                  clear htn
                  have H9 := hid (FIN.out _ ((HB69.out.mono HB6b.out).trans hK9.1) (fun k q r => (hK9.2 k (Nat.lt_of_lt_of_le q HB69.out.size) (fun e => r (by simpa [Value.ownBlock] using e.symm))).trans (HB69.out.block k q)) ⟨z, hO, hzl⟩)
                  have HS0 := hid (show anZ.size = (anC E q (.slice none 0 0) sup0 0 0 0 0 0).size from rfl)
                  have HSO := hid (anO E q none 0 0 sup0 0 0 0 0 0)
                  have HSN := hid (anN E q (.slice none 0 0) sup0 0 0 0 0 0)
                  go_wp2_with (first | (refine wpList_store_row rfl 58 (.tmp 6) (.tmp 187) rfl (w.heap.size + 1) (anC E q (.slice none 0 0) sup0 0 0 0 0 0) rfl rfl 58 anZ H9.out.1 HSN.out HS0.out HSO.out ?_) | fail)
                  refine bodyPost_ret (results_c1B Try.results11 _ _ (w.heap.size + 1) 58 _ _ _ (by first | rfl | simp) (setRow_heap _ _ _ _ _ _ H9.out.1) Try.underlying58 rfl (anN _ _ _ _ _ _ _ _ _)) rfl ?_
                  exact H9.out.2 _ _

end Go.Proofs.Ytihkjfbhmlfonaa
