import Derived.Test.YtihkjfbhmlfonaaSj
namespace Go.Proofs.Ytihkjfbhmlfonaa
set_option linter.unusedVariables false
set_option linter.unusedSimpArgs false
open Go.RowKit
open Go.Proofs.Ytihkjfbhmlfonaa.Ca (Ct ct0 ctC argV AS)
attribute [local go_sem ↓] Go.wp_at_zero Go.wp_at_succ

theorem one_mid {w w2 w3 : World} {base : Nat} {S S' : Sto} {n rm b c : Nat} {o : Sup} {L : List (Int × List Int)} {kd E : Int} {W : Wr} {oc : Array Value} (h : Sb w base S n o L b rm) (hW : WO w base W c) (hr : RmO W S) (hP : Pn w w2 oc) (hO : OutS w2 base S n rm b kd E S' w3) : WO w3 base W c ∧ base ≤ w3.heap.size ∧ RmO W S' ∧ w2.heap.size ≤ w3.heap.size := by
  obtain ⟨_, _, hb, hf, hg⟩ := hO
  have hbw := h.sx.sk.base
  have hsz := hP.sz
  have hz3 := hf.size
  refine ⟨hW.keep fun k hk => ?_, by omega, fun k e q => ?_, hz3⟩
  · have l := (hW.ty hk).2.1
    exact (hf.block k (by omega) (hW.off h.sx.sk hr hk)).trans (hP.bl.block k l)
  · rcases hg k q with z | z
    · exact hr k e z
    · have := (hW.ty ((W.mem k).2 (by simp [e]))).2.1; omega
theorem WO.below {w w1 : World} {base : Nat} {W : Wr} {c : Nat} (h : WO w base W c) (hb : Below w.heap.size w w1) : WO w1 base W c := h.keep fun k hk => hb.block k (h.ty hk).2.1
theorem WO.cells {w : World} {base : Nat} {W : Wr} {c : Nat} (h : WO w base W c) : w.cell? ⟨W.g, 2, none⟩ = some (.pointer (some ⟨W.B, 0, none⟩)) ∧ w.cell? ⟨W.g, 3, none⟩ = some W.sl ∧ w.cell? ⟨W.g, 4, none⟩ = some W.wl ∧ w.cell? ⟨W.g, 5, none⟩ = some (.int .i64 W.turn) ∧ w.cell? ⟨W.g, 6, none⟩ = some W.room ∧ (∀ j, w.frozen? ⟨W.g, j, none⟩ = false) := by
  refine ⟨?_, ?_, ?_, ?_, ?_, fun j => frozen_of_row _ _ _ _ _ h.row⟩ <;> (rw [cell_of_row _ _ _ _ _ _ h.row]; rfl)
theorem WO.putted {w w' : World} {base : Nat} {W : Wr} {c : Nat} (h : WO w base W c) (u x2 x3 x4 v1' v2' v3' v4' : Value) (hu : ∀ k, u.ownBlock = some k → k ∉ W.fp) (hPB : Bo.PB w' base W.B v1' v2' v3' v4' (W.L1 ++ [u]) (W.L2 ++ [x2]) (W.L3 ++ [x3]) (W.L4 ++ [x4])) (b1 : Bo.At w W.v1 v1') (b2 : Bo.At w W.v2 v2') (b3 : Bo.At w W.v3 v3') (b4 : Bo.At w W.v4 v4')
    (hfr : ∀ k, k < w.heap.size → u.ownBlock ≠ some k → k ≠ W.B → W.v1.ownBlock ≠ some k → W.v2.ownBlock ≠ some k → W.v3.ownBlock ≠ some k → W.v4.ownBlock ≠ some k → w'.heap[k]? = w.heap[k]?) (hc : W.L1.length + 1 ≤ c) : WO w' base { W with v1 := v1', v2 := v2', v3 := v3', v4 := v4', L1 := W.L1 ++ [u], L2 := W.L2 ++ [x2], L3 := W.L3 ++ [x3], L4 := W.L4 ++ [x4] } c := by
  obtain ⟨n1, n2, n3⟩ := h.ne_g
  have un : ∀ k, k ∈ W.fp → u.ownBlock ≠ some k := fun k hk e => hu k e hk
  have kS : ∀ {y : Value} {us : List Value}, Bo.OwnS w base y us → (∀ k, y.ownBlock = some k → k ∈ W.fp) → Bo.Dj y W.v1 → Bo.Dj y W.v2 → Bo.Dj y W.v3 → Bo.Dj y W.v4 → Bo.OwnS w' base y us := fun hy hm d1 d2 d3 d4 => hy.of_heap fun k e => hfr k (hy.heap k e).2.1 (un k (hm k e)) (fun q => Bo.own_ne hy h.pb.bk (q ▸ e)) (fun q => d1 k e q) (fun q => d2 k e q) (fun q => d3 k e q) (fun q => d4 k e q)
  refine ⟨h.hg, (hfr W.g (hlt_ h.row) (un _ ((W.mem _).2 (by simp))) (fun q => n1 q.symm) (n2 h.pb.o1) (n2 h.pb.o2) (n2 h.pb.o3) (n2 h.pb.o4)).trans h.row, hPB, kS h.st (fun k e => (W.mem k).2 (by simp [e])) h.ds1 h.ds2 h.ds3 h.ds4, kS h.wt (fun k e => (W.mem k).2 (by simp [e])) h.dw1 h.dw2 h.dw3 h.dw4, h.dsw, (Bo.DjS.push h.st h.ds1.symm b1).symm, (Bo.DjS.push h.st h.ds2.symm b2).symm, (Bo.DjS.push h.st h.ds3.symm b3).symm, (Bo.DjS.push h.st h.ds4.symm b4).symm, (Bo.DjS.push h.wt h.dw1.symm b1).symm, (Bo.DjS.push h.wt h.dw2.symm b2).symm, (Bo.DjS.push h.wt h.dw3.symm b3).symm, (Bo.DjS.push h.wt h.dw4.symm b4).symm, h.rm.of_heap fun k e => ?_, h.rz, by rw [List.length_append]; exact hc, by simp [h.l2], by simp [h.l3], by simp [h.l4], h.ls, h.lw, h.tu⟩
  obtain ⟨_, cs, hx⟩ := ownsRow_block h.rm _ e
  have nS : ∀ {y : Value} {us : List Value}, Bo.OwnS w base y us → y.ownBlock ≠ some k := fun hy q => by
    obtain ⟨_, _, z, hz⟩ := hy.heap _ q
    exact Bo.ne_of_type hz hx (by decide) rfl
  exact hfr k (hlt_ hx) (un k ((W.mem k).2 (by simp [e]))) (Bo.ne_of_type hx h.pb.bk (by decide)) (nS h.pb.o1) (nS h.pb.o2) (nS h.pb.o3) (nS h.pb.o4)
set_option maxRecDepth 100000 in
set_option maxHeartbeats 1000000 in
theorem one_load (w : World) (base : Nat) (S : Sto) (n : Nat) (o : Sup) (L : List (Int × List Int)) (b rm : Nat) (h : Sb w base S n o L b rm) (hb : b ≤ 1000000000) (W : Wr) (c : Nat) (hW : WO w base W c) (hr : RmO W S) (hc : c ≤ 1000000000) (at_ nn m_ : Int) (sp : Option Addr) (l cap bt : Nat) :
    Calls Try.prog 11 #[.pointer (some ⟨W.g, 0, none⟩), .pointer (some ⟨S.st, 0, none⟩), .agg (opC 2 at_ nn m_ (.slice sp l cap) bt)] w (OneP w base S n rm b 2 W c) := by
  obtain ⟨w2, hw2⟩ : ∃ w2, w2 = (w.alloc (.cells (opC 2 at_ nn m_ (.slice sp l cap) bt) 41)).alloc (.cells #[.int .i64 0, .int .i64 0, .bool false, .slice none 0 0, .int .i64 0, .int .i64 0, .int .i64 0, .int .i64 0, .int .i64 0, .int .i64 0, .int .i64 0, .int .i64 0, .int .i64 0, .int .i64 0, .int .i64 0, .int .i64 0, .int .i64 0, .int .i64 0] 58) := ⟨_, rfl⟩
  have HW2 := hid hw2
  have hP : Pn w w2 (opC 2 at_ nn m_ (.slice sp l cap) bt) := by rw [hw2]; exact Pn.mk' w _
  have k0 : w2.cell? ⟨w.heap.size, 0, none⟩ = some (.int .i64 2) := by rw [cell_of_row _ _ _ _ _ _ hP.op]; rfl
  have k2 : w2.cell? ⟨w.heap.size, 2, none⟩ = some (.int .i64 nn) := by rw [cell_of_row _ _ _ _ _ _ hP.op]; rfl
  have h2 := h.below hP.bl
  have HC := hid (sb_load w2 base S n o L b rm h2 (by omega) nn)
  have HF := hid (fun (E : Int) (S' : Sto) (w3 : World) (hO : OutS w2 base S n rm b 2 E S' w3) (cs : Array Value) => one_fin h hW hr hP hO cs)
  have HST := hid (fun (E : Int) (S' : Sto) (w3 : World) (hO : OutS w2 base S n rm b 2 E S' w3) => hO.2.1)
  have HAN := hid (fun (S' : Sto) (E : Int) (w3 : World) (hO : OutS w2 base S n rm b 2 E S' w3) => show w3.heap[w.heap.size + 1]? = some (.cells anZ 58 (0, 0)) from (hO.2.2.2.1.block _ (by have := hP.sz; omega) (fun q => by have := (h.sx.sk.fp_lt q).2; omega)).trans hP.an)
  have HM := hid (fun (E : Int) (S' : Sto) (w3 : World) (hO : OutS w2 base S n rm b 2 E S' w3) => one_mid h hW hr hP hO)
  have HF2 := hid (fun (E : Int) (S' : Sto) (w3 w6 : World) (hO : OutS w2 base S n rm b 2 E S' w3) (u : Value) (W' : Wr) (hW' : WO w6 base W' (c + 1)) (hb6 : Below base w3 w6) (fr : ∀ k, k < w3.heap.size → k ∉ W.fp → u.ownBlock ≠ some k → w6.heap[k]? = w3.heap[k]?) (hu : ∀ k, u.ownBlock = some k → w2.heap.size ≤ k ∧ k ∉ S'.fp) (hrm : W'.room = W.room) (cs : Array Value) => one_fin2 h hW hr hP hO u hW' hb6 fr hu (fun k e => ⟨(one_mid h hW hr hP hO).2.2.1 k (hrm ▸ e), by have := (hW.ty ((W.mem k).2 (by simp [← hrm, e]))).2.1; omega⟩) cs)
  have hsw := hP.sz
  have HBW := hid h.sx.sk.base
  have HTU := hid hW.tu
  have HLL := hid (And.intro hW.l1 (And.intro hW.ls hW.lw))
  have HFL := hid (fun k hk => (hW.ty (k := k) hk).2.1)
  clear h h2 hW hr hP HF HAN
  rw [hw2] at k0 k2
  clear hw2
  go_enter Try.func11, Try.ntmps11
  go_wp2_with (first
    | refine wpList_box_Op rfl (.tmp 2) rfl _ at_ nn m_ sp l cap bt rfl ?_)
  rw [← HW2.out]
  refine HC.out.mono ?_
  rintro e w3 ⟨S', kd', u, E, zs, rfl, hOu, hz, hux, hO⟩
  obtain ⟨hW3, hb3, hr3, hs3⟩ := HM.out _ _ _ hO
  obtain ⟨su, cu, rfl, hsrc, _⟩ := hOu.form
  have HO := hid hO
  have HOU := hid hOu
  have HX := hid hux
  have HSH := hid (hshort_any w3 zs su cu hsrc (by omega) zs.length (by omega))
  have HW3 := hid hW3
  have HB3 := hid hb3
  have HZ := hid hz
  have HS3 := hid hs3
  have HSW := hid hsw
  clear hO hOu hux hsrc hW3 hb3 hr3 hz hs3 hsw HC HM k0 k2
  go_wp2_with fail
  refine HSH.out.mono ?_
  rintro e w4 ⟨v4, rfl, hO4, hb4⟩
  rw [List.take_length] at hO4
  obtain ⟨sr, cr, rfl, _, _⟩ := hO4.form
  have hW4 := HW3.out.below hb4
  obtain ⟨_, _, _, c5, _, f5⟩ := hW4.cells
  have f5b := f5 5
  clear f5
  have hW5 := hW4.turned
  have HB4 := hid hb4
  have HW5 := hid hW5
  obtain ⟨d2, d3, d4, d5, d6, df⟩ := hW5.cells
  have df3 := df 3
  have df4 := df 4
  clear df
  have hti : (W.turn : Int) ≤ 1000000000 := by have := HTU.out; omega
  have hti0 : (0 : Int) ≤ (W.turn : Int) := by omega
  have hd5 : (w4.setCell ⟨W.g, 5, none⟩ (.int .i64 ((W.turn : Int) + 1))).cell? ⟨W.g, 5, none⟩ = some (.int .i64 ((W.turn : Int) + 1)) := d5
  have HUB : Hid (∀ k, (Value.slice su zs.length cu).ownBlock = some k → w2.heap.size ≤ k ∧ k < w3.heap.size) := hid (fun k e => by
    obtain ⟨q1, cs, q2⟩ := ownsRow_block HOU.out k e
    exact ⟨q1, hlt_ q2⟩)
  have HU5 : Hid (Own (w4.setCell ⟨W.g, 5, none⟩ (.int .i64 ((W.turn : Int) + 1))) base (.slice su zs.length cu) zs) := hid (Own.base (HOU.out.of_heap fun k e => by
    obtain ⟨q1, q2⟩ := HUB.out k e
    have q3 : W.g < w.heap.size := HFL.out W.g ((W.mem _).2 (by simp))
    have q4 := HSW.out
    exact (heap_setCell_other w4 ⟨W.g, 5, none⟩ k _ (show k ≠ W.g by omega)).trans (HB4.out.block k q2)) (by have := HBW.out; have := HSW.out; omega))
  have HF5 : Hid (∀ k, k < w3.heap.size → k ≠ W.g → (w4.setCell ⟨W.g, 5, none⟩ (.int .i64 ((W.turn : Int) + 1))).heap[k]? = w3.heap[k]?) := hid (fun k a q => (heap_setCell_other w4 ⟨W.g, 5, none⟩ k _ q).trans (HB4.out.block k a))
  have HB5 : Hid (Below base w3 (w4.setCell ⟨W.g, 5, none⟩ (.int .i64 ((W.turn : Int) + 1)))) := hid ((HB4.out.mono HB3.out).setCell HW3.out.hg _)
  have HS5 : Hid (w3.heap.size ≤ (w4.setCell ⟨W.g, 5, none⟩ (.int .i64 ((W.turn : Int) + 1))).heap.size) := hid HB5.out.size
  have HS0 := hid (show anZ.size = (anC E kd' (.slice sr zs.length cr) sup0 0 0 0 0 0).size from rfl)
  have HSO := hid (anO E kd' sr zs.length cr sup0 0 0 0 0 0)
  have HSN := hid (anN E kd' (.slice sr zs.length cr) sup0 0 0 0 0 0)
  clear d5 hO4 hb4 hW4 hW5 HSH d6
  by_cases hq : (((W.turn : Int) + 1) % 3 == 0) = true
  · have HPUT := hid (Bo.putW_any _ base W.B W.v1 W.v2 W.v3 W.v4 W.L1 W.L2 W.L3 W.L4 HW5.out.pb (by have := HLL.out.1; omega) HW5.out.l2 HW5.out.l3 HW5.out.l4 (.slice su zs.length cu) zs.length zs HU5.out rfl (by have := HZ.out; omega))
    clear d3 d4 df3 df4
    go_wp2_with fail
    refine HPUT.out.mono ?_
    rintro e w6 ⟨rfl, v1', v2', v3', v4', x2, x3, x4, hPB, a2, a3, a4, b1, b2, b3, b4, hfr, hbl⟩
    have hWF := HW5.out.putted (.slice su zs.length cu) x2 x3 x4 v1' v2' v3' v4' (fun k e q => by
      have q1 := (HUB.out k e).1
      have q2 := HFL.out k q
      have q3 := HSW.out
      omega) hPB b1 b2 b3 b4 hfr (by have := HLL.out.1; show W.L1.length + 1 ≤ c + 1; omega)
    obtain ⟨z1, z2, z3, z4, z5, z6⟩ := HF2.out _ _ _ w6 HO.out (.slice su zs.length cu) _ hWF (HB5.out.trans hbl) (fun k a q r => by
      have hn := mt (W.mem k).2 q
      refine (hfr k (Nat.lt_of_lt_of_le a HS5.out) r (fun e => hn (by simp [e])) (fun e => hn (by simp [e])) (fun e => hn (by simp [e])) (fun e => hn (by simp [e])) (fun e => hn (by simp [e]))).trans (HF5.out k a (fun e => hn (by simp [e])))) (fun k e => ⟨(HUB.out k e).1, HX.out k e⟩) rfl (anC E kd' (.slice sr zs.length cr) sup0 0 0 0 0 0)
    have H6 := hid z6
    have HZZ := hid (And.intro z1 (And.intro z2 (And.intro z3 (And.intro z4 z5))))
    clear z1 z2 z3 z4 z5 z6 hWF hPB a2 a3 a4 b1 b2 b3 b4 hfr hbl HPUT hd5 d2 c5 f5b
    go_wp2_with (first
      | refine wpList_build3 rfl 0 1 3 (.tmp 82) (.tmp 83) (.tmp 84) rfl (.int .i64 E) (.int .i64 kd') (.slice sr zs.length cr) rfl rfl rfl (anC E kd' (.slice sr zs.length cr) sup0 0 0 0 0 0) (bB_013 _ _ _ _ _) ?_
      | (refine wpList_store_row rfl 58 (.tmp 6) (.tmp 85) rfl (w.heap.size + 1) (anC E kd' (.slice sr zs.length cr) sup0 0 0 0 0 0) rfl rfl 58 anZ H6.out HSN.out HS0.out HSO.out ?_)
      | fail)
    refine bodyPost_ret (results_c1B Try.results11 _ _ (w.heap.size + 1) 58 _ _ _ (by first | rfl | simp) (setRow_heap _ _ _ _ _ _ H6.out) Try.underlying58 rfl (anN _ _ _ _ _ _ _ _ _)) rfl ?_
    obtain ⟨z1, z2, z3, z4, z5⟩ := HZZ.out
    exact ⟨S', _, _, _, _, _, _, _, _, _, _, rfl, rfl, z1, HST.out _ _ _ HO.out, z2, z3, rfl, z4, z5⟩
  · have hq2 : (((W.turn : Int) + 1) % 3 == 0) = false := by simpa using hq
    clear hq
    have HK1 := hid (show W.Ss.length + [Value.slice su zs.length cu].length ≤ 5000000000000 by have := HLL.out.2.1; simp; omega)
    have HK2 := hid (show W.Ws.length + [Value.slice sr zs.length cr].length ≤ 5000000000000 by have := HLL.out.2.2; simp; omega)
    have HKB := hid (show base ≤ (w4.setCell ⟨W.g, 5, none⟩ (.int .i64 ((W.turn : Int) + 1))).heap.size from Nat.le_trans HB3.out HS5.out)
    have HC1 := hid (show W.Ss.length + 1 ≤ c + 1 by have := HLL.out.2.1; omega)
    have HC2 := hid (show W.Ws.length + 1 ≤ c + 1 by have := HLL.out.2.2; omega)
    clear d2 d4 df4
    go_wp2_with (first
      | (at_builtin; refine Bo.wpList_pushS rfl (.tmp 66) (.tmp 68) rfl base W.sl W.Ss [.slice su zs.length cu] rfl HW5.out.st (by rw [World.size_setCell]; rfl) (by intro y hy; rw [List.mem_singleton.1 hy]; rfl) HK1.out HKB.out _ _ ?_; intro v' w6 q1 q2 q3 q4; obtain ⟨e1, P1, F1, G1⟩ := HW5.out.pushed3 _ v' q1 q2 q3 q4 HC1.out; obtain ⟨sa, ca, bz, hva, hvz⟩ := q1.at; clear hvz q1 q2 q3 q4; have cc1 : w6.cell? ⟨W.g, 3, none⟩ = some W.sl := (by rw [cell_of_row _ _ _ _ _ _ e1]; rfl); have ff1 : w6.frozen? ⟨W.g, 3, none⟩ = false := frozen_of_row _ _ _ _ _ e1; simp only [List.length_append, List.length_cons, List.length_nil, Nat.zero_add] at hva; subst hva; have dd4 := P1.cells.2.2.1; have HP1 := hid P1; have HF1 := hid F1; have HG1 := hid G1; clear P1 F1 G1 e1; have HKB2 := hid (show base ≤ (w6.setCell ⟨W.g, 3, none⟩ (.slice sa (W.Ss.length + 1) ca)).heap.size from Nat.le_trans HKB.out HF1.out.size))
      | (at_builtin; refine Bo.wpList_pushS rfl (.tmp 76) (.tmp 78) rfl base W.wl W.Ws [.slice sr zs.length cr] rfl HP1.out.wt (by rw [World.size_setCell]; rfl) (by intro y hy; rw [List.mem_singleton.1 hy]; rfl) HK2.out HKB2.out _ _ ?_; intro v' w7 q1 q2 q3 q4; obtain ⟨e2, P2, F2, G2⟩ := HP1.out.pushed4 _ v' q1 q2 q3 q4 HC2.out; obtain ⟨sb, cb, bz2, hva, hvz⟩ := q1.at; clear hvz q1 q2 q3 q4; have cc2 : w7.cell? ⟨W.g, 4, none⟩ = some W.wl := (by rw [cell_of_row _ _ _ _ _ _ e2]; rfl); have ff2 : w7.frozen? ⟨W.g, 4, none⟩ = false := frozen_of_row _ _ _ _ _ e2; simp only [List.length_append, List.length_cons, List.length_nil, Nat.zero_add] at hva; subst hva; clear e2; have HFI := hid (HF2.out _ _ _ _ HO.out (.slice su zs.length cu) _ P2 ((HB5.out.trans HF1.out).trans F2) (fun k a q r => by
          have hn := mt (W.mem k).2 q
          exact ((G2 k (Nat.lt_of_lt_of_le (Nat.lt_of_lt_of_le a HS5.out) HF1.out.size) (fun e => hn (by simp [show k = W.g from e])) (fun e => hn (by simp [show W.wl.ownBlock = some k from e]))).trans (HG1.out k (Nat.lt_of_lt_of_le a HS5.out) (fun e => hn (by simp [show k = W.g from e])) (fun e => hn (by simp [show W.sl.ownBlock = some k from e])))).trans (HF5.out k a (fun e => hn (by simp [e])))) (fun k e => ⟨(HUB.out k e).1, HX.out k e⟩) rfl (anC E kd' (.slice sr zs.length cr) sup0 0 0 0 0 0)); clear P2 F2 G2; have H6 := hid HFI.out.2.2.2.2.2)
      | refine wpList_build3 rfl 0 1 3 (.tmp 82) (.tmp 83) (.tmp 84) rfl (.int .i64 E) (.int .i64 kd') (.slice sr zs.length cr) rfl rfl rfl (anC E kd' (.slice sr zs.length cr) sup0 0 0 0 0 0) (bB_013 _ _ _ _ _) ?_
      | (refine wpList_store_row rfl 58 (.tmp 6) (.tmp 85) rfl (w.heap.size + 1) (anC E kd' (.slice sr zs.length cr) sup0 0 0 0 0 0) rfl rfl 58 anZ H6.out HSN.out HS0.out HSO.out ?_)
      | fail)
    refine bodyPost_ret (results_c1B Try.results11 _ _ (w.heap.size + 1) 58 _ _ _ (by first | rfl | simp) (setRow_heap _ _ _ _ _ _ H6.out) Try.underlying58 rfl (anN _ _ _ _ _ _ _ _ _)) rfl ?_
    obtain ⟨z1, z2, z3, z4, z5, _⟩ := HFI.out
    exact ⟨S', _, _, _, _, _, _, _, _, _, _, rfl, rfl, z1, HST.out _ _ _ HO.out, z2, z3, rfl, z4, z5⟩
end Go.Proofs.Ytihkjfbhmlfonaa
namespace Go.Proofs.Ytihkjfbhmlfonaa
set_option linter.unusedVariables false
set_option linter.unusedSimpArgs false
open Go.RowKit
open Go.Proofs.Ytihkjfbhmlfonaa.Ca (Ct ct0 ctC argV AS)
attribute [local go_sem ↓] Go.wp_at_zero Go.wp_at_succ

set_option maxRecDepth 100000 in
set_option maxHeartbeats 400000 in
/-- `full` of any list comes to an end. -/
theorem full_some (w : World) (zs : List Int) (sp : Option Addr) (cap : Nat) (hS : Src w sp cap zs) (m : Int) (n : Nat) (hn : n = zs.length) (hn1 : n ≤ 1000000) :
    Calls Try.prog 25 #[.slice sp n cap, .int .u8 m, .int .i64 n] w fun e w' => ∃ b : Bool, e = .returned (.bool b) ∧ Below w.heap.size w w' := by
  obtain ⟨hc, hm, b, o, hb, hsp, hsrc⟩ := hS
  have i0 : (n : Int) ≤ 1000000 := by omega
  rw [← hn] at hb hsp hsrc
  have HN := hid hn
  clear hn
  go_enter Try.func25, Try.ntmps25
  go_wp2
  go_loopw [7] (fun i wr => ∃ k : Nat, k ≤ n ∧ i = .int .i64 k ∧ Below w.heap.size w wr) (fun i _ => n - (intOf i).toNat)
  case atStart => exact ⟨0, by omega, rfl, Below.refl _ _⟩
  case round =>
    obtain ⟨k, hk, rfl, hB⟩ := hrel
    by_cases hkn : k < n
    · have i1 : (k : Int) < (n : Int) := by omega
      obtain rfl := hsp (by omega)
      have c1 := (hB.cell (p := ⟨b, o + k, none⟩) (hb (by omega))).trans (hsrc k hkn)
      by_cases hxy : zs.getD k 0 = m
      · rw [hxy] at c1
        clear hxy
        go_wp2
        go_roundw
        case rel => exact ⟨k + 1, by omega, by go_num, hB⟩
        case measure => simp [intOf]; omega
      · generalize zs.getD k 0 = x at *
        have hx1 : (x != m) = true := by simpa using hxy
        have hx2 : (x == m) = false := by simpa using hxy
        go_wp2
        go_ret
        exact ⟨Or.inl rfl, hB⟩
    · obtain rfl : k = n := by omega
      clear hkn
      go_wp2
      go_ret
      exact ⟨true, rfl, hB⟩
theorem WO.rewr {w w' : World} {base : Nat} {W : Wr} {c : Nat} (h : WO w base W c) (zs : List Int) (hO : Own w' base W.room zs) (hz : zs = [] ∨ zs.length = 600) (hk : ∀ k ∈ W.fp, W.room.ownBlock ≠ some k → w'.heap[k]? = w.heap[k]?) : WO w' base { W with zr := zs } c := by
  have hne : ∀ k, (k = W.g ∨ k = W.B ∨ W.v1.ownBlock = some k ∨ W.v2.ownBlock = some k ∨ W.v3.ownBlock = some k ∨ W.v4.ownBlock = some k ∨ W.sl.ownBlock = some k ∨ W.wl.ownBlock = some k) → W.room.ownBlock ≠ some k := fun k q e => by
    obtain ⟨_, cs, hx⟩ := ownsRow_block h.rm _ e
    have nS : ∀ {y : Value} {us : List Value}, Bo.OwnS w base y us → y.ownBlock ≠ some k := fun hy q => by
      obtain ⟨_, _, z, hz⟩ := hy.heap _ q
      exact Bo.ne_of_type hz hx (by decide) rfl
    rcases q with q | q | q | q | q | q | q | q
    · exact h.ne_g.2.2 (q ▸ e)
    · exact Bo.ne_of_type hx h.pb.bk (by decide) q
    · exact nS h.pb.o1 q
    · exact nS h.pb.o2 q
    · exact nS h.pb.o3 q
    · exact nS h.pb.o4 q
    · exact nS h.st q
    · exact nS h.wt q
  have hm : ∀ k, (k = W.g ∨ k = W.B ∨ W.v1.ownBlock = some k ∨ W.v2.ownBlock = some k ∨ W.v3.ownBlock = some k ∨ W.v4.ownBlock = some k ∨ W.sl.ownBlock = some k ∨ W.wl.ownBlock = some k) → w'.heap[k]? = w.heap[k]? := fun k q => hk k ((W.mem k).2 (by rcases q with q | q | q | q | q | q | q | q <;> simp [q])) (hne k q)
  exact ⟨h.hg, (hm W.g (by simp)).trans h.row, ⟨h.pb.hb, (hm W.B (by simp)).trans h.pb.bk, h.pb.o1.of_heap fun k e => hm k (by simp [e]), h.pb.o2.of_heap fun k e => hm k (by simp [e]), h.pb.o3.of_heap fun k e => hm k (by simp [e]), h.pb.o4.of_heap fun k e => hm k (by simp [e]), h.pb.d12, h.pb.d13, h.pb.d14, h.pb.d23, h.pb.d24, h.pb.d34⟩, h.st.of_heap fun k e => hm k (by simp [e]), h.wt.of_heap fun k e => hm k (by simp [e]), h.dsw, h.ds1, h.ds2, h.ds3, h.ds4, h.dw1, h.dw2, h.dw3, h.dw4, hO, hz, h.l1, h.l2, h.l3, h.l4, h.ls, h.lw, h.tu⟩
/-- The room is made. -/
theorem WO.roomed {w w' : World} {base : Nat} {W : Wr} {c : Nat} (h : WO w base W c) (v : Value) (zs : List Int) (hO : Own w' base v zs) (hz : zs.length = 600) (hb : Below w.heap.size w w') (hv : ∀ k, v.ownBlock = some k → w.heap.size ≤ k) : w'.heap[W.g]? = some (.cells (wrC W.B W.sl W.wl W.room W.turn) 38 (0, 0)) ∧ WO (w'.setCell ⟨W.g, 6, none⟩ v) base { W with room := v, zr := zs } c := by
  obtain ⟨n1, n2, n3⟩ := h.ne_g
  have h' := h.below hb
  have hg := hlt_ h.row
  have kp : ∀ k, k ≠ W.g → (w'.setCell ⟨W.g, 6, none⟩ v).heap[k]? = w'.heap[k]? := fun k e => heap_setCell_other w' ⟨W.g, 6, none⟩ k _ e
  have kS : ∀ {u : Value} {us : List Value}, Bo.OwnS w base u us → Bo.OwnS (w'.setCell ⟨W.g, 6, none⟩ v) base u us := fun hu => hu.of_heap fun k e => (kp k fun q => n2 hu (q ▸ e)).trans (hb.block k (hu.heap k e).2.1)
  refine ⟨h'.row, h.hg, ?_, ⟨h.pb.hb, (kp _ n1).trans h'.pb.bk, kS h.pb.o1, kS h.pb.o2, kS h.pb.o3, kS h.pb.o4, h.pb.d12, h.pb.d13, h.pb.d14, h.pb.d23, h.pb.d24, h.pb.d34⟩, kS h.st, kS h.wt, h.dsw, h.ds1, h.ds2, h.ds3, h.ds4, h.dw1, h.dw2, h.dw3, h.dw4, hO.of_heap fun k e => kp k fun q => by have := hv k e; omega, Or.inr hz, h.l1, h.l2, h.l3, h.l4, h.ls, h.lw, h.tu⟩
  rw [heap_setCell_same _ _ _ _ _ _ h'.row]
  rfl
/-- The end of a step that writes into the law's own rows ahead of the store's call and behind it. -/
theorem one_fin3 {w w5 w6 w7 : World} {base : Nat} {S S' : Sto} {n rm b c : Nat} {o : Sup} {L : List (Int × List Int)} {kd E : Int} {W W1 : Wr} (h : Sb w base S n o L b rm) (f5 : ∀ k, k < w.heap.size → k ∉ W.fp → w5.heap[k]? = w.heap[k]?) (b5 : Below base w w5) (hs5 : w.heap.size + 2 ≤ w5.heap.size) (hO : OutS w5 base S n rm b kd E S' w6) (f7 : ∀ k, k ∈ S'.fp → w7.heap[k]? = w6.heap[k]?) (g7 : ∀ k, k < w.heap.size → k ∉ W.fp → w7.heap[k]? = w6.heap[k]?) (b7 : Below base w6 w7) (hW7 : WO w7 base W1 (c + 1)) (ha : w7.heap[w.heap.size + 1]? = some (.cells anZ 58 (0, 0))) (hrm : ∀ k, W1.room.ownBlock = some k → k ∉ S'.fp ∧ k ≠ w.heap.size + 1) (cs : Array Value) :
    (∃ o' L', Sb (w7.setRow (w.heap.size + 1) cs) base S' n o' L' (b + 200) rm) ∧ WO (w7.setRow (w.heap.size + 1) cs) base W1 (c + 1) ∧ RmO W1 S' ∧ Below base w (w7.setRow (w.heap.size + 1) cs) ∧ Fr (S.fp ++ W.fp) w (w7.setRow (w.heap.size + 1) cs) := by
  obtain ⟨⟨o', L', hS⟩, hB, hb, hf, hg⟩ := hO
  have hbw := h.sx.sk.base
  have z6 := hf.size
  have z7 := b7.size
  have ne1 : ∀ k ∈ S'.fp, k ≠ w.heap.size + 1 := fun k hk => by
    rcases hg k hk with q | q
    · have := (h.sx.sk.fp_lt q).2; omega
    · omega
  refine ⟨⟨o', L', hS.keep (fun k hk => (setRow_other _ _ _ _ (ne1 k hk)).trans (f7 k hk)) (by rw [size_setRow]; exact z7)⟩, hW7.keep fun k hk => setRow_other _ _ _ _ fun q => ?_, fun k e => (hrm k e).1, ?_, ?_⟩
  · subst q
    obtain ⟨_, _, ⟨cs2, t, a1, a2⟩ | e⟩ := hW7.ty hk
    · rw [ha] at a1
      injection a1 with a1
      injection a1 with _ a3 _
      rcases a2 with r | r | r <;> rw [r] at a3 <;> exact absurd a3 (by decide)
    · exact (hrm _ e).2 rfl
  · exact below_setRow ((b5.trans hb).trans b7) (by omega) cs
  · refine ⟨b7.os.trans (hf.os.trans b5.os), b7.tape.trans (hf.tape.trans b5.tape), b7.output.trans (hf.output.trans b5.output), by rw [size_setRow]; omega, fun k a q => ?_⟩
    have q1 : k ∉ S.fp := fun z => q (List.mem_append_left _ z)
    have q2 : k ∉ W.fp := fun z => q (List.mem_append_right _ z)
    exact (setRow_other _ _ _ _ (by omega)).trans ((g7 k a q2).trans ((hf.block k (by omega) q1).trans (f5 k a q2)))
end Go.Proofs.Ytihkjfbhmlfonaa
