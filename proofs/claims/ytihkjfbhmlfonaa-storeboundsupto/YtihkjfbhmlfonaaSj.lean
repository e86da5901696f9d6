import Derived.Test.YtihkjfbhmlfonaaBw4
namespace Go.Proofs.Ytihkjfbhmlfonaa
set_option linter.unusedVariables false
set_option linter.unusedSimpArgs false
open Go.RowKit
open Go.Proofs.Ytihkjfbhmlfonaa.Ca (Ct ct0 ctC argV AS)
attribute [local go_sem ↓] Go.wp_at_zero Go.wp_at_succ

set_option maxRecDepth 100000 in
set_option maxHeartbeats 1000000 in
theorem one_super (w : World) (base : Nat) (S : Sto) (n : Nat) (o : Sup) (L : List (Int × List Int)) (b rm : Nat) (h : Sb w base S n o L b rm) (hb : b ≤ 1000000000) (W : Wr) (c : Nat) (hW : WO w base W c) (hr : RmO W S) (at_ nn m_ : Int) (sp : Option Addr) (l cap bt : Nat) :
    Calls Try.prog 11 #[.pointer (some ⟨W.g, 0, none⟩), .pointer (some ⟨S.st, 0, none⟩), .agg (opC 7 at_ nn m_ (.slice sp l cap) bt)] w (OneP w base S n rm b 7 W c) := by
  obtain ⟨w2, hw2⟩ : ∃ w2, w2 = (w.alloc (.cells (opC 7 at_ nn m_ (.slice sp l cap) bt) 41)).alloc (.cells #[.int .i64 0, .int .i64 0, .bool false, .slice none 0 0, .int .i64 0, .int .i64 0, .int .i64 0, .int .i64 0, .int .i64 0, .int .i64 0, .int .i64 0, .int .i64 0, .int .i64 0, .int .i64 0, .int .i64 0, .int .i64 0, .int .i64 0, .int .i64 0] 58) := ⟨_, rfl⟩
  have HW2 := hid hw2
  have hP : Pn w w2 (opC 7 at_ nn m_ (.slice sp l cap) bt) := by rw [hw2]; exact Pn.mk' w _
  have k0 : w2.cell? ⟨w.heap.size, 0, none⟩ = some (.int .i64 7) := by rw [cell_of_row _ _ _ _ _ _ hP.op]; rfl
  have k2 : w2.cell? ⟨w.heap.size, 2, none⟩ = some (.int .i64 nn) := by rw [cell_of_row _ _ _ _ _ _ hP.op]; rfl
  have h2 := h.below hP.bl
  have HC := hid (oSuper_any w2 base S h2.sx.sk)
  have HSM := hid (fun (w4 : World) (hB : Below w2.heap.size w2 w4) => show OutS w2 base S n rm b 7 0 S w4 from OutS.same h2 7 0 (by omega) (by omega) hB)
  have HF := hid (fun (E : Int) (S' : Sto) (w3 : World) (hO : OutS w2 base S n rm b 7 E S' w3) (cs : Array Value) => one_fin h hW hr hP hO cs)
  have HST := hid (fun (E : Int) (S' : Sto) (w3 : World) (hO : OutS w2 base S n rm b 7 E S' w3) => hO.2.1)
  have HAN := hid (fun (S' : Sto) (E : Int) (w3 : World) (hO : OutS w2 base S n rm b 7 E S' w3) => show w3.heap[w.heap.size + 1]? = some (.cells anZ 58 (0, 0)) from (hO.2.2.2.1.block _ (by have := hP.sz; omega) (fun q => by have := (h.sx.sk.fp_lt q).2; omega)).trans hP.an)
  clear h h2 hW hr hP
  rw [hw2] at k0 k2
  clear hw2
  go_enter Try.func11, Try.ntmps11
  go_wp2_with (first
    | refine wpList_box_Op rfl (.tmp 2) rfl _ at_ nn m_ sp l cap bt rfl ?_)
  rw [← HW2.out]
  refine HC.out.mono ?_
  rintro e w3 ⟨rfl, hB⟩
  have r4 := hnew w3 (.cells #[.int .i64 0, .int .i64 0, .int .i64 0, .int .i64 0, .int .i64 0] 56)
  have HR5 : Hid (((w3.alloc (.cells #[.int .i64 0, .int .i64 0, .int .i64 0, .int .i64 0, .int .i64 0] 56)).setRow w3.heap.size (supC S.s)).heap[w3.heap.size]? = some (.cells (supC S.s) 56 (0, 0))) := hid (setRow_heap _ _ _ _ _ _ r4)
  have R4 := hid r4
  have HO := hid (HSM.out ((w3.alloc (.cells #[.int .i64 0, .int .i64 0, .int .i64 0, .int .i64 0, .int .i64 0] 56)).setRow w3.heap.size (supC S.s)) (below_setRow (hB.trans ((below_new w3 _).mono hB.size)) hB.size _))
  have H3 := hid (HAN.out _ _ _ HO.out)
  clear hB HC k0 k2 r4
  have HS0 := hid (show anZ.size = (anC 0 0 (.slice none 0 0) S.s 0 0 0 0 0).size from rfl)
  have HSO := hid (anO 0 0 none 0 0 S.s 0 0 0 0 0)
  have HSN := hid (anN 0 0 (.slice none 0 0) S.s 0 0 0 0 0)
  have HT0 : Hid ((Try.prog.info? 56).map (·.size) = some ((supC S.s)).size) := hid (supN S.s)
  have HTO : Hid (((supC S.s)).all (·.oneCell') = true) := hid (by simp [supC, Value.oneCell'])
  go_wp2_with (first
    | refine wpList_store_row rfl 56 (.tmp 22) (.tmp 213) rfl w3.heap.size (supC S.s) rfl rfl 56 _ R4.out HT0.out rfl HTO.out ?_
    | refine wpList_load_row rfl 56 (.tmp 22) rfl w3.heap.size rfl 56 (supC S.s) (0, 0) _ HR5.out Try.underlying56 rfl HT0.out ?_
    | refine wpList_build1 rfl 4 (.tmp 214) rfl (.agg (supC S.s)) rfl (anC 0 0 (.slice none 0 0) S.s 0 0 0 0 0) (bB_4 S.s) ?_
    | (refine wpList_store_row rfl 58 (.tmp 6) (.tmp 215) rfl (w.heap.size + 1) (anC 0 0 (.slice none 0 0) S.s 0 0 0 0 0) rfl rfl 58 anZ H3.out HSN.out HS0.out HSO.out ?_)
    | fail)
  refine bodyPost_ret (results_c1B Try.results11 _ _ (w.heap.size + 1) 58 _ _ _ (by first | rfl | simp) (setRow_heap _ _ _ _ _ _ H3.out) Try.underlying58 rfl (anN _ _ _ _ _ _ _ _ _)) rfl ?_
  obtain ⟨z1, z2, z3, z4, z5⟩ := HF.out _ _ _ HO.out (anC 0 0 (.slice none 0 0) S.s 0 0 0 0 0)
  exact ⟨S, W, _, _, _, _, _, _, _, _, _, rfl, rfl, z1, HST.out _ _ _ HO.out, z2, z3, rfl, z4, z5⟩
set_option maxRecDepth 100000 in
set_option maxHeartbeats 1000000 in
theorem one_tally (w : World) (base : Nat) (S : Sto) (n : Nat) (o : Sup) (L : List (Int × List Int)) (b rm : Nat) (h : Sb w base S n o L b rm) (hb : b ≤ 1000000000) (W : Wr) (c : Nat) (hW : WO w base W c) (hr : RmO W S) (at_ nn m_ : Int) (sp : Option Addr) (l cap bt : Nat) :
    Calls Try.prog 11 #[.pointer (some ⟨W.g, 0, none⟩), .pointer (some ⟨S.st, 0, none⟩), .agg (opC 11 at_ nn m_ (.slice sp l cap) bt)] w (OneP w base S n rm b 11 W c) := by
  obtain ⟨w2, hw2⟩ : ∃ w2, w2 = (w.alloc (.cells (opC 11 at_ nn m_ (.slice sp l cap) bt) 41)).alloc (.cells #[.int .i64 0, .int .i64 0, .bool false, .slice none 0 0, .int .i64 0, .int .i64 0, .int .i64 0, .int .i64 0, .int .i64 0, .int .i64 0, .int .i64 0, .int .i64 0, .int .i64 0, .int .i64 0, .int .i64 0, .int .i64 0, .int .i64 0, .int .i64 0] 58) := ⟨_, rfl⟩
  have HW2 := hid hw2
  have hP : Pn w w2 (opC 11 at_ nn m_ (.slice sp l cap) bt) := by rw [hw2]; exact Pn.mk' w _
  have k0 : w2.cell? ⟨w.heap.size, 0, none⟩ = some (.int .i64 11) := by rw [cell_of_row _ _ _ _ _ _ hP.op]; rfl
  have k2 : w2.cell? ⟨w.heap.size, 2, none⟩ = some (.int .i64 nn) := by rw [cell_of_row _ _ _ _ _ _ hP.op]; rfl
  have h2 := h.below hP.bl
  have HC := hid (oTally_any w2 base S h2.sx.sk)
  have HSM := hid (fun (w4 : World) (hB : Below w2.heap.size w2 w4) => show OutS w2 base S n rm b 11 0 S w4 from OutS.same h2 11 0 (by omega) (by omega) hB)
  have HF := hid (fun (E : Int) (S' : Sto) (w3 : World) (hO : OutS w2 base S n rm b 11 E S' w3) (cs : Array Value) => one_fin h hW hr hP hO cs)
  have HST := hid (fun (E : Int) (S' : Sto) (w3 : World) (hO : OutS w2 base S n rm b 11 E S' w3) => hO.2.1)
  have HAN := hid (fun (S' : Sto) (E : Int) (w3 : World) (hO : OutS w2 base S n rm b 11 E S' w3) => show w3.heap[w.heap.size + 1]? = some (.cells anZ 58 (0, 0)) from (hO.2.2.2.1.block _ (by have := hP.sz; omega) (fun q => by have := (h.sx.sk.fp_lt q).2; omega)).trans hP.an)
  clear h h2 hW hr hP
  rw [hw2] at k0 k2
  clear hw2
  go_enter Try.func11, Try.ntmps11
  go_wp2_with (first
    | refine wpList_box_Op rfl (.tmp 2) rfl _ at_ nn m_ sp l cap bt rfl ?_)
  rw [← HW2.out]
  refine HC.out.mono ?_
  rintro e w3 ⟨rfl, hB⟩
  have r4 := hnew w3 (.cells #[.int .i64 0, .int .i64 0, .int .i64 0, .int .i64 0, .int .i64 0] 43)
  have HR5 : Hid (((w3.alloc (.cells #[.int .i64 0, .int .i64 0, .int .i64 0, .int .i64 0, .int .i64 0] 43)).setRow w3.heap.size #[Value.int .i64 (S.a.hits : Int), Value.int .i64 (S.a.misses : Int), Value.int .i64 (S.a.gone : Int), Value.int .i64 (S.a.clean.length : Int), Value.int .i64 (S.a.held.length : Int)]).heap[w3.heap.size]? = some (.cells #[Value.int .i64 (S.a.hits : Int), Value.int .i64 (S.a.misses : Int), Value.int .i64 (S.a.gone : Int), Value.int .i64 (S.a.clean.length : Int), Value.int .i64 (S.a.held.length : Int)] 43 (0, 0))) := hid (setRow_heap _ _ _ _ _ _ r4)
  have R4 := hid r4
  have HO := hid (HSM.out ((w3.alloc (.cells #[.int .i64 0, .int .i64 0, .int .i64 0, .int .i64 0, .int .i64 0] 43)).setRow w3.heap.size #[Value.int .i64 (S.a.hits : Int), Value.int .i64 (S.a.misses : Int), Value.int .i64 (S.a.gone : Int), Value.int .i64 (S.a.clean.length : Int), Value.int .i64 (S.a.held.length : Int)]) (below_setRow (hB.trans ((below_new w3 _).mono hB.size)) hB.size _))
  have H3 := hid (HAN.out _ _ _ HO.out)
  clear hB HC k0 k2 r4
  have HS0 := hid (show anZ.size = (anC 0 0 (.slice none 0 0) sup0 S.a.hits S.a.misses S.a.gone S.a.clean.length S.a.held.length).size from rfl)
  have HSO := hid (anO 0 0 none 0 0 sup0 S.a.hits S.a.misses S.a.gone S.a.clean.length S.a.held.length)
  have HSN := hid (anN 0 0 (.slice none 0 0) sup0 S.a.hits S.a.misses S.a.gone S.a.clean.length S.a.held.length)
  have HT0 : Hid ((Try.prog.info? 43).map (·.size) = some (#[Value.int .i64 (S.a.hits : Int), Value.int .i64 (S.a.misses : Int), Value.int .i64 (S.a.gone : Int), Value.int .i64 (S.a.clean.length : Int), Value.int .i64 (S.a.held.length : Int)]).size) := hid (size_tally)
  have HTO : Hid ((#[Value.int .i64 (S.a.hits : Int), Value.int .i64 (S.a.misses : Int), Value.int .i64 (S.a.gone : Int), Value.int .i64 (S.a.clean.length : Int), Value.int .i64 (S.a.held.length : Int)]).all (·.oneCell') = true) := hid (by simp [supC, Value.oneCell'])
  go_wp2_with (first
    | refine wpList_store_row rfl 43 (.tmp 26) (.tmp 235) rfl w3.heap.size #[Value.int .i64 (S.a.hits : Int), Value.int .i64 (S.a.misses : Int), Value.int .i64 (S.a.gone : Int), Value.int .i64 (S.a.clean.length : Int), Value.int .i64 (S.a.held.length : Int)] rfl rfl 43 _ R4.out HT0.out rfl HTO.out ?_
    | refine wpList_load_row rfl 43 (.tmp 26) rfl w3.heap.size rfl 43 #[Value.int .i64 (S.a.hits : Int), Value.int .i64 (S.a.misses : Int), Value.int .i64 (S.a.gone : Int), Value.int .i64 (S.a.clean.length : Int), Value.int .i64 (S.a.held.length : Int)] (0, 0) _ HR5.out Try.underlying43 rfl HT0.out ?_
    | refine wpList_build1 rfl 5 (.tmp 236) rfl (.agg #[Value.int .i64 (S.a.hits : Int), Value.int .i64 (S.a.misses : Int), Value.int .i64 (S.a.gone : Int), Value.int .i64 (S.a.clean.length : Int), Value.int .i64 (S.a.held.length : Int)]) rfl (anC 0 0 (.slice none 0 0) sup0 S.a.hits S.a.misses S.a.gone S.a.clean.length S.a.held.length) (bB_5 _ _ _ _ _) ?_
    | (refine wpList_store_row rfl 58 (.tmp 6) (.tmp 237) rfl (w.heap.size + 1) (anC 0 0 (.slice none 0 0) sup0 S.a.hits S.a.misses S.a.gone S.a.clean.length S.a.held.length) rfl rfl 58 anZ H3.out HSN.out HS0.out HSO.out ?_)
    | fail)
  refine bodyPost_ret (results_c1B Try.results11 _ _ (w.heap.size + 1) 58 _ _ _ (by first | rfl | simp) (setRow_heap _ _ _ _ _ _ H3.out) Try.underlying58 rfl (anN _ _ _ _ _ _ _ _ _)) rfl ?_
  obtain ⟨z1, z2, z3, z4, z5⟩ := HF.out _ _ _ HO.out (anC 0 0 (.slice none 0 0) sup0 S.a.hits S.a.misses S.a.gone S.a.clean.length S.a.held.length)
  exact ⟨S, W, _, _, _, _, _, _, _, _, _, rfl, rfl, z1, HST.out _ _ _ HO.out, z2, z3, rfl, z4, z5⟩
end Go.Proofs.Ytihkjfbhmlfonaa
namespace Go.Proofs.Ytihkjfbhmlfonaa
set_option linter.unusedVariables false
set_option linter.unusedSimpArgs false
open Go.RowKit
open Go.Proofs.Ytihkjfbhmlfonaa.Ca (Ct ct0 ctC argV AS)

theorem WO.ne_g {w : World} {base : Nat} {W : Wr} {c : Nat} (h : WO w base W c) : W.B ≠ W.g ∧ (∀ {u : Value} {us : List Value}, Bo.OwnS w base u us → u.ownBlock ≠ some W.g) ∧ W.room.ownBlock ≠ some W.g := by
  refine ⟨Bo.ne_of_type h.pb.bk h.row (by decide), fun hu e => ?_, fun e => ?_⟩
  · obtain ⟨_, _, x, hx⟩ := hu.heap _ e
    exact Bo.ne_of_type hx h.row (by decide) rfl
  · obtain ⟨_, cs, hx⟩ := ownsRow_block h.rm _ e
    exact Bo.ne_of_type hx h.row (by decide) rfl
/-- One more turn. -/
theorem WO.turned {w : World} {base : Nat} {W : Wr} {c : Nat} (h : WO w base W c) : WO (w.setCell ⟨W.g, 5, none⟩ (.int .i64 ((W.turn : Int) + 1))) base { W with turn := W.turn + 1 } (c + 1) := by
  obtain ⟨n1, n2, n3⟩ := h.ne_g
  have kp : ∀ k, k ≠ W.g → (w.setCell ⟨W.g, 5, none⟩ (.int .i64 ((W.turn : Int) + 1))).heap[k]? = w.heap[k]? := fun k e => heap_setCell_other w ⟨W.g, 5, none⟩ k _ e
  have kS : ∀ {u : Value} {us : List Value}, Bo.OwnS w base u us → Bo.OwnS (w.setCell ⟨W.g, 5, none⟩ (.int .i64 ((W.turn : Int) + 1))) base u us := fun hu => hu.of_heap fun k e => kp k fun q => n2 hu (q ▸ e)
  refine ⟨h.hg, ?_, ⟨h.pb.hb, (kp _ n1).trans h.pb.bk, kS h.pb.o1, kS h.pb.o2, kS h.pb.o3, kS h.pb.o4, h.pb.d12, h.pb.d13, h.pb.d14, h.pb.d23, h.pb.d24, h.pb.d34⟩, kS h.st, kS h.wt, h.dsw, h.ds1, h.ds2, h.ds3, h.ds4, h.dw1, h.dw2, h.dw3, h.dw4, h.rm.of_heap fun k e => kp k fun q => n3 (q ▸ e), h.rz, by have := h.l1; show W.L1.length ≤ _; omega, h.l2, h.l3, h.l4, by have := h.ls; show W.Ss.length ≤ _; omega, by have := h.lw; show W.Ws.length ≤ _; omega, by have := h.tu; show W.turn + 1 ≤ _; omega⟩
  rw [heap_setCell_same _ _ _ _ _ _ h.row]
  rfl
theorem WO.pushed3 {w w' : World} {base : Nat} {W : Wr} {c : Nat} (h : WO w base W c) (x v' : Value) (q1 : Bo.OwnS w' base v' (W.Ss ++ [x])) (q2 : Below base w w') (q3 : ∀ k, k < w.heap.size → W.sl.ownBlock ≠ some k → w'.heap[k]? = w.heap[k]?) (q4 : v'.ownBlock = W.sl.ownBlock ∨ ∃ k, v'.ownBlock = some k ∧ w.heap.size ≤ k) (hc : W.Ss.length + 1 ≤ c) :
    w'.heap[W.g]? = some (.cells (wrC W.B W.sl W.wl W.room W.turn) 38 (0, 0)) ∧ WO (w'.setCell ⟨W.g, 3, none⟩ v') base { W with sl := v', Ss := W.Ss ++ [x] } c ∧ Below base w (w'.setCell ⟨W.g, 3, none⟩ v') ∧ ∀ k, k < w.heap.size → k ≠ W.g → W.sl.ownBlock ≠ some k → (w'.setCell ⟨W.g, 3, none⟩ v').heap[k]? = w.heap[k]? := by
  obtain ⟨n1, n2, n3⟩ := h.ne_g
  have e0 : w'.heap[W.g]? = some (.cells (wrC W.B W.sl W.wl W.room W.turn) 38 (0, 0)) := (q3 _ (hlt_ h.row) (n2 h.st)).trans h.row
  have kp : ∀ k, k < w.heap.size → k ≠ W.g → W.sl.ownBlock ≠ some k → (w'.setCell ⟨W.g, 3, none⟩ v').heap[k]? = w.heap[k]? := fun k a e f => (heap_setCell_other w' ⟨W.g, 3, none⟩ k _ e).trans (q3 k a f)
  have kS : ∀ {u : Value} {us : List Value}, Bo.OwnS w base u us → Bo.Dj W.sl u → Bo.OwnS (w'.setCell ⟨W.g, 3, none⟩ v') base u us := fun hu hd => hu.of_heap fun k e => kp k (hu.heap k e).2.1 (fun q => n2 hu (q ▸ e)) (fun q => hd k q e)
  have hg' : v'.ownBlock ≠ some W.g := fun e => by
    obtain ⟨_, _, y, hy⟩ := q1.heap _ e
    exact Bo.ne_of_type hy e0 (by decide) rfl
  refine ⟨e0, ⟨h.hg, ?_, ⟨h.pb.hb, (kp _ (hlt_ h.pb.bk) n1 (fun e => ?_)).trans h.pb.bk, kS h.pb.o1 h.ds1, kS h.pb.o2 h.ds2, kS h.pb.o3 h.ds3, kS h.pb.o4 h.ds4, h.pb.d12, h.pb.d13, h.pb.d14, h.pb.d23, h.pb.d24, h.pb.d34⟩, q1.of_heap fun k e => heap_setCell_other w' ⟨W.g, 3, none⟩ k _ (fun q => hg' (show v'.ownBlock = some W.g by rw [← show k = W.g from q]; exact e)), kS h.wt h.dsw, Bo.DjS.push h.wt h.dsw q4, Bo.DjS.push h.pb.o1 h.ds1 q4, Bo.DjS.push h.pb.o2 h.ds2 q4, Bo.DjS.push h.pb.o3 h.ds3 q4, Bo.DjS.push h.pb.o4 h.ds4 q4, h.dw1, h.dw2, h.dw3, h.dw4, h.rm.of_heap fun k e => ?_, h.rz, h.l1, h.l2, h.l3, h.l4, by rw [List.length_append]; exact hc, h.lw, h.tu⟩, q2.setCell h.hg _, kp⟩
  · rw [heap_setCell_same _ _ _ _ _ _ e0]; rfl
  · exact Bo.own_ne h.st h.pb.bk e
  · obtain ⟨_, cs, hx⟩ := ownsRow_block h.rm _ e
    refine kp k (hlt_ hx) (fun q => n3 (q ▸ e)) fun q => ?_
    obtain ⟨_, _, y, hy⟩ := h.st.heap _ q
    exact Bo.ne_of_type hy hx (by decide) rfl
theorem WO.pushed4 {w w' : World} {base : Nat} {W : Wr} {c : Nat} (h : WO w base W c) (x v' : Value) (q1 : Bo.OwnS w' base v' (W.Ws ++ [x])) (q2 : Below base w w') (q3 : ∀ k, k < w.heap.size → W.wl.ownBlock ≠ some k → w'.heap[k]? = w.heap[k]?) (q4 : v'.ownBlock = W.wl.ownBlock ∨ ∃ k, v'.ownBlock = some k ∧ w.heap.size ≤ k) (hc : W.Ws.length + 1 ≤ c) :
    w'.heap[W.g]? = some (.cells (wrC W.B W.sl W.wl W.room W.turn) 38 (0, 0)) ∧ WO (w'.setCell ⟨W.g, 4, none⟩ v') base { W with wl := v', Ws := W.Ws ++ [x] } c ∧ Below base w (w'.setCell ⟨W.g, 4, none⟩ v') ∧ ∀ k, k < w.heap.size → k ≠ W.g → W.wl.ownBlock ≠ some k → (w'.setCell ⟨W.g, 4, none⟩ v').heap[k]? = w.heap[k]? := by
  obtain ⟨n1, n2, n3⟩ := h.ne_g
  have e0 : w'.heap[W.g]? = some (.cells (wrC W.B W.sl W.wl W.room W.turn) 38 (0, 0)) := (q3 _ (hlt_ h.row) (n2 h.wt)).trans h.row
  have kp : ∀ k, k < w.heap.size → k ≠ W.g → W.wl.ownBlock ≠ some k → (w'.setCell ⟨W.g, 4, none⟩ v').heap[k]? = w.heap[k]? := fun k a e f => (heap_setCell_other w' ⟨W.g, 4, none⟩ k _ e).trans (q3 k a f)
  have kS : ∀ {u : Value} {us : List Value}, Bo.OwnS w base u us → Bo.Dj W.wl u → Bo.OwnS (w'.setCell ⟨W.g, 4, none⟩ v') base u us := fun hu hd => hu.of_heap fun k e => kp k (hu.heap k e).2.1 (fun q => n2 hu (q ▸ e)) (fun q => hd k q e)
  have hg' : v'.ownBlock ≠ some W.g := fun e => by
    obtain ⟨_, _, y, hy⟩ := q1.heap _ e
    exact Bo.ne_of_type hy e0 (by decide) rfl
  refine ⟨e0, ⟨h.hg, ?_, ⟨h.pb.hb, (kp _ (hlt_ h.pb.bk) n1 (fun e => ?_)).trans h.pb.bk, kS h.pb.o1 h.dw1, kS h.pb.o2 h.dw2, kS h.pb.o3 h.dw3, kS h.pb.o4 h.dw4, h.pb.d12, h.pb.d13, h.pb.d14, h.pb.d23, h.pb.d24, h.pb.d34⟩, kS h.st h.dsw.symm, q1.of_heap fun k e => heap_setCell_other w' ⟨W.g, 4, none⟩ k _ (fun q => hg' (show v'.ownBlock = some W.g by rw [← show k = W.g from q]; exact e)), (Bo.DjS.push h.st h.dsw.symm q4).symm, h.ds1, h.ds2, h.ds3, h.ds4, Bo.DjS.push h.pb.o1 h.dw1 q4, Bo.DjS.push h.pb.o2 h.dw2 q4, Bo.DjS.push h.pb.o3 h.dw3 q4, Bo.DjS.push h.pb.o4 h.dw4 q4, h.rm.of_heap fun k e => ?_, h.rz, h.l1, h.l2, h.l3, h.l4, h.ls, by rw [List.length_append]; exact hc, h.tu⟩, q2.setCell h.hg _, kp⟩
  · rw [heap_setCell_same _ _ _ _ _ _ e0]; rfl
  · exact Bo.own_ne h.wt h.pb.bk e
  · obtain ⟨_, cs, hx⟩ := ownsRow_block h.rm _ e
    refine kp k (hlt_ hx) (fun q => n3 (q ▸ e)) fun q => ?_
    obtain ⟨_, _, y, hy⟩ := h.wt.heap _ q
    exact Bo.ne_of_type hy hx (by decide) rfl
/-- The end of a step that writes into the law's own rows, and into u. -/
theorem one_fin2 {w w2 w3 w6 : World} {base : Nat} {S S' : Sto} {n rm b c : Nat} {o : Sup} {L : List (Int × List Int)} {kd E : Int} {W W' : Wr} {oc : Array Value} (h : Sb w base S n o L b rm) (hW : WO w base W c) (hr : RmO W S) (hP : Pn w w2 oc) (hO : OutS w2 base S n rm b kd E S' w3) (u : Value) (hW' : WO w6 base W' (c + 1)) (hb6 : Below base w3 w6) (fr : ∀ k, k < w3.heap.size → k ∉ W.fp → u.ownBlock ≠ some k → w6.heap[k]? = w3.heap[k]?) (hu : ∀ k, u.ownBlock = some k → w2.heap.size ≤ k ∧ k ∉ S'.fp) (hrm : ∀ k, W'.room.ownBlock = some k → k ∉ S'.fp ∧ k ≠ w.heap.size + 1) (cs : Array Value) :
    (∃ o' L', Sb (w6.setRow (w.heap.size + 1) cs) base S' n o' L' (b + 200) rm) ∧ WO (w6.setRow (w.heap.size + 1) cs) base W' (c + 1) ∧ RmO W' S' ∧ Below base w (w6.setRow (w.heap.size + 1) cs) ∧ Fr (S.fp ++ W.fp) w (w6.setRow (w.heap.size + 1) cs) ∧ w6.heap[w.heap.size + 1]? = some (.cells anZ 58 (0, 0)) := by
  obtain ⟨⟨o', L', hS⟩, hB, hb, hf, hg⟩ := hO
  have hbw := h.sx.sk.base
  have hsz := hP.sz
  have hz3 := hf.size
  have ne1 : ∀ k ∈ S'.fp, k ≠ w.heap.size + 1 := fun k hk => by
    rcases hg k hk with q | q
    · have := (h.sx.sk.fp_lt q).2; omega
    · omega
  have offW : ∀ k ∈ S'.fp, k ∉ W.fp := fun k hk q => by
    have l1 := (hW.ty q).2.1
    rcases hg k hk with z | z
    · exact hW.off h.sx.sk hr q z
    · omega
  have ea : w6.heap[w.heap.size + 1]? = some (.cells anZ 58 (0, 0)) := by
    refine (fr _ (by omega) (fun q => by have := (hW.ty q).2.1; omega) (fun q => by have := (hu _ q).1; omega)).trans ((hf.block _ (by omega) (fun q => by have := (h.sx.sk.fp_lt q).2; omega)).trans hP.an)
  refine ⟨⟨o', L', hS.keep (fun k hk => (setRow_other _ _ _ _ (ne1 k hk)).trans (fr k (hS.sx.sk.fp_lt hk).2 (offW k hk) (fun q => (hu k q).2 hk))) (by rw [size_setRow]; exact hb6.size)⟩, hW'.keep fun k hk => setRow_other _ _ _ _ fun q => ?_, fun k e => (hrm k e).1, ?_, ?_, ea⟩
  · subst q
    obtain ⟨_, _, ⟨cs2, t, a1, a2⟩ | e⟩ := hW'.ty hk
    · rw [ea] at a1
      injection a1 with a1
      injection a1 with _ a3 _
      rcases a2 with r | r | r <;> rw [r] at a3 <;> exact absurd a3 (by decide)
    · exact (hrm _ e).2 rfl
  · exact below_setRow (((hP.bl.mono hbw).trans hb).trans hb6) (by omega) cs
  · have z6 := hb6.size
    refine ⟨hb6.os.trans (hf.os.trans hP.bl.os), hb6.tape.trans (hf.tape.trans hP.bl.tape), hb6.output.trans (hf.output.trans hP.bl.output), by rw [size_setRow]; omega, fun k a q => ?_⟩
    have q1 : k ∉ S.fp := fun z => q (List.mem_append_left _ z)
    have q2 : k ∉ W.fp := fun z => q (List.mem_append_right _ z)
    exact (setRow_other _ _ _ _ (by omega)).trans ((fr k (by omega) q2 (fun z => by have := (hu k z).1; omega)).trans ((hf.block k (by omega) q1).trans (hP.bl.block k a)))
end Go.Proofs.Ytihkjfbhmlfonaa
