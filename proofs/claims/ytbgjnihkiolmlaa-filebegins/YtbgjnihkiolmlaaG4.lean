import Derived.Test.YtbgjnihkiolmlaaG3
namespace Go.Proofs.Ytbgjnihkiolmlaa
set_option linter.unusedVariables false
set_option linter.unusedSimpArgs false
open Go.RowKit
attribute [local go_sem ↓] Go.wp_at_zero Go.wp_at_succ

/-! Superblocks laid and chosen. -/
theorem readOf_fine {D : DS} (hok : DsOk D) (q : Nat) (hq : q < D.np) : (D.readOf q).length = 256 ∧ Byts (D.readOf q) := by
  obtain ⟨_, _, hn, hop⟩ := hok.np
  unfold DS.readOf
  cases h : lastOf D.ops q with
  | none => exact ⟨pgO_len hn hq, pgO_byts hok.bts q⟩
  | some i =>
    have := hop _ (getD_memW D.ops i (lastOf_lt h))
    exact ⟨this.2.1, this.2.2⟩
theorem Read_same (w : World) (base : Nat) (F : List Nat) (p : Nat) (D : DS) (h : DA w base F p D) (hpw : D.power = true) (q : Nat) (hq : q < D.np) (hr : D.reads < 4000000000000000000) (z : Int) (hz : z = (q : Int)) :
    Calls Try.prog 46 #[.pointer (some ⟨p, 0, none⟩), .int .i64 z] w fun e w' => ∃ g c, e = .returned (.tuple #[.slice (some ⟨g, 0, none⟩) 256 c, .int .i64 0]) ∧ Own w' w.heap.size (.slice (some ⟨g, 0, none⟩) 256 c) (D.readOf q) ∧ Src w' (some ⟨g, 0, none⟩) c (D.readOf q) ∧ w.heap.size ≤ g ∧ DA w' base F p { D with reads := D.reads + 1 } ∧ Fr F w w' := by
  obtain ⟨P, rfl, rfl, hk, hok⟩ := h
  subst hz
  refine (Read_in w base P D hk hok hpw q hq hr).mono ?_
  rintro e w' ⟨v, rfl, h1, h2, h3⟩
  obtain ⟨hl, h8⟩ := readOf_fine hok q hq
  obtain ⟨g, c, rest, rfl, q1, q2, q3, q4, q5⟩ := own_in h1 (by omega)
  have hS : Src w' (some ⟨g, 0, none⟩) c (D.readOf q) := In.src (rest := rest) q2 c q3 q4
  rw [hl] at h1 ⊢
  exact ⟨g, c, rfl, h1, hS, q1, ⟨P, rfl, rfl, h2, ⟨hok.n, hok.bts, hok.ops, by show 0 ≤ D.reads + 1 ∧ D.reads + 1 ≤ _; have := hok.reads; omega, hok.writes, hok.syncs, hok.epoch, hok.armed⟩⟩, h3⟩
theorem Src.other {w w1 : World} {F : List Nat} {g c : Nat} {zs : List Int} (h : Src w (some ⟨g, 0, none⟩) c zs) (hf : Fr F w w1) (hg : g ∉ F) (hl : 0 < zs.length) : Src w1 (some ⟨g, 0, none⟩) c zs := by
  obtain ⟨h1, h2, b, o, h3, h4, h5⟩ := h
  have e := h4 hl
  simp only [Option.some.injEq, Addr.mk.injEq] at e
  obtain ⟨rfl, rfl, _⟩ := e
  refine ⟨h1, h2, g, 0, fun _ => Nat.lt_of_lt_of_le (h3 hl) hf.size, fun _ => rfl, fun j hj => ?_⟩
  rw [← h5 j hj]
  unfold World.cell?
  simp only
  rw [hf.block g (h3 hl) hg]
set_option maxHeartbeats 400000 in
theorem laying_any (w : World) (p : Nat) (s : Sup) :
    Calls Try.prog 40 #[.pointer (some ⟨p, 0, none⟩), .agg (supC s)] w fun e w' => ∃ a b, e = .returned (.func (.func 62) #[] #[.pointer (some ⟨b, 0, none⟩), .pointer (some ⟨a, 0, none⟩)]) ∧ w'.heap[a]? = some (.cells #[.pointer (some ⟨p, 0, none⟩)] 24 (0, 0)) ∧ w'.heap[b]? = some (.cells (supC s) 37 (0, 0)) ∧ w.heap.size ≤ a ∧ w.heap.size ≤ b ∧ Below w.heap.size w w' := by
  have hmf : ∀ (fn : Fn) (first cap : Array Value) (w : World), (Instr.makeFunc fn first cap).run Try.prog w = .ok (.func fn first cap) w := fun _ _ _ _ => rfl
  go_enter Try.func40, Try.ntmps40
  go_wp2
  go_ret
  refine ⟨w.heap.size, w.heap.size + 1, rfl, ?_, ?_, Nat.le_refl _, by omega, ?_⟩
  · exact ((below_new (w.alloc (.cells #[.pointer (some ⟨p, 0, none⟩)] 24)) _).block _ (by simp)).trans (hnew w _)
  · have := hnew (w.alloc (.cells #[.pointer (some ⟨p, 0, none⟩)] 24)) (.cells (supC s) 37)
    simpa using this
  · exact (below_new w _).trans ((below_new _ _).mono (by simp))
theorem cell_sup1 {w : World} {b : Nat} {s : Sup} {t : TypeId} (h : w.heap[b]? = some (.cells (supC s) t (0, 0))) : w.cell? ⟨b, 1, none⟩ = some (.int .i64 s.ge) := by simp [World.cell?, h, supC]
set_option maxHeartbeats 400000 in
theorem laying1_any (w : World) (base : Nat) (F : List Nat) (p : Nat) (D : DS) (h : DA w base F p D) (hbw : base ≤ w.heap.size) (hpw : D.power = true) (s : Sup) (hv : validS s = true) (hops : D.ops.length < 400000000000) (hwr : D.writes < 4000000000000000000) (a b : Nat) (ha : w.heap[a]? = some (.cells #[.pointer (some ⟨p, 0, none⟩)] 24 (0, 0))) (hb : w.heap[b]? = some (.cells (supC s) 37 (0, 0))) (q : Nat) (hq : s.ge % 2 = (q : Int)) :
    Calls Try.prog 62 #[.pointer (some ⟨b, 0, none⟩), .pointer (some ⟨a, 0, none⟩)] w fun e w' => e = .returned (.int .i64 D.actE) ∧ Nx base F p w (D.wr ⟨q, secP s⟩) w' := by
  have hvv := (validS_iff s).1 hv
  have hq2 : q < 2 := by omega
  have hnp := h.ok.np
  have hP := hid (packSuper_ok w s hv)
  have hm : s.ge.tmod 2 = (q : Int) := by rw [Int.tmod_eq_emod_of_nonneg (by omega)]; exact hq
  have i2 : 0 ≤ s.ge ∧ s.ge ≤ 1099511627776 := ⟨hvv.2.2.1, hvv.2.2.2.1⟩
  have ra := hid ha
  have rb := hid hb
  have HW := hid (fun (w1 : World) (g : Nat) (hB : Below w.heap.size w w1) (hr : w1.heap[g]? = some (.cells (ints .u8 (secS s ++ List.replicate 192 0)).toArray 5 (0, 0))) => Write_any w1 base F p D (h.below hB) (Nat.le_trans hbw hB.size) hpw q (by omega) (secP s) (secP_len s) (secP_byts hv) (some ⟨g, 0, none⟩) 256 (src_row (tl := []) (by rw [List.append_nil]; exact hr) 256 (by rw [secP_len]; omega) (by simp [maxLen])) hops hwr)
  clear hvv hv hnp hops hwr h hpw hbw
  go_enter Try.func62, Try.ntmps62
  go_wp2_with (first
    | (refine wpList_load_row_w rfl 37 (.tmp 0) rfl b rfl 37 (supC s) (0, 0) _ rb.out Try.underlying37 rfl (supN s) ?_)
    | (go_at_call 63; refine hP.out.mono ?_; rintro e w1 ⟨g, rfl, hg, hr, hB⟩; have ca := cell_of_one ((hB.block a (hlt_ ra.out)).trans ra.out); have cb := cell_sup1 ((hB.block b (hlt_ rb.out)).trans rb.out))
    | (go_at_call 49; refine (HW.out w1 g hB hr).mono ?_; rintro e w2 ⟨rfl, hN⟩))
  go_ret
  exact ⟨rfl, hN.pre hB⟩
theorem Fr.setRowN {F : List Nat} {a b : World} (h : Fr F a b) {g : Nat} (hg : a.heap.size ≤ g) (cs : Array Value) : Fr F a (b.setRow g cs) :=
  ⟨h.os, h.tape, h.output, by rw [size_setRow]; exact h.size, fun k hk hn => (setRow_other _ _ _ _ (by omega)).trans (h.block k hk hn)⟩
theorem DA.of_heap {w w1 : World} {base : Nat} {F : List Nat} {p : Nat} {D : DS} (h : DA w base F p D) (hk : ∀ k ∈ F, w1.heap[k]? = w.heap[k]?) : DA w1 base F p D := by
  obtain ⟨P, rfl, rfl, hd, hok⟩ := h
  exact ⟨P, rfl, rfl, hd.of_heap hk, hok⟩
theorem DA.setRowN {w : World} {base : Nat} {F : List Nat} {p : Nat} {D : DS} (h : DA w base F p D) {g : Nat} (hg : g ∉ F) (cs : Array Value) : DA (w.setRow g cs) base F p D :=
  h.of_heap fun k hk => setRow_other _ _ _ _ (fun e => hg (e ▸ hk))
set_option maxHeartbeats 400000 in
theorem fchoose_any (w : World) (base : Nat) (F : List Nat) (p : Nat) (D : DS) (h : DA w base F p D) (hpw : D.power = true) (hr : D.reads < 3999999999999999999) :
    Calls Try.prog 38 #[.pointer (some ⟨p, 0, none⟩)] w fun e w' => e = .returned (.tuple #[.agg (supC (chooseF (D.readOf 0) (D.readOf 1)).1), .int .i64 (chooseF (D.readOf 0) (D.readOf 1)).2]) ∧ DA w' base F p { D with reads := D.reads + 2 } ∧ Fr F w w' := by
  have hnp := h.ok.np
  have r0 := hnew w (.cells (supC sup0) 37)
  have b0 := below_new w (.cells (supC sup0) 37)
  have h0 := h.below b0
  have f0 := readOf_fine h.ok 0 (by omega)
  have f1 := readOf_fine h.ok 1 (by omega)
  have HR0 := hid (Read_same (w.alloc (.cells (supC sup0) 37)) base F p D h0 hpw 0 (by omega) (by omega) 0 rfl)
  have HR1 := hid (fun (w1 : World) (hD : DA w1 base F p { D with reads := D.reads + 1 }) => Read_same w1 base F p { D with reads := D.reads + 1 } hD hpw 1 (by show 1 < D.np; omega) (by show D.reads + 1 < _; omega) 1 rfl)
  have HLT := hid h.lt
  have HF0 := hid f0
  have HF1 := hid f1
  have R0 := hid r0
  have B0 := hid b0
  clear h h0 hnp f0 f1 r0 b0
  go_enter Try.func38, Try.ntmps38
  go_wp2_with fail
  rw [zero_super]
  refine HR0.out.mono ?_
  rintro e w1 ⟨g, c, rfl, hO1, hS1, hg1, hD1, hF1⟩
  have HS1 := hid hS1
  have HD1 := hid hD1
  have HFF1 := hid hF1
  clear hO1 hS1 hD1 hF1 HR0
  go_wp2_with fail
  refine (HR1.out w1 HD1.out).mono ?_
  rintro e w2 ⟨g2, c2, rfl, hO2, hS2, hg2, hD2, hF2⟩
  have HS2 := hid hS2
  have HD2 := hid hD2
  have HFF2 := hid hF2
  clear hO2 hS2 hD2 hF2 HR1
  go_wp2_with fail
  have hgF : g ∉ F := fun e => by have := (HLT.out g e).2; have := B0.out.size; omega
  have hC := choose_any w2 (D.readOf 0) (D.readOf 1) HF0.out.2 HF1.out.2 (some ⟨g, 0, none⟩) (some ⟨g2, 0, none⟩) c c2 (HS1.out.other HFF2.out hgF (by rw [HF0.out.1]; omega)) HS2.out
  rw [HF0.out.1, HF1.out.1] at hC
  refine hC.mono ?_
  rintro e w3 ⟨rfl, hB3⟩
  have hNF : w.heap.size ∉ F := fun e => by have := (HLT.out _ e).2; omega
  have r3 : w3.heap[w.heap.size]? = some (.cells (supC sup0) 37 (0, 0)) := by
    have q := HFF2.out.keep (HFF1.out.keep R0.out hNF) hNF
    exact (hB3.block _ (hlt_ q)).trans q
  have F3 : Fr F w w3 := (((Fr.of_below (F := F) B0.out).trans HFF1.out (Gr.refl _ _)).trans HFF2.out (Gr.refl _ _)).trans (Fr.of_below hB3) (Gr.refl _ _)
  have D3 := HD2.out.below hB3
  have HF3 := hid F3
  have HD3 := hid D3
  have R3 := hid r3
  clear hC hB3 F3 D3 r3 HFF2 HD2 HS2 HS1 HFF1 HD1 HF0 HF1 hgF R0 B0 HLT
  generalize hS1 : (chooseF (D.readOf 0) (D.readOf 1)).1 = S at *
  generalize hE1 : (chooseF (D.readOf 0) (D.readOf 1)).2 = E at *
  go_wp2_with (first | (refine wpList_store_row (by rfl) 37 (.tmp 2) (.tmp 28) (by rfl) w.heap.size (supC S) (by rfl) (by rfl) 37 (supC sup0) (by exact R3.out) (supN _) (supS _ _) (supO _) ?_))
  exact bodyPost_ret (v := .tuple #[.agg (supC S), .int .i64 E]) (results_c2 Try.results38 _ _ w.heap.size 37 _ _ _ rfl (setRow_heap _ _ _ _ _ _ R3.out) Try.underlying37 rfl (by rw [size_super]; rfl)) rfl ⟨by rw [hS1, hE1], (by have := HD3.out.setRowN hNF (supC S); simpa [Int.add_assoc] using this), HF3.out.setRowN (Nat.le_refl _) _⟩
end Go.Proofs.Ytbgjnihkiolmlaa
