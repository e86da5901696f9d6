import Derived.Test.YtihkjfbhmlfonaaSb
import Derived.Defers
namespace Go.Proofs.Ytihkjfbhmlfonaa
set_option linter.unusedVariables false
set_option linter.unusedSimpArgs false
open Go.RowKit
open Go.Proofs.Ytihkjfbhmlfonaa.Ca (Ct ct0 ctC argV AS)
attribute [local go_sem ↓] Go.wp_at_zero Go.wp_at_succ

set_option maxRecDepth 100000 in
set_option maxHeartbeats 1000000 in
theorem publish1_ok (w : World) (E Q : Nat) (u : FrameMode) (hE : w.cell? ⟨E, 0, none⟩ = some (.int .i64 0)) :
    CallsD Try.prog 71 #[.pointer (some ⟨E, 0, none⟩), .pointer (some ⟨Q, 0, none⟩)] u w fun e u' w' => u' = u ∧ (e = .returned (.tuple #[]) ∧ w' = w) := by
  go_enter_d Try.func71, Try.ntmps71
  go_wp2
  go_end0
  exact ⟨rfl, rfl⟩
set_option maxRecDepth 100000 in
set_option maxHeartbeats 1000000 in
theorem publish1_bad (w : World) (base : Nat) (F : List Nat) (p : Nat) (D : DS) (h : DA w base F p D) (g : Nat) (s : Sup) (nx ep : Int) (hf : FK w g p s nx ep) (E Q st : Nat) (u : FrameMode) (x : Int) (hx : x ≠ 0) (hE : w.cell? ⟨E, 0, none⟩ = some (.int .i64 x)) (hQ : w.cell? ⟨Q, 0, none⟩ = some (.pointer (some ⟨st, 0, none⟩))) (hst : w.cell? ⟨st, 0, none⟩ = some (.pointer (some ⟨g, 0, none⟩))) :
    CallsD Try.prog 71 #[.pointer (some ⟨E, 0, none⟩), .pointer (some ⟨Q, 0, none⟩)] u w fun e u' w' => u' = u ∧ (e = .returned (.tuple #[]) ∧ DA w' base F p D ∧ FK w' g p s s.ma ep ∧ Fr (g :: F) w w') := by
  have HF := hid (Forget_any w base F p D h g s nx ep hf)
  have hx2 : (x != 0) = true := by simpa using hx
  clear h hf hx
  go_enter_d Try.func71, Try.ntmps71
  go_wp2_with fail
  refine HF.out.mono ?_
  rintro e w1 ⟨rfl, hD, hK, hR⟩
  have HD := hid hD
  have HK := hid hK
  have HR := hid hR
  clear hD hK hR HF
  go_wp2
  go_end0
  exact ⟨rfl, HD.out, HK.out, HR.out⟩
end Go.Proofs.Ytihkjfbhmlfonaa
namespace Go.Proofs.Ytihkjfbhmlfonaa
set_option linter.unusedVariables false
set_option linter.unusedSimpArgs false
open Go.RowKit
open Go.Proofs.Ytihkjfbhmlfonaa.Ca (Ct ct0 ctC argV AS)
attribute [local go_sem ↓] Go.wp_at_zero Go.wp_at_succ

/-- The disk behind the appends of pages from a number on. -/
def appD (D : DS) (m : Nat) : List (Int × List Int) → DS
  | [] => D
  | v :: r => appD (D.wr ⟨m, pageP v.1 m v.2⟩) (m + 1) r
theorem appD_snoc : ∀ (l : List (Int × List Int)) (D : DS) (m : Nat) (v : Int × List Int), appD D m (l ++ [v]) = (appD D m l).wr ⟨m + l.length, pageP v.1 (m + l.length : Nat) v.2⟩
  | [], D, m, v => by simp [appD]
  | x :: l, D, m, v => by
    simp only [List.cons_append, appD, appD_snoc l _ (m + 1) v, List.length_cons]
    rw [show m + 1 + l.length = m + (l.length + 1) by omega]
theorem take_snocV (l : List (Int × List Int)) (i : Nat) (h : i < l.length) : l.take (i + 1) = l.take i ++ [l.getD i (0, [])] := by
  rw [List.take_succ_eq_append_getElem h, List.getD_eq_getElem?_getD, List.getElem?_eq_getElem h]; rfl
/-- What stands when so many pages are appended. -/
structure PubI (W : World) (base : Nat) (S : Sto) (m : Nat) (i : Nat) (D' : DS) (F' : List Nat) (wr : World) : Prop where
  da : DA wr base F' S.p D'
  fk : FK wr S.g S.p S.s (m + i : Nat) S.ep
  fr : Fr (S.g :: S.F) W wr
  gr : Gr W S.F F'
  lv : liveF D' S.ep = 0
  eq : D' = appD S.D m (S.vs.take i)
  np : D'.np = S.D.np
  op : D'.ops.length = S.D.ops.length + i
  wc : D'.writes = S.D.writes + i
theorem live_of {D : DS} {ep : Int} (h1 : D.epoch = ep) (h2 : D.power = true) : liveF D ep = 0 := by
  unfold liveF
  simp [h1, h2]
theorem PubI.step {W wr w' : World} {base : Nat} {S : Sto} {m i : Nat} {D' : DS} {F' F2 : List Nat} (h : PubI W base S m i D' F' wr) (hW : SK W base S) (hi : i < S.vs.length) (ha : D'.armed ≠ 1) (ha0 : 0 ≤ D'.armed) (kd : Int) (zs : List Int) (hv : S.vs.getD i (0, []) = (kd, zs))
    (hd : DA w' base F2 S.p (D'.wr ⟨m + i, pageP kd (m + i : Nat) zs⟩)) (hf : FK w' S.g S.p S.s (m + i + 1 : Nat) S.ep) (fr : Fr (S.g :: F') wr w') (gr : Gr wr F' F2) : PubI W base S m (i + 1) (D'.wr ⟨m + i, pageP kd (m + i : Nat) zs⟩) F2 w' := by
  obtain ⟨e1, e2, e3, e4, e5, e6⟩ := wr_img D' ⟨m + i, pageP kd (m + i : Nat) zs⟩
  obtain ⟨l1, l2⟩ := live_0 h.lv
  have hp := (wr_arm D' ⟨m + i, pageP kd (m + i : Nat) zs⟩ ha0).2.1 ha
  have hl : (S.vs.take i).length = i := by rw [List.length_take]; omega
  refine ⟨hd, hf, h.fr.trans fr ?_, h.gr.trans gr h.fr.size, live_of (e3.trans l1) (hp.trans l2), ?_, ?_, ?_, ?_⟩
  · intro k hk
    rcases List.mem_cons.1 hk with e | e
    · exact Or.inl (e ▸ List.mem_cons_self ..)
    · exact (h.gr k e).imp (fun q => List.mem_cons_of_mem _ q) id
  · rw [take_snocV _ _ hi, appD_snoc, hv, hl, h.eq]
  · have : (D'.wr ⟨m + i, pageP kd (m + i : Nat) zs⟩).np = D'.np := by unfold DS.np; rw [e1]
    rw [this, h.np]
  · rw [e2, List.length_append, h.op]; rfl
  · rw [e5, h.wc]; push_cast; omega
theorem SK.off {W wr : World} {base : Nat} {S : Sto} (h : SK W base S) (hf : Fr (S.g :: S.F) W wr) :
    wr.heap[S.st]? = W.heap[S.st]? ∧ (∀ k, S.sv.ownBlock = some k → wr.heap[k]? = W.heap[k]?) ∧ (∀ k ∈ S.lb, wr.heap[k]? = W.heap[k]?) ∧ (∀ k ∈ S.FC, wr.heap[k]? = W.heap[k]?) := by
  refine ⟨hf.block S.st h.lt_st ?_, fun k e => hf.block k (h.in_lt (by simp [e])).2 ?_, fun k e => hf.block k (h.in_lt (by simp [e])).2 ?_, fun k e => hf.block k (h.in_lt (by simp [e])).2 ?_⟩
  · intro q
    rcases List.mem_cons.1 q with z | z
    · exact h.st_apart.1 z
    · exact h.st_apart.2.1 z
  · intro q
    rcases List.mem_cons.1 q with z | z
    · exact (h.sv_apart e).1 z
    · exact (h.sv_apart e).2.2.1 z
  · intro q
    rcases List.mem_cons.1 q with z | z
    · exact h.g_apart.2.2 (z ▸ e)
    · exact h.a2 k z e
  · intro q
    rcases List.mem_cons.1 q with z | z
    · exact h.g_apart.2.1 (z ▸ e)
    · exact h.a1 k z e
/-- A content of the list, where it lies. -/
theorem flat_ct : ∀ (l : List Ct) (i : Nat), i < l.length → ∀ j v, (ctC (l.getD i ct0))[j]? = some v → (l.flatMap ctC)[i * 2 + j]? = some v
  | [], i, h, j, v, hv => by simp at h
  | x :: l, 0, h, j, v, hv => by
    have hj : j < 2 := by
      have := (List.getElem?_eq_some_iff.1 hv).1
      simpa [ctC] using this
    rw [List.flatMap_cons, Nat.zero_mul, Nat.zero_add, List.getElem?_append_left (by simpa [ctC] using hj)]
    simpa using hv
  | x :: l, i + 1, h, j, v, hv => by
    have := flat_ct l i (by simpa using h) j v (by simpa using hv)
    rw [List.flatMap_cons, show (i + 1) * 2 + j = (i * 2 + j) + 2 by omega, List.getElem?_append_right (by simp [ctC])]
    simpa [ctC] using this
theorem SK.row {W : World} {base : Nat} {S : Sto} (h : SK W base S) (i : Nat) (hi : i < S.cts.length) : ∃ b cap, S.sv = .slice (some ⟨b, 0, none⟩) S.cts.length cap ∧ S.sv.ownBlock = some b ∧ W.rangeAt b (i * 2) (ctC (S.cts.getD i ct0)) := by
  have hc := h.so
  rcases hc.2 with ⟨_, h0⟩ | ⟨g, cap, cur, e, hg, hh, _⟩
  · have : S.cts.length = 0 := by first | exact h0 | omega
    omega
  · refine ⟨g, cap, e, by rw [e]; rfl, fun j v hv => ?_⟩
    have := hc.cells (g := g) (by rw [e]; rfl) (i * 2 + j) v (flat_ct _ i hi j v hv)
    rw [Addr.add_mid, Nat.zero_add] at this
    exact this
end Go.Proofs.Ytihkjfbhmlfonaa
namespace Go.Proofs.Ytihkjfbhmlfonaa
set_option linter.unusedVariables false
set_option linter.unusedSimpArgs false
open Go.RowKit
open Go.Proofs.Ytihkjfbhmlfonaa.Ca (Ct ct0 ctC argV AS)
attribute [local go_sem ↓] Go.wp_at_zero Go.wp_at_succ

theorem allocCt (a : Act) (o : Oper) (w : World) (ho : o.op = .alloc 81) : (execOp a.eval o).run Try.prog w = .ok (.value (.pointer (some ⟨w.heap.size, 0, none⟩))) (w.alloc (.cells (ctC ct0).toArray 81)) := by
  unfold execOp
  rw [ho]
  kernel_rfl
/-- How publish ends. -/
def PubEnd (S : Sto) (m : Nat) (hd : Int) (c : Int) (D' : DS) (s' : Sup) : Prop :=
  (∃ i, i < S.vs.length ∧ (appD S.D m (S.vs.take i)).armed = 1 ∧ liveF (appD S.D m (S.vs.take i)) S.ep = 0 ∧ c = 2 ∧ D' = appD S.D m (S.vs.take (i + 1)) ∧ s' = S.s) ∨
  (liveF (appD S.D m S.vs) S.ep = 0 ∧ c = (runS (appD S.D m S.vs) [.sync, .lay ⟨S.s.wd, S.s.ge + 1, (m + S.vs.length : Nat), hd, S.s.pg⟩ 0 0, .sync]).2 ∧ D' = (runS (appD S.D m S.vs) [.sync, .lay ⟨S.s.wd, S.s.ge + 1, (m + S.vs.length : Nat), hd, S.s.pg⟩ 0 0, .sync]).1 ∧ s' = if c = 0 then ⟨S.s.wd, S.s.ge + 1, (m + S.vs.length : Nat), hd, S.s.pg⟩ else S.s)
set_option maxRecDepth 100000 in
set_option maxHeartbeats 1000000 in
theorem opublish_any (w : World) (base : Nat) (S : Sto) (h : SK w base S) (hlv : liveF S.D S.ep = 0) (hl : S.cts.length ≤ 100000) (m : Nat) (hm : S.s.ma = m) (hnx : S.nx = m) (hm2 : 2 ≤ m) (hnp : m + S.vs.length ≤ S.D.np) (hd : Int) (hh : hd = 0 ∨ (2 ≤ hd ∧ hd < (m + S.vs.length : Nat))) (hge : 0 ≤ S.s.ge ∧ S.s.ge < 1099511627776) (hval : validS ⟨S.s.wd, S.s.ge + 1, (m + S.vs.length : Nat), hd, S.s.pg⟩ = true) (hbud : liveF (appD S.D m S.vs) S.ep = 0 → Bud (appD S.D m S.vs) 3) (hops : S.D.ops.length + S.vs.length < 400000000000) (hwr : S.D.writes + S.vs.length < 4000000000000000000) :
    Calls Try.prog 52 #[.pointer (some ⟨S.st, 0, none⟩), .int .i64 hd] w fun e w' => ∃ c D' s' F', e = .returned (.int .i64 c) ∧ PubEnd S m hd c D' s' ∧ DA w' base F' S.p D' ∧ FK w' S.g S.p s' s'.ma S.ep ∧ Fr (S.g :: S.F) w w' ∧ Gr w S.F F' := by
  have hmf : ∀ (fn : Fn) (first cap : Array Value) (w : World), (Instr.makeFunc fn first cap).run Try.prog w = .ok (.func fn first cap) w := fun _ _ _ _ => rfl
  obtain ⟨svp, svc, esv⟩ := h.svf
  have HLW := hid (fun k q => (h.in_lt (k := k) q).2)
  have hB : Below w.heap.size w ((w.alloc (.cells #[.pointer (some ⟨S.st, 0, none⟩)] 27)).alloc (.cells #[.int .i64 0] 62)) := ((Below.refl w.heap.size w).alloc (Nat.le_refl _) _).alloc (by simp) _
  have hS1 := h.below hB
  have c3 := hS1.c3
  rw [esv] at c3
  have HS1 := hid hS1
  have HE := hid esv
  have HB := hid hB
  have hq0 : ((w.alloc (.cells #[.pointer (some ⟨S.st, 0, none⟩)] 27)).alloc (.cells #[.int .i64 0] 62)).heap[w.heap.size]? = some (.cells #[.pointer (some ⟨S.st, 0, none⟩)] 27 (0, 0)) := hold (hnew w _)
  have hq1 : ((w.alloc (.cells #[.pointer (some ⟨S.st, 0, none⟩)] 27)).alloc (.cells #[.int .i64 0] 62)).heap[w.heap.size + 1]? = some (.cells #[.int .i64 0] 62 (0, 0)) := by
    have := hnew (w.alloc (.cells #[.pointer (some ⟨S.st, 0, none⟩)] 27)) (.cells #[.int .i64 0] 62)
    simpa using this
  have HQ0 := hid hq0
  have HQ1 := hid hq1
  have hli : (S.cts.length : Int) ≤ 100000 := by omega
  have HP0 : Hid (PubI ((w.alloc (.cells #[.pointer (some ⟨S.st, 0, none⟩)] 27)).alloc (.cells #[.int .i64 0] 62)) base S m 0 S.D S.F ((w.alloc (.cells #[.pointer (some ⟨S.st, 0, none⟩)] 27)).alloc (.cells #[.int .i64 0] 62))) := hid ⟨hS1.da, by rw [← hnx]; exact hS1.fk, Fr.refl _ _, Gr.refl _ _, hlv, rfl, rfl, rfl, by simp⟩
  have HCL := hid h.cl
  clear h hS1 esv hB hq0 hq1
  generalize hn : S.cts.length = n at *
  have HN := hid hn
  clear hn
  have hAC := allocCt
  go_enter_defers Try.func52, Try.ntmps52
  go_wp2
  generalize hW : (w.alloc (.cells #[.pointer (some ⟨S.st, 0, none⟩)] 27)).alloc (.cells #[.int .i64 0] 62) = W at *
  clear hW c3
  go_loopw [15] (fun iv wr => ∃ (i : Nat) (D' : DS) (F' : List Nat), iv = .int .i64 i ∧ i ≤ n ∧ PubI W base S m i D' F' wr) (fun iv _ => n - (intOf iv).toNat)
  case atStart => exact ⟨0, S.D, S.F, rfl, Nat.zero_le _, HP0.out⟩
  case round =>
    obtain ⟨i, D', F', rfl, hin, hPI⟩ := hrel
    have q0 : wr.heap[w.heap.size]? = some (.cells #[.pointer (some ⟨S.st, 0, none⟩)] 27 (0, 0)) := (hPI.fr.block _ (hlt_ HQ0.out) (fun q => by
      have := HLW.out w.heap.size (by rcases List.mem_cons.1 q with z | z <;> simp [z])
      omega)).trans HQ0.out
    have q1 : wr.heap[w.heap.size + 1]? = some (.cells #[.int .i64 0] 62 (0, 0)) := (hPI.fr.block _ (hlt_ HQ1.out) (fun q => by
      have := HLW.out (w.heap.size + 1) (by rcases List.mem_cons.1 q with z | z <;> simp [z])
      omega)).trans HQ1.out
    have o1 := (HS1.out.off hPI.fr)
    have t0 : wr.cell? ⟨S.st, 0, none⟩ = some (.pointer (some ⟨S.g, 0, none⟩)) := (World.cell?_of_block (a := ⟨S.st, 0, none⟩) o1.1).trans HS1.out.c0
    have x0 := cell_of_one q0
    have HPI := hid hPI
    have HO1 := hid o1
    have Hq0 := hid q0
    have Hq1 := hid q1
    clear hPI o1 q0 q1
    by_cases hlt : i < n
    · obtain ⟨b, cap, eb1, eb2, hrow⟩ := HS1.out.row i (by rw [HN.out]; exact hlt)
      rw [HE.out, HN.out] at eb1
      cases eb1
      have hrow2 := rng_of_heap hrow (HO1.out.2.1 b eb2)
      have HRO := hid hrow2
      clear hrow hrow2 eb2
      generalize hc : S.cts.getD i ct0 = c at *
      have HC := hid hc
      clear hc
      have hli2 : (i : Int) < n := by omega
      have hio : (Try.prog.info? 81).map (·.size) = some (ctC c).length := by
        obtain ⟨ic, hi1, hi2⟩ := size_content
        rw [hi1]; show some ic.size = _; rw [hi2]; rfl
      have HIO := hid hio
      clear hio
      have rA := hnew wr (.cells (ctC ct0).toArray 81)
      have hSO : ((ctC c).toArray.all fun v => v.oneCell') = true := all_oneCell_toArray (ctC_oneC c)
      go_wp2_with (first
        | refine wpList_load_mid_w (by rfl) 81 (.tmp 17) (by rfl) b (i * 2) (by rfl) (ctC c) _ (by exact HRO.out) Try.underlying81 rfl (by exact HIO.out) ?_
        | refine wpList_store_row (by rfl) 81 (.tmp 6) (.tmp 18) (by rfl) wr.heap.size (ctC c).toArray (by rfl) (by rfl) 81 (ctC ct0).toArray (by exact rA) (by exact HIO.out) rfl (all_oneCell_toArray (ctC_oneC c)) ?_)
      have hbC := below_setRow (below_new wr (.cells (ctC ct0).toArray 81)) (Nat.le_refl _) (ctC c).toArray
      have rC := setRow_heap _ _ _ (ctC c).toArray _ _ rA
      have HBC : Hid (Below wr.heap.size wr ((wr.alloc (.cells #[.int .i64 0, .slice none 0 0] 81)).setRow wr.heap.size (ctC c).toArray)) := hid hbC
      have HRC : Hid (((wr.alloc (.cells #[.int .i64 0, .slice none 0 0] 81)).setRow wr.heap.size (ctC c).toArray).heap[wr.heap.size]? = some (.cells (ctC c).toArray 81 (0, 0))) := hid rC
      clear hbC rC rA hSO
      generalize (wr.alloc (.cells #[.int .i64 0, .slice none 0 0] 81)).setRow wr.heap.size (ctC c).toArray = WC at *
      have hws : w.heap.size < wr.heap.size := hlt_ Hq0.out
      have hst : S.st < wr.heap.size := World.block_lt_of_cell? wr _ t0
      have y0 : WC.drew.cell? ⟨w.heap.size, 0, none⟩ = some (.pointer (some ⟨S.st, 0, none⟩)) := (HBC.out.cell (p := ⟨w.heap.size, 0, none⟩) hws).trans x0
      have y1 : WC.drew.cell? ⟨S.st, 0, none⟩ = some (.pointer (some ⟨S.g, 0, none⟩)) := (HBC.out.cell (p := ⟨S.st, 0, none⟩) hst).trans t0
      have y2 : WC.drew.cell? ⟨wr.heap.size, 0, none⟩ = some (.int .i64 c.kd) := by
        rw [show WC.drew.cell? ⟨wr.heap.size, 0, none⟩ = WC.cell? ⟨wr.heap.size, 0, none⟩ from rfl, cell_of_row _ _ _ _ _ _ HRC.out]; rfl
      have y3 : WC.drew.cell? ⟨wr.heap.size, 1, none⟩ = some (.slice c.sp c.n c.c) := by
        rw [show WC.drew.cell? ⟨wr.heap.size, 1, none⟩ = WC.cell? ⟨wr.heap.size, 1, none⟩ from rfl, cell_of_row _ _ _ _ _ _ HRC.out]; rfl
      have hcv := HS1.out.cv i (by rw [HN.out]; exact hlt)
      rw [HC.out] at hcv
      obtain ⟨⟨kd, zs⟩, hvi⟩ : ∃ v, S.vs.getD i (0, []) = v := ⟨_, rfl⟩
      rw [hvi] at hcv
      have HBD : Hid (Below wr.heap.size wr WC.drew) := hid HBC.out.drew
      have hcv2 := hcv.to (w1 := WC.drew) (fun k q => q) fun k q => (HBD.out.block k (Nat.lt_of_lt_of_le (HS1.out.in_lt (by simp [q])).2 HPI.out.fr.size)).trans (HO1.out.2.2.1 k q)
      obtain ⟨spx, capx, ex, hSx, hnx2⟩ := hcv2.ow.form
      obtain ⟨e1, e2, e3⟩ := Value.slice.inj ex
      subst e1
      subst e3
      have ekd : c.kd = kd := hcv2.kd
      have hA := Append_in WC.drew base F' S.p D' (HPI.out.da.below HBD.out) (Nat.le_trans HS1.out.base (Nat.le_trans HPI.out.fr.size HBD.out.size)) S.g S.s S.ep (m + i) (HPI.out.fk.below HBD.out) HPI.out.lv ⟨by omega, by have := HPI.out.np; have := HCL.out; have := HN.out; omega⟩ c.kd ((kindOk_iff _).2 (by rw [ekd]; exact hcv2.kk)) zs hcv2.by8 hcv2.le c.sp c.c hSx (by have := HPI.out.op; have := HCL.out; have := HN.out; omega) (by have := HPI.out.wc; have := HCL.out; have := HN.out; omega)
      rw [← show c.n = zs.length from e2] at hA
      have HAA := hid hA
      have HKF : Hid (∀ w6, Fr (S.g :: F') WC.drew w6 → w6.cell? ⟨w.heap.size, 0, none⟩ = some (.pointer (some ⟨S.st, 0, none⟩)) ∧ w6.cell? ⟨S.st, 0, none⟩ = some (.pointer (some ⟨S.g, 0, none⟩)) ∧ w6.cell? ⟨wr.heap.size, 0, none⟩ = some (.int .i64 c.kd) ∧ w6.cell? ⟨wr.heap.size, 1, none⟩ = some (.slice c.sp c.n c.c) ∧ w6.heap[w.heap.size + 1]? = some (.cells #[.int .i64 0] 62 (0, 0))) := hid (fun w6 hF => by
        have hF' : ∀ k ∈ S.g :: F', k < wr.heap.size ∧ (k < w.heap.size ∨ W.heap.size ≤ k) := fun k hk => by
          rcases List.mem_cons.1 hk with z | z
          · exact ⟨z ▸ hlt_ HPI.out.fk, Or.inl (HLW.out k (by simp [z]))⟩
          · exact ⟨(HPI.out.da.lt k z).2, (HPI.out.gr k z).imp (fun q => HLW.out k (by simp [q])) id⟩
        have hW0 := hlt_ HQ0.out
        have hW1 := hlt_ HQ1.out
        have n0 : w.heap.size ∉ S.g :: F' := fun q => by have := (hF' _ q).2; omega
        have n1 : w.heap.size + 1 ∉ S.g :: F' := fun q => by have := (hF' _ q).2; omega
        have n2 : wr.heap.size ∉ S.g :: F' := fun q => by have := (hF' _ q).1; omega
        have n3 : S.st ∉ S.g :: F' := fun q => by
          rcases List.mem_cons.1 q with z | z
          · exact HS1.out.st_apart.1 z
          · rcases HPI.out.gr _ z with y | y
            · exact HS1.out.st_apart.2.1 y
            · have := HS1.out.lt_st; omega
        have hWCs : wr.heap.size < WC.drew.heap.size := hlt_ HRC.out
        exact ⟨(World.cell?_of_block (a := ⟨w.heap.size, 0, none⟩) (hF.block _ (Nat.lt_trans hws hWCs) n0)).trans y0, (World.cell?_of_block (a := ⟨S.st, 0, none⟩) (hF.block _ (Nat.lt_trans hst hWCs) n3)).trans y1, (World.cell?_of_block (a := ⟨wr.heap.size, 0, none⟩) (hF.block _ hWCs n2)).trans y2, (World.cell?_of_block (a := ⟨wr.heap.size, 1, none⟩) (hF.block _ hWCs n2)).trans y3, (hF.block _ (by have := hlt_ Hq1.out; omega) n1).trans ((HBD.out.block _ (hlt_ Hq1.out)).trans Hq1.out)⟩)
      have HVI := hid hvi
      have HKD := hid ekd
      clear hA hcv hcv2 hSx hnx2 ex e2 hvi ekd x0 t0
      try simp only [Act.put]
      by_cases ha : D'.armed = 1
      · have HAR := hid ha
        have HAP : Hid (Calls Try.prog 72 #[.pointer (some ⟨S.g, 0, none⟩), .int .i64 c.kd, .slice c.sp c.n c.c] WC.drew fun e w' => e = .returned (.tuple #[.int .i64 0, .int .i64 2]) ∧ NxF base F' S.p S.g WC.drew (D'.wr ⟨m + i, pageP c.kd (m + i : Nat) zs⟩) S.s (m + i : Nat) S.ep w') := hid (HAA.out.mono fun e w' q => q.2 HAR.out)
        have HKP : Hid (∀ w6, NxF base F' S.p S.g WC.drew (D'.wr ⟨m + i, pageP c.kd (m + i : Nat) zs⟩) S.s (m + i : Nat) S.ep w6 → w6.cell? ⟨w.heap.size, 0, none⟩ = some (.pointer (some ⟨S.st, 0, none⟩)) ∧ w6.cell? ⟨S.st, 0, none⟩ = some (.pointer (some ⟨S.g, 0, none⟩)) ∧ w6.cell? ⟨wr.heap.size, 0, none⟩ = some (.int .i64 c.kd) ∧ w6.cell? ⟨wr.heap.size, 1, none⟩ = some (.slice c.sp c.n c.c)) := hid (fun w6 q => by obtain ⟨F2, _, _, f, _⟩ := q; obtain ⟨z1, z2, z3, z4, _⟩ := HKF.out w6 f; exact ⟨z1, z2, z3, z4⟩)
        clear ha HAA
        refine wp_region_noPanic ?_
        refine wp_region_held_drew (S := fun w' => w'.cell? ⟨w.heap.size, 0, none⟩ = some (.pointer (some ⟨S.st, 0, none⟩)) ∧ w'.cell? ⟨S.st, 0, none⟩ = some (.pointer (some ⟨S.g, 0, none⟩)) ∧ w'.cell? ⟨wr.heap.size, 0, none⟩ = some (.int .i64 c.kd) ∧ w'.cell? ⟨wr.heap.size, 1, none⟩ = some (.slice c.sp c.n c.c)) (by kernel_rfl) ⟨y0, y1, y2, y3⟩ (fun hHeld => ?_)
        refine wpAnyH_take (i := 0) (oi := { dst := some 20, op := Op.load 27 (Operand.tmp 2), type := 27, pos := "store.go:152", after := #[], guard := none }) (v := .pointer (some ⟨S.st, 0, none⟩)) rfl (by kernel_rfl) (by kernel_rfl) (by kernel_rfl) (fun _ _ _ h => h) (Or.inl ⟨by rfl, by intro w hS; have hc := hS.1; go_simp⟩) hHeld ?_
        try simp only [Act.put, List.setIfInBounds_toArray, List.set_cons_zero, List.set_cons_succ]
        refine wpAnyH_take (i := 4) (oi := { dst := some 24, op := Op.fieldAddr 81 (Operand.tmp 6) 0, type := 0, pos := "store.go:152", after := #[], guard := none }) (v := .pointer (some ⟨wr.heap.size, 0, none⟩)) rfl (by kernel_rfl) (by kernel_rfl) (by kernel_rfl) (fun _ _ _ h => h) (Or.inl ⟨by rfl, by intro w hS; go_simp⟩) hHeld ?_
        try simp only [Act.put, List.setIfInBounds_toArray, List.set_cons_zero, List.set_cons_succ]
        refine wpAnyH_take (i := 6) (oi := { dst := some 26, op := Op.fieldAddr 81 (Operand.tmp 6) 1, type := 0, pos := "store.go:152", after := #[], guard := none }) (v := .pointer (some ⟨wr.heap.size, 1, none⟩)) rfl (by kernel_rfl) (by kernel_rfl) (by kernel_rfl) (fun _ _ _ h => h) (Or.inl ⟨by rfl, by intro w hS; go_simp⟩) hHeld ?_
        try simp only [Act.put, List.setIfInBounds_toArray, List.set_cons_zero, List.set_cons_succ]
        refine wpAnyH_take (i := 1) (oi := { dst := some 21, op := Op.nilCheck (Operand.tmp 20), type := 0, pos := "store.go:152", after := #[{ on := 0, ground := Ground.data }], guard := none }) (v := .pointer (some ⟨S.st, 0, none⟩)) rfl (by kernel_rfl) (by kernel_rfl) (by kernel_rfl) (fun _ _ _ h => h) (Or.inl ⟨by rfl, by intro w hS; go_simp⟩) hHeld ?_
        try simp only [Act.put, List.setIfInBounds_toArray, List.set_cons_zero, List.set_cons_succ]
        refine wpAnyH_take (i := 5) (oi := { dst := some 25, op := Op.load 3 (Operand.tmp 24), type := 3, pos := "store.go:152", after := #[{ on := 4, ground := Ground.data }], guard := none }) (v := .int .i64 c.kd) rfl (by kernel_rfl) (by kernel_rfl) (by kernel_rfl) (fun _ _ _ h => h) (Or.inl ⟨by rfl, by intro w hS; have hc := hS.2.2.1; go_simp⟩) hHeld ?_
        try simp only [Act.put, List.setIfInBounds_toArray, List.set_cons_zero, List.set_cons_succ]
        refine wpAnyH_take (i := 7) (oi := { dst := some 27, op := Op.load 36 (Operand.tmp 26), type := 36, pos := "store.go:152", after := #[{ on := 6, ground := Ground.data }], guard := none }) (v := .slice c.sp c.n c.c) rfl (by kernel_rfl) (by kernel_rfl) (by kernel_rfl) (fun _ _ _ h => h) (Or.inl ⟨by rfl, by intro w hS; have hc := hS.2.2.2; go_simp⟩) hHeld ?_
        try simp only [Act.put, List.setIfInBounds_toArray, List.set_cons_zero, List.set_cons_succ]
        refine wpAnyH_take (i := 2) (oi := { dst := some 22, op := Op.fieldAddr 79 (Operand.tmp 21) 0, type := 0, pos := "store.go:152", after := #[{ on := 1, ground := Ground.data }], guard := none }) (v := .pointer (some ⟨S.st, 0, none⟩)) rfl (by kernel_rfl) (by kernel_rfl) (by kernel_rfl) (fun _ _ _ h => h) (Or.inl ⟨by rfl, by intro w hS; go_simp⟩) hHeld ?_
        try simp only [Act.put, List.setIfInBounds_toArray, List.set_cons_zero, List.set_cons_succ]
        refine wpAnyH_take (i := 3) (oi := { dst := some 23, op := Op.load 66 (Operand.tmp 22), type := 66, pos := "store.go:152", after := #[{ on := 2, ground := Ground.data }], guard := none }) (v := .pointer (some ⟨S.g, 0, none⟩)) rfl (by kernel_rfl) (by kernel_rfl) (by kernel_rfl) (fun _ _ _ h => h) (Or.inl ⟨by rfl, by intro w hS; have hc := hS.2.1; go_simp⟩) hHeld ?_
        try simp only [Act.put, List.setIfInBounds_toArray, List.set_cons_zero, List.set_cons_succ]
        refine wpAnyH_ready (rs := [8]) (by kernel_rfl) (by simp) ?_
        refine (AllReadyH.cons (o := { dst := some 28, op := Op.call { callee := Callee.value (Operand.func 72), args := #[Operand.tmp 23, Operand.tmp 25, Operand.tmp 27], argTypes := #[66, 3, 36] }, type := 71, pos := "store.go:152", after := #[{ on := 3, ground := Ground.data }, { on := 5, ground := Ground.data }, { on := 7, ground := Ground.data }], guard := none }) rfl (fun K hK => ?_) AllReadyH.nil)
        go_simp
        go_at_call 72
        refine (HAP.out).mono ?_
        rintro e w6 ⟨rfl, hX6⟩
        go_wp2_with fail
        refine hK.out _ _ (HKP.out w6 hX6) (fun hHeld2 => ?_)
        clear hK K hHeld
        have hHeld := hHeld2
        clear hHeld2
        try simp only [Act.put, List.setIfInBounds_toArray, List.set_cons_zero, List.set_cons_succ]
        refine wpAnyH_take (i := 9) (oi := { dst := some 19, op := Op.move (Operand.tmp 28), type := 71, pos := "store.go:152", after := #[{ on := 8, ground := Ground.data }], guard := none }) (v := .tuple #[.int .i64 0, .int .i64 2]) rfl (by kernel_rfl) (by kernel_rfl) (by kernel_rfl) (fun _ _ _ h => h) (Or.inl ⟨by rfl, by intro w hS; go_simp⟩) hHeld ?_
        try simp only [Act.put, List.setIfInBounds_toArray, List.set_cons_zero, List.set_cons_succ]
        refine wpAnyH_take (i := 10) (oi := { dst := some 29, op := Op.extract (Operand.tmp 19) 0, type := 3, pos := "store.go:152", after := #[{ on := 9, ground := Ground.data }], guard := none }) (v := .int .i64 0) rfl (by kernel_rfl) (by kernel_rfl) (by kernel_rfl) (fun _ _ _ h => h) (Or.inl ⟨by rfl, by intro w hS; go_simp⟩) hHeld ?_
        try simp only [Act.put, List.setIfInBounds_toArray, List.set_cons_zero, List.set_cons_succ]
        refine wpAnyH_take (i := 11) (oi := { dst := some 30, op := Op.extract (Operand.tmp 19) 1, type := 62, pos := "store.go:152", after := #[{ on := 9, ground := Ground.data }, { on := 12, ground := Ground.gcOnly Departure.lateStores }], guard := none }) (v := .int .i64 2) rfl (by kernel_rfl) (by kernel_rfl) (by kernel_rfl) (fun _ _ _ h => h) (Or.inl ⟨by rfl, by intro w hS; go_simp⟩) hHeld ?_
        try simp only [Act.put, List.setIfInBounds_toArray, List.set_cons_zero, List.set_cons_succ]
        refine wpAnyH_take (i := 12) (oi := { dst := some 7, op := Op.assign (Operand.tmp 29), type := 3, pos := "store.go:152", after := #[{ on := 10, ground := Ground.data }, { on := 8, ground := Ground.chain }, { on := 0, ground := Ground.phase }, { on := 1, ground := Ground.phase }, { on := 2, ground := Ground.phase }, { on := 3, ground := Ground.phase }, { on := 4, ground := Ground.phase }, { on := 5, ground := Ground.phase }, { on := 6, ground := Ground.phase }, { on := 7, ground := Ground.phase }, { on := 8, ground := Ground.phase }, { on := 9, ground := Ground.phase }, { on := 10, ground := Ground.phase }, { on := 11, ground := Ground.textOnly Departure.lateStores }], guard := none }) (v := .int .i64 0) rfl (by kernel_rfl) (by kernel_rfl) (by kernel_rfl) (fun _ _ _ h => h) (Or.inl ⟨by rfl, by intro w hS; go_simp⟩) hHeld ?_
        try simp only [Act.put, List.setIfInBounds_toArray, List.set_cons_zero, List.set_cons_succ]
        refine wpAnyH_take (i := 13) (oi := { dst := some 8, op := Op.assign (Operand.tmp 30), type := 62, pos := "store.go:152", after := #[{ on := 11, ground := Ground.data }, { on := 12, ground := Ground.chain }, { on := 0, ground := Ground.phase }, { on := 1, ground := Ground.phase }, { on := 2, ground := Ground.phase }, { on := 3, ground := Ground.phase }, { on := 4, ground := Ground.phase }, { on := 5, ground := Ground.phase }, { on := 6, ground := Ground.phase }, { on := 7, ground := Ground.phase }, { on := 8, ground := Ground.phase }, { on := 9, ground := Ground.phase }, { on := 10, ground := Ground.phase }, { on := 11, ground := Ground.phase }, { on := 12, ground := Ground.phase }], guard := none }) (v := .int .i64 2) rfl (by kernel_rfl) (by kernel_rfl) (by kernel_rfl) (fun _ _ _ h => h) (Or.inl ⟨by rfl, by intro w hS; go_simp⟩) hHeld ?_
        try simp only [Act.put, List.setIfInBounds_toArray, List.set_cons_zero, List.set_cons_succ]
        refine wpAnyH_done (by kernel_rfl) ?_ _
        refine NoPanic.normal ?_
        clear hHeld
        obtain ⟨F2, hD6, hf6, hr6, hg6⟩ := hX6
        obtain ⟨z0, z1, _, _, z5⟩ := HKF.out w6 hr6
        have e5 := cell_of_one z5
        have f5 : w6.frozen? ⟨w.heap.size + 1, 0, none⟩ = false := frozen_of_row _ _ _ _ _ z5
        have HZ0 := hid z0
        have HZ1 := hid z1
        have HZ5 := hid z5
        have HD6 := hid hD6
        have Hf6 := hid hf6
        have Hr6 := hid hr6
        have Hg6 := hid hg6
        clear hD6 hf6 hr6 hg6 z0 z1 z5 HKP HAP
        go_wp2
        have hrE : (w6.setCell ⟨w.heap.size + 1, 0, none⟩ (.int .i64 2)).heap[w.heap.size + 1]? = some (.cells #[.int .i64 2] 62 (0, 0)) := by rw [heap_setCell_same _ _ _ _ _ _ HZ5.out]; rfl
        have hoth : ∀ k, k ≠ w.heap.size + 1 → (w6.setCell ⟨w.heap.size + 1, 0, none⟩ (.int .i64 2)).heap[k]? = w6.heap[k]? := fun k hk => heap_setCell_other _ ⟨w.heap.size + 1, 0, none⟩ k _ hk
        have hE7 := cell_of_one hrE
        have hQ7 : (w6.setCell ⟨w.heap.size + 1, 0, none⟩ (.int .i64 2)).cell? ⟨w.heap.size, 0, none⟩ = some (.pointer (some ⟨S.st, 0, none⟩)) := (World.cell?_of_block (a := ⟨w.heap.size, 0, none⟩) (hoth w.heap.size (by omega))).trans HZ0.out
        have hst7 : (w6.setCell ⟨w.heap.size + 1, 0, none⟩ (.int .i64 2)).cell? ⟨S.st, 0, none⟩ = some (.pointer (some ⟨S.g, 0, none⟩)) := (World.cell?_of_block (a := ⟨S.st, 0, none⟩) (hoth S.st (by have := HLW.out S.st (by simp); omega))).trans HZ1.out
        refine leaves_cons (f := 71) (args := #[.pointer (some ⟨w.heap.size + 1, 0, none⟩), .pointer (some ⟨w.heap.size, 0, none⟩)]) (by simp) (by simp [go_sem]) ?_
        refine (publish1_bad _ base F2 S.p _ (HD6.out.setCellN ?_ 0 _) S.g S.s (m + i : Nat) S.ep ((hoth _ ?_).trans Hf6.out) (w.heap.size + 1) w.heap.size S.st .returning 2 (by decide) hE7 hQ7 hst7).mono ?_
        · exact HD6.out.not_in HZ5.out (by decide) (by decide) (by decide)
        · have := HLW.out S.g (by simp); omega
        rintro e u' w8 ⟨rfl, rfl, hD8, hK8, hR8⟩
        have hE6 : w.heap.size + 1 ∉ S.g :: F2 := fun q => by
          rcases List.mem_cons.1 q with z | z
          · have := HLW.out S.g (by simp); omega
          · exact HD6.out.not_in HZ5.out (by decide) (by decide) (by decide) z
        have hE8 : w8.cell? ⟨w.heap.size + 1, 0, none⟩ = some (.int .i64 2) := (World.cell?_of_block (a := ⟨w.heap.size + 1, 0, none⟩) (hR8.block (w.heap.size + 1) (hlt_ hrE) hE6)).trans hE7
        have hW := HB.out
        have hf1 : Fr (S.g :: S.F) w WC.drew := ((Fr.of_below (F := S.g :: S.F) hW).trans HPI.out.fr (Gr.refl _ _)).tail (F' := []) (HBD.out)
        have hgF' : Gr w (S.g :: S.F) (S.g :: F') := fun k hk => by
          rcases List.mem_cons.1 hk with z | z
          · exact Or.inl (z ▸ List.mem_cons_self ..)
          · exact (HPI.out.gr k z).imp (fun q => List.mem_cons_of_mem _ q) (fun q => Nat.le_trans hW.size q)
        have hf2 := hf1.trans Hr6.out hgF'
        have hgF2 : Gr w S.F F2 := fun k hk => by
          rcases Hg6.out k hk with z | z
          · exact (HPI.out.gr k z).imp id (fun q => Nat.le_trans hW.size q)
          · exact Or.inr (Nat.le_trans hf1.size z)
        have hf3 : Fr (S.g :: S.F) w (w6.setCell ⟨w.heap.size + 1, 0, none⟩ (.int .i64 2)) := ⟨hf2.os, hf2.tape, hf2.output, by rw [World.size_setCell]; exact hf2.size, fun k hk hn => (hoth k (by omega)).trans (hf2.block k hk hn)⟩
        have hl : (S.vs.take i).length = i := by rw [List.length_take]; have := HCL.out; have := HN.out; omega
        have hiv : i < S.vs.length := by have := HCL.out; have := HN.out; omega
        refine ⟨.int .i64 2, ?_, 2, _, S.s, F2, rfl, Or.inl ⟨i, hiv, by rw [← HPI.out.eq]; exact HAR.out, by rw [← HPI.out.eq]; exact HPI.out.lv, rfl, ?_, rfl⟩, hD8, hK8, hf3.trans hR8 ?_, hgF2⟩
        · simp [results, Try.results52, go_sem, hE8]
        · rw [take_snocV _ _ hiv, appD_snoc, HVI.out, hl, ← HPI.out.eq, HKD.out]
        · intro k hk
          rcases List.mem_cons.1 hk with z | z
          · exact Or.inl (z ▸ List.mem_cons_self ..)
          · exact (hgF2 k z).imp (fun q => List.mem_cons_of_mem _ q) id
      · have HAR := hid ha
        have HAP : Hid (Calls Try.prog 72 #[.pointer (some ⟨S.g, 0, none⟩), .int .i64 c.kd, .slice c.sp c.n c.c] WC.drew fun e w' => e = .returned (.tuple #[.int .i64 (m + i : Nat), .int .i64 0]) ∧ NxF base F' S.p S.g WC.drew (D'.wr ⟨m + i, pageP c.kd (m + i : Nat) zs⟩) S.s (m + i + 1 : Nat) S.ep w') := hid (HAA.out.mono fun e w' q => q.1 HAR.out)
        have HKP : Hid (∀ w6, NxF base F' S.p S.g WC.drew (D'.wr ⟨m + i, pageP c.kd (m + i : Nat) zs⟩) S.s (m + i + 1 : Nat) S.ep w6 → w6.cell? ⟨w.heap.size, 0, none⟩ = some (.pointer (some ⟨S.st, 0, none⟩)) ∧ w6.cell? ⟨S.st, 0, none⟩ = some (.pointer (some ⟨S.g, 0, none⟩)) ∧ w6.cell? ⟨wr.heap.size, 0, none⟩ = some (.int .i64 c.kd) ∧ w6.cell? ⟨wr.heap.size, 1, none⟩ = some (.slice c.sp c.n c.c)) := hid (fun w6 q => by obtain ⟨F2, _, _, f, _⟩ := q; obtain ⟨z1, z2, z3, z4, _⟩ := HKF.out w6 f; exact ⟨z1, z2, z3, z4⟩)
        have HRL : Hid (∀ w6, NxF base F' S.p S.g WC.drew (D'.wr ⟨m + i, pageP c.kd (m + i : Nat) zs⟩) S.s (m + i + 1 : Nat) S.ep w6 → ∃ (j : Nat) (D2 : DS) (F2 : List Nat), Value.int .i64 ((i : Int) + 1) = .int .i64 j ∧ j ≤ n ∧ PubI W base S m j D2 F2 w6) := hid (fun w6 q => by
          obtain ⟨F2, q1, q2, q3, q4⟩ := q
          rw [HKD.out] at q1
          refine ⟨i + 1, _, F2, by push_cast; rfl, by omega, HPI.out.step HS1.out (by have := HCL.out; have := HN.out; omega) HAR.out HPI.out.da.ok.armed.1 kd zs HVI.out q1 q2 ((Fr.of_below (F := S.g :: F') HBD.out).trans q3 (Gr.refl _ _)) (fun k hk => (q4 k hk).imp id (fun z => Nat.le_trans HBD.out.size z))⟩)
        clear ha HAA
        refine wp_region_noPanic ?_
        refine wp_region_held_drew (S := fun w' => w'.cell? ⟨w.heap.size, 0, none⟩ = some (.pointer (some ⟨S.st, 0, none⟩)) ∧ w'.cell? ⟨S.st, 0, none⟩ = some (.pointer (some ⟨S.g, 0, none⟩)) ∧ w'.cell? ⟨wr.heap.size, 0, none⟩ = some (.int .i64 c.kd) ∧ w'.cell? ⟨wr.heap.size, 1, none⟩ = some (.slice c.sp c.n c.c)) (by kernel_rfl) ⟨y0, y1, y2, y3⟩ (fun hHeld => ?_)
        refine wpAnyH_take (i := 0) (oi := { dst := some 20, op := Op.load 27 (Operand.tmp 2), type := 27, pos := "store.go:152", after := #[], guard := none }) (v := .pointer (some ⟨S.st, 0, none⟩)) rfl (by kernel_rfl) (by kernel_rfl) (by kernel_rfl) (fun _ _ _ h => h) (Or.inl ⟨by rfl, by intro w hS; have hc := hS.1; go_simp⟩) hHeld ?_
        try simp only [Act.put, List.setIfInBounds_toArray, List.set_cons_zero, List.set_cons_succ]
        refine wpAnyH_take (i := 4) (oi := { dst := some 24, op := Op.fieldAddr 81 (Operand.tmp 6) 0, type := 0, pos := "store.go:152", after := #[], guard := none }) (v := .pointer (some ⟨wr.heap.size, 0, none⟩)) rfl (by kernel_rfl) (by kernel_rfl) (by kernel_rfl) (fun _ _ _ h => h) (Or.inl ⟨by rfl, by intro w hS; go_simp⟩) hHeld ?_
        try simp only [Act.put, List.setIfInBounds_toArray, List.set_cons_zero, List.set_cons_succ]
        refine wpAnyH_take (i := 6) (oi := { dst := some 26, op := Op.fieldAddr 81 (Operand.tmp 6) 1, type := 0, pos := "store.go:152", after := #[], guard := none }) (v := .pointer (some ⟨wr.heap.size, 1, none⟩)) rfl (by kernel_rfl) (by kernel_rfl) (by kernel_rfl) (fun _ _ _ h => h) (Or.inl ⟨by rfl, by intro w hS; go_simp⟩) hHeld ?_
        try simp only [Act.put, List.setIfInBounds_toArray, List.set_cons_zero, List.set_cons_succ]
        refine wpAnyH_take (i := 1) (oi := { dst := some 21, op := Op.nilCheck (Operand.tmp 20), type := 0, pos := "store.go:152", after := #[{ on := 0, ground := Ground.data }], guard := none }) (v := .pointer (some ⟨S.st, 0, none⟩)) rfl (by kernel_rfl) (by kernel_rfl) (by kernel_rfl) (fun _ _ _ h => h) (Or.inl ⟨by rfl, by intro w hS; go_simp⟩) hHeld ?_
        try simp only [Act.put, List.setIfInBounds_toArray, List.set_cons_zero, List.set_cons_succ]
        refine wpAnyH_take (i := 5) (oi := { dst := some 25, op := Op.load 3 (Operand.tmp 24), type := 3, pos := "store.go:152", after := #[{ on := 4, ground := Ground.data }], guard := none }) (v := .int .i64 c.kd) rfl (by kernel_rfl) (by kernel_rfl) (by kernel_rfl) (fun _ _ _ h => h) (Or.inl ⟨by rfl, by intro w hS; have hc := hS.2.2.1; go_simp⟩) hHeld ?_
        try simp only [Act.put, List.setIfInBounds_toArray, List.set_cons_zero, List.set_cons_succ]
        refine wpAnyH_take (i := 7) (oi := { dst := some 27, op := Op.load 36 (Operand.tmp 26), type := 36, pos := "store.go:152", after := #[{ on := 6, ground := Ground.data }], guard := none }) (v := .slice c.sp c.n c.c) rfl (by kernel_rfl) (by kernel_rfl) (by kernel_rfl) (fun _ _ _ h => h) (Or.inl ⟨by rfl, by intro w hS; have hc := hS.2.2.2; go_simp⟩) hHeld ?_
        try simp only [Act.put, List.setIfInBounds_toArray, List.set_cons_zero, List.set_cons_succ]
        refine wpAnyH_take (i := 2) (oi := { dst := some 22, op := Op.fieldAddr 79 (Operand.tmp 21) 0, type := 0, pos := "store.go:152", after := #[{ on := 1, ground := Ground.data }], guard := none }) (v := .pointer (some ⟨S.st, 0, none⟩)) rfl (by kernel_rfl) (by kernel_rfl) (by kernel_rfl) (fun _ _ _ h => h) (Or.inl ⟨by rfl, by intro w hS; go_simp⟩) hHeld ?_
        try simp only [Act.put, List.setIfInBounds_toArray, List.set_cons_zero, List.set_cons_succ]
        refine wpAnyH_take (i := 3) (oi := { dst := some 23, op := Op.load 66 (Operand.tmp 22), type := 66, pos := "store.go:152", after := #[{ on := 2, ground := Ground.data }], guard := none }) (v := .pointer (some ⟨S.g, 0, none⟩)) rfl (by kernel_rfl) (by kernel_rfl) (by kernel_rfl) (fun _ _ _ h => h) (Or.inl ⟨by rfl, by intro w hS; have hc := hS.2.1; go_simp⟩) hHeld ?_
        try simp only [Act.put, List.setIfInBounds_toArray, List.set_cons_zero, List.set_cons_succ]
        refine wpAnyH_ready (rs := [8]) (by kernel_rfl) (by simp) ?_
        refine (AllReadyH.cons (o := { dst := some 28, op := Op.call { callee := Callee.value (Operand.func 72), args := #[Operand.tmp 23, Operand.tmp 25, Operand.tmp 27], argTypes := #[66, 3, 36] }, type := 71, pos := "store.go:152", after := #[{ on := 3, ground := Ground.data }, { on := 5, ground := Ground.data }, { on := 7, ground := Ground.data }], guard := none }) rfl (fun K hK => ?_) AllReadyH.nil)
        go_simp
        go_at_call 72
        refine (HAP.out).mono ?_
        rintro e w6 ⟨rfl, hX6⟩
        go_wp2_with fail
        refine hK.out _ _ (HKP.out w6 hX6) (fun hHeld2 => ?_)
        clear hK K hHeld
        have hHeld := hHeld2
        clear hHeld2
        try simp only [Act.put, List.setIfInBounds_toArray, List.set_cons_zero, List.set_cons_succ]
        refine wpAnyH_take (i := 9) (oi := { dst := some 19, op := Op.move (Operand.tmp 28), type := 71, pos := "store.go:152", after := #[{ on := 8, ground := Ground.data }], guard := none }) (v := .tuple #[.int .i64 (m + i : Nat), .int .i64 0]) rfl (by kernel_rfl) (by kernel_rfl) (by kernel_rfl) (fun _ _ _ h => h) (Or.inl ⟨by rfl, by intro w hS; go_simp⟩) hHeld ?_
        try simp only [Act.put, List.setIfInBounds_toArray, List.set_cons_zero, List.set_cons_succ]
        refine wpAnyH_take (i := 10) (oi := { dst := some 29, op := Op.extract (Operand.tmp 19) 0, type := 3, pos := "store.go:152", after := #[{ on := 9, ground := Ground.data }], guard := none }) (v := .int .i64 (m + i : Nat)) rfl (by kernel_rfl) (by kernel_rfl) (by kernel_rfl) (fun _ _ _ h => h) (Or.inl ⟨by rfl, by intro w hS; go_simp⟩) hHeld ?_
        try simp only [Act.put, List.setIfInBounds_toArray, List.set_cons_zero, List.set_cons_succ]
        refine wpAnyH_take (i := 11) (oi := { dst := some 30, op := Op.extract (Operand.tmp 19) 1, type := 62, pos := "store.go:152", after := #[{ on := 9, ground := Ground.data }, { on := 12, ground := Ground.gcOnly Departure.lateStores }], guard := none }) (v := .int .i64 0) rfl (by kernel_rfl) (by kernel_rfl) (by kernel_rfl) (fun _ _ _ h => h) (Or.inl ⟨by rfl, by intro w hS; go_simp⟩) hHeld ?_
        try simp only [Act.put, List.setIfInBounds_toArray, List.set_cons_zero, List.set_cons_succ]
        refine wpAnyH_take (i := 12) (oi := { dst := some 7, op := Op.assign (Operand.tmp 29), type := 3, pos := "store.go:152", after := #[{ on := 10, ground := Ground.data }, { on := 8, ground := Ground.chain }, { on := 0, ground := Ground.phase }, { on := 1, ground := Ground.phase }, { on := 2, ground := Ground.phase }, { on := 3, ground := Ground.phase }, { on := 4, ground := Ground.phase }, { on := 5, ground := Ground.phase }, { on := 6, ground := Ground.phase }, { on := 7, ground := Ground.phase }, { on := 8, ground := Ground.phase }, { on := 9, ground := Ground.phase }, { on := 10, ground := Ground.phase }, { on := 11, ground := Ground.textOnly Departure.lateStores }], guard := none }) (v := .int .i64 (m + i : Nat)) rfl (by kernel_rfl) (by kernel_rfl) (by kernel_rfl) (fun _ _ _ h => h) (Or.inl ⟨by rfl, by intro w hS; go_simp⟩) hHeld ?_
        try simp only [Act.put, List.setIfInBounds_toArray, List.set_cons_zero, List.set_cons_succ]
        refine wpAnyH_take (i := 13) (oi := { dst := some 8, op := Op.assign (Operand.tmp 30), type := 62, pos := "store.go:152", after := #[{ on := 11, ground := Ground.data }, { on := 12, ground := Ground.chain }, { on := 0, ground := Ground.phase }, { on := 1, ground := Ground.phase }, { on := 2, ground := Ground.phase }, { on := 3, ground := Ground.phase }, { on := 4, ground := Ground.phase }, { on := 5, ground := Ground.phase }, { on := 6, ground := Ground.phase }, { on := 7, ground := Ground.phase }, { on := 8, ground := Ground.phase }, { on := 9, ground := Ground.phase }, { on := 10, ground := Ground.phase }, { on := 11, ground := Ground.phase }, { on := 12, ground := Ground.phase }], guard := none }) (v := .int .i64 0) rfl (by kernel_rfl) (by kernel_rfl) (by kernel_rfl) (fun _ _ _ h => h) (Or.inl ⟨by rfl, by intro w hS; go_simp⟩) hHeld ?_
        try simp only [Act.put, List.setIfInBounds_toArray, List.set_cons_zero, List.set_cons_succ]
        refine wpAnyH_done (by kernel_rfl) ?_ _
        refine NoPanic.normal ?_
        have HX6 := hid hX6
        clear hX6 hHeld HKP HAP
        go_wp2
        go_roundw
        case rel => exact HRL.out w6 HX6.out
        case measure => simp [intOf]; omega
    · have hin' : i = n := by omega
      subst hin'
      have hnv : S.vs.length = i := by have := HCL.out; have := HN.out; omega
      have htk : S.vs.take i = S.vs := List.take_of_length_le (by omega)
      have hDe : D' = appD S.D m S.vs := by rw [← htk]; exact HPI.out.eq
      have hge2 := hge
      have HPU := hid (Publish_in wr base F' S.p D' HPI.out.da (Nat.le_trans HS1.out.base HPI.out.fr.size) S.g S.s (m + i : Nat) S.ep HPI.out.fk HPI.out.lv hd (by rw [← hnv]; exact hh) hge ⟨S.s.wd, S.s.ge + 1, (m + i : Nat), hd, S.s.pg⟩ rfl (by rw [← hnv]; exact hval) (by rw [hDe]; exact hbud (by rw [← hDe]; exact HPI.out.lv)))
      have HDE := hid hDe
      have HNV := hid hnv
      clear hDe hnv htk hge2 hlt
      generalize hrs : runS D' [.sync, .lay ⟨S.s.wd, S.s.ge + 1, (m + i : Nat), hd, S.s.pg⟩ 0 0, .sync] = rs at *
      have HRS := hid hrs
      clear hrs
      obtain ⟨D2, c2⟩ := rs
      go_wp2_with fail
      refine HPU.out.mono ?_
      rintro e w6 ⟨rfl, F2, hD6, hf6, hr6, hg6⟩
      have hF' : ∀ k ∈ S.g :: F', k < wr.heap.size ∧ (k < w.heap.size ∨ W.heap.size ≤ k) := fun k hk => by
        rcases List.mem_cons.1 hk with z | z
        · exact ⟨z ▸ hlt_ HPI.out.fk, Or.inl (HLW.out k (by simp [z]))⟩
        · exact ⟨(HPI.out.da.lt k z).2, (HPI.out.gr k z).imp (fun q => HLW.out k (by simp [q])) id⟩
      have hW0 := hlt_ HQ0.out
      have hW1 := hlt_ HQ1.out
      have hr0 := hlt_ Hq0.out
      have hr1 := hlt_ Hq1.out
      have n0 : w.heap.size ∉ S.g :: F' := fun q => by have := (hF' _ q).2; omega
      have n1 : w.heap.size + 1 ∉ S.g :: F' := fun q => by have := (hF' _ q).2; omega
      have n3 : S.st ∉ S.g :: F' := fun q => by
        rcases List.mem_cons.1 q with z | z
        · exact HS1.out.st_apart.1 z
        · rcases HPI.out.gr _ z with y | y
          · exact HS1.out.st_apart.2.1 y
          · have := HS1.out.lt_st; omega
      have hst : S.st < wr.heap.size := World.block_lt_of_cell? wr _ t0
      have z0 : w6.cell? ⟨w.heap.size, 0, none⟩ = some (.pointer (some ⟨S.st, 0, none⟩)) := (World.cell?_of_block (a := ⟨w.heap.size, 0, none⟩) (hr6.block w.heap.size hr0 n0)).trans x0
      have z1 : w6.cell? ⟨S.st, 0, none⟩ = some (.pointer (some ⟨S.g, 0, none⟩)) := (World.cell?_of_block (a := ⟨S.st, 0, none⟩) (hr6.block S.st hst n3)).trans t0
      have z5 : w6.heap[w.heap.size + 1]? = some (.cells #[.int .i64 0] 62 (0, 0)) := (hr6.block (w.heap.size + 1) hr1 n1).trans Hq1.out
      have e5 := cell_of_one z5
      have f5 : w6.frozen? ⟨w.heap.size + 1, 0, none⟩ = false := frozen_of_row _ _ _ _ _ z5
      have HZ0 := hid z0
      have HZ1 := hid z1
      have HZ5 := hid z5
      have HD6 := hid hD6
      have Hf6 := hid hf6
      have Hr6 := hid hr6
      have Hg6 := hid hg6
      clear hD6 hf6 hr6 hg6 z0 z1 z5 HPU hF' n0 n1 n3 hW0 hW1 hr0 hr1 hst x0 t0
      go_wp2
      have hrE : (w6.setCell ⟨w.heap.size + 1, 0, none⟩ (.int .i64 c2)).heap[w.heap.size + 1]? = some (.cells #[.int .i64 c2] 62 (0, 0)) := by rw [heap_setCell_same _ _ _ _ _ _ HZ5.out]; rfl
      have hoth : ∀ k, k ≠ w.heap.size + 1 → (w6.setCell ⟨w.heap.size + 1, 0, none⟩ (.int .i64 c2)).heap[k]? = w6.heap[k]? := fun k hk => heap_setCell_other _ ⟨w.heap.size + 1, 0, none⟩ k _ hk
      have hE7 := cell_of_one hrE
      have hQ7 : (w6.setCell ⟨w.heap.size + 1, 0, none⟩ (.int .i64 c2)).cell? ⟨w.heap.size, 0, none⟩ = some (.pointer (some ⟨S.st, 0, none⟩)) := (World.cell?_of_block (a := ⟨w.heap.size, 0, none⟩) (hoth w.heap.size (by omega))).trans HZ0.out
      have hst7 : (w6.setCell ⟨w.heap.size + 1, 0, none⟩ (.int .i64 c2)).cell? ⟨S.st, 0, none⟩ = some (.pointer (some ⟨S.g, 0, none⟩)) := (World.cell?_of_block (a := ⟨S.st, 0, none⟩) (hoth S.st (by have := HLW.out S.st (by simp); omega))).trans HZ1.out
      have hE6 : w.heap.size + 1 ∉ S.g :: F2 := fun q => by
        rcases List.mem_cons.1 q with z | z
        · have := HLW.out S.g (by simp); omega
        · exact HD6.out.not_in HZ5.out (by decide) (by decide) (by decide) z
      have hW := HB.out
      have hf1 : Fr (S.g :: S.F) w wr := (Fr.of_below (F := S.g :: S.F) hW).trans HPI.out.fr (Gr.refl _ _)
      have hgF' : Gr w (S.g :: S.F) (S.g :: F') := fun k hk => by
        rcases List.mem_cons.1 hk with z | z
        · exact Or.inl (z ▸ List.mem_cons_self ..)
        · exact (HPI.out.gr k z).imp (fun q => List.mem_cons_of_mem _ q) (fun q => Nat.le_trans hW.size q)
      have hf2 := hf1.trans Hr6.out hgF'
      have hgF2 : Gr w S.F F2 := fun k hk => by
        rcases Hg6.out k hk with z | z
        · exact (HPI.out.gr k z).imp id (fun q => Nat.le_trans hW.size q)
        · exact Or.inr (Nat.le_trans hf1.size z)
      have hgF3 : Gr w (S.g :: S.F) (S.g :: F2) := fun k hk => by
        rcases List.mem_cons.1 hk with z | z
        · exact Or.inl (z ▸ List.mem_cons_self ..)
        · exact (hgF2 k z).imp (fun q => List.mem_cons_of_mem _ q) id
      have hf3 : Fr (S.g :: S.F) w (w6.setCell ⟨w.heap.size + 1, 0, none⟩ (.int .i64 c2)) := ⟨hf2.os, hf2.tape, hf2.output, by rw [World.size_setCell]; exact hf2.size, fun k hk hn => (hoth k (by omega)).trans (hf2.block k hk hn)⟩
      have hD7 := HD6.out.setCellN (fun q => hE6 (List.mem_cons_of_mem _ q)) 0 (.int .i64 c2)
      have hrs2 : runS (appD S.D m S.vs) [.sync, .lay ⟨S.s.wd, S.s.ge + 1, (m + S.vs.length : Nat), hd, S.s.pg⟩ 0 0, .sync] = (D2, c2) := by rw [← HDE.out, HNV.out]; exact HRS.out
      have hlv2 : liveF (appD S.D m S.vs) S.ep = 0 := by rw [← HDE.out]; exact HPI.out.lv
      refine leaves_cons (f := 71) (args := #[.pointer (some ⟨w.heap.size + 1, 0, none⟩), .pointer (some ⟨w.heap.size, 0, none⟩)]) (by simp) (by simp [go_sem]) ?_
      by_cases hc2 : c2 = 0
      · subst hc2
        refine (publish1_ok _ (w.heap.size + 1) w.heap.size .returning hE7).mono ?_
        rintro e u' w8 ⟨rfl, rfl, rfl⟩
        refine ⟨.int .i64 0, ?_, 0, D2, ⟨S.s.wd, S.s.ge + 1, (m + S.vs.length : Nat), hd, S.s.pg⟩, F2, rfl, Or.inr ⟨hlv2, by rw [hrs2], by rw [hrs2], by rw [if_pos rfl]⟩, hD7, ?_, hf3, hgF2⟩
        · simp [results, Try.results52, go_sem, hE7]
        · have := Hf6.out
          rw [if_pos rfl] at this
          rw [HNV.out]
          exact (hoth S.g (by have := HLW.out S.g (by simp); omega)).trans this
      · have hf6' := Hf6.out
        rw [if_neg hc2] at hf6'
        refine (publish1_bad _ base F2 S.p D2 hD7 S.g S.s (m + i : Nat) S.ep ((hoth S.g (by have := HLW.out S.g (by simp); omega)).trans hf6') (w.heap.size + 1) w.heap.size S.st .returning c2 hc2 hE7 hQ7 hst7).mono ?_
        rintro e u' w8 ⟨rfl, rfl, hD8, hK8, hR8⟩
        have hE8 : w8.cell? ⟨w.heap.size + 1, 0, none⟩ = some (.int .i64 c2) := (World.cell?_of_block (a := ⟨w.heap.size + 1, 0, none⟩) (hR8.block (w.heap.size + 1) (hlt_ hrE) hE6)).trans hE7
        refine ⟨.int .i64 c2, ?_, c2, D2, S.s, F2, rfl, Or.inr ⟨hlv2, by rw [hrs2], by rw [hrs2], by rw [if_neg hc2]⟩, hD8, hK8, hf3.trans hR8 hgF3, hgF2⟩
        simp [results, Try.results52, go_sem, hE8]
end Go.Proofs.Ytihkjfbhmlfonaa
namespace Go.Proofs.Ytihkjfbhmlfonaa
set_option linter.unusedVariables false
set_option linter.unusedSimpArgs false
open Go.RowKit
open Go.Proofs.Ytihkjfbhmlfonaa.Ca (Ct ct0 ctC argV AS)
attribute [local go_sem ↓] Go.wp_at_zero Go.wp_at_succ

/-- The disk has changed beneath, nothing was published. -/
theorem SK.disked {w w' : World} {base : Nat} {S : Sto} (h : SK w base S) {F' : List Nat} {D' : DS} (hD : DA w' base F' S.p D') (m : Nat) (hm : S.s.ma = m) (hf : FK w' S.g S.p S.s S.s.ma S.ep) (fr : Fr (S.g :: S.F) w w') (gr : Gr w S.F F') (hck : ∀ x ∈ S.a.clean, D'.readOf x.1.toNat = S.D.readOf x.1.toNat) :
    SK w' base { S with F := F', D := D', nx := m } := by
  obtain ⟨o1, o2, o3, o4⟩ := h.off fr
  have hold2 : ∀ k, (k = S.g ∨ k = S.st ∨ k ∈ S.F ∨ k ∈ S.FC ∨ S.sv.ownBlock = some k ∨ k ∈ S.lb) → base ≤ k ∧ k < w.heap.size := fun k q => h.in_lt q
  refine ⟨hD, ?_, ?_, o1.trans h.sk, ownsRow_heap h.so o2, fun k q => ⟨(h.lb k q).1, ?_⟩, h.cl, fun j hj => (h.cv j hj).to (fun k q => q) o3, fun x hx => ?_, h.hd, fun k hk q => ?_, fun k hk q => ?_, h.a3, h.bg, h.bs, h.bp⟩
  · show FK w' S.g S.p S.s (m : Int) S.ep
    rw [← hm]; exact hf
  · obtain ⟨mm, n, s, L, e, c, r⟩ := h.ca
    exact ⟨mm, n, s, L, e, c.of_heap fun k hk => o4 k (by rw [e]; exact hk), r⟩
  · obtain ⟨cs, hc⟩ := (h.lb k q).2
    exact ⟨cs, (o3 k q).trans hc⟩
  · obtain ⟨v, h1, h2, h3, h4⟩ := h.ck x hx
    exact ⟨v, h1.to (fun k q => q) o3, h2, h3, by show unpackF x.1 (D'.readOf x.1.toNat) = _; rw [hck x hx]; exact h4⟩
  · rcases gr k hk with z | z
    · exact h.a1 k z q
    · have := (hold2 k (by simp [q])).2; omega
  · rcases gr k hk with z | z
    · exact h.a2 k z q
    · have := (hold2 k (by simp [q])).2; omega
set_option maxRecDepth 100000 in
set_option maxHeartbeats 1000000 in
/-- Flush, where publish answers with an error. -/
theorem oFlush_bad (w : World) (base : Nat) (S : Sto) (h : SK w base S) (hlv : liveF S.D S.ep = 0) (hge : S.s.ge ≠ 1099511627776) (R : Ending → World → Prop) (hpub : ∀ w1, Below w.heap.size w w1 → Calls Try.prog 52 #[.pointer (some ⟨S.st, 0, none⟩), .int .i64 0] w1 fun e w' => ∃ c, c ≠ 0 ∧ e = .returned (.int .i64 c) ∧ R (.returned (.int .i64 c)) w') :
    Calls Try.prog 27 #[.pointer (some ⟨S.st, 0, none⟩), .int .i64 0] w fun e w' => R e w' := by
  have HL := hid (oLive_any w base S h)
  rw [hlv] at HL
  have HSU := hid (fun w1 (q : Below w.heap.size w w1) => oSuper_any w1 base S (h.below q))
  have HPB := hid hpub
  have hg1 : (S.s.ge == 1099511627776) = false := by simpa using hge
  clear h hlv hpub hge
  go_enter Try.func27, Try.ntmps27
  go_wp2_with fail
  refine HL.out.mono ?_
  rintro e w1 ⟨rfl, hb1⟩
  have HB1 := hid hb1
  clear hb1 HL
  go_wp2_with fail
  refine (HSU.out w1 HB1.out).mono ?_
  rintro e w2 ⟨rfl, hb2⟩
  have HB2 := hid (HB1.out.trans (hb2.mono HB1.out.size))
  clear hb2 HB1 w1 HSU
  go_wp2_with (first | refine wpList_fieldS1 rfl _ rfl S.s S.s.ge rfl rfl ?_)
  refine (HPB.out w2 HB2.out).mono ?_
  rintro e w3 ⟨c, hc, rfl, hR⟩
  have hc2 : (c != 0) = true := by simpa using hc
  have HR := hid hR
  clear hR hc HPB
  go_wp2
  exact HR.out
end Go.Proofs.Ytihkjfbhmlfonaa
namespace Go.Proofs.Ytihkjfbhmlfonaa
set_option linter.unusedVariables false
set_option linter.unusedSimpArgs false
open Go.RowKit
open Go.Proofs.Ytihkjfbhmlfonaa.Ca (Ct ct0 ctC argV AS)
attribute [local go_sem ↓] Go.wp_at_zero Go.wp_at_succ

set_option maxRecDepth 100000 in
set_option maxHeartbeats 1000000 in
/-- Flush, where publish answers OK: the list is empty then, and the cache has settled. -/
theorem oFlush_ok (w : World) (base : Nat) (S : Sto) (h : SK w base S) (hlv : liveF S.D S.ep = 0) (hge : S.s.ge ≠ 1099511627776) (hN : S.N < 3000000000000000000) (R : World → Prop) (hpub : ∀ w1, Below w.heap.size w w1 → Calls Try.prog 52 #[.pointer (some ⟨S.st, 0, none⟩), .int .i64 0] w1 fun e w' => e = .returned (.int .i64 0) ∧ w'.heap[S.st]? = some (.cells (stC S.g S.pc S.sv).toArray 79 (0, 0)) ∧ Ca.CA w' base S.FC S.pc S.N S.a ∧ R w') :
    Calls Try.prog 27 #[.pointer (some ⟨S.st, 0, none⟩), .int .i64 0] w fun e w' => ∃ w3, e = .returned (.int .i64 0) ∧ R w3 ∧ Ca.Nx base S.FC S.pc S.N (w3.setCell ⟨S.st, 3, none⟩ (.slice none 0 0)) S.a.settle w' := by
  have HL := hid (oLive_any w base S h)
  rw [hlv] at HL
  have HSU := hid (fun w1 (q : Below w.heap.size w w1) => oSuper_any w1 base S (h.below q))
  have HPB := hid hpub
  have HSA := hid h.st_apart.2.2.1
  have hg1 : (S.s.ge == 1099511627776) = false := by simpa using hge
  clear h hlv hpub hge
  go_enter Try.func27, Try.ntmps27
  go_wp2_with fail
  refine HL.out.mono ?_
  rintro e w1 ⟨rfl, hb1⟩
  have HB1 := hid hb1
  clear hb1 HL
  go_wp2_with fail
  refine (HSU.out w1 HB1.out).mono ?_
  rintro e w2 ⟨rfl, hb2⟩
  have HB2 := hid (HB1.out.trans (hb2.mono HB1.out.size))
  clear hb2 HB1 w1 HSU
  go_wp2_with (first | refine wpList_fieldS1 rfl _ rfl S.s S.s.ge rfl rfl ?_)
  refine (HPB.out w2 HB2.out).mono ?_
  rintro e w3 ⟨rfl, r3, hC3, hR⟩
  have HR := hid hR
  have k3 : w3.cell? ⟨S.st, 3, none⟩ = some S.sv := by rw [cell_of_row _ _ _ _ _ _ r3]; rfl
  have kf : w3.frozen? ⟨S.st, 3, none⟩ = false := frozen_of_row _ _ _ _ _ r3
  have r4 : (w3.setCell ⟨S.st, 3, none⟩ (.slice none 0 0)).heap[S.st]? = some (.cells (stC S.g S.pc (.slice none 0 0)).toArray 79 (0, 0)) := by rw [heap_setCell_same _ _ _ _ _ _ r3]; rfl
  have k2 : (w3.setCell ⟨S.st, 3, none⟩ (.slice none 0 0)).cell? ⟨S.st, 2, none⟩ = some (.pointer (some ⟨S.pc, 0, none⟩)) := by rw [cell_of_row _ _ _ _ _ _ r4]; rfl
  have HSE : Hid (Calls Try.prog 53 #[.pointer (some ⟨S.pc, 0, none⟩)] (w3.setCell ⟨S.st, 3, none⟩ (.slice none 0 0)) fun x w' => x = .returned (.tuple #[]) ∧ Ca.Nx base S.FC S.pc S.N (w3.setCell ⟨S.st, 3, none⟩ (.slice none 0 0)) S.a.settle w') := hid (Ca.Settle_any _ base S.FC S.pc S.N S.a (by
    obtain ⟨mm, n, s, L, e, c, r⟩ := hC3
    exact ⟨mm, n, s, L, e, c.of_heap fun k hk => heap_setCell_other _ ⟨S.st, 3, none⟩ k _ (fun q => HSA.out (by have q2 : k = S.st := q; rw [← q2, e]; exact hk)), r⟩) hN)
  clear hR hC3 r3 r4 HPB
  go_wp2_with fail
  refine HSE.out.mono ?_
  rintro e w4 ⟨rfl, hX⟩
  have HX := hid hX
  clear hX HSE
  go_wp2
  go_ret
  exact ⟨w3, rfl, HR.out, HX.out⟩
end Go.Proofs.Ytihkjfbhmlfonaa
