import Derived.Test.YtihkjfbhmlfonaaMe6
namespace Go.Proofs.Ytihkjfbhmlfonaa
set_option linter.unusedVariables false
set_option linter.unusedSimpArgs false
open Go.RowKit
attribute [local go_sem ↓] Go.wp_at_zero Go.wp_at_succ


theorem yieldsIf_load_sup {ops : Array Oper} {S : World → Prop} {op : Oper} {a : Act} (hw : Region.wanted op (yielded ops a.tmps) = true) (x : Operand) (ho : op.op = .load 56 x)
    (b : Nat) (hx : a.eval x = .pointer (some ⟨b, 0, none⟩)) (s : Sup) (hS : ∀ w, S w → w.heap[b]? = some (.cells (supC s) 56 (0, 0))) : YieldsIf Try.prog ops S op (.agg (supC s)) a :=
  yieldsIf_load_mid hw 56 x ho b 0 hx (supL s) _ (fun w h => rng (hS w h)) Try.underlying56 rfl (by rw [size_super]; rfl)
theorem slice_steps (f0 f1 f2 f3 : Fn) (x0 x1 x2 x3 c0 c1 c2 c3 : Array Value) (w : World) :
    (Instr.buildSlice 95 4 #[(0, .func f0 x0 c0), (1, .func f1 x1 c1), (2, .func f2 x2 c2), (3, .func f3 x3 c3)]).run Try.prog w = .ok (.slice (some ⟨w.heap.size, 0, none⟩) 4 4) (w.alloc (.cells #[.func f0 x0 c0, .func f1 x1 c1, .func f2 x2 c2, .func f3 x3 c3] 93)) := by
  kernel_rfl
theorem step_steps {w : World} {ops : Array Oper} {o : Oper} {a : Act} {K : Act → World → Prop} {Q : Exit → Act → World → Prop} {E : Prop} (hw : Region.wanted o (yielded ops a.tmps) = true) (y0 y1 y2 y3 : Operand) (ho : o.op = .buildSlice 95 4 #[(0, y0), (1, y1), (2, y2), (3, y3)])
    (f0 f1 f2 f3 : Fn) (x0 x1 x2 x3 c0 c1 c2 c3 : Array Value) (h0 : a.eval y0 = .func f0 x0 c0) (h1 : a.eval y1 = .func f1 x1 c1) (h2 : a.eval y2 = .func f2 x2 c2) (h3 : a.eval y3 = .func f3 x3 c3) (h : K (a.put o.dst (.slice (some ⟨w.heap.size, 0, none⟩) 4 4)) (w.alloc (.cells #[.func f0 x0 c0, .func f1 x1 c1, .func f2 x2 c2, .func f3 x3 c3] 93))) :
    if Region.wanted o (yielded ops a.tmps) = true then Oper.wp Try.prog o a w K Q else E := by
  rw [if_pos hw]
  unfold Oper.wp execOp
  simp only [ho, List.map_toArray, List.map_cons, List.map_nil, h0, h1, h2, h3, Sem.run_bind, slice_steps, Result.andThen_ok, Sem.run_pure]
  exact h
/-- The superblocks of a Format. -/
def fS (n : Nat) (wd g : Int) : Sup := ⟨wd, g, 2, 0, n⟩
theorem fS_valid {n : Nat} {wd g : Int} (h3 : 3 ≤ n) (h4 : n ≤ 4096) (hw : 1 ≤ wd ∧ wd ≤ 32) (hg : 0 ≤ g ∧ g ≤ 1) : validS (fS n wd g) = true := by
  rw [validS_iff]; simp only [fS]; exact ⟨hw.1, hw.2, hg.1, by omega, by omega, by omega, by omega, by omega, Or.inl trivial⟩
set_option maxRecDepth 100000 in
set_option maxHeartbeats 1000000 in
theorem Format_ok (w : World) (base : Nat) (F : List Nat) (p : Nat) (D : DS) (h : DA w base F p D) (hbw : base ≤ w.heap.size) (hpw : D.power = true) (hr : D.reads < 3999999999999999999) (hbud : Bud D 4) (wd : Int) (hwd : 1 ≤ wd ∧ wd ≤ 32) (s0 s1 : Sup) (hs0 : s0 = fS D.np wd 0) (hs1 : s1 = fS D.np wd 1) (hch : (chooseF (D.readOf 0) (D.readOf 1)).2 = 55) :
    Calls Try.prog 15 #[.pointer (some ⟨p, 0, none⟩), .int .i64 wd] w fun e w' => e = .returned (.int .i64 (runS { D with reads := D.reads + 2 } [.lay s0 0 0, .sync, .lay s1 0 0, .sync]).2) ∧ Nx base F p w (runS { D with reads := D.reads + 2 } [.lay s0 0 0, .sync, .lay s1 0 0, .sync]).1 w' := by
  have hnp := h.ok.np
  have hpx := Power_any w base F p D h
  rw [hpw] at hpx
  have HPW := hid hpx
  have HCH := hid (fchoose_any w base F p D h hpw hr)
  have HPG := hid (fun (w1 : World) (h1 : DA w1 base F p { D with reads := D.reads + 2 }) => Pages_any w1 base F p _ h1)
  have hv0 : validS s0 = true := by rw [hs0]; exact fS_valid hnp.1 hnp.2.1 hwd ⟨by omega, by omega⟩
  have hv1 : validS s1 = true := by rw [hs1]; exact fS_valid hnp.1 hnp.2.1 hwd ⟨by omega, by omega⟩
  have HS0 := hid hs0
  have HS1 := hid hs1
  have HNP := hid (show ((D.np : Nat) : Int) ≤ 4096 by omega)
  have hmf : ∀ (fn : Fn) (first cap : Array Value) (w : World), (Instr.makeFunc fn first cap).run Try.prog w = .ok (.func fn first cap) w := fun _ _ _ _ => rfl
  obtain ⟨i1, i2⟩ := hwd
  have HB := hid hbud
  have HCC := hid hch
  clear hnp hpx h hpw hr hs0 hs1 hbud hch
  go_enter Try.func15, Try.ntmps15
  go_wp2_with (first | (go_at_call 33; refine HPW.out.mono ?_; rintro e w0 ⟨rfl, rfl⟩))
  refine HCH.out.mono ?_
  rintro e w1 ⟨rfl, hD1, hF1⟩
  rw [HCC.out]
  generalize (chooseF (D.readOf 0) (D.readOf 1)).1 = S at *
  have HD1 := hid hD1
  have HF1 := hid hF1
  clear hD1 hF1 HCH HPW HCC
  go_wp2_with (first
    | (refine wpList_store_row (by rfl) 56 (.tmp 5) (.tmp 23) (by rfl) w1.heap.size (supC S) (by rfl) (by rfl) 56 _ (by exact hnew _ _) (supN S) (supZ S) (supO S) ?_; rw [setRow_alloc]; generalize hw2 : w1.alloc (.cells (supC S) 56) = w2 at *))
  have B2 : Below w1.heap.size w1 w2 := hw2 ▸ below_new _ _
  have D2 := HD1.out.below B2
  have HF2 := hid (HF1.out.tail (F' := F) B2)
  have HD2 := hid D2
  refine (HPG.out w2 D2).mono ?_
  rintro e w3 ⟨rfl, rfl⟩
  rw [show ({ D with reads := D.reads + 2 } : DS).np = D.np from rfl]
  have K0 : (#[.int .i64 wd, .int .i64 0, .int .i64 2, .int .i64 0, .int .i64 (D.np : Int)] : Array Value) = supC s0 := by rw [HS0.out]; rfl
  have HK0 := hid K0
  have HK1 := hid (show ∀ (w : World) (g : Nat), w.heap[g]? = some (.cells (supC s0) 56 (0, 0)) → (w.setCell ⟨g, 1, none⟩ (.int .i64 1)).heap[g]? = some (.cells (supC s1) 56 (0, 0)) from fun w g hg => by
    rw [heap_setCell_same _ _ _ _ _ _ hg, HS0.out, HS1.out]; rfl)
  generalize D.np = np at *
  clear D2 B2 HD1 HF1 HPG HS0 HS1 K0
  go_wp2_with (first
    | (refine wpList_store_row (by rfl) 56 (.tmp 7) (.tmp 30) (by rfl) w2.heap.size (supC s0) (by rfl) (by exact congrArg Value.agg HK0.out) 56 _ (by exact hnew _ _) (supN s0) (supZ s0) (supO s0) ?_; rw [setRow_alloc]; have r7 := hnew w2 (.cells (supC s0) 56); have b4 := below_new w2 (.cells (supC s0) 56); generalize hw4 : w2.alloc (.cells (supC s0) 56) = w4 at *; generalize hG7 : w2.heap.size = G7 at *)
    | (refine wpList_load_row_w (by rfl) 56 (.tmp 7) (by rfl) G7 (by rfl) 56 (supC s0) (0, 0) _ (by exact r7) Try.underlying56 rfl (supN s0) ?_)
    | (refine wpList_store_row (by rfl) 56 (.tmp 8) (.tmp 31) (by rfl) w4.heap.size (supC s0) (by rfl) (by rfl) 56 _ (by exact hnew _ _) (supN s0) (supZ s0) (supO s0) ?_; rw [setRow_alloc]; have r8 := hnew w4 (.cells (supC s0) 56); have b5 := below_new w4 (.cells (supC s0) 56); generalize hw5 : w4.alloc (.cells (supC s0) 56) = w5 at *; generalize hG8 : w4.heap.size = G8 at *; have c8 := cell_sup1 r8; have f8 := frozen_of_row _ _ 1 _ _ r8))
  generalize hw6 : w5.setCell ⟨G8, 1, none⟩ (.int .i64 1) = w6 at *
  have r8 : Hid (w6.heap[G8]? = some (.cells (supC s1) 56 (0, 0))) := hid (by rw [← hw6]; exact HK1.out w5 G8 r8)
  have hlt8 : G7 < G8 := by have := hlt_ r7; omega
  have r7 : Hid (w6.heap[G7]? = some (.cells (supC s0) 56 (0, 0))) := hid (by rw [← hw6, heap_setCell_other _ ⟨G8, 1, none⟩ _ _ (by show G7 ≠ G8; omega)]; exact (b5.block G7 (by omega)).trans r7)
  have B6 : Below w2.heap.size w2 w6 := by
    rw [← hw6, hG7]
    exact (b4.trans (b5.mono (by omega))).setCell (p := ⟨G8, 1, none⟩) (show G7 ≤ G8 by omega) _
  have D6 := HD2.out.below B6
  have F6 := HF2.out.tail (F' := F) B6
  have HT := hid (fun (wA wB : World) (a0 b0 a1 b1 : Nat) (hA : Below w6.heap.size w6 wA) (hB : Below wA.heap.size wA wB) (x1 : wA.heap[a0]? = some (.cells #[.pointer (some ⟨p, 0, none⟩)] 23 (0, 0))) (x2 : wA.heap[b0]? = some (.cells (supC s0) 56 (0, 0))) (x3 : wB.heap[a1]? = some (.cells #[.pointer (some ⟨p, 0, none⟩)] 23 (0, 0))) (x4 : wB.heap[b1]? = some (.cells (supC s1) 56 (0, 0))) =>
    (show Calls Try.prog 36 #[.slice (some ⟨wB.heap.size, 0, none⟩) 4 4] (wB.alloc (.cells #[.func (.func 56) #[] #[.pointer (some ⟨b0, 0, none⟩), .pointer (some ⟨a0, 0, none⟩)], .func (.func 38) #[.pointer (some ⟨p, 0, none⟩)] #[], .func (.func 56) #[] #[.pointer (some ⟨b1, 0, none⟩), .pointer (some ⟨a1, 0, none⟩)], .func (.func 38) #[.pointer (some ⟨p, 0, none⟩)] #[]] 93)) fun e w' => e = .returned (.int .i64 (runS { D with reads := D.reads + 2 } [.lay s0 0 0, .sync, .lay s1 0 0, .sync]).2) ∧ Nx base F p w (runS { D with reads := D.reads + 2 } [.lay s0 0 0, .sync, .lay s1 0 0, .sync]).1 w' ∧ w'.heap[G7]? = some (.cells (supC s0) 56 (0, 0)) ∧ w'.heap[G8]? = some (.cells (supC s1) 56 (0, 0)) from by
      have hx := below_new wB (.cells #[.func (.func 56) #[] #[.pointer (some ⟨b0, 0, none⟩), .pointer (some ⟨a0, 0, none⟩)], .func (.func 38) #[.pointer (some ⟨p, 0, none⟩)] #[], .func (.func 56) #[] #[.pointer (some ⟨b1, 0, none⟩), .pointer (some ⟨a1, 0, none⟩)], .func (.func 38) #[.pointer (some ⟨p, 0, none⟩)] #[]] 93)
      have hAX : Below w6.heap.size w6 (wB.alloc (.cells #[.func (.func 56) #[] #[.pointer (some ⟨b0, 0, none⟩), .pointer (some ⟨a0, 0, none⟩)], .func (.func 38) #[.pointer (some ⟨p, 0, none⟩)] #[], .func (.func 56) #[] #[.pointer (some ⟨b1, 0, none⟩), .pointer (some ⟨a1, 0, none⟩)], .func (.func 38) #[.pointer (some ⟨p, 0, none⟩)] #[]] 93)) := hA.trans ((hB.trans (hx.mono hB.size)).mono hA.size)
      have hDX := D6.below hAX
      have hFX := F6.tail (F' := F) hAX
      have y7 := (hAX.block G7 (hlt_ r7.out)).trans r7.out
      have y8 := (hAX.block G8 (hlt_ r8.out)).trans r8.out
      refine (turn_any _ base F p { D with reads := D.reads + 2 } hDX (Nat.le_trans hbw hFX.size) [.lay s0 a0 b0, .sync, .lay s1 a1 b1, .sync] (by simp) ⟨HB.out.pw, HB.out.ops, HB.out.writes, HB.out.syncs⟩ ?_ wB.heap.size (hnew _ _)).mono ?_
      · intro x hx'
        simp only [List.mem_cons, List.mem_nil_iff, or_false] at hx'
        rcases hx' with rfl | rfl | rfl | rfl
        · exact ⟨hv0, hold ((hB.block a0 (hlt_ x1)).trans x1), hold ((hB.block b0 (hlt_ x2)).trans x2)⟩
        · trivial
        · exact ⟨hv1, hold x3, hold x4⟩
        · trivial
      · rintro e w' ⟨rfl, F', q1, q2, q3⟩
        exact ⟨rfl, Nx.seq hFX (Gr.refl _ _) ⟨F', q1, q2, q3⟩, q2.keep y7 (hDX.not_in y7 (by decide) (by decide) (by decide)), q2.keep y8 (hDX.not_in y8 (by decide) (by decide) (by decide))⟩))
  clear D6 F6 B6 b4 b5 HB HF2 HD2 HK0 HK1 c8 f8 hbw hv0 hv1 HNP
  refine wp_region_noPanic ?_
  refine wp_region_held_drew (S := fun w' => w'.heap[G7]? = some (.cells (supC s0) 56 (0, 0)) ∧ w'.heap[G8]? = some (.cells (supC s1) 56 (0, 0))) (by kernel_rfl) ⟨r7.out, r8.out⟩ (fun hHeld => ?_)
  refine wpAnyH_take (i := 0) (oi := { dst := some 33, op := Op.move (Operand.tmp 0), type := 23, pos := "publish.go:51", after := #[], guard := none }) (v := .pointer (some ⟨p, 0, none⟩)) rfl (by kernel_rfl) (by kernel_rfl) (by kernel_rfl) (fun _ _ _ h => h) (Or.inl ⟨by rfl, by intro w hS; go_simp⟩) hHeld ?_
  try simp only [Act.put, List.setIfInBounds_toArray, List.set_cons_zero, List.set_cons_succ]
  refine wpAnyH_take (i := 1) (oi := { dst := some 34, op := Op.load 56 (Operand.tmp 7), type := 56, pos := "publish.go:51", after := #[], guard := none }) (v := .agg (supC s0)) rfl (by kernel_rfl) (by kernel_rfl) (by kernel_rfl) (fun _ _ _ h => h) (yieldsIf_load_sup (by rfl) (.tmp 7) rfl G7 rfl s0 (fun w1 hS => hS.1)) hHeld ?_
  try simp only [Act.put, List.setIfInBounds_toArray, List.set_cons_zero, List.set_cons_succ]
  refine wpAnyH_take (i := 3) (oi := { dst := some 36, op := Op.move (Operand.tmp 0), type := 23, pos := "publish.go:51", after := #[], guard := none }) (v := .pointer (some ⟨p, 0, none⟩)) rfl (by kernel_rfl) (by kernel_rfl) (by kernel_rfl) (fun _ _ _ h => h) (Or.inl ⟨by rfl, by intro w hS; go_simp⟩) hHeld ?_
  try simp only [Act.put, List.setIfInBounds_toArray, List.set_cons_zero, List.set_cons_succ]
  refine wpAnyH_take (i := 5) (oi := { dst := some 38, op := Op.move (Operand.tmp 0), type := 23, pos := "publish.go:51", after := #[], guard := none }) (v := .pointer (some ⟨p, 0, none⟩)) rfl (by kernel_rfl) (by kernel_rfl) (by kernel_rfl) (fun _ _ _ h => h) (Or.inl ⟨by rfl, by intro w hS; go_simp⟩) hHeld ?_
  try simp only [Act.put, List.setIfInBounds_toArray, List.set_cons_zero, List.set_cons_succ]
  refine wpAnyH_take (i := 6) (oi := { dst := some 39, op := Op.load 56 (Operand.tmp 8), type := 56, pos := "publish.go:51", after := #[], guard := none }) (v := .agg (supC s1)) rfl (by kernel_rfl) (by kernel_rfl) (by kernel_rfl) (fun _ _ _ h => h) (yieldsIf_load_sup (by rfl) (.tmp 8) rfl G8 rfl s1 (fun w1 hS => hS.2)) hHeld ?_
  try simp only [Act.put, List.setIfInBounds_toArray, List.set_cons_zero, List.set_cons_succ]
  refine wpAnyH_take (i := 8) (oi := { dst := some 41, op := Op.move (Operand.tmp 0), type := 23, pos := "publish.go:51", after := #[], guard := none }) (v := .pointer (some ⟨p, 0, none⟩)) rfl (by kernel_rfl) (by kernel_rfl) (by kernel_rfl) (fun _ _ _ h => h) (Or.inl ⟨by rfl, by intro w hS; go_simp⟩) hHeld ?_
  try simp only [Act.put, List.setIfInBounds_toArray, List.set_cons_zero, List.set_cons_succ]
  refine wpAnyH_take (i := 4) (oi := { dst := some 37, op := Op.makeFunc (Fn.func 38) #[Operand.tmp 36] #[], type := 87, pos := "publish.go:51", after := #[{ on := 3, ground := Ground.data }], guard := none }) (v := .func (.func 38) #[.pointer (some ⟨p, 0, none⟩)] #[]) rfl (by kernel_rfl) (by kernel_rfl) (by kernel_rfl) (fun _ _ _ h => h) (Or.inl ⟨by rfl, by intro w hS; go_simp⟩) hHeld ?_
  try simp only [Act.put, List.setIfInBounds_toArray, List.set_cons_zero, List.set_cons_succ]
  refine wpAnyH_take (i := 9) (oi := { dst := some 42, op := Op.makeFunc (Fn.func 38) #[Operand.tmp 41] #[], type := 87, pos := "publish.go:51", after := #[{ on := 8, ground := Ground.data }], guard := none }) (v := .func (.func 38) #[.pointer (some ⟨p, 0, none⟩)] #[]) rfl (by kernel_rfl) (by kernel_rfl) (by kernel_rfl) (fun _ _ _ h => h) (Or.inl ⟨by rfl, by intro w hS; go_simp⟩) hHeld ?_
  try simp only [Act.put, List.setIfInBounds_toArray, List.set_cons_zero, List.set_cons_succ]
  refine wpAnyH_ready (rs := [2]) (by kernel_rfl) (by simp) ?_
  refine (AllReadyH.cons (o := { dst := some 35, op := Op.call { callee := Callee.value (Operand.func 37), args := #[Operand.tmp 33, Operand.tmp 34], argTypes := #[23, 56] }, type := 93, pos := "publish.go:51", after := #[{ on := 0, ground := Ground.data }, { on := 1, ground := Ground.data }], guard := none }) rfl (fun K hK => ?_) AllReadyH.nil)
  go_simp
  go_at_call 37
  refine (laying_any _ p s0).mono ?_
  rintro e wA ⟨a0, b0, rfl, ha0, hb0, na0, nb0, hBA⟩
  have HA0 := hid ha0
  have HB0 := hid hb0
  have HBA := hid (⟨hBA.os, hBA.tape, hBA.output, hBA.size, hBA.block⟩ : Below w6.heap.size w6 wA)
  go_wp2_with fail
  refine hK.out _ _ (⟨(hBA.block G7 (hlt_ hHeld.1)).trans hHeld.1, (hBA.block G8 (hlt_ hHeld.2)).trans hHeld.2⟩) (fun hHeld2 => ?_)
  clear hK K hHeld
  have hHeld := hHeld2
  clear hHeld2
  clear ha0 hb0 hBA
  try simp only [Act.put, List.setIfInBounds_toArray, List.set_cons_zero, List.set_cons_succ]
  refine wpAnyH_ready (rs := [7]) (by kernel_rfl) (by simp) ?_
  refine (AllReadyH.cons (o := { dst := some 40, op := Op.call { callee := Callee.value (Operand.func 37), args := #[Operand.tmp 38, Operand.tmp 39], argTypes := #[23, 56] }, type := 93, pos := "publish.go:51", after := #[{ on := 5, ground := Ground.data }, { on := 6, ground := Ground.data }, { on := 2, ground := Ground.chain }], guard := none }) rfl (fun K hK => ?_) AllReadyH.nil)
  go_simp
  go_at_call 37
  refine (laying_any _ p s1).mono ?_
  rintro e wB ⟨a1, b1, rfl, ha1, hb1, na1, nb1, hBB⟩
  have HA1 := hid ha1
  have HB1 := hid hb1
  have HBB := hid hBB
  go_wp2_with fail
  refine hK.out _ _ (⟨(hBB.block G7 (hlt_ hHeld.1)).trans hHeld.1, (hBB.block G8 (hlt_ hHeld.2)).trans hHeld.2⟩) (fun hHeld2 => ?_)
  clear hK K hHeld
  have hHeld := hHeld2
  clear hHeld2
  clear ha1 hb1 hBB
  try simp only [Act.put, List.setIfInBounds_toArray, List.set_cons_zero, List.set_cons_succ]
  refine wpAnyH_ready (rs := [10]) (by kernel_rfl) (by simp) ?_
  refine (AllReadyH.cons (o := { dst := some 43, op := Op.buildSlice 95 4 #[(0, Operand.tmp 35), (1, Operand.tmp 37), (2, Operand.tmp 40), (3, Operand.tmp 42)], type := 95, pos := "publish.go:51", after := #[{ on := 2, ground := Ground.data }, { on := 4, ground := Ground.data }, { on := 7, ground := Ground.data }, { on := 9, ground := Ground.data }], guard := none }) rfl (fun K hK => ?_) AllReadyH.nil)
  refine step_steps (by rfl) (.tmp 35) (.tmp 37) (.tmp 40) (.tmp 42) rfl _ _ _ _ _ _ _ _ _ _ _ _ rfl rfl rfl rfl ?_
  refine hK.out _ _ (⟨hold hHeld.1, hold hHeld.2⟩) (fun hHeld2 => ?_)
  clear hK K hHeld
  have hHeld := hHeld2
  clear hHeld2
  try simp only [Act.put, List.setIfInBounds_toArray, List.set_cons_zero, List.set_cons_succ]
  refine wpAnyH_ready (rs := [11]) (by kernel_rfl) (by simp) ?_
  refine (AllReadyH.cons (o := { dst := some 44, op := Op.call { callee := Callee.value (Operand.func 36), args := #[Operand.tmp 43], argTypes := #[95] }, type := 62, pos := "publish.go:51", after := #[{ on := 10, ground := Ground.data }, { on := 7, ground := Ground.chain }], guard := none }) rfl (fun K hK => ?_) AllReadyH.nil)
  go_simp
  go_at_call 36
  refine (HT.out wA wB a0 b0 a1 b1 HBA.out HBB.out HA0.out HB0.out HA1.out HB1.out).mono ?_
  rintro e wE ⟨rfl, hN, k7, k8⟩
  go_wp2_with fail
  refine hK.out _ _ (⟨k7, k8⟩) (fun hHeld2 => ?_)
  clear hK K hHeld
  have hHeld := hHeld2
  clear hHeld2
  try simp only [Act.put, List.setIfInBounds_toArray, List.set_cons_zero, List.set_cons_succ]
  refine wpAnyH_take (i := 12) (oi := { dst := some 4, op := Op.assign (Operand.tmp 44), type := 62, pos := "publish.go:51", after := #[{ on := 11, ground := Ground.data }, { on := 11, ground := Ground.chain }, { on := 0, ground := Ground.phase }, { on := 1, ground := Ground.phase }, { on := 2, ground := Ground.phase }, { on := 3, ground := Ground.phase }, { on := 4, ground := Ground.phase }, { on := 5, ground := Ground.phase }, { on := 6, ground := Ground.phase }, { on := 7, ground := Ground.phase }, { on := 8, ground := Ground.phase }, { on := 9, ground := Ground.phase }, { on := 10, ground := Ground.phase }, { on := 11, ground := Ground.phase }], guard := none }) (v := (.int .i64 (runS { D with reads := D.reads + 2 } [.lay s0 0 0, .sync, .lay s1 0 0, .sync]).2)) rfl (by kernel_rfl) (by kernel_rfl) (by kernel_rfl) (fun _ _ _ h => h) (Or.inl ⟨by rfl, by intro w hS; go_simp⟩) hHeld ?_
  try simp only [Act.put, List.setIfInBounds_toArray, List.set_cons_zero, List.set_cons_succ]
  refine wpAnyH_done (by kernel_rfl) ?_ _
  refine NoPanic.normal ?_
  go_wp2
  go_ret
  exact ⟨rfl, hN⟩
end Go.Proofs.Ytihkjfbhmlfonaa
