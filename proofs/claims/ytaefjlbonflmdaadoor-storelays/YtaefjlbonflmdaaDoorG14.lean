import Derived.Test.YtaefjlbonflmdaaDoorG13
namespace Go.Proofs.YtaefjlbonflmdaaDoor
set_option linter.unusedVariables false
set_option linter.unusedSimpArgs false
open Go.RowKit
attribute [local go_sem ↓] Go.wp_at_zero Go.wp_at_succ


set_option maxRecDepth 100000 in
set_option maxHeartbeats 1000000 in
theorem Publish_in (w : World) (base : Nat) (F : List Nat) (p : Nat) (D : DS) (h : DA w base F p D) (hbw : base ≤ w.heap.size) (g : Nat) (s : Sup) (nx ep : Int) (hf : FK w g p s nx ep) (hlv : liveF D ep = 0) (hd : Int) (hh : hd = 0 ∨ (2 ≤ hd ∧ hd < nx)) (hg : 0 ≤ s.ge ∧ s.ge < 1099511627776) (s2 : Sup) (hs2 : s2 = ⟨s.wd, s.ge + 1, nx, hd, s.pg⟩) (hv : validS s2 = true) (hb : Bud D 3) :
    Calls Tryd.prog 51 #[.pointer (some ⟨g, 0, none⟩), .int .i64 hd] w fun e w2 => e = .returned (.int .i64 (runS D [.sync, .lay s2 0 0, .sync]).2) ∧ NxF base F p g w (runS D [.sync, .lay s2 0 0, .sync]).1 (if (runS D [.sync, .lay s2 0 0, .sync]).2 = 0 then s2 else s) nx ep w2 := by
  obtain ⟨w0, hw0⟩ : ∃ w0, w0 = w.alloc (.cells #[.pointer (some ⟨g, 0, none⟩)] 49) := ⟨_, rfl⟩
  have b0 : Below w.heap.size w w0 := by rw [hw0]; exact below_new _ _
  have r0 : w0.heap[w.heap.size]? = some (.cells #[.pointer (some ⟨g, 0, none⟩)] 49 (0, 0)) := by rw [hw0]; exact hnew _ _
  have HL := hid (Live_any w0 base F p D (h.below b0) g s nx ep (hf.below b0))
  rw [hlv] at HL
  have HB0 := hid b0
  have R0 := hid r0
  have W0 := hid hw0
  have HD := hid h
  have HF := hid hf
  have HH : Hid (∀ (w1 : World) (_ : FK w1 g p s nx ep), (hd != 0) = true → Calls Tryd.prog 64 #[.pointer (some ⟨g, 0, none⟩), .int .i64 hd] w1 fun e w' => e = .returned (.bool true) ∧ w1 = w') := hid (fun w1 hf1 h0 => by
    have := has_any w1 g p s nx ep hf1 hd
    rcases hh with hh | hh
    · rw [hh] at h0; simp at h0
    · rwa [show decide (2 ≤ hd ∧ hd < nx) = true from decide_eq_true hh] at this)
  have HS2 := hid hs2
  have i1 := hg.1
  have i2 := hg.2
  have hne : (s.ge == 1099511627776) = false := by simp; omega
  have hmf : ∀ (fn : Fn) (first cap : Array Value) (w : World), (Instr.makeFunc fn first cap).run Tryd.prog w = .ok (.func fn first cap) w := fun _ _ _ _ => rfl
  have K0 := hid h
  obtain ⟨sF, hsF⟩ : ∃ sF, sF = (if (runS D [.sync, .lay s2 0 0, .sync]).2 = 0 then s2 else s) := ⟨_, rfl⟩
  rw [← hsF]
  have HSF := hid hsF
  clear hsF
  clear h hf hlv hg b0 r0 hs2 hw0
  by_cases hz : hd = 0
  · subst hz
    clear hh HH
    go_enter Tryd.func51, Tryd.ntmps51
    have c0 := cell_of_one R0.out
    go_wp2_with (first
      | (go_at_call 40; rw [← W0.out]; refine HL.out.mono ?_; rintro e w1 ⟨rfl, hb1⟩; have HB1 := hid hb1; have c1 := (hb1.cell (p := ⟨w.heap.size, 0, none⟩) (hlt_ R0.out)).trans c0; have HF1 := hid ((HF.out.below HB0.out).below hb1); have c2 := (show w1.cell? ⟨g, 2, none⟩ = some (.int .i64 s.ge) from HF1.out.cell 2); clear hb1)
      | (go_at_call 64; refine (HH2.out w1 HF1.out).mono ?_; rintro e w2 ⟨rfl, rfl⟩)
      | (refine wpList_load_mid_w (by rfl) 31 (.tmp 28) (by rfl) g 1 (by rfl) (supL s) _ (by exact HF1.out.range) Tryd.underlying31 rfl (by rw [size_super]; rfl) ?_)
      | (refine wpList_store_row (by rfl) 31 (.tmp 6) (.tmp 29) (by rfl) w1.heap.size (supC s) (by rfl) (by rfl) 31 _ (by exact hnew _ _) (supN s) (supZ s) (supO s) ?_; rw [setRow_alloc]; have r6 := hnew w1 (.cells (supC s) 31); have b2 := below_new w1 (.cells (supC s) 31); have HF2 := hid (HF1.out.below b2); have e2 := (show (w1.alloc (.cells (supC s) 31)).cell? ⟨w.heap.size, 0, none⟩ = some (.pointer (some ⟨g, 0, none⟩)) from (b2.cell (p := ⟨w.heap.size, 0, none⟩) (hlt_c c1)).trans c1); have n1 : w.heap.size ≠ w1.heap.size := Nat.ne_of_lt (hlt_c c1); have n2 : g ≠ w1.heap.size := Nat.ne_of_lt (hlt_ HF1.out); generalize hw2 : w1.alloc (.cells (supC s) 31) = w2 at *; generalize hG6 : w1.heap.size = G6 at *; have c6 := cell_sup1 r6; have f6 := frozen_of_row _ _ 1 _ _ r6; have c62 := cell_sup2 r6; have f62 := frozen_of_row _ _ 2 _ _ r6; have c63 := cell_sup3 r6; have f63 := frozen_of_row _ _ 3 _ _ r6; have g6 := HF2.out.c6; have g0 := HF2.out.c0; clear c1 c2 c0))
    generalize hw6 : ((w2.setCell ⟨G6, 1, none⟩ (.int .i64 (s.ge + 1))).setCell ⟨G6, 2, none⟩ (.int .i64 nx)).setCell ⟨G6, 3, none⟩ (.int .i64 0) = w6 at *
    have q1 := heap_setCell_same w2 G6 1 _ _ (.int .i64 (s.ge + 1)) r6
    have q2 := heap_setCell_same _ G6 2 _ _ (.int .i64 nx) q1
    have q3 := heap_setCell_same _ G6 3 _ _ (.int .i64 0) q2
    rw [hw6] at q3
    have R6 := hid (show w6.heap[G6]? = some (.cells (supC s2) 31 (0, 0)) by rw [q3, HS2.out]; rfl)
    have hsz2 : w1.heap.size ≤ w2.heap.size := by rw [← hw2]; simp
    have B6 : Below w1.heap.size w1 w6 := by
      rw [← hw6, hG6]
      exact (((b2.setCell (p := ⟨G6, 1, none⟩) (Nat.le_refl _) _).setCell (p := ⟨G6, 2, none⟩) (Nat.le_refl _) _).setCell (p := ⟨G6, 3, none⟩) (Nat.le_refl _) _)
    have BW := HB0.out.trans ((HB1.out.trans (B6.mono HB1.out.size)).mono HB0.out.size)
    have D6 := HD.out.below BW
    have F6 := HF.out.below BW
    have G2R : w6.heap[w.heap.size]? = some (.cells #[.pointer (some ⟨g, 0, none⟩)] 49 (0, 0)) := by
      have z := (HB1.out.block _ (hlt_ R0.out)).trans R0.out
      exact (B6.block _ (hlt_ z)).trans z
    generalize hG2 : w.heap.size = G2 at *
    have X6 := hid (show w6.drew.cell? ⟨G2, 0, none⟩ = some (.pointer (some ⟨g, 0, none⟩)) ∧ w6.drew.cell? ⟨g, 0, none⟩ = some (.pointer (some ⟨p, 0, none⟩)) ∧ w6.drew.heap[G6]? = some (.cells (supC s2) 31 (0, 0)) from ⟨cell_of_one G2R, F6.c0, R6.out⟩)
    have HT := hid (fun (wA : World) (a0 b0 : Nat) (hA : Below w6.heap.size w6 wA) (x1 : wA.heap[a0]? = some (.cells #[.pointer (some ⟨p, 0, none⟩)] 24 (0, 0))) (x2 : wA.heap[b0]? = some (.cells (supC s2) 31 (0, 0))) =>
      (show Calls Tryd.prog 36 #[.slice (some ⟨wA.heap.size, 0, none⟩) 4 4] (wA.alloc (.cells #[.func (.func 38) #[.pointer (some ⟨p, 0, none⟩)] #[], .func (.func 57) #[] #[.pointer (some ⟨b0, 0, none⟩), .pointer (some ⟨a0, 0, none⟩)], .func (.func 38) #[.pointer (some ⟨p, 0, none⟩)] #[], .func (.func 71) #[] #[.pointer (some ⟨G6, 0, none⟩), .pointer (some ⟨G2, 0, none⟩)]] 82)) fun e w' => e = .returned (.int .i64 (runS D [.sync, .lay s2 0 0, .sync]).2) ∧ NxF base F p g w (runS D [.sync, .lay s2 0 0, .sync]).1 sF nx ep w' ∧ (w'.cell? ⟨G2, 0, none⟩ = some (.pointer (some ⟨g, 0, none⟩)) ∧ w'.cell? ⟨g, 0, none⟩ = some (.pointer (some ⟨p, 0, none⟩)) ∧ w'.heap[G6]? = some (.cells (supC s2) 31 (0, 0))) from by
        have hx := below_new wA (.cells #[.func (.func 38) #[.pointer (some ⟨p, 0, none⟩)] #[], .func (.func 57) #[] #[.pointer (some ⟨b0, 0, none⟩), .pointer (some ⟨a0, 0, none⟩)], .func (.func 38) #[.pointer (some ⟨p, 0, none⟩)] #[], .func (.func 71) #[] #[.pointer (some ⟨G6, 0, none⟩), .pointer (some ⟨G2, 0, none⟩)]] 82)
        have hAX : Below w6.heap.size w6 (wA.alloc (.cells #[.func (.func 38) #[.pointer (some ⟨p, 0, none⟩)] #[], .func (.func 57) #[] #[.pointer (some ⟨b0, 0, none⟩), .pointer (some ⟨a0, 0, none⟩)], .func (.func 38) #[.pointer (some ⟨p, 0, none⟩)] #[], .func (.func 71) #[] #[.pointer (some ⟨G6, 0, none⟩), .pointer (some ⟨G2, 0, none⟩)]] 82)) := hA.trans (hx.mono hA.size)
        have hDX := D6.below hAX
        have hFX := F6.below hAX
        have y2 := (hAX.block G2 (hlt_ G2R)).trans G2R
        have y6 := (hAX.block G6 (hlt_ R6.out)).trans R6.out
        have hBX : Below w.heap.size w (wA.alloc (.cells #[.func (.func 38) #[.pointer (some ⟨p, 0, none⟩)] #[], .func (.func 57) #[] #[.pointer (some ⟨b0, 0, none⟩), .pointer (some ⟨a0, 0, none⟩)], .func (.func 38) #[.pointer (some ⟨p, 0, none⟩)] #[], .func (.func 71) #[] #[.pointer (some ⟨G6, 0, none⟩), .pointer (some ⟨G2, 0, none⟩)]] 82)) := by rw [hG2]; exact BW.trans (hAX.mono (by have := BW.size; omega))
        rw [HSF.out]
        refine (pubturn_any _ base F p D hDX (by have := hBX.size; omega) g s s2 nx ep hFX hb a0 b0 ⟨hv, hold x1, hold x2⟩ G2 G6 y2 y6 wA.heap.size (hnew _ _)).mono ?_
        rintro e w' ⟨rfl, F', z1, z2, z3, z4⟩
        refine ⟨rfl, ⟨F', z1, z2, ((Fr.of_below hBX).wide g).trans z3 (Gr.refl _ _), fun k hk => (z4 k hk).imp id (fun x => Nat.le_trans hBX.size x)⟩, ?_, z2.c0, ?_⟩
        · exact cell_of_one (z3.keep y2 (fun e => by rcases List.mem_cons.1 e with e | e; exact ne_ty y2 hFX (by decide) e; exact hDX.not_in y2 (by decide) (by decide) (by decide) e))
        · exact z3.keep y6 (fun e => by rcases List.mem_cons.1 e with e | e; exact ne_ty y6 hFX (by decide) e; exact hDX.not_in y6 (by decide) (by decide) (by decide) e)))
    clear q1 q2 q3 D6 F6 B6 BW G2R R6 hb hv HS2 HL HB0 R0 W0 HD HF HF1 HF2 HB1 r6 b2 c6 f6 c62 f62 c63 f63 g6 g0 e2 hw6 hw2 hsz2
    refine wp_region_noPanic ?_
    refine wp_region_held_drew (S := fun w' => w'.cell? ⟨G2, 0, none⟩ = some (.pointer (some ⟨g, 0, none⟩)) ∧ w'.cell? ⟨g, 0, none⟩ = some (.pointer (some ⟨p, 0, none⟩)) ∧ w'.heap[G6]? = some (.cells (supC s2) 31 (0, 0))) (by kernel_rfl) X6.out (fun hHeld => ?_)
    refine wpAnyH_take (i := 0) (oi := { dst := some 41, op := Op.load 49 (Operand.tmp 2), type := 49, pos := "publish.go:70", after := #[], guard := none }) (v := .pointer (some ⟨g, 0, none⟩)) rfl (by kernel_rfl) (by kernel_rfl) (by kernel_rfl) (fun _ _ _ h => h) (Or.inl ⟨by rfl, by intro w hS; have hc := hS.1; go_simp⟩) hHeld ?_
    try simp only [Act.put, List.setIfInBounds_toArray, List.set_cons_zero, List.set_cons_succ]
    refine wpAnyH_take (i := 5) (oi := { dst := some 46, op := Op.load 49 (Operand.tmp 2), type := 49, pos := "publish.go:70", after := #[], guard := none }) (v := .pointer (some ⟨g, 0, none⟩)) rfl (by kernel_rfl) (by kernel_rfl) (by kernel_rfl) (fun _ _ _ h => h) (Or.inl ⟨by rfl, by intro w hS; have hc := hS.1; go_simp⟩) hHeld ?_
    try simp only [Act.put, List.setIfInBounds_toArray, List.set_cons_zero, List.set_cons_succ]
    refine wpAnyH_take (i := 9) (oi := { dst := some 50, op := Op.load 31 (Operand.tmp 6), type := 31, pos := "publish.go:70", after := #[], guard := none }) (v := .agg (supC s2)) rfl (by kernel_rfl) (by kernel_rfl) (by kernel_rfl) (fun _ _ _ h => h) (yieldsIf_load_sup (by rfl) (.tmp 6) rfl G6 rfl s2 (fun w1 hS => hS.2.2)) hHeld ?_
    try simp only [Act.put, List.setIfInBounds_toArray, List.set_cons_zero, List.set_cons_succ]
    refine wpAnyH_take (i := 11) (oi := { dst := some 52, op := Op.load 49 (Operand.tmp 2), type := 49, pos := "publish.go:70", after := #[], guard := none }) (v := .pointer (some ⟨g, 0, none⟩)) rfl (by kernel_rfl) (by kernel_rfl) (by kernel_rfl) (fun _ _ _ h => h) (Or.inl ⟨by rfl, by intro w hS; have hc := hS.1; go_simp⟩) hHeld ?_
    try simp only [Act.put, List.setIfInBounds_toArray, List.set_cons_zero, List.set_cons_succ]
    refine wpAnyH_take (i := 16) (oi := { dst := some 57, op := Op.makeFunc (Fn.func 71) #[] #[Operand.tmp 6, Operand.tmp 2], type := 67, pos := "publish.go:70", after := #[], guard := none }) (v := .func (.func 71) #[] #[.pointer (some ⟨G6, 0, none⟩), .pointer (some ⟨G2, 0, none⟩)]) rfl (by kernel_rfl) (by kernel_rfl) (by kernel_rfl) (fun _ _ _ h => h) (Or.inl ⟨by rfl, by intro w hS; go_simp⟩) hHeld ?_
    try simp only [Act.put, List.setIfInBounds_toArray, List.set_cons_zero, List.set_cons_succ]
    refine wpAnyH_take (i := 1) (oi := { dst := some 42, op := Op.nilCheck (Operand.tmp 41), type := 0, pos := "publish.go:70", after := #[{ on := 0, ground := Ground.data }], guard := none }) (v := .pointer (some ⟨g, 0, none⟩)) rfl (by kernel_rfl) (by kernel_rfl) (by kernel_rfl) (fun _ _ _ h => h) (Or.inl ⟨by rfl, by intro w hS; go_simp⟩) hHeld ?_
    try simp only [Act.put, List.setIfInBounds_toArray, List.set_cons_zero, List.set_cons_succ]
    refine wpAnyH_take (i := 6) (oi := { dst := some 47, op := Op.nilCheck (Operand.tmp 46), type := 0, pos := "publish.go:70", after := #[{ on := 5, ground := Ground.data }], guard := none }) (v := .pointer (some ⟨g, 0, none⟩)) rfl (by kernel_rfl) (by kernel_rfl) (by kernel_rfl) (fun _ _ _ h => h) (Or.inl ⟨by rfl, by intro w hS; go_simp⟩) hHeld ?_
    try simp only [Act.put, List.setIfInBounds_toArray, List.set_cons_zero, List.set_cons_succ]
    refine wpAnyH_take (i := 12) (oi := { dst := some 53, op := Op.nilCheck (Operand.tmp 52), type := 0, pos := "publish.go:70", after := #[{ on := 11, ground := Ground.data }], guard := none }) (v := .pointer (some ⟨g, 0, none⟩)) rfl (by kernel_rfl) (by kernel_rfl) (by kernel_rfl) (fun _ _ _ h => h) (Or.inl ⟨by rfl, by intro w hS; go_simp⟩) hHeld ?_
    try simp only [Act.put, List.setIfInBounds_toArray, List.set_cons_zero, List.set_cons_succ]
    refine wpAnyH_take (i := 2) (oi := { dst := some 43, op := Op.fieldAddr 86 (Operand.tmp 42) 0, type := 0, pos := "publish.go:70", after := #[{ on := 1, ground := Ground.data }], guard := none }) (v := .pointer (some ⟨g, 0, none⟩)) rfl (by kernel_rfl) (by kernel_rfl) (by kernel_rfl) (fun _ _ _ h => h) (Or.inl ⟨by rfl, by intro w hS; go_simp⟩) hHeld ?_
    try simp only [Act.put, List.setIfInBounds_toArray, List.set_cons_zero, List.set_cons_succ]
    refine wpAnyH_take (i := 7) (oi := { dst := some 48, op := Op.fieldAddr 86 (Operand.tmp 47) 0, type := 0, pos := "publish.go:70", after := #[{ on := 6, ground := Ground.data }], guard := none }) (v := .pointer (some ⟨g, 0, none⟩)) rfl (by kernel_rfl) (by kernel_rfl) (by kernel_rfl) (fun _ _ _ h => h) (Or.inl ⟨by rfl, by intro w hS; go_simp⟩) hHeld ?_
    try simp only [Act.put, List.setIfInBounds_toArray, List.set_cons_zero, List.set_cons_succ]
    refine wpAnyH_take (i := 13) (oi := { dst := some 54, op := Op.fieldAddr 86 (Operand.tmp 53) 0, type := 0, pos := "publish.go:70", after := #[{ on := 12, ground := Ground.data }], guard := none }) (v := .pointer (some ⟨g, 0, none⟩)) rfl (by kernel_rfl) (by kernel_rfl) (by kernel_rfl) (fun _ _ _ h => h) (Or.inl ⟨by rfl, by intro w hS; go_simp⟩) hHeld ?_
    try simp only [Act.put, List.setIfInBounds_toArray, List.set_cons_zero, List.set_cons_succ]
    refine wpAnyH_take (i := 3) (oi := { dst := some 44, op := Op.load 24 (Operand.tmp 43), type := 24, pos := "publish.go:70", after := #[{ on := 2, ground := Ground.data }], guard := none }) (v := .pointer (some ⟨p, 0, none⟩)) rfl (by kernel_rfl) (by kernel_rfl) (by kernel_rfl) (fun _ _ _ h => h) (Or.inl ⟨by rfl, by intro w hS; have hc := hS.2.1; go_simp⟩) hHeld ?_
    try simp only [Act.put, List.setIfInBounds_toArray, List.set_cons_zero, List.set_cons_succ]
    refine wpAnyH_take (i := 8) (oi := { dst := some 49, op := Op.load 24 (Operand.tmp 48), type := 24, pos := "publish.go:70", after := #[{ on := 7, ground := Ground.data }], guard := none }) (v := .pointer (some ⟨p, 0, none⟩)) rfl (by kernel_rfl) (by kernel_rfl) (by kernel_rfl) (fun _ _ _ h => h) (Or.inl ⟨by rfl, by intro w hS; have hc := hS.2.1; go_simp⟩) hHeld ?_
    try simp only [Act.put, List.setIfInBounds_toArray, List.set_cons_zero, List.set_cons_succ]
    refine wpAnyH_take (i := 14) (oi := { dst := some 55, op := Op.load 24 (Operand.tmp 54), type := 24, pos := "publish.go:70", after := #[{ on := 13, ground := Ground.data }], guard := none }) (v := .pointer (some ⟨p, 0, none⟩)) rfl (by kernel_rfl) (by kernel_rfl) (by kernel_rfl) (fun _ _ _ h => h) (Or.inl ⟨by rfl, by intro w hS; have hc := hS.2.1; go_simp⟩) hHeld ?_
    try simp only [Act.put, List.setIfInBounds_toArray, List.set_cons_zero, List.set_cons_succ]
    refine wpAnyH_take (i := 4) (oi := { dst := some 45, op := Op.makeFunc (Fn.func 38) #[Operand.tmp 44] #[], type := 67, pos := "publish.go:70", after := #[{ on := 3, ground := Ground.data }], guard := none }) (v := .func (.func 38) #[.pointer (some ⟨p, 0, none⟩)] #[]) rfl (by kernel_rfl) (by kernel_rfl) (by kernel_rfl) (fun _ _ _ h => h) (Or.inl ⟨by rfl, by intro w hS; go_simp⟩) hHeld ?_
    try simp only [Act.put, List.setIfInBounds_toArray, List.set_cons_zero, List.set_cons_succ]
    refine wpAnyH_take (i := 15) (oi := { dst := some 56, op := Op.makeFunc (Fn.func 38) #[Operand.tmp 55] #[], type := 67, pos := "publish.go:70", after := #[{ on := 14, ground := Ground.data }], guard := none }) (v := .func (.func 38) #[.pointer (some ⟨p, 0, none⟩)] #[]) rfl (by kernel_rfl) (by kernel_rfl) (by kernel_rfl) (fun _ _ _ h => h) (Or.inl ⟨by rfl, by intro w hS; go_simp⟩) hHeld ?_
    try simp only [Act.put, List.setIfInBounds_toArray, List.set_cons_zero, List.set_cons_succ]
    refine wpAnyH_ready (rs := [10]) (by kernel_rfl) (by simp) ?_
    refine (AllReadyH.cons (o := { dst := some 51, op := Op.call { callee := Callee.value (Operand.func 37), args := #[Operand.tmp 49, Operand.tmp 50], argTypes := #[24, 31] }, type := 82, pos := "publish.go:70", after := #[{ on := 8, ground := Ground.data }, { on := 9, ground := Ground.data }], guard := none }) rfl (fun K hK => ?_) AllReadyH.nil)
    go_simp
    go_at_call 37
    refine (laying_any _ p s2).mono ?_
    rintro e wA ⟨a0, b0, rfl, ha0, hb0, na0, nb0, hBA⟩
    have HA0 := hid ha0
    have HB0 := hid hb0
    have HBA := hid (⟨hBA.os, hBA.tape, hBA.output, hBA.size, hBA.block⟩ : Below w6.heap.size w6 wA)
    go_wp2_with fail
    refine hK.out _ _ (⟨(hBA.cell (p := ⟨G2, 0, none⟩) (hlt_c hHeld.1)).trans hHeld.1, (hBA.cell (p := ⟨g, 0, none⟩) (hlt_c hHeld.2.1)).trans hHeld.2.1, (hBA.block G6 (hlt_ hHeld.2.2)).trans hHeld.2.2⟩) (fun hHeld2 => ?_)
    clear hK K hHeld
    have hHeld := hHeld2
    clear hHeld2
    clear ha0 hb0 hBA
    try simp only [Act.put, List.setIfInBounds_toArray, List.set_cons_zero, List.set_cons_succ]
    refine wpAnyH_ready (rs := [17]) (by kernel_rfl) (by simp) ?_
    refine (AllReadyH.cons (o := { dst := some 58, op := Op.buildSlice 84 4 #[(0, Operand.tmp 45), (1, Operand.tmp 51), (2, Operand.tmp 56), (3, Operand.tmp 57)], type := 84, pos := "publish.go:70", after := #[{ on := 4, ground := Ground.data }, { on := 10, ground := Ground.data }, { on := 15, ground := Ground.data }, { on := 16, ground := Ground.data }], guard := none }) rfl (fun K hK => ?_) AllReadyH.nil)
    refine step_steps (by rfl) (.tmp 45) (.tmp 51) (.tmp 56) (.tmp 57) rfl _ _ _ _ _ _ _ _ _ _ _ _ rfl rfl rfl rfl ?_
    refine hK.out _ _ (⟨((below_new _ _).cell (p := ⟨G2, 0, none⟩) (hlt_c hHeld.1)).trans hHeld.1, ((below_new _ _).cell (p := ⟨g, 0, none⟩) (hlt_c hHeld.2.1)).trans hHeld.2.1, hold hHeld.2.2⟩) (fun hHeld2 => ?_)
    clear hK K hHeld
    have hHeld := hHeld2
    clear hHeld2
    try simp only [Act.put, List.setIfInBounds_toArray, List.set_cons_zero, List.set_cons_succ]
    refine wpAnyH_ready (rs := [18]) (by kernel_rfl) (by simp) ?_
    refine (AllReadyH.cons (o := { dst := some 59, op := Op.call { callee := Callee.value (Operand.func 36), args := #[Operand.tmp 58], argTypes := #[84] }, type := 42, pos := "publish.go:70", after := #[{ on := 17, ground := Ground.data }, { on := 10, ground := Ground.chain }], guard := none }) rfl (fun K hK => ?_) AllReadyH.nil)
    go_simp
    go_at_call 36
    refine (HT.out wA a0 b0 HBA.out HA0.out HB0.out).mono ?_
    rintro e wE ⟨rfl, hN, k7⟩
    go_wp2_with fail
    refine hK.out _ _ (k7) (fun hHeld2 => ?_)
    clear hK K hHeld
    have hHeld := hHeld2
    clear hHeld2
    try simp only [Act.put, List.setIfInBounds_toArray, List.set_cons_zero, List.set_cons_succ]
    refine wpAnyH_take (i := 19) (oi := { dst := some 4, op := Op.assign (Operand.tmp 59), type := 42, pos := "publish.go:70", after := #[{ on := 18, ground := Ground.data }, { on := 18, ground := Ground.chain }, { on := 0, ground := Ground.phase }, { on := 1, ground := Ground.phase }, { on := 2, ground := Ground.phase }, { on := 3, ground := Ground.phase }, { on := 4, ground := Ground.phase }, { on := 5, ground := Ground.phase }, { on := 6, ground := Ground.phase }, { on := 7, ground := Ground.phase }, { on := 8, ground := Ground.phase }, { on := 9, ground := Ground.phase }, { on := 10, ground := Ground.phase }, { on := 11, ground := Ground.phase }, { on := 12, ground := Ground.phase }, { on := 13, ground := Ground.phase }, { on := 14, ground := Ground.phase }, { on := 15, ground := Ground.phase }, { on := 16, ground := Ground.phase }, { on := 17, ground := Ground.phase }, { on := 18, ground := Ground.phase }], guard := none }) (v := (.int .i64 (runS D [.sync, .lay s2 0 0, .sync]).2)) rfl (by kernel_rfl) (by kernel_rfl) (by kernel_rfl) (fun _ _ _ h => h) (Or.inl ⟨by rfl, by intro w hS; go_simp⟩) hHeld ?_
    try simp only [Act.put, List.setIfInBounds_toArray, List.set_cons_zero, List.set_cons_succ]
    refine wpAnyH_done (by kernel_rfl) ?_ _
    refine NoPanic.normal ?_
    go_wp2
    go_ret
    exact ⟨rfl, hN⟩
  · have hz1 : (hd != 0) = true := by simpa using hz
    have HH2 := hid (fun w1 hf1 => HH.out w1 hf1 hz1)
    clear hh HH
    go_enter Tryd.func51, Tryd.ntmps51
    have c0 := cell_of_one R0.out
    go_wp2_with (first
      | (go_at_call 40; rw [← W0.out]; refine HL.out.mono ?_; rintro e w1 ⟨rfl, hb1⟩; have HB1 := hid hb1; have c1 := (hb1.cell (p := ⟨w.heap.size, 0, none⟩) (hlt_ R0.out)).trans c0; have HF1 := hid ((HF.out.below HB0.out).below hb1); have c2 := (show w1.cell? ⟨g, 2, none⟩ = some (.int .i64 s.ge) from HF1.out.cell 2); clear hb1)
      | (go_at_call 64; refine (HH2.out w1 HF1.out).mono ?_; rintro e w2 ⟨rfl, rfl⟩)
      | (refine wpList_load_mid_w (by rfl) 31 (.tmp 28) (by rfl) g 1 (by rfl) (supL s) _ (by exact HF1.out.range) Tryd.underlying31 rfl (by rw [size_super]; rfl) ?_)
      | (refine wpList_store_row (by rfl) 31 (.tmp 6) (.tmp 29) (by rfl) w1.heap.size (supC s) (by rfl) (by rfl) 31 _ (by exact hnew _ _) (supN s) (supZ s) (supO s) ?_; rw [setRow_alloc]; have r6 := hnew w1 (.cells (supC s) 31); have b2 := below_new w1 (.cells (supC s) 31); have HF2 := hid (HF1.out.below b2); have e2 := (show (w1.alloc (.cells (supC s) 31)).cell? ⟨w.heap.size, 0, none⟩ = some (.pointer (some ⟨g, 0, none⟩)) from (b2.cell (p := ⟨w.heap.size, 0, none⟩) (hlt_c c1)).trans c1); have n1 : w.heap.size ≠ w1.heap.size := Nat.ne_of_lt (hlt_c c1); have n2 : g ≠ w1.heap.size := Nat.ne_of_lt (hlt_ HF1.out); generalize hw2 : w1.alloc (.cells (supC s) 31) = w2 at *; generalize hG6 : w1.heap.size = G6 at *; have c6 := cell_sup1 r6; have f6 := frozen_of_row _ _ 1 _ _ r6; have c62 := cell_sup2 r6; have f62 := frozen_of_row _ _ 2 _ _ r6; have c63 := cell_sup3 r6; have f63 := frozen_of_row _ _ 3 _ _ r6; have g6 := HF2.out.c6; have g0 := HF2.out.c0; clear c1 c2 c0))
    generalize hw6 : ((w2.setCell ⟨G6, 1, none⟩ (.int .i64 (s.ge + 1))).setCell ⟨G6, 2, none⟩ (.int .i64 nx)).setCell ⟨G6, 3, none⟩ (.int .i64 hd) = w6 at *
    have q1 := heap_setCell_same w2 G6 1 _ _ (.int .i64 (s.ge + 1)) r6
    have q2 := heap_setCell_same _ G6 2 _ _ (.int .i64 nx) q1
    have q3 := heap_setCell_same _ G6 3 _ _ (.int .i64 hd) q2
    rw [hw6] at q3
    have R6 := hid (show w6.heap[G6]? = some (.cells (supC s2) 31 (0, 0)) by rw [q3, HS2.out]; rfl)
    have hsz2 : w1.heap.size ≤ w2.heap.size := by rw [← hw2]; simp
    have B6 : Below w1.heap.size w1 w6 := by
      rw [← hw6, hG6]
      exact (((b2.setCell (p := ⟨G6, 1, none⟩) (Nat.le_refl _) _).setCell (p := ⟨G6, 2, none⟩) (Nat.le_refl _) _).setCell (p := ⟨G6, 3, none⟩) (Nat.le_refl _) _)
    have BW := HB0.out.trans ((HB1.out.trans (B6.mono HB1.out.size)).mono HB0.out.size)
    have D6 := HD.out.below BW
    have F6 := HF.out.below BW
    have G2R : w6.heap[w.heap.size]? = some (.cells #[.pointer (some ⟨g, 0, none⟩)] 49 (0, 0)) := by
      have z := (HB1.out.block _ (hlt_ R0.out)).trans R0.out
      exact (B6.block _ (hlt_ z)).trans z
    generalize hG2 : w.heap.size = G2 at *
    have X6 := hid (show w6.drew.cell? ⟨G2, 0, none⟩ = some (.pointer (some ⟨g, 0, none⟩)) ∧ w6.drew.cell? ⟨g, 0, none⟩ = some (.pointer (some ⟨p, 0, none⟩)) ∧ w6.drew.heap[G6]? = some (.cells (supC s2) 31 (0, 0)) from ⟨cell_of_one G2R, F6.c0, R6.out⟩)
    have HT := hid (fun (wA : World) (a0 b0 : Nat) (hA : Below w6.heap.size w6 wA) (x1 : wA.heap[a0]? = some (.cells #[.pointer (some ⟨p, 0, none⟩)] 24 (0, 0))) (x2 : wA.heap[b0]? = some (.cells (supC s2) 31 (0, 0))) =>
      (show Calls Tryd.prog 36 #[.slice (some ⟨wA.heap.size, 0, none⟩) 4 4] (wA.alloc (.cells #[.func (.func 38) #[.pointer (some ⟨p, 0, none⟩)] #[], .func (.func 57) #[] #[.pointer (some ⟨b0, 0, none⟩), .pointer (some ⟨a0, 0, none⟩)], .func (.func 38) #[.pointer (some ⟨p, 0, none⟩)] #[], .func (.func 71) #[] #[.pointer (some ⟨G6, 0, none⟩), .pointer (some ⟨G2, 0, none⟩)]] 82)) fun e w' => e = .returned (.int .i64 (runS D [.sync, .lay s2 0 0, .sync]).2) ∧ NxF base F p g w (runS D [.sync, .lay s2 0 0, .sync]).1 sF nx ep w' ∧ (w'.cell? ⟨G2, 0, none⟩ = some (.pointer (some ⟨g, 0, none⟩)) ∧ w'.cell? ⟨g, 0, none⟩ = some (.pointer (some ⟨p, 0, none⟩)) ∧ w'.heap[G6]? = some (.cells (supC s2) 31 (0, 0))) from by
        have hx := below_new wA (.cells #[.func (.func 38) #[.pointer (some ⟨p, 0, none⟩)] #[], .func (.func 57) #[] #[.pointer (some ⟨b0, 0, none⟩), .pointer (some ⟨a0, 0, none⟩)], .func (.func 38) #[.pointer (some ⟨p, 0, none⟩)] #[], .func (.func 71) #[] #[.pointer (some ⟨G6, 0, none⟩), .pointer (some ⟨G2, 0, none⟩)]] 82)
        have hAX : Below w6.heap.size w6 (wA.alloc (.cells #[.func (.func 38) #[.pointer (some ⟨p, 0, none⟩)] #[], .func (.func 57) #[] #[.pointer (some ⟨b0, 0, none⟩), .pointer (some ⟨a0, 0, none⟩)], .func (.func 38) #[.pointer (some ⟨p, 0, none⟩)] #[], .func (.func 71) #[] #[.pointer (some ⟨G6, 0, none⟩), .pointer (some ⟨G2, 0, none⟩)]] 82)) := hA.trans (hx.mono hA.size)
        have hDX := D6.below hAX
        have hFX := F6.below hAX
        have y2 := (hAX.block G2 (hlt_ G2R)).trans G2R
        have y6 := (hAX.block G6 (hlt_ R6.out)).trans R6.out
        have hBX : Below w.heap.size w (wA.alloc (.cells #[.func (.func 38) #[.pointer (some ⟨p, 0, none⟩)] #[], .func (.func 57) #[] #[.pointer (some ⟨b0, 0, none⟩), .pointer (some ⟨a0, 0, none⟩)], .func (.func 38) #[.pointer (some ⟨p, 0, none⟩)] #[], .func (.func 71) #[] #[.pointer (some ⟨G6, 0, none⟩), .pointer (some ⟨G2, 0, none⟩)]] 82)) := by rw [hG2]; exact BW.trans (hAX.mono (by have := BW.size; omega))
        rw [HSF.out]
        refine (pubturn_any _ base F p D hDX (by have := hBX.size; omega) g s s2 nx ep hFX hb a0 b0 ⟨hv, hold x1, hold x2⟩ G2 G6 y2 y6 wA.heap.size (hnew _ _)).mono ?_
        rintro e w' ⟨rfl, F', z1, z2, z3, z4⟩
        refine ⟨rfl, ⟨F', z1, z2, ((Fr.of_below hBX).wide g).trans z3 (Gr.refl _ _), fun k hk => (z4 k hk).imp id (fun x => Nat.le_trans hBX.size x)⟩, ?_, z2.c0, ?_⟩
        · exact cell_of_one (z3.keep y2 (fun e => by rcases List.mem_cons.1 e with e | e; exact ne_ty y2 hFX (by decide) e; exact hDX.not_in y2 (by decide) (by decide) (by decide) e))
        · exact z3.keep y6 (fun e => by rcases List.mem_cons.1 e with e | e; exact ne_ty y6 hFX (by decide) e; exact hDX.not_in y6 (by decide) (by decide) (by decide) e)))
    clear q1 q2 q3 D6 F6 B6 BW G2R R6 hb hv HS2 HL HB0 R0 W0 HD HF HF1 HF2 HB1 r6 b2 c6 f6 c62 f62 c63 f63 g6 g0 e2 hw6 hw2 hsz2
    refine wp_region_noPanic ?_
    refine wp_region_held_drew (S := fun w' => w'.cell? ⟨G2, 0, none⟩ = some (.pointer (some ⟨g, 0, none⟩)) ∧ w'.cell? ⟨g, 0, none⟩ = some (.pointer (some ⟨p, 0, none⟩)) ∧ w'.heap[G6]? = some (.cells (supC s2) 31 (0, 0))) (by kernel_rfl) X6.out (fun hHeld => ?_)
    refine wpAnyH_take (i := 0) (oi := { dst := some 41, op := Op.load 49 (Operand.tmp 2), type := 49, pos := "publish.go:70", after := #[], guard := none }) (v := .pointer (some ⟨g, 0, none⟩)) rfl (by kernel_rfl) (by kernel_rfl) (by kernel_rfl) (fun _ _ _ h => h) (Or.inl ⟨by rfl, by intro w hS; have hc := hS.1; go_simp⟩) hHeld ?_
    try simp only [Act.put, List.setIfInBounds_toArray, List.set_cons_zero, List.set_cons_succ]
    refine wpAnyH_take (i := 5) (oi := { dst := some 46, op := Op.load 49 (Operand.tmp 2), type := 49, pos := "publish.go:70", after := #[], guard := none }) (v := .pointer (some ⟨g, 0, none⟩)) rfl (by kernel_rfl) (by kernel_rfl) (by kernel_rfl) (fun _ _ _ h => h) (Or.inl ⟨by rfl, by intro w hS; have hc := hS.1; go_simp⟩) hHeld ?_
    try simp only [Act.put, List.setIfInBounds_toArray, List.set_cons_zero, List.set_cons_succ]
    refine wpAnyH_take (i := 9) (oi := { dst := some 50, op := Op.load 31 (Operand.tmp 6), type := 31, pos := "publish.go:70", after := #[], guard := none }) (v := .agg (supC s2)) rfl (by kernel_rfl) (by kernel_rfl) (by kernel_rfl) (fun _ _ _ h => h) (yieldsIf_load_sup (by rfl) (.tmp 6) rfl G6 rfl s2 (fun w1 hS => hS.2.2)) hHeld ?_
    try simp only [Act.put, List.setIfInBounds_toArray, List.set_cons_zero, List.set_cons_succ]
    refine wpAnyH_take (i := 11) (oi := { dst := some 52, op := Op.load 49 (Operand.tmp 2), type := 49, pos := "publish.go:70", after := #[], guard := none }) (v := .pointer (some ⟨g, 0, none⟩)) rfl (by kernel_rfl) (by kernel_rfl) (by kernel_rfl) (fun _ _ _ h => h) (Or.inl ⟨by rfl, by intro w hS; have hc := hS.1; go_simp⟩) hHeld ?_
    try simp only [Act.put, List.setIfInBounds_toArray, List.set_cons_zero, List.set_cons_succ]
    refine wpAnyH_take (i := 16) (oi := { dst := some 57, op := Op.makeFunc (Fn.func 71) #[] #[Operand.tmp 6, Operand.tmp 2], type := 67, pos := "publish.go:70", after := #[], guard := none }) (v := .func (.func 71) #[] #[.pointer (some ⟨G6, 0, none⟩), .pointer (some ⟨G2, 0, none⟩)]) rfl (by kernel_rfl) (by kernel_rfl) (by kernel_rfl) (fun _ _ _ h => h) (Or.inl ⟨by rfl, by intro w hS; go_simp⟩) hHeld ?_
    try simp only [Act.put, List.setIfInBounds_toArray, List.set_cons_zero, List.set_cons_succ]
    refine wpAnyH_take (i := 1) (oi := { dst := some 42, op := Op.nilCheck (Operand.tmp 41), type := 0, pos := "publish.go:70", after := #[{ on := 0, ground := Ground.data }], guard := none }) (v := .pointer (some ⟨g, 0, none⟩)) rfl (by kernel_rfl) (by kernel_rfl) (by kernel_rfl) (fun _ _ _ h => h) (Or.inl ⟨by rfl, by intro w hS; go_simp⟩) hHeld ?_
    try simp only [Act.put, List.setIfInBounds_toArray, List.set_cons_zero, List.set_cons_succ]
    refine wpAnyH_take (i := 6) (oi := { dst := some 47, op := Op.nilCheck (Operand.tmp 46), type := 0, pos := "publish.go:70", after := #[{ on := 5, ground := Ground.data }], guard := none }) (v := .pointer (some ⟨g, 0, none⟩)) rfl (by kernel_rfl) (by kernel_rfl) (by kernel_rfl) (fun _ _ _ h => h) (Or.inl ⟨by rfl, by intro w hS; go_simp⟩) hHeld ?_
    try simp only [Act.put, List.setIfInBounds_toArray, List.set_cons_zero, List.set_cons_succ]
    refine wpAnyH_take (i := 12) (oi := { dst := some 53, op := Op.nilCheck (Operand.tmp 52), type := 0, pos := "publish.go:70", after := #[{ on := 11, ground := Ground.data }], guard := none }) (v := .pointer (some ⟨g, 0, none⟩)) rfl (by kernel_rfl) (by kernel_rfl) (by kernel_rfl) (fun _ _ _ h => h) (Or.inl ⟨by rfl, by intro w hS; go_simp⟩) hHeld ?_
    try simp only [Act.put, List.setIfInBounds_toArray, List.set_cons_zero, List.set_cons_succ]
    refine wpAnyH_take (i := 2) (oi := { dst := some 43, op := Op.fieldAddr 86 (Operand.tmp 42) 0, type := 0, pos := "publish.go:70", after := #[{ on := 1, ground := Ground.data }], guard := none }) (v := .pointer (some ⟨g, 0, none⟩)) rfl (by kernel_rfl) (by kernel_rfl) (by kernel_rfl) (fun _ _ _ h => h) (Or.inl ⟨by rfl, by intro w hS; go_simp⟩) hHeld ?_
    try simp only [Act.put, List.setIfInBounds_toArray, List.set_cons_zero, List.set_cons_succ]
    refine wpAnyH_take (i := 7) (oi := { dst := some 48, op := Op.fieldAddr 86 (Operand.tmp 47) 0, type := 0, pos := "publish.go:70", after := #[{ on := 6, ground := Ground.data }], guard := none }) (v := .pointer (some ⟨g, 0, none⟩)) rfl (by kernel_rfl) (by kernel_rfl) (by kernel_rfl) (fun _ _ _ h => h) (Or.inl ⟨by rfl, by intro w hS; go_simp⟩) hHeld ?_
    try simp only [Act.put, List.setIfInBounds_toArray, List.set_cons_zero, List.set_cons_succ]
    refine wpAnyH_take (i := 13) (oi := { dst := some 54, op := Op.fieldAddr 86 (Operand.tmp 53) 0, type := 0, pos := "publish.go:70", after := #[{ on := 12, ground := Ground.data }], guard := none }) (v := .pointer (some ⟨g, 0, none⟩)) rfl (by kernel_rfl) (by kernel_rfl) (by kernel_rfl) (fun _ _ _ h => h) (Or.inl ⟨by rfl, by intro w hS; go_simp⟩) hHeld ?_
    try simp only [Act.put, List.setIfInBounds_toArray, List.set_cons_zero, List.set_cons_succ]
    refine wpAnyH_take (i := 3) (oi := { dst := some 44, op := Op.load 24 (Operand.tmp 43), type := 24, pos := "publish.go:70", after := #[{ on := 2, ground := Ground.data }], guard := none }) (v := .pointer (some ⟨p, 0, none⟩)) rfl (by kernel_rfl) (by kernel_rfl) (by kernel_rfl) (fun _ _ _ h => h) (Or.inl ⟨by rfl, by intro w hS; have hc := hS.2.1; go_simp⟩) hHeld ?_
    try simp only [Act.put, List.setIfInBounds_toArray, List.set_cons_zero, List.set_cons_succ]
    refine wpAnyH_take (i := 8) (oi := { dst := some 49, op := Op.load 24 (Operand.tmp 48), type := 24, pos := "publish.go:70", after := #[{ on := 7, ground := Ground.data }], guard := none }) (v := .pointer (some ⟨p, 0, none⟩)) rfl (by kernel_rfl) (by kernel_rfl) (by kernel_rfl) (fun _ _ _ h => h) (Or.inl ⟨by rfl, by intro w hS; have hc := hS.2.1; go_simp⟩) hHeld ?_
    try simp only [Act.put, List.setIfInBounds_toArray, List.set_cons_zero, List.set_cons_succ]
    refine wpAnyH_take (i := 14) (oi := { dst := some 55, op := Op.load 24 (Operand.tmp 54), type := 24, pos := "publish.go:70", after := #[{ on := 13, ground := Ground.data }], guard := none }) (v := .pointer (some ⟨p, 0, none⟩)) rfl (by kernel_rfl) (by kernel_rfl) (by kernel_rfl) (fun _ _ _ h => h) (Or.inl ⟨by rfl, by intro w hS; have hc := hS.2.1; go_simp⟩) hHeld ?_
    try simp only [Act.put, List.setIfInBounds_toArray, List.set_cons_zero, List.set_cons_succ]
    refine wpAnyH_take (i := 4) (oi := { dst := some 45, op := Op.makeFunc (Fn.func 38) #[Operand.tmp 44] #[], type := 67, pos := "publish.go:70", after := #[{ on := 3, ground := Ground.data }], guard := none }) (v := .func (.func 38) #[.pointer (some ⟨p, 0, none⟩)] #[]) rfl (by kernel_rfl) (by kernel_rfl) (by kernel_rfl) (fun _ _ _ h => h) (Or.inl ⟨by rfl, by intro w hS; go_simp⟩) hHeld ?_
    try simp only [Act.put, List.setIfInBounds_toArray, List.set_cons_zero, List.set_cons_succ]
    refine wpAnyH_take (i := 15) (oi := { dst := some 56, op := Op.makeFunc (Fn.func 38) #[Operand.tmp 55] #[], type := 67, pos := "publish.go:70", after := #[{ on := 14, ground := Ground.data }], guard := none }) (v := .func (.func 38) #[.pointer (some ⟨p, 0, none⟩)] #[]) rfl (by kernel_rfl) (by kernel_rfl) (by kernel_rfl) (fun _ _ _ h => h) (Or.inl ⟨by rfl, by intro w hS; go_simp⟩) hHeld ?_
    try simp only [Act.put, List.setIfInBounds_toArray, List.set_cons_zero, List.set_cons_succ]
    refine wpAnyH_ready (rs := [10]) (by kernel_rfl) (by simp) ?_
    refine (AllReadyH.cons (o := { dst := some 51, op := Op.call { callee := Callee.value (Operand.func 37), args := #[Operand.tmp 49, Operand.tmp 50], argTypes := #[24, 31] }, type := 82, pos := "publish.go:70", after := #[{ on := 8, ground := Ground.data }, { on := 9, ground := Ground.data }], guard := none }) rfl (fun K hK => ?_) AllReadyH.nil)
    go_simp
    go_at_call 37
    refine (laying_any _ p s2).mono ?_
    rintro e wA ⟨a0, b0, rfl, ha0, hb0, na0, nb0, hBA⟩
    have HA0 := hid ha0
    have HB0 := hid hb0
    have HBA := hid (⟨hBA.os, hBA.tape, hBA.output, hBA.size, hBA.block⟩ : Below w6.heap.size w6 wA)
    go_wp2_with fail
    refine hK.out _ _ (⟨(hBA.cell (p := ⟨G2, 0, none⟩) (hlt_c hHeld.1)).trans hHeld.1, (hBA.cell (p := ⟨g, 0, none⟩) (hlt_c hHeld.2.1)).trans hHeld.2.1, (hBA.block G6 (hlt_ hHeld.2.2)).trans hHeld.2.2⟩) (fun hHeld2 => ?_)
    clear hK K hHeld
    have hHeld := hHeld2
    clear hHeld2
    clear ha0 hb0 hBA
    try simp only [Act.put, List.setIfInBounds_toArray, List.set_cons_zero, List.set_cons_succ]
    refine wpAnyH_ready (rs := [17]) (by kernel_rfl) (by simp) ?_
    refine (AllReadyH.cons (o := { dst := some 58, op := Op.buildSlice 84 4 #[(0, Operand.tmp 45), (1, Operand.tmp 51), (2, Operand.tmp 56), (3, Operand.tmp 57)], type := 84, pos := "publish.go:70", after := #[{ on := 4, ground := Ground.data }, { on := 10, ground := Ground.data }, { on := 15, ground := Ground.data }, { on := 16, ground := Ground.data }], guard := none }) rfl (fun K hK => ?_) AllReadyH.nil)
    refine step_steps (by rfl) (.tmp 45) (.tmp 51) (.tmp 56) (.tmp 57) rfl _ _ _ _ _ _ _ _ _ _ _ _ rfl rfl rfl rfl ?_
    refine hK.out _ _ (⟨((below_new _ _).cell (p := ⟨G2, 0, none⟩) (hlt_c hHeld.1)).trans hHeld.1, ((below_new _ _).cell (p := ⟨g, 0, none⟩) (hlt_c hHeld.2.1)).trans hHeld.2.1, hold hHeld.2.2⟩) (fun hHeld2 => ?_)
    clear hK K hHeld
    have hHeld := hHeld2
    clear hHeld2
    try simp only [Act.put, List.setIfInBounds_toArray, List.set_cons_zero, List.set_cons_succ]
    refine wpAnyH_ready (rs := [18]) (by kernel_rfl) (by simp) ?_
    refine (AllReadyH.cons (o := { dst := some 59, op := Op.call { callee := Callee.value (Operand.func 36), args := #[Operand.tmp 58], argTypes := #[84] }, type := 42, pos := "publish.go:70", after := #[{ on := 17, ground := Ground.data }, { on := 10, ground := Ground.chain }], guard := none }) rfl (fun K hK => ?_) AllReadyH.nil)
    go_simp
    go_at_call 36
    refine (HT.out wA a0 b0 HBA.out HA0.out HB0.out).mono ?_
    rintro e wE ⟨rfl, hN, k7⟩
    go_wp2_with fail
    refine hK.out _ _ (k7) (fun hHeld2 => ?_)
    clear hK K hHeld
    have hHeld := hHeld2
    clear hHeld2
    try simp only [Act.put, List.setIfInBounds_toArray, List.set_cons_zero, List.set_cons_succ]
    refine wpAnyH_take (i := 19) (oi := { dst := some 4, op := Op.assign (Operand.tmp 59), type := 42, pos := "publish.go:70", after := #[{ on := 18, ground := Ground.data }, { on := 18, ground := Ground.chain }, { on := 0, ground := Ground.phase }, { on := 1, ground := Ground.phase }, { on := 2, ground := Ground.phase }, { on := 3, ground := Ground.phase }, { on := 4, ground := Ground.phase }, { on := 5, ground := Ground.phase }, { on := 6, ground := Ground.phase }, { on := 7, ground := Ground.phase }, { on := 8, ground := Ground.phase }, { on := 9, ground := Ground.phase }, { on := 10, ground := Ground.phase }, { on := 11, ground := Ground.phase }, { on := 12, ground := Ground.phase }, { on := 13, ground := Ground.phase }, { on := 14, ground := Ground.phase }, { on := 15, ground := Ground.phase }, { on := 16, ground := Ground.phase }, { on := 17, ground := Ground.phase }, { on := 18, ground := Ground.phase }], guard := none }) (v := (.int .i64 (runS D [.sync, .lay s2 0 0, .sync]).2)) rfl (by kernel_rfl) (by kernel_rfl) (by kernel_rfl) (fun _ _ _ h => h) (Or.inl ⟨by rfl, by intro w hS; go_simp⟩) hHeld ?_
    try simp only [Act.put, List.setIfInBounds_toArray, List.set_cons_zero, List.set_cons_succ]
    refine wpAnyH_done (by kernel_rfl) ?_ _
    refine NoPanic.normal ?_
    go_wp2
    go_ret
    exact ⟨rfl, hN⟩
end Go.Proofs.YtaefjlbonflmdaaDoor
