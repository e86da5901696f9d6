import Derived.Test.YtihkjfbhmlfonaaSa2
namespace Go.Proofs.Ytihkjfbhmlfonaa.Ca
set_option linter.unusedVariables false
set_option linter.unusedSimpArgs false
open Go.RowKit
attribute [local go_sem ↓] Go.wp_at_zero Go.wp_at_succ

def talL (h8 h9 h10 : Int) : List Value := [.int .i64 h8, .int .i64 h9, .int .i64 h10, .int .i64 0, .int .i64 0]
theorem size_tally : (Try.prog.info? 43).map (·.size) = some 5 := by kernel_rfl
theorem results_c1 {P : Program} {fn : Func} {p : Tmp} {ty : TypeId} (h : fn.results = #[.cell p ty]) (tmps : Array Value) (w : World) (g : Nat) (t : TypeId) (cs : Array Value) (fr : Nat × Nat) (d : TypeDesc)
    (hp : tmps.getD p undef = .pointer (some ⟨g, 0, none⟩)) (hg : w.heap[g]? = some (.cells cs t fr))
    (hu : P.underlying ty = some d) (hd : (match d with | .struct _ | .array _ _ => true | _ => false) = true) (hi : (P.info? ty).map (·.size) = some cs.size) :
    (results fn tmps).run P w = .ok (.agg cs) w := by
  have hp' : tmps[p]?.getD undef = .pointer (some ⟨g, 0, none⟩) := by simpa using hp
  simp [results, h, hp', asAddr, run_loadVar_row w g t ty cs fr d hg hu hd hi]
theorem setCell_below {w w1 : World} {B : Nat} (h : Below B w w1) {g : Nat} (hg : B ≤ g) (o : Nat) (v : Value) : Below B w (w1.setCell ⟨g, o, none⟩ v) :=
  ⟨h.os, h.tape, h.output, by rw [World.size_setCell]; exact h.size, fun k hk => (heap_setCell_other w1 ⟨g, o, none⟩ k v (by show k ≠ g; omega)).trans (h.block k hk)⟩
theorem hnew2 (w : World) (A B : Obj) : ((w.alloc A).alloc B).heap[w.heap.size + 1]? = some B := by have := hnew (w.alloc A) B; simpa using this
theorem hold2 (w : World) (A B : Obj) : ((w.alloc A).alloc B).heap[w.heap.size]? = some A := hold (hnew w A)
theorem setRow_alloc2 (w : World) (A : Obj) (cs ds : Array Value) (t : TypeId) (fr : Nat × Nat) : ((w.alloc A).alloc (.cells cs t fr)).setRow (w.heap.size + 1) ds = (w.alloc A).alloc (.cells ds t fr) := by
  have := setRow_alloc (w.alloc A) cs ds t fr
  simpa using this
theorem below2 (w : World) (A B : Obj) : Below w.heap.size w ((w.alloc A).alloc B) := ((Below.refl _ w).alloc (Nat.le_refl _) _).alloc (by simp) _
def zer5 : Array Value := #[.int .i64 0, .int .i64 0, .int .i64 0, .int .i64 0, .int .i64 0]
theorem talN (a b c : Int) : (Try.prog.info? 43).map (·.size) = some (talL a b c).toArray.size := by rw [size_tally]; rfl
theorem talZ (a b c : Int) : (#[.int .i64 0, .int .i64 0, .int .i64 0, .int .i64 0, .int .i64 0] : Array Value).size = (talL a b c).toArray.size := rfl
theorem talO (a b c : Int) : (talL a b c).toArray.all (·.oneCell') = true := by simp [talL, Value.oneCell']
theorem tal2N (a b c d e : Int) : (Try.prog.info? 43).map (·.size) = some (#[.int .i64 a, .int .i64 b, .int .i64 c, .int .i64 d, .int .i64 e] : Array Value).size := by rw [size_tally]; rfl
theorem tal2Z (a b c d e : Int) : (#[.int .i64 0, .int .i64 0, .int .i64 0, .int .i64 0, .int .i64 0] : Array Value).size = (#[.int .i64 a, .int .i64 b, .int .i64 c, .int .i64 d, .int .i64 e] : Array Value).size := rfl
theorem tal2O (a b c d e : Int) : (#[.int .i64 a, .int .i64 b, .int .i64 c, .int .i64 d, .int .i64 e] : Array Value).all (·.oneCell') = true := by simp [Value.oneCell']
theorem tal_s (w : World) (p : Nat) (h8 h9 h10 C D : Int) (h4 : ∀ o1 o2, ((w.alloc o1).alloc o2).cell? ⟨p, 4, none⟩ = some (.int .i64 C)) (h7 : ∀ o1 o2, ((w.alloc o1).alloc o2).cell? ⟨p, 7, none⟩ = some (.int .i64 D)) :
    ((w.alloc (.cells zer5 43)).alloc (.cells (talL h8 h9 h10).toArray 43)).cell? ⟨p, 4, none⟩ = some (.int .i64 C) ∧ ((w.alloc (.cells zer5 43)).alloc (.cells (talL h8 h9 h10).toArray 43)).cell? ⟨p, 7, none⟩ = some (.int .i64 D) ∧ ∃ x y, ((w.alloc (.cells zer5 43)).alloc (.cells (talL h8 h9 h10).toArray 43)).heap[w.heap.size + 1]? = some (.cells #[.int .i64 h8, .int .i64 h9, .int .i64 h10, .int .i64 x, .int .i64 y] 43 (0, 0)) :=
  ⟨h4 _ _, h7 _ _, 0, 0, hnew2 w _ _⟩
set_option maxRecDepth 100000 in
set_option maxHeartbeats 1000000 in
theorem Tally_any (w : World) (base : Nat) (F : List Nat) (p N : Nat) (a : AS Int Ct) (h : CA w base F p N a) :
    Calls Try.prog 22 #[.pointer (some ⟨p, 0, none⟩)] w fun x w' => x = .returned (.agg #[.int .i64 a.hits, .int .i64 a.misses, .int .i64 a.gone, .int .i64 a.clean.length, .int .i64 a.held.length]) ∧ Below w.heap.size w w' := by
  obtain ⟨m, n, s, L, rfl, hC, hA, h1, h2, h3⟩ := h
  have hrg : ∀ o1, (w.alloc o1).rangeAt p 8 (talL a.hits a.misses a.gone) := fun o1 j u hu => by
    have := (hC.alloc o1)
    rw [← hA.hits, ← hA.misses, ← hA.gone] at hu
    unfold talL at hu
    match j, hu with
    | 0, hu => cases hu; exact this.c8
    | 1, hu => cases hu; exact this.c9
    | 2, hu => cases hu; exact this.c10
    | 3, hu => cases hu; rw [cell_of_row _ _ _ _ _ _ this.cell]; rfl
    | 4, hu => cases hu; rw [cell_of_row _ _ _ _ _ _ this.cell]; rfl
    | j + 5, hu => simp at hu
  have hc4 : s.cl.count = (a.clean.length : Int) := by have := (hA.ref.row true).count; rw [hA.lenC] at this; exact this
  have hc7 : s.hd.count = (a.held.length : Int) := by have := (hA.ref.row false).count; rw [hA.lenH] at this; exact this
  have HC4 := hid (fun o1 o2 => (hc4 ▸ ((hC.alloc o1).alloc o2).c4 : ((w.alloc o1).alloc o2).cell? ⟨p, 4, none⟩ = some (.int .i64 (a.clean.length : Int))))
  have HC7 := hid (fun o1 o2 => (hc7 ▸ ((hC.alloc o1).alloc o2).c7 : ((w.alloc o1).alloc o2).cell? ⟨p, 7, none⟩ = some (.int .i64 (a.held.length : Int))))
  have HRG := hid hrg
  have HPG := hid (show w.heap.size + 1 ≠ p by have := hlt hC.cell; omega)
  clear hC hA h1 h2 h3 hrg hc4 hc7
  generalize (a.clean.length : Int) = C at *
  generalize (a.held.length : Int) = D at *
  generalize (a.hits : Int) = h8 at *
  generalize (a.misses : Int) = h9 at *
  generalize (a.gone : Int) = h10 at *
  go_enter Try.func22, Try.ntmps22
  go_wp2_with (first
    | (refine wpList_load_mid_w (by rfl) 43 (.tmp 6) (by rfl) p 8 (by rfl) (talL h8 h9 h10) _ (by exact HRG.out _) Try.underlying43 rfl (by rw [size_tally]; rfl) ?_)
    | (refine wpList_store_row (by rfl) 43 (.tmp 3) (.tmp 7) (by rfl) (w.heap.size + 1) (talL h8 h9 h10).toArray (by rfl) (by rfl) 43 _ (by exact hnew2 _ _ _) (talN h8 h9 h10) (talZ h8 h9 h10) (talO h8 h9 h10) ?_; rw [setRow_alloc2]; have HB2 := hid (below2 w (.cells zer5 43) (.cells (talL h8 h9 h10).toArray 43)); have HS := hid (tal_s w p h8 h9 h10 C D HC4.out HC7.out); have HG0 := hid (hold2 w (.cells zer5 43) (.cells (talL h8 h9 h10).toArray 43))))
  have HZ := hid (show zer5 = #[.int .i64 0, .int .i64 0, .int .i64 0, .int .i64 0, .int .i64 0] from rfl)
  rw [HZ.out] at HB2 HS HG0
  clear HZ HC4 HC7 HRG
  generalize (w.alloc (.cells #[.int .i64 0, .int .i64 0, .int .i64 0, .int .i64 0, .int .i64 0] 43)).alloc (.cells (talL h8 h9 h10).toArray 43) = w2 at *
  generalize hG : w.heap.size + 1 = G at *
  generalize hH : w.heap.size = H at *
  refine wp_region_noPanic ?_
  refine wp_region_held_drew (S := fun w' => w'.cell? ⟨p, 4, none⟩ = some (.int .i64 C) ∧ w'.cell? ⟨p, 7, none⟩ = some (.int .i64 D) ∧ ∃ x y, w'.heap[G]? = some (.cells #[.int .i64 h8, .int .i64 h9, .int .i64 h10, .int .i64 x, .int .i64 y] 43 (0, 0))) (by kernel_rfl) HS.out (fun hHeld => ?_)
  refine wpAnyH_take (i := 0) (oi := { dst := some 8, op := Op.move (Operand.tmp 0), type := 76, pos := "cache.go:95", after := #[], guard := none }) (v := .pointer (some ⟨p, 0, none⟩)) rfl (by kernel_rfl) (by kernel_rfl) (by kernel_rfl) (fun _ _ _ h => h) (Or.inl ⟨by rfl, by intro w hS; go_simp⟩) hHeld ?_
  try simp only [Act.put, List.setIfInBounds_toArray, List.set_cons_zero, List.set_cons_succ]
  refine wpAnyH_take (i := 5) (oi := { dst := some 13, op := Op.move (Operand.tmp 0), type := 76, pos := "cache.go:95", after := #[{ on := 11, ground := Ground.gcOnly Departure.lateStores }], guard := none }) (v := .pointer (some ⟨p, 0, none⟩)) rfl (by kernel_rfl) (by kernel_rfl) (by kernel_rfl) (fun _ _ _ h => h) (Or.inl ⟨by rfl, by intro w hS; go_simp⟩) hHeld ?_
  try simp only [Act.put, List.setIfInBounds_toArray, List.set_cons_zero, List.set_cons_succ]
  refine wpAnyH_take (i := 1) (oi := { dst := some 9, op := Op.nilCheck (Operand.tmp 8), type := 0, pos := "cache.go:95", after := #[{ on := 0, ground := Ground.data }], guard := none }) (v := .pointer (some ⟨p, 0, none⟩)) rfl (by kernel_rfl) (by kernel_rfl) (by kernel_rfl) (fun _ _ _ h => h) (Or.inl ⟨by rfl, by intro w hS; go_simp⟩) hHeld ?_
  try simp only [Act.put, List.setIfInBounds_toArray, List.set_cons_zero, List.set_cons_succ]
  refine wpAnyH_take (i := 6) (oi := { dst := some 14, op := Op.nilCheck (Operand.tmp 13), type := 0, pos := "cache.go:95", after := #[{ on := 5, ground := Ground.data }, { on := 11, ground := Ground.gcOnly Departure.lateStores }], guard := none }) (v := .pointer (some ⟨p, 0, none⟩)) rfl (by kernel_rfl) (by kernel_rfl) (by kernel_rfl) (fun _ _ _ h => h) (Or.inl ⟨by rfl, by intro w hS; go_simp⟩) hHeld ?_
  try simp only [Act.put, List.setIfInBounds_toArray, List.set_cons_zero, List.set_cons_succ]
  refine wpAnyH_take (i := 2) (oi := { dst := some 10, op := Op.fieldAddr 108 (Operand.tmp 9) 2, type := 0, pos := "cache.go:95", after := #[{ on := 1, ground := Ground.data }], guard := none }) (v := .pointer (some ⟨p, 2, none⟩)) rfl (by kernel_rfl) (by kernel_rfl) (by kernel_rfl) (fun _ _ _ h => h) (Or.inl ⟨by rfl, by intro w hS; go_simp⟩) hHeld ?_
  try simp only [Act.put, List.setIfInBounds_toArray, List.set_cons_zero, List.set_cons_succ]
  refine wpAnyH_take (i := 7) (oi := { dst := some 15, op := Op.fieldAddr 108 (Operand.tmp 14) 3, type := 0, pos := "cache.go:95", after := #[{ on := 6, ground := Ground.data }, { on := 11, ground := Ground.gcOnly Departure.lateStores }], guard := none }) (v := .pointer (some ⟨p, 5, none⟩)) rfl (by kernel_rfl) (by kernel_rfl) (by kernel_rfl) (fun _ _ _ h => h) (Or.inl ⟨by rfl, by intro w hS; go_simp⟩) hHeld ?_
  try simp only [Act.put, List.setIfInBounds_toArray, List.set_cons_zero, List.set_cons_succ]
  refine wpAnyH_take (i := 3) (oi := { dst := some 11, op := Op.fieldAddr 106 (Operand.tmp 10) 2, type := 0, pos := "cache.go:95", after := #[{ on := 2, ground := Ground.data }], guard := none }) (v := .pointer (some ⟨p, 4, none⟩)) rfl (by kernel_rfl) (by kernel_rfl) (by kernel_rfl) (fun _ _ _ h => h) (Or.inl ⟨by rfl, by intro w hS; go_simp⟩) hHeld ?_
  try simp only [Act.put, List.setIfInBounds_toArray, List.set_cons_zero, List.set_cons_succ]
  refine wpAnyH_take (i := 8) (oi := { dst := some 16, op := Op.fieldAddr 106 (Operand.tmp 15) 2, type := 0, pos := "cache.go:95", after := #[{ on := 7, ground := Ground.data }, { on := 11, ground := Ground.gcOnly Departure.lateStores }], guard := none }) (v := .pointer (some ⟨p, 7, none⟩)) rfl (by kernel_rfl) (by kernel_rfl) (by kernel_rfl) (fun _ _ _ h => h) (Or.inl ⟨by rfl, by intro w hS; go_simp⟩) hHeld ?_
  try simp only [Act.put, List.setIfInBounds_toArray, List.set_cons_zero, List.set_cons_succ]
  refine wpAnyH_take (i := 4) (oi := { dst := some 12, op := Op.load 3 (Operand.tmp 11), type := 3, pos := "cache.go:95", after := #[{ on := 3, ground := Ground.data }], guard := none }) (v := .int .i64 C) rfl (by kernel_rfl) (by kernel_rfl) (by kernel_rfl) (fun _ _ _ h => h) (Or.inl ⟨by rfl, by intro w hS; have hc := hS.1; go_simp⟩) hHeld ?_
  try simp only [Act.put, List.setIfInBounds_toArray, List.set_cons_zero, List.set_cons_succ]
  refine wpAnyH_take (i := 9) (oi := { dst := some 17, op := Op.load 3 (Operand.tmp 16), type := 3, pos := "cache.go:95", after := #[{ on := 8, ground := Ground.data }, { on := 11, ground := Ground.gcOnly Departure.lateStores }], guard := none }) (v := .int .i64 D) rfl (by kernel_rfl) (by kernel_rfl) (by kernel_rfl) (fun _ _ _ h => h) (Or.inl ⟨by rfl, by intro w hS; have hc := hS.2.1; go_simp⟩) hHeld ?_
  try simp only [Act.put, List.setIfInBounds_toArray, List.set_cons_zero, List.set_cons_succ]
  refine wpAnyH_take (i := 10) (oi := { dst := some 18, op := Op.fieldAddr 43 (Operand.tmp 3) 3, type := 0, pos := "cache.go:95", after := #[{ on := 0, ground := Ground.phase }, { on := 1, ground := Ground.phase }, { on := 2, ground := Ground.phase }, { on := 3, ground := Ground.phase }, { on := 4, ground := Ground.phase }, { on := 5, ground := Ground.textOnly Departure.lateStores }, { on := 6, ground := Ground.textOnly Departure.lateStores }, { on := 7, ground := Ground.textOnly Departure.lateStores }, { on := 8, ground := Ground.textOnly Departure.lateStores }, { on := 9, ground := Ground.textOnly Departure.lateStores }], guard := none }) (v := .pointer (some ⟨G, 3, none⟩)) rfl (by kernel_rfl) (by kernel_rfl) (by kernel_rfl) (fun _ _ _ h => h) (Or.inl ⟨by rfl, by intro w hS; go_simp⟩) hHeld ?_
  try simp only [Act.put, List.setIfInBounds_toArray, List.set_cons_zero, List.set_cons_succ]
  refine wpAnyH_ready (rs := [11]) (by kernel_rfl) (by simp) ?_
  refine (AllReadyH.cons (o := { dst := none, op := Op.store 3 (Operand.tmp 18) (Operand.tmp 12), type := 0, pos := "cache.go:95", after := #[{ on := 10, ground := Ground.data }, { on := 4, ground := Ground.data }, { on := 0, ground := Ground.phase }, { on := 1, ground := Ground.phase }, { on := 2, ground := Ground.phase }, { on := 3, ground := Ground.phase }, { on := 4, ground := Ground.phase }, { on := 5, ground := Ground.textOnly Departure.lateStores }, { on := 6, ground := Ground.textOnly Departure.lateStores }, { on := 7, ground := Ground.textOnly Departure.lateStores }, { on := 8, ground := Ground.textOnly Departure.lateStores }, { on := 9, ground := Ground.textOnly Departure.lateStores }], guard := none }) rfl (fun K hK => ?_) AllReadyH.nil)
  obtain ⟨hq1, hq2, x, y, hq3⟩ := id hHeld
  have cz := cell_of_row _ G 3 _ _ _ hq3
  have fz := frozen_of_row _ G 3 _ _ hq3
  simp only [List.getElem?_toArray, List.getElem?_cons_succ, List.getElem?_cons_zero] at cz
  go_simp
  refine hK.out _ _ (⟨(World.cell?_setCell_far _ _ _ _ HPG.out).trans hq1, (World.cell?_setCell_far _ _ _ _ HPG.out).trans hq2, C, y, (heap_setCell_same _ G 3 _ _ (.int .i64 C) hq3).trans rfl⟩) (fun hHeld2 => ?_)
  clear hK K hHeld
  have hHeld := hHeld2
  clear hHeld2
  have HQ3 := hid hq3
  clear hq1 hq2 hq3 cz fz
  try simp only [Act.put, List.setIfInBounds_toArray, List.set_cons_zero, List.set_cons_succ]
  refine wpAnyH_take (i := 12) (oi := { dst := some 19, op := Op.fieldAddr 43 (Operand.tmp 3) 4, type := 0, pos := "cache.go:95", after := #[{ on := 0, ground := Ground.phase }, { on := 1, ground := Ground.phase }, { on := 2, ground := Ground.phase }, { on := 3, ground := Ground.phase }, { on := 4, ground := Ground.phase }, { on := 5, ground := Ground.phase }, { on := 6, ground := Ground.phase }, { on := 7, ground := Ground.phase }, { on := 8, ground := Ground.phase }, { on := 9, ground := Ground.phase }, { on := 10, ground := Ground.phase }, { on := 11, ground := Ground.phase }], guard := none }) (v := .pointer (some ⟨G, 4, none⟩)) rfl (by kernel_rfl) (by kernel_rfl) (by kernel_rfl) (fun _ _ _ h => h) (Or.inl ⟨by rfl, by intro w hS; go_simp⟩) hHeld ?_
  try simp only [Act.put, List.setIfInBounds_toArray, List.set_cons_zero, List.set_cons_succ]
  refine wpAnyH_ready (rs := [13]) (by kernel_rfl) (by simp) ?_
  refine (AllReadyH.cons (o := { dst := none, op := Op.store 3 (Operand.tmp 19) (Operand.tmp 17), type := 0, pos := "cache.go:95", after := #[{ on := 12, ground := Ground.data }, { on := 9, ground := Ground.data }, { on := 11, ground := Ground.chain }, { on := 0, ground := Ground.phase }, { on := 1, ground := Ground.phase }, { on := 2, ground := Ground.phase }, { on := 3, ground := Ground.phase }, { on := 4, ground := Ground.phase }, { on := 5, ground := Ground.phase }, { on := 6, ground := Ground.phase }, { on := 7, ground := Ground.phase }, { on := 8, ground := Ground.phase }, { on := 9, ground := Ground.phase }, { on := 10, ground := Ground.phase }, { on := 11, ground := Ground.phase }], guard := none }) rfl (fun K hK => ?_) AllReadyH.nil)
  obtain ⟨hq1, hq2, x, y, hq3⟩ := id hHeld
  have cz := cell_of_row _ G 4 _ _ _ hq3
  have fz := frozen_of_row _ G 4 _ _ hq3
  simp only [List.getElem?_toArray, List.getElem?_cons_succ, List.getElem?_cons_zero] at cz
  go_simp
  refine hK.out _ _ (⟨(World.cell?_setCell_far _ _ _ _ HPG.out).trans hq1, (World.cell?_setCell_far _ _ _ _ HPG.out).trans hq2, x, D, (heap_setCell_same _ G 4 _ _ (.int .i64 D) hq3).trans rfl⟩) (fun hHeld2 => ?_)
  clear hK K hHeld
  have hHeld := hHeld2
  clear hHeld2
  have HQ4 := hid hq3
  clear hq1 hq2 hq3 cz fz
  try simp only [Act.put, List.setIfInBounds_toArray, List.set_cons_zero, List.set_cons_succ]
  refine wpAnyH_done (by kernel_rfl) ?_ _
  refine NoPanic.normal ?_
  have r5 : (((w2.setCell ⟨G, 3, none⟩ (.int .i64 C)).setCell ⟨G, 4, none⟩ (.int .i64 D)).drew).heap[G]? = some (.cells #[.int .i64 h8, .int .i64 h9, .int .i64 h10, .int .i64 C, .int .i64 D] 43 (0, 0)) := by
    have r3 := heap_setCell_same w2 G 3 _ _ (.int .i64 C) HQ3.out
    exact (heap_setCell_same _ G 4 _ _ (.int .i64 D) r3).trans rfl
  have r0 : (((w2.setCell ⟨G, 3, none⟩ (.int .i64 C)).setCell ⟨G, 4, none⟩ (.int .i64 D)).drew).heap[H]? = some (.cells #[.int .i64 0, .int .i64 0, .int .i64 0, .int .i64 0, .int .i64 0] 43 (0, 0)) := by
    exact (heap_setCell_other _ _ _ _ (by show H ≠ G; omega)).trans ((heap_setCell_other _ _ _ _ (by show H ≠ G; omega)).trans HG0.out)
  have hb : Below H w (((w2.setCell ⟨G, 3, none⟩ (.int .i64 C)).setCell ⟨G, 4, none⟩ (.int .i64 D)).drew) := (setCell_below (setCell_below HB2.out (by omega) _ _) (by omega) _ _).drew
  have HB5 := hid hb
  have HR5 := hid r5
  have HR0 := hid r0
  clear HQ3 HQ4 hb r5 r0 hHeld HS HG0
  generalize ((w2.setCell ⟨G, 3, none⟩ (.int .i64 C)).setCell ⟨G, 4, none⟩ (.int .i64 D)).drew = w5 at *
  go_wp2_with (first
    | (refine wpList_load_row_w (by rfl) 43 (.tmp 3) (by rfl) G (by rfl) 43 _ _ _ (by exact HR5.out) Try.underlying43 rfl (by rw [size_tally]; rfl) ?_)
    | (refine wpList_store_row (by rfl) 43 (.tmp 2) (.tmp 20) (by rfl) H #[.int .i64 h8, .int .i64 h9, .int .i64 h10, .int .i64 C, .int .i64 D] (by rfl) (by rfl) 43 _ (by exact HR0.out) (tal2N h8 h9 h10 C D) (tal2Z h8 h9 h10 C D) (tal2O h8 h9 h10 C D) ?_))
  refine bodyPost_ret (results_c1 Try.results22 _ _ H 43 #[.int .i64 h8, .int .i64 h9, .int .i64 h10, .int .i64 C, .int .i64 D] _ _ rfl (setRow_heap _ _ _ _ _ _ HR0.out) Try.underlying43 rfl (by rw [size_tally]; rfl)) rfl ?_
  exact ⟨rfl, by rw [hH]; exact below_setRow HB5.out (Nat.le_refl _) _⟩
end Go.Proofs.Ytihkjfbhmlfonaa.Ca
