import Derived.Test.YtbpamknebjdicaaK13
namespace Go.Proofs.Ytbpamknebjdicaa.K2
set_option linter.unusedVariables false
set_option linter.unusedSimpArgs false
open Go.RowKit
attribute [local go_sem ↓] Go.wp_at_zero Go.wp_at_succ


set_option maxHeartbeats 400000 in
theorem Keys_any (w : World) (base : Nat) (F : List Nat) (p N : Nat) (a : AS Int Int) (h : CA w base F p N a) (hN : N < 4398046511104) :
    Calls Try.prog 25 #[.pointer (some ⟨p, 0, none⟩)] w fun x w' => ∃ v, x = .returned v ∧ OwnK w' w.heap.size v (a.clean.map (·.1)) ∧ Below w.heap.size w w' := by
  obtain ⟨m, n, s, L, rfl, hC, hA, h1, h2, h3⟩ := h
  have e : (L true).map (fun b => (s.E b).key) = a.clean.map (·.1) := by rw [← hA.clean]; simp [kvs]
  have H1 := hid (keys_any w base p m n s hC true (L true) (hA.ref.row true) (hA.ref.dom true) (by rw [hA.lenC]; unfold AS.tot at h2; omega) 2 rfl)
  rw [e] at H1
  clear hC hA
  go_enter Try.func25, Try.ntmps25
  go_wp2_with (go_at_call 47; refine H1.out.mono ?_; rintro x w1 ⟨v, rfl, hO, hB⟩; have HO := hid hO; have HB := hid hB; clear hO hB)
  go_ret
  exact ⟨_, rfl, HO.out, HB.out⟩
set_option maxHeartbeats 400000 in
theorem Held_any (w : World) (base : Nat) (F : List Nat) (p N : Nat) (a : AS Int Int) (h : CA w base F p N a) (hN : N < 4398046511104) :
    Calls Try.prog 26 #[.pointer (some ⟨p, 0, none⟩)] w fun x w' => ∃ v, x = .returned v ∧ OwnK w' w.heap.size v (a.held.map (·.1)) ∧ Below w.heap.size w w' := by
  obtain ⟨m, n, s, L, rfl, hC, hA, h1, h2, h3⟩ := h
  have e : (L false).map (fun b => (s.E b).key) = a.held.map (·.1) := by rw [← hA.held]; simp [kvs]
  have H1 := hid (keys_any w base p m n s hC false (L false) (hA.ref.row false) (hA.ref.dom false) (by rw [hA.lenH]; unfold AS.tot at h2; omega) 5 rfl)
  rw [e] at H1
  clear hC hA
  go_enter Try.func26, Try.ntmps26
  go_wp2_with (go_at_call 47; refine H1.out.mono ?_; rintro x w1 ⟨v, rfl, hO, hB⟩; have HO := hid hO; have HB := hid hB; clear hO hB)
  go_ret
  exact ⟨_, rfl, HO.out, HB.out⟩
/-! New. -/
theorem build_cache (r : Int) (m : Nat) (w : World) : (Instr.build 80 #[(0, .int .i64 r), (1, .map (some m))]).run Try.prog w = .ok (.agg #[.int .i64 r, .map (some m), .pointer none, .pointer none, .int .i64 0, .pointer none, .pointer none, .int .i64 0, .int .i64 0, .int .i64 0, .int .i64 0, .int .i64 0, .int .i64 0]) w := by kernel_rfl
theorem mapIs_nil : MapIs (.map []) (fun _ => none) := ⟨Maps.isMap_empty, fun k _ _ => ⟨rfl, rfl⟩, fun k b _ h => by cases h⟩
set_option maxHeartbeats 400000 in
theorem New_any (w : World) (room : Int) :
    Calls Try.prog 18 #[.int .i64 room] w fun x w' => x = .returned (.pointer (some ⟨w.heap.size + 1, 0, none⟩)) ∧ CA w' w.heap.size [w.heap.size + 1, w.heap.size] (w.heap.size + 1) 0 (newA room) ∧ Below w.heap.size w w' := by
  have hmm := @run_makeMap Try.prog
  have hbd := build_cache (min (max room 0) 4096) w.heap.size
  have hmx := run_max room 0
  rw [show (if (0 : Int) > room then (0 : Int) else room) = max room 0 by split <;> omega] at hmx
  have hmn := run_min (max room 0) 4096
  rw [show (if (4096 : Int) < max room 0 then (4096 : Int) else max room 0) = min (max room 0) 4096 by split <;> omega] at hmn
  have hS : (newS room).room = min (max room 0) 4096 := rfl
  have HS := hid hS
  clear hS
  generalize max room 0 = r0 at *
  generalize min r0 4096 = r1 at *
  go_enter Try.func18, Try.ntmps18
  go_wp2
  go_ret
  have hB1 : Below w.heap.size w (w.alloc (.map #[] 0)) := (Below.refl _ w).alloc (Nat.le_refl _) _
  have hB2 : ∀ o, Below (w.alloc (.map #[] 0)).heap.size (w.alloc (.map #[] 0)) ((w.alloc (.map #[] 0)).alloc o) := fun o => (Below.refl _ _).alloc (Nat.le_refl _) o
  have hs : (w.alloc (.map #[] 0)).heap.size = w.heap.size + 1 := by simp
  refine ⟨rfl, ⟨w.heap.size, 0, newS room, fun _ => [], rfl, ⟨?_, fun b hb => (by cases hb), ⟨_, ?_, mapIs_nil⟩, fun b hb => (by cases hb), by omega, Nat.le_refl _, fun b hb => (by cases hb)⟩, newS_abs room, Nat.le_refl _, by simp [AS.tot, newA], by simp [newA]⟩, hB1.alloc (by rw [hs]; omega) _⟩
  · have := hnew (w.alloc (.map #[] 0)) (.cells (ccells w.heap.size (newS room)) 80)
    rw [hs] at this
    rw [show ccells w.heap.size (newS room) = #[.int .i64 r1, .map (some w.heap.size), .pointer none, .pointer none, .int .i64 0, .pointer none, .pointer none, .int .i64 0, .int .i64 0, .int .i64 0, .int .i64 0, .int .i64 0, .int .i64 0] by unfold ccells; rw [HS.out]; rfl] at this ⊢
    exact this
  · exact ownsMap_heap' (World.ownsMap_made w Try.prog 43 _) ((hB2 _).block w.heap.size (by rw [hs]; omega))
/-! Tally. -/
set_option maxRecDepth 100000 in
set_option maxHeartbeats 1000000 in
theorem Tally_any (w : World) (base : Nat) (F : List Nat) (p N : Nat) (a : AS Int Int) (h : CA w base F p N a) :
    Calls Try.prog 23 #[.pointer (some ⟨p, 0, none⟩)] w fun x w' => x = .returned (.agg #[.int .i64 a.hits, .int .i64 a.misses, .int .i64 a.gone, .int .i64 a.clean.length, .int .i64 a.held.length]) ∧ Below w.heap.size w w' := by
  obtain ⟨m, n, s, L, rfl, hC, hA, h1, h2, h3⟩ := h
  have hrg : ∀ o1, (w.alloc o1).rangeAt p 8 (talL a.hits a.misses a.gone) := fun o1 j u hu => by
    have := (hC.alloc o1)
    rw [← hA.hits, ← hA.misses, ← hA.gone] at hu
    unfold talL at hu
    match j, hu with
    | 0, hu => cases hu; exact this.c8
    | 1, hu => cases hu; exact this.c9
    | 2, hu => cases hu; exact this.c10
    | 3, hu => cases hu; rw [cell_of_row _ _ _ _ _ _ this.cell]; rfl
    | 4, hu => cases hu; rw [cell_of_row _ _ _ _ _ _ this.cell]; rfl
    | j + 5, hu => simp at hu
  have hc4 : s.cl.count = (a.clean.length : Int) := by have := (hA.ref.row true).count; rw [hA.lenC] at this; exact this
  have hc7 : s.hd.count = (a.held.length : Int) := by have := (hA.ref.row false).count; rw [hA.lenH] at this; exact this
  have HC4 := hid (fun o1 o2 => (hc4 ▸ ((hC.alloc o1).alloc o2).c4 : ((w.alloc o1).alloc o2).cell? ⟨p, 4, none⟩ = some (.int .i64 (a.clean.length : Int))))
  have HC7 := hid (fun o1 o2 => (hc7 ▸ ((hC.alloc o1).alloc o2).c7 : ((w.alloc o1).alloc o2).cell? ⟨p, 7, none⟩ = some (.int .i64 (a.held.length : Int))))
  have HRG := hid hrg
  have HPG := hid (show w.heap.size + 1 ≠ p by have := hlt hC.cell; omega)
  clear hC hA h1 h2 h3 hrg hc4 hc7
  generalize (a.clean.length : Int) = C at *
  generalize (a.held.length : Int) = D at *
  generalize (a.hits : Int) = h8 at *
  generalize (a.misses : Int) = h9 at *
  generalize (a.gone : Int) = h10 at *
  go_enter Try.func23, Try.ntmps23
  go_wp2_with (first
    | (refine wpList_load_mid_w (by rfl) 26 (.tmp 6) (by rfl) p 8 (by rfl) (talL h8 h9 h10) _ (by exact HRG.out _) Try.underlying26 rfl (by rw [size_tally]; rfl) ?_)
    | (refine wpList_store_row (by rfl) 26 (.tmp 3) (.tmp 7) (by rfl) (w.heap.size + 1) (talL h8 h9 h10).toArray (by rfl) (by rfl) 26 _ (by exact hnew2 _ _ _) (talN h8 h9 h10) (talZ h8 h9 h10) (talO h8 h9 h10) ?_; rw [setRow_alloc2]; have HB2 := hid (below2 w (.cells zer5 26) (.cells (talL h8 h9 h10).toArray 26)); have HS := hid (tal_s w p h8 h9 h10 C D HC4.out HC7.out); have HG0 := hid (hold2 w (.cells zer5 26) (.cells (talL h8 h9 h10).toArray 26))))
  have HZ := hid (show zer5 = #[.int .i64 0, .int .i64 0, .int .i64 0, .int .i64 0, .int .i64 0] from rfl)
  rw [HZ.out] at HB2 HS HG0
  clear HZ HC4 HC7 HRG
  generalize (w.alloc (.cells #[.int .i64 0, .int .i64 0, .int .i64 0, .int .i64 0, .int .i64 0] 26)).alloc (.cells (talL h8 h9 h10).toArray 26) = w2 at *
  generalize hG : w.heap.size + 1 = G at *
  generalize hH : w.heap.size = H at *
  refine wp_region_noPanic ?_
  refine wp_region_held_drew (S := fun w' => w'.cell? ⟨p, 4, none⟩ = some (.int .i64 C) ∧ w'.cell? ⟨p, 7, none⟩ = some (.int .i64 D) ∧ ∃ x y, w'.heap[G]? = some (.cells #[.int .i64 h8, .int .i64 h9, .int .i64 h10, .int .i64 x, .int .i64 y] 26 (0, 0))) (by kernel_rfl) HS.out (fun hHeld => ?_)
  refine wpAnyH_take (i := 0) (oi := { dst := some 8, op := Op.move (Operand.tmp 0), type := 40, pos := "cache.go:95", after := #[], guard := none }) (v := .pointer (some ⟨p, 0, none⟩)) rfl (by kernel_rfl) (by kernel_rfl) (by kernel_rfl) (fun _ _ _ h => h) (Or.inl ⟨by rfl, by intro w hS; go_simp⟩) hHeld ?_
  try simp only [Act.put, List.setIfInBounds_toArray, List.set_cons_zero, List.set_cons_succ]
  refine wpAnyH_take (i := 5) (oi := { dst := some 13, op := Op.move (Operand.tmp 0), type := 40, pos := "cache.go:95", after := #[{ on := 11, ground := Ground.gcOnly Departure.lateStores }], guard := none }) (v := .pointer (some ⟨p, 0, none⟩)) rfl (by kernel_rfl) (by kernel_rfl) (by kernel_rfl) (fun _ _ _ h => h) (Or.inl ⟨by rfl, by intro w hS; go_simp⟩) hHeld ?_
  try simp only [Act.put, List.setIfInBounds_toArray, List.set_cons_zero, List.set_cons_succ]
  refine wpAnyH_take (i := 1) (oi := { dst := some 9, op := Op.nilCheck (Operand.tmp 8), type := 0, pos := "cache.go:95", after := #[{ on := 0, ground := Ground.data }], guard := none }) (v := .pointer (some ⟨p, 0, none⟩)) rfl (by kernel_rfl) (by kernel_rfl) (by kernel_rfl) (fun _ _ _ h => h) (Or.inl ⟨by rfl, by intro w hS; go_simp⟩) hHeld ?_
  try simp only [Act.put, List.setIfInBounds_toArray, List.set_cons_zero, List.set_cons_succ]
  refine wpAnyH_take (i := 6) (oi := { dst := some 14, op := Op.nilCheck (Operand.tmp 13), type := 0, pos := "cache.go:95", after := #[{ on := 5, ground := Ground.data }, { on := 11, ground := Ground.gcOnly Departure.lateStores }], guard := none }) (v := .pointer (some ⟨p, 0, none⟩)) rfl (by kernel_rfl) (by kernel_rfl) (by kernel_rfl) (fun _ _ _ h => h) (Or.inl ⟨by rfl, by intro w hS; go_simp⟩) hHeld ?_
  try simp only [Act.put, List.setIfInBounds_toArray, List.set_cons_zero, List.set_cons_succ]
  refine wpAnyH_take (i := 2) (oi := { dst := some 10, op := Op.fieldAddr 80 (Operand.tmp 9) 2, type := 0, pos := "cache.go:95", after := #[{ on := 1, ground := Ground.data }], guard := none }) (v := .pointer (some ⟨p, 2, none⟩)) rfl (by kernel_rfl) (by kernel_rfl) (by kernel_rfl) (fun _ _ _ h => h) (Or.inl ⟨by rfl, by intro w hS; go_simp⟩) hHeld ?_
  try simp only [Act.put, List.setIfInBounds_toArray, List.set_cons_zero, List.set_cons_succ]
  refine wpAnyH_take (i := 7) (oi := { dst := some 15, op := Op.fieldAddr 80 (Operand.tmp 14) 3, type := 0, pos := "cache.go:95", after := #[{ on := 6, ground := Ground.data }, { on := 11, ground := Ground.gcOnly Departure.lateStores }], guard := none }) (v := .pointer (some ⟨p, 5, none⟩)) rfl (by kernel_rfl) (by kernel_rfl) (by kernel_rfl) (fun _ _ _ h => h) (Or.inl ⟨by rfl, by intro w hS; go_simp⟩) hHeld ?_
  try simp only [Act.put, List.setIfInBounds_toArray, List.set_cons_zero, List.set_cons_succ]
  refine wpAnyH_take (i := 3) (oi := { dst := some 11, op := Op.fieldAddr 78 (Operand.tmp 10) 2, type := 0, pos := "cache.go:95", after := #[{ on := 2, ground := Ground.data }], guard := none }) (v := .pointer (some ⟨p, 4, none⟩)) rfl (by kernel_rfl) (by kernel_rfl) (by kernel_rfl) (fun _ _ _ h => h) (Or.inl ⟨by rfl, by intro w hS; go_simp⟩) hHeld ?_
  try simp only [Act.put, List.setIfInBounds_toArray, List.set_cons_zero, List.set_cons_succ]
  refine wpAnyH_take (i := 8) (oi := { dst := some 16, op := Op.fieldAddr 78 (Operand.tmp 15) 2, type := 0, pos := "cache.go:95", after := #[{ on := 7, ground := Ground.data }, { on := 11, ground := Ground.gcOnly Departure.lateStores }], guard := none }) (v := .pointer (some ⟨p, 7, none⟩)) rfl (by kernel_rfl) (by kernel_rfl) (by kernel_rfl) (fun _ _ _ h => h) (Or.inl ⟨by rfl, by intro w hS; go_simp⟩) hHeld ?_
  try simp only [Act.put, List.setIfInBounds_toArray, List.set_cons_zero, List.set_cons_succ]
  refine wpAnyH_take (i := 4) (oi := { dst := some 12, op := Op.load 3 (Operand.tmp 11), type := 3, pos := "cache.go:95", after := #[{ on := 3, ground := Ground.data }], guard := none }) (v := .int .i64 C) rfl (by kernel_rfl) (by kernel_rfl) (by kernel_rfl) (fun _ _ _ h => h) (Or.inl ⟨by rfl, by intro w hS; have hc := hS.1; go_simp⟩) hHeld ?_
  try simp only [Act.put, List.setIfInBounds_toArray, List.set_cons_zero, List.set_cons_succ]
  refine wpAnyH_take (i := 9) (oi := { dst := some 17, op := Op.load 3 (Operand.tmp 16), type := 3, pos := "cache.go:95", after := #[{ on := 8, ground := Ground.data }, { on := 11, ground := Ground.gcOnly Departure.lateStores }], guard := none }) (v := .int .i64 D) rfl (by kernel_rfl) (by kernel_rfl) (by kernel_rfl) (fun _ _ _ h => h) (Or.inl ⟨by rfl, by intro w hS; have hc := hS.2.1; go_simp⟩) hHeld ?_
  try simp only [Act.put, List.setIfInBounds_toArray, List.set_cons_zero, List.set_cons_succ]
  refine wpAnyH_take (i := 10) (oi := { dst := some 18, op := Op.fieldAddr 26 (Operand.tmp 3) 3, type := 0, pos := "cache.go:95", after := #[{ on := 0, ground := Ground.phase }, { on := 1, ground := Ground.phase }, { on := 2, ground := Ground.phase }, { on := 3, ground := Ground.phase }, { on := 4, ground := Ground.phase }, { on := 5, ground := Ground.textOnly Departure.lateStores }, { on := 6, ground := Ground.textOnly Departure.lateStores }, { on := 7, ground := Ground.textOnly Departure.lateStores }, { on := 8, ground := Ground.textOnly Departure.lateStores }, { on := 9, ground := Ground.textOnly Departure.lateStores }], guard := none }) (v := .pointer (some ⟨G, 3, none⟩)) rfl (by kernel_rfl) (by kernel_rfl) (by kernel_rfl) (fun _ _ _ h => h) (Or.inl ⟨by rfl, by intro w hS; go_simp⟩) hHeld ?_
  try simp only [Act.put, List.setIfInBounds_toArray, List.set_cons_zero, List.set_cons_succ]
  refine wpAnyH_ready (rs := [11]) (by kernel_rfl) (by simp) ?_
  refine (AllReadyH.cons (o := { dst := none, op := Op.store 3 (Operand.tmp 18) (Operand.tmp 12), type := 0, pos := "cache.go:95", after := #[{ on := 10, ground := Ground.data }, { on := 4, ground := Ground.data }, { on := 0, ground := Ground.phase }, { on := 1, ground := Ground.phase }, { on := 2, ground := Ground.phase }, { on := 3, ground := Ground.phase }, { on := 4, ground := Ground.phase }, { on := 5, ground := Ground.textOnly Departure.lateStores }, { on := 6, ground := Ground.textOnly Departure.lateStores }, { on := 7, ground := Ground.textOnly Departure.lateStores }, { on := 8, ground := Ground.textOnly Departure.lateStores }, { on := 9, ground := Ground.textOnly Departure.lateStores }], guard := none }) rfl (fun K hK => ?_) AllReadyH.nil)
  obtain ⟨hq1, hq2, x, y, hq3⟩ := id hHeld
  have cz := cell_of_row _ G 3 _ _ _ hq3
  have fz := frozen_of_row _ G 3 _ _ hq3
  simp only [List.getElem?_toArray, List.getElem?_cons_succ, List.getElem?_cons_zero] at cz
  go_simp
  refine hK.out _ _ (⟨(World.cell?_setCell_far _ _ _ _ HPG.out).trans hq1, (World.cell?_setCell_far _ _ _ _ HPG.out).trans hq2, C, y, (heap_setCell_same _ G 3 _ _ (.int .i64 C) hq3).trans rfl⟩) (fun hHeld2 => ?_)
  clear hK K hHeld
  have hHeld := hHeld2
  clear hHeld2
  have HQ3 := hid hq3
  clear hq1 hq2 hq3 cz fz
  try simp only [Act.put, List.setIfInBounds_toArray, List.set_cons_zero, List.set_cons_succ]
  refine wpAnyH_take (i := 12) (oi := { dst := some 19, op := Op.fieldAddr 26 (Operand.tmp 3) 4, type := 0, pos := "cache.go:95", after := #[{ on := 0, ground := Ground.phase }, { on := 1, ground := Ground.phase }, { on := 2, ground := Ground.phase }, { on := 3, ground := Ground.phase }, { on := 4, ground := Ground.phase }, { on := 5, ground := Ground.phase }, { on := 6, ground := Ground.phase }, { on := 7, ground := Ground.phase }, { on := 8, ground := Ground.phase }, { on := 9, ground := Ground.phase }, { on := 10, ground := Ground.phase }, { on := 11, ground := Ground.phase }], guard := none }) (v := .pointer (some ⟨G, 4, none⟩)) rfl (by kernel_rfl) (by kernel_rfl) (by kernel_rfl) (fun _ _ _ h => h) (Or.inl ⟨by rfl, by intro w hS; go_simp⟩) hHeld ?_
  try simp only [Act.put, List.setIfInBounds_toArray, List.set_cons_zero, List.set_cons_succ]
  refine wpAnyH_ready (rs := [13]) (by kernel_rfl) (by simp) ?_
  refine (AllReadyH.cons (o := { dst := none, op := Op.store 3 (Operand.tmp 19) (Operand.tmp 17), type := 0, pos := "cache.go:95", after := #[{ on := 12, ground := Ground.data }, { on := 9, ground := Ground.data }, { on := 11, ground := Ground.chain }, { on := 0, ground := Ground.phase }, { on := 1, ground := Ground.phase }, { on := 2, ground := Ground.phase }, { on := 3, ground := Ground.phase }, { on := 4, ground := Ground.phase }, { on := 5, ground := Ground.phase }, { on := 6, ground := Ground.phase }, { on := 7, ground := Ground.phase }, { on := 8, ground := Ground.phase }, { on := 9, ground := Ground.phase }, { on := 10, ground := Ground.phase }, { on := 11, ground := Ground.phase }], guard := none }) rfl (fun K hK => ?_) AllReadyH.nil)
  obtain ⟨hq1, hq2, x, y, hq3⟩ := id hHeld
  have cz := cell_of_row _ G 4 _ _ _ hq3
  have fz := frozen_of_row _ G 4 _ _ hq3
  simp only [List.getElem?_toArray, List.getElem?_cons_succ, List.getElem?_cons_zero] at cz
  go_simp
  refine hK.out _ _ (⟨(World.cell?_setCell_far _ _ _ _ HPG.out).trans hq1, (World.cell?_setCell_far _ _ _ _ HPG.out).trans hq2, x, D, (heap_setCell_same _ G 4 _ _ (.int .i64 D) hq3).trans rfl⟩) (fun hHeld2 => ?_)
  clear hK K hHeld
  have hHeld := hHeld2
  clear hHeld2
  have HQ4 := hid hq3
  clear hq1 hq2 hq3 cz fz
  try simp only [Act.put, List.setIfInBounds_toArray, List.set_cons_zero, List.set_cons_succ]
  refine wpAnyH_done (by kernel_rfl) ?_ _
  refine NoPanic.normal ?_
  have r5 : (((w2.setCell ⟨G, 3, none⟩ (.int .i64 C)).setCell ⟨G, 4, none⟩ (.int .i64 D)).drew).heap[G]? = some (.cells #[.int .i64 h8, .int .i64 h9, .int .i64 h10, .int .i64 C, .int .i64 D] 26 (0, 0)) := by
    have r3 := heap_setCell_same w2 G 3 _ _ (.int .i64 C) HQ3.out
    exact (heap_setCell_same _ G 4 _ _ (.int .i64 D) r3).trans rfl
  have r0 : (((w2.setCell ⟨G, 3, none⟩ (.int .i64 C)).setCell ⟨G, 4, none⟩ (.int .i64 D)).drew).heap[H]? = some (.cells #[.int .i64 0, .int .i64 0, .int .i64 0, .int .i64 0, .int .i64 0] 26 (0, 0)) := by
    exact (heap_setCell_other _ _ _ _ (by show H ≠ G; omega)).trans ((heap_setCell_other _ _ _ _ (by show H ≠ G; omega)).trans HG0.out)
  have hb : Below H w (((w2.setCell ⟨G, 3, none⟩ (.int .i64 C)).setCell ⟨G, 4, none⟩ (.int .i64 D)).drew) := (setCell_below (setCell_below HB2.out (by omega) _ _) (by omega) _ _).drew
  have HB5 := hid hb
  have HR5 := hid r5
  have HR0 := hid r0
  clear HQ3 HQ4 hb r5 r0 hHeld HS HG0
  generalize ((w2.setCell ⟨G, 3, none⟩ (.int .i64 C)).setCell ⟨G, 4, none⟩ (.int .i64 D)).drew = w5 at *
  go_wp2_with (first
    | (refine wpList_load_row_w (by rfl) 26 (.tmp 3) (by rfl) G (by rfl) 26 _ _ _ (by exact HR5.out) Try.underlying26 rfl (by rw [size_tally]; rfl) ?_)
    | (refine wpList_store_row (by rfl) 26 (.tmp 2) (.tmp 20) (by rfl) H #[.int .i64 h8, .int .i64 h9, .int .i64 h10, .int .i64 C, .int .i64 D] (by rfl) (by rfl) 26 _ (by exact HR0.out) (tal2N h8 h9 h10 C D) (tal2Z h8 h9 h10 C D) (tal2O h8 h9 h10 C D) ?_))
  refine bodyPost_ret (results_c1 Try.results23 _ _ H 26 #[.int .i64 h8, .int .i64 h9, .int .i64 h10, .int .i64 C, .int .i64 D] _ _ rfl (setRow_heap _ _ _ _ _ _ HR0.out) Try.underlying26 rfl (by rw [size_tally]; rfl)) rfl ?_
  exact ⟨rfl, by rw [hH]; exact below_setRow HB5.out (Nat.le_refl _) _⟩
end Go.Proofs.Ytbpamknebjdicaa.K2
