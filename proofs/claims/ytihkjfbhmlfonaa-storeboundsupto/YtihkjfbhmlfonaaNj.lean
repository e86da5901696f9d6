import Derived.Test.YtihkjfbhmlfonaaNi
namespace Go.Proofs.Ytihkjfbhmlfonaa
set_option linter.unusedVariables false
set_option linter.unusedSimpArgs false
open Go.RowKit
attribute [local go_sem ↓] Go.wp_at_zero Go.wp_at_succ

theorem step_store {P : Program} {ops : Array Oper} {o : Oper} {a : Act} {w : World} {K : Act → World → Prop} {Q : Exit → Act → World → Prop} {E : Prop} (hw : Region.wanted o (yielded ops a.tmps) = true) (ty : TypeId) (x y : Operand) (ho : o.op = .store ty x y)
    (g : Nat) (cells : Array Value) (hx : a.eval x = .pointer (some ⟨g, 0, none⟩)) (hy : a.eval y = .agg cells)
    (t : TypeId) (old : Array Value) (hg : w.heap[g]? = some (.cells old t (0, 0))) (hi : (P.info? ty).map (·.size) = some cells.size)
    (hold : old.size = cells.size) (h1 : cells.all (·.oneCell') = true)
    (h : K (a.put o.dst undef) (w.setRow g cells)) : if Region.wanted o (yielded ops a.tmps) = true then Oper.wp P o a w K Q else E := by
  rw [if_pos hw]
  exact wp_store_row ty x y ho g cells hx hy t old hg hi hold h1 h
theorem Src.range {w : World} {b o cap : Nat} {r : List Int} (h : Src w (some ⟨b, o, none⟩) cap r) (n : Nat) (hn : n ≤ r.length) (hp : 0 < n) : b < w.heap.size ∧ w.rangeAt b o (ints .u8 (r.take n)) := by
  obtain ⟨h1, h2, b', o', h3, h4, h5⟩ := h
  have he := h4 (by omega)
  cases he
  refine ⟨h3 (by omega), fun j v hv => ?_⟩
  have hj : j < n := by have := (List.getElem?_eq_some_iff.1 hv).1; rw [ints_len, List.length_take] at this; omega
  rw [ints_get _ _ j (by rw [List.length_take]; omega)] at hv
  cases hv
  rw [h5 j (by omega), List.getD_eq_getElem?_getD, List.getD_eq_getElem?_getD, List.getElem?_take, if_pos hj]
set_option maxRecDepth 100000 in
set_option maxHeartbeats 1000000 in
theorem firstSector_any (w : World) (r : List Int) (n cap : Nat) (sp : Option Addr) (hn : 64 ≤ n) (hl : n = r.length) (hS : Src w sp cap r) :
    Calls Try.prog 91 #[.slice sp n cap] w fun e w' => e = .returned (.agg (ints .u8 (r.take 64)).toArray) ∧ Below w.heap.size w w' := by
  have hS' := hS
  obtain ⟨hc, hm, b, o, hb, hsp, hsrc⟩ := hS
  obtain rfl := hsp (by omega)
  obtain ⟨hb, hrg⟩ := hS'.range 64 (by omega) (by omega)
  have i1 : (64 : Int) ≤ (cap : Int) := by omega
  have i2 : 64 ≤ cap := by omega
  have hlen : (r.take 64).length = 64 := by rw [List.length_take]; omega
  clear hsrc hsp hl
  generalize hsec : r.take 64 = sec at *
  replace hsec := hid hsec
  have K3 := hid (show (Try.prog.info? 133).map (·.size) = some (ints .u8 sec).toArray.size by rw [size_sector, ints_size, hlen])
  have K3' := hid (show (Try.prog.info? 133).map (·.size) = some (ints .u8 sec).length by rw [size_sector, ints_len, hlen])
  have K4 := hid (show (ints .u8 (zz 64)).toArray.size = (ints .u8 sec).toArray.size by rw [ints_size, ints_size, hlen, zz_len])
  have ho := hid (all_oneCell_toArray (ints_one .u8 sec))
  have hat : ∀ w, (Instr.arrayAt 133 (.slice (some ⟨b, o, none⟩) 64 cap)).run Try.prog w = .ok (.pointer (some ⟨b, o, none⟩)) w := fun w => run_arrayAt w 133 _ 64 _ 64 cap Try.underlying133 (Nat.le_refl _)
  have r1 := hnew w (.cells (ints .u8 (zz 64)).toArray 133)
  have b1 := below_new w (.cells (ints .u8 (zz 64)).toArray 133)
  have HR := hid (rng_below hrg b1 hb)
  replace hlen := hid hlen
  clear hrg
  go_enter Try.func91, Try.ntmps91
  go_wp2_with (first
    | (refine wpList_alloc64 rfl rfl ?_; generalize w.alloc (.cells (ints .u8 (zz 64)).toArray 133) = w1 at *)
    | (refine wpList_load_mid_w rfl 133 (.tmp 5) rfl b o rfl (ints .u8 sec) _ HR.out Try.underlying133 rfl K3'.out ?_)
    | (refine wpList_store_row rfl 133 (.tmp 2) (.tmp 6) rfl w.heap.size (ints .u8 sec).toArray rfl rfl 133 _ r1 K3.out K4.out ho.out ?_; have R3 := setRow_heap w1 _ _ (ints .u8 sec).toArray _ _ r1; have BF := below_setRow b1 (Nat.le_refl _) (ints .u8 sec).toArray))
  exact bodyPost_ret (v := .agg (ints .u8 sec).toArray) (results_cell_row Try.results91 _ _ w.heap.size 133 _ _ _ rfl R3 Try.underlying133 rfl K3.out) rfl ⟨by first | rfl | rw [hsec.out], BF⟩
theorem rd_part (w : World) (sec : List Int) (h8 : Byts sec) (hl : sec.length = 64) (at' n : Nat) (ha : at' + n ≤ 64) (hn : n ≤ 8) (w1 : World) (hr : w1.heap[w.heap.size]? = some (.cells (ints .u8 sec).toArray 133 (0, 0))) :
    ∀ w', Below w1.heap.size w1 w' → Calls Try.prog 84 #[.slice (some ⟨w.heap.size, at', none⟩) n (64 - at')] w' fun e w'' => e = .returned (.int .i64 (IntKind.i64.wrap (le ((sec.drop at').take n)))) ∧ Below w'.heap.size w' w'' := by
  intro w' hB
  have hr' := hbel hB hr (hlt hr)
  have hs := src_rowf hr' 64 (by omega) (by decide)
  have hm := hs.mid at' n (by omega) (hlt hr') (64 - at') (by omega) (by simp [maxLen]; omega)
  rw [Nat.zero_add] at hm
  have := read_any w' ((sec.drop at').take n) ((h8.drop at').take n) (by rw [List.length_take]; omega) _ _ hm
  rwa [show ((sec.drop at').take n).length = n by simp; omega] at this
set_option maxRecDepth 100000 in
set_option maxHeartbeats 1000000 in
theorem readSuper_any (w : World) (sec : List Int) (h8 : Byts sec) (hl : sec.length = 64) :
    Calls Try.prog 92 #[.agg (ints .u8 sec).toArray] w fun e w' => e = .returned (.agg (supC (readS sec))) ∧ Below w.heap.size w w' := by
  have r1 := hnew w (.cells (ints .u8 sec).toArray 133)
  obtain ⟨x4, hx4⟩ : ∃ x, x = sec.getD 4 0 := ⟨_, rfl⟩
  obtain ⟨n0, hn0⟩ : ∃ x, x = IntKind.i64.wrap (le ((sec.drop 8).take 8)) := ⟨_, rfl⟩
  obtain ⟨n1, hn1⟩ : ∃ x, x = IntKind.i64.wrap (le ((sec.drop 16).take 4)) := ⟨_, rfl⟩
  obtain ⟨n2, hn2⟩ : ∃ x, x = IntKind.i64.wrap (le ((sec.drop 20).take 4)) := ⟨_, rfl⟩
  obtain ⟨n3, hn3⟩ : ∃ x, x = IntKind.i64.wrap (le ((sec.drop 24).take 4)) := ⟨_, rfl⟩
  have w4 : ∀ k, k + 4 ≤ 64 → IntKind.i64.wrap (le ((sec.drop k).take 4)) = (le ((sec.drop k).take 4) : Int) := fun k hk => by
    have h := le_lt ((sec.drop k).take 4) ((h8.drop k).take 4)
    rw [show ((sec.drop k).take 4).length = 4 by simp; omega] at h
    exact wrap_i64_id _ (by omega) (by omega)
  have HE := hid (show (Ending.returned (.agg #[.int .i64 x4, .int .i64 n0, .int .i64 n1, .int .i64 n2, .int .i64 n3])) = .returned (.agg (supC (readS sec))) by
    rw [hx4, hn0, hn1, hn2, hn3, w4 16 (by omega), w4 20 (by omega), w4 24 (by omega)]; rfl)
  obtain ⟨w2, hw2⟩ : ∃ w2, (w.alloc (.cells (ints .u8 sec).toArray 133)).alloc (.cells #[.int .i64 0, .int .i64 0, .int .i64 0, .int .i64 0, .int .i64 0] 56) = w2 := ⟨_, rfl⟩
  have q1 : w2.heap[w.heap.size]? = some (.cells (ints .u8 sec).toArray 133 (0, 0)) := by rw [← hw2]; exact hold r1
  have q2 : w2.heap[w.heap.size + 1]? = some (.cells #[.int .i64 0, .int .i64 0, .int .i64 0, .int .i64 0, .int .i64 0] 56 (0, 0)) := by rw [← hw2]; exact (by simpa using hnew (w.alloc (.cells (ints .u8 sec).toArray 133)) (.cells #[.int .i64 0, .int .i64 0, .int .i64 0, .int .i64 0, .int .i64 0] 56))
  have B2 : Below w.heap.size w w2 := by rw [← hw2]; exact (below_new w _).alloc (by simp) _
  have R0 := hid (rd_part w sec h8 hl 8 8 (by omega) (by omega) w2 q1)
  have R1 := hid (rd_part w sec h8 hl 16 4 (by omega) (by omega) w2 q1)
  have R2 := hid (rd_part w sec h8 hl 20 4 (by omega) (by omega) w2 q1)
  have R3 := hid (rd_part w sec h8 hl 24 4 (by omega) (by omega) w2 q1)
  rw [← hn0] at R0
  rw [← hn1] at R1
  rw [← hn2] at R2
  rw [← hn3] at R3
  have hs2 : w2.heap.size = w.heap.size + 2 := by rw [← hw2]; simp
  have HS2 := hid (show w.heap.size + 1 ≤ w2.heap.size by omega)
  have HC := hid (fun (w' : World) (hB : Below w2.heap.size w2 w') => show w'.cell? ⟨w.heap.size, 4, none⟩ = some (.int .u8 x4) by
    rw [hx4]; exact cell_ints (hbel hB q1 (by omega)) 4 (by omega))
  have HC7 := hid (fun (w' : World) (hB : Below (w.heap.size + 1) w2 w') => show w'.cell? ⟨w.heap.size, 4, none⟩ = some (.int .u8 x4) by
    rw [hx4]; exact cell_ints (hbel hB q1 (by omega)) 4 (by omega))
  have HR := hid (fun (w' : World) (hB : Below w2.heap.size w2 w') => show w'.heap[w.heap.size + 1]? = some (.cells #[.int .i64 0, .int .i64 0, .int .i64 0, .int .i64 0, .int .i64 0] 56 (0, 0)) from hbel hB q2 (by omega))
  have HB := hid (fun (w' : World) (hB : Below (w.heap.size + 1) w2 w') => show Below w.heap.size w w' from B2.trans (hB.mono (by omega)))
  have hx : 0 ≤ x4 ∧ x4 < 256 := by
    rw [hx4, List.getD_eq_getElem?_getD, List.getElem?_eq_getElem (by omega)]; exact h8 _ (List.getElem_mem _)
  clear hx4 hn0 hn1 hn2 hn3 w4 r1 q1 q2 B2 hs2
  have b2 : Below w2.heap.size w2 w2.drew := (Below.refl _ _).drew
  go_enter Try.func92, Try.ntmps92
  go_wp2_with fail
  try rw [hw2]
  refine wp_region_noPanic ?_
  refine wp_region_held_drew (S := fun w' => w'.cell? ⟨w.heap.size, 4, none⟩ = some (.int .u8 x4)) (by kernel_rfl) (HC.out _ b2) (fun hHeld => ?_)
  refine wpAnyH_take (i := 0) (oi := { dst := some 3, op := Op.indexAddr 133 (Operand.tmp 1) (Operand.const (Value.int IntKind.i64 4)), type := 0, pos := "super.go:118", after := #[], guard := none }) (v := .pointer (some ⟨w.heap.size, 4, none⟩)) rfl (by kernel_rfl) (by kernel_rfl) (by kernel_rfl) (fun _ _ _ h => h) (Or.inl ⟨by rfl, by intro w hS; go_simp⟩) hHeld ?_
  try simp only [Act.put, List.setIfInBounds_toArray, List.set_cons_zero, List.set_cons_succ]
  refine wpAnyH_take (i := 3) (oi := { dst := some 6, op := Op.slice 133 (Operand.tmp 1) (some (Operand.const (Value.int IntKind.i64 8))) (some (Operand.const (Value.int IntKind.i64 16))) none, type := 36, pos := "super.go:118", after := #[], guard := none }) (v := .slice (some ⟨w.heap.size, 8, none⟩) 8 56) rfl (by kernel_rfl) (by kernel_rfl) (by kernel_rfl) (fun _ _ _ h => h) (Or.inl ⟨by rfl, by intro w hS; go_simp⟩) hHeld ?_
  try simp only [Act.put, List.setIfInBounds_toArray, List.set_cons_zero, List.set_cons_succ]
  refine wpAnyH_take (i := 5) (oi := { dst := some 8, op := Op.slice 133 (Operand.tmp 1) (some (Operand.const (Value.int IntKind.i64 16))) (some (Operand.const (Value.int IntKind.i64 20))) none, type := 36, pos := "super.go:118", after := #[], guard := none }) (v := .slice (some ⟨w.heap.size, 16, none⟩) 4 48) rfl (by kernel_rfl) (by kernel_rfl) (by kernel_rfl) (fun _ _ _ h => h) (Or.inl ⟨by rfl, by intro w hS; go_simp⟩) hHeld ?_
  try simp only [Act.put, List.setIfInBounds_toArray, List.set_cons_zero, List.set_cons_succ]
  refine wpAnyH_take (i := 7) (oi := { dst := some 10, op := Op.slice 133 (Operand.tmp 1) (some (Operand.const (Value.int IntKind.i64 20))) (some (Operand.const (Value.int IntKind.i64 24))) none, type := 36, pos := "super.go:118", after := #[], guard := none }) (v := .slice (some ⟨w.heap.size, 20, none⟩) 4 44) rfl (by kernel_rfl) (by kernel_rfl) (by kernel_rfl) (fun _ _ _ h => h) (Or.inl ⟨by rfl, by intro w hS; go_simp⟩) hHeld ?_
  try simp only [Act.put, List.setIfInBounds_toArray, List.set_cons_zero, List.set_cons_succ]
  refine wpAnyH_take (i := 9) (oi := { dst := some 12, op := Op.slice 133 (Operand.tmp 1) (some (Operand.const (Value.int IntKind.i64 24))) (some (Operand.const (Value.int IntKind.i64 28))) none, type := 36, pos := "super.go:118", after := #[], guard := none }) (v := .slice (some ⟨w.heap.size, 24, none⟩) 4 40) rfl (by kernel_rfl) (by kernel_rfl) (by kernel_rfl) (fun _ _ _ h => h) (Or.inl ⟨by rfl, by intro w hS; go_simp⟩) hHeld ?_
  try simp only [Act.put, List.setIfInBounds_toArray, List.set_cons_zero, List.set_cons_succ]
  refine wpAnyH_take (i := 1) (oi := { dst := some 4, op := Op.load 5 (Operand.tmp 3), type := 5, pos := "super.go:118", after := #[{ on := 0, ground := Ground.data }], guard := none }) (v := .int .u8 x4) rfl (by kernel_rfl) (by kernel_rfl) (by kernel_rfl) (fun _ _ _ h => h) (Or.inl ⟨by rfl, by intro w hS; have hc := hS; go_simp⟩) hHeld ?_
  try simp only [Act.put, List.setIfInBounds_toArray, List.set_cons_zero, List.set_cons_succ]
  refine wpAnyH_take (i := 2) (oi := { dst := some 5, op := Op.convert 5 3 (Operand.tmp 4), type := 3, pos := "super.go:118", after := #[{ on := 1, ground := Ground.data }], guard := none }) (v := .int .i64 x4) rfl (by kernel_rfl) (by kernel_rfl) (by kernel_rfl) (fun _ _ _ h => h) (Or.inl ⟨by rfl, by intro w hS; go_simp; exact wrap_i64_id x4 (by omega) (by omega)⟩) hHeld ?_
  try simp only [Act.put, List.setIfInBounds_toArray, List.set_cons_zero, List.set_cons_succ]
  refine wpAnyH_ready (rs := [4]) (by kernel_rfl) (by simp) ?_
  refine (AllReadyH.cons (o := { dst := some 7, op := Op.call { callee := Callee.value (Operand.func 84), args := #[Operand.tmp 6], argTypes := #[36] }, type := 3, pos := "super.go:120", after := #[{ on := 3, ground := Ground.data }], guard := none }) rfl (fun K hK => ?_) AllReadyH.nil)
  go_simp
  go_at_call 84
  refine (R0.out _ b2).mono ?_
  rintro e w3 ⟨rfl, bb3⟩
  have b3 := b2.trans (bb3.mono b2.size)
  go_wp2_with fail
  refine hK.out _ _ (HC.out _ b3) (fun hHeld2 => ?_)
  clear hK K hHeld
  have hHeld := hHeld2
  clear hHeld2
  try simp only [Act.put, List.setIfInBounds_toArray, List.set_cons_zero, List.set_cons_succ]
  refine wpAnyH_ready (rs := [6]) (by kernel_rfl) (by simp) ?_
  refine (AllReadyH.cons (o := { dst := some 9, op := Op.call { callee := Callee.value (Operand.func 84), args := #[Operand.tmp 8], argTypes := #[36] }, type := 3, pos := "super.go:121", after := #[{ on := 5, ground := Ground.data }, { on := 4, ground := Ground.chain }], guard := none }) rfl (fun K hK => ?_) AllReadyH.nil)
  go_simp
  go_at_call 84
  refine (R1.out _ b3).mono ?_
  rintro e w4 ⟨rfl, bb4⟩
  have b4 := b3.trans (bb4.mono b3.size)
  go_wp2_with fail
  refine hK.out _ _ (HC.out _ b4) (fun hHeld2 => ?_)
  clear hK K hHeld
  have hHeld := hHeld2
  clear hHeld2
  try simp only [Act.put, List.setIfInBounds_toArray, List.set_cons_zero, List.set_cons_succ]
  refine wpAnyH_ready (rs := [8]) (by kernel_rfl) (by simp) ?_
  refine (AllReadyH.cons (o := { dst := some 11, op := Op.call { callee := Callee.value (Operand.func 84), args := #[Operand.tmp 10], argTypes := #[36] }, type := 3, pos := "super.go:122", after := #[{ on := 7, ground := Ground.data }, { on := 6, ground := Ground.chain }], guard := none }) rfl (fun K hK => ?_) AllReadyH.nil)
  go_simp
  go_at_call 84
  refine (R2.out _ b4).mono ?_
  rintro e w5 ⟨rfl, bb5⟩
  have b5 := b4.trans (bb5.mono b4.size)
  go_wp2_with fail
  refine hK.out _ _ (HC.out _ b5) (fun hHeld2 => ?_)
  clear hK K hHeld
  have hHeld := hHeld2
  clear hHeld2
  try simp only [Act.put, List.setIfInBounds_toArray, List.set_cons_zero, List.set_cons_succ]
  refine wpAnyH_ready (rs := [10]) (by kernel_rfl) (by simp) ?_
  refine (AllReadyH.cons (o := { dst := some 13, op := Op.call { callee := Callee.value (Operand.func 84), args := #[Operand.tmp 12], argTypes := #[36] }, type := 3, pos := "super.go:123", after := #[{ on := 9, ground := Ground.data }, { on := 8, ground := Ground.chain }], guard := none }) rfl (fun K hK => ?_) AllReadyH.nil)
  go_simp
  go_at_call 84
  refine (R3.out _ b5).mono ?_
  rintro e w6 ⟨rfl, bb6⟩
  have b6 := b5.trans (bb6.mono b5.size)
  go_wp2_with fail
  refine hK.out _ _ (HC.out _ b6) (fun hHeld2 => ?_)
  clear hK K hHeld
  have hHeld := hHeld2
  clear hHeld2
  try simp only [Act.put, List.setIfInBounds_toArray, List.set_cons_zero, List.set_cons_succ]
  refine wpAnyH_take (i := 11) (oi := { dst := some 14, op := Op.build 56 #[(0, Operand.tmp 5), (1, Operand.tmp 7), (2, Operand.tmp 9), (3, Operand.tmp 11), (4, Operand.tmp 13)], type := 56, pos := "super.go:118", after := #[{ on := 2, ground := Ground.data }, { on := 4, ground := Ground.data }, { on := 6, ground := Ground.data }, { on := 8, ground := Ground.data }, { on := 10, ground := Ground.data }], guard := none }) (v := .agg #[.int .i64 x4, .int .i64 n0, .int .i64 n1, .int .i64 n2, .int .i64 n3]) rfl (by kernel_rfl) (by kernel_rfl) (by kernel_rfl) (fun _ _ _ h => h) (Or.inl ⟨by rfl, by intro w hS; go_simp⟩) hHeld ?_
  try simp only [Act.put, List.setIfInBounds_toArray, List.set_cons_zero, List.set_cons_succ]
  refine wpAnyH_ready (rs := [12]) (by kernel_rfl) (by simp) ?_
  refine (AllReadyH.cons (o := { dst := none, op := Op.store 56 (Operand.tmp 2) (Operand.tmp 14), type := 0, pos := "super.go:118", after := #[{ on := 11, ground := Ground.data }, { on := 10, ground := Ground.chain }, { on := 0, ground := Ground.phase }, { on := 1, ground := Ground.phase }, { on := 2, ground := Ground.phase }, { on := 3, ground := Ground.phase }, { on := 4, ground := Ground.phase }, { on := 5, ground := Ground.phase }, { on := 6, ground := Ground.phase }, { on := 7, ground := Ground.phase }, { on := 8, ground := Ground.phase }, { on := 9, ground := Ground.phase }, { on := 10, ground := Ground.phase }, { on := 11, ground := Ground.phase }], guard := none }) rfl (fun K hK => ?_) AllReadyH.nil)
  refine step_store (by rfl) 56 (.tmp 2) (.tmp 14) rfl (w.heap.size + 1) _ rfl rfl 56 _ (HR.out _ b6) (by rw [size_super]; rfl) rfl (by simp [Value.oneCell']) ?_
  have b7 := below_setRow (b6.mono HS2.out) (Nat.le_refl _) #[.int .i64 x4, .int .i64 n0, .int .i64 n1, .int .i64 n2, .int .i64 n3]
  have r7 := setRow_heap w6 _ _ #[.int .i64 x4, .int .i64 n0, .int .i64 n1, .int .i64 n2, .int .i64 n3] _ _ (HR.out _ b6)
  refine hK.out _ _ (HC7.out _ b7) (fun hHeld2 => ?_)
  clear hK K hHeld
  have hHeld := hHeld2
  clear hHeld2
  try simp only [Act.put, List.setIfInBounds_toArray, List.set_cons_zero, List.set_cons_succ]
  refine wpAnyH_done (by kernel_rfl) ?_ _
  refine NoPanic.normal ?_
  clear hHeld
  go_wp2_with fail
  exact bodyPost_ret (v := .agg #[.int .i64 x4, .int .i64 n0, .int .i64 n1, .int .i64 n2, .int .i64 n3]) (results_cell_row Try.results92 _ _ (w.heap.size + 1) 56 _ _ _ rfl r7 Try.underlying56 rfl (by rw [size_super]; rfl)) rfl ⟨HE.out, HB.out _ b7⟩
end Go.Proofs.Ytihkjfbhmlfonaa
