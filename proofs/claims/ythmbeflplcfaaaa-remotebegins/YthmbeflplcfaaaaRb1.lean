import Derived.Test.YthmbeflplcfaaaaKt
namespace Go.Proofs.Ythmbeflplcfaaaa
set_option linter.unusedVariables false
set_option linter.unusedSimpArgs false
open Go.RowKit
attribute [local go_sem ↓] Go.wp_at_zero Go.wp_at_succ

/-- A value built, guarded or not. -/
theorem wpList_built {P : Program} {ops : Array Oper} {rest : List Oper} {o : Oper} {a : Act} {w : World} {Q : Exit → Act → World → Prop} (hw : Region.wanted o (yielded ops a.tmps) = true) (t : TypeId) (parts : Array (Nat × Operand)) (ho : o.op = .build t parts) (ps : List (Nat × Value)) (hp : (parts.toList.map fun (i, x) => (i, a.eval x)) = ps) (cs : Array Value) (hb : P.built t ps = some cs)
    (h : wpList P ops Q rest (a.put o.dst (.agg cs)) w) : wpList P ops Q (o :: rest) a w := by
  have e : P.built t (parts.map fun (i, x) => (i, a.eval x)).toList = some cs := by rw [Array.toList_map, hp]; exact hb
  exact BigFrame.wpList_want hw fun _ hK => wp_build t parts ho (by rw [e]; rfl) (by rw [e]; exact hK _ _ h)
theorem wpList_allocV {P : Program} {t : TypeId} {Z : List Value} (hz : ∀ (a : Act) (o : Oper) (w : World), o.op = .alloc t → (execOp a.eval o).run P w = .ok (.value (.pointer (some ⟨w.heap.size, 0, none⟩))) (w.alloc (.cells Z.toArray t)))
    {ops : Array Oper} {rest : List Oper} {o1 : Oper} {a : Act} {w : World} {Q : Exit → Act → World → Prop} (hg1 : o1.guard = none) (ho1 : o1.op = .alloc t)
    (h : wpList P ops Q rest (a.put o1.dst (.pointer (some ⟨w.heap.size, 0, none⟩))) (w.alloc (.cells Z.toArray t))) : wpList P ops Q (o1 :: rest) a w := by
  refine wpList_plain hg1 fun K hK => ?_
  unfold Oper.wp
  rw [hz a o1 w ho1]
  exact hK _ _ h
theorem list32 {l : List Value} (h : l.length = 32) : ∃ x0 x1 x2 x3 x4 x5 x6 x7 x8 x9 x10 x11 x12 x13 x14 x15 x16 x17 x18 x19 x20 x21 x22 x23 x24 x25 x26 x27 x28 x29 x30 x31, l = [x0, x1, x2, x3, x4, x5, x6, x7, x8, x9, x10, x11, x12, x13, x14, x15, x16, x17, x18, x19, x20, x21, x22, x23, x24, x25, x26, x27, x28, x29, x30, x31] := by
  match l, h with
  | [x0, x1, x2, x3, x4, x5, x6, x7, x8, x9, x10, x11, x12, x13, x14, x15, x16, x17, x18, x19, x20, x21, x22, x23, x24, x25, x26, x27, x28, x29, x30, x31], _ => exact ⟨x0, x1, x2, x3, x4, x5, x6, x7, x8, x9, x10, x11, x12, x13, x14, x15, x16, x17, x18, x19, x20, x21, x22, x23, x24, x25, x26, x27, x28, x29, x30, x31, rfl⟩
theorem list33 {l : List Value} (h : l.length = 33) : ∃ x0 x1 x2 x3 x4 x5 x6 x7 x8 x9 x10 x11 x12 x13 x14 x15 x16 x17 x18 x19 x20 x21 x22 x23 x24 x25 x26 x27 x28 x29 x30 x31 x32, l = x0 :: x1 :: x2 :: x3 :: x4 :: x5 :: x6 :: x7 :: x8 :: x9 :: x10 :: x11 :: x12 :: x13 :: x14 :: x15 :: x16 :: x17 :: x18 :: x19 :: x20 :: x21 :: x22 :: x23 :: x24 :: x25 :: x26 :: x27 :: x28 :: x29 :: x30 :: x31 :: x32 :: [] := by
  match l, h with
  | x0 :: x1 :: x2 :: x3 :: x4 :: x5 :: x6 :: x7 :: x8 :: x9 :: x10 :: x11 :: x12 :: x13 :: x14 :: x15 :: x16 :: x17 :: x18 :: x19 :: x20 :: x21 :: x22 :: x23 :: x24 :: x25 :: x26 :: x27 :: x28 :: x29 :: x30 :: x31 :: x32 :: [], _ => exact ⟨x0, x1, x2, x3, x4, x5, x6, x7, x8, x9, x10, x11, x12, x13, x14, x15, x16, x17, x18, x19, x20, x21, x22, x23, x24, x25, x26, x27, x28, x29, x30, x31, x32, rfl⟩
theorem run_storeVar_c {P : Program} (w : World) (b o : Nat) (ty : TypeId) (v : Value) (cs : List Value) (t : TypeId) (hrow : w.heap[b]? = some (.cells cs.toArray t (0, 0))) (hj : o < cs.length) (hi : (P.info? ty).map (·.size) = some 1) (hv : v.cells = #[v]) (h1 : v.oneCell' = true) :
    (storeVar ty ⟨b, o, none⟩ v).run P w = .ok () (w.setRow b (cs.set o v).toArray) := by
  have := run_storeCells_cells (P := P) b o [v] 0 w (fun j hj2 => by
      have hj3 : j = 0 := by simp only [List.length_singleton] at hj2; omega
      subst hj3
      rw [cell_of_row _ _ _ _ _ _ hrow, List.getElem?_toArray, List.getElem?_eq_getElem (by omega)]; rfl) (fun j _ => frozen_of_row _ _ _ _ _ hrow)
    (fun u hu => by rw [List.mem_singleton.1 hu]; exact h1)
  have e := setCells_row (vs := [v]) (o := o) hrow (by rw [List.length_singleton]; omega) (fun u hu => by rw [List.mem_singleton.1 hu]; exact h1)
  have e2 : cs.take o ++ [v] ++ cs.drop (o + [v].length) = cs.set o v := by
    rw [List.set_eq_take_append_cons_drop, if_pos hj, List.append_assoc]; rfl
  rw [e2] at e
  cases hq : P.info? ty with
  | none => simp [hq] at hi
  | some i =>
    have hs : i.size = 1 := by simpa [hq] using hi
    simp only [Nat.add_zero] at this
    simp [storeVar, sizeOf, typeInfo, hq, hv, hs, this, e]
theorem setRow_keeps {w : World} {b : Nat} {cs ds : List Value} {t : TypeId} (h : w.heap[b]? = some (.cells cs.toArray t (0, 0))) : (w.setRow b ds.toArray).heap[b]? = some (.cells ds.toArray t (0, 0)) ∧ Keeps b w (w.setRow b ds.toArray) :=
  ⟨setRow_heap _ _ _ _ _ _ h, (Keeps.refl b w).setRow _⟩
theorem wpList_storeRowW {P : Program} {ops : Array Oper} {rest : List Oper} {o : Oper} {a : Act} {w : World} {Q : Exit → Act → World → Prop} (hgd : o.guard = none) (ty : TypeId) (x y : Operand) (ho : o.op = .store ty x y)
    (g : Nat) (cells : List Value) (hx : a.eval x = .pointer (some ⟨g, 0, none⟩)) (hy : a.eval y = .agg cells.toArray)
    (t : TypeId) (old : List Value) (hg : w.heap[g]? = some (.cells old.toArray t (0, 0))) (hi : (P.info? ty).map (·.size) = some cells.length)
    (hold : old.length = cells.length) (h1 : ∀ v ∈ cells, v.oneCell' = true)
    (h : ∀ w', w'.heap[g]? = some (.cells cells.toArray t (0, 0)) → Keeps g w w' → wpList P ops Q rest (a.put o.dst undef) w') : wpList P ops Q (o :: rest) a w :=
  wpList_store_row hgd ty x y ho g cells.toArray hx hy t old.toArray hg (by simpa using hi) (by simpa using hold) (by simpa using h1) (h _ (setRow_keeps hg).1 (setRow_keeps hg).2)
/-- A row of bytes compared, at any depth. -/
theorem eqIn_ints {P : Program} {t e : TypeId} {kd : IntKind} {n : Nat} (ht : P.underlying t = some (.array n e)) (hu : P.underlying e = some (.int kd)) (hs : (P.info? e).map (·.size) = some 1) (k : IntKind) (d : Nat) (ax bs : List Int) (ha : ax.length = n) (hb : bs.length = n) (w : World) :
    (Op.equalIn (d + 1 + 1) t (.agg (ax.map (Value.int k)).toArray) (.agg (bs.map (Value.int k)).toArray)).run P w = .ok (decide (ax = bs)) w := by
  obtain ⟨i, hi⟩ := info_of_underlying hu
  have hc : P.cellsOf e = 1 := by simp [Program.cellsOf, hi] at hs ⊢; exact hs
  rw [run_equalIn_array w (d + 1) _ _ ht hi, hc, eqItems_ints hu d k ax bs w _ (fun j hj => by simp at hj; omega), all_range_eq ax bs n ha hb]

def z32 : List Int := List.replicate 32 0
/-! What New takes. -/
def nwR (k : Nat) (r : List Int) : Bool := (r.drop k).all (· == 0)
def nwB (wd ver : Int) (r : List Int) : Bool := decide (1 ≤ wd ∧ wd ≤ 32) && decide (0 ≤ ver ∧ ver ≤ 1073741824) && nwR wd.toNat r
/-- A session in memory: version, root, width. -/
def seC (ver wd : Int) (r : List Int) : List Value := .int .i64 ver :: (ints .u8 r ++ [.int .i64 wd])
/-- The document's: width, version, root. -/
def sxC (wd ver : Int) (r : List Int) : List Value := .int .i64 wd :: .int .i64 ver :: ints .u8 r
theorem Try.sizeDg : (Try.prog.info? 23).map (·.size) = some 32 := by kernel_rfl
theorem blt_h (x : Int) (l : List Value) (h : l.length = 32) : Try.prog.built 36 [(0, .int .i64 x), (1, .agg l.toArray)] = some (.int .i64 x :: l).toArray := by
  obtain ⟨x0, x1, x2, x3, x4, x5, x6, x7, x8, x9, x10, x11, x12, x13, x14, x15, x16, x17, x18, x19, x20, x21, x22, x23, x24, x25, x26, x27, x28, x29, x30, x31, rfl⟩ := list32 h
  kernel_rfl
theorem blt_s (x : Int) (l : List Value) (h : l.length = 33) : Try.prog.built 38 [(0, .agg l.toArray), (1, .int .i64 x)] = some (l ++ [Value.int .i64 x]).toArray := by
  obtain ⟨x0, x1, x2, x3, x4, x5, x6, x7, x8, x9, x10, x11, x12, x13, x14, x15, x16, x17, x18, x19, x20, x21, x22, x23, x24, x25, x26, x27, x28, x29, x30, x31, x32, rfl⟩ := list33 h
  kernel_rfl
theorem blt_x (x y : Int) (l : List Value) (h : l.length = 32) : Try.prog.built 42 [(0, .int .i64 x), (1, .int .i64 y), (2, .agg l.toArray)] = some (.int .i64 x :: .int .i64 y :: l).toArray := by
  obtain ⟨x0, x1, x2, x3, x4, x5, x6, x7, x8, x9, x10, x11, x12, x13, x14, x15, x16, x17, x18, x19, x20, x21, x22, x23, x24, x25, x26, x27, x28, x29, x30, x31, rfl⟩ := list32 h
  kernel_rfl
/-- How New ends. -/
def NwP (w : World) (b : Bool) (cs : List Value) (t : TypeId) (e : Ending) (w' : World) : Prop := if b = true then ∃ p, e = .returned (.tuple #[.pointer (some ⟨p, 0, none⟩), .int .i64 0]) ∧ w.heap.size ≤ p ∧ w'.heap[p]? = some (.cells cs.toArray t (0, 0)) else e = .returned (.tuple #[.pointer none, .int .i64 1])
theorem nwR_step {k : Nat} {r : List Int} (hk : k < r.length) : nwR k r = ((r.getD k 0 == 0) && nwR (k + 1) r) := by
  unfold nwR
  rw [List.drop_eq_getElem_cons hk, List.all_cons, List.getD_eq_getElem?_getD, List.getElem?_eq_getElem hk]; rfl
theorem nwR_end {k : Nat} {r : List Int} (hk : r.length ≤ k) : nwR k r = true := by
  unfold nwR; rw [List.drop_of_length_le hk]; rfl
set_option maxRecDepth 100000 in
set_option maxHeartbeats 2000000 in
theorem new_bad (w : World) (wd ver : Int) (r : List Int) (hr : r.length = 32) (hw0 : -9223372036854775808 ≤ wd) (hw1 : wd ≤ 9223372036854775807) (hv0 : -9223372036854775808 ≤ ver) (hv1 : ver ≤ 9223372036854775807) (hb : ¬ (1 ≤ wd ∧ wd ≤ 32) ∨ ¬ (0 ≤ ver ∧ ver ≤ 1073741824)) :
    Calls Try.prog 4 #[.int .i64 wd, .int .i64 ver, .agg (ints .u8 r).toArray] w fun e w' => e = .returned (.tuple #[.pointer none, .int .i64 1]) ∧ Below w.heap.size w w' := by
  have hB := hid ((Below.refl w.heap.size w).alloc (Nat.le_refl _) (.cells (ints .u8 r).toArray 23))
  by_cases c1 : wd < 1
  · clear hb
    go_enter Try.func4, Try.ntmps4
    go_wp2
    refine bodyPost_ret (results_tmp2 Try.results4 _ _ _) rfl ?_
    exact ⟨rfl, hB.out⟩
  · by_cases c2 : 32 < wd
    · clear hb
      go_enter Try.func4, Try.ntmps4
      go_wp2
      refine bodyPost_ret (results_tmp2 Try.results4 _ _ _) rfl ?_
      exact ⟨rfl, hB.out⟩
    · by_cases c3 : ver < 0
      · clear hb
        go_enter Try.func4, Try.ntmps4
        go_wp2
        refine bodyPost_ret (results_tmp2 Try.results4 _ _ _) rfl ?_
        exact ⟨rfl, hB.out⟩
      · have c4 : 1073741824 < ver := by omega
        clear hb
        go_enter Try.func4, Try.ntmps4
        go_wp2
        refine bodyPost_ret (results_tmp2 Try.results4 _ _ _) rfl ?_
        exact ⟨rfl, hB.out⟩
set_option maxRecDepth 100000 in
set_option maxHeartbeats 2000000 in
theorem new_lt (w : World) (k : Nat) (ver : Int) (r : List Int) (hr : r.length = 32) (h1 : 1 ≤ k) (h2 : k < 32) (hv0 : 0 ≤ ver) (hv1 : ver ≤ 1073741824) :
    Calls Try.prog 4 #[.int .i64 k, .int .i64 ver, .agg (ints .u8 r).toArray] w fun e w' => NwP w (nwR k r) (seC ver k r) 38 e w' ∧ Below w.heap.size w w' := by
  have i1 : (1 : Int) ≤ (k : Int) := by omega
  have i2 : (k : Int) ≤ 32 := by omega
  have hne : ¬ 32 = k := by omega
  have r0 := hnew w (.cells (ints .u8 r).toArray 23)
  have hB := (Below.refl w.heap.size w).alloc (Nat.le_refl _) (.cells (ints .u8 r).toArray 23)
  have SD := hid (show (Try.prog.info? 23).map (·.size) = some (ints .u8 r).toArray.size by rw [ints_size, hr]; exact Try.sizeDg)
  have BH := hid (blt_h ver (ints .u8 r) (by rw [ints_len, hr]))
  have BS := hid (blt_s k (.int .i64 ver :: ints .u8 r) (by rw [List.length_cons, ints_len, hr]))
  have R0 := hid r0
  have HB := hid hB
  have HR := hid hr
  clear hB
  go_enter Try.func4, Try.ntmps4
  go_wp2
  generalize hw1 : w.alloc (.cells (ints .u8 r).toArray 23) = w1 at *
  replace hw1 := hid hw1
  clear r0
  go_loopw [25] (fun i wr => ∃ j : Nat, k + j ≤ 32 ∧ i = .int .i64 j ∧ wr = w1 ∧ nwR k r = nwR (k + j) r) (fun i _ => 32 - (intOf i).toNat)
  case atStart => exact ⟨0, by omega, rfl, rfl, rfl⟩
  case round =>
    obtain ⟨j, hj, rfl, hwr, hq⟩ := hrel
    obtain rfl := hwr.symm
    by_cases hlt' : k + j < 32
    · have c0 : w1.cell? ⟨w.heap.size, k + j, none⟩ = some (.int .u8 (r.getD (k + j) 0)) := cell_ints R0.out (k + j) (by omega)
      have hst := nwR_step (k := k + j) (r := r) (by omega)
      rw [← hq] at hst
      have i5 : (j : Int) < ((32 - k : Nat) : Int) := by omega
      generalize r.getD (k + j) 0 = x at *
      have HST := hid hst
      clear hst hq hne
      by_cases hx : x = 0
      · subst hx
        have i6 : j < 32 - k := by omega
        go_wp2
        go_roundw
        case rel => exact ⟨j + 1, by omega, by go_num, trivial, by rw [HST.out]; rfl⟩
        case measure => simp [intOf]; omega
      · have i6 : j < 32 - k := by omega
        go_wp2
        refine bodyPost_ret (results_tmp2 Try.results4 _ _ _) rfl ?_
        have hF : nwR k r = false := by rw [HST.out, beq_eq_false_iff_ne.2 hx]; rfl
        exact ⟨by unfold NwP; rw [hF]; rfl, HB.out⟩
    · obtain rfl : j = 32 - k := by omega
      rw [show k + (32 - k) = 32 by omega, nwR_end (k := 32) (by rw [HR.out]; exact Nat.le_refl _)] at hq
      have HQ := hid hq
      clear hq hne hlt'
      go_wp2_with (first | (refine wpList_load_row rfl 23 _ rfl w.heap.size rfl 23 _ (0, 0) _ R0.out Try.underlying23 rfl SD.out ?_) | (refine wpList_built (by rfl) 36 _ rfl _ rfl _ BH.out ?_) | (refine wpList_built (by rfl) 38 _ rfl _ rfl _ BS.out ?_))
      refine bodyPost_ret (results_tmp2 Try.results4 _ _ _) rfl ?_
      exact ⟨by unfold NwP; rw [HQ.out, if_pos rfl]; exact ⟨w1.heap.size, rfl, HB.out.size, hnew _ _⟩, HB.out.alloc HB.out.size _⟩
set_option maxRecDepth 100000 in
set_option maxHeartbeats 2000000 in
theorem new_32 (w : World) (ver : Int) (r : List Int) (hr : r.length = 32) (hv0 : 0 ≤ ver) (hv1 : ver ≤ 1073741824) :
    Calls Try.prog 4 #[.int .i64 32, .int .i64 ver, .agg (ints .u8 r).toArray] w fun e w' => NwP w true (seC ver 32 r) 38 e w' ∧ Below w.heap.size w w' := by
  have r0 := hnew w (.cells (ints .u8 r).toArray 23)
  have hB := (Below.refl w.heap.size w).alloc (Nat.le_refl _) (.cells (ints .u8 r).toArray 23)
  have SD := hid (show (Try.prog.info? 23).map (·.size) = some (ints .u8 r).toArray.size by rw [ints_size, hr]; exact Try.sizeDg)
  have BH := hid (blt_h ver (ints .u8 r) (by rw [ints_len, hr]))
  have BS := hid (blt_s 32 (.int .i64 ver :: ints .u8 r) (by rw [List.length_cons, ints_len, hr]))
  have R0 := hid r0
  have HB := hid hB
  clear hB r0
  go_enter Try.func4, Try.ntmps4
  go_wp2
  generalize hw1 : w.alloc (.cells (ints .u8 r).toArray 23) = w1 at *
  replace hw1 := hid hw1
  go_loopw [25] (fun i wr => i = .int .i64 0 ∧ wr = w1) (fun i _ => 0)
  case atStart => exact ⟨rfl, rfl⟩
  case round =>
    obtain ⟨rfl, hwr⟩ := hrel
    obtain rfl := hwr.symm
    go_wp2_with (first | (refine wpList_load_row rfl 23 _ rfl w.heap.size rfl 23 _ (0, 0) _ R0.out Try.underlying23 rfl SD.out ?_) | (refine wpList_built (by rfl) 36 _ rfl _ rfl _ BH.out ?_) | (refine wpList_built (by rfl) 38 _ rfl _ rfl _ BS.out ?_))
    refine bodyPost_ret (results_tmp2 Try.results4 _ _ _) rfl ?_
    exact ⟨by unfold NwP; rw [if_pos rfl]; exact ⟨w1.heap.size, rfl, HB.out.size, hnew _ _⟩, HB.out.alloc HB.out.size _⟩
theorem nwB_w {wd ver : Int} {r : List Int} (h : ¬ (1 ≤ wd ∧ wd ≤ 32) ∨ ¬ (0 ≤ ver ∧ ver ≤ 1073741824)) : nwB wd ver r = false := by
  unfold nwB
  rcases h with h | h <;> rw [decide_eq_false h] <;> simp
theorem nwB_y {k : Nat} {ver : Int} {r : List Int} (h1 : 1 ≤ k) (h2 : k ≤ 32) (h : 0 ≤ ver ∧ ver ≤ 1073741824) : nwB k ver r = nwR k r := by
  unfold nwB
  rw [decide_eq_true h, decide_eq_true (by omega)]; simp
theorem new_any (w : World) (wd ver : Int) (r : List Int) (hr : r.length = 32) (hw0 : -9223372036854775808 ≤ wd) (hw1 : wd ≤ 9223372036854775807) (hv0 : -9223372036854775808 ≤ ver) (hv1 : ver ≤ 9223372036854775807) :
    Calls Try.prog 4 #[.int .i64 wd, .int .i64 ver, .agg (ints .u8 r).toArray] w fun e w' => NwP w (nwB wd ver r) (seC ver wd r) 38 e w' ∧ Below w.heap.size w w' := by
  by_cases hb : ¬ (1 ≤ wd ∧ wd ≤ 32) ∨ ¬ (0 ≤ ver ∧ ver ≤ 1073741824)
  · rw [nwB_w hb]
    exact (new_bad w wd ver r hr hw0 hw1 hv0 hv1 hb).mono fun e w' ⟨a, b⟩ => ⟨a, b⟩
  · obtain ⟨k, rfl⟩ := Int.eq_ofNat_of_zero_le (by omega : 0 ≤ wd)
    have hk : 1 ≤ k ∧ k ≤ 32 ∧ 0 ≤ ver ∧ ver ≤ 1073741824 := by omega
    rw [nwB_y hk.1 hk.2.1 hk.2.2]
    by_cases h32 : k = 32
    · subst h32
      rw [nwR_end (by omega)]
      exact new_32 w ver r hr hk.2.2.1 hk.2.2.2
    · exact new_lt w k ver r hr hk.1 (by omega) hk.2.2.1 hk.2.2.2
set_option maxRecDepth 100000 in
set_option maxHeartbeats 2000000 in
theorem xnew_bad (w : World) (wd ver : Int) (r : List Int) (hr : r.length = 32) (hw0 : -9223372036854775808 ≤ wd) (hw1 : wd ≤ 9223372036854775807) (hv0 : -9223372036854775808 ≤ ver) (hv1 : ver ≤ 9223372036854775807) (hb : ¬ (1 ≤ wd ∧ wd ≤ 32) ∨ ¬ (0 ≤ ver ∧ ver ≤ 1073741824)) :
    Calls Try.prog 5 #[.int .i64 wd, .int .i64 ver, .agg (ints .u8 r).toArray] w fun e w' => e = .returned (.tuple #[.pointer none, .int .i64 1]) ∧ Below w.heap.size w w' := by
  have hB := hid ((Below.refl w.heap.size w).alloc (Nat.le_refl _) (.cells (ints .u8 r).toArray 23))
  by_cases c1 : wd < 1
  · clear hb
    go_enter Try.func5, Try.ntmps5
    go_wp2
    refine bodyPost_ret (results_tmp2 Try.results5 _ _ _) rfl ?_
    exact ⟨rfl, hB.out⟩
  · by_cases c2 : 32 < wd
    · clear hb
      go_enter Try.func5, Try.ntmps5
      go_wp2
      refine bodyPost_ret (results_tmp2 Try.results5 _ _ _) rfl ?_
      exact ⟨rfl, hB.out⟩
    · by_cases c3 : ver < 0
      · clear hb
        go_enter Try.func5, Try.ntmps5
        go_wp2
        refine bodyPost_ret (results_tmp2 Try.results5 _ _ _) rfl ?_
        exact ⟨rfl, hB.out⟩
      · have c4 : 1073741824 < ver := by omega
        clear hb
        go_enter Try.func5, Try.ntmps5
        go_wp2
        refine bodyPost_ret (results_tmp2 Try.results5 _ _ _) rfl ?_
        exact ⟨rfl, hB.out⟩
set_option maxRecDepth 100000 in
set_option maxHeartbeats 2000000 in
theorem xnew_ok (w : World) (k : Nat) (ver : Int) (r : List Int) (hr : r.length = 32) (h1 : 1 ≤ k) (h2 : k ≤ 32) (hv0 : 0 ≤ ver) (hv1 : ver ≤ 1073741824) :
    Calls Try.prog 5 #[.int .i64 k, .int .i64 ver, .agg (ints .u8 r).toArray] w fun e w' => NwP w (nwR k r) (sxC k ver r) 42 e w' ∧ Below w.heap.size w w' := by
  have i1 : (1 : Int) ≤ (k : Int) := by omega
  have i2 : (k : Int) ≤ 32 := by omega
  have r0 := hnew w (.cells (ints .u8 r).toArray 23)
  have hB := (Below.refl w.heap.size w).alloc (Nat.le_refl _) (.cells (ints .u8 r).toArray 23)
  have SD := hid (show (Try.prog.info? 23).map (·.size) = some (ints .u8 r).toArray.size by rw [ints_size, hr]; exact Try.sizeDg)
  have BX := hid (blt_x k ver (ints .u8 r) (by rw [ints_len, hr]))
  have R0 := hid r0
  have HB := hid hB
  have HR := hid hr
  clear hB r0
  go_enter Try.func5, Try.ntmps5
  go_wp2
  generalize hw1 : w.alloc (.cells (ints .u8 r).toArray 23) = w1 at *
  replace hw1 := hid hw1
  go_loopw [8] (fun i wr => ∃ j : Nat, j ≤ 32 ∧ i = .int .i64 j ∧ wr = w1 ∧ nwR k r = nwR j r) (fun i _ => 32 - (intOf i).toNat)
  case atStart => exact ⟨k, by omega, rfl, rfl, rfl⟩
  case round =>
    obtain ⟨j, hj, rfl, hwr, hq⟩ := hrel
    obtain rfl := hwr.symm
    by_cases hlt' : j < 32
    · have c0 : w1.cell? ⟨w.heap.size, j, none⟩ = some (.int .u8 (r.getD j 0)) := cell_ints R0.out j (by omega)
      have hst := nwR_step (k := j) (r := r) (by rw [HR.out]; exact hlt')
      rw [← hq] at hst
      have i5 : (j : Int) < 32 := by omega
      generalize r.getD j 0 = x at *
      have HST := hid hst
      clear hst hq
      by_cases hx : x = 0
      · subst hx
        go_wp2
        go_roundw
        case rel => exact ⟨j + 1, by omega, by go_num, trivial, by rw [HST.out]; rfl⟩
        case measure => simp [intOf]; omega
      · go_wp2
        refine bodyPost_ret (results_tmp2 Try.results5 _ _ _) rfl ?_
        have hF : nwR k r = false := by rw [HST.out, beq_eq_false_iff_ne.2 hx]; rfl
        exact ⟨by unfold NwP; rw [hF]; rfl, HB.out⟩
    · obtain rfl : j = 32 := by omega
      rw [nwR_end (k := 32) (by rw [HR.out]; exact Nat.le_refl _)] at hq
      have HQ := hid hq
      clear hq hlt'
      go_wp2_with (first | (refine wpList_load_row rfl 23 _ rfl w.heap.size rfl 23 _ (0, 0) _ R0.out Try.underlying23 rfl SD.out ?_) | (refine wpList_built (by rfl) 42 _ rfl _ rfl _ BX.out ?_))
      refine bodyPost_ret (results_tmp2 Try.results5 _ _ _) rfl ?_
      exact ⟨by unfold NwP; rw [HQ.out, if_pos rfl]; exact ⟨w1.heap.size, rfl, HB.out.size, hnew _ _⟩, HB.out.alloc HB.out.size _⟩
theorem xnew_any (w : World) (wd ver : Int) (r : List Int) (hr : r.length = 32) (hw0 : -9223372036854775808 ≤ wd) (hw1 : wd ≤ 9223372036854775807) (hv0 : -9223372036854775808 ≤ ver) (hv1 : ver ≤ 9223372036854775807) :
    Calls Try.prog 5 #[.int .i64 wd, .int .i64 ver, .agg (ints .u8 r).toArray] w fun e w' => NwP w (nwB wd ver r) (sxC wd ver r) 42 e w' ∧ Below w.heap.size w w' := by
  by_cases hb : ¬ (1 ≤ wd ∧ wd ≤ 32) ∨ ¬ (0 ≤ ver ∧ ver ≤ 1073741824)
  · rw [nwB_w hb]
    exact (xnew_bad w wd ver r hr hw0 hw1 hv0 hv1 hb).mono fun e w' ⟨a, b⟩ => ⟨a, b⟩
  · obtain ⟨k, rfl⟩ := Int.eq_ofNat_of_zero_le (by omega : 0 ≤ wd)
    have hk : 1 ≤ k ∧ k ≤ 32 ∧ 0 ≤ ver ∧ ver ≤ 1073741824 := by omega
    rw [nwB_y hk.1 hk.2.1 hk.2.2]
    exact xnew_ok w k ver r hr hk.1 hk.2.1 hk.2.2.1 hk.2.2.2
end Go.Proofs.Ythmbeflplcfaaaa
