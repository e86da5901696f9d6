import Derived.Test.YtjlakgojbfglhaaG15
namespace Go.Proofs.Ytjlakgojbfglhaa
set_option linter.unusedVariables false
set_option linter.unusedSimpArgs false
open Go.RowKit
attribute [local go_sem ↓] Go.wp_at_zero Go.wp_at_succ


theorem slice_bb (sp : Option Addr) (n c : Nat) (w : World) : (Instr.buildSlice 29 1 #[(0, .slice sp n c)]).run Try.prog w = .ok (.slice (some ⟨w.heap.size, 0, none⟩) 1 1) (w.alloc (.cells #[.slice sp n c] 33)) := by
  kernel_rfl
theorem step_bb {w : World} {ops : Array Oper} {o : Oper} {a : Act} {K : Act → World → Prop} {Q : Exit → Act → World → Prop} {E : Prop} (hw : Region.wanted o (yielded ops a.tmps) = true) (x : Operand) (ho : o.op = .buildSlice 29 1 #[(0, x)])
    (sp : Option Addr) (n c : Nat) (hx : a.eval x = .slice sp n c) (h : K (a.put o.dst (.slice (some ⟨w.heap.size, 0, none⟩) 1 1)) (w.alloc (.cells #[.slice sp n c] 33))) :
    if Region.wanted o (yielded ops a.tmps) = true then Oper.wp Try.prog o a w K Q else E := by
  rw [if_pos hw]
  unfold Oper.wp execOp
  simp only [ho, List.map_toArray, List.map_cons, List.map_nil, hx, Sem.run_bind, slice_bb, Result.andThen_ok, Sem.run_pure]
  exact h
theorem wrap_nat (m : Nat) (h : m ≤ 1000000) : IntKind.i64.wrap (m : Int) = (m : Int) := by
  rw [IntKind.wrap_i64]; omega
theorem own_len (lp : Option Addr) (a b c : Nat) : (Value.slice lp a c).ownBlock = (Value.slice lp b c).ownBlock := by cases lp <;> rfl
theorem Own.heap {w w1 : World} {base : Nat} {v : Value} {zs : List Int} (h : Own w base v zs) (hk : ∀ i, v.ownBlock = some i → w1.heap[i]? = w.heap[i]?) : Own w1 base v zs := ownsRow_heap h hk
/-- What a put leaves. -/
theorem put_end {w w5 w8 w9 : World} {base : Nat} {G : List Nat} {gb : Nat} {lp kp : Option Addr} {lc kc : Nat} {vs : List Value} {B : Bk} (h : BI w base G gb (.slice lp B.Ls.length lc) (.slice kp B.Ks.length kc) vs B) (hbw : base ≤ w.heap.size) (n : Nat) (hn : 2 ≤ n ∧ n - 2 ≤ B.Ls.length) (hKL : B.Ks.length = B.Ls.length) (kd : Int) (l : List Int) (v5 v8 v9 : Value)
    (h5 : Below w.heap.size w w5) (hO5 : Own w5 w.heap.size v5 l) (hO8 : w8.ownsRow base 33 1 v8 (n - 2 + 1) (vs.take (n - 2) ++ [v5])) (hg8 : (w5.alloc (.cells #[v5] 33)).grownBy w8 (Value.slice lp (n - 2) lc).ownBlock) (hd8 : v8.ownBlock = (Value.slice lp (n - 2) lc).ownBlock ∨ v8.ownBlock = some (w5.heap.size + 1))
    (hO9 : w9.ownsRow base 3 1 v9 (n - 2 + 1) ((ints .i64 B.Ks).take (n - 2) ++ [.int .i64 kd])) (hg9 : ((w8.setCell ⟨gb, 0, none⟩ v8).alloc (.cells #[.int .i64 kd] 3)).grownBy w9 (Value.slice kp (n - 2) kc).ownBlock) (hd9 : v9.ownBlock = (Value.slice kp (n - 2) kc).ownBlock ∨ v9.ownBlock = some ((w8.setCell ⟨gb, 0, none⟩ v8).heap.size + 1)) :
    ∃ G', BA (w9.setCell ⟨gb, 1, none⟩ v9) base G' gb { B with Ls := B.Ls.take (n - 2) ++ [l], Ks := B.Ks.take (n - 2) ++ [kd] } ∧ Fr G w (w9.setCell ⟨gb, 1, none⟩ v9) ∧ Gr w G G' := by
  have eL : (Value.slice lp (n - 2) lc).ownBlock = (Value.slice lp B.Ls.length lc).ownBlock := own_len _ _ _ _
  have eK : (Value.slice kp (n - 2) kc).ownBlock = (Value.slice kp B.Ks.length kc).ownBlock := own_len _ _ _ _
  rw [eL] at hg8 hd8
  rw [eK] at hg9 hd9
  -- blocks and their kinds
  have tl : ∀ k, (Value.slice lp B.Ls.length lc).ownBlock = some k → ∃ cur, w.heap[k]? = some (.cells cur 33 (0, 0)) := fun k e => (ownsRow_block h.rl k e).2
  have tk : ∀ k, (Value.slice kp B.Ks.length kc).ownBlock = some k → ∃ cur, w.heap[k]? = some (.cells cur 3 (0, 0)) := fun k e => (ownsRow_block h.rk k e).2
  have s5 := h5.size
  have s8 : w5.heap.size + 1 ≤ w8.heap.size := by have := hg8.size; simpa using this
  have s9 : w8.heap.size + 1 ≤ w9.heap.size := by have := hg9.size; simpa using this
  have A8 : ∀ k o, w5.heap[k]? = some o → (Value.slice lp B.Ls.length lc).ownBlock ≠ some k → w8.heap[k]? = some o := fun k o ho hne => by
    have hk := hlt_ ho
    rw [hg8.block k (by simp; omega) (fun e => hne e.symm)]; exact hold ho
  have A9 : ∀ k o, w8.heap[k]? = some o → k ≠ gb → (Value.slice kp B.Ks.length kc).ownBlock ≠ some k → w9.heap[k]? = some o := fun k o ho hg hne => by
    have hk := hlt_ ho
    rw [hg9.block k (by simp; omega) (fun e => hne e.symm)]
    exact hold ((heap_setCell_other w8 ⟨gb, 0, none⟩ k v8 hg).trans ho)
  have AW : ∀ k o, w9.heap[k]? = some o → k ≠ gb → (w9.setCell ⟨gb, 1, none⟩ v9).heap[k]? = some o := fun k o ho hg => (heap_setCell_other w9 ⟨gb, 1, none⟩ k v9 hg).trans ho
  have AF : ∀ k o, w5.heap[k]? = some o → k ≠ gb → (Value.slice lp B.Ls.length lc).ownBlock ≠ some k → (Value.slice kp B.Ks.length kc).ownBlock ≠ some k → (w9.setCell ⟨gb, 1, none⟩ v9).heap[k]? = some o := fun k o ho a b c => AW k o (A9 k o (A8 k o ho b) a c) a
  have gbw5 := (h5.block gb (h.lt gb h.gb).2).trans h.cell
  have ngl : (Value.slice lp B.Ls.length lc).ownBlock ≠ some gb := fun e => by obtain ⟨cur, hc⟩ := tl gb e; exact ne_ty hc h.cell (by decide) rfl
  have ngk : (Value.slice kp B.Ks.length kc).ownBlock ≠ some gb := fun e => by obtain ⟨cur, hc⟩ := tk gb e; exact ne_ty hc h.cell (by decide) rfl
  have gb8 := A8 gb _ gbw5 ngl
  have gb8' := heap_setCell_same w8 gb 0 _ _ v8 gb8
  have gb9 : w9.heap[gb]? = _ := (hg9.block gb (by have := hlt_ gb8; simp; omega) (fun e => ngk e.symm)).trans (hold gb8')
  have gbF := heap_setCell_same w9 gb 1 _ _ v9 gb9
  -- the new rows
  have b8 : ∀ k, v8.ownBlock = some k → k ≠ gb ∧ (Value.slice kp B.Ks.length kc).ownBlock ≠ some k ∧ ∃ cur, w8.heap[k]? = some (.cells cur 33 (0, 0)) := fun k e => by
    obtain ⟨_, cur, hc⟩ := ownsRow_block hO8 k e
    refine ⟨ne_ty hc gb8 (by decide), fun e2 => ?_, cur, hc⟩
    obtain ⟨cur2, hc2⟩ := tk k e2
    have nl : (Value.slice lp B.Ls.length lc).ownBlock ≠ some k := fun e3 => by obtain ⟨c3, h3⟩ := tl k e3; exact ne_ty h3 hc2 (by decide) rfl
    have := A8 k _ ((h5.block k (hlt_ hc2)).trans hc2) nl
    exact ne_ty hc this (by decide) rfl
  have b9 : ∀ k, v9.ownBlock = some k → k ≠ gb := fun k e => by
    obtain ⟨_, cur, hc⟩ := ownsRow_block hO9 k e
    exact ne_ty hc gb9 (by decide)
  have R8 : (w9.setCell ⟨gb, 1, none⟩ v9).ownsRow base 33 1 v8 (n - 2 + 1) (vs.take (n - 2) ++ [v5]) := ownsRow_heap hO8 fun k e => by
    obtain ⟨q1, q2, cur, q3⟩ := b8 k e
    rw [q3]; exact AW k _ (A9 k _ q3 q1 q2) q1
  have R9 : (w9.setCell ⟨gb, 1, none⟩ v9).ownsRow base 3 1 v9 (n - 2 + 1) ((ints .i64 B.Ks).take (n - 2) ++ [.int .i64 kd]) := ownsRow_heap hO9 fun k e => by
    obtain ⟨_, cur, hc⟩ := ownsRow_block hO9 k e
    rw [hc]; exact AW k _ hc (b9 k e)
  have five : ∀ (k : Nat) (cur : Array Value), w5.heap[k]? = some (.cells cur 5 (0, 0)) → (w9.setCell ⟨gb, 1, none⟩ v9).heap[k]? = some (.cells cur 5 (0, 0)) := fun k cur hc => by
    refine AF k _ hc (ne_ty hc gbw5 (by decide)) (fun e => ?_) (fun e => ?_)
    · obtain ⟨c3, h3⟩ := tl k e
      exact ne_ty hc ((h5.block k (hlt_ h3)).trans h3) (by decide) rfl
    · obtain ⟨c3, h3⟩ := tk k e
      exact ne_ty hc ((h5.block k (hlt_ h3)).trans h3) (by decide) rfl
  have lenV : (vs.take (n - 2)).length = n - 2 := by rw [List.length_take, h.len]; omega
  have lenL : (B.Ls.take (n - 2) ++ [l]).length = n - 2 + 1 := by rw [List.length_append, List.length_take]; simp; omega
  have lenK : (B.Ks.take (n - 2) ++ [kd]).length = n - 2 + 1 := by rw [List.length_append, List.length_take]; simp; omega
  have sF : (w9.setCell ⟨gb, 1, none⟩ v9).heap.size = w9.heap.size := World.size_setCell _ _ _
  have oldV : ∀ i, i < n - 2 → (vs.take (n - 2) ++ [v5]).getD i undef = vs.getD i undef := fun i hi => by
    rw [List.getD_eq_getElem?_getD, List.getElem?_append_left (by omega), List.getElem?_take, if_pos hi, ← List.getD_eq_getElem?_getD]
  have newV : (vs.take (n - 2) ++ [v5]).getD (n - 2) undef = v5 := by
    rw [List.getD_eq_getElem?_getD, List.getElem?_append_right (by omega), lenV, Nat.sub_self]; rfl
  have oldL : ∀ i, i < n - 2 → (B.Ls.take (n - 2) ++ [l]).getD i [] = B.Ls.getD i [] := fun i hi => by
    rw [List.getD_eq_getElem?_getD, List.getElem?_append_left (by rw [List.length_take]; omega), List.getElem?_take, if_pos hi, ← List.getD_eq_getElem?_getD]
  have newL : (B.Ls.take (n - 2) ++ [l]).getD (n - 2) [] = l := by
    rw [List.getD_eq_getElem?_getD, List.getElem?_append_right (by rw [List.length_take]; omega), show n - 2 - (List.take (n - 2) B.Ls).length = 0 by rw [List.length_take]; omega]; rfl
  refine ⟨v8.ownBlock.toList ++ v9.ownBlock.toList ++ v5.ownBlock.toList ++ G, ⟨v8, v9, vs.take (n - 2) ++ [v5], ?_⟩, ?_, ?_⟩
  · refine ⟨?_, by simp [h.gb], ?_, fun k e => by simp [e], ?_, fun k e => by simp [e], ?_, ?_, ?_, ?_⟩
    · exact gbF
    · show (w9.setCell ⟨gb, 1, none⟩ v9).ownsRow base 33 1 v8 (B.Ls.take (n - 2) ++ [l]).length _
      rw [lenL]; exact R8
    · show (w9.setCell ⟨gb, 1, none⟩ v9).ownsRow base 3 1 v9 (B.Ks.take (n - 2) ++ [kd]).length (ints .i64 (B.Ks.take (n - 2) ++ [kd]))
      rw [lenK]
      have : ints .i64 (B.Ks.take (n - 2) ++ [kd]) = (ints .i64 B.Ks).take (n - 2) ++ [.int .i64 kd] := by simp [ints, List.map_take]
      rw [this]; exact R9
    · show _ = (B.Ls.take (n - 2) ++ [l]).length
      rw [lenL, List.length_append, lenV]; rfl
    · intro i hi
      change i < (B.Ls.take (n - 2) ++ [l]).length at hi
      show Own _ base ((vs.take (n - 2) ++ [v5]).getD i undef) ((B.Ls.take (n - 2) ++ [l]).getD i [])
      by_cases c : i < n - 2
      · rw [oldV i c, oldL i c]
        have hO := h.own i (by omega)
        refine hO.heap fun k e => ?_
        obtain ⟨_, cur, hc⟩ := ownsRow_block hO k e
        rw [hc]; exact five k cur ((h5.block k (hlt_ hc)).trans hc)
      · obtain rfl : i = n - 2 := by omega
        rw [newV, newL]
        refine (hO5.base hbw).heap fun k e => ?_
        obtain ⟨_, cur, hc⟩ := ownsRow_block hO5 k e
        rw [hc]; exact five k cur hc
    · intro i hi k e
      change i < (B.Ls.take (n - 2) ++ [l]).length at hi
      change ((vs.take (n - 2) ++ [v5]).getD i undef).ownBlock = some k at e
      by_cases c : i < n - 2
      · rw [oldV i c] at e
        have := h.gv i (by omega) k e
        simp [this]
      · obtain rfl : i = n - 2 := by omega
        rw [newV] at e
        simp [e]
    · intro k hk
      rw [sF]
      rcases List.mem_append.1 hk with hk | hk
      · rcases List.mem_append.1 hk with hk | hk
        · rcases List.mem_append.1 hk with hk | hk
          · have e : v8.ownBlock = some k := by simpa [eq_comm] using hk
            obtain ⟨q, cur, hc⟩ := ownsRow_block hO8 k e
            exact ⟨q, by have := hlt_ hc; omega⟩
          · have e : v9.ownBlock = some k := by simpa [eq_comm] using hk
            obtain ⟨q, cur, hc⟩ := ownsRow_block hO9 k e
            exact ⟨q, hlt_ hc⟩
        · have e : v5.ownBlock = some k := by simpa [eq_comm] using hk
          obtain ⟨q, cur, hc⟩ := ownsRow_block hO5 k e
          exact ⟨by omega, by have := hlt_ hc; omega⟩
      · have := h.lt k hk
        exact ⟨this.1, by omega⟩
  · refine ⟨?_, ?_, ?_, by rw [sF]; omega, fun k hk hn => ?_⟩
    · show w9.os = _; rw [hg9.os]; show w8.os = _; rw [hg8.os]; exact h5.os
    · show w9.tape = _; rw [hg9.tape]; show w8.tape = _; rw [hg8.tape]; exact h5.tape
    · show w9.output = _; rw [hg9.output]; show w8.output = _; rw [hg8.output]; exact h5.output
    · cases ho : w.heap[k]? with
      | none => rw [Array.getElem?_eq_none_iff] at ho; omega
      | some o => exact AF k o ((h5.block k hk).trans ho) (fun e => hn (e ▸ h.gb)) (fun e => hn (h.gl k e)) (fun e => hn (h.gk k e))
  · intro k hk
    rcases List.mem_append.1 hk with hk | hk
    · rcases List.mem_append.1 hk with hk | hk
      · rcases List.mem_append.1 hk with hk | hk
        · have e : v8.ownBlock = some k := by simpa [eq_comm] using hk
          rcases hd8 with q | q
          · exact Or.inl (h.gl k (q.symm.trans e))
          · right; rw [q] at e; cases e; omega
        · have e : v9.ownBlock = some k := by simpa [eq_comm] using hk
          rcases hd9 with q | q
          · exact Or.inl (h.gk k (q.symm.trans e))
          · right; rw [q] at e; cases e; rw [World.size_setCell]; omega
      · have e : v5.ownBlock = some k := by simpa [eq_comm] using hk
        exact Or.inr (ownsRow_block hO5 k e).1
    · exact Or.inl hk
set_option maxRecDepth 100000 in
set_option maxHeartbeats 1000000 in
theorem put_in (w : World) (base : Nat) (G : List Nat) (gb : Nat) (lv kv : Value) (vs : List Value) (B : Bk) (h : BI w base G gb lv kv vs B) (hbw : base ≤ w.heap.size) (n : Nat) (hn : 2 ≤ n ∧ n - 2 ≤ B.Ls.length) (hKL : B.Ks.length = B.Ls.length) (hcap : B.Ls.length ≤ 1000) (kd : Int) (l : List Int) (sp : Option Addr) (cap : Nat) (hS : Src w sp cap l) (hl : l.length ≤ 1000) :
    Calls Try.prog 25 #[.pointer (some ⟨gb, 0, none⟩), .int .i64 n, .int .i64 kd, .slice sp l.length cap] w fun e w' => e = .returned (.bool true) ∧ ∃ G', BA w' base G' gb { B with Ls := B.Ls.take (n - 2) ++ [l], Ks := B.Ks.take (n - 2) ++ [kd] } ∧ Fr G w w' ∧ Gr w G G' := by
  obtain ⟨lp, lc, hlv, hlc1, hlc2, hlc3⟩ := ownsRow_shape h.rl
  obtain ⟨kp, kc, hkv, hkc1, hkc2, hkc3⟩ := ownsRow_shape h.rk
  subst hlv
  subst hkv
  have c0 : w.cell? ⟨gb, 0, none⟩ = some (.slice lp B.Ls.length lc) := by rw [cell_of_row _ _ _ _ _ _ h.cell]; rfl
  have hbl := h.lt gb h.gb
  have i0 : (n : Int) ≤ 1002 := by omega
  have i1 : 2 ≤ (n : Int) := by omega
  have i2 : (n : Int) - 2 ≤ (B.Ls.length : Int) := by omega
  have i3 : (B.Ls.length : Int) ≤ 1000 := by omega
  have HN2 := hid (show (n : Int) - 2 = ((n - 2 : Nat) : Int) by omega)
  have HN3 := hid (wrap_nat (n - 2) (by omega))
  have HC1 := hid (show n - 2 ≤ lc by omega)
  have HC2 := hid hlc2
  have HC3 := hid hlc3
  have HLL := hid (show n - 2 + 1 ≤ 1000000 by omega)
  have HBW := hid (show base ≤ w.drew.heap.size from hbw)
  have KC := hid (copied_any w.drew l sp cap (hS.below ((Below.refl w.heap.size w).drew) (Nat.le_refl _)) (by omega))
  have KS := hid (fun (w5 : World) (h5 : Below w.drew.heap.size w.drew w5) => (show w5.cell? ⟨gb, 0, none⟩ = some (.slice lp B.Ls.length lc) from (h5.cell (p := ⟨gb, 0, none⟩) hbl.2).trans c0))
  have KT := hid (fun (w5 : World) (h5 : Below w.drew.heap.size w.drew w5) (v : Value) => (show (w5.alloc (.cells #[v] 33)).cell? ⟨gb, 0, none⟩ = some (.slice lp B.Ls.length lc) from ((below_new w5 _).cell (p := ⟨gb, 0, none⟩) (Nat.lt_of_lt_of_le hbl.2 h5.size)).trans (KS.out w5 h5)))
  have KL := hid (fun (w5 : World) (h5 : Below w.drew.heap.size w.drew w5) => ownsRow_cut (m := n - 2) (show w5.ownsRow base 33 1 (.slice lp B.Ls.length lc) B.Ls.length vs from ownsRow_heap h.rl fun i e => h5.block i (h.lt i (h.gl i e)).2) hn.2)
  have hgne : ∀ k, (Value.slice lp B.Ls.length lc).ownBlock = some k → k ≠ gb := fun k e => by
    obtain ⟨_, cur, hh⟩ := ownsRow_block h.rl k e
    exact ne_ty hh h.cell (by decide)
  have KG := hid (fun (w5 w8 : World) (v : Value) (h5 : Below w.drew.heap.size w.drew w5) (hg : (w5.alloc (.cells #[v] 33)).grownBy w8 (Value.slice lp (n - 2) lc).ownBlock) => (show w8.cell? ⟨gb, 0, none⟩ = some (.slice lp B.Ls.length lc) ∧ w8.frozen? ⟨gb, 0, none⟩ = false from by
    have e8 : w8.heap[gb]? = some (.cells (bcells (.slice lp B.Ls.length lc) (.slice kp B.Ks.length kc) B) 32 (0, 0)) := by
      rw [hg.block gb (by simp; exact Nat.lt_succ_of_lt (Nat.lt_of_lt_of_le hbl.2 h5.size)) (fun e => hgne gb ((own_len lp _ _ lc).trans e.symm) rfl)]
      exact hold ((h5.block gb hbl.2).trans h.cell)
    exact ⟨by rw [cell_of_row _ _ _ _ _ _ e8]; rfl, frozen_of_row _ _ _ _ _ e8⟩))
  have e8 : ∀ (w5 w8 : World) (v : Value), Below w.drew.heap.size w.drew w5 → (w5.alloc (.cells #[v] 33)).grownBy w8 (Value.slice lp (n - 2) lc).ownBlock → w8.heap[gb]? = some (.cells (bcells (.slice lp B.Ls.length lc) (.slice kp B.Ks.length kc) B) 32 (0, 0)) := fun w5 w8 v h5 hg => by
    rw [hg.block gb (by simp; exact Nat.lt_succ_of_lt (Nat.lt_of_lt_of_le hbl.2 h5.size)) (fun e => hgne gb ((own_len lp _ _ lc).trans e.symm) rfl)]
    exact hold ((h5.block gb hbl.2).trans h.cell)
  have KX := hid (fun (w5 w8 : World) (v u : Value) (h5 : Below w.drew.heap.size w.drew w5) (hg : (w5.alloc (.cells #[v] 33)).grownBy w8 (Value.slice lp (n - 2) lc).ownBlock) => (show (w8.setCell ⟨gb, 0, none⟩ u).cell? ⟨gb, 1, none⟩ = some (.slice kp B.Ks.length kc) from by
    rw [cell_of_row _ _ _ _ _ _ (heap_setCell_same w8 gb 0 _ _ u (e8 w5 w8 v h5 hg))]; rfl))
  have KY := hid (fun (w5 w8 : World) (v u : Value) (h5 : Below w.drew.heap.size w.drew w5) (hg : (w5.alloc (.cells #[v] 33)).grownBy w8 (Value.slice lp (n - 2) lc).ownBlock) => (show (w8.setCell ⟨gb, 0, none⟩ u).ownsRow base 3 1 (.slice kp (n - 2) kc) (n - 2) ((ints .i64 B.Ks).take (n - 2)) ∧ base ≤ (w8.setCell ⟨gb, 0, none⟩ u).heap.size ∧ (∀ (w10 : World) (y : Value), ((w8.setCell ⟨gb, 0, none⟩ u).alloc (.cells #[y] 3)).grownBy w10 (Value.slice kp (n - 2) kc).ownBlock → w10.cell? ⟨gb, 1, none⟩ = some (.slice kp B.Ks.length kc) ∧ w10.frozen? ⟨gb, 1, none⟩ = false) from by
    have g8 := heap_setCell_same w8 gb 0 _ _ u (e8 w5 w8 v h5 hg)
    have nk : ∀ k, (Value.slice kp B.Ks.length kc).ownBlock = some k → k ≠ gb ∧ (Value.slice lp B.Ls.length lc).ownBlock ≠ some k := fun k e => by
      obtain ⟨_, cur, hc⟩ := ownsRow_block h.rk k e
      refine ⟨ne_ty hc h.cell (by decide), fun e2 => ?_⟩
      obtain ⟨_, cur2, hc2⟩ := ownsRow_block h.rl k e2
      exact ne_ty hc hc2 (by decide) rfl
    refine ⟨ownsRow_cut (ownsRow_heap h.rk fun k e => ?_) (by omega), ?_, fun w10 y hg10 => ?_⟩
    · obtain ⟨_, cur, hc⟩ := ownsRow_block h.rk k e
      rw [heap_setCell_other w8 ⟨gb, 0, none⟩ k u (nk k e).1, hg.block k (by have := hlt_ hc; have := h5.size; simp; exact Nat.lt_succ_of_lt (Nat.lt_of_lt_of_le (hlt_ hc) h5.size)) (fun e2 => (nk k e).2 ((own_len lp _ _ lc).trans e2.symm)), hc]
      exact hold ((h5.block k (hlt_ hc)).trans hc)
    · rw [World.size_setCell]
      have := hg.size
      have := h5.size
      simp at *
      omega
    · have e10 : w10.heap[gb]? = _ := (hg10.block gb (by have := hlt_ g8; simp at *; omega) (fun e => (nk gb ((own_len kp _ _ kc).trans e.symm)).1 rfl)).trans (hold g8)
      exact ⟨by rw [cell_of_row _ _ _ _ _ _ e10]; rfl, frozen_of_row _ _ _ _ _ e10⟩))
  have HI := hid h
  have HN := hid hn
  have HKL := hid hKL
  have HKC := hid (show B.Ks.length ≤ kc ∧ kc ≤ maxLen ∧ (kp = none → kc = 0) from ⟨hkc1, hkc2, hkc3⟩)
  clear h hS hlc1 hlc2 hlc3 hkc1 hkc2 hkc3 hn hKL hgne e8
  go_enter Try.func25, Try.ntmps25
  go_wp2
  refine wp_region_noPanic ?_
  refine wp_region_held_drew (S := fun _ => True) (by kernel_rfl) trivial (fun hHeld => ?_)
  refine wpAnyH_take (i := 0) (oi := { dst := some 21, op := Op.move (Operand.tmp 0), type := 28, pos := "outright.go:63", after := #[], guard := none }) (v := .pointer (some ⟨gb, 0, none⟩)) rfl (by kernel_rfl) (by kernel_rfl) (by kernel_rfl) (fun _ _ _ h => h) (Or.inl ⟨by rfl, by intro w hS; go_simp⟩) hHeld ?_
  try simp only [Act.put, List.setIfInBounds_toArray, List.set_cons_zero, List.set_cons_succ]
  refine wpAnyH_take (i := 1) (oi := { dst := some 22, op := Op.move (Operand.tmp 0), type := 28, pos := "outright.go:63", after := #[], guard := none }) (v := .pointer (some ⟨gb, 0, none⟩)) rfl (by kernel_rfl) (by kernel_rfl) (by kernel_rfl) (fun _ _ _ h => h) (Or.inl ⟨by rfl, by intro w hS; go_simp⟩) hHeld ?_
  try simp only [Act.put, List.setIfInBounds_toArray, List.set_cons_zero, List.set_cons_succ]
  refine wpAnyH_take (i := 5) (oi := { dst := some 26, op := Op.move (Operand.tmp 1), type := 3, pos := "outright.go:63", after := #[], guard := none }) (v := .int .i64 (n : Int)) rfl (by kernel_rfl) (by kernel_rfl) (by kernel_rfl) (fun _ _ _ h => h) (Or.inl ⟨by rfl, by intro w hS; go_simp⟩) hHeld ?_
  try simp only [Act.put, List.setIfInBounds_toArray, List.set_cons_zero, List.set_cons_succ]
  refine wpAnyH_take (i := 8) (oi := { dst := some 29, op := Op.move (Operand.tmp 3), type := 33, pos := "outright.go:63", after := #[], guard := none }) (v := .slice sp l.length cap) rfl (by kernel_rfl) (by kernel_rfl) (by kernel_rfl) (fun _ _ _ h => h) (Or.inl ⟨by rfl, by intro w hS; go_simp⟩) hHeld ?_
  try simp only [Act.put, List.setIfInBounds_toArray, List.set_cons_zero, List.set_cons_succ]
  refine wpAnyH_take (i := 2) (oi := { dst := some 23, op := Op.nilCheck (Operand.tmp 22), type := 0, pos := "outright.go:63", after := #[{ on := 1, ground := Ground.data }], guard := none }) (v := .pointer (some ⟨gb, 0, none⟩)) rfl (by kernel_rfl) (by kernel_rfl) (by kernel_rfl) (fun _ _ _ h => h) (Or.inl ⟨by rfl, by intro w hS; go_simp⟩) hHeld ?_
  try simp only [Act.put, List.setIfInBounds_toArray, List.set_cons_zero, List.set_cons_succ]
  refine wpAnyH_take (i := 6) (oi := { dst := some 27, op := Op.binOp BinOp.sub 3 (Operand.tmp 26) (Operand.const (Value.int IntKind.i64 2)) 3, type := 3, pos := "outright.go:63", after := #[{ on := 5, ground := Ground.data }], guard := none }) (v := .int .i64 ((n - 2 : Nat) : Int)) rfl (by kernel_rfl) (by kernel_rfl) (by kernel_rfl) (fun _ _ _ h => h) (Or.inl ⟨by rfl, by intro w hS; (have he2 := HN2.out; have hw2 := HN3.out; go_simp)⟩) hHeld ?_
  try simp only [Act.put, List.setIfInBounds_toArray, List.set_cons_zero, List.set_cons_succ]
  refine wpAnyH_take (i := 3) (oi := { dst := some 24, op := Op.fieldAddr 32 (Operand.tmp 23) 0, type := 0, pos := "outright.go:63", after := #[{ on := 2, ground := Ground.data }], guard := none }) (v := .pointer (some ⟨gb, 0, none⟩)) rfl (by kernel_rfl) (by kernel_rfl) (by kernel_rfl) (fun _ _ _ h => h) (Or.inl ⟨by rfl, by intro w hS; go_simp⟩) hHeld ?_
  try simp only [Act.put, List.setIfInBounds_toArray, List.set_cons_zero, List.set_cons_succ]
  refine wpAnyH_ready (rs := [4, 9]) (by kernel_rfl) (by simp) ?_
  refine (AllReadyH.cons (o := { dst := some 25, op := Op.load 29 (Operand.tmp 24), type := 29, pos := "outright.go:63", after := #[{ on := 3, ground := Ground.data }], guard := none }) rfl (fun K hK => ?_) (AllReadyH.cons (o := { dst := some 30, op := Op.call { callee := Callee.value (Operand.func 24), args := #[Operand.tmp 29], argTypes := #[33] }, type := 33, pos := "outright.go:63", after := #[{ on := 8, ground := Ground.data }], guard := none }) rfl (fun K hK => ?_) AllReadyH.nil))
  · skip
    go_simp
    refine hK.out _ _ (trivial) (fun hHeld2 => ?_)
    clear hK K hHeld
    have hHeld := hHeld2
    clear hHeld2
    try simp only [Act.put, List.setIfInBounds_toArray, List.set_cons_zero, List.set_cons_succ]
    refine wpAnyH_take (i := 7) (oi := { dst := some 28, op := Op.slice 29 (Operand.tmp 25) none (some (Operand.tmp 27)) none, type := 29, pos := "outright.go:63", after := #[{ on := 4, ground := Ground.data }, { on := 6, ground := Ground.data }], guard := none }) (v := .slice lp (n - 2) lc) rfl (by kernel_rfl) (by kernel_rfl) (by kernel_rfl) (fun _ _ _ h => h) (yields_cut (by rfl) 29 (Or.inl rfl) (.tmp 25) (.tmp 27) rfl lp B.Ls.length (n - 2) lc rfl rfl HC1.out HC2.out HC3.out) hHeld ?_
    try simp only [Act.put, List.setIfInBounds_toArray, List.set_cons_zero, List.set_cons_succ]
    refine wpAnyH_ready (rs := [9]) (by kernel_rfl) (by simp) ?_
    refine (AllReadyH.cons (o := { dst := some 30, op := Op.call { callee := Callee.value (Operand.func 24), args := #[Operand.tmp 29], argTypes := #[33] }, type := 33, pos := "outright.go:63", after := #[{ on := 8, ground := Ground.data }], guard := none }) rfl (fun K hK => ?_) AllReadyH.nil)
    go_simp
    go_at_call 24
    refine KC.out.mono ?_
    rintro e w5 ⟨v5, rfl, hO5, hB5⟩
    obtain ⟨d5, e5, hv5, _, _⟩ := hO5.form
    subst hv5
    have c05 := KS.out w5 hB5
    go_wp2_with fail
    refine hK.out _ _ (trivial) (fun hHeld2 => ?_)
    clear hK K hHeld
    have hHeld := hHeld2
    clear hHeld2
    try simp only [Act.put, List.setIfInBounds_toArray, List.set_cons_zero, List.set_cons_succ]
    refine wpAnyH_ready (rs := [10]) (by kernel_rfl) (by simp) ?_
    refine (AllReadyH.cons (o := { dst := some 31, op := Op.buildSlice 29 1 #[(0, Operand.tmp 30)], type := 29, pos := "outright.go:63", after := #[{ on := 9, ground := Ground.data }], guard := none }) rfl (fun K hK => ?_) AllReadyH.nil)
    refine step_bb (by rfl) (.tmp 30) rfl d5 l.length e5 rfl ?_
    have c06 := KT.out w5 hB5 (.slice d5 l.length e5)
    refine hK.out _ _ (trivial) (fun hHeld2 => ?_)
    clear hK K hHeld
    have hHeld := hHeld2
    clear hHeld2
    try simp only [Act.put, List.setIfInBounds_toArray, List.set_cons_zero, List.set_cons_succ]
    refine wpAnyH_ready (rs := [11]) (by kernel_rfl) (by simp) ?_
    refine (AllReadyH.cons (o := { dst := some 32, op := Op.call { callee := Callee.builtin Builtin.append, args := #[Operand.tmp 28, Operand.tmp 31], argTypes := #[29, 29] }, type := 29, pos := "outright.go:63", after := #[{ on := 7, ground := Ground.data }, { on := 10, ground := Ground.data }, { on := 9, ground := Ground.chain }], guard := none }) rfl (fun K hK => ?_) AllReadyH.nil)
    refine step_pushB (w := w5) rfl (.tmp 28) (.tmp 31) rfl base (.slice lp (n - 2) lc) (n - 2) _ (.slice d5 l.length e5) rfl (KL.out w5 hB5) rfl rfl HLL.out (Nat.le_trans HBW.out hB5.size) _ _ ?_
    intro v8 w8 hO8 hg8 hd8
    obtain ⟨s8, c8, hv8, _⟩ := ownsRow_shape hO8
    subst hv8
    have cg := KG.out w5 w8 _ hB5 hg8
    have cx := cg.1
    have fx := cg.2
    refine hK.out _ _ (trivial) (fun hHeld2 => ?_)
    clear hK K hHeld
    have hHeld := hHeld2
    clear hHeld2
    try simp only [Act.put, List.setIfInBounds_toArray, List.set_cons_zero, List.set_cons_succ]
    refine wpAnyH_take (i := 12) (oi := { dst := some 33, op := Op.nilCheck (Operand.tmp 21), type := 0, pos := "outright.go:63", after := #[{ on := 0, ground := Ground.data }, { on := 0, ground := Ground.phase }, { on := 1, ground := Ground.phase }, { on := 2, ground := Ground.phase }, { on := 3, ground := Ground.phase }, { on := 4, ground := Ground.phase }, { on := 5, ground := Ground.phase }, { on := 6, ground := Ground.phase }, { on := 7, ground := Ground.phase }, { on := 8, ground := Ground.phase }, { on := 9, ground := Ground.phase }, { on := 10, ground := Ground.phase }, { on := 11, ground := Ground.phase }], guard := none }) (v := .pointer (some ⟨gb, 0, none⟩)) rfl (by kernel_rfl) (by kernel_rfl) (by kernel_rfl) (fun _ _ _ h => h) (Or.inl ⟨by rfl, by intro w hS; go_simp⟩) hHeld ?_
    try simp only [Act.put, List.setIfInBounds_toArray, List.set_cons_zero, List.set_cons_succ]
    refine wpAnyH_take (i := 13) (oi := { dst := some 34, op := Op.fieldAddr 32 (Operand.tmp 33) 0, type := 0, pos := "outright.go:63", after := #[{ on := 12, ground := Ground.data }, { on := 0, ground := Ground.phase }, { on := 1, ground := Ground.phase }, { on := 2, ground := Ground.phase }, { on := 3, ground := Ground.phase }, { on := 4, ground := Ground.phase }, { on := 5, ground := Ground.phase }, { on := 6, ground := Ground.phase }, { on := 7, ground := Ground.phase }, { on := 8, ground := Ground.phase }, { on := 9, ground := Ground.phase }, { on := 10, ground := Ground.phase }, { on := 11, ground := Ground.phase }], guard := none }) (v := .pointer (some ⟨gb, 0, none⟩)) rfl (by kernel_rfl) (by kernel_rfl) (by kernel_rfl) (fun _ _ _ h => h) (Or.inl ⟨by rfl, by intro w hS; go_simp⟩) hHeld ?_
    try simp only [Act.put, List.setIfInBounds_toArray, List.set_cons_zero, List.set_cons_succ]
    refine wpAnyH_ready (rs := [14]) (by kernel_rfl) (by simp) ?_
    refine (AllReadyH.cons (o := { dst := none, op := Op.store 29 (Operand.tmp 34) (Operand.tmp 32), type := 0, pos := "outright.go:63", after := #[{ on := 13, ground := Ground.data }, { on := 11, ground := Ground.data }, { on := 11, ground := Ground.chain }, { on := 0, ground := Ground.phase }, { on := 1, ground := Ground.phase }, { on := 2, ground := Ground.phase }, { on := 3, ground := Ground.phase }, { on := 4, ground := Ground.phase }, { on := 5, ground := Ground.phase }, { on := 6, ground := Ground.phase }, { on := 7, ground := Ground.phase }, { on := 8, ground := Ground.phase }, { on := 9, ground := Ground.phase }, { on := 10, ground := Ground.phase }, { on := 11, ground := Ground.phase }], guard := none }) rfl (fun K hK => ?_) AllReadyH.nil)
    go_simp
    refine hK.out _ _ (trivial) (fun hHeld2 => ?_)
    clear hK K hHeld
    have hHeld := hHeld2
    clear hHeld2
    try simp only [Act.put, List.setIfInBounds_toArray, List.set_cons_zero, List.set_cons_succ]
    refine wpAnyH_done (by kernel_rfl) ?_ _
    refine NoPanic.normal ?_
    clear hHeld
    have H5 := hid (⟨hB5.os, hB5.tape, hB5.output, hB5.size, hB5.block⟩ : Below w.heap.size w w5)
    have HO5 := hid hO5
    have HO8 := hid hO8
    have HG8 := hid hg8
    have HD8 := hid hd8
    have c1 := KX.out w5 w8 _ (.slice s8 (n - 2 + 1) c8) hB5 hg8
    have KR := hid (KY.out w5 w8 _ (.slice s8 (n - 2 + 1) c8) hB5 hg8)
    generalize hw9 : w8.setCell ⟨gb, 0, none⟩ (.slice s8 (n - 2 + 1) c8) = w9 at *
    have W9 := hid hw9
    clear hO5 hO8 hg8 hd8 cx fx cg c05 c06 hw9 hB5 KC KS KT KL KG KX KY c0
    have hn2 := HN2.out
    have hn3 := HN3.out
    have hcu := cut_run kp B.Ks.length (n - 2) kc (by have := HN.out; have := HKL.out; have := HKC.out.1; omega) HKC.out.2.1 HKC.out.2.2
    have hcu2 : ∀ w : World, (Instr.sliceAt 30 (.slice kp B.Ks.length kc) none (some (.int .i64 ((n - 2 : Nat) : Int))) none).run Try.prog w = .ok (.slice kp (n - 2) kc) w := fun w => hcu w 30 (Or.inr rfl)
    clear hcu
    go_wp2_with (first | (refine wpList_pushK (w := w9) (by rfl) (.tmp 42) (.tmp 44) (by rfl) base (.slice kp (n - 2) kc) (n - 2) _ (.int .i64 kd) (by rfl) (by exact KR.out.1) (by rfl) (by rfl) (by have := HLL.out; omega) (by have := KR.out.2.1; omega) 3 (0, 0) ?_; intro v10 w10 hO10 hg10 hd10; have c11 := KR.out.2.2 w10 _ hg10; have HO10 := hid hO10; have HG10 := hid hg10; have HD10 := hid hd10; obtain ⟨s10, c10, hv10, _⟩ := ownsRow_shape hO10; subst hv10; have c111 := c11.1; have f111 := c11.2; clear hO10 hg10 hd10 c11))
    go_ret
    refine ⟨rfl, ?_⟩
    exact put_end HI.out hbw n HN.out HKL.out kd l _ _ _ H5.out HO5.out HO8.out HG8.out HD8.out HO10.out (by rw [W9.out]; exact HG10.out) (by rw [W9.out]; exact HD10.out)
  · skip
    go_simp
    go_at_call 24
    refine KC.out.mono ?_
    rintro e w5 ⟨v5, rfl, hO5, hB5⟩
    obtain ⟨d5, e5, hv5, _, _⟩ := hO5.form
    subst hv5
    have c05 := KS.out w5 hB5
    go_wp2_with fail
    refine hK.out _ _ (trivial) (fun hHeld2 => ?_)
    clear hK K hHeld
    have hHeld := hHeld2
    clear hHeld2
    try simp only [Act.put, List.setIfInBounds_toArray, List.set_cons_zero, List.set_cons_succ]
    refine wpAnyH_ready (rs := [4, 10]) (by kernel_rfl) (by simp) ?_
    refine (AllReadyH.cons (o := { dst := some 25, op := Op.load 29 (Operand.tmp 24), type := 29, pos := "outright.go:63", after := #[{ on := 3, ground := Ground.data }], guard := none }) rfl (fun K hK => ?_) (AllReadyH.cons (o := { dst := some 31, op := Op.buildSlice 29 1 #[(0, Operand.tmp 30)], type := 29, pos := "outright.go:63", after := #[{ on := 9, ground := Ground.data }], guard := none }) rfl (fun K hK => ?_) AllReadyH.nil))
    · skip
      go_simp
      refine hK.out _ _ (trivial) (fun hHeld2 => ?_)
      clear hK K hHeld
      have hHeld := hHeld2
      clear hHeld2
      try simp only [Act.put, List.setIfInBounds_toArray, List.set_cons_zero, List.set_cons_succ]
      refine wpAnyH_take (i := 7) (oi := { dst := some 28, op := Op.slice 29 (Operand.tmp 25) none (some (Operand.tmp 27)) none, type := 29, pos := "outright.go:63", after := #[{ on := 4, ground := Ground.data }, { on := 6, ground := Ground.data }], guard := none }) (v := .slice lp (n - 2) lc) rfl (by kernel_rfl) (by kernel_rfl) (by kernel_rfl) (fun _ _ _ h => h) (yields_cut (by rfl) 29 (Or.inl rfl) (.tmp 25) (.tmp 27) rfl lp B.Ls.length (n - 2) lc rfl rfl HC1.out HC2.out HC3.out) hHeld ?_
      try simp only [Act.put, List.setIfInBounds_toArray, List.set_cons_zero, List.set_cons_succ]
      refine wpAnyH_ready (rs := [10]) (by kernel_rfl) (by simp) ?_
      refine (AllReadyH.cons (o := { dst := some 31, op := Op.buildSlice 29 1 #[(0, Operand.tmp 30)], type := 29, pos := "outright.go:63", after := #[{ on := 9, ground := Ground.data }], guard := none }) rfl (fun K hK => ?_) AllReadyH.nil)
      refine step_bb (by rfl) (.tmp 30) rfl d5 l.length e5 rfl ?_
      have c06 := KT.out w5 hB5 (.slice d5 l.length e5)
      refine hK.out _ _ (trivial) (fun hHeld2 => ?_)
      clear hK K hHeld
      have hHeld := hHeld2
      clear hHeld2
      try simp only [Act.put, List.setIfInBounds_toArray, List.set_cons_zero, List.set_cons_succ]
      refine wpAnyH_ready (rs := [11]) (by kernel_rfl) (by simp) ?_
      refine (AllReadyH.cons (o := { dst := some 32, op := Op.call { callee := Callee.builtin Builtin.append, args := #[Operand.tmp 28, Operand.tmp 31], argTypes := #[29, 29] }, type := 29, pos := "outright.go:63", after := #[{ on := 7, ground := Ground.data }, { on := 10, ground := Ground.data }, { on := 9, ground := Ground.chain }], guard := none }) rfl (fun K hK => ?_) AllReadyH.nil)
      refine step_pushB (w := w5) rfl (.tmp 28) (.tmp 31) rfl base (.slice lp (n - 2) lc) (n - 2) _ (.slice d5 l.length e5) rfl (KL.out w5 hB5) rfl rfl HLL.out (Nat.le_trans HBW.out hB5.size) _ _ ?_
      intro v8 w8 hO8 hg8 hd8
      obtain ⟨s8, c8, hv8, _⟩ := ownsRow_shape hO8
      subst hv8
      have cg := KG.out w5 w8 _ hB5 hg8
      have cx := cg.1
      have fx := cg.2
      refine hK.out _ _ (trivial) (fun hHeld2 => ?_)
      clear hK K hHeld
      have hHeld := hHeld2
      clear hHeld2
      try simp only [Act.put, List.setIfInBounds_toArray, List.set_cons_zero, List.set_cons_succ]
      refine wpAnyH_take (i := 12) (oi := { dst := some 33, op := Op.nilCheck (Operand.tmp 21), type := 0, pos := "outright.go:63", after := #[{ on := 0, ground := Ground.data }, { on := 0, ground := Ground.phase }, { on := 1, ground := Ground.phase }, { on := 2, ground := Ground.phase }, { on := 3, ground := Ground.phase }, { on := 4, ground := Ground.phase }, { on := 5, ground := Ground.phase }, { on := 6, ground := Ground.phase }, { on := 7, ground := Ground.phase }, { on := 8, ground := Ground.phase }, { on := 9, ground := Ground.phase }, { on := 10, ground := Ground.phase }, { on := 11, ground := Ground.phase }], guard := none }) (v := .pointer (some ⟨gb, 0, none⟩)) rfl (by kernel_rfl) (by kernel_rfl) (by kernel_rfl) (fun _ _ _ h => h) (Or.inl ⟨by rfl, by intro w hS; go_simp⟩) hHeld ?_
      try simp only [Act.put, List.setIfInBounds_toArray, List.set_cons_zero, List.set_cons_succ]
      refine wpAnyH_take (i := 13) (oi := { dst := some 34, op := Op.fieldAddr 32 (Operand.tmp 33) 0, type := 0, pos := "outright.go:63", after := #[{ on := 12, ground := Ground.data }, { on := 0, ground := Ground.phase }, { on := 1, ground := Ground.phase }, { on := 2, ground := Ground.phase }, { on := 3, ground := Ground.phase }, { on := 4, ground := Ground.phase }, { on := 5, ground := Ground.phase }, { on := 6, ground := Ground.phase }, { on := 7, ground := Ground.phase }, { on := 8, ground := Ground.phase }, { on := 9, ground := Ground.phase }, { on := 10, ground := Ground.phase }, { on := 11, ground := Ground.phase }], guard := none }) (v := .pointer (some ⟨gb, 0, none⟩)) rfl (by kernel_rfl) (by kernel_rfl) (by kernel_rfl) (fun _ _ _ h => h) (Or.inl ⟨by rfl, by intro w hS; go_simp⟩) hHeld ?_
      try simp only [Act.put, List.setIfInBounds_toArray, List.set_cons_zero, List.set_cons_succ]
      refine wpAnyH_ready (rs := [14]) (by kernel_rfl) (by simp) ?_
      refine (AllReadyH.cons (o := { dst := none, op := Op.store 29 (Operand.tmp 34) (Operand.tmp 32), type := 0, pos := "outright.go:63", after := #[{ on := 13, ground := Ground.data }, { on := 11, ground := Ground.data }, { on := 11, ground := Ground.chain }, { on := 0, ground := Ground.phase }, { on := 1, ground := Ground.phase }, { on := 2, ground := Ground.phase }, { on := 3, ground := Ground.phase }, { on := 4, ground := Ground.phase }, { on := 5, ground := Ground.phase }, { on := 6, ground := Ground.phase }, { on := 7, ground := Ground.phase }, { on := 8, ground := Ground.phase }, { on := 9, ground := Ground.phase }, { on := 10, ground := Ground.phase }, { on := 11, ground := Ground.phase }], guard := none }) rfl (fun K hK => ?_) AllReadyH.nil)
      go_simp
      refine hK.out _ _ (trivial) (fun hHeld2 => ?_)
      clear hK K hHeld
      have hHeld := hHeld2
      clear hHeld2
      try simp only [Act.put, List.setIfInBounds_toArray, List.set_cons_zero, List.set_cons_succ]
      refine wpAnyH_done (by kernel_rfl) ?_ _
      refine NoPanic.normal ?_
      clear hHeld
      have H5 := hid (⟨hB5.os, hB5.tape, hB5.output, hB5.size, hB5.block⟩ : Below w.heap.size w w5)
      have HO5 := hid hO5
      have HO8 := hid hO8
      have HG8 := hid hg8
      have HD8 := hid hd8
      have c1 := KX.out w5 w8 _ (.slice s8 (n - 2 + 1) c8) hB5 hg8
      have KR := hid (KY.out w5 w8 _ (.slice s8 (n - 2 + 1) c8) hB5 hg8)
      generalize hw9 : w8.setCell ⟨gb, 0, none⟩ (.slice s8 (n - 2 + 1) c8) = w9 at *
      have W9 := hid hw9
      clear hO5 hO8 hg8 hd8 cx fx cg c05 c06 hw9 hB5 KC KS KT KL KG KX KY c0
      have hn2 := HN2.out
      have hn3 := HN3.out
      have hcu := cut_run kp B.Ks.length (n - 2) kc (by have := HN.out; have := HKL.out; have := HKC.out.1; omega) HKC.out.2.1 HKC.out.2.2
      have hcu2 : ∀ w : World, (Instr.sliceAt 30 (.slice kp B.Ks.length kc) none (some (.int .i64 ((n - 2 : Nat) : Int))) none).run Try.prog w = .ok (.slice kp (n - 2) kc) w := fun w => hcu w 30 (Or.inr rfl)
      clear hcu
      go_wp2_with (first | (refine wpList_pushK (w := w9) (by rfl) (.tmp 42) (.tmp 44) (by rfl) base (.slice kp (n - 2) kc) (n - 2) _ (.int .i64 kd) (by rfl) (by exact KR.out.1) (by rfl) (by rfl) (by have := HLL.out; omega) (by have := KR.out.2.1; omega) 3 (0, 0) ?_; intro v10 w10 hO10 hg10 hd10; have c11 := KR.out.2.2 w10 _ hg10; have HO10 := hid hO10; have HG10 := hid hg10; have HD10 := hid hd10; obtain ⟨s10, c10, hv10, _⟩ := ownsRow_shape hO10; subst hv10; have c111 := c11.1; have f111 := c11.2; clear hO10 hg10 hd10 c11))
      go_ret
      refine ⟨rfl, ?_⟩
      exact put_end HI.out hbw n HN.out HKL.out kd l _ _ _ H5.out HO5.out HO8.out HG8.out HD8.out HO10.out (by rw [W9.out]; exact HG10.out) (by rw [W9.out]; exact HD10.out)
    · skip
      refine step_bb (by rfl) (.tmp 30) rfl d5 l.length e5 rfl ?_
      have c06 := KT.out w5 hB5 (.slice d5 l.length e5)
      refine hK.out _ _ (trivial) (fun hHeld2 => ?_)
      clear hK K hHeld
      have hHeld := hHeld2
      clear hHeld2
      try simp only [Act.put, List.setIfInBounds_toArray, List.set_cons_zero, List.set_cons_succ]
      refine wpAnyH_ready (rs := [4]) (by kernel_rfl) (by simp) ?_
      refine (AllReadyH.cons (o := { dst := some 25, op := Op.load 29 (Operand.tmp 24), type := 29, pos := "outright.go:63", after := #[{ on := 3, ground := Ground.data }], guard := none }) rfl (fun K hK => ?_) AllReadyH.nil)
      go_simp
      refine hK.out _ _ (trivial) (fun hHeld2 => ?_)
      clear hK K hHeld
      have hHeld := hHeld2
      clear hHeld2
      try simp only [Act.put, List.setIfInBounds_toArray, List.set_cons_zero, List.set_cons_succ]
      refine wpAnyH_take (i := 7) (oi := { dst := some 28, op := Op.slice 29 (Operand.tmp 25) none (some (Operand.tmp 27)) none, type := 29, pos := "outright.go:63", after := #[{ on := 4, ground := Ground.data }, { on := 6, ground := Ground.data }], guard := none }) (v := .slice lp (n - 2) lc) rfl (by kernel_rfl) (by kernel_rfl) (by kernel_rfl) (fun _ _ _ h => h) (yields_cut (by rfl) 29 (Or.inl rfl) (.tmp 25) (.tmp 27) rfl lp B.Ls.length (n - 2) lc rfl rfl HC1.out HC2.out HC3.out) hHeld ?_
      try simp only [Act.put, List.setIfInBounds_toArray, List.set_cons_zero, List.set_cons_succ]
      refine wpAnyH_ready (rs := [11]) (by kernel_rfl) (by simp) ?_
      refine (AllReadyH.cons (o := { dst := some 32, op := Op.call { callee := Callee.builtin Builtin.append, args := #[Operand.tmp 28, Operand.tmp 31], argTypes := #[29, 29] }, type := 29, pos := "outright.go:63", after := #[{ on := 7, ground := Ground.data }, { on := 10, ground := Ground.data }, { on := 9, ground := Ground.chain }], guard := none }) rfl (fun K hK => ?_) AllReadyH.nil)
      refine step_pushB (w := w5) rfl (.tmp 28) (.tmp 31) rfl base (.slice lp (n - 2) lc) (n - 2) _ (.slice d5 l.length e5) rfl (KL.out w5 hB5) rfl rfl HLL.out (Nat.le_trans HBW.out hB5.size) _ _ ?_
      intro v8 w8 hO8 hg8 hd8
      obtain ⟨s8, c8, hv8, _⟩ := ownsRow_shape hO8
      subst hv8
      have cg := KG.out w5 w8 _ hB5 hg8
      have cx := cg.1
      have fx := cg.2
      refine hK.out _ _ (trivial) (fun hHeld2 => ?_)
      clear hK K hHeld
      have hHeld := hHeld2
      clear hHeld2
      try simp only [Act.put, List.setIfInBounds_toArray, List.set_cons_zero, List.set_cons_succ]
      refine wpAnyH_take (i := 12) (oi := { dst := some 33, op := Op.nilCheck (Operand.tmp 21), type := 0, pos := "outright.go:63", after := #[{ on := 0, ground := Ground.data }, { on := 0, ground := Ground.phase }, { on := 1, ground := Ground.phase }, { on := 2, ground := Ground.phase }, { on := 3, ground := Ground.phase }, { on := 4, ground := Ground.phase }, { on := 5, ground := Ground.phase }, { on := 6, ground := Ground.phase }, { on := 7, ground := Ground.phase }, { on := 8, ground := Ground.phase }, { on := 9, ground := Ground.phase }, { on := 10, ground := Ground.phase }, { on := 11, ground := Ground.phase }], guard := none }) (v := .pointer (some ⟨gb, 0, none⟩)) rfl (by kernel_rfl) (by kernel_rfl) (by kernel_rfl) (fun _ _ _ h => h) (Or.inl ⟨by rfl, by intro w hS; go_simp⟩) hHeld ?_
      try simp only [Act.put, List.setIfInBounds_toArray, List.set_cons_zero, List.set_cons_succ]
      refine wpAnyH_take (i := 13) (oi := { dst := some 34, op := Op.fieldAddr 32 (Operand.tmp 33) 0, type := 0, pos := "outright.go:63", after := #[{ on := 12, ground := Ground.data }, { on := 0, ground := Ground.phase }, { on := 1, ground := Ground.phase }, { on := 2, ground := Ground.phase }, { on := 3, ground := Ground.phase }, { on := 4, ground := Ground.phase }, { on := 5, ground := Ground.phase }, { on := 6, ground := Ground.phase }, { on := 7, ground := Ground.phase }, { on := 8, ground := Ground.phase }, { on := 9, ground := Ground.phase }, { on := 10, ground := Ground.phase }, { on := 11, ground := Ground.phase }], guard := none }) (v := .pointer (some ⟨gb, 0, none⟩)) rfl (by kernel_rfl) (by kernel_rfl) (by kernel_rfl) (fun _ _ _ h => h) (Or.inl ⟨by rfl, by intro w hS; go_simp⟩) hHeld ?_
      try simp only [Act.put, List.setIfInBounds_toArray, List.set_cons_zero, List.set_cons_succ]
      refine wpAnyH_ready (rs := [14]) (by kernel_rfl) (by simp) ?_
      refine (AllReadyH.cons (o := { dst := none, op := Op.store 29 (Operand.tmp 34) (Operand.tmp 32), type := 0, pos := "outright.go:63", after := #[{ on := 13, ground := Ground.data }, { on := 11, ground := Ground.data }, { on := 11, ground := Ground.chain }, { on := 0, ground := Ground.phase }, { on := 1, ground := Ground.phase }, { on := 2, ground := Ground.phase }, { on := 3, ground := Ground.phase }, { on := 4, ground := Ground.phase }, { on := 5, ground := Ground.phase }, { on := 6, ground := Ground.phase }, { on := 7, ground := Ground.phase }, { on := 8, ground := Ground.phase }, { on := 9, ground := Ground.phase }, { on := 10, ground := Ground.phase }, { on := 11, ground := Ground.phase }], guard := none }) rfl (fun K hK => ?_) AllReadyH.nil)
      go_simp
      refine hK.out _ _ (trivial) (fun hHeld2 => ?_)
      clear hK K hHeld
      have hHeld := hHeld2
      clear hHeld2
      try simp only [Act.put, List.setIfInBounds_toArray, List.set_cons_zero, List.set_cons_succ]
      refine wpAnyH_done (by kernel_rfl) ?_ _
      refine NoPanic.normal ?_
      clear hHeld
      have H5 := hid (⟨hB5.os, hB5.tape, hB5.output, hB5.size, hB5.block⟩ : Below w.heap.size w w5)
      have HO5 := hid hO5
      have HO8 := hid hO8
      have HG8 := hid hg8
      have HD8 := hid hd8
      have c1 := KX.out w5 w8 _ (.slice s8 (n - 2 + 1) c8) hB5 hg8
      have KR := hid (KY.out w5 w8 _ (.slice s8 (n - 2 + 1) c8) hB5 hg8)
      generalize hw9 : w8.setCell ⟨gb, 0, none⟩ (.slice s8 (n - 2 + 1) c8) = w9 at *
      have W9 := hid hw9
      clear hO5 hO8 hg8 hd8 cx fx cg c05 c06 hw9 hB5 KC KS KT KL KG KX KY c0
      have hn2 := HN2.out
      have hn3 := HN3.out
      have hcu := cut_run kp B.Ks.length (n - 2) kc (by have := HN.out; have := HKL.out; have := HKC.out.1; omega) HKC.out.2.1 HKC.out.2.2
      have hcu2 : ∀ w : World, (Instr.sliceAt 30 (.slice kp B.Ks.length kc) none (some (.int .i64 ((n - 2 : Nat) : Int))) none).run Try.prog w = .ok (.slice kp (n - 2) kc) w := fun w => hcu w 30 (Or.inr rfl)
      clear hcu
      go_wp2_with (first | (refine wpList_pushK (w := w9) (by rfl) (.tmp 42) (.tmp 44) (by rfl) base (.slice kp (n - 2) kc) (n - 2) _ (.int .i64 kd) (by rfl) (by exact KR.out.1) (by rfl) (by rfl) (by have := HLL.out; omega) (by have := KR.out.2.1; omega) 3 (0, 0) ?_; intro v10 w10 hO10 hg10 hd10; have c11 := KR.out.2.2 w10 _ hg10; have HO10 := hid hO10; have HG10 := hid hg10; have HD10 := hid hd10; obtain ⟨s10, c10, hv10, _⟩ := ownsRow_shape hO10; subst hv10; have c111 := c11.1; have f111 := c11.2; clear hO10 hg10 hd10 c11))
      go_ret
      refine ⟨rfl, ?_⟩
      exact put_end HI.out hbw n HN.out HKL.out kd l _ _ _ H5.out HO5.out HO8.out HG8.out HD8.out HO10.out (by rw [W9.out]; exact HG10.out) (by rw [W9.out]; exact HD10.out)
end Go.Proofs.Ytjlakgojbfglhaa
