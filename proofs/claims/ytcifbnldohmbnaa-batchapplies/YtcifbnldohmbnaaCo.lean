import Derived.Test.YtcifbnldohmbnaaCn
namespace Go.Proofs.Ytcifbnldohmbnaa
set_option linter.unusedVariables false
set_option linter.unusedSimpArgs false
open Go.RowKit
attribute [local go_sem ↓] Go.wp_at_zero Go.wp_at_succ

theorem ne_of_type {w : World} {a b : Nat} {x y : Array Value} {t u : TypeId} {f f' : Nat × Nat} (ha : w.heap[a]? = some (.cells x t f)) (hb : w.heap[b]? = some (.cells y u f')) (h : t ≠ u) : a ≠ b := by
  rintro rfl
  rw [ha] at hb
  cases hb
  exact h rfl
theorem list32 {l : List Value} (h : l.length = 32) : ∃ x0 x1 x2 x3 x4 x5 x6 x7 x8 x9 x10 x11 x12 x13 x14 x15 x16 x17 x18 x19 x20 x21 x22 x23 x24 x25 x26 x27 x28 x29 x30 x31, l = [x0, x1, x2, x3, x4, x5, x6, x7, x8, x9, x10, x11, x12, x13, x14, x15, x16, x17, x18, x19, x20, x21, x22, x23, x24, x25, x26, x27, x28, x29, x30, x31] := by
  match l, h with
  | [x0, x1, x2, x3, x4, x5, x6, x7, x8, x9, x10, x11, x12, x13, x14, x15, x16, x17, x18, x19, x20, x21, x22, x23, x24, x25, x26, x27, x28, x29, x30, x31], _ => exact ⟨x0, x1, x2, x3, x4, x5, x6, x7, x8, x9, x10, x11, x12, x13, x14, x15, x16, x17, x18, x19, x20, x21, x22, x23, x24, x25, x26, x27, x28, x29, x30, x31, rfl⟩
theorem build_chg' (ks : List Value) (hk : ks.length = 32) (d : Bool) (sp : Option Addr) (n c : Nat) (w : World) :
    (Instr.build 40 #[(0, .agg ks.toArray), (1, .bool d), (2, .slice sp n c)]).run Try.prog w = .ok (.agg (ks ++ [Value.bool d, Value.slice sp n c]).toArray) w := by
  obtain ⟨x0, x1, x2, x3, x4, x5, x6, x7, x8, x9, x10, x11, x12, x13, x14, x15, x16, x17, x18, x19, x20, x21, x22, x23, x24, x25, x26, x27, x28, x29, x30, x31, rfl⟩ := list32 hk
  kernel_rfl
theorem build_chg (k : List Int) (hk : k.length = 32) (d : Bool) (sp : Option Addr) (n c : Nat) (w : World) :
    (Instr.build 40 #[(0, .agg (ints .u8 k).toArray), (1, .bool d), (2, .slice sp n c)]).run Try.prog w = .ok (.agg (encM ⟨k, d, .slice sp n c⟩).toArray) w := build_chg' _ (by rw [ints_len, hk]) d sp n c w
theorem yields_build {ops : Array Oper} {S : World → Prop} {o : Oper} {a : Act} (hw : Region.wanted o (yielded ops a.tmps) = true) (x y z : Operand) (ho : o.op = .build 40 #[(0, x), (1, y), (2, z)])
    (k : List Int) (hk : k.length = 32) (d : Bool) (sp : Option Addr) (n c : Nat) (hx : a.eval x = .agg (ints .u8 k).toArray) (hy : a.eval y = .bool d) (hz : a.eval z = .slice sp n c) :
    YieldsIf Try.prog ops S o (.agg (encM ⟨k, d, .slice sp n c⟩).toArray) a :=
  .inl ⟨hw, fun w _ => by
    unfold execOp
    simp only [ho, List.map_toArray, List.map_cons, List.map_nil, hx, hy, hz, Sem.run_bind, build_chg k hk d sp n c w, Result.andThen_ok, Sem.run_pure]⟩
theorem list34 {l : List Value} (h : l.length = 34) : ∃ x0 x1 x2 x3 x4 x5 x6 x7 x8 x9 x10 x11 x12 x13 x14 x15 x16 x17 x18 x19 x20 x21 x22 x23 x24 x25 x26 x27 x28 x29 x30 x31 x32 x33, l = x0 :: x1 :: x2 :: x3 :: x4 :: x5 :: x6 :: x7 :: x8 :: x9 :: x10 :: x11 :: x12 :: x13 :: x14 :: x15 :: x16 :: x17 :: x18 :: x19 :: x20 :: x21 :: x22 :: x23 :: x24 :: x25 :: x26 :: x27 :: x28 :: x29 :: x30 :: x31 :: x32 :: x33 :: [] := by
  match l, h with
  | x0 :: x1 :: x2 :: x3 :: x4 :: x5 :: x6 :: x7 :: x8 :: x9 :: x10 :: x11 :: x12 :: x13 :: x14 :: x15 :: x16 :: x17 :: x18 :: x19 :: x20 :: x21 :: x22 :: x23 :: x24 :: x25 :: x26 :: x27 :: x28 :: x29 :: x30 :: x31 :: x32 :: x33 :: [], _ => exact ⟨x0, x1, x2, x3, x4, x5, x6, x7, x8, x9, x10, x11, x12, x13, x14, x15, x16, x17, x18, x19, x20, x21, x22, x23, x24, x25, x26, x27, x28, x29, x30, x31, x32, x33, rfl⟩
theorem slice_chg (ks : List Value) (hk : ks.length = 34) (w : World) :
    (Instr.buildSlice 29 1 #[(0, .agg ks.toArray)]).run Try.prog w = .ok (.slice (some ⟨w.heap.size, 0, none⟩) 1 1) (w.alloc (.cells ks.toArray 40)) := by
  obtain ⟨x0, x1, x2, x3, x4, x5, x6, x7, x8, x9, x10, x11, x12, x13, x14, x15, x16, x17, x18, x19, x20, x21, x22, x23, x24, x25, x26, x27, x28, x29, x30, x31, x32, x33, rfl⟩ := list34 hk
  kernel_rfl
theorem step_slice {w : World} {ops : Array Oper} {o : Oper} {a : Act} {K : Act → World → Prop} {Q : Exit → Act → World → Prop} {E : Prop} (hw : Region.wanted o (yielded ops a.tmps) = true) (x : Operand) (ho : o.op = .buildSlice 29 1 #[(0, x)])
    (ks : List Value) (hk : ks.length = 34) (hx : a.eval x = .agg ks.toArray) (h : K (a.put o.dst (.slice (some ⟨w.heap.size, 0, none⟩) 1 1)) (w.alloc (.cells ks.toArray 40))) :
    if Region.wanted o (yielded ops a.tmps) = true then Oper.wp Try.prog o a w K Q else E := by
  rw [if_pos hw]
  unfold Oper.wp execOp
  simp only [ho, List.map_toArray, List.map_cons, List.map_nil, hx, Sem.run_bind, slice_chg ks hk w, Result.andThen_ok, Sem.run_pure]
  exact h
theorem wpList_slice {w : World} {ops : Array Oper} {rest : List Oper} {o : Oper} {a : Act} {Q : Exit → Act → World → Prop} (hg : o.guard = none) (x : Operand) (ho : o.op = .buildSlice 29 1 #[(0, x)])
    (ks : List Value) (hk : ks.length = 34) (hx : a.eval x = .agg ks.toArray) (h : wpList Try.prog ops Q rest (a.put o.dst (.slice (some ⟨w.heap.size, 0, none⟩) 1 1)) (w.alloc (.cells ks.toArray 40))) :
    wpList Try.prog ops Q (o :: rest) a w := by
  refine wpList_plain hg fun K hK => ?_
  unfold Oper.wp execOp
  simp only [ho, List.map_toArray, List.map_cons, List.map_nil, hx, Sem.run_bind, slice_chg ks hk w, Result.andThen_ok, Sem.run_pure]
  exact hK _ _ h
/-- append(own list of changes, one more), as a step of a region that draws its order. -/
theorem step_pushC {w : World} {ops : Array Oper} {o : Oper} {a : Act} {K : Act → World → Prop} {Q : Exit → Act → World → Prop} {E : Prop} (hgd : o.guard = none) (s x : Operand)
    (ho : o.op = .call { callee := .builtin .append, args := #[s, x], argTypes := #[29, 29] })
    (base : Nat) (v : Value) (ms : List MC) (m : MC) (hs : a.eval s = v) (hown : OwnM w base v ms) (hx : a.eval x = .slice (some ⟨w.heap.size, 0, none⟩) 1 1) (hl : (encM m).length = 34) (h1 : ∀ y ∈ encM m, y.oneCell' = true)
    (hlen : ms.length + 1 ≤ 2199023255552) (hbase : base ≤ w.heap.size) (t : TypeId) (fr : Nat × Nat)
    (h : ∀ v' w', OwnM w' base v' (ms ++ [m]) → Below base w w' → (∀ k, k < w.heap.size → v.ownBlock ≠ some k → w'.heap[k]? = w.heap[k]?) → (v'.ownBlock = v.ownBlock ∨ ∃ k, v'.ownBlock = some k ∧ w.heap.size ≤ k) → K (a.put o.dst v') w') :
    if Region.wanted o (yielded ops a.tmps) = true then Oper.wp Try.prog o a (w.alloc (.cells (encM m).toArray t fr)) K Q else E := by
  have hw : Region.wanted o (yielded ops a.tmps) = true := by simp [Region.wanted, hgd]
  rw [if_pos hw]
  obtain ⟨i5, z, hi5, hz5, hc5, hs5, hy5⟩ := Try.infoC
  have hown' : OwnM (w.alloc (.cells (encM m).toArray t fr)) base v ms := hown.of_heap fun k hk => by
    show (w.heap.push _)[k]? = _
    rw [Array.getElem?_push, if_neg (by have := (hown.block k hk).2.1; omega)]
  obtain ⟨v', w', hr, q1, q2, _, q4⟩ := run_append_own_at (P := Try.prog) (w.alloc (.cells (encM m).toArray t fr)) base 29 o.type 40 i5 z 34 64 Try.underlying29 hi5 hz5 hs5 hy5 hc5 (by decide) v ms.length _ hown' ⟨w.heap.size, 0, none⟩ 1 1 (encM m) (by omega) (by
    intro j u hu
    rw [Addr.add_mid, Nat.zero_add, cell_of_row _ _ _ _ _ _ (hnew w _)]
    simpa using hu) h1 (by unfold maxLen; omega) (by omega) (by simp; omega)
  unfold Oper.wp execOp
  simp only [ho, resolve, invoke, builtin, Sem.run_bind, Sem.run_pure, Result.andThen_ok, List.map_toArray, List.map_cons, List.map_nil, hs, hx, hr]
  have hB1 : Below base w (w.alloc (.cells (encM m).toArray t fr)) := (Below.refl _ _).alloc hbase _
  refine h v' w' (by unfold OwnM; rw [List.length_append, List.flatMap_append]; simpa using q1) (hB1.trans (grown_keeps q2 (fun k hk => (hown.block k hk).1) (by simp; omega))) (fun k hk hne => ?_) ?_
  · rw [q2.block k (by simp; omega) (fun e => hne e.symm)]
    show (w.heap.push _)[k]? = _
    rw [Array.getElem?_push, if_neg (by omega)]
  · rcases q4 with e | e
    · exact Or.inl e
    · exact Or.inr ⟨_, e, by simp⟩
/-- Where the values of a list lie: never in a block of changes. -/
theorem Own.ne_chg {w : World} {base : Nat} {v : Value} {zs : List Int} (h : Own w base v zs) : ∀ k, v.ownBlock = some k → k < w.heap.size ∧ ∃ cs, w.heap[k]? = some (.cells cs 5 (0, 0)) := by
  intro k hk
  rcases h.2 with ⟨rfl, _⟩ | ⟨g, cap, cur, rfl, hg, hh, _⟩
  · simp [Value.ownBlock] at hk
  · simp [Value.ownBlock] at hk; subst hk; exact ⟨hlt hh, cur, hh⟩
/-- A change whose value the call made, and what keeps it. -/
def OwnV (w : World) (base : Nat) (ms : List MC) (cs : List Chg) : Prop := ms.length = cs.length ∧ ∀ i, i < cs.length → (ms.getD i dM).key = (cs.getD i dC).key ∧ (cs.getD i dC).key.length = 32 ∧ (ms.getD i dM).del = (cs.getD i dC).del ∧ Own w base (ms.getD i dM).sv (cs.getD i dC).val
theorem OwnV.says {w : World} {base : Nat} {ms : List MC} {cs : List Chg} (h : OwnV w base ms cs) : SaysL w ms cs := ⟨h.1, fun i hi => by
  obtain ⟨h1, h2, h3, h4⟩ := h.2 i hi
  obtain ⟨sp, cap, e, s, n⟩ := h4.form
  exact ⟨h1, h2, h3, sp, cap, e, n, s⟩⟩
theorem OwnV.of_heap {w w1 : World} {base : Nat} {ms : List MC} {cs : List Chg} (h : OwnV w base ms cs) (hk : ∀ (k : Nat) (x : Array Value), w.heap[k]? = some (Obj.cells x 5 (0, 0)) → w1.heap[k]? = w.heap[k]?) : OwnV w1 base ms cs := ⟨h.1, fun i hi => by
  obtain ⟨h1, h2, h3, h4⟩ := h.2 i hi
  exact ⟨h1, h2, h3, h4.of_heap fun k e => by obtain ⟨_, x, hx⟩ := h4.ne_chg k e; exact hk k x hx⟩⟩
theorem OwnV.below {w w1 : World} {base : Nat} {ms : List MC} {cs : List Chg} (h : OwnV w base ms cs) (hb : Below w.heap.size w w1) : OwnV w1 base ms cs := h.of_heap fun k x hx => hb.block k (hlt hx)
theorem OwnV.nil (w : World) (base : Nat) : OwnV w base [] [] := ⟨rfl, fun i hi => by simp at hi⟩
theorem OwnV.snoc {w : World} {base : Nat} {ms : List MC} {cs : List Chg} {m : MC} {c : Chg} (h : OwnV w base ms cs) (h1 : m.key = c.key) (h2 : c.key.length = 32) (h3 : m.del = c.del) (h4 : Own w base m.sv c.val) : OwnV w base (ms ++ [m]) (cs ++ [c]) := by
  refine ⟨by simp [h.1], fun i hi => ?_⟩
  by_cases hlt : i < cs.length
  · have := h.2 i hlt
    rw [List.getD_eq_getElem?_getD, List.getElem?_append_left (by rw [h.1]; exact hlt), List.getD_eq_getElem?_getD, List.getElem?_append_left hlt]
    rwa [List.getD_eq_getElem?_getD, List.getD_eq_getElem?_getD] at this
  · obtain rfl : i = cs.length := by simp at hi; omega
    rw [List.getD_eq_getElem?_getD, List.getElem?_append_right (by rw [h.1]; exact Nat.le_refl _), List.getD_eq_getElem?_getD, List.getElem?_append_right (Nat.le_refl _), h.1, Nat.sub_self]
    exact ⟨h1, h2, h3, h4⟩
theorem Own.base {w : World} {base base' : Nat} {v : Value} {zs : List Int} (h : Own w base v zs) (hb : base' ≤ base) : Own w base' v zs := by
  refine ⟨h.1, ?_⟩
  rcases h.2 with h2 | ⟨g, cap, cur, rfl, hg, r⟩
  · exact Or.inl h2
  · exact Or.inr ⟨g, cap, cur, rfl, by omega, r⟩
theorem take_snoc (cs : List Chg) (k : Nat) (hk : k < cs.length) : cs.take (k + 1) = cs.take k ++ [cs.getD k dC] := by
  rw [List.take_succ_eq_append_getElem hk, List.getD_eq_getElem?_getD, List.getElem?_eq_getElem hk]; rfl
/-- The list that a call made, whole: the changes and their values. -/
def Mine (w : World) (base : Nat) (v : Value) (cs : List Chg) : Prop := ∃ ms, OwnM w base v ms ∧ OwnV w base ms cs
theorem Mine.below {w w1 : World} {base : Nat} {v : Value} {cs : List Chg} (h : Mine w base v cs) (hb : Below w.heap.size w w1) : Mine w1 base v cs := by
  obtain ⟨ms, h1, h2⟩ := h
  exact ⟨ms, h1.below hb (Nat.le_refl _), h2.below hb⟩
theorem Mine.chs {w : World} {base : Nat} {v : Value} {cs : List Chg} (h : Mine w base v cs) : ∃ sp cap b ms, v = .slice sp cs.length cap ∧ Chs w sp cap cs b 0 ms ∧ (0 < cs.length → base ≤ b) := by
  obtain ⟨ms, h1, h2⟩ := h
  obtain ⟨sp, cap, b, e, q, r⟩ := h1.chs h2.says
  exact ⟨sp, cap, b, ms, e, q, r⟩
set_option maxRecDepth 100000 in
set_option maxHeartbeats 1000000 in
theorem copyChanges_any (w : World) (cs : List Chg) (sp : Option Addr) (cap b o : Nat) (ms : List MC) (hC : Chs w sp cap cs b o ms) (hok : ∀ c ∈ cs, c.val.length ≤ 140737488351232) (hlen : cs.length ≤ 2199023255500) :
    Calls Try.prog 15 #[.slice sp cs.length cap] w fun e w' => ∃ v, e = .returned v ∧ Mine w' w.heap.size v cs ∧ Below w.heap.size w w' := by
  have i0 : (cs.length : Int) ≤ 2199023255500 := by omega
  go_enter Try.func15, Try.ntmps15
  go_wp2
  go_loopw [3, 4] (fun v i wr => ∃ (k : Nat) (ns : List MC), k ≤ cs.length ∧ i = .int .i64 k ∧ OwnM wr w.heap.size v ns ∧ OwnV wr w.heap.size ns (cs.take k) ∧ Below w.heap.size w wr) (fun _ i _ => cs.length - (intOf i).toNat)
  case atStart => exact ⟨0, [], by omega, rfl, OwnM.nil _ _, OwnV.nil _ _, Below.refl _ _⟩
  case round =>
    obtain ⟨k, ns, hk, rfl, hO, hV, hB⟩ := hrel
    by_cases hlt : k < cs.length
    · have i1 : (k : Int) < (cs.length : Int) := by omega
      obtain ⟨hb, rfl⟩ := hC.pos (by omega)
      obtain ⟨sp', c', r1, r2, r3, r4, r5, r6, _⟩ := hC.at k hlt
      have hvl := hok (cs.getD k dC) (by rw [List.getD_eq_getElem?_getD, List.getElem?_eq_getElem hlt]; exact List.getElem_mem hlt)
      have HT := hid (take_snoc cs k hlt)
      have HL := hid (show ns.length + 1 ≤ 2199023255552 by rw [hV.1, List.length_take]; omega)
      generalize cs.getD k dC = c at *
      have hik : (Try.prog.info? 24).map (·.size) = some (ints .u8 c.key).length := by rw [keySize]; simp [r6, ints]
      go_wp2
      refine wp_region_noPanic ?_
      refine wp_region_held_drew (S := fun w' => Below w.heap.size w w') (by kernel_rfl) hB.drew (fun hHeld => ?_)
      refine wpAnyH_take (i := 0) (oi := { dst := some 11, op := Op.move (Operand.tmp 3), type := 29, pos := "law.go:69", after := #[], guard := none }) (v := u3) rfl (by kernel_rfl) (by kernel_rfl) (by kernel_rfl) (fun _ _ _ h => h) (Or.inl ⟨by rfl, by intro w hS; go_simp⟩) hHeld ?_
      try simp only [Act.put, List.setIfInBounds_toArray, List.set_cons_zero, List.set_cons_succ]
      refine wpAnyH_take (i := 1) (oi := { dst := some 12, op := Op.move (Operand.tmp 0), type := 29, pos := "law.go:69", after := #[], guard := none }) (v := .slice (some ⟨b, o, none⟩) cs.length cap) rfl (by kernel_rfl) (by kernel_rfl) (by kernel_rfl) (fun _ _ _ h => h) (Or.inl ⟨by rfl, by intro w hS; go_simp⟩) hHeld ?_
      try simp only [Act.put, List.setIfInBounds_toArray, List.set_cons_zero, List.set_cons_succ]
      refine wpAnyH_take (i := 2) (oi := { dst := some 13, op := Op.move (Operand.tmp 4), type := 3, pos := "law.go:69", after := #[], guard := none }) (v := .int .i64 k) rfl (by kernel_rfl) (by kernel_rfl) (by kernel_rfl) (fun _ _ _ h => h) (Or.inl ⟨by rfl, by intro w hS; go_simp⟩) hHeld ?_
      try simp only [Act.put, List.setIfInBounds_toArray, List.set_cons_zero, List.set_cons_succ]
      refine wpAnyH_take (i := 6) (oi := { dst := some 17, op := Op.move (Operand.tmp 0), type := 29, pos := "law.go:69", after := #[], guard := none }) (v := .slice (some ⟨b, o, none⟩) cs.length cap) rfl (by kernel_rfl) (by kernel_rfl) (by kernel_rfl) (fun _ _ _ h => h) (Or.inl ⟨by rfl, by intro w hS; go_simp⟩) hHeld ?_
      try simp only [Act.put, List.setIfInBounds_toArray, List.set_cons_zero, List.set_cons_succ]
      refine wpAnyH_take (i := 7) (oi := { dst := some 18, op := Op.move (Operand.tmp 4), type := 3, pos := "law.go:69", after := #[], guard := none }) (v := .int .i64 k) rfl (by kernel_rfl) (by kernel_rfl) (by kernel_rfl) (fun _ _ _ h => h) (Or.inl ⟨by rfl, by intro w hS; go_simp⟩) hHeld ?_
      try simp only [Act.put, List.setIfInBounds_toArray, List.set_cons_zero, List.set_cons_succ]
      refine wpAnyH_take (i := 11) (oi := { dst := some 22, op := Op.move (Operand.tmp 0), type := 29, pos := "law.go:69", after := #[], guard := none }) (v := .slice (some ⟨b, o, none⟩) cs.length cap) rfl (by kernel_rfl) (by kernel_rfl) (by kernel_rfl) (fun _ _ _ h => h) (Or.inl ⟨by rfl, by intro w hS; go_simp⟩) hHeld ?_
      try simp only [Act.put, List.setIfInBounds_toArray, List.set_cons_zero, List.set_cons_succ]
      refine wpAnyH_take (i := 12) (oi := { dst := some 23, op := Op.move (Operand.tmp 4), type := 3, pos := "law.go:69", after := #[], guard := none }) (v := .int .i64 k) rfl (by kernel_rfl) (by kernel_rfl) (by kernel_rfl) (fun _ _ _ h => h) (Or.inl ⟨by rfl, by intro w hS; go_simp⟩) hHeld ?_
      try simp only [Act.put, List.setIfInBounds_toArray, List.set_cons_zero, List.set_cons_succ]
      refine wpAnyH_take (i := 3) (oi := { dst := some 14, op := Op.indexAddr 29 (Operand.tmp 12) (Operand.tmp 13), type := 0, pos := "law.go:69", after := #[{ on := 1, ground := Ground.data }, { on := 2, ground := Ground.data }], guard := none }) (v := .pointer (some ⟨b, o + k * 34, none⟩)) rfl (by kernel_rfl) (by kernel_rfl) (by kernel_rfl) (fun _ _ _ h => h) (Or.inl ⟨by rfl, by intro w hS; go_simp⟩) hHeld ?_
      try simp only [Act.put, List.setIfInBounds_toArray, List.set_cons_zero, List.set_cons_succ]
      refine wpAnyH_take (i := 8) (oi := { dst := some 19, op := Op.indexAddr 29 (Operand.tmp 17) (Operand.tmp 18), type := 0, pos := "law.go:69", after := #[{ on := 6, ground := Ground.data }, { on := 7, ground := Ground.data }], guard := none }) (v := .pointer (some ⟨b, o + k * 34, none⟩)) rfl (by kernel_rfl) (by kernel_rfl) (by kernel_rfl) (fun _ _ _ h => h) (Or.inl ⟨by rfl, by intro w hS; go_simp⟩) hHeld ?_
      try simp only [Act.put, List.setIfInBounds_toArray, List.set_cons_zero, List.set_cons_succ]
      refine wpAnyH_take (i := 13) (oi := { dst := some 24, op := Op.indexAddr 29 (Operand.tmp 22) (Operand.tmp 23), type := 0, pos := "law.go:69", after := #[{ on := 11, ground := Ground.data }, { on := 12, ground := Ground.data }], guard := none }) (v := .pointer (some ⟨b, o + k * 34, none⟩)) rfl (by kernel_rfl) (by kernel_rfl) (by kernel_rfl) (fun _ _ _ h => h) (Or.inl ⟨by rfl, by intro w hS; go_simp⟩) hHeld ?_
      try simp only [Act.put, List.setIfInBounds_toArray, List.set_cons_zero, List.set_cons_succ]
      refine wpAnyH_take (i := 4) (oi := { dst := some 15, op := Op.fieldAddr 40 (Operand.tmp 14) 0, type := 0, pos := "law.go:69", after := #[{ on := 3, ground := Ground.data }], guard := none }) (v := .pointer (some ⟨b, o + k * 34, none⟩)) rfl (by kernel_rfl) (by kernel_rfl) (by kernel_rfl) (fun _ _ _ h => h) (Or.inl ⟨by rfl, by intro w hS; go_simp⟩) hHeld ?_
      try simp only [Act.put, List.setIfInBounds_toArray, List.set_cons_zero, List.set_cons_succ]
      refine wpAnyH_take (i := 9) (oi := { dst := some 20, op := Op.fieldAddr 40 (Operand.tmp 19) 1, type := 0, pos := "law.go:69", after := #[{ on := 8, ground := Ground.data }], guard := none }) (v := .pointer (some ⟨b, o + k * 34 + 32, none⟩)) rfl (by kernel_rfl) (by kernel_rfl) (by kernel_rfl) (fun _ _ _ h => h) (Or.inl ⟨by rfl, by intro w hS; go_simp⟩) hHeld ?_
      try simp only [Act.put, List.setIfInBounds_toArray, List.set_cons_zero, List.set_cons_succ]
      refine wpAnyH_take (i := 14) (oi := { dst := some 25, op := Op.fieldAddr 40 (Operand.tmp 24) 2, type := 0, pos := "law.go:69", after := #[{ on := 13, ground := Ground.data }], guard := none }) (v := .pointer (some ⟨b, o + k * 34 + 33, none⟩)) rfl (by kernel_rfl) (by kernel_rfl) (by kernel_rfl) (fun _ _ _ h => h) (Or.inl ⟨by rfl, by intro w hS; go_simp⟩) hHeld ?_
      try simp only [Act.put, List.setIfInBounds_toArray, List.set_cons_zero, List.set_cons_succ]
      refine wpAnyH_take (i := 5) (oi := { dst := some 16, op := Op.load 24 (Operand.tmp 15), type := 24, pos := "law.go:69", after := #[{ on := 4, ground := Ground.data }], guard := none }) (v := .agg (ints .u8 c.key).toArray) rfl (by kernel_rfl) (by kernel_rfl) (by kernel_rfl) (fun _ _ _ h => h) (yieldsIf_load_mid (by rfl) 24 _ rfl b (o + k * 34) rfl (ints .u8 c.key) _ (fun w hS => rng_below r1 hS hb) Try.underlying24 rfl hik) hHeld ?_
      try simp only [Act.put, List.setIfInBounds_toArray, List.set_cons_zero, List.set_cons_succ]
      refine wpAnyH_take (i := 10) (oi := { dst := some 21, op := Op.load 4 (Operand.tmp 20), type := 4, pos := "law.go:69", after := #[{ on := 9, ground := Ground.data }], guard := none }) (v := .bool c.del) rfl (by kernel_rfl) (by kernel_rfl) (by kernel_rfl) (fun _ _ _ h => h) (Or.inl ⟨by rfl, by intro w hS; have hc := (hS.cell (p := ⟨b, o + k * 34 + 32, none⟩) hb).trans r2; go_simp⟩) hHeld ?_
      try simp only [Act.put, List.setIfInBounds_toArray, List.set_cons_zero, List.set_cons_succ]
      refine wpAnyH_take (i := 15) (oi := { dst := some 26, op := Op.load 30 (Operand.tmp 25), type := 30, pos := "law.go:69", after := #[{ on := 14, ground := Ground.data }], guard := none }) (v := .slice sp' c.val.length c') rfl (by kernel_rfl) (by kernel_rfl) (by kernel_rfl) (fun _ _ _ h => h) (Or.inl ⟨by rfl, by intro w hS; have hc := (hS.cell (p := ⟨b, o + k * 34 + 33, none⟩) hb).trans r3; go_simp⟩) hHeld ?_
      try simp only [Act.put, List.setIfInBounds_toArray, List.set_cons_zero, List.set_cons_succ]
      refine wpAnyH_ready (rs := [16]) (by kernel_rfl) (by simp) ?_
      refine (AllReadyH.cons (o := { dst := some 27, op := Op.call { callee := Callee.value (Operand.func 18), args := #[Operand.tmp 26], argTypes := #[30] }, type := 30, pos := "law.go:69", after := #[{ on := 15, ground := Ground.data }], guard := none }) rfl (fun K hK => ?_) AllReadyH.nil)
      go_simp
      go_at_call 18
      refine (copyBytes_any _ c.val sp' c' (r5.below hHeld (Nat.le_refl _)) (by omega)).mono ?_
      rintro e w4 ⟨v4, rfl, hO4, hb4⟩
      have hO5 := (show OwnM wr.drew w.heap.size _ ns from hO).below hb4 (Nat.le_refl _)
      have hV5 := (show OwnV wr.drew w.heap.size ns (cs.take k) from hV).below hb4
      have hB5 := hHeld.trans (hb4.mono hHeld.size)
      have hs4 := hHeld.size
      obtain ⟨sp4, cap4, rfl, _, _⟩ := id hO4.form
      go_wp2_with fail
      refine hK.out _ _ (hHeld.trans (hb4.mono hHeld.size)) (fun hHeld2 => ?_)
      clear hK K hHeld
      have hHeld := hHeld2
      clear hHeld2
      clear hb4
      try simp only [Act.put, List.setIfInBounds_toArray, List.set_cons_zero, List.set_cons_succ]
      refine wpAnyH_take (i := 17) (oi := { dst := some 28, op := Op.build 40 #[(0, Operand.tmp 16), (1, Operand.tmp 21), (2, Operand.tmp 27)], type := 40, pos := "law.go:69", after := #[{ on := 5, ground := Ground.data }, { on := 10, ground := Ground.data }, { on := 16, ground := Ground.data }], guard := none }) (v := .agg (encM ⟨c.key, c.del, .slice sp4 c.val.length cap4⟩).toArray) rfl (by kernel_rfl) (by kernel_rfl) (by kernel_rfl) (fun _ _ _ h => h) (yields_build (by rfl) _ _ _ rfl c.key r6 c.del sp4 c.val.length cap4 rfl rfl rfl) hHeld ?_
      try simp only [Act.put, List.setIfInBounds_toArray, List.set_cons_zero, List.set_cons_succ]
      refine wpAnyH_ready (rs := [18]) (by kernel_rfl) (by simp) ?_
      refine (AllReadyH.cons (o := { dst := some 29, op := Op.buildSlice 29 1 #[(0, Operand.tmp 28)], type := 29, pos := "law.go:69", after := #[{ on := 17, ground := Ground.data }], guard := none }) rfl (fun K hK => ?_) AllReadyH.nil)
      refine step_slice (by rfl) (.tmp 28) rfl _ (by simp [encM, ints, r6]) rfl ?_
      refine hK.out _ _ (hHeld.alloc hHeld.size _) (fun hHeld2 => ?_)
      clear hK K hHeld
      have hHeld := hHeld2
      clear hHeld2
      try simp only [Act.put, List.setIfInBounds_toArray, List.set_cons_zero, List.set_cons_succ]
      refine wpAnyH_ready (rs := [19]) (by kernel_rfl) (by simp) ?_
      refine (AllReadyH.cons (o := { dst := some 30, op := Op.call { callee := Callee.builtin Builtin.append, args := #[Operand.tmp 11, Operand.tmp 29], argTypes := #[29, 29] }, type := 29, pos := "law.go:69", after := #[{ on := 0, ground := Ground.data }, { on := 18, ground := Ground.data }, { on := 16, ground := Ground.chain }], guard := none }) rfl (fun K hK => ?_) AllReadyH.nil)
      refine step_pushC rfl (.tmp 11) (.tmp 29) rfl w.heap.size _ ns ⟨c.key, c.del, .slice sp4 c.val.length cap4⟩ rfl hO5 rfl (by simp [encM, ints, r6]) (by intro v hv; rcases List.mem_append.1 hv with h | h; exact ints_one _ _ v h; simp at h; rcases h with rfl | rfl <;> rfl) HL.out hB5.size _ _ ?_
      intro v7 w7 hO7 hB7 hK7 hD7
      refine hK.out _ _ (hB5.trans hB7) (fun hHeld2 => ?_)
      clear hK K hHeld
      have hHeld := hHeld2
      clear hHeld2
      try simp only [Act.put, List.setIfInBounds_toArray, List.set_cons_zero, List.set_cons_succ]
      refine wpAnyH_take (i := 20) (oi := { dst := some 3, op := Op.assign (Operand.tmp 30), type := 29, pos := "law.go:69", after := #[{ on := 19, ground := Ground.data }, { on := 19, ground := Ground.chain }, { on := 0, ground := Ground.phase }, { on := 1, ground := Ground.phase }, { on := 2, ground := Ground.phase }, { on := 3, ground := Ground.phase }, { on := 4, ground := Ground.phase }, { on := 5, ground := Ground.phase }, { on := 6, ground := Ground.phase }, { on := 7, ground := Ground.phase }, { on := 8, ground := Ground.phase }, { on := 9, ground := Ground.phase }, { on := 10, ground := Ground.phase }, { on := 11, ground := Ground.phase }, { on := 12, ground := Ground.phase }, { on := 13, ground := Ground.phase }, { on := 14, ground := Ground.phase }, { on := 15, ground := Ground.phase }, { on := 16, ground := Ground.phase }, { on := 17, ground := Ground.phase }, { on := 18, ground := Ground.phase }, { on := 19, ground := Ground.phase }], guard := none }) (v := v7) rfl (by kernel_rfl) (by kernel_rfl) (by kernel_rfl) (fun _ _ _ h => h) (Or.inl ⟨by rfl, by intro w hS; go_simp⟩) hHeld ?_
      try simp only [Act.put, List.setIfInBounds_toArray, List.set_cons_zero, List.set_cons_succ]
      refine wpAnyH_done (by kernel_rfl) ?_ _
      refine NoPanic.normal ?_
      go_wp2
      refine ⟨⟨k + 1, _, by omega, by go_num, hO7, ?_, hHeld⟩, by simp [intOf]; omega⟩
      rw [HT.out]
      refine OwnV.snoc (hV5.of_heap fun kk x hx => hK7 kk (hlt_ hx) fun e => by obtain ⟨_, _, y, hy⟩ := hO5.block kk e; exact ne_of_type hx hy (by decide) rfl) rfl r6 rfl ((hO4.base hs4).of_heap fun kk e => by obtain ⟨q1, x, hx⟩ := hO4.ne_chg kk e; exact hK7 kk q1 fun e2 => by obtain ⟨_, _, y, hy⟩ := hO5.block kk e2; exact ne_of_type hx hy (by decide) rfl)
    · obtain rfl : k = cs.length := by omega
      rw [List.take_length] at hV
      clear hlt
      go_wp2
      go_ret
      exact ⟨_, rfl, ⟨ns, hO, hV⟩, hB⟩
end Go.Proofs.Ytcifbnldohmbnaa
