import Derived.Test.YtaoongjdneaccaaDoorBo0
namespace Go.Proofs.YtaoongjdneaccaaDoor
set_option linter.unusedVariables false
set_option linter.unusedSimpArgs false
open Go.RowKit
attribute [local go_sem ↓] Go.wp_at_zero Go.wp_at_succ

/-! Lists of slices that the call made. -/
def OwnS (w : World) (base : Nat) (v : Value) (vs : List Value) : Prop := w.ownsRow base 29 1 v vs.length vs
theorem OwnS.nil (w : World) (base : Nat) : OwnS w base (.slice none 0 0) [] := ⟨rfl, Or.inl ⟨rfl, rfl⟩⟩
theorem OwnS.heap {w : World} {base : Nat} {v : Value} {vs : List Value} (h : OwnS w base v vs) : ∀ k, v.ownBlock = some k → base ≤ k ∧ k < w.heap.size ∧ ∃ cs, w.heap[k]? = some (.cells cs 29 (0, 0)) := by
  intro k hk
  rcases h.2 with ⟨rfl, _⟩ | ⟨g, cap, cur, rfl, hg, hh, _⟩
  · simp [Value.ownBlock] at hk
  · simp [Value.ownBlock] at hk; subst hk; exact ⟨hg, hlt hh, cur, hh⟩
theorem OwnS.of_heap {w w1 : World} {base : Nat} {v : Value} {vs : List Value} (h : OwnS w base v vs) (hk : ∀ k, v.ownBlock = some k → w1.heap[k]? = w.heap[k]?) : OwnS w1 base v vs := by
  refine ⟨h.1, ?_⟩
  rcases h.2 with h2 | ⟨g, cap, cur, rfl, hg, hh, r⟩
  · exact Or.inl h2
  · exact Or.inr ⟨g, cap, cur, rfl, hg, (hk g rfl).trans hh, r⟩
/-- Where the elements lie. -/
theorem OwnS.at {w : World} {base : Nat} {v : Value} {vs : List Value} (h : OwnS w base v vs) : ∃ sp cap b, v = .slice sp vs.length cap ∧ vs.length ≤ cap ∧ cap ≤ maxLen ∧ (0 < vs.length → sp = some ⟨b, 0, none⟩) ∧ ∀ j, j < vs.length → w.cell? ⟨b, j, none⟩ = some (vs.getD j undef) := by
  obtain ⟨h1, ⟨rfl, hn⟩ | ⟨g, cap, cur, rfl, hg, hh, hc, hm, hs, ht⟩⟩ := h
  · exact ⟨none, 0, 0, by rw [hn], by omega, by simp [maxLen], fun h => by omega, fun j hj => by omega⟩
  · refine ⟨some ⟨g, 0, none⟩, cap, g, rfl, hc, hm, fun _ => rfl, fun j hj => ?_⟩
    rw [cell_of_row _ _ _ _ _ _ hh]
    have e : vs[j]? = cur.toList[j]? := by
      rw [← ht, List.getElem?_take, if_pos (by omega)]
    rw [List.getD_eq_getElem?_getD, e]
    have hj2 : j < cur.toList.length := by simp; omega
    rw [List.getElem?_eq_getElem hj2]
    simp
theorem ne_of_type {w : World} {a b : Nat} {x y : Array Value} {t u : TypeId} {f f' : Nat × Nat} (ha : w.heap[a]? = some (.cells x t f)) (hb : w.heap[b]? = some (.cells y u f')) (h : t ≠ u) : a ≠ b := by
  rintro rfl
  rw [ha] at hb
  cases hb
  exact h rfl
def Dj (v1 v2 : Value) : Prop := ∀ k, v1.ownBlock = some k → v2.ownBlock = some k → False
theorem Dj.symm {u v : Value} (h : Dj u v) : Dj v u := fun k h1 h2 => h k h2 h1
theorem Dj.nil (v : Value) : Dj (.slice none 0 0) v := fun k h => by simp [Value.ownBlock] at h
theorem DjS.push {w : World} {base : Nat} {u v v' : Value} {us : List Value} (h : OwnS w base u us) (hd : Dj v u) (hv : v'.ownBlock = v.ownBlock ∨ ∃ k, v'.ownBlock = some k ∧ w.heap.size ≤ k) : Dj v' u := fun k h1 h2 => by
  rcases hv with e | ⟨k', e, hk'⟩
  · exact hd k (e ▸ h1) h2
  · rw [e] at h1; cases h1; have := (h.heap _ h2).2.1; omega
theorem Tryd.infoSm : (Tryd.prog.info? 29).map (fun i => (i.zero, i.size, i.bytes)) = some (some (.slice none 0 0), 1, 24) := by kernel_rfl
theorem Tryd.infoS : ∃ i, Tryd.prog.info? 29 = some i ∧ i.zero = some (.slice none 0 0) ∧ i.size = 1 ∧ i.bytes = 24 := by
  have h := Tryd.infoSm
  cases hq : Tryd.prog.info? 29 with
  | none => rw [hq] at h; cases h
  | some i =>
    rw [hq] at h
    simp only [Option.map_some, Option.some.injEq, Prod.mk.injEq] at h
    exact ⟨i, rfl, h.1, h.2.1, h.2.2⟩
/-- append(own list of slices, x..), the new ones in a block of their own. -/
theorem wpList_pushS {w : World} {ops : Array Oper} {rest : List Oper} {o : Oper} {a : Act} {Q : Exit → Act → World → Prop} (hgd : o.guard = none) (s x : Operand)
    (ho : o.op = .call { callee := .builtin .append, args := #[s, x], argTypes := #[25, 25] })
    (base : Nat) (v : Value) (vs ys : List Value) (hs : a.eval s = v) (hown : OwnS w base v vs) (hx : a.eval x = .slice (some ⟨w.heap.size, 0, none⟩) ys.length ys.length) (h1 : ∀ y ∈ ys, y.oneCell' = true)
    (hlen : vs.length + ys.length ≤ 5000000000000) (hbase : base ≤ w.heap.size) (t : TypeId) (fr : Nat × Nat)
    (h : ∀ v' w', OwnS w' base v' (vs ++ ys) → Below base w w' → (∀ k, k < w.heap.size → v.ownBlock ≠ some k → w'.heap[k]? = w.heap[k]?) → (v'.ownBlock = v.ownBlock ∨ ∃ k, v'.ownBlock = some k ∧ w.heap.size ≤ k) → wpList Tryd.prog ops Q rest (a.put o.dst v') w') :
    wpList Tryd.prog ops Q (o :: rest) a (w.alloc (.cells ys.toArray t fr)) := by
  obtain ⟨i5, hi5, hz5, hs5, hy5⟩ := Tryd.infoS
  have hown' : OwnS (w.alloc (.cells ys.toArray t fr)) base v vs := hown.of_heap fun k hk => by
    show (w.heap.push _)[k]? = _
    rw [Array.getElem?_push, if_neg (by have := (hown.heap k hk).2.1; omega)]
  refine wpList_append_own_at _ hgd s x 25 ho base 29 i5 (.slice none 0 0) 1 24 Tryd.underlying25 hi5 hz5 hs5 hy5 rfl Nat.one_pos v vs.length vs hs hown' ⟨w.heap.size, 0, none⟩ ys.length ys.length ys hx (by omega) ?_ h1 (by unfold maxLen; omega) (by omega) (by simp; omega) ?_
  · intro j u hu
    rw [Addr.add_mid, Nat.zero_add, cell_of_row _ _ _ _ _ _ (hnew w _)]
    simpa using hu
  · intro v' w' q1 q2 _ q4
    have hB1 : Below base w (w.alloc (.cells ys.toArray t fr)) := (Below.refl _ _).alloc hbase _
    refine h v' w' (by unfold OwnS; rw [List.length_append]; exact q1) (hB1.trans (grown_keeps q2 (fun k hk => (hown.heap k hk).1) (by simp; omega))) (fun k hk hne => ?_) ?_
    · rw [q2.block k (by simp; omega) (fun e => hne e.symm)]
      show (w.heap.push _)[k]? = _
      rw [Array.getElem?_push, if_neg (by omega)]
    · rcases q4 with e | e
      · exact Or.inl e
      · exact Or.inr ⟨_, e, by simp⟩
/-- A list that is full of m. -/
def FL (w : World) (v : Value) (m : Int) (n : Nat) : Prop := Own w 0 v (List.replicate n m)
theorem FL.of_own {w : World} {base : Nat} {v : Value} {m : Int} {n : Nat} (h : Own w base v (List.replicate n m)) : FL w v m n :=
  ⟨h.1, h.2.imp id fun ⟨g, cap, cur, e, hg, r⟩ => ⟨g, cap, cur, e, Nat.zero_le _, r⟩⟩
theorem FL.of_heap {w w1 : World} {v : Value} {m : Int} {n : Nat} (h : FL w v m n) (hk : ∀ k, v.ownBlock = some k → w1.heap[k]? = w.heap[k]?) : FL w1 v m n := Own.of_heap h hk
theorem own_heap5 {w : World} {base : Nat} {v : Value} {zs : List Int} (h : Own w base v zs) : ∀ k, v.ownBlock = some k → k < w.heap.size ∧ ∃ cs, w.heap[k]? = some (.cells cs 5 (0, 0)) := by
  intro k hk
  rcases h.2 with ⟨rfl, _⟩ | ⟨g, cap, cur, rfl, hg, hh, _⟩
  · simp [Value.ownBlock] at hk
  · simp [Value.ownBlock] at hk; subst hk; exact ⟨hlt hh, cur, hh⟩
theorem FL.heap {w : World} {v : Value} {m : Int} {n : Nat} (h : FL w v m n) : ∀ k, v.ownBlock = some k → k < w.heap.size ∧ ∃ cs, w.heap[k]? = some (.cells cs 5 (0, 0)) := own_heap5 h
theorem FL.form {w : World} {v : Value} {m : Int} {n : Nat} (h : FL w v m n) : ∃ sp cap, v = .slice sp n cap := by
  rcases rep_own h with ⟨rfl, rfl⟩ | ⟨g, cap, cur, rfl, _⟩
  · exact ⟨_, _, rfl⟩
  · exact ⟨_, _, rfl⟩
def mk (i : Nat) : Int := ((i % 250 + 1 : Nat) : Int)
set_option maxRecDepth 100000 in
set_option maxHeartbeats 400000 in
theorem mark_any (w : World) (i : Nat) (hi : i ≤ 5000000000000) :
    Calls Tryd.prog 22 #[.int .i64 i] w fun e w' => e = .returned (.int .u8 (mk i)) ∧ w' = w := by
  have i1 : (i : Int) ≤ 5000000000000 := by omega
  go_enter Tryd.func22, Tryd.ntmps22
  go_wp2
  go_ret
  refine ⟨?_, rfl⟩
  have : mk i = (i : Int) % 250 + 1 := by unfold mk; omega
  rw [this]; rfl
set_option maxRecDepth 100000 in
set_option maxHeartbeats 400000 in
theorem full_any (w : World) (v : Value) (m : Int) (n : Nat) (h : FL w v m n) (hn : n ≤ 1048576000) :
    Calls Tryd.prog 23 #[v, .int .u8 m, .int .i64 n] w fun e w' => e = .returned (.bool true) ∧ Below w.heap.size w w' := by
  obtain ⟨sp, cap, rfl⟩ := h.form
  have hrow := rep_own h
  have i0 : (n : Int) ≤ 1048576000 := by omega
  go_enter Tryd.func23, Tryd.ntmps23
  go_wp2
  go_loopw [7] (fun i wr => ∃ k : Nat, k ≤ n ∧ i = .int .i64 k ∧ Below w.heap.size w wr) (fun i _ => n - (intOf i).toNat)
  case atStart => exact ⟨0, by omega, rfl, Below.refl _ _⟩
  case round =>
    obtain ⟨k, hk, rfl, hB⟩ := hrel
    by_cases hkn : k < n
    · have i1 : (k : Int) < (n : Int) := by omega
      rcases hrow with ⟨_, h0⟩ | ⟨g, cap2, cur, hv, _, hh, _, _, _, hc⟩
      · omega
      · simp only [Value.slice.injEq] at hv
        obtain ⟨rfl, _, rfl⟩ := hv
        have c0 : wr.cell? ⟨g, k, none⟩ = some (.int .u8 m) := by
          rw [hB.cell (p := ⟨g, k, none⟩) (hlt hh), cell_of_row _ _ _ _ _ _ hh]; exact hc k hkn
        clear hc hh h
        go_wp2
        go_roundw
        case rel => exact ⟨k + 1, by omega, by go_num, hB⟩
        case measure => simp [intOf]; omega
    · obtain rfl : k = n := by omega
      clear hkn hrow
      go_wp2
      go_ret
      exact ⟨rfl, hB⟩
/-- What the i-th lists of the book are. -/
def Ents (w : World) (L1 L2 L3 L4 : List Value) (ns : List Nat) : Prop :=
  L1.length = ns.length ∧ L2.length = ns.length ∧ L3.length = ns.length ∧ L4.length = ns.length ∧
  ∀ i, i < ns.length → FL w (L1.getD i undef) (mk i) (ns.getD i 0) ∧ FL w (L2.getD i undef) (mk i) (ns.getD i 0 + 1) ∧ FL w (L3.getD i undef) (mk i) (ns.getD i 0 + 2) ∧ FL w (L4.getD i undef) (mk i) (ns.getD i 0 + 300)
/-- No list of the book lies in block g. -/
def Off (g : Nat) (L1 L2 L3 L4 : List Value) : Prop := ∀ i, (L1.getD i undef).ownBlock ≠ some g ∧ (L2.getD i undef).ownBlock ≠ some g ∧ (L3.getD i undef).ownBlock ≠ some g ∧ (L4.getD i undef).ownBlock ≠ some g
theorem Ents.of_heap {w w1 : World} {L1 L2 L3 L4 : List Value} {ns : List Nat} (h : Ents w L1 L2 L3 L4 ns)
    (hk : ∀ k cs, k < w.heap.size → w.heap[k]? = some (.cells cs 5 (0, 0)) → (∀ i, i < ns.length → True) → (∃ i, i < ns.length ∧ ((L1.getD i undef).ownBlock = some k ∨ (L2.getD i undef).ownBlock = some k ∨ (L3.getD i undef).ownBlock = some k ∨ (L4.getD i undef).ownBlock = some k)) → w1.heap[k]? = w.heap[k]?) : Ents w1 L1 L2 L3 L4 ns := by
  obtain ⟨h1, h2, h3, h4, h5⟩ := h
  refine ⟨h1, h2, h3, h4, fun i hi => ?_⟩
  obtain ⟨a, b, c, d⟩ := h5 i hi
  refine ⟨a.of_heap fun k e => ?_, b.of_heap fun k e => ?_, c.of_heap fun k e => ?_, d.of_heap fun k e => ?_⟩
  · obtain ⟨q1, cs, q2⟩ := a.heap k e; exact hk k cs q1 q2 (fun _ _ => trivial) ⟨i, hi, Or.inl e⟩
  · obtain ⟨q1, cs, q2⟩ := b.heap k e; exact hk k cs q1 q2 (fun _ _ => trivial) ⟨i, hi, Or.inr (Or.inl e)⟩
  · obtain ⟨q1, cs, q2⟩ := c.heap k e; exact hk k cs q1 q2 (fun _ _ => trivial) ⟨i, hi, Or.inr (Or.inr (Or.inl e))⟩
  · obtain ⟨q1, cs, q2⟩ := d.heap k e; exact hk k cs q1 q2 (fun _ _ => trivial) ⟨i, hi, Or.inr (Or.inr (Or.inr e))⟩
theorem Ents.below {w w1 : World} {L1 L2 L3 L4 : List Value} {ns : List Nat} (h : Ents w L1 L2 L3 L4 ns) (hb : Below w.heap.size w w1) : Ents w1 L1 L2 L3 L4 ns := h.of_heap fun k cs hk _ _ _ => hb.block k hk
theorem getD_snoc (L : List Value) (x : Value) (i : Nat) : (L ++ [x]).getD i undef = if i = L.length then x else L.getD i undef := by
  by_cases h : i = L.length
  · subst h; simp
  · rw [if_neg h]
    by_cases h2 : i < L.length
    · rw [List.getD_eq_getElem?_getD, List.getElem?_append_left h2, ← List.getD_eq_getElem?_getD]
    · rw [List.getD_eq_getElem?_getD, List.getElem?_append_right (by omega), List.getElem?_eq_none (by simp; omega), List.getD_eq_getElem?_getD, List.getElem?_eq_none (by omega)]
theorem getDn_snoc (L : List Nat) (x : Nat) (i : Nat) (hi : i < (L ++ [x]).length) : (L ++ [x]).getD i 0 = if i = L.length then x else L.getD i 0 := by
  by_cases h : i = L.length
  · subst h; simp
  · rw [if_neg h]
    have h2 : i < L.length := by simp at hi; omega
    rw [List.getD_eq_getElem?_getD, List.getElem?_append_left h2, ← List.getD_eq_getElem?_getD]
theorem Ents.snoc {w : World} {L1 L2 L3 L4 : List Value} {ns : List Nat} (h : Ents w L1 L2 L3 L4 ns) {x1 x2 x3 x4 : Value} {n : Nat} (h1 : FL w x1 (mk ns.length) n) (h2 : FL w x2 (mk ns.length) (n + 1)) (h3 : FL w x3 (mk ns.length) (n + 2)) (h4 : FL w x4 (mk ns.length) (n + 300)) :
    Ents w (L1 ++ [x1]) (L2 ++ [x2]) (L3 ++ [x3]) (L4 ++ [x4]) (ns ++ [n]) := by
  obtain ⟨e1, e2, e3, e4, e5⟩ := h
  refine ⟨by simp [e1], by simp [e2], by simp [e3], by simp [e4], fun i hi => ?_⟩
  rw [getD_snoc, getD_snoc, getD_snoc, getD_snoc, getDn_snoc _ _ _ hi, e1, e2, e3, e4]
  by_cases h : i = ns.length
  · subst h; rw [if_pos rfl, if_pos rfl, if_pos rfl, if_pos rfl, if_pos rfl]; exact ⟨h1, h2, h3, h4⟩
  · rw [if_neg h, if_neg h, if_neg h, if_neg h, if_neg h]
    exact e5 i (by simp at hi; omega)
/-- The book. -/
structure Bk (w : World) (base B : Nat) (v1 v2 v3 v4 : Value) (L1 L2 L3 L4 : List Value) (ns : List Nat) : Prop where
  hb : base ≤ B
  bk : w.heap[B]? = some (.cells #[v1, v2, v3, v4] 27 (0, 0))
  o1 : OwnS w base v1 L1
  o2 : OwnS w base v2 L2
  o3 : OwnS w base v3 L3
  o4 : OwnS w base v4 L4
  d12 : Dj v1 v2
  d13 : Dj v1 v3
  d14 : Dj v1 v4
  d23 : Dj v2 v3
  d24 : Dj v2 v4
  d34 : Dj v3 v4
  en : Ents w L1 L2 L3 L4 ns
theorem Bk.below {w w1 : World} {base B : Nat} {v1 v2 v3 v4 : Value} {L1 L2 L3 L4 : List Value} {ns : List Nat} (h : Bk w base B v1 v2 v3 v4 L1 L2 L3 L4 ns) (hb : Below w.heap.size w w1) : Bk w1 base B v1 v2 v3 v4 L1 L2 L3 L4 ns :=
  ⟨h.hb, hbel hb h.bk (hlt h.bk), h.o1.of_heap fun k hk => hb.block k (h.o1.heap k hk).2.1, h.o2.of_heap fun k hk => hb.block k (h.o2.heap k hk).2.1, h.o3.of_heap fun k hk => hb.block k (h.o3.heap k hk).2.1, h.o4.of_heap fun k hk => hb.block k (h.o4.heap k hk).2.1, h.d12, h.d13, h.d14, h.d23, h.d24, h.d34, h.en.below hb⟩
set_option maxRecDepth 100000 in
set_option maxHeartbeats 1000000 in
theorem held_any (w : World) (base B : Nat) (v1 v2 v3 v4 : Value) (L1 L2 L3 L4 : List Value) (ns : List Nat) (h : Bk w base B v1 v2 v3 v4 L1 L2 L3 L4 ns) (hN : ns.length ≤ 4000000000000) (hns : ∀ i, ns.getD i 0 ≤ 4000000) :
    Calls Tryd.prog 7 #[.pointer (some ⟨B, 0, none⟩)] w fun e w' => e = .returned (.bool true) ∧ Below w.heap.size w w' := by
  obtain ⟨s1, c1, b1, rfl, a1, a2, a3, a4⟩ := h.o1.at
  obtain ⟨s2, c2, b2, rfl, e1, e2, e3, e4⟩ := h.o2.at
  obtain ⟨s3, c3, b3, rfl, f1, f2, f3, f4⟩ := h.o3.at
  obtain ⟨s4, c4, b4, rfl, g1, g2, g3, g4⟩ := h.o4.at
  obtain ⟨l1, l2, l3, l4, hen⟩ := h.en
  have hbk := h.bk
  rw [l1] at a1 a3 a4 hbk
  rw [l2] at e1 e3 e4 hbk
  rw [l3] at f1 f3 f4 hbk
  rw [l4] at g1 g3 g4 hbk
  unfold maxLen at a2 e2 f2 g2
  have i0 : (ns.length : Int) ≤ 4000000000000 := by omega
  go_enter Tryd.func7, Tryd.ntmps7
  go_wp2
  go_loopw [3] (fun i wr => ∃ k : Nat, k ≤ ns.length ∧ i = .int .i64 k ∧ Below w.heap.size w wr) (fun i _ => ns.length - (intOf i).toNat)
  case atStart => exact ⟨0, by omega, rfl, Below.refl _ _⟩
  case round =>
    obtain ⟨k, hk, rfl, hB⟩ := hrel
    have hbr := hbel hB hbk (hlt hbk)
    have z1 : wr.cell? ⟨B, 0, none⟩ = some (.slice s1 ns.length c1) := by rw [cell_of_row _ _ _ _ _ _ hbr]; rfl
    by_cases hkn : k < ns.length
    · have i1 : (k : Int) < (ns.length : Int) := by omega
      obtain rfl := a3 (by omega)
      obtain rfl := e3 (by omega)
      obtain rfl := f3 (by omega)
      obtain rfl := g3 (by omega)
      obtain ⟨p1, p2, p3, p4⟩ := hen k hkn
      have ck : ∀ (bb : Nat) (x : Value), w.cell? ⟨bb, k, none⟩ = some x → wr.cell? ⟨bb, k, none⟩ = some x := fun bb x hx => (hB.cell (p := ⟨bb, k, none⟩) (block_lt_of_cell hx)).trans hx
      have y1 := ck _ _ (a4 k hkn)
      have y2 := ck _ _ (e4 k hkn)
      have y3 := ck _ _ (f4 k hkn)
      have y4 := ck _ _ (g4 k hkn)
      have z2 : wr.cell? ⟨B, 1, none⟩ = some (.slice (some ⟨b2, 0, none⟩) ns.length c2) := by rw [cell_of_row _ _ _ _ _ _ hbr]; rfl
      have z3 : wr.cell? ⟨B, 2, none⟩ = some (.slice (some ⟨b3, 0, none⟩) ns.length c3) := by rw [cell_of_row _ _ _ _ _ _ hbr]; rfl
      have z4 : wr.cell? ⟨B, 3, none⟩ = some (.slice (some ⟨b4, 0, none⟩) ns.length c4) := by rw [cell_of_row _ _ _ _ _ _ hbr]; rfl
      have hnn := hns k
      generalize ns.getD k 0 = n at *
      have FE : ∀ {v : Value} {m : Int} {q : Nat}, FL w v m q → FL wr v m q := fun hf => hf.of_heap fun kk hkk => hB.block kk (hf.heap kk hkk).1
      have q1 := FE p1
      have q2 := FE p2
      have q3 := FE p3
      have q4 := FE p4
      clear p1 p2 p3 p4 FE ck
      generalize L1.getD k undef = X1 at *
      generalize L2.getD k undef = X2 at *
      generalize L3.getD k undef = X3 at *
      generalize L4.getD k undef = X4 at *
      obtain ⟨r1, t1, rfl⟩ := q1.form
      obtain ⟨r2, t2, rfl⟩ := q2.form
      obtain ⟨r3, t3, rfl⟩ := q3.form
      obtain ⟨r4, t4, rfl⟩ := q4.form
      have j1 : (n : Int) ≤ 4000000 := by omega
      go_wp2_with fail
      refine (mark_any wr k (by omega)).mono ?_
      rintro e w1 ⟨rfl, rfl⟩
      go_wp2_with fail
      refine (full_any w1 _ (mk k) n q1 (by omega)).mono ?_
      rintro e w2 ⟨rfl, b2'⟩
      have KC : ∀ (bb o : Nat) (x : Value), w1.cell? ⟨bb, o, none⟩ = some x → w2.cell? ⟨bb, o, none⟩ = some x := fun bb o x hx => (b2'.cell (p := ⟨bb, o, none⟩) (block_lt_of_cell hx)).trans hx
      have y2' := KC _ _ _ y2
      have y3' := KC _ _ _ y3
      have y4' := KC _ _ _ y4
      have z2' := KC _ _ _ z2
      have z3' := KC _ _ _ z3
      have z4' := KC _ _ _ z4
      have q2' := q2.of_heap (w1 := w2) fun kk hkk => b2'.block kk (q2.heap kk hkk).1
      have q3' := q3.of_heap (w1 := w2) fun kk hkk => b2'.block kk (q3.heap kk hkk).1
      have q4' := q4.of_heap (w1 := w2) fun kk hkk => b2'.block kk (q4.heap kk hkk).1
      have hB2 := hB.trans (b2'.mono hB.size)
      clear y1 y2 y3 y4 z1 z2 z3 z4 q1 q2 q3 q4 KC b2' hB hbr
      go_wp2_with fail
      refine (full_any w2 _ (mk k) (n + 1) q2' (by omega)).mono ?_
      rintro e w3 ⟨rfl, b3'⟩
      have KC : ∀ (bb o : Nat) (x : Value), w2.cell? ⟨bb, o, none⟩ = some x → w3.cell? ⟨bb, o, none⟩ = some x := fun bb o x hx => (b3'.cell (p := ⟨bb, o, none⟩) (block_lt_of_cell hx)).trans hx
      have y3 := KC _ _ _ y3'
      have y4 := KC _ _ _ y4'
      have z3 := KC _ _ _ z3'
      have z4 := KC _ _ _ z4'
      have q3 := q3'.of_heap (w1 := w3) fun kk hkk => b3'.block kk (q3'.heap kk hkk).1
      have q4 := q4'.of_heap (w1 := w3) fun kk hkk => b3'.block kk (q4'.heap kk hkk).1
      have hB3 := hB2.trans (b3'.mono hB2.size)
      clear y2' y3' y4' z2' z3' z4' q2' q3' q4' KC b3' hB2
      go_wp2_with fail
      refine (full_any w3 _ (mk k) (n + 2) q3 (by omega)).mono ?_
      rintro e w4 ⟨rfl, b4'⟩
      have KC : ∀ (bb o : Nat) (x : Value), w3.cell? ⟨bb, o, none⟩ = some x → w4.cell? ⟨bb, o, none⟩ = some x := fun bb o x hx => (b4'.cell (p := ⟨bb, o, none⟩) (block_lt_of_cell hx)).trans hx
      have y4' := KC _ _ _ y4
      have z4' := KC _ _ _ z4
      have q4' := q4.of_heap (w1 := w4) fun kk hkk => b4'.block kk (q4.heap kk hkk).1
      have hB4 := hB3.trans (b4'.mono hB3.size)
      clear y3 y4 z3 z4 q3 q4 KC b4' hB3
      go_wp2_with fail
      refine (full_any w4 _ (mk k) (n + 300) q4' (by omega)).mono ?_
      rintro e w5 ⟨rfl, b5'⟩
      have hB5 := hB4.trans (b5'.mono hB4.size)
      go_wp2
      go_roundw
      case rel => exact ⟨k + 1, by omega, by go_num, hB5⟩
      case measure => simp [intOf]; omega
    · obtain rfl : k = ns.length := by omega
      clear hkn
      go_wp2
      go_ret
      exact ⟨rfl, hB⟩
end Go.Proofs.YtaoongjdneaccaaDoor
