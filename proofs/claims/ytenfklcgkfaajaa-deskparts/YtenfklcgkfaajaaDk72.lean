import Derived.Test.YtenfklcgkfaajaaDk71
import Derived.Test.YtenfklcgkfaajaaDk36
import Derived.Test.YtenfklcgkfaajaaDk37
import Derived.Test.YtenfklcgkfaajaaDk65
namespace Go.Proofs.Ytenfklcgkfaajaa
set_option linter.unusedVariables false
set_option linter.unusedSimpArgs false
open Go.RowKit
attribute [local go_sem ↓] Go.wp_at_zero Go.wp_at_succ

/-- What a held list holds. -/
structure Hc where
  m : Int
  n : Nat
  v : Value
  a : Value
  b : Value
  c : Value
  d : Value
def hc0 : Hc := ⟨0, 0, .slice none 0 0, .slice none 0 0, .slice none 0 0, .slice none 0 0, .slice none 0 0⟩
def hcC (h : Hc) : List Value := hlC h.m h.n h.v h.a h.b h.c h.d
def flC (hs : List Hc) : List Value := hs.flatMap hcC
theorem flC_len : ∀ hs : List Hc, (flC hs).length = hs.length * 7
  | [] => rfl
  | h :: r => by
    show (hcC h ++ flC r).length = _
    rw [List.length_append, flC_len r, List.length_cons, Nat.add_mul]
    show 7 + _ = _
    omega
theorem flC_get : ∀ (hs : List Hc) (i j : Nat), i < hs.length → j < 7 → (flC hs)[i * 7 + j]? = (hcC (hs.getD i hc0))[j]?
  | [], i, j, hi, _ => by simp at hi
  | h :: r, 0, j, _, hj => by
    show (hcC h ++ flC r)[0 * 7 + j]? = _
    rw [Nat.zero_mul, Nat.zero_add, List.getElem?_append_left (by show j < 7; exact hj)]; rfl
  | h :: r, i + 1, j, hi, hj => by
    show (hcC h ++ flC r)[(i + 1) * 7 + j]? = _
    rw [List.getElem?_append_right (by show 7 ≤ _; omega)]
    show (flC r)[(i + 1) * 7 + j - 7]? = _
    rw [show (i + 1) * 7 + j - 7 = i * 7 + j by omega, flC_get r i j (by simpa using hi) hj]
    rfl
theorem flC_set : ∀ (hs : List Hc) (rest : List Value) (i : Nat) (h' : Hc), i < hs.length → (flC hs ++ rest).take (i * 7) ++ hcC h' ++ (flC hs ++ rest).drop (i * 7 + 7) = flC (hs.set i h') ++ rest
  | [], _, i, _, hi => by simp at hi
  | h :: r, rest, 0, h', _ => by
    show (hcC h ++ flC r ++ rest).take (0 * 7) ++ hcC h' ++ (hcC h ++ flC r ++ rest).drop (0 * 7 + 7) = hcC h' ++ flC r ++ rest
    rw [Nat.zero_mul, List.take_zero, List.nil_append, Nat.zero_add, List.append_assoc (hcC h), List.drop_append_of_le_length (by show 7 ≤ 7; omega)]
    show hcC h' ++ ([] ++ (flC r ++ rest)) = _
    rw [List.nil_append, List.append_assoc]
  | h :: r, rest, i + 1, h', hi => by
    have ih := flC_set r rest i h' (by simpa using hi)
    show (hcC h ++ flC r ++ rest).take ((i + 1) * 7) ++ hcC h' ++ (hcC h ++ flC r ++ rest).drop ((i + 1) * 7 + 7) = hcC h ++ flC (r.set i h') ++ rest
    have hl : (hcC h).length = 7 := rfl
    rw [List.append_assoc (hcC h) (flC r), List.take_append, List.drop_append, hl, List.take_of_length_le (by rw [hl]; omega), List.drop_of_length_le (by rw [hl]; omega), List.nil_append, show (i + 1) * 7 - 7 = i * 7 by omega, show (i + 1) * 7 + 7 - 7 = i * 7 + 7 by omega, List.append_assoc, List.append_assoc, ← List.append_assoc _ (hcC h'), ih, List.append_assoc]
def OwnH (w : World) (base : Nat) (bv : Value) (hs : List Hc) : Prop := w.ownsRow base 47 7 bv hs.length (flC hs)
theorem OwnH.block {w : World} {base : Nat} {v : Value} {hs : List Hc} (h : OwnH w base v hs) : ∀ k, v.ownBlock = some k → base ≤ k ∧ k < w.heap.size ∧ ∃ cs, w.heap[k]? = some (.cells cs 47 (0, 0)) := by
  intro k hk
  rcases h.2 with ⟨rfl, _⟩ | ⟨g, cap, cur, rfl, hg, hh, _⟩
  · simp [Value.ownBlock] at hk
  · simp [Value.ownBlock] at hk; subst hk; exact ⟨hg, hlt hh, cur, hh⟩
theorem OwnH.of_heap {w w1 : World} {base : Nat} {v : Value} {hs : List Hc} (h : OwnH w base v hs) (hk : ∀ k, v.ownBlock = some k → w1.heap[k]? = w.heap[k]?) : OwnH w1 base v hs := by
  refine ⟨h.1, ?_⟩
  rcases h.2 with h2 | ⟨g, cap, cur, rfl, hg, hh, r⟩
  · exact Or.inl h2
  · exact Or.inr ⟨g, cap, cur, rfl, hg, (hk g rfl).trans hh, r⟩
/-- The book's row. -/
theorem OwnH.row {w : World} {base : Nat} {v : Value} {hs : List Hc} (h : OwnH w base v hs) (hp : 0 < hs.length) : ∃ g cap rest, v = .slice (some ⟨g, 0, none⟩) hs.length cap ∧ base ≤ g ∧ w.heap[g]? = some (.cells (flC hs ++ rest).toArray 47 (0, 0)) ∧ hs.length ≤ cap ∧ cap ≤ maxLen := by
  rcases h.2 with ⟨_, h0⟩ | ⟨g, cap, cur, e, hg, hh, hc, hm, hs', ht⟩
  · omega
  · refine ⟨g, cap, cur.toList.drop (hs.length * 7), e, hg, ?_, hc, hm⟩
    rw [← ht, List.take_append_drop]
    simpa using hh
theorem Try.infoHm : (Try.prog.info? 47).map (fun i => (i.zero.map (·.cells.size), i.size, i.bytes)) = some (some 7, 7, 136) := by kernel_rfl
theorem Try.infoH : ∃ i z, Try.prog.info? 47 = some i ∧ i.zero = some z ∧ z.cells.size = 7 ∧ i.size = 7 ∧ i.bytes = 136 := by
  have h := Try.infoHm
  cases hq : Try.prog.info? 47 with
  | none => rw [hq] at h; cases h
  | some i =>
    rw [hq] at h
    simp only [Option.map_some, Option.some.injEq, Prod.mk.injEq] at h
    cases hz : i.zero with
    | none => rw [hz] at h; cases h.1
    | some z =>
      rw [hz] at h
      simp only [Option.map_some, Option.some.injEq] at h
      exact ⟨i, z, rfl, hz, h.1, h.2.1, h.2.2⟩
theorem wpList_pushH {w : World} {ops : Array Oper} {rest : List Oper} {o : Oper} {a : Act} {Q : Exit → Act → World → Prop} (hgd : o.guard = none) (s x : Operand)
    (ho : o.op = .call { callee := .builtin .append, args := #[s, x], argTypes := #[49, 49] })
    (base : Nat) (v : Value) (hs : List Hc) (h0 : Hc) (hsv : a.eval s = v) (hown : OwnH w base v hs) (hx : a.eval x = .slice (some ⟨w.heap.size, 0, none⟩) 1 1) (h1 : ∀ y ∈ hcC h0, y.oneCell' = true)
    (hlen : hs.length + 1 ≤ 1000000000000) (hbase : base ≤ w.heap.size) (t : TypeId) (fr : Nat × Nat)
    (h : ∀ v' w', OwnH w' base v' (hs ++ [h0]) → w.grownBy w' v.ownBlock → wpList Try.prog ops Q rest (a.put o.dst v') w') :
    wpList Try.prog ops Q (o :: rest) a (w.alloc (.cells (hcC h0).toArray t fr)) := by
  obtain ⟨i5, z, hi5, hz5, hc5, hs5, hy5⟩ := Try.infoH
  have hown' : OwnH (w.alloc (.cells (hcC h0).toArray t fr)) base v hs := hown.of_heap fun k hk => by
    show (w.heap.push _)[k]? = _
    rw [Array.getElem?_push, if_neg (by have := (hown.block k hk).2.1; omega)]
  refine wpList_append_own_at _ hgd s x 49 ho base 47 i5 z 7 136 Try.underlying49 hi5 hz5 hs5 hy5 hc5 (by decide) v hs.length _ hsv hown' ⟨w.heap.size, 0, none⟩ 1 1 (hcC h0) hx (by show 7 = _; omega) ?_ h1 (by unfold maxLen; omega) (by omega) (by simp; omega) ?_
  · intro j u hu
    rw [Addr.add_mid, Nat.zero_add, cell_of_row _ _ _ _ _ _ (hnew w _)]
    simpa using hu
  · intro v' w' q1 q2 _ q4
    refine h v' w' (by unfold OwnH flC; rw [List.length_append, List.flatMap_append]; simpa [flC] using q1) ⟨q2.os, q2.tape, q2.output, ?_, fun k hk hne => ?_⟩
    · have := q2.size; simp at this; omega
    · rw [q2.block k (by simp; omega) hne]
      show (w.heap.push _)[k]? = _
      rw [Array.getElem?_push, if_neg (by omega)]
theorem slice_h (h : Hc) (w : World) : (Instr.buildSlice 49 1 #[(0, .agg (hcC h).toArray)]).run Try.prog w = .ok (.slice (some ⟨w.heap.size, 0, none⟩) 1 1) (w.alloc (.cells (hcC h).toArray 47)) := by kernel_rfl
theorem wpList_sliceH {w : World} {ops : Array Oper} {rest : List Oper} {o : Oper} {a : Act} {Q : Exit → Act → World → Prop} (hg : o.guard = none) (x : Operand) (ho : o.op = .buildSlice 49 1 #[(0, x)]) (h0 : Hc) (hx : a.eval x = .agg (hcC h0).toArray)
    (h : wpList Try.prog ops Q rest (a.put o.dst (.slice (some ⟨w.heap.size, 0, none⟩) 1 1)) (w.alloc (.cells (hcC h0).toArray 47))) : wpList Try.prog ops Q (o :: rest) a w := by
  refine wpList_plain hg fun K hK => ?_
  unfold Oper.wp execOp
  simp only [ho, List.map_toArray, List.map_cons, List.map_nil, hx, Sem.run_bind, slice_h h0 w, Result.andThen_ok, Sem.run_pure]
  exact hK _ _ h
theorem slice_5 (h0 h1 h2 h3 h4 : Hc) (w : World) : (Instr.buildSlice 49 5 #[(0, .agg (hcC h0).toArray), (1, .agg (hcC h1).toArray), (2, .agg (hcC h2).toArray), (3, .agg (hcC h3).toArray), (4, .agg (hcC h4).toArray)]).run Try.prog w = .ok (.slice (some ⟨w.heap.size, 0, none⟩) 5 5) (w.alloc (.cells (flC [h0, h1, h2, h3, h4]).toArray 47)) := by kernel_rfl
theorem step_slice5 {w : World} {ops : Array Oper} {o : Oper} {a : Act} {K : Act → World → Prop} {Q : Exit → Act → World → Prop} {E : Prop} (hw : Region.wanted o (yielded ops a.tmps) = true) (x0 x1 x2 x3 x4 : Operand) (ho : o.op = .buildSlice 49 5 #[(0, x0), (1, x1), (2, x2), (3, x3), (4, x4)])
    (h0 h1 h2 h3 h4 : Hc) (e0 : a.eval x0 = .agg (hcC h0).toArray) (e1 : a.eval x1 = .agg (hcC h1).toArray) (e2 : a.eval x2 = .agg (hcC h2).toArray) (e3 : a.eval x3 = .agg (hcC h3).toArray) (e4 : a.eval x4 = .agg (hcC h4).toArray)
    (h : K (a.put o.dst (.slice (some ⟨w.heap.size, 0, none⟩) 5 5)) (w.alloc (.cells (flC [h0, h1, h2, h3, h4]).toArray 47))) :
    if Region.wanted o (yielded ops a.tmps) = true then Oper.wp Try.prog o a w K Q else E := by
  rw [if_pos hw]
  unfold Oper.wp execOp
  simp only [ho, List.map_toArray, List.map_cons, List.map_nil, e0, e1, e2, e3, e4, Sem.run_bind, slice_5 h0 h1 h2 h3 h4 w, Result.andThen_ok, Sem.run_pure]
  exact h
/-! The lists of what was read, held one behind the other. -/
def dV : Value × List Int := (.slice none 0 0, [])
def DjV (V : List (Value × List Int)) : Prop := (V.map (·.1)).Pairwise Dj
theorem DjV.at {V : List (Value × List Int)} (h : DjV V) {i j : Nat} (hi : i < V.length) (hj : j < V.length) (hne : i ≠ j) : Dj (V.getD i dV).1 (V.getD j dV).1 := by
  have key : ∀ {i j : Nat}, i < j → j < V.length → Dj (V.getD i dV).1 (V.getD j dV).1 := fun {i j} hij hj => by
    have h' := List.pairwise_iff_getElem.1 h i j (by simp; omega) (by simp; omega) hij
    rw [List.getElem_map, List.getElem_map] at h'
    rw [List.getD_eq_getElem?_getD, List.getD_eq_getElem?_getD, List.getElem?_eq_getElem (by omega), List.getElem?_eq_getElem hj]
    exact h'
  rcases Nat.lt_or_gt_of_ne hne with h1 | h1
  · exact key h1 hj
  · exact (key h1 hi).symm
/-- The first so many are held: full of a mark of their own; the others are as they were. -/
structure HP (w : World) (base : Nat) (V : List (Value × List Int)) (hs : List Hc) : Prop where
  le : hs.length ≤ V.length
  held : ∀ j, j < hs.length → ∃ m, hs.getD j hc0 = ⟨m, (V.getD j dV).2.length, (V.getD j dV).1, .slice none 0 0, .slice none 0 0, .slice none 0 0, .slice none 0 0⟩ ∧ Own w base (V.getD j dV).1 (List.replicate (V.getD j dV).2.length m)
  rest : ∀ j, hs.length ≤ j → j < V.length → Own w base (V.getD j dV).1 (V.getD j dV).2
theorem own_ty5 {w : World} {base : Nat} {v : Value} {zs : List Int} (h : Own w base v zs) : ∀ k, v.ownBlock = some k → base ≤ k ∧ k < w.heap.size ∧ ∃ cs, w.heap[k]? = some (.cells cs 5 (0, 0)) := fun k hk => by
  rcases h.2 with ⟨rfl, _⟩ | ⟨g, cap, cur, rfl, hg, hh, _⟩
  · simp [Value.ownBlock] at hk
  · simp [Value.ownBlock] at hk; subst hk; exact ⟨hg, hlt hh, cur, hh⟩
theorem HP.of_heap {w w1 : World} {base : Nat} {V : List (Value × List Int)} {hs : List Hc} (h : HP w base V hs) (hk : ∀ k cs, base ≤ k → w.heap[k]? = some (.cells cs 5 (0, 0)) → w1.heap[k]? = w.heap[k]?) : HP w1 base V hs :=
  ⟨h.le, fun j hj => by
    obtain ⟨m, e, o⟩ := h.held j hj
    exact ⟨m, e, o.of_heap fun k hv => by obtain ⟨a, _, cs, e⟩ := own_ty5 o k hv; exact hk k cs a e⟩, fun j h1 h2 => by
    have o := h.rest j h1 h2
    exact o.of_heap fun k hv => by obtain ⟨a, _, cs, e⟩ := own_ty5 o k hv; exact hk k cs a e⟩
theorem HP.below {w w1 : World} {base : Nat} {V : List (Value × List Int)} {hs : List Hc} (h : HP w base V hs) (hb : Below w.heap.size w w1) : HP w1 base V hs := h.of_heap fun k cs _ e => hb.block k (hlt e)
theorem HP.step {w w1 : World} {base : Nat} {V : List (Value × List Int)} {hs : List Hc} (h : HP w base V hs) (hd : DjV V) (hj : hs.length < V.length) {m : Int} (ho : Own w1 base (V.getD hs.length dV).1 (List.replicate (V.getD hs.length dV).2.length m)) (kv : KV w base (V.getD hs.length dV).1 w1) :
    HP w1 base V (hs ++ [⟨m, (V.getD hs.length dV).2.length, (V.getD hs.length dV).1, .slice none 0 0, .slice none 0 0, .slice none 0 0, .slice none 0 0⟩]) := by
  refine ⟨by simp; omega, fun j h1 => ?_, fun j h1 h2 => ?_⟩
  · rw [List.length_append, List.length_singleton] at h1
    by_cases he : j < hs.length
    · obtain ⟨m', e, o⟩ := h.held j he
      refine ⟨m', by rw [List.getD_eq_getElem?_getD, List.getElem?_append_left he, ← List.getD_eq_getElem?_getD]; exact e, o.of_heap fun k hv => ?_⟩
      exact kv.2 k (own_ty5 o k hv).2.1 (fun e2 => hd.at (by omega) hj (by omega) k hv e2)
    · obtain rfl : j = hs.length := by omega
      exact ⟨m, by rw [List.getD_eq_getElem?_getD, List.getElem?_append_right (Nat.le_refl _)]; simp, ho⟩
  · rw [List.length_append, List.length_singleton] at h1
    have o := h.rest j (by omega) h2
    exact o.of_heap fun k hv => kv.2 k (own_ty5 o k hv).2.1 (fun e2 => hd.at h2 hj (by omega) k hv e2)
/-! The held ones, grown one behind the other. -/
structure GP (w : World) (base S0 : Nat) (V : List (Value × List Int)) (hs : List Hc) (i : Nat) : Prop where
  len : hs.length = V.length
  old : ∀ j, j < V.length → ∀ k, (V.getD j dV).1.ownBlock = some k → k < S0
  all : ∀ j, j < V.length → (hs.getD j hc0).n = (V.getD j dV).2.length ∧ (hs.getD j hc0).v = (V.getD j dV).1 ∧ Own w base (V.getD j dV).1 (List.replicate (V.getD j dV).2.length (hs.getD j hc0).m)
  new : ∀ j, i ≤ j → j < V.length → (hs.getD j hc0).a = .slice none 0 0 ∧ (hs.getD j hc0).b = .slice none 0 0 ∧ (hs.getD j hc0).c = .slice none 0 0 ∧ (hs.getD j hc0).d = .slice none 0 0
  grown : ∀ j, j < i → j < V.length → ∀ (x : Value) (l : Nat), (x, l) ∈ [((hs.getD j hc0).a, 1), ((hs.getD j hc0).b, 2), ((hs.getD j hc0).c, 3), ((hs.getD j hc0).d, 100)] → Own w base x (List.replicate ((V.getD j dV).2.length + l) (hs.getD j hc0).m) ∧ (x.ownBlock = (V.getD j dV).1.ownBlock ∨ ∃ k, x.ownBlock = some k ∧ S0 ≤ k)
theorem HP.gp {w : World} {base : Nat} {V : List (Value × List Int)} {hs : List Hc} (h : HP w base V hs) (hl : hs.length = V.length) : GP w base w.heap.size V hs 0 :=
  ⟨hl, fun j hj k hk => by obtain ⟨m, e, o⟩ := h.held j (by omega); exact (own_ty5 o k hk).2.1, fun j hj => by
    obtain ⟨m, e, o⟩ := h.held j (by omega)
    rw [e]; exact ⟨rfl, rfl, o⟩, fun j _ hj => by
    obtain ⟨m, e, o⟩ := h.held j (by omega)
    rw [e]; exact ⟨rfl, rfl, rfl, rfl⟩, fun j hj => by omega⟩
theorem GP.of_heap {w w1 : World} {base S0 : Nat} {V : List (Value × List Int)} {hs : List Hc} {i : Nat} (h : GP w base S0 V hs i) (hk : ∀ k cs, base ≤ k → w.heap[k]? = some (.cells cs 5 (0, 0)) → w1.heap[k]? = w.heap[k]?) : GP w1 base S0 V hs i :=
  ⟨h.len, h.old, fun j hj => by
    obtain ⟨a1, a2, o⟩ := h.all j hj
    exact ⟨a1, a2, o.of_heap fun k hv => by obtain ⟨a, _, cs, e⟩ := own_ty5 o k hv; exact hk k cs a e⟩, h.new, fun j h1 h2 x l hx => by
    obtain ⟨o, p⟩ := h.grown j h1 h2 x l hx
    exact ⟨o.of_heap fun k hv => by obtain ⟨a, _, cs, e⟩ := own_ty5 o k hv; exact hk k cs a e, p⟩⟩
theorem GP.step {w w1 : World} {base S0 : Nat} {V : List (Value × List Int)} {hs : List Hc} {i : Nat} (h : GP w base S0 V hs i) (hd : DjV V) (hi : i < V.length) (hS : S0 ≤ w.heap.size) {a b c d : Value}
    (ov : Own w1 base (V.getD i dV).1 (List.replicate (V.getD i dV).2.length (hs.getD i hc0).m)) (oa : Own w1 base a (List.replicate ((V.getD i dV).2.length + 1) (hs.getD i hc0).m)) (ob : Own w1 base b (List.replicate ((V.getD i dV).2.length + 2) (hs.getD i hc0).m)) (oc : Own w1 base c (List.replicate ((V.getD i dV).2.length + 3) (hs.getD i hc0).m)) (od : Own w1 base d (List.replicate ((V.getD i dV).2.length + 100) (hs.getD i hc0).m))
    (ta : At w (V.getD i dV).1 a) (tb : At w (V.getD i dV).1 b) (tc : At w (V.getD i dV).1 c) (td : At w (V.getD i dV).1 d) (kv : KV w base (V.getD i dV).1 w1) :
    GP w1 base S0 V (hs.set i ⟨(hs.getD i hc0).m, (hs.getD i hc0).n, (hs.getD i hc0).v, a, b, c, d⟩) (i + 1) := by
  have hl := h.len
  have gne : ∀ j, j ≠ i → (hs.set i ⟨(hs.getD i hc0).m, (hs.getD i hc0).n, (hs.getD i hc0).v, a, b, c, d⟩).getD j hc0 = hs.getD j hc0 := fun j hj => by
    rw [List.getD_eq_getElem?_getD, List.getElem?_set_ne (fun e => hj e.symm), ← List.getD_eq_getElem?_getD]
  have geq : (hs.set i ⟨(hs.getD i hc0).m, (hs.getD i hc0).n, (hs.getD i hc0).v, a, b, c, d⟩).getD i hc0 = ⟨(hs.getD i hc0).m, (hs.getD i hc0).n, (hs.getD i hc0).v, a, b, c, d⟩ := by
    rw [List.getD_eq_getElem?_getD, List.getElem?_set_self (by omega)]; rfl
  refine ⟨by rw [List.length_set]; exact hl, h.old, fun j hj => ?_, fun j h1 h2 => ?_, fun j h1 h2 x l hx => ?_⟩
  · by_cases e : j = i
    · subst e
      rw [geq]
      obtain ⟨a1, a2, _⟩ := h.all j hj
      exact ⟨a1, a2, ov⟩
    · rw [gne j e]
      obtain ⟨a1, a2, o⟩ := h.all j hj
      exact ⟨a1, a2, o.of_heap fun k hv => kv.2 k (own_ty5 o k hv).2.1 (fun e2 => hd.at hj hi e k hv e2)⟩
  · rw [gne j (by omega)]
    exact h.new j (by omega) h2
  · by_cases e : j = i
    · subst e
      rw [geq] at hx ⊢
      have toS : ∀ y : Value, At w (V.getD j dV).1 y → (y.ownBlock = (V.getD j dV).1.ownBlock ∨ ∃ k, y.ownBlock = some k ∧ S0 ≤ k) := fun y hy => by
        rcases hy with q | ⟨k, q, hk⟩
        · exact Or.inl q
        · exact Or.inr ⟨k, q, by omega⟩
      simp only [List.mem_cons, Prod.mk.injEq, List.not_mem_nil, or_false] at hx
      rcases hx with ⟨rfl, rfl⟩ | ⟨rfl, rfl⟩ | ⟨rfl, rfl⟩ | ⟨rfl, rfl⟩
      · exact ⟨oa, toS _ ta⟩
      · exact ⟨ob, toS _ tb⟩
      · exact ⟨oc, toS _ tc⟩
      · exact ⟨od, toS _ td⟩
    · rw [gne j e] at hx ⊢
      obtain ⟨o, p⟩ := h.grown j (by omega) h2 x l hx
      refine ⟨o.of_heap fun k hv => kv.2 k (own_ty5 o k hv).2.1 (fun e2 => ?_), p⟩
      rcases p with q | ⟨k2, q, hk2⟩
      · rw [q] at hv; exact hd.at h2 hi e k hv e2
      · rw [q] at hv; cases hv; have := h.old i hi _ e2; omega
end Go.Proofs.Ytenfklcgkfaajaa
