import Derived.Test.YtcifbnldohmbnaaYa
namespace Go.Proofs.Ytcifbnldohmbnaa
set_option linter.unusedVariables false
set_option linter.unusedSimpArgs false
open Go.RowKit
attribute [local go_sem ↓] Go.wp_at_zero Go.wp_at_succ

/-! Entries in memory. -/
structure MG where
  key : List Int
  sv : Value
def encG (m : MG) : List Value := ints .u8 m.key ++ [m.sv]
def dG : MG := ⟨List.replicate 32 0, .slice none 0 0⟩
def dE : Ent := ⟨List.replicate 32 0, []⟩
def SaysG (w : World) (m : MG) (e : Ent) : Prop := m.key = e.key ∧ e.key.length = 32 ∧ ∃ sp cap, m.sv = .slice sp e.val.length cap ∧ (sp = none → cap = 0) ∧ Src w sp cap e.val
theorem SaysG.len {w : World} {m : MG} {e : Ent} (h : SaysG w m e) : (encG m).length = 33 := by simp [encG, ints, h.1, h.2.1]
theorem SaysG.one {w : World} {m : MG} {e : Ent} (h : SaysG w m e) : ∀ v ∈ encG m, v.oneCell' = true := by
  intro v hv
  obtain ⟨_, _, sp, cap, h4, _⟩ := h
  rcases List.mem_append.1 hv with h1 | h1
  · exact ints_one _ _ v h1
  · rw [List.mem_singleton, h4] at h1; subst h1; rfl
theorem SaysG.below {w w1 : World} {m : MG} {e : Ent} (h : SaysG w m e) (hb : Below w.heap.size w w1) : SaysG w1 m e := by
  obtain ⟨h1, h2, sp, cap, h4, h5, h6⟩ := h
  exact ⟨h1, h2, sp, cap, h4, h5, h6.below hb (Nat.le_refl _)⟩
def SaysGL (w : World) (ms : List MG) (es : List Ent) : Prop := ms.length = es.length ∧ ∀ i, i < es.length → SaysG w (ms.getD i dG) (es.getD i dE)
theorem SaysGL.nil (w : World) : SaysGL w [] [] := ⟨rfl, fun i hi => by simp at hi⟩
theorem SaysGL.below {w w1 : World} {ms : List MG} {es : List Ent} (h : SaysGL w ms es) (hb : Below w.heap.size w w1) : SaysGL w1 ms es := ⟨h.1, fun i hi => (h.2 i hi).below hb⟩
theorem gD_app_l {α : Type} (l m : List α) (d : α) (i : Nat) (h : i < l.length) : (l ++ m).getD i d = l.getD i d := by
  rw [List.getD_eq_getElem?_getD, List.getElem?_append_left h, ← List.getD_eq_getElem?_getD]
theorem gD_app_r {α : Type} (l : List α) (x d : α) : (l ++ [x]).getD l.length d = x := by
  rw [List.getD_eq_getElem?_getD, List.getElem?_append_right (Nat.le_refl _), Nat.sub_self]; rfl
theorem SaysGL.snoc {w : World} {ms : List MG} {es : List Ent} {m : MG} {e : Ent} (h : SaysGL w ms es) (hc : SaysG w m e) : SaysGL w (ms ++ [m]) (es ++ [e]) := by
  refine ⟨by simp [h.1], fun i hi => ?_⟩
  by_cases hlt : i < es.length
  · rw [gD_app_l _ _ _ _ (by rw [h.1]; exact hlt), gD_app_l _ _ _ _ hlt]; exact h.2 i hlt
  · obtain rfl : i = es.length := by simp at hi; omega
    have := gD_app_r ms m dG
    rw [h.1] at this
    rw [this, gD_app_r]; exact hc
theorem gD_set {α : Type} (l : List α) (d x : α) (i j : Nat) (hi : i < l.length) : (l.set i x).getD j d = if j = i then x else l.getD j d := by
  by_cases h : j = i
  · subst h
    rw [if_pos rfl, List.getD_eq_getElem?_getD, List.getElem?_set_self hi]; rfl
  · rw [if_neg h, List.getD_eq_getElem?_getD, List.getElem?_set_ne (fun e => h e.symm), ← List.getD_eq_getElem?_getD]
theorem SaysGL.set {w : World} {ms : List MG} {es : List Ent} {m : MG} {e : Ent} (h : SaysGL w ms es) (i : Nat) (hi : i < es.length) (hc : SaysG w m e) : SaysGL w (ms.set i m) (es.set i e) := by
  refine ⟨by simp [h.1], fun j hj => ?_⟩
  rw [List.length_set] at hj
  rw [gD_set _ _ _ _ _ (by rw [h.1]; exact hi), gD_set _ _ _ _ _ hi]
  by_cases e2 : j = i
  · rw [if_pos e2, if_pos e2]; exact hc
  · rw [if_neg e2, if_neg e2]; exact h.2 j hj
theorem gD_mem {α : Type} (l : List α) (d : α) (i : Nat) (h : i < l.length) : l.getD i d ∈ l := by
  rw [List.getD_eq_getElem?_getD, List.getElem?_eq_getElem h]; exact List.getElem_mem h
theorem SaysGL.mem {w : World} {ms : List MG} {es : List Ent} (h : SaysGL w ms es) : ∀ m ∈ ms, (encG m).length = 33 := fun m hm => by
  obtain ⟨i, hi, rfl⟩ := List.mem_iff_getElem.1 hm
  have := (h.2 i (by rw [← h.1]; exact hi)).len
  rwa [List.getD_eq_getElem?_getD, List.getElem?_eq_getElem hi] at this
theorem flatG_get : ∀ (ms : List MG) (hl : ∀ m ∈ ms, (encG m).length = 33) (i j : Nat) (hj : j < 33), (ms.flatMap encG)[i * 33 + j]? = if i < ms.length then (encG (ms.getD i dG))[j]? else none
  | [], _, i, j, hj => by simp
  | m :: ms, hl, 0, j, hj => by
    rw [List.flatMap_cons, Nat.zero_mul, Nat.zero_add, List.getElem?_append_left (by rw [hl m (by simp)]; exact hj)]; simp
  | m :: ms, hl, i + 1, j, hj => by
    have := flatG_get ms (fun x hx => hl x (by simp [hx])) i j hj
    rw [List.flatMap_cons, List.getElem?_append_right (by rw [hl m (by simp)]; omega), hl m (by simp), show (i + 1) * 33 + j - 33 = i * 33 + j by omega, this]
    simp
theorem flatG_set : ∀ (os : List MG) (h : ∀ m ∈ os, (encG m).length = 33) (i : Nat) (v : Value), i < os.length → (os.flatMap encG).set (i * 33 + 32) v = (os.set i ⟨(os.getD i dG).key, v⟩).flatMap encG
  | [], _, i, v, hi => by simp at hi
  | a :: os, h, 0, v, hi => by
    have ha : (encG a).length = 33 := h a (by simp)
    have hk : (ints .u8 a.key).length = 32 := by simp [encG] at ha; simpa using ha
    rw [List.flatMap_cons, Nat.zero_mul, Nat.zero_add, List.set_append_left _ _ (by omega), List.set_cons_zero, List.flatMap_cons]
    congr 1
    show (ints .u8 a.key ++ [a.sv]).set 32 v = ints .u8 a.key ++ [v]
    rw [List.set_append_right _ _ (by omega), hk]; rfl
  | a :: os, h, i + 1, v, hi => by
    have ha : (encG a).length = 33 := h a (by simp)
    have ih := flatG_set os (fun m hm => h m (by simp [hm])) i v (by simpa using hi)
    rw [List.flatMap_cons, List.set_append_right _ _ (by omega), ha, show (i + 1) * 33 + 32 - 33 = i * 33 + 32 by omega, ih, List.set_cons_succ, List.flatMap_cons]; simp
def OwnG (w : World) (base : Nat) (v : Value) (ms : List MG) : Prop := w.ownsRow base 81 33 v ms.length (ms.flatMap encG)
theorem OwnG.nil (w : World) (base : Nat) : OwnG w base (.slice none 0 0) [] := ⟨rfl, Or.inl ⟨rfl, rfl⟩⟩
theorem OwnG.block {w : World} {base : Nat} {v : Value} {ms : List MG} (h : OwnG w base v ms) : ∀ k, v.ownBlock = some k → base ≤ k ∧ k < w.heap.size ∧ ∃ cs, w.heap[k]? = some (.cells cs 81 (0, 0)) := by
  intro k hk
  rcases h.2 with ⟨rfl, _⟩ | ⟨g, cap, cur, rfl, hg, hh, _⟩
  · simp [Value.ownBlock] at hk
  · simp [Value.ownBlock] at hk; subst hk; exact ⟨hg, hlt_ hh, cur, hh⟩
theorem OwnG.of_heap {w w1 : World} {base : Nat} {v : Value} {ms : List MG} (h : OwnG w base v ms) (hk : ∀ k, v.ownBlock = some k → w1.heap[k]? = w.heap[k]?) : OwnG w1 base v ms := by
  refine ⟨h.1, ?_⟩
  rcases h.2 with h2 | ⟨g, cap, cur, rfl, hg, hh, r⟩
  · exact Or.inl h2
  · exact Or.inr ⟨g, cap, cur, rfl, hg, (hk g rfl).trans hh, r⟩
theorem OwnG.below {w w1 : World} {base B : Nat} {v : Value} {ms : List MG} (h : OwnG w base v ms) (hb : Below B w w1) (hB : w.heap.size ≤ B) : OwnG w1 base v ms :=
  h.of_heap fun k hv => hb.block k (by have := (h.block k hv).2.1; omega)
theorem OwnG.base {w : World} {base base' : Nat} {v : Value} {ms : List MG} (h : OwnG w base v ms) (hb : base' ≤ base) : OwnG w base' v ms := by
  obtain ⟨h1, h2 | ⟨g, cap, cur, rfl, hg, r⟩⟩ := h
  · exact ⟨h1, Or.inl h2⟩
  · exact ⟨h1, Or.inr ⟨g, cap, cur, rfl, Nat.le_trans hb hg, r⟩⟩
/-- A list of entries: what it reads as. -/
structure Ens (w : World) (sp : Option Addr) (cap : Nat) (es : List Ent) (b : Nat) (ms : List MG) : Prop where
  le : es.length ≤ cap
  mx : cap ≤ maxLen
  pos : 0 < es.length → b < w.heap.size ∧ sp = some ⟨b, 0, none⟩
  rd : ∀ i, i < es.length → w.rangeAt b (i * 33) (encG (ms.getD i dG))
theorem Ens.below {w w1 : World} {sp : Option Addr} {cap : Nat} {es : List Ent} {b : Nat} {ms : List MG} (h : Ens w sp cap es b ms) (hb : Below w.heap.size w w1) : Ens w1 sp cap es b ms :=
  ⟨h.le, h.mx, fun hp => ⟨Nat.lt_of_lt_of_le (h.pos hp).1 hb.size, (h.pos hp).2⟩, fun i hi => rng_below (h.rd i hi) hb (h.pos (by omega)).1⟩
theorem OwnG.ens {w : World} {base : Nat} {v : Value} {ms : List MG} {es : List Ent} (h : OwnG w base v ms) (hl : ∀ m ∈ ms, (encG m).length = 33) (hs : ms.length = es.length) : ∃ sp cap b, v = .slice sp es.length cap ∧ Ens w sp cap es b ms ∧ (0 < es.length → v.ownBlock = some b ∧ w.frozen? ⟨b, 0, none⟩ = false) := by
  obtain ⟨h1, ⟨rfl, hn⟩ | ⟨g, cap, cur, rfl, hg, hh, hc, hm, hsz, ht⟩⟩ := h
  · have h0 : es.length = 0 := by rw [← hs, hn]
    exact ⟨none, 0, 0, by rw [h0], ⟨by omega, by simp [maxLen], fun h => by omega, fun i hi => by omega⟩, fun h => by omega⟩
  · refine ⟨some ⟨g, 0, none⟩, cap, g, by rw [hs], ⟨by rw [← hs]; exact hc, hm, fun _ => ⟨hlt_ hh, rfl⟩, fun i hi j v' hv => ?_⟩, fun _ => ⟨rfl, frozen_of_row _ _ _ _ _ hh⟩⟩
    have hi' : i < ms.length := by rw [hs]; exact hi
    have hj : j < 33 := by
      have := (List.getElem?_eq_some_iff.1 hv).1
      rwa [hl _ (gD_mem ms dG i hi')] at this
    have e := flatG_get ms hl i j hj
    rw [if_pos hi', hv, ← ht, List.getElem?_take, if_pos (by omega)] at e
    rw [cell_of_row _ _ _ _ _ _ hh]
    simpa using e
/-- Storing a value into an entry of an own list. -/
theorem OwnG.put {w : World} {base : Nat} {v : Value} {ms : List MG} (h : OwnG w base v ms) (hl : ∀ m ∈ ms, (encG m).length = 33) (i : Nat) (hi : i < ms.length) (b : Nat) (hb : v.ownBlock = some b) (sv : Value) :
    OwnG (w.setCell ⟨b, i * 33 + 32, none⟩ sv) base v (ms.set i ⟨(ms.getD i dG).key, sv⟩) ∧ w.frozen? ⟨b, i * 33 + 32, none⟩ = false := by
  obtain ⟨h1, ⟨rfl, hn⟩ | ⟨g, cap, cur, rfl, hg, hh, hc, hm, hsz, ht⟩⟩ := h
  · omega
  · simp only [Value.ownBlock, Option.some.injEq] at hb
    subst hb
    refine ⟨⟨?_, Or.inr ⟨g, cap, cur.setIfInBounds (i * 33 + 32) sv, by rw [List.length_set], hg, heap_setCell_same _ _ _ _ _ _ hh, by rw [List.length_set]; exact hc, hm, by simpa using hsz, ?_⟩⟩, frozen_of_row _ _ _ _ _ hh⟩
    · rw [← flatG_set ms hl i sv hi, List.length_set, List.length_set]; exact h1
    · rw [← flatG_set ms hl i sv hi, ← ht, List.length_set]
      simp [List.take_set]
theorem Try.infoGm : (Try.prog.info? 81).map (fun i => (i.zero.map (·.cells.size), i.size, i.bytes)) = some (some 33, 33, 56) := by kernel_rfl
theorem Try.infoG : ∃ i z, Try.prog.info? 81 = some i ∧ i.zero = some z ∧ z.cells.size = 33 ∧ i.size = 33 ∧ i.bytes = 56 := by
  have h := Try.infoGm
  cases hq : Try.prog.info? 81 with
  | none => rw [hq] at h; cases h
  | some i =>
    rw [hq] at h
    simp only [Option.map_some, Option.some.injEq, Prod.mk.injEq] at h
    cases hz : i.zero with
    | none => rw [hz] at h; cases h.1
    | some z =>
      rw [hz] at h
      simp only [Option.map_some, Option.some.injEq] at h
      exact ⟨i, z, rfl, hz, h.1, h.2.1, h.2.2⟩
theorem entSize : (Try.prog.info? 81).map (·.size) = some 33 := by kernel_rfl
theorem wpList_pushG {w : World} {ops : Array Oper} {rest : List Oper} {o : Oper} {a : Act} {Q : Exit → Act → World → Prop} (hgd : o.guard = none) (s x : Operand)
    (ho : o.op = .call { callee := .builtin .append, args := #[s, x], argTypes := #[50, 50] })
    (base : Nat) (v : Value) (ms : List MG) (m : MG) (hs : a.eval s = v) (hown : OwnG w base v ms) (hx : a.eval x = .slice (some ⟨w.heap.size, 0, none⟩) 1 1) (hl : (encG m).length = 33) (h1 : ∀ y ∈ encG m, y.oneCell' = true)
    (hlen : ms.length + 1 ≤ 1000000000000) (hbase : base ≤ w.heap.size) (t : TypeId) (fr : Nat × Nat)
    (h : ∀ v' w', OwnG w' base v' (ms ++ [m]) → Below base w w' → wpList Try.prog ops Q rest (a.put o.dst v') w') :
    wpList Try.prog ops Q (o :: rest) a (w.alloc (.cells (encG m).toArray t fr)) := by
  obtain ⟨i5, z, hi5, hz5, hc5, hs5, hy5⟩ := Try.infoG
  have hown' : OwnG (w.alloc (.cells (encG m).toArray t fr)) base v ms := hown.of_heap fun k hk => by
    show (w.heap.push _)[k]? = _
    rw [Array.getElem?_push, if_neg (by have := (hown.block k hk).2.1; omega)]
  refine wpList_append_own_at _ hgd s x 50 ho base 81 i5 z 33 56 Try.underlying50 hi5 hz5 hs5 hy5 hc5 (by decide) v ms.length _ hs hown' ⟨w.heap.size, 0, none⟩ 1 1 (encG m) hx (by omega) ?_ h1 (by unfold maxLen; omega) (by omega) (by simp; omega) ?_
  · intro j u hu
    rw [Addr.add_mid, Nat.zero_add, cell_of_row _ _ _ _ _ _ (hnew w _)]
    simpa using hu
  · intro v' w' q1 q2 _ q4
    have hB1 : Below base w (w.alloc (.cells (encG m).toArray t fr)) := (Below.refl _ _).alloc hbase _
    exact h v' w' (by unfold OwnG; rw [List.length_append, List.flatMap_append]; simpa using q1) (hB1.trans (grown_keeps q2 (fun k hk => (hown.block k hk).1) (by simp; omega)))
theorem list33 {l : List Value} (h : l.length = 33) : ∃ x0 x1 x2 x3 x4 x5 x6 x7 x8 x9 x10 x11 x12 x13 x14 x15 x16 x17 x18 x19 x20 x21 x22 x23 x24 x25 x26 x27 x28 x29 x30 x31 x32, l = x0 :: x1 :: x2 :: x3 :: x4 :: x5 :: x6 :: x7 :: x8 :: x9 :: x10 :: x11 :: x12 :: x13 :: x14 :: x15 :: x16 :: x17 :: x18 :: x19 :: x20 :: x21 :: x22 :: x23 :: x24 :: x25 :: x26 :: x27 :: x28 :: x29 :: x30 :: x31 :: x32 :: [] := by
  match l, h with
  | x0 :: x1 :: x2 :: x3 :: x4 :: x5 :: x6 :: x7 :: x8 :: x9 :: x10 :: x11 :: x12 :: x13 :: x14 :: x15 :: x16 :: x17 :: x18 :: x19 :: x20 :: x21 :: x22 :: x23 :: x24 :: x25 :: x26 :: x27 :: x28 :: x29 :: x30 :: x31 :: x32 :: [], _ => exact ⟨x0, x1, x2, x3, x4, x5, x6, x7, x8, x9, x10, x11, x12, x13, x14, x15, x16, x17, x18, x19, x20, x21, x22, x23, x24, x25, x26, x27, x28, x29, x30, x31, x32, rfl⟩
theorem slice_ent (ks : List Value) (hk : ks.length = 33) (w : World) :
    (Instr.buildSlice 50 1 #[(0, .agg ks.toArray)]).run Try.prog w = .ok (.slice (some ⟨w.heap.size, 0, none⟩) 1 1) (w.alloc (.cells ks.toArray 81)) := by
  obtain ⟨x0, x1, x2, x3, x4, x5, x6, x7, x8, x9, x10, x11, x12, x13, x14, x15, x16, x17, x18, x19, x20, x21, x22, x23, x24, x25, x26, x27, x28, x29, x30, x31, x32, rfl⟩ := list33 hk
  kernel_rfl
theorem wpList_sliceG {w : World} {ops : Array Oper} {rest : List Oper} {o : Oper} {a : Act} {Q : Exit → Act → World → Prop} (hg : o.guard = none) (x : Operand) (ho : o.op = .buildSlice 50 1 #[(0, x)])
    (ks : List Value) (hk : ks.length = 33) (hx : a.eval x = .agg ks.toArray) (h : wpList Try.prog ops Q rest (a.put o.dst (.slice (some ⟨w.heap.size, 0, none⟩) 1 1)) (w.alloc (.cells ks.toArray 81))) :
    wpList Try.prog ops Q (o :: rest) a w := by
  refine wpList_plain hg fun K hK => ?_
  unfold Oper.wp execOp
  simp only [ho, List.map_toArray, List.map_cons, List.map_nil, hx, Sem.run_bind, slice_ent ks hk w, Result.andThen_ok, Sem.run_pure]
  exact hK _ _ h
theorem build_ent' (ks : List Value) (hk : ks.length = 32) (w : World) :
    (Instr.build 81 #[(0, .agg ks.toArray)]).run Try.prog w = .ok (.agg (ks ++ [Value.slice none 0 0]).toArray) w := by
  obtain ⟨x0, x1, x2, x3, x4, x5, x6, x7, x8, x9, x10, x11, x12, x13, x14, x15, x16, x17, x18, x19, x20, x21, x22, x23, x24, x25, x26, x27, x28, x29, x30, x31, rfl⟩ := list32 hk
  kernel_rfl
theorem wpList_build_ent {w : World} {ops : Array Oper} {rest : List Oper} {o : Oper} {a : Act} {Q : Exit → Act → World → Prop} (hg : o.guard = none) (x : Operand) (ho : o.op = .build 81 #[(0, x)]) (k : List Int) (hk : k.length = 32)
    (hx : a.eval x = .agg (ints .u8 k).toArray) (h : wpList Try.prog ops Q rest (a.put o.dst (.agg (encG ⟨k, .slice none 0 0⟩).toArray)) w) : wpList Try.prog ops Q (o :: rest) a w := by
  refine wpList_plain hg fun K hK => ?_
  unfold Oper.wp execOp
  simp only [ho, List.map_toArray, List.map_cons, List.map_nil, hx, Sem.run_bind, build_ent' (ints .u8 k) (by rw [ints_len, hk]) w, Result.andThen_ok, Sem.run_pure]
  exact hK _ _ h
end Go.Proofs.Ytcifbnldohmbnaa
