import Derived.Test.YtbjahdbmkcamoaaGreatDoorNg
import Derived.Test.YtbjahdbmkcamoaaGreatDoorNj
namespace Go.Proofs.YtbjahdbmkcamoaaGreatDoor
set_option linter.unusedVariables false
set_option linter.unusedSimpArgs false
open Go.RowKit
attribute [local go_sem ↓] Go.wp_at_zero Go.wp_at_succ

structure MG where
  key : List Int
  sv : Value
def encG (m : MG) : List Value := ints .u8 m.key ++ [m.sv]
def dG : MG := ⟨List.replicate 32 0, .slice none 0 0⟩
def dE : EnM := ⟨List.replicate 32 0, []⟩
def SaysG (w : World) (m : MG) (e : EnM) : Prop := m.key = e.k ∧ e.k.length = 32 ∧ ∃ sp cap, m.sv = .slice sp e.v.length cap ∧ (sp = none → cap = 0) ∧ Src w sp cap e.v
theorem SaysG.len {w : World} {m : MG} {e : EnM} (h : SaysG w m e) : (encG m).length = 33 := by simp [encG, ints, h.1, h.2.1]
theorem SaysG.one {w : World} {m : MG} {e : EnM} (h : SaysG w m e) : ∀ v ∈ encG m, v.oneCell' = true := by
  intro v hv
  obtain ⟨_, _, sp, cap, h4, _⟩ := h
  rcases List.mem_append.1 hv with h1 | h1
  · exact ints_one _ _ v h1
  · rw [List.mem_singleton, h4] at h1; subst h1; rfl
theorem SaysG.below {w w1 : World} {m : MG} {e : EnM} (h : SaysG w m e) (hb : Below w.heap.size w w1) : SaysG w1 m e := by
  obtain ⟨h1, h2, sp, cap, h4, h5, h6⟩ := h
  exact ⟨h1, h2, sp, cap, h4, h5, h6.below hb (Nat.le_refl _)⟩
def SaysGL (w : World) (ms : List MG) (es : List EnM) : Prop := ms.length = es.length ∧ ∀ i, i < es.length → SaysG w (ms.getD i dG) (es.getD i dE)
theorem SaysGL.nil (w : World) : SaysGL w [] [] := ⟨rfl, fun i hi => by simp at hi⟩
theorem SaysGL.below {w w1 : World} {ms : List MG} {es : List EnM} (h : SaysGL w ms es) (hb : Below w.heap.size w w1) : SaysGL w1 ms es := ⟨h.1, fun i hi => (h.2 i hi).below hb⟩
theorem gD_app_l {α : Type} (l m : List α) (d : α) (i : Nat) (h : i < l.length) : (l ++ m).getD i d = l.getD i d := by
  rw [List.getD_eq_getElem?_getD, List.getElem?_append_left h, ← List.getD_eq_getElem?_getD]
theorem gD_app_r {α : Type} (l : List α) (x d : α) : (l ++ [x]).getD l.length d = x := by
  rw [List.getD_eq_getElem?_getD, List.getElem?_append_right (Nat.le_refl _), Nat.sub_self]; rfl
theorem SaysGL.snoc {w : World} {ms : List MG} {es : List EnM} {m : MG} {e : EnM} (h : SaysGL w ms es) (hc : SaysG w m e) : SaysGL w (ms ++ [m]) (es ++ [e]) := by
  refine ⟨by simp [h.1], fun i hi => ?_⟩
  by_cases hlt : i < es.length
  · rw [gD_app_l _ _ _ _ (by rw [h.1]; exact hlt), gD_app_l _ _ _ _ hlt]; exact h.2 i hlt
  · obtain rfl : i = es.length := by simp at hi; omega
    have := gD_app_r ms m dG
    rw [h.1] at this
    rw [this, gD_app_r]; exact hc
theorem gD_mem {α : Type} (l : List α) (d : α) (i : Nat) (h : i < l.length) : l.getD i d ∈ l := by
  rw [List.getD_eq_getElem?_getD, List.getElem?_eq_getElem h]; exact List.getElem_mem h
theorem SaysGL.mem {w : World} {ms : List MG} {es : List EnM} (h : SaysGL w ms es) : ∀ m ∈ ms, (encG m).length = 33 := fun m hm => by
  obtain ⟨i, hi, rfl⟩ := List.mem_iff_getElem.1 hm
  have := (h.2 i (by rw [← h.1]; exact hi)).len
  rwa [List.getD_eq_getElem?_getD, List.getElem?_eq_getElem hi] at this
theorem flatG_get : ∀ (ms : List MG) (hl : ∀ m ∈ ms, (encG m).length = 33) (i j : Nat) (hj : j < 33), (ms.flatMap encG)[i * 33 + j]? = if i < ms.length then (encG (ms.getD i dG))[j]? else none
  | [], _, i, j, hj => by simp
  | m :: ms, hl, 0, j, hj => by
    rw [List.flatMap_cons, Nat.zero_mul, Nat.zero_add, List.getElem?_append_left (by rw [hl m (by simp)]; exact hj)]; simp
  | m :: ms, hl, i + 1, j, hj => by
    have := flatG_get ms (fun x hx => hl x (by simp [hx])) i j hj
    rw [List.flatMap_cons, List.getElem?_append_right (by rw [hl m (by simp)]; omega), hl m (by simp), show (i + 1) * 33 + j - 33 = i * 33 + j by omega, this]
    simp
def OwnG (w : World) (base : Nat) (v : Value) (ms : List MG) : Prop := w.ownsRow base 67 33 v ms.length (ms.flatMap encG)
theorem OwnG.nil (w : World) (base : Nat) : OwnG w base (.slice none 0 0) [] := ⟨rfl, Or.inl ⟨rfl, rfl⟩⟩
theorem OwnG.block {w : World} {base : Nat} {v : Value} {ms : List MG} (h : OwnG w base v ms) : ∀ k, v.ownBlock = some k → base ≤ k ∧ k < w.heap.size ∧ ∃ cs, w.heap[k]? = some (.cells cs 67 (0, 0)) := by
  intro k hk
  rcases h.2 with ⟨rfl, _⟩ | ⟨g, cap, cur, rfl, hg, hh, _⟩
  · simp [Value.ownBlock] at hk
  · simp [Value.ownBlock] at hk; subst hk; exact ⟨hg, hlt hh, cur, hh⟩
theorem OwnG.of_heap {w w1 : World} {base : Nat} {v : Value} {ms : List MG} (h : OwnG w base v ms) (hk : ∀ k, v.ownBlock = some k → w1.heap[k]? = w.heap[k]?) : OwnG w1 base v ms := by
  refine ⟨h.1, ?_⟩
  rcases h.2 with h2 | ⟨g, cap, cur, rfl, hg, hh, r⟩
  · exact Or.inl h2
  · exact Or.inr ⟨g, cap, cur, rfl, hg, (hk g rfl).trans hh, r⟩
theorem OwnG.below {w w1 : World} {base B : Nat} {v : Value} {ms : List MG} (h : OwnG w base v ms) (hb : Below B w w1) (hB : w.heap.size ≤ B) : OwnG w1 base v ms :=
  h.of_heap fun k hv => hb.block k (by have := (h.block k hv).2.1; omega)
theorem OwnG.base {w : World} {base base' : Nat} {v : Value} {ms : List MG} (h : OwnG w base v ms) (hb : base' ≤ base) : OwnG w base' v ms := by
  obtain ⟨h1, h2 | ⟨g, cap, cur, rfl, hg, r⟩⟩ := h
  · exact ⟨h1, Or.inl h2⟩
  · exact ⟨h1, Or.inr ⟨g, cap, cur, rfl, Nat.le_trans hb hg, r⟩⟩
theorem Tryz.infoGm : (Tryz.prog.info? 67).map (fun i => (i.zero.map (·.cells.size), i.size, i.bytes)) = some (some 33, 33, 56) := by kernel_rfl
theorem Tryz.infoG : ∃ i z, Tryz.prog.info? 67 = some i ∧ i.zero = some z ∧ z.cells.size = 33 ∧ i.size = 33 ∧ i.bytes = 56 := by
  have h := Tryz.infoGm
  cases hq : Tryz.prog.info? 67 with
  | none => rw [hq] at h; cases h
  | some i =>
    rw [hq] at h
    simp only [Option.map_some, Option.some.injEq, Prod.mk.injEq] at h
    cases hz : i.zero with
    | none => rw [hz] at h; cases h.1
    | some z =>
      rw [hz] at h
      simp only [Option.map_some, Option.some.injEq] at h
      exact ⟨i, z, rfl, hz, h.1, h.2.1, h.2.2⟩
theorem entSize : (Tryz.prog.info? 67).map (·.size) = some 33 := by kernel_rfl
theorem wpList_pushG {w : World} {ops : Array Oper} {rest : List Oper} {o : Oper} {a : Act} {Q : Exit → Act → World → Prop} (hgd : o.guard = none) (s x : Operand)
    (ho : o.op = .call { callee := .builtin .append, args := #[s, x], argTypes := #[26, 26] })
    (base : Nat) (v : Value) (ms : List MG) (m : MG) (hs : a.eval s = v) (hown : OwnG w base v ms) (hx : a.eval x = .slice (some ⟨w.heap.size, 0, none⟩) 1 1) (hl : (encG m).length = 33) (h1 : ∀ y ∈ encG m, y.oneCell' = true)
    (hlen : ms.length + 1 ≤ 1000000000000) (hbase : base ≤ w.heap.size) (t : TypeId) (fr : Nat × Nat)
    (h : ∀ v' w', OwnG w' base v' (ms ++ [m]) → Below base w w' → wpList Tryz.prog ops Q rest (a.put o.dst v') w') :
    wpList Tryz.prog ops Q (o :: rest) a (w.alloc (.cells (encG m).toArray t fr)) := by
  obtain ⟨i5, z, hi5, hz5, hc5, hs5, hy5⟩ := Tryz.infoG
  have hown' : OwnG (w.alloc (.cells (encG m).toArray t fr)) base v ms := hown.of_heap fun k hk => by
    show (w.heap.push _)[k]? = _
    rw [Array.getElem?_push, if_neg (by have := (hown.block k hk).2.1; omega)]
  refine wpList_append_own_at _ hgd s x 26 ho base 67 i5 z 33 56 Tryz.underlying26 hi5 hz5 hs5 hy5 hc5 (by decide) v ms.length _ hs hown' ⟨w.heap.size, 0, none⟩ 1 1 (encG m) hx (by omega) ?_ h1 (by unfold maxLen; omega) (by omega) (by simp; omega) ?_
  · intro j u hu
    rw [Addr.add_mid, Nat.zero_add, cell_of_row _ _ _ _ _ _ (hnew w _)]
    simpa using hu
  · intro v' w' q1 q2 _ q4
    have hB1 : Below base w (w.alloc (.cells (encG m).toArray t fr)) := (Below.refl _ _).alloc hbase _
    exact h v' w' (by unfold OwnG; rw [List.length_append, List.flatMap_append]; simpa using q1) (hB1.trans (grown_keeps q2 (fun k hk => (hown.block k hk).1) (by simp; omega)))
theorem list33 {l : List Value} (h : l.length = 33) : ∃ x0 x1 x2 x3 x4 x5 x6 x7 x8 x9 x10 x11 x12 x13 x14 x15 x16 x17 x18 x19 x20 x21 x22 x23 x24 x25 x26 x27 x28 x29 x30 x31 x32, l = x0 :: x1 :: x2 :: x3 :: x4 :: x5 :: x6 :: x7 :: x8 :: x9 :: x10 :: x11 :: x12 :: x13 :: x14 :: x15 :: x16 :: x17 :: x18 :: x19 :: x20 :: x21 :: x22 :: x23 :: x24 :: x25 :: x26 :: x27 :: x28 :: x29 :: x30 :: x31 :: x32 :: [] := by
  match l, h with
  | x0 :: x1 :: x2 :: x3 :: x4 :: x5 :: x6 :: x7 :: x8 :: x9 :: x10 :: x11 :: x12 :: x13 :: x14 :: x15 :: x16 :: x17 :: x18 :: x19 :: x20 :: x21 :: x22 :: x23 :: x24 :: x25 :: x26 :: x27 :: x28 :: x29 :: x30 :: x31 :: x32 :: [], _ => exact ⟨x0, x1, x2, x3, x4, x5, x6, x7, x8, x9, x10, x11, x12, x13, x14, x15, x16, x17, x18, x19, x20, x21, x22, x23, x24, x25, x26, x27, x28, x29, x30, x31, x32, rfl⟩
theorem slice_ent (ks : List Value) (hk : ks.length = 33) (w : World) :
    (Instr.buildSlice 26 1 #[(0, .agg ks.toArray)]).run Tryz.prog w = .ok (.slice (some ⟨w.heap.size, 0, none⟩) 1 1) (w.alloc (.cells ks.toArray 67)) := by
  obtain ⟨x0, x1, x2, x3, x4, x5, x6, x7, x8, x9, x10, x11, x12, x13, x14, x15, x16, x17, x18, x19, x20, x21, x22, x23, x24, x25, x26, x27, x28, x29, x30, x31, x32, rfl⟩ := list33 hk
  kernel_rfl
theorem wpList_sliceG {w : World} {ops : Array Oper} {rest : List Oper} {o : Oper} {a : Act} {Q : Exit → Act → World → Prop} (hg : o.guard = none) (x : Operand) (ho : o.op = .buildSlice 26 1 #[(0, x)])
    (ks : List Value) (hk : ks.length = 33) (hx : a.eval x = .agg ks.toArray) (h : wpList Tryz.prog ops Q rest (a.put o.dst (.slice (some ⟨w.heap.size, 0, none⟩) 1 1)) (w.alloc (.cells ks.toArray 67))) :
    wpList Tryz.prog ops Q (o :: rest) a w := by
  refine wpList_plain hg fun K hK => ?_
  unfold Oper.wp execOp
  simp only [ho, List.map_toArray, List.map_cons, List.map_nil, hx, Sem.run_bind, slice_ent ks hk w, Result.andThen_ok, Sem.run_pure]
  exact hK _ _ h
/-- A slice of entries: what it reads as. -/
def SrcE (w : World) (sp : Option Addr) (cap : Nat) (es : List EnM) : Prop :=
  es.length ≤ cap ∧ cap ≤ maxLen ∧ ∃ b o, (0 < es.length → b < w.heap.size ∧ sp = some ⟨b, o, none⟩) ∧ ∀ j, j < es.length → ∃ m, w.rangeAt b (o + j * 33) (encG m) ∧ SaysG w m (es.getD j dE)
theorem SrcE.below {w w1 : World} {sp : Option Addr} {cap : Nat} {es : List EnM} (h : SrcE w sp cap es) (hb : Below w.heap.size w w1) : SrcE w1 sp cap es := by
  obtain ⟨h1, h2, b, o, h3, h4⟩ := h
  refine ⟨h1, h2, b, o, fun hl => ⟨Nat.lt_of_lt_of_le (h3 hl).1 hb.size, (h3 hl).2⟩, fun j hj => ?_⟩
  obtain ⟨m, a, c⟩ := h4 j hj
  exact ⟨m, rng_below a hb (h3 (by omega)).1, c.below hb⟩
theorem SrcE.at {w : World} {sp : Option Addr} {cap : Nat} {es : List EnM} (h : SrcE w sp cap es) (j : Nat) (hj : j < es.length) : ∃ b o m, sp = some ⟨b, o, none⟩ ∧ b < w.heap.size ∧ w.rangeAt b (o + j * 33) (encG m) ∧ SaysG w m (es.getD j dE) := by
  obtain ⟨h1, h2, b, o, h3, h4⟩ := h
  obtain ⟨m, a, c⟩ := h4 j hj
  exact ⟨b, o, m, (h3 (by omega)).2, (h3 (by omega)).1, a, c⟩
/-- A list of entries that a call made. -/
def OwnE (w : World) (base : Nat) (v : Value) (es : List EnM) : Prop := ∃ ms, OwnG w base v ms ∧ SaysGL w ms es
theorem OwnE.nil (w : World) (base : Nat) : OwnE w base (.slice none 0 0) [] := ⟨[], OwnG.nil _ _, SaysGL.nil _⟩
theorem OwnE.below {w w1 : World} {base : Nat} {v : Value} {es : List EnM} (h : OwnE w base v es) (hb : Below w.heap.size w w1) : OwnE w1 base v es := by
  obtain ⟨ms, a, c⟩ := h
  exact ⟨ms, a.below hb (Nat.le_refl _), c.below hb⟩
theorem OwnE.form {w : World} {base : Nat} {v : Value} {es : List EnM} (h : OwnE w base v es) : ∃ sp cap, v = .slice sp es.length cap ∧ SrcE w sp cap es ∧ (sp = none → cap = 0) := by
  obtain ⟨ms, hO, hL⟩ := h
  have hs := hL.1
  have hl := hL.mem
  obtain ⟨h1, ⟨rfl, hn⟩ | ⟨g, cap, cur, rfl, hg, hh, hc, hm, hsz, ht⟩⟩ := hO
  · have h0 : es.length = 0 := by rw [← hs, hn]
    exact ⟨none, 0, by rw [h0], ⟨by omega, by simp [maxLen], 0, 0, fun h => by omega, fun j hj => by omega⟩, fun _ => rfl⟩
  · refine ⟨some ⟨g, 0, none⟩, cap, by rw [hs], ⟨by rw [← hs]; exact hc, hm, g, 0, fun _ => ⟨hlt hh, rfl⟩, fun i hi => ⟨ms.getD i dG, fun j v' hv => ?_, hL.2 i hi⟩⟩, fun h => by cases h⟩
    have hi' : i < ms.length := by rw [hs]; exact hi
    have hj : j < 33 := by
      have := (List.getElem?_eq_some_iff.1 hv).1
      rwa [hl _ (gD_mem ms dG i hi')] at this
    have e := flatG_get ms hl i j hj
    rw [if_pos hi', hv, ← ht, List.getElem?_take, if_pos (by omega)] at e
    rw [Nat.zero_add, cell_of_row _ _ _ _ _ _ hh]
    simpa using e
end Go.Proofs.YtbjahdbmkcamoaaGreatDoor
