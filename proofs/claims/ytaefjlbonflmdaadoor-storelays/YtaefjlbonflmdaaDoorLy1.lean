import Derived.Test.YtaefjlbonflmdaaDoorSf
import Derived.Test.YtaefjlbonflmdaaDoorO7
import Derived.ArgAppend
namespace Go.Proofs.YtaefjlbonflmdaaDoor
set_option linter.unusedVariables false
set_option linter.unusedSimpArgs false
open Go.RowKit
open Go.Proofs.YtaefjlbonflmdaaDoor.Ca (Ct ct0 ctC argV AS)
attribute [local go_sem ↓] Go.wp_at_zero Go.wp_at_succ

def OwnK (w : World) (base : Nat) (v : Value) (vs : List Value) : Prop := w.ownsRow base 29 1 v vs.length vs
theorem OwnK.nil (w : World) (base : Nat) : OwnK w base (.slice none 0 0) [] := ⟨rfl, Or.inl ⟨rfl, rfl⟩⟩
theorem OwnK.heap {w : World} {base : Nat} {v : Value} {vs : List Value} (h : OwnK w base v vs) : ∀ k, v.ownBlock = some k → base ≤ k ∧ k < w.heap.size ∧ ∃ cs, w.heap[k]? = some (.cells cs 29 (0, 0)) := by
  intro k hk
  rcases h.2 with ⟨rfl, _⟩ | ⟨g, cap, cur, rfl, hg, hh, _⟩
  · simp [Value.ownBlock] at hk
  · simp [Value.ownBlock] at hk; subst hk; exact ⟨hg, hlt hh, cur, hh⟩
theorem OwnK.of_heap {w w1 : World} {base : Nat} {v : Value} {vs : List Value} (h : OwnK w base v vs) (hk : ∀ k, v.ownBlock = some k → w1.heap[k]? = w.heap[k]?) : OwnK w1 base v vs := by
  refine ⟨h.1, ?_⟩
  rcases h.2 with h2 | ⟨g, cap, cur, rfl, hg, hh, r⟩
  · exact Or.inl h2
  · exact Or.inr ⟨g, cap, cur, rfl, hg, (hk g rfl).trans hh, r⟩
/-- Where the elements lie. -/
theorem OwnK.at {w : World} {base : Nat} {v : Value} {vs : List Value} (h : OwnK w base v vs) : ∃ sp cap b, v = .slice sp vs.length cap ∧ vs.length ≤ cap ∧ cap ≤ maxLen ∧ (0 < vs.length → sp = some ⟨b, 0, none⟩) ∧ ∀ j, j < vs.length → w.cell? ⟨b, j, none⟩ = some (vs.getD j undef) := by
  obtain ⟨h1, ⟨rfl, hn⟩ | ⟨g, cap, cur, rfl, hg, hh, hc, hm, hs, ht⟩⟩ := h
  · exact ⟨none, 0, 0, by rw [hn], by omega, by simp [maxLen], fun h => by omega, fun j hj => by omega⟩
  · refine ⟨some ⟨g, 0, none⟩, cap, g, rfl, hc, hm, fun _ => rfl, fun j hj => ?_⟩
    rw [cell_of_row _ _ _ _ _ _ hh]
    have e : vs[j]? = cur.toList[j]? := by
      rw [← ht, List.getElem?_take, if_pos (by omega)]
    rw [List.getD_eq_getElem?_getD, e]
    have hj2 : j < cur.toList.length := by simp; omega
    rw [List.getElem?_eq_getElem hj2]
    simp
theorem ne_tyK {w : World} {a b : Nat} {x y : Array Value} {t u : TypeId} {f f' : Nat × Nat} (ha : w.heap[a]? = some (.cells x t f)) (hb : w.heap[b]? = some (.cells y u f')) (h : t ≠ u) : a ≠ b := by
  rintro rfl
  rw [ha] at hb
  cases hb
  exact h rfl
def DjB (v1 v2 : Value) : Prop := ∀ k, v1.ownBlock = some k → v2.ownBlock = some k → False
theorem DjB.symm {u v : Value} (h : DjB u v) : DjB v u := fun k h1 h2 => h k h2 h1
theorem DjB.nil (v : Value) : DjB (.slice none 0 0) v := fun k h => by simp [Value.ownBlock] at h
theorem DjK.push {w : World} {base : Nat} {u v v' : Value} {us : List Value} (h : OwnK w base u us) (hd : DjB v u) (hv : v'.ownBlock = v.ownBlock ∨ ∃ k, v'.ownBlock = some k ∧ w.heap.size ≤ k) : DjB v' u := fun k h1 h2 => by
  rcases hv with e | ⟨k', e, hk'⟩
  · exact hd k (e ▸ h1) h2
  · rw [e] at h1; cases h1; have := (h.heap _ h2).2.1; omega
theorem Tryd.infoKm : (Tryd.prog.info? 29).map (fun i => (i.zero, i.size, i.bytes)) = some (some (.slice none 0 0), 1, 24) := by kernel_rfl
theorem Tryd.infoK : ∃ i, Tryd.prog.info? 29 = some i ∧ i.zero = some (.slice none 0 0) ∧ i.size = 1 ∧ i.bytes = 24 := by
  have h := Tryd.infoKm
  cases hq : Tryd.prog.info? 29 with
  | none => rw [hq] at h; cases h
  | some i =>
    rw [hq] at h
    simp only [Option.map_some, Option.some.injEq, Prod.mk.injEq] at h
    exact ⟨i, rfl, h.1, h.2.1, h.2.2⟩
/-- append(own list of slices, x..), the new ones in a block of their own. -/
theorem wpList_pushKp {w : World} {ops : Array Oper} {rest : List Oper} {o : Oper} {a : Act} {Q : Exit → Act → World → Prop} (hgd : o.guard = none) (s x : Operand)
    (ho : o.op = .call { callee := .builtin .append, args := #[s, x], argTypes := #[28, 28] })
    (base : Nat) (v : Value) (vs ys : List Value) (hs : a.eval s = v) (hown : OwnK w base v vs) (hx : a.eval x = .slice (some ⟨w.heap.size, 0, none⟩) ys.length ys.length) (h1 : ∀ y ∈ ys, y.oneCell' = true)
    (hlen : vs.length + ys.length ≤ 1000000000000) (hbase : base ≤ w.heap.size) (t : TypeId) (fr : Nat × Nat)
    (h : ∀ v' w', OwnK w' base v' (vs ++ ys) → Below base w w' → (∀ k, k < w.heap.size → v.ownBlock ≠ some k → w'.heap[k]? = w.heap[k]?) → (v'.ownBlock = v.ownBlock ∨ ∃ k, v'.ownBlock = some k ∧ w.heap.size ≤ k) → wpList Tryd.prog ops Q rest (a.put o.dst v') w') :
    wpList Tryd.prog ops Q (o :: rest) a (w.alloc (.cells ys.toArray t fr)) := by
  obtain ⟨i5, hi5, hz5, hs5, hy5⟩ := Tryd.infoK
  have hown' : OwnK (w.alloc (.cells ys.toArray t fr)) base v vs := hown.of_heap fun k hk => by
    show (w.heap.push _)[k]? = _
    rw [Array.getElem?_push, if_neg (by have := (hown.heap k hk).2.1; omega)]
  refine wpList_append_own_at _ hgd s x 28 ho base 29 i5 (.slice none 0 0) 1 24 Tryd.underlying28 hi5 hz5 hs5 hy5 rfl Nat.one_pos v vs.length vs hs hown' ⟨w.heap.size, 0, none⟩ ys.length ys.length ys hx (by omega) ?_ h1 (by unfold maxLen; omega) (by omega) (by simp; omega) ?_
  · intro j u hu
    rw [Addr.add_mid, Nat.zero_add, cell_of_row _ _ _ _ _ _ (hnew w _)]
    simpa using hu
  · intro v' w' q1 q2 _ q4
    have hB1 : Below base w (w.alloc (.cells ys.toArray t fr)) := (Below.refl _ _).alloc hbase _
    refine h v' w' (by unfold OwnK; rw [List.length_append]; exact q1) (hB1.trans (grown_keeps q2 (fun k hk => (hown.heap k hk).1) (by simp; omega))) (fun k hk hne => ?_) ?_
    · rw [q2.block k (by simp; omega) (fun e => hne e.symm)]
      show (w.heap.push _)[k]? = _
      rw [Array.getElem?_push, if_neg (by omega)]
    · rcases q4 with e | e
      · exact Or.inl e
      · exact Or.inr ⟨_, e, by simp⟩
theorem step_pushKp {w : World} {ops : Array Oper} {o : Oper} {a : Act} {K : Act → World → Prop} {Q : Exit → Act → World → Prop} {E : Prop} (hgd : o.guard = none) (s x : Operand)
    (ho : o.op = .call { callee := .builtin .append, args := #[s, x], argTypes := #[28, 28] })
    (base : Nat) (v : Value) (vs : List Value) (y : Value) (hs : a.eval s = v) (hown : OwnK w base v vs) (b : Nat) (hbl : w.cell? ⟨b, 0, none⟩ = some y) (hx : a.eval x = .slice (some ⟨b, 0, none⟩) 1 1) (h1 : y.oneCell' = true)
    (hlen : vs.length + 1 ≤ 1000000000000) (hbase : base ≤ w.heap.size)
    (h : ∀ v' w', OwnK w' base v' (vs ++ [y]) → Below base w w' → (∀ k, k < w.heap.size → v.ownBlock ≠ some k → w'.heap[k]? = w.heap[k]?) → (v'.ownBlock = v.ownBlock ∨ ∃ k, v'.ownBlock = some k ∧ w.heap.size ≤ k) → K (a.put o.dst v') w') :
    if Region.wanted o (yielded ops a.tmps) = true then Oper.wp Tryd.prog o a w K Q else E := by
  have hw : Region.wanted o (yielded ops a.tmps) = true := by simp [Region.wanted, hgd]
  rw [if_pos hw]
  obtain ⟨i5, hi5, hz5, hs5, hy5⟩ := Tryd.infoK
  obtain ⟨v', w', hr, q1, q2, _, q4⟩ := run_append_own_at (P := Tryd.prog) w base 28 o.type 29 i5 (.slice none 0 0) 1 24 Tryd.underlying28 hi5 hz5 hs5 hy5 rfl Nat.one_pos v vs.length vs hown ⟨b, 0, none⟩ 1 1 [y] (by simp) (by
    intro j u hu
    have hj : j = 0 := by have := (List.getElem?_eq_some_iff.1 hu).1; simpa using this
    subst hj
    rw [Addr.add_mid, hbl]; simpa using hu) (by simpa using h1) (by unfold maxLen; omega) (by omega) hbase
  unfold Oper.wp execOp
  simp only [ho, resolve, invoke, builtin, Sem.run_bind, Sem.run_pure, Result.andThen_ok, List.map_toArray, List.map_cons, List.map_nil, hs, hx, hr]
  refine h v' w' (by unfold OwnK; rw [List.length_append]; exact q1) (grown_keeps q2 (fun k hk => (hown.heap k hk).1) hbase) (fun k hk hne => q2.block k hk (fun e => hne e.symm)) ?_
  rcases q4 with e | e
  · exact Or.inl e
  · exact Or.inr ⟨_, e, Nat.le_refl _⟩
theorem OwnK.set {w : World} {base : Nat} {v : Value} {vs : List Value} (h : OwnK w base v vs) (p : Nat) (hp : p < vs.length) (y : Value) : ∃ g c, v = .slice (some ⟨g, 0, none⟩) vs.length c ∧ base ≤ g ∧ vs.length ≤ c ∧ c ≤ maxLen ∧ w.cell? ⟨g, p, none⟩ = some (vs.getD p undef) ∧ w.frozen? ⟨g, p, none⟩ = false ∧ OwnK (w.setCell ⟨g, p, none⟩ y) base v (vs.set p y) := by
  obtain ⟨h1, ⟨rfl, hn⟩ | ⟨g, cap, cur, rfl, hg, hh, hc, hm, hs, ht⟩⟩ := h
  · omega
  · have e : w.cell? ⟨g, p, none⟩ = some (vs.getD p undef) := by
      rw [cell_of_row _ _ _ _ _ _ hh]
      have e : vs[p]? = cur.toList[p]? := by rw [← ht, List.getElem?_take, if_pos (by omega)]
      rw [List.getD_eq_getElem?_getD, e]
      have hj2 : p < cur.toList.length := by simp; omega
      rw [List.getElem?_eq_getElem hj2]
      simp
    refine ⟨g, cap, rfl, hg, hc, hm, e, frozen_of_row _ _ _ _ _ hh, ?_, Or.inr ⟨g, cap, cur.setIfInBounds p y, by rw [List.length_set], hg, heap_setCell_same _ _ _ _ _ _ hh, by rw [List.length_set]; exact hc, hm, by simpa using hs, ?_⟩⟩
    · simp
    · rw [List.length_set, Array.toList_setIfInBounds, List.take_set, ht]
/-- A list of pages in memory. -/
structure WN (w : World) (base : Nat) (v : Value) (vs : List Value) (Ps : List (List Int)) : Prop where
  k : OwnK w base v vs
  l : vs.length = Ps.length
  o : ∀ p, p < Ps.length → Own w base (vs.getD p undef) (Ps.getD p []) ∧ (Ps.getD p []).length = 256
/-- Its blocks. -/
def WB (v : Value) (vs : List Value) (k : Nat) : Prop := v.ownBlock = some k ∨ ∃ p, p < vs.length ∧ (vs.getD p undef).ownBlock = some k
theorem own_ty5 {w : World} {base : Nat} {v : Value} {zs : List Int} (h : Own w base v zs) {k : Nat} (e : v.ownBlock = some k) : ∃ cs, w.heap[k]? = some (.cells cs 5 (0, 0)) := by
  rcases h.2 with ⟨rfl, _⟩ | ⟨g, cap, cur, rfl, hg, hh, _⟩
  · simp [Value.ownBlock] at e
  · simp [Value.ownBlock] at e; subst e; exact ⟨cur, hh⟩
theorem WN.lt {w : World} {base : Nat} {v : Value} {vs : List Value} {Ps : List (List Int)} (h : WN w base v vs Ps) {k : Nat} (hk : WB v vs k) : base ≤ k ∧ k < w.heap.size := by
  rcases hk with e | ⟨p, hp, e⟩
  · obtain ⟨a, b, _⟩ := h.k.heap k e; exact ⟨a, b⟩
  · exact (h.o p (by rw [← h.l]; exact hp)).1.block k e
theorem WN.of_heap {w w1 : World} {base : Nat} {v : Value} {vs : List Value} {Ps : List (List Int)} (h : WN w base v vs Ps) (hk : ∀ k, WB v vs k → w1.heap[k]? = w.heap[k]?) : WN w1 base v vs Ps :=
  ⟨h.k.of_heap fun k e => hk k (Or.inl e), h.l, fun p hp => ⟨(h.o p hp).1.of_heap fun k e => hk k (Or.inr ⟨p, by rw [h.l]; exact hp, e⟩), (h.o p hp).2⟩⟩
theorem WN.nil (w : World) (base : Nat) : WN w base (.slice none 0 0) [] [] := ⟨OwnK.nil w base, rfl, fun p hp => absurd hp (Nat.not_lt_zero p)⟩
theorem WN.push {w w' : World} {base : Nat} {v v' y : Value} {vs : List Value} {Ps : List (List Int)} {P : List Int} (h : WN w base v vs Ps) (hy : Own w base y P) (hP : P.length = 256) (hO : OwnK w' base v' (vs ++ [y])) (hk : ∀ k, k < w.heap.size → v.ownBlock ≠ some k → w'.heap[k]? = w.heap[k]?) : WN w' base v' (vs ++ [y]) (Ps ++ [P]) := by
  have away : ∀ {u : Value} {zs : List Int}, Own w base u zs → Own w' base u zs := fun {u zs} hu => hu.of_heap fun k e => by
    obtain ⟨cs, hc⟩ := own_ty5 hu e
    refine hk k (hu.block k e).2 fun e2 => ?_
    obtain ⟨_, _, cs2, hc2⟩ := h.k.heap k e2
    exact ne_tyK hc hc2 (by decide) rfl
  refine ⟨hO, by rw [List.length_append, List.length_append, h.l]; rfl, fun p hp => ?_⟩
  rw [List.length_append, List.length_singleton] at hp
  by_cases c : p < Ps.length
  · have := h.o p c
    rw [List.getD_eq_getElem?_getD, List.getD_eq_getElem?_getD, List.getElem?_append_left (by rw [h.l]; exact c), List.getElem?_append_left c, ← List.getD_eq_getElem?_getD, ← List.getD_eq_getElem?_getD]
    exact ⟨away this.1, this.2⟩
  · obtain rfl : p = Ps.length := by omega
    rw [List.getD_eq_getElem?_getD, List.getD_eq_getElem?_getD, List.getElem?_append_right (by rw [h.l]; exact Nat.le_refl _), List.getElem?_append_right (Nat.le_refl _), h.l, Nat.sub_self]
    exact ⟨away hy, hP⟩
theorem getD_set_same {α : Type} (l : List α) (p : Nat) (hp : p < l.length) (y d : α) : (l.set p y).getD p d = y := by
  rw [List.getD_eq_getElem?_getD, List.getElem?_set, if_pos rfl, if_pos hp]; rfl
theorem getD_set_other {α : Type} (l : List α) (p q : Nat) (hne : p ≠ q) (y d : α) : (l.set p y).getD q d = l.getD q d := by
  rw [List.getD_eq_getElem?_getD, List.getElem?_set, if_neg hne, ← List.getD_eq_getElem?_getD]
theorem WN.set {w : World} {base : Nat} {v y : Value} {vs : List Value} {Ps : List (List Int)} {P : List Int} (h : WN w base v vs Ps) (hy : Own w base y P) (hP : P.length = 256) (p : Nat) (hp : p < Ps.length) :
    ∃ g c, v = .slice (some ⟨g, 0, none⟩) Ps.length c ∧ Ps.length ≤ c ∧ c ≤ maxLen ∧ w.cell? ⟨g, p, none⟩ = some (vs.getD p undef) ∧ w.frozen? ⟨g, p, none⟩ = false ∧ v.ownBlock = some g ∧ WN (w.setCell ⟨g, p, none⟩ y) base v (vs.set p y) (Ps.set p P) := by
  obtain ⟨g, c, e, hg, hc, hm, hcl, hfz, hO⟩ := h.k.set p (by rw [h.l]; exact hp) y
  have eb : v.ownBlock = some g := by rw [e]; rfl
  have away : ∀ {u : Value} {zs : List Int}, Own w base u zs → Own (w.setCell ⟨g, p, none⟩ y) base u zs := fun {u zs} hu => hu.of_heap fun k e => by
    obtain ⟨cs, hc⟩ := own_ty5 hu e
    obtain ⟨_, _, cs2, hc2⟩ := h.k.heap g eb
    exact heap_setCell_other _ _ _ _ (ne_tyK hc hc2 (by decide))
  refine ⟨g, c, by rw [e, h.l], by rw [← h.l]; exact hc, hm, hcl, hfz, eb, hO, by rw [List.length_set, List.length_set, h.l], fun q hq => ?_⟩
  rw [List.length_set] at hq
  by_cases c0 : p = q
  · subst c0
    rw [getD_set_same _ _ (by rw [h.l]; exact hp), getD_set_same _ _ hp]
    exact ⟨away hy, hP⟩
  · rw [getD_set_other _ _ _ c0, getD_set_other _ _ _ c0]
    exact ⟨away (h.o q hq).1, (h.o q hq).2⟩
theorem WB.set {v y : Value} {vs : List Value} {p k : Nat} (hk : WB v (vs.set p y) k) : WB v vs k ∨ y.ownBlock = some k := by
  rcases hk with e | ⟨q, hq, e⟩
  · exact Or.inl (Or.inl e)
  · rw [List.length_set] at hq
    by_cases c0 : p = q
    · subst c0
      rw [getD_set_same _ _ hq] at e
      exact Or.inr e
    · rw [getD_set_other _ _ _ c0] at e
      exact Or.inl (Or.inr ⟨q, hq, e⟩)
theorem Sx.to {w w1 : World} {base : Nat} {S : Sto} {n : Nat} {o : Sup} {L : List (Int × List Int)} {b : Nat} {a : Int} (h : Sx w base S n o L b a) (hk : SK w1 base S) : Sx w1 base S n o L b a := ⟨hk, h.hs, h.nx, h.lv, h.ar, h.N, h.rd, h.wr, h.sy, h.ge, h.ep⟩
theorem SK.fp_lt {w : World} {base : Nat} {S : Sto} (h : SK w base S) {k : Nat} (hk : k ∈ S.fp) : k < w.heap.size := (h.in_lt (by rcases (Sto.mem S k).1 hk with e | e | e | e | e | e <;> simp [e])).2
theorem SK.far {w w1 : World} {base : Nat} {S : Sto} (h : SK w base S) (hk : ∀ k ∈ S.fp, w1.heap[k]? = w.heap[k]?) (hs : w.heap.size ≤ w1.heap.size) : SK w1 base S := h.of_heap (fun k q => hk k ((Sto.mem S k).2 (by rcases q with e | e | e | e | e | e <;> simp [e]))) hs
/-- The law's memory: a store, a list of pages, a superblock. -/
structure LM (w0 w : World) (base B2 : Nat) (S : Sto) (n : Nat) (o : Sup) (L : List (Int × List Int)) (b : Nat) (v : Value) (vs : List Value) (Ps : List (List Int)) (sb : Nat) (sc : Sup) : Prop where
  sx : Sx w base S n o L b 0
  wn : WN w B2 v vs Ps
  bk : w.heap[sb]? = some (.cells (supC sc) 31 (0, 0))
  ap : ∀ k, (k = sb ∨ WB v vs k) → k ∉ S.fp
  bb : base ≤ B2 ∧ B2 ≤ sb
  bl : Below base w0 w
theorem LM.below {w0 w w1 : World} {base B2 : Nat} {S : Sto} {n : Nat} {o : Sup} {L : List (Int × List Int)} {b : Nat} {v : Value} {vs : List Value} {Ps : List (List Int)} {sb : Nat} {sc : Sup} (h : LM w0 w base B2 S n o L b v vs Ps sb sc) (hb : Below w.heap.size w w1) : LM w0 w1 base B2 S n o L b v vs Ps sb sc :=
  ⟨h.sx.below hb, h.wn.of_heap fun k hk => hb.block k (h.wn.lt hk).2, (hb.block sb (hlt h.bk)).trans h.bk, h.ap, h.bb, h.bl.trans (hb.mono h.sx.sk.base)⟩
theorem LM.stage {w0 w w1 : World} {base B2 : Nat} {S S1 : Sto} {n : Nat} {o o1 : Sup} {L L1 : List (Int × List Int)} {b b1 : Nat} {v : Value} {vs : List Value} {Ps : List (List Int)} {sb : Nat} {sc : Sup} (h : LM w0 w base B2 S n o L b v vs Ps sb sc) (hx : Sx w1 base S1 n o1 L1 b1 0) (hf : Fr S.fp w w1) (hg : Gr w S.fp S1.fp) (hb : Below base w w1) : LM w0 w1 base B2 S1 n o1 L1 b1 v vs Ps sb sc := by
  refine ⟨hx, h.wn.of_heap fun k hk => hf.block k (h.wn.lt hk).2 (h.ap k (Or.inr hk)), (hf.block sb (hlt h.bk) (h.ap sb (Or.inl rfl))).trans h.bk, fun k hk q => ?_, h.bb, h.bl.trans hb⟩
  rcases hg k q with z | z
  · exact h.ap k hk z
  · rcases hk with rfl | hk
    · have := hlt h.bk; omega
    · have := (h.wn.lt hk).2; omega
/-- A page is put into the list. -/
theorem LM.put {w0 w : World} {base B2 : Nat} {S : Sto} {n : Nat} {o : Sup} {L : List (Int × List Int)} {b : Nat} {v y : Value} {vs : List Value} {Ps : List (List Int)} {sb : Nat} {sc : Sup} {P : List Int} (h : LM w0 w base B2 S n o L b v vs Ps sb sc) (hy : Own w B2 y P) (hn : ∀ k, y.ownBlock = some k → k ∉ S.fp) (hP : P.length = 256) (p : Nat) (hp : p < Ps.length) :
    ∃ g c, v = .slice (some ⟨g, 0, none⟩) Ps.length c ∧ Ps.length ≤ c ∧ c ≤ maxLen ∧ w.cell? ⟨g, p, none⟩ = some (vs.getD p undef) ∧ w.frozen? ⟨g, p, none⟩ = false ∧ LM w0 (w.setCell ⟨g, p, none⟩ y) base B2 S n o L b v (vs.set p y) (Ps.set p P) sb sc := by
  obtain ⟨g, c, e, h1, h2, h3, h4, eb, hw⟩ := h.wn.set hy hP p hp
  have gB := h.wn.lt (Or.inl eb)
  have gty : ∃ cs, w.heap[g]? = some (.cells cs 29 (0, 0)) := (h.wn.k.heap g eb).2.2
  refine ⟨g, c, e, h1, h2, h3, h4, h.sx.to (h.sx.sk.far (fun k hk => heap_setCell_other _ _ _ _ fun q => h.ap k (Or.inr (Or.inl (by rw [eb]; exact congrArg some q.symm))) hk) (by rw [World.size_setCell]; exact Nat.le_refl _)), hw, ?_, fun k hk => ?_, h.bb, ?_⟩
  · obtain ⟨cs, hc⟩ := gty
    exact (heap_setCell_other _ _ _ _ (ne_tyK h.bk hc (by decide))).trans h.bk
  · rcases hk with hk | hk
    · exact h.ap k (Or.inl hk)
    · rcases hk.set with q | q
      · exact h.ap k (Or.inr q)
      · exact hn k q
  · exact h.bl.trans ⟨rfl, rfl, rfl, by rw [World.size_setCell]; exact Nat.le_refl _, fun k hk => heap_setCell_other _ _ _ _ (by have := h.bb.1; have := gB.1; show k ≠ g; omega)⟩
/-- The superblock's cells are changed. -/
theorem LM.sup {w0 w : World} {base B2 : Nat} {S : Sto} {n : Nat} {o : Sup} {L : List (Int × List Int)} {b : Nat} {v : Value} {vs : List Value} {Ps : List (List Int)} {sb : Nat} {sc s1 : Sup} (h : LM w0 w base B2 S n o L b v vs Ps sb sc) (i : Nat) (x : Value) (hi : (supC sc).setIfInBounds i x = supC s1) : LM w0 (w.setCell ⟨sb, i, none⟩ x) base B2 S n o L b v vs Ps sb s1 := by
  have far : ∀ k, k ≠ sb → (w.setCell ⟨sb, i, none⟩ x).heap[k]? = w.heap[k]? := fun k e => heap_setCell_other _ _ _ _ e
  have hsz : w.heap.size ≤ (w.setCell ⟨sb, i, none⟩ x).heap.size := by rw [World.size_setCell]; exact Nat.le_refl _
  refine ⟨h.sx.to (h.sx.sk.far (fun k hk => far k fun q => h.ap k (Or.inl q) hk) hsz), h.wn.of_heap fun k hk => far k ?_, ?_, h.ap, h.bb, h.bl.trans ⟨rfl, rfl, rfl, hsz, fun k hk => far k (by have := h.bb; omega)⟩⟩
  · rintro rfl
    rcases hk with e | ⟨p, hp, e⟩
    · obtain ⟨_, _, cs, hc⟩ := h.wn.k.heap _ e
      exact ne_tyK h.bk hc (by decide) rfl
    · obtain ⟨cs, hc⟩ := own_ty5 (h.wn.o p (by rw [← h.wn.l]; exact hp)).1 e
      exact ne_tyK h.bk hc (by decide) rfl
  · refine (heap_setCell_same _ _ _ _ _ _ h.bk).trans ?_
    rw [hi]
theorem LM.put' {w0 w : World} {base B2 : Nat} {S : Sto} {n : Nat} {o : Sup} {L : List (Int × List Int)} {b g c N : Nat} {y : Value} {vs : List Value} {Ps : List (List Int)} {sb : Nat} {sc : Sup} {P : List Int} (h : LM w0 w base B2 S n o L b (.slice (some ⟨g, 0, none⟩) N c) vs Ps sb sc) (hy : Own w B2 y P) (hn : ∀ k, y.ownBlock = some k → k ∉ S.fp) (hP : P.length = 256) (p : Nat) (hp : p < Ps.length) :
    w.cell? ⟨g, p, none⟩ = some (vs.getD p undef) ∧ w.frozen? ⟨g, p, none⟩ = false ∧ LM w0 (w.setCell ⟨g, p, none⟩ y) base B2 S n o L b (.slice (some ⟨g, 0, none⟩) N c) (vs.set p y) (Ps.set p P) sb sc := by
  obtain ⟨g', c', e, -, -, h3, h4, h5⟩ := h.put hy hn hP p hp
  injection e with e1 e2 e3
  injection e1 with e1
  injection e1 with e1
  subst e1
  exact ⟨h3, h4, h5⟩
theorem LM.own {w0 w : World} {base B2 : Nat} {S : Sto} {n : Nat} {o : Sup} {L : List (Int × List Int)} {b : Nat} {v : Value} {vs : List Value} {Ps : List (List Int)} {sb : Nat} {sc : Sup} (h : LM w0 w base B2 S n o L b v vs Ps sb sc) {w1 : World} {y : Value} {P : List Int} (hy : Own w1 w.heap.size y P) : Own w1 B2 y P ∧ ∀ k, y.ownBlock = some k → k ∉ S.fp := by
  have hB : B2 ≤ w.heap.size := by have := h.bb.2; have := hlt h.bk; omega
  refine ⟨⟨hy.1, ?_⟩, fun k e q => ?_⟩
  · rcases hy.2 with q | ⟨g, c, cur, e, hg, r⟩
    · exact Or.inl q
    · exact Or.inr ⟨g, c, cur, e, Nat.le_trans hB hg, r⟩
  · have := (hy.block k e).1
    have := h.sx.sk.fp_lt q
    omega
end Go.Proofs.YtaefjlbonflmdaaDoor
