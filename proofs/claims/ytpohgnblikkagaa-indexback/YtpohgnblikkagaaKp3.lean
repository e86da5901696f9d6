import Derived.Test.YtpohgnblikkagaaKp2
import Derived.ArgAppend
namespace Go.Proofs.Ytpohgnblikkagaa
set_option linter.unusedVariables false
set_option linter.unusedSimpArgs false
open Go.RowKit
attribute [local go_sem ↓] Go.wp_at_zero Go.wp_at_succ

def OwnK (w : World) (base : Nat) (v : Value) (vs : List Value) : Prop := w.ownsRow base 26 1 v vs.length vs
theorem OwnK.nil (w : World) (base : Nat) : OwnK w base (.slice none 0 0) [] := ⟨rfl, Or.inl ⟨rfl, rfl⟩⟩
theorem OwnK.heap {w : World} {base : Nat} {v : Value} {vs : List Value} (h : OwnK w base v vs) : ∀ k, v.ownBlock = some k → base ≤ k ∧ k < w.heap.size ∧ ∃ cs, w.heap[k]? = some (.cells cs 26 (0, 0)) := by
  intro k hk
  rcases h.2 with ⟨rfl, _⟩ | ⟨g, cap, cur, rfl, hg, hh, _⟩
  · simp [Value.ownBlock] at hk
  · simp [Value.ownBlock] at hk; subst hk; exact ⟨hg, hlt hh, cur, hh⟩
theorem OwnK.of_heap {w w1 : World} {base : Nat} {v : Value} {vs : List Value} (h : OwnK w base v vs) (hk : ∀ k, v.ownBlock = some k → w1.heap[k]? = w.heap[k]?) : OwnK w1 base v vs := by
  refine ⟨h.1, ?_⟩
  rcases h.2 with h2 | ⟨g, cap, cur, rfl, hg, hh, r⟩
  · exact Or.inl h2
  · exact Or.inr ⟨g, cap, cur, rfl, hg, (hk g rfl).trans hh, r⟩
/-- Where the elements lie. -/
theorem OwnK.at {w : World} {base : Nat} {v : Value} {vs : List Value} (h : OwnK w base v vs) : ∃ sp cap b, v = .slice sp vs.length cap ∧ vs.length ≤ cap ∧ cap ≤ maxLen ∧ (0 < vs.length → sp = some ⟨b, 0, none⟩) ∧ ∀ j, j < vs.length → w.cell? ⟨b, j, none⟩ = some (vs.getD j undef) := by
  obtain ⟨h1, ⟨rfl, hn⟩ | ⟨g, cap, cur, rfl, hg, hh, hc, hm, hs, ht⟩⟩ := h
  · exact ⟨none, 0, 0, by rw [hn], by omega, by simp [maxLen], fun h => by omega, fun j hj => by omega⟩
  · refine ⟨some ⟨g, 0, none⟩, cap, g, rfl, hc, hm, fun _ => rfl, fun j hj => ?_⟩
    rw [cell_of_row _ _ _ _ _ _ hh]
    have e : vs[j]? = cur.toList[j]? := by
      rw [← ht, List.getElem?_take, if_pos (by omega)]
    rw [List.getD_eq_getElem?_getD, e]
    have hj2 : j < cur.toList.length := by simp; omega
    rw [List.getElem?_eq_getElem hj2]
    simp
theorem ne_tyK {w : World} {a b : Nat} {x y : Array Value} {t u : TypeId} {f f' : Nat × Nat} (ha : w.heap[a]? = some (.cells x t f)) (hb : w.heap[b]? = some (.cells y u f')) (h : t ≠ u) : a ≠ b := by
  rintro rfl
  rw [ha] at hb
  cases hb
  exact h rfl
def DjB (v1 v2 : Value) : Prop := ∀ k, v1.ownBlock = some k → v2.ownBlock = some k → False
theorem DjB.symm {u v : Value} (h : DjB u v) : DjB v u := fun k h1 h2 => h k h2 h1
theorem DjB.nil (v : Value) : DjB (.slice none 0 0) v := fun k h => by simp [Value.ownBlock] at h
theorem DjK.push {w : World} {base : Nat} {u v v' : Value} {us : List Value} (h : OwnK w base u us) (hd : DjB v u) (hv : v'.ownBlock = v.ownBlock ∨ ∃ k, v'.ownBlock = some k ∧ w.heap.size ≤ k) : DjB v' u := fun k h1 h2 => by
  rcases hv with e | ⟨k', e, hk'⟩
  · exact hd k (e ▸ h1) h2
  · rw [e] at h1; cases h1; have := (h.heap _ h2).2.1; omega
theorem Try.infoKm : (Try.prog.info? 26).map (fun i => (i.zero, i.size, i.bytes)) = some (some (.slice none 0 0), 1, 24) := by kernel_rfl
theorem Try.infoK : ∃ i, Try.prog.info? 26 = some i ∧ i.zero = some (.slice none 0 0) ∧ i.size = 1 ∧ i.bytes = 24 := by
  have h := Try.infoKm
  cases hq : Try.prog.info? 26 with
  | none => rw [hq] at h; cases h
  | some i =>
    rw [hq] at h
    simp only [Option.map_some, Option.some.injEq, Prod.mk.injEq] at h
    exact ⟨i, rfl, h.1, h.2.1, h.2.2⟩
/-- append(own list of slices, x..), the new ones in a block of their own. -/
theorem wpList_pushKp {w : World} {ops : Array Oper} {rest : List Oper} {o : Oper} {a : Act} {Q : Exit → Act → World → Prop} (hgd : o.guard = none) (s x : Operand)
    (ho : o.op = .call { callee := .builtin .append, args := #[s, x], argTypes := #[34, 34] })
    (base : Nat) (v : Value) (vs ys : List Value) (hs : a.eval s = v) (hown : OwnK w base v vs) (hx : a.eval x = .slice (some ⟨w.heap.size, 0, none⟩) ys.length ys.length) (h1 : ∀ y ∈ ys, y.oneCell' = true)
    (hlen : vs.length + ys.length ≤ 1000000000000) (hbase : base ≤ w.heap.size) (t : TypeId) (fr : Nat × Nat)
    (h : ∀ v' w', OwnK w' base v' (vs ++ ys) → Below base w w' → (∀ k, k < w.heap.size → v.ownBlock ≠ some k → w'.heap[k]? = w.heap[k]?) → (v'.ownBlock = v.ownBlock ∨ ∃ k, v'.ownBlock = some k ∧ w.heap.size ≤ k) → wpList Try.prog ops Q rest (a.put o.dst v') w') :
    wpList Try.prog ops Q (o :: rest) a (w.alloc (.cells ys.toArray t fr)) := by
  obtain ⟨i5, hi5, hz5, hs5, hy5⟩ := Try.infoK
  have hown' : OwnK (w.alloc (.cells ys.toArray t fr)) base v vs := hown.of_heap fun k hk => by
    show (w.heap.push _)[k]? = _
    rw [Array.getElem?_push, if_neg (by have := (hown.heap k hk).2.1; omega)]
  refine wpList_append_own_at _ hgd s x 34 ho base 26 i5 (.slice none 0 0) 1 24 Try.underlying34 hi5 hz5 hs5 hy5 rfl Nat.one_pos v vs.length vs hs hown' ⟨w.heap.size, 0, none⟩ ys.length ys.length ys hx (by omega) ?_ h1 (by unfold maxLen; omega) (by omega) (by simp; omega) ?_
  · intro j u hu
    rw [Addr.add_mid, Nat.zero_add, cell_of_row _ _ _ _ _ _ (hnew w _)]
    simpa using hu
  · intro v' w' q1 q2 _ q4
    have hB1 : Below base w (w.alloc (.cells ys.toArray t fr)) := (Below.refl _ _).alloc hbase _
    refine h v' w' (by unfold OwnK; rw [List.length_append]; exact q1) (hB1.trans (grown_keeps q2 (fun k hk => (hown.heap k hk).1) (by simp; omega))) (fun k hk hne => ?_) ?_
    · rw [q2.block k (by simp; omega) (fun e => hne e.symm)]
      show (w.heap.push _)[k]? = _
      rw [Array.getElem?_push, if_neg (by omega)]
    · rcases q4 with e | e
      · exact Or.inl e
      · exact Or.inr ⟨_, e, by simp⟩
theorem step_pushKp {w : World} {ops : Array Oper} {o : Oper} {a : Act} {K : Act → World → Prop} {Q : Exit → Act → World → Prop} {E : Prop} (hgd : o.guard = none) (s x : Operand)
    (ho : o.op = .call { callee := .builtin .append, args := #[s, x], argTypes := #[34, 34] })
    (base : Nat) (v : Value) (vs : List Value) (y : Value) (hs : a.eval s = v) (hown : OwnK w base v vs) (b : Nat) (hbl : w.cell? ⟨b, 0, none⟩ = some y) (hx : a.eval x = .slice (some ⟨b, 0, none⟩) 1 1) (h1 : y.oneCell' = true)
    (hlen : vs.length + 1 ≤ 1000000000000) (hbase : base ≤ w.heap.size)
    (h : ∀ v' w', OwnK w' base v' (vs ++ [y]) → Below base w w' → (∀ k, k < w.heap.size → v.ownBlock ≠ some k → w'.heap[k]? = w.heap[k]?) → (v'.ownBlock = v.ownBlock ∨ ∃ k, v'.ownBlock = some k ∧ w.heap.size ≤ k) → K (a.put o.dst v') w') :
    if Region.wanted o (yielded ops a.tmps) = true then Oper.wp Try.prog o a w K Q else E := by
  have hw : Region.wanted o (yielded ops a.tmps) = true := by simp [Region.wanted, hgd]
  rw [if_pos hw]
  obtain ⟨i5, hi5, hz5, hs5, hy5⟩ := Try.infoK
  obtain ⟨v', w', hr, q1, q2, _, q4⟩ := run_append_own_at (P := Try.prog) w base 34 o.type 26 i5 (.slice none 0 0) 1 24 Try.underlying34 hi5 hz5 hs5 hy5 rfl Nat.one_pos v vs.length vs hown ⟨b, 0, none⟩ 1 1 [y] (by simp) (by
    intro j u hu
    have hj : j = 0 := by have := (List.getElem?_eq_some_iff.1 hu).1; simpa using this
    subst hj
    rw [Addr.add_mid, hbl]; simpa using hu) (by simpa using h1) (by unfold maxLen; omega) (by omega) hbase
  unfold Oper.wp execOp
  simp only [ho, resolve, invoke, builtin, Sem.run_bind, Sem.run_pure, Result.andThen_ok, List.map_toArray, List.map_cons, List.map_nil, hs, hx, hr]
  refine h v' w' (by unfold OwnK; rw [List.length_append]; exact q1) (grown_keeps q2 (fun k hk => (hown.heap k hk).1) hbase) (fun k hk hne => q2.block k hk (fun e => hne e.symm)) ?_
  rcases q4 with e | e
  · exact Or.inl e
  · exact Or.inr ⟨_, e, Nat.le_refl _⟩
/-- The keeper's own memory: its two lists. -/
structure PK (w : World) (base B : Nat) (v1 v2 : Value) (L1 L2 : List Value) : Prop where
  hb : base ≤ B
  bk : w.heap[B]? = some (.cells #[v1, v2] 36 (0, 0))
  o1 : OwnK w base v1 L1
  o2 : OwnK w base v2 L2
  dj : DjB v1 v2
/-- What a call of keep leaves: all but lists of lists and keepers. -/
def TF (w w' : World) : Prop := ∀ (k : Nat) (o : Obj), w.heap[k]? = some o → (∀ cs fr, o ≠ .cells cs 26 fr) → (∀ cs fr, o ≠ .cells cs 36 fr) → w'.heap[k]? = some o
theorem TF.refl (w : World) : TF w w := fun _ _ h _ _ => h
theorem TF.trans {a b c : World} (h : TF a b) (k : TF b c) : TF a c := fun i o ho h1 h2 => k i o (h i o ho h1 h2) h1 h2
theorem TF.below {a b : World} (h : Below a.heap.size a b) : TF a b := fun k o ho _ _ => hbel h ho (hlt ho)
theorem TF.bytes {a b : World} (h : TF a b) {k : Nat} {cs : Array Value} {fr : Nat × Nat} (hk : a.heap[k]? = some (.cells cs 5 fr)) : b.heap[k]? = some (.cells cs 5 fr) :=
  h k _ hk (fun _ _ e => by cases e) (fun _ _ e => by cases e)
theorem ownK_ne {w : World} {base B : Nat} {v : Value} {vs : List Value} {x : Array Value} (h : OwnK w base v vs) (hb : w.heap[B]? = some (.cells x 36 (0, 0))) : v.ownBlock ≠ some B := fun e => by
  obtain ⟨_, _, cs, hc⟩ := h.heap _ e
  exact ne_tyK hc hb (by decide) rfl
theorem PK.below {w w1 : World} {base B : Nat} {v1 v2 : Value} {L1 L2 : List Value} (h : PK w base B v1 v2 L1 L2) (hb : Below w.heap.size w w1) : PK w1 base B v1 v2 L1 L2 :=
  ⟨h.hb, hbel hb h.bk (hlt h.bk), h.o1.of_heap fun k e => hb.block k (h.o1.heap k e).2.1, h.o2.of_heap fun k e => hb.block k (h.o2.heap k e).2.1, h.dj⟩
theorem PK.c1 {w : World} {base B : Nat} {v1 v2 : Value} {L1 L2 : List Value} (h : PK w base B v1 v2 L1 L2) : w.cell? ⟨B, 0, none⟩ = some v1 := by rw [cell_of_row _ _ _ _ _ _ h.bk]; rfl
theorem PK.c2 {w : World} {base B : Nat} {v1 v2 : Value} {L1 L2 : List Value} (h : PK w base B v1 v2 L1 L2) : w.cell? ⟨B, 1, none⟩ = some v2 := by rw [cell_of_row _ _ _ _ _ _ h.bk]; rfl
theorem below_set {base : Nat} {w w1 : World} (h : Below base w w1) {a : Addr} (ha : base ≤ a.block) (v : Value) : Below base w (w1.setCell a v) :=
  ⟨h.os, h.tape, h.output, by rw [World.size_setCell]; exact h.size, fun k hk => by rw [heap_setCell_other w1 a k v (by omega)]; exact h.block k hk⟩
theorem tf_set {w w1 : World} {base B o : Nat} {v : Value} {vs : List Value} {x : Array Value} (hv : OwnK w base v vs) (hb : w.heap[B]? = some (.cells x 36 (0, 0)))
    (q3 : ∀ k, k < w.heap.size → v.ownBlock ≠ some k → w1.heap[k]? = w.heap[k]?) (y : Value) : TF w (w1.setCell ⟨B, o, none⟩ y) := fun k ob hk h1 h2 => by
  have hB : k ≠ B := by rintro rfl; rw [hb] at hk; cases hk; exact h2 _ _ rfl
  rw [heap_setCell_other w1 _ k _ hB, q3 k (hlt hk) (fun e => by
    obtain ⟨_, _, cs, hc⟩ := hv.heap _ e
    rw [hc] at hk; cases hk; exact h1 _ _ rfl)]
  exact hk
/-- What one push leaves: all but the keeper and the list's own block. -/
structure BU (base B : Nat) (v v' : Value) (w w' : World) : Prop where
  bel : Below base w w'
  nv : v'.ownBlock = v.ownBlock ∨ ∃ k, v'.ownBlock = some k ∧ w.heap.size ≤ k
  fr : ∀ k, k < w.heap.size → k ≠ B → v.ownBlock ≠ some k → w'.heap[k]? = w.heap[k]?
theorem BU.drew {base B : Nat} {v v' : Value} {w w' : World} (h : BU base B v v' w w') : BU base B v v' w w'.drew := ⟨h.bel.drew, h.nv, h.fr⟩
/-- What keep leaves: all but the keeper and its two lists of lists. -/
def UF (B : Nat) (v1 v2 : Value) (w w' : World) : Prop := ∀ k, k < w.heap.size → k ≠ B → v1.ownBlock ≠ some k → v2.ownBlock ≠ some k → w'.heap[k]? = w.heap[k]?
/-- Where the keeper's new lists of lists and copy lie. -/
def NB (w : World) (v1 v2 v1' v2' y : Value) : Prop := ∀ k, v1'.ownBlock = some k ∨ v2'.ownBlock = some k ∨ y.ownBlock = some k → v1.ownBlock = some k ∨ v2.ownBlock = some k ∨ w.heap.size ≤ k
theorem PK.push1 {w w1 : World} {base B : Nat} {v1 v2 v' x : Value} {L1 L2 : List Value} (h : PK w base B v1 v2 L1 L2) (q1 : OwnK w1 base v' (L1 ++ [x])) (q2 : Below base w w1)
    (q3 : ∀ k, k < w.heap.size → v1.ownBlock ≠ some k → w1.heap[k]? = w.heap[k]?) (q4 : v'.ownBlock = v1.ownBlock ∨ ∃ k, v'.ownBlock = some k ∧ w.heap.size ≤ k) :
    w1.heap[B]? = some (.cells #[v1, v2] 36 (0, 0)) ∧ PK (w1.setCell ⟨B, 0, none⟩ v') base B v' v2 (L1 ++ [x]) L2 ∧ TF w (w1.setCell ⟨B, 0, none⟩ v') ∧ BU base B v1 v' w (w1.setCell ⟨B, 0, none⟩ v') := by
  have e1 : w1.heap[B]? = some (.cells #[v1, v2] 36 (0, 0)) := (q3 B (hlt h.bk) (ownK_ne h.o1 h.bk)).trans h.bk
  refine ⟨e1, ⟨h.hb, ?_, ?_, ?_, ?_⟩, tf_set h.o1 h.bk q3 _, ⟨below_set q2 h.hb _, q4, fun k hk hB hv => (heap_setCell_other w1 _ k _ hB).trans (q3 k hk hv)⟩⟩
  · rw [heap_setCell_same _ _ _ _ _ _ e1]; rfl
  · exact q1.of_heap fun k e => heap_setCell_other w1 _ k _ (show k ≠ B from fun hh => ownK_ne q1 e1 (hh ▸ e))
  · exact h.o2.of_heap fun k e => by
      rw [heap_setCell_other w1 _ k _ (show k ≠ B from fun hh => ownK_ne h.o2 h.bk (hh ▸ e))]
      exact q3 k (h.o2.heap k e).2.1 (fun e1 => h.dj k e1 e)
  · exact DjK.push h.o2 h.dj q4
theorem PK.push2 {w w1 : World} {base B : Nat} {v1 v2 v' x : Value} {L1 L2 : List Value} (h : PK w base B v1 v2 L1 L2) (q1 : OwnK w1 base v' (L2 ++ [x])) (q2 : Below base w w1)
    (q3 : ∀ k, k < w.heap.size → v2.ownBlock ≠ some k → w1.heap[k]? = w.heap[k]?) (q4 : v'.ownBlock = v2.ownBlock ∨ ∃ k, v'.ownBlock = some k ∧ w.heap.size ≤ k) :
    w1.heap[B]? = some (.cells #[v1, v2] 36 (0, 0)) ∧ PK (w1.setCell ⟨B, 1, none⟩ v') base B v1 v' L1 (L2 ++ [x]) ∧ TF w (w1.setCell ⟨B, 1, none⟩ v') ∧ BU base B v2 v' w (w1.setCell ⟨B, 1, none⟩ v') := by
  have e1 : w1.heap[B]? = some (.cells #[v1, v2] 36 (0, 0)) := (q3 B (hlt h.bk) (ownK_ne h.o2 h.bk)).trans h.bk
  refine ⟨e1, ⟨h.hb, ?_, ?_, ?_, ?_⟩, tf_set h.o2 h.bk q3 _, ⟨below_set q2 h.hb _, q4, fun k hk hB hv => (heap_setCell_other w1 _ k _ hB).trans (q3 k hk hv)⟩⟩
  · rw [heap_setCell_same _ _ _ _ _ _ e1]; rfl
  · exact h.o1.of_heap fun k e => by
      rw [heap_setCell_other w1 _ k _ (show k ≠ B from fun hh => ownK_ne h.o1 h.bk (hh ▸ e))]
      exact q3 k (h.o1.heap k e).2.1 (fun e2 => h.dj k e e2)
  · exact q1.of_heap fun k e => heap_setCell_other w1 _ k _ (show k ≠ B from fun hh => ownK_ne q1 e1 (hh ▸ e))
  · exact (DjK.push h.o1 h.dj.symm q4).symm
theorem own_oneK {w : World} {base : Nat} {v : Value} {zs : List Int} (h : Own w base v zs) : v.oneCell' = true := by
  rcases h.2 with ⟨rfl, _⟩ | ⟨g, cap, cur, rfl, _⟩ <;> rfl
theorem own_tf {w w1 : World} {base : Nat} {v : Value} {zs : List Int} (h : Own w base v zs) (ht : TF w w1) : Own w1 base v zs := h.of_heap fun k e => by
  rcases h.2 with ⟨rfl, _⟩ | ⟨g, cap, cur, rfl, hg, hh, _⟩
  · simp [Value.ownBlock] at e
  · simp [Value.ownBlock] at e; subst e; rw [hh]; exact ht.bytes hh
/-- The keeper: its lists hold what they held when they came, and none has memory in common with another. -/
structure KP (w : World) (base B : Nat) (v1 v2 : Value) (L1 L2 : List Value) (zs : List (List Int)) : Prop where
  pk : PK w base B v1 v2 L1 L2
  l1 : L1.length = zs.length
  l2 : L2.length = zs.length
  e1 : ∀ i, i < zs.length → Own w base (L1.getD i undef) (zs.getD i [])
  e2 : ∀ i, i < zs.length → Own w base (L2.getD i undef) (zs.getD i [])
  ap : ∀ i j, i < j → j < zs.length → DjB (L1.getD i undef) (L1.getD j undef)
theorem getD_snocK (L : List Value) (x : Value) (i : Nat) : (L ++ [x]).getD i undef = if i = L.length then x else L.getD i undef := by
  by_cases h : i < L.length
  · rw [if_neg (by omega)]; simp [List.getD_eq_getElem?_getD, List.getElem?_append_left h]
  · by_cases e : i = L.length
    · subst e; simp [List.getD_eq_getElem?_getD]
    · rw [if_neg e]; simp only [List.getD_eq_getElem?_getD]; rw [List.getElem?_eq_none (by simp; omega), List.getElem?_eq_none (by omega)]
theorem getD_snocZ (L : List (List Int)) (x : List Int) (i : Nat) : (L ++ [x]).getD i [] = if i = L.length then x else L.getD i [] := by
  by_cases h : i < L.length
  · rw [if_neg (by omega)]; simp [List.getD_eq_getElem?_getD, List.getElem?_append_left h]
  · by_cases e : i = L.length
    · subst e; simp [List.getD_eq_getElem?_getD]
    · rw [if_neg e]; simp only [List.getD_eq_getElem?_getD]; rw [List.getElem?_eq_none (by simp; omega), List.getElem?_eq_none (by omega)]
theorem KP.below {w w1 : World} {base B : Nat} {v1 v2 : Value} {L1 L2 : List Value} {zs : List (List Int)} (h : KP w base B v1 v2 L1 L2 zs) (hb : Below w.heap.size w w1) : KP w1 base B v1 v2 L1 L2 zs :=
  ⟨h.pk.below hb, h.l1, h.l2, fun i hi => (h.e1 i hi).below hb (Nat.le_refl _), fun i hi => (h.e2 i hi).below hb (Nat.le_refl _), h.ap⟩
/-- One more list. -/
theorem KP.snoc {w w1 : World} {base B : Nat} {v1 v2 v1' v2' x y : Value} {L1 L2 : List Value} {zs : List (List Int)} {ys : List Int} (h : KP w base B v1 v2 L1 L2 zs) (hp : PK w1 base B v1' v2' (L1 ++ [x]) (L2 ++ [y])) (ht : TF w w1)
    (hx : Own w1 base x ys) (hy : Own w1 base y ys) (hd : ∀ i, i < zs.length → DjB (L1.getD i undef) x) : KP w1 base B v1' v2' (L1 ++ [x]) (L2 ++ [y]) (zs ++ [ys]) := by
  refine ⟨hp, by simp [h.l1], by simp [h.l2], fun i hi => ?_, fun i hi => ?_, fun i j hij hj => ?_⟩
  · rw [getD_snocK, getD_snocZ, h.l1]
    by_cases e : i = zs.length
    · rw [if_pos e, if_pos e]; exact hx
    · rw [if_neg e, if_neg e]; exact own_tf (h.e1 i (by simp at hi; omega)) ht
  · rw [getD_snocK, getD_snocZ, h.l2]
    by_cases e : i = zs.length
    · rw [if_pos e, if_pos e]; exact hy
    · rw [if_neg e, if_neg e]; exact own_tf (h.e2 i (by simp at hi; omega)) ht
  · simp at hj
    rw [getD_snocK, getD_snocK, h.l1, if_neg (by omega)]
    by_cases e : j = zs.length
    · rw [if_pos e]; exact hd i (by omega)
    · rw [if_neg e]; exact h.ap i j hij (by omega)
end Go.Proofs.Ytpohgnblikkagaa
