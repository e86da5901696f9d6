import Derived.Test.YtihkjfbhmlfonaaKt
import Derived.ArgAppend
import Derived.Test.YtihkjfbhmlfonaaNq
import Derived.Test.YtihkjfbhmlfonaaMd6
namespace Go.Proofs.Ytihkjfbhmlfonaa.Bo
set_option linter.unusedVariables false
set_option linter.unusedSimpArgs false
open Go.RowKit
attribute [local go_sem ↓] Go.wp_at_zero Go.wp_at_succ

/-! Lists that are full of one mark, which may share a block. -/
theorem own_rep {w : World} {base g n cap : Nat} {m : Int} {cur : Array Value} (hh : w.heap[g]? = some (.cells cur 5 (0, 0))) (hg : base ≤ g) (hn : n ≤ cap) (hm : cap ≤ maxLen) (hs : cur.size = cap) (hc : ∀ j, j < n → cur[j]? = some (.int .u8 m)) :
    Own w base (.slice (some ⟨g, 0, none⟩) n cap) (List.replicate n m) := by
  refine ⟨by rw [ints_len, List.length_replicate, Nat.mul_one], Or.inr ⟨g, cap, cur, by rw [List.length_replicate], hg, hh, by rw [List.length_replicate]; exact hn, hm, by omega, ?_⟩⟩
  apply List.ext_getElem?
  intro j
  rw [List.length_replicate, Nat.mul_one, List.getElem?_take]
  by_cases hj : j < n
  · rw [if_pos hj, ints_get .u8 _ j (by rw [List.length_replicate]; exact hj), List.getD_eq_getElem?_getD, List.getElem?_replicate, if_pos hj]
    have := hc j hj
    simpa using this
  · rw [if_neg hj, List.getElem?_eq_none (by rw [ints_len, List.length_replicate]; omega)]
theorem rep_own {w : World} {base n : Nat} {v : Value} {m : Int} (h : Own w base v (List.replicate n m)) : (v = .slice none 0 0 ∧ n = 0) ∨ ∃ g cap cur, v = .slice (some ⟨g, 0, none⟩) n cap ∧ base ≤ g ∧ w.heap[g]? = some (.cells cur 5 (0, 0)) ∧ n ≤ cap ∧ cap ≤ maxLen ∧ cur.size = cap ∧ ∀ j, j < n → cur[j]? = some (.int .u8 m) := by
  obtain ⟨h1, ⟨rfl, hn⟩ | ⟨g, cap, cur, rfl, hg, hh, hc, hm, hs, ht⟩⟩ := h
  · rw [List.length_replicate] at hn; exact Or.inl ⟨rfl, hn⟩
  · rw [List.length_replicate] at hc ht
    refine Or.inr ⟨g, cap, cur, by rw [List.length_replicate], hg, hh, hc, hm, by omega, fun j hj => ?_⟩
    have hg2 := ints_get .u8 (List.replicate n m) j (by rw [List.length_replicate]; exact hj)
    rw [← ht, List.getElem?_take, if_pos (by omega), List.getD_eq_getElem?_getD, List.getElem?_replicate, if_pos hj] at hg2
    simpa using hg2
/-- Marks written from place o on. -/
theorem marks_row (g : Nat) (m : Int) : ∀ (c o : Nat) (w : World) (cur : Array Value), w.heap[g]? = some (.cells cur 5 (0, 0)) → ∃ cur', (w.setCells g o (ints .u8 (List.replicate c m))).heap[g]? = some (.cells cur' 5 (0, 0)) ∧ cur'.size = cur.size ∧ (∀ j, j < cur.size → cur'[j]? = if o ≤ j ∧ j < o + c then some (.int .u8 m) else cur[j]?) ∧ Keeps g w (w.setCells g o (ints .u8 (List.replicate c m)))
  | 0, o, w, cur, h => ⟨cur, h, rfl, fun j hj => by rw [if_neg (by omega)], Keeps.refl g w⟩
  | c + 1, o, w, cur, h => by
    have e : ints .u8 (List.replicate (c + 1) m) = .int .u8 m :: ints .u8 (List.replicate c m) := by rw [List.replicate_succ]; rfl
    rw [e]
    have h1 : (w.setCell ⟨g, o, none⟩ (.int .u8 m)).heap[g]? = some (.cells (cur.setIfInBounds o (.int .u8 m)) 5 (0, 0)) := by
      rw [heap_setCell_same _ _ _ _ _ _ h]
    obtain ⟨cur', a1, a2, a3, a4⟩ := marks_row g m c (o + 1) _ _ h1
    refine ⟨cur', a1, by rw [a2]; simp, fun j hj => ?_, ⟨a4.os, a4.tape, a4.output, by have := a4.size; rw [World.size_setCell] at this; exact this, fun k h1 h2 => ?_⟩⟩
    · rw [a3 j (by simpa using hj)]
      by_cases q1 : o + 1 ≤ j ∧ j < o + 1 + c
      · rw [if_pos q1, if_pos (by omega)]
      · rw [if_neg q1, Array.getElem?_setIfInBounds]
        by_cases q2 : o = j
        · rw [if_pos q2, if_pos (by omega), if_pos (by omega)]
        · rw [if_neg q2, if_neg (by omega)]
    · show ((w.setCell ⟨g, o, none⟩ (.int .u8 m)).setCells g (o + 1) _).heap[k]? = _
      rw [a4.block k (by rw [World.size_setCell]; exact h1) h2, heap_setCell_other w ⟨g, o, none⟩ k _ h2]
/-- append(full of m, m ..): the answer is full of m, and whatever was full of m stays so, in that block or in another. -/
theorem wpList_growM {w : World} {ops : Array Oper} {rest : List Oper} {o : Oper} {a : Act} {Q : Exit → Act → World → Prop} (hgd : o.guard = none) (s x : Operand)
    (ho : o.op = .call { callee := .builtin .append, args := #[s, x], argTypes := #[36, 36] })
    (base : Nat) (v : Value) (n c : Nat) (m : Int) (hs : a.eval s = v) (hown : Own w base v (List.replicate n m)) (hc0 : 0 < c) (hx : a.eval x = .slice (some ⟨w.heap.size, 0, none⟩) c c)
    (hlen : n + c ≤ 1000000000000) (hbase : base ≤ w.heap.size) (t : TypeId) (fr : Nat × Nat)
    (h : ∀ v' w', Own w' base v' (List.replicate (n + c) m) → Below base w w' → (∀ k, k < w.heap.size → v.ownBlock ≠ some k → w'.heap[k]? = w.heap[k]?) → (v'.ownBlock = v.ownBlock ∨ ∃ k, v'.ownBlock = some k ∧ w.heap.size ≤ k) →
      (∀ b u k, Own w b u (List.replicate k m) → Own w' b u (List.replicate k m)) → wpList Try.prog ops Q rest (a.put o.dst v') w') :
    wpList Try.prog ops Q (o :: rest) a (w.alloc (.cells (ints .u8 (List.replicate c m)).toArray t fr)) := by
  obtain ⟨i5, hi5, hz5, hs5, hy5⟩ := Try.info5
  have bA : Below w.heap.size w (w.alloc (.cells (ints .u8 (List.replicate c m)).toArray t fr)) := (Below.refl _ _).alloc (Nat.le_refl _) _
  have lc : (ints .u8 (List.replicate c m)).length = c := by rw [ints_len, List.length_replicate]
  have ln : (ints .u8 (List.replicate n m)).length = n := by rw [ints_len, List.length_replicate]
  have hN : ∀ j u, (ints .u8 (List.replicate c m))[j]? = some u → (w.alloc (.cells (ints .u8 (List.replicate c m)).toArray t fr)).cell? ((⟨w.heap.size, 0, none⟩ : Addr).add j) = some u := fun j u hu => by
    rw [Addr.add_mid, Nat.zero_add, cell_of_row _ _ _ _ _ _ (hnew w _)]
    simpa using hu
  have fin : ∀ v' w', w'.ownsRow (w.alloc (.cells (ints .u8 (List.replicate c m)).toArray t fr)).heap.size 5 1 v' (n + c) (ints .u8 (List.replicate n m) ++ ints .u8 (List.replicate c m)) → (w.alloc (.cells (ints .u8 (List.replicate c m)).toArray t fr)).grownBy w' none → wpList Try.prog ops Q rest (a.put o.dst v') w' := by
    intro v' w' q1 q2
    have bB : Below w.heap.size w w' := bA.trans (grown_keeps q2 (fun k hk => by cases hk) (by simp))
    have q3 : Own w' (w.alloc (.cells (ints .u8 (List.replicate c m)).toArray t fr)).heap.size v' (List.replicate n m ++ List.replicate c m) := Own.mk_append (by rw [List.length_replicate, List.length_replicate]; exact q1)
    rw [List.replicate_append_replicate] at q3
    have hsz : w.heap.size ≤ (w.alloc (.cells (ints .u8 (List.replicate c m)).toArray t fr)).heap.size := by simp
    refine h v' w' ⟨q3.1, q3.2.imp id fun ⟨g, cap, cur, e, hg, r⟩ => ⟨g, cap, cur, e, by omega, r⟩⟩ (bB.mono hbase) (fun k hk _ => bB.block k hk) ?_ (fun b u k hu => hu.below bB (Nat.le_refl _))
    rcases rep_own q3 with ⟨_, hn⟩ | ⟨g', cap', cur, e1, e2, _⟩
    · omega
    · exact Or.inr ⟨g', by rw [e1]; rfl, by omega⟩
  rcases rep_own hown with ⟨rfl, rfl⟩ | ⟨g, cap, cur, rfl, hg, hh, hn, hm, hsz, hc⟩
  · exact wpList_append_grows _ hgd s x 36 ho 5 i5 (.int .u8 0) 1 1 Try.underlying36 hi5 hz5 hs5 hy5 rfl Nat.one_pos none 0 0 (ints .u8 (List.replicate 0 m)) hs (fun _ => ⟨rfl, rfl⟩) (by rw [ln]) (fun b hb => by cases hb) ⟨w.heap.size, 0, none⟩ c c (ints .u8 (List.replicate c m)) hx (by rw [lc]; omega) hN (ints_one _ _) (by omega) (by unfold maxLen; omega) (by omega) fin
  · have hhA : (w.alloc (.cells (ints .u8 (List.replicate c m)).toArray t fr)).heap[g]? = some (.cells cur 5 (0, 0)) := hold hh
    refine wpList_append_arg _ hgd s x 36 ho 5 i5 (.int .u8 0) 1 1 Try.underlying36 hi5 hz5 hs5 hy5 rfl Nat.one_pos g 0 n cap (ints .u8 (List.replicate n m)) hs (by rw [ln]; omega) ?_ ⟨w.heap.size, 0, none⟩ c c (ints .u8 (List.replicate c m)) hx (by rw [lc]; omega) hN (ints_one _ _) ?_ (by unfold maxLen; omega) (by omega) ?_ (fun _ => fin)
    · intro j u hu
      have hj : j < n := by have := (List.getElem?_eq_some_iff.1 hu).1; rwa [ln] at this
      rw [ints_get .u8 _ j (by rw [List.length_replicate]; exact hj), List.getD_eq_getElem?_getD, List.getElem?_replicate, if_pos hj] at hu
      rw [Nat.zero_add, cell_of_row _ _ _ _ _ _ hhA, hc j hj]
      exact hu
    · intro hr j hj
      rw [lc] at hj
      refine ⟨?_, frozen_of_row _ _ _ _ _ hhA⟩
      rw [cell_of_row _ _ _ _ _ _ hhA, Array.getElem?_eq_getElem (by omega)]
      rfl
    · intro hr
      obtain ⟨cur', a1, a2, a3, a4⟩ := marks_row g m c (0 + n * 1) _ cur hhA
      have hszA : w.heap.size ≤ (w.alloc (.cells (ints .u8 (List.replicate c m)).toArray t fr)).heap.size := by simp
      refine h _ _ (own_rep a1 hg hr hm (by rw [a2, hsz]) fun j hj => ?_) ((bA.mono hbase).trans (a4.below_g hg (by omega))) (fun k hk hne => ?_) (Or.inl rfl) (fun b u k hu => ?_)
      · rw [a3 j (by omega)]
        by_cases q : j < n
        · rw [if_neg (by omega)]; exact hc j q
        · rw [if_pos (by omega)]
      · rw [a4.block k (by omega) (fun e => hne (by rw [e]; rfl))]
        exact bA.block k hk
      · rcases rep_own hu with ⟨rfl, rfl⟩ | ⟨g2, cap2, cur2, rfl, hg2, hh2, hn2, hm2, hsz2, hc2⟩
        · exact Own.nil _ _
        · by_cases q : g2 = g
          · subst q
            rw [hh] at hh2
            obtain rfl : cur = cur2 := by simpa using hh2
            refine own_rep a1 hg2 hn2 hm2 (by rw [a2, hsz2]) fun j hj => ?_
            rw [a3 j (by omega)]
            split
            · rfl
            · exact hc2 j hj
          · have e1 := a4.block g2 (by have := hlt hh2; omega) q
            exact own_rep (e1.trans (hold hh2)) hg2 hn2 hm2 hsz2 hc2
end Go.Proofs.Ytihkjfbhmlfonaa.Bo
namespace Go.Proofs.Ytihkjfbhmlfonaa.Bo
set_option linter.unusedVariables false
set_option linter.unusedSimpArgs false
open Go.RowKit
attribute [local go_sem ↓] Go.wp_at_zero Go.wp_at_succ

/-! Lists of slices that the call made. -/
def OwnS (w : World) (base : Nat) (v : Value) (vs : List Value) : Prop := w.ownsRow base 36 1 v vs.length vs
theorem OwnS.nil (w : World) (base : Nat) : OwnS w base (.slice none 0 0) [] := ⟨rfl, Or.inl ⟨rfl, rfl⟩⟩
theorem OwnS.heap {w : World} {base : Nat} {v : Value} {vs : List Value} (h : OwnS w base v vs) : ∀ k, v.ownBlock = some k → base ≤ k ∧ k < w.heap.size ∧ ∃ cs, w.heap[k]? = some (.cells cs 36 (0, 0)) := by
  intro k hk
  rcases h.2 with ⟨rfl, _⟩ | ⟨g, cap, cur, rfl, hg, hh, _⟩
  · simp [Value.ownBlock] at hk
  · simp [Value.ownBlock] at hk; subst hk; exact ⟨hg, hlt hh, cur, hh⟩
theorem OwnS.of_heap {w w1 : World} {base : Nat} {v : Value} {vs : List Value} (h : OwnS w base v vs) (hk : ∀ k, v.ownBlock = some k → w1.heap[k]? = w.heap[k]?) : OwnS w1 base v vs := by
  refine ⟨h.1, ?_⟩
  rcases h.2 with h2 | ⟨g, cap, cur, rfl, hg, hh, r⟩
  · exact Or.inl h2
  · exact Or.inr ⟨g, cap, cur, rfl, hg, (hk g rfl).trans hh, r⟩
/-- Where the elements lie. -/
theorem OwnS.at {w : World} {base : Nat} {v : Value} {vs : List Value} (h : OwnS w base v vs) : ∃ sp cap b, v = .slice sp vs.length cap ∧ vs.length ≤ cap ∧ cap ≤ maxLen ∧ (0 < vs.length → sp = some ⟨b, 0, none⟩) ∧ ∀ j, j < vs.length → w.cell? ⟨b, j, none⟩ = some (vs.getD j undef) := by
  obtain ⟨h1, ⟨rfl, hn⟩ | ⟨g, cap, cur, rfl, hg, hh, hc, hm, hs, ht⟩⟩ := h
  · exact ⟨none, 0, 0, by rw [hn], by omega, by simp [maxLen], fun h => by omega, fun j hj => by omega⟩
  · refine ⟨some ⟨g, 0, none⟩, cap, g, rfl, hc, hm, fun _ => rfl, fun j hj => ?_⟩
    rw [cell_of_row _ _ _ _ _ _ hh]
    have e : vs[j]? = cur.toList[j]? := by
      rw [← ht, List.getElem?_take, if_pos (by omega)]
    rw [List.getD_eq_getElem?_getD, e]
    have hj2 : j < cur.toList.length := by simp; omega
    rw [List.getElem?_eq_getElem hj2]
    simp
theorem ne_of_type {w : World} {a b : Nat} {x y : Array Value} {t u : TypeId} {f f' : Nat × Nat} (ha : w.heap[a]? = some (.cells x t f)) (hb : w.heap[b]? = some (.cells y u f')) (h : t ≠ u) : a ≠ b := by
  rintro rfl
  rw [ha] at hb
  cases hb
  exact h rfl
def Dj (v1 v2 : Value) : Prop := ∀ k, v1.ownBlock = some k → v2.ownBlock = some k → False
theorem Dj.symm {u v : Value} (h : Dj u v) : Dj v u := fun k h1 h2 => h k h2 h1
theorem Dj.nil (v : Value) : Dj (.slice none 0 0) v := fun k h => by simp [Value.ownBlock] at h
theorem DjS.push {w : World} {base : Nat} {u v v' : Value} {us : List Value} (h : OwnS w base u us) (hd : Dj v u) (hv : v'.ownBlock = v.ownBlock ∨ ∃ k, v'.ownBlock = some k ∧ w.heap.size ≤ k) : Dj v' u := fun k h1 h2 => by
  rcases hv with e | ⟨k', e, hk'⟩
  · exact hd k (e ▸ h1) h2
  · rw [e] at h1; cases h1; have := (h.heap _ h2).2.1; omega
theorem Try.infoSm : (Try.prog.info? 36).map (fun i => (i.zero, i.size, i.bytes)) = some (some (.slice none 0 0), 1, 24) := by kernel_rfl
theorem Try.infoS : ∃ i, Try.prog.info? 36 = some i ∧ i.zero = some (.slice none 0 0) ∧ i.size = 1 ∧ i.bytes = 24 := by
  have h := Try.infoSm
  cases hq : Try.prog.info? 36 with
  | none => rw [hq] at h; cases h
  | some i =>
    rw [hq] at h
    simp only [Option.map_some, Option.some.injEq, Prod.mk.injEq] at h
    exact ⟨i, rfl, h.1, h.2.1, h.2.2⟩
/-- append(own list of slices, x..), the new ones in a block of their own. -/
theorem wpList_pushS {w : World} {ops : Array Oper} {rest : List Oper} {o : Oper} {a : Act} {Q : Exit → Act → World → Prop} (hgd : o.guard = none) (s x : Operand)
    (ho : o.op = .call { callee := .builtin .append, args := #[s, x], argTypes := #[31, 31] })
    (base : Nat) (v : Value) (vs ys : List Value) (hs : a.eval s = v) (hown : OwnS w base v vs) (hx : a.eval x = .slice (some ⟨w.heap.size, 0, none⟩) ys.length ys.length) (h1 : ∀ y ∈ ys, y.oneCell' = true)
    (hlen : vs.length + ys.length ≤ 5000000000000) (hbase : base ≤ w.heap.size) (t : TypeId) (fr : Nat × Nat)
    (h : ∀ v' w', OwnS w' base v' (vs ++ ys) → Below base w w' → (∀ k, k < w.heap.size → v.ownBlock ≠ some k → w'.heap[k]? = w.heap[k]?) → (v'.ownBlock = v.ownBlock ∨ ∃ k, v'.ownBlock = some k ∧ w.heap.size ≤ k) → wpList Try.prog ops Q rest (a.put o.dst v') w') :
    wpList Try.prog ops Q (o :: rest) a (w.alloc (.cells ys.toArray t fr)) := by
  obtain ⟨i5, hi5, hz5, hs5, hy5⟩ := Try.infoS
  have hown' : OwnS (w.alloc (.cells ys.toArray t fr)) base v vs := hown.of_heap fun k hk => by
    show (w.heap.push _)[k]? = _
    rw [Array.getElem?_push, if_neg (by have := (hown.heap k hk).2.1; omega)]
  refine wpList_append_own_at _ hgd s x 31 ho base 36 i5 (.slice none 0 0) 1 24 Try.underlying31 hi5 hz5 hs5 hy5 rfl Nat.one_pos v vs.length vs hs hown' ⟨w.heap.size, 0, none⟩ ys.length ys.length ys hx (by omega) ?_ h1 (by unfold maxLen; omega) (by omega) (by simp; omega) ?_
  · intro j u hu
    rw [Addr.add_mid, Nat.zero_add, cell_of_row _ _ _ _ _ _ (hnew w _)]
    simpa using hu
  · intro v' w' q1 q2 _ q4
    have hB1 : Below base w (w.alloc (.cells ys.toArray t fr)) := (Below.refl _ _).alloc hbase _
    refine h v' w' (by unfold OwnS; rw [List.length_append]; exact q1) (hB1.trans (grown_keeps q2 (fun k hk => (hown.heap k hk).1) (by simp; omega))) (fun k hk hne => ?_) ?_
    · rw [q2.block k (by simp; omega) (fun e => hne e.symm)]
      show (w.heap.push _)[k]? = _
      rw [Array.getElem?_push, if_neg (by omega)]
    · rcases q4 with e | e
      · exact Or.inl e
      · exact Or.inr ⟨_, e, by simp⟩
/-- A list that is full of m. -/
def FL (w : World) (v : Value) (m : Int) (n : Nat) : Prop := Own w 0 v (List.replicate n m)
theorem FL.of_own {w : World} {base : Nat} {v : Value} {m : Int} {n : Nat} (h : Own w base v (List.replicate n m)) : FL w v m n :=
  ⟨h.1, h.2.imp id fun ⟨g, cap, cur, e, hg, r⟩ => ⟨g, cap, cur, e, Nat.zero_le _, r⟩⟩
theorem FL.of_heap {w w1 : World} {v : Value} {m : Int} {n : Nat} (h : FL w v m n) (hk : ∀ k, v.ownBlock = some k → w1.heap[k]? = w.heap[k]?) : FL w1 v m n := Own.of_heap h hk
theorem own_heap5 {w : World} {base : Nat} {v : Value} {zs : List Int} (h : Own w base v zs) : ∀ k, v.ownBlock = some k → k < w.heap.size ∧ ∃ cs, w.heap[k]? = some (.cells cs 5 (0, 0)) := by
  intro k hk
  rcases h.2 with ⟨rfl, _⟩ | ⟨g, cap, cur, rfl, hg, hh, _⟩
  · simp [Value.ownBlock] at hk
  · simp [Value.ownBlock] at hk; subst hk; exact ⟨hlt hh, cur, hh⟩
theorem FL.heap {w : World} {v : Value} {m : Int} {n : Nat} (h : FL w v m n) : ∀ k, v.ownBlock = some k → k < w.heap.size ∧ ∃ cs, w.heap[k]? = some (.cells cs 5 (0, 0)) := own_heap5 h
theorem FL.form {w : World} {v : Value} {m : Int} {n : Nat} (h : FL w v m n) : ∃ sp cap, v = .slice sp n cap := by
  rcases rep_own h with ⟨rfl, rfl⟩ | ⟨g, cap, cur, rfl, _⟩
  · exact ⟨_, _, rfl⟩
  · exact ⟨_, _, rfl⟩
def mk (i : Nat) : Int := ((i % 250 + 1 : Nat) : Int)
set_option maxRecDepth 100000 in
set_option maxHeartbeats 400000 in
theorem mark_any (w : World) (i : Nat) (hi : i ≤ 5000000000000) :
    Calls Try.prog 49 #[.int .i64 i] w fun e w' => e = .returned (.int .u8 (mk i)) ∧ w' = w := by
  have i1 : (i : Int) ≤ 5000000000000 := by omega
  go_enter Try.func49, Try.ntmps49
  go_wp2
  go_ret
  refine ⟨?_, rfl⟩
  have : mk i = (i : Int) % 250 + 1 := by unfold mk; omega
  rw [this]; rfl
set_option maxRecDepth 100000 in
set_option maxHeartbeats 400000 in
theorem full_any (w : World) (v : Value) (m : Int) (n : Nat) (h : FL w v m n) (hn : n ≤ 1048576000) :
    Calls Try.prog 25 #[v, .int .u8 m, .int .i64 n] w fun e w' => e = .returned (.bool true) ∧ Below w.heap.size w w' := by
  obtain ⟨sp, cap, rfl⟩ := h.form
  have hrow := rep_own h
  have i0 : (n : Int) ≤ 1048576000 := by omega
  go_enter Try.func25, Try.ntmps25
  go_wp2
  go_loopw [7] (fun i wr => ∃ k : Nat, k ≤ n ∧ i = .int .i64 k ∧ Below w.heap.size w wr) (fun i _ => n - (intOf i).toNat)
  case atStart => exact ⟨0, by omega, rfl, Below.refl _ _⟩
  case round =>
    obtain ⟨k, hk, rfl, hB⟩ := hrel
    by_cases hkn : k < n
    · have i1 : (k : Int) < (n : Int) := by omega
      rcases hrow with ⟨_, h0⟩ | ⟨g, cap2, cur, hv, _, hh, _, _, _, hc⟩
      · omega
      · simp only [Value.slice.injEq] at hv
        obtain ⟨rfl, _, rfl⟩ := hv
        have c0 : wr.cell? ⟨g, k, none⟩ = some (.int .u8 m) := by
          rw [hB.cell (p := ⟨g, k, none⟩) (hlt hh), cell_of_row _ _ _ _ _ _ hh]; exact hc k hkn
        clear hc hh h
        go_wp2
        go_roundw
        case rel => exact ⟨k + 1, by omega, by go_num, hB⟩
        case measure => simp [intOf]; omega
    · obtain rfl : k = n := by omega
      clear hkn hrow
      go_wp2
      go_ret
      exact ⟨rfl, hB⟩
/-- What the i-th lists of the book are. -/
def Ents (w : World) (L1 L2 L3 L4 : List Value) (ns : List Nat) : Prop :=
  L1.length = ns.length ∧ L2.length = ns.length ∧ L3.length = ns.length ∧ L4.length = ns.length ∧
  ∀ i, i < ns.length → FL w (L1.getD i undef) (mk i) (ns.getD i 0) ∧ FL w (L2.getD i undef) (mk i) (ns.getD i 0 + 1) ∧ FL w (L3.getD i undef) (mk i) (ns.getD i 0 + 2) ∧ FL w (L4.getD i undef) (mk i) (ns.getD i 0 + 300)
/-- No list of the book lies in block g. -/
def Off (g : Nat) (L1 L2 L3 L4 : List Value) : Prop := ∀ i, (L1.getD i undef).ownBlock ≠ some g ∧ (L2.getD i undef).ownBlock ≠ some g ∧ (L3.getD i undef).ownBlock ≠ some g ∧ (L4.getD i undef).ownBlock ≠ some g
theorem Ents.of_heap {w w1 : World} {L1 L2 L3 L4 : List Value} {ns : List Nat} (h : Ents w L1 L2 L3 L4 ns)
    (hk : ∀ k cs, k < w.heap.size → w.heap[k]? = some (.cells cs 5 (0, 0)) → (∀ i, i < ns.length → True) → (∃ i, i < ns.length ∧ ((L1.getD i undef).ownBlock = some k ∨ (L2.getD i undef).ownBlock = some k ∨ (L3.getD i undef).ownBlock = some k ∨ (L4.getD i undef).ownBlock = some k)) → w1.heap[k]? = w.heap[k]?) : Ents w1 L1 L2 L3 L4 ns := by
  obtain ⟨h1, h2, h3, h4, h5⟩ := h
  refine ⟨h1, h2, h3, h4, fun i hi => ?_⟩
  obtain ⟨a, b, c, d⟩ := h5 i hi
  refine ⟨a.of_heap fun k e => ?_, b.of_heap fun k e => ?_, c.of_heap fun k e => ?_, d.of_heap fun k e => ?_⟩
  · obtain ⟨q1, cs, q2⟩ := a.heap k e; exact hk k cs q1 q2 (fun _ _ => trivial) ⟨i, hi, Or.inl e⟩
  · obtain ⟨q1, cs, q2⟩ := b.heap k e; exact hk k cs q1 q2 (fun _ _ => trivial) ⟨i, hi, Or.inr (Or.inl e)⟩
  · obtain ⟨q1, cs, q2⟩ := c.heap k e; exact hk k cs q1 q2 (fun _ _ => trivial) ⟨i, hi, Or.inr (Or.inr (Or.inl e))⟩
  · obtain ⟨q1, cs, q2⟩ := d.heap k e; exact hk k cs q1 q2 (fun _ _ => trivial) ⟨i, hi, Or.inr (Or.inr (Or.inr e))⟩
theorem Ents.below {w w1 : World} {L1 L2 L3 L4 : List Value} {ns : List Nat} (h : Ents w L1 L2 L3 L4 ns) (hb : Below w.heap.size w w1) : Ents w1 L1 L2 L3 L4 ns := h.of_heap fun k cs hk _ _ _ => hb.block k hk
theorem getD_snoc (L : List Value) (x : Value) (i : Nat) : (L ++ [x]).getD i undef = if i = L.length then x else L.getD i undef := by
  by_cases h : i = L.length
  · subst h; simp
  · rw [if_neg h]
    by_cases h2 : i < L.length
    · rw [List.getD_eq_getElem?_getD, List.getElem?_append_left h2, ← List.getD_eq_getElem?_getD]
    · rw [List.getD_eq_getElem?_getD, List.getElem?_append_right (by omega), List.getElem?_eq_none (by simp; omega), List.getD_eq_getElem?_getD, List.getElem?_eq_none (by omega)]
theorem getDn_snoc (L : List Nat) (x : Nat) (i : Nat) (hi : i < (L ++ [x]).length) : (L ++ [x]).getD i 0 = if i = L.length then x else L.getD i 0 := by
  by_cases h : i = L.length
  · subst h; simp
  · rw [if_neg h]
    have h2 : i < L.length := by simp at hi; omega
    rw [List.getD_eq_getElem?_getD, List.getElem?_append_left h2, ← List.getD_eq_getElem?_getD]
theorem Ents.snoc {w : World} {L1 L2 L3 L4 : List Value} {ns : List Nat} (h : Ents w L1 L2 L3 L4 ns) {x1 x2 x3 x4 : Value} {n : Nat} (h1 : FL w x1 (mk ns.length) n) (h2 : FL w x2 (mk ns.length) (n + 1)) (h3 : FL w x3 (mk ns.length) (n + 2)) (h4 : FL w x4 (mk ns.length) (n + 300)) :
    Ents w (L1 ++ [x1]) (L2 ++ [x2]) (L3 ++ [x3]) (L4 ++ [x4]) (ns ++ [n]) := by
  obtain ⟨e1, e2, e3, e4, e5⟩ := h
  refine ⟨by simp [e1], by simp [e2], by simp [e3], by simp [e4], fun i hi => ?_⟩
  rw [getD_snoc, getD_snoc, getD_snoc, getD_snoc, getDn_snoc _ _ _ hi, e1, e2, e3, e4]
  by_cases h : i = ns.length
  · subst h; rw [if_pos rfl, if_pos rfl, if_pos rfl, if_pos rfl, if_pos rfl]; exact ⟨h1, h2, h3, h4⟩
  · rw [if_neg h, if_neg h, if_neg h, if_neg h, if_neg h]
    exact e5 i (by simp at hi; omega)
/-- The book. -/
structure Bk (w : World) (base B : Nat) (v1 v2 v3 v4 : Value) (L1 L2 L3 L4 : List Value) (ns : List Nat) : Prop where
  hb : base ≤ B
  bk : w.heap[B]? = some (.cells #[v1, v2, v3, v4] 33 (0, 0))
  o1 : OwnS w base v1 L1
  o2 : OwnS w base v2 L2
  o3 : OwnS w base v3 L3
  o4 : OwnS w base v4 L4
  d12 : Dj v1 v2
  d13 : Dj v1 v3
  d14 : Dj v1 v4
  d23 : Dj v2 v3
  d24 : Dj v2 v4
  d34 : Dj v3 v4
  en : Ents w L1 L2 L3 L4 ns
theorem Bk.below {w w1 : World} {base B : Nat} {v1 v2 v3 v4 : Value} {L1 L2 L3 L4 : List Value} {ns : List Nat} (h : Bk w base B v1 v2 v3 v4 L1 L2 L3 L4 ns) (hb : Below w.heap.size w w1) : Bk w1 base B v1 v2 v3 v4 L1 L2 L3 L4 ns :=
  ⟨h.hb, hbel hb h.bk (hlt h.bk), h.o1.of_heap fun k hk => hb.block k (h.o1.heap k hk).2.1, h.o2.of_heap fun k hk => hb.block k (h.o2.heap k hk).2.1, h.o3.of_heap fun k hk => hb.block k (h.o3.heap k hk).2.1, h.o4.of_heap fun k hk => hb.block k (h.o4.heap k hk).2.1, h.d12, h.d13, h.d14, h.d23, h.d24, h.d34, h.en.below hb⟩
end Go.Proofs.Ytihkjfbhmlfonaa.Bo
namespace Go.Proofs.Ytihkjfbhmlfonaa.Bo
set_option linter.unusedVariables false
set_option linter.unusedSimpArgs false
open Go.RowKit
attribute [local go_sem ↓] Go.wp_at_zero Go.wp_at_succ

theorem own_in {w : World} {base g cap : Nat} {rest : List Value} {os : List Int} (h : In w g rest os) (hg : base ≤ g) (hc : os.length ≤ cap) (hm : cap ≤ maxLen) (hr : rest.length = cap - os.length) : Own w base (.slice (some ⟨g, 0, none⟩) os.length cap) os := by
  refine ⟨by rw [ints_len]; omega, Or.inr ⟨g, cap, _, rfl, hg, h, hc, hm, by simp [ints_len]; omega, ?_⟩⟩
  rw [Nat.mul_one]
  exact List.take_left' (ints_len _ _)
/-- Own's parts, with the spare room's size. -/
theorem own_parts {w : World} {base : Nat} {v : Value} {zs : List Int} (h : Own w base v zs) : (v = .slice none 0 0 ∧ zs = []) ∨ ∃ g cap rest, v = .slice (some ⟨g, 0, none⟩) zs.length cap ∧ base ≤ g ∧ In w g rest zs ∧ zs.length ≤ cap ∧ cap ≤ maxLen ∧ rest.length = cap - zs.length := by
  obtain ⟨h1, ⟨rfl, hn⟩ | ⟨g, cap, cur, rfl, hg, hh, hc, hm, hs, ht⟩⟩ := h
  · exact Or.inl ⟨rfl, List.eq_nil_of_length_eq_zero hn⟩
  · refine Or.inr ⟨g, cap, cur.toList.drop zs.length, rfl, hg, ?_, hc, hm, by simp [hs]⟩
    unfold In
    rw [hh, ← ht, Nat.mul_one, List.take_append_drop]
/-- The book's own part. -/
structure PB (w : World) (base B : Nat) (v1 v2 v3 v4 : Value) (L1 L2 L3 L4 : List Value) : Prop where
  hb : base ≤ B
  bk : w.heap[B]? = some (.cells #[v1, v2, v3, v4] 33 (0, 0))
  o1 : OwnS w base v1 L1
  o2 : OwnS w base v2 L2
  o3 : OwnS w base v3 L3
  o4 : OwnS w base v4 L4
  d12 : Dj v1 v2
  d13 : Dj v1 v3
  d14 : Dj v1 v4
  d23 : Dj v2 v3
  d24 : Dj v2 v4
  d34 : Dj v3 v4
theorem own_ne {w : World} {base B : Nat} {v : Value} {vs : List Value} {x : Array Value} (h : OwnS w base v vs) (hb : w.heap[B]? = some (.cells x 33 (0, 0))) : v.ownBlock ≠ some B := fun e => by
  obtain ⟨_, _, cs, hc⟩ := h.heap B e
  exact ne_of_type hc hb (by decide) rfl
theorem heap_set_ne {w : World} {a : Addr} {v : Value} {k : Nat} (h : k ≠ a.block) : (w.setCell a v).heap[k]? = w.heap[k]? := heap_setCell_other w a k v h
/-- What an append and a store leave. -/
def Fr (base B : Nat) (a : Value) (w w' : World) : Prop := Below base w w' ∧ ∀ k, k < w.heap.size → k ≠ B → a.ownBlock ≠ some k → w'.heap[k]? = w.heap[k]?
theorem own_after {w w1 : World} {base B : Nat} {a u : Value} {us : List Value} {x : Array Value} (hu : OwnS w base u us) (hb : w.heap[B]? = some (.cells x 33 (0, 0))) (hd : Dj a u) (o : Nat) (y : Value)
    (hk : ∀ k, k < w.heap.size → a.ownBlock ≠ some k → w1.heap[k]? = w.heap[k]?) : OwnS (w1.setCell ⟨B, o, none⟩ y) base u us :=
  hu.of_heap fun k e => by
    rw [heap_set_ne (show k ≠ B from fun h => own_ne hu hb (h ▸ e))]
    exact hk k (hu.heap k e).2.1 (fun h => hd k h e)
theorem fr_of {w w1 : World} {base B : Nat} {a : Value} {x : Array Value} (hb : base ≤ B) (hB : Below base w w1) (o : Nat) (y : Value)
    (hk : ∀ k, k < w.heap.size → a.ownBlock ≠ some k → w1.heap[k]? = w.heap[k]?) : Fr base B a w (w1.setCell ⟨B, o, none⟩ y) :=
  ⟨hB.setCell hb _, fun k h1 h2 h3 => by rw [heap_set_ne (show k ≠ B from h2)]; exact hk k h1 h3⟩
theorem PB.push1 {w w1 : World} {base B : Nat} {v1 v2 v3 v4 v' x : Value} {L1 L2 L3 L4 : List Value} (h : PB w base B v1 v2 v3 v4 L1 L2 L3 L4) (q1 : OwnS w1 base v' (L1 ++ [x])) (q2 : Below base w w1)
    (q3 : ∀ k, k < w.heap.size → v1.ownBlock ≠ some k → w1.heap[k]? = w.heap[k]?) (q4 : v'.ownBlock = v1.ownBlock ∨ ∃ k, v'.ownBlock = some k ∧ w.heap.size ≤ k) :
    w1.heap[B]? = some (.cells #[v1, v2, v3, v4] 33 (0, 0)) ∧ PB (w1.setCell ⟨B, 0, none⟩ v') base B v' v2 v3 v4 (L1 ++ [x]) L2 L3 L4 ∧ Fr base B v1 w (w1.setCell ⟨B, 0, none⟩ v') := by
  have e1 : w1.heap[B]? = some (.cells #[v1, v2, v3, v4] 33 (0, 0)) := (q3 B (hlt h.bk) (own_ne h.o1 h.bk)).trans h.bk
  refine ⟨e1, ⟨h.hb, ?_, ?_, ?_, ?_, ?_, ?_, ?_, ?_, ?_, ?_, ?_⟩, fr_of (x := #[]) h.hb q2 _ _ q3⟩
  · rw [heap_setCell_same _ _ _ _ _ _ e1]; rfl
  · exact q1.of_heap fun k e => heap_set_ne (show k ≠ B from fun hh => own_ne q1 e1 (hh ▸ e))
  · exact own_after h.o2 h.bk h.d12 _ _ q3
  · exact own_after h.o3 h.bk h.d13 _ _ q3
  · exact own_after h.o4 h.bk h.d14 _ _ q3
  · exact DjS.push h.o2 h.d12 q4
  · exact DjS.push h.o3 h.d13 q4
  · exact DjS.push h.o4 h.d14 q4
  · exact h.d23
  · exact h.d24
  · exact h.d34
theorem PB.push2 {w w1 : World} {base B : Nat} {v1 v2 v3 v4 v' x : Value} {L1 L2 L3 L4 : List Value} (h : PB w base B v1 v2 v3 v4 L1 L2 L3 L4) (q1 : OwnS w1 base v' (L2 ++ [x])) (q2 : Below base w w1)
    (q3 : ∀ k, k < w.heap.size → v2.ownBlock ≠ some k → w1.heap[k]? = w.heap[k]?) (q4 : v'.ownBlock = v2.ownBlock ∨ ∃ k, v'.ownBlock = some k ∧ w.heap.size ≤ k) :
    w1.heap[B]? = some (.cells #[v1, v2, v3, v4] 33 (0, 0)) ∧ PB (w1.setCell ⟨B, 1, none⟩ v') base B v1 v' v3 v4 L1 (L2 ++ [x]) L3 L4 ∧ Fr base B v2 w (w1.setCell ⟨B, 1, none⟩ v') := by
  have e1 : w1.heap[B]? = some (.cells #[v1, v2, v3, v4] 33 (0, 0)) := (q3 B (hlt h.bk) (own_ne h.o2 h.bk)).trans h.bk
  refine ⟨e1, ⟨h.hb, ?_, ?_, ?_, ?_, ?_, ?_, ?_, ?_, ?_, ?_, ?_⟩, fr_of (x := #[]) h.hb q2 _ _ q3⟩
  · rw [heap_setCell_same _ _ _ _ _ _ e1]; rfl
  · exact own_after h.o1 h.bk h.d12.symm _ _ q3
  · exact q1.of_heap fun k e => heap_set_ne (show k ≠ B from fun hh => own_ne q1 e1 (hh ▸ e))
  · exact own_after h.o3 h.bk h.d23 _ _ q3
  · exact own_after h.o4 h.bk h.d24 _ _ q3
  · exact (DjS.push h.o1 h.d12.symm q4).symm
  · exact h.d13
  · exact h.d14
  · exact DjS.push h.o3 h.d23 q4
  · exact DjS.push h.o4 h.d24 q4
  · exact h.d34
theorem PB.push3 {w w1 : World} {base B : Nat} {v1 v2 v3 v4 v' x : Value} {L1 L2 L3 L4 : List Value} (h : PB w base B v1 v2 v3 v4 L1 L2 L3 L4) (q1 : OwnS w1 base v' (L3 ++ [x])) (q2 : Below base w w1)
    (q3 : ∀ k, k < w.heap.size → v3.ownBlock ≠ some k → w1.heap[k]? = w.heap[k]?) (q4 : v'.ownBlock = v3.ownBlock ∨ ∃ k, v'.ownBlock = some k ∧ w.heap.size ≤ k) :
    w1.heap[B]? = some (.cells #[v1, v2, v3, v4] 33 (0, 0)) ∧ PB (w1.setCell ⟨B, 2, none⟩ v') base B v1 v2 v' v4 L1 L2 (L3 ++ [x]) L4 ∧ Fr base B v3 w (w1.setCell ⟨B, 2, none⟩ v') := by
  have e1 : w1.heap[B]? = some (.cells #[v1, v2, v3, v4] 33 (0, 0)) := (q3 B (hlt h.bk) (own_ne h.o3 h.bk)).trans h.bk
  refine ⟨e1, ⟨h.hb, ?_, ?_, ?_, ?_, ?_, ?_, ?_, ?_, ?_, ?_, ?_⟩, fr_of (x := #[]) h.hb q2 _ _ q3⟩
  · rw [heap_setCell_same _ _ _ _ _ _ e1]; rfl
  · exact own_after h.o1 h.bk h.d13.symm _ _ q3
  · exact own_after h.o2 h.bk h.d23.symm _ _ q3
  · exact q1.of_heap fun k e => heap_set_ne (show k ≠ B from fun hh => own_ne q1 e1 (hh ▸ e))
  · exact own_after h.o4 h.bk h.d34 _ _ q3
  · exact h.d12
  · exact (DjS.push h.o1 h.d13.symm q4).symm
  · exact h.d14
  · exact (DjS.push h.o2 h.d23.symm q4).symm
  · exact h.d24
  · exact DjS.push h.o4 h.d34 q4
theorem PB.push4 {w w1 : World} {base B : Nat} {v1 v2 v3 v4 v' x : Value} {L1 L2 L3 L4 : List Value} (h : PB w base B v1 v2 v3 v4 L1 L2 L3 L4) (q1 : OwnS w1 base v' (L4 ++ [x])) (q2 : Below base w w1)
    (q3 : ∀ k, k < w.heap.size → v4.ownBlock ≠ some k → w1.heap[k]? = w.heap[k]?) (q4 : v'.ownBlock = v4.ownBlock ∨ ∃ k, v'.ownBlock = some k ∧ w.heap.size ≤ k) :
    w1.heap[B]? = some (.cells #[v1, v2, v3, v4] 33 (0, 0)) ∧ PB (w1.setCell ⟨B, 3, none⟩ v') base B v1 v2 v3 v' L1 L2 L3 (L4 ++ [x]) ∧ Fr base B v4 w (w1.setCell ⟨B, 3, none⟩ v') := by
  have e1 : w1.heap[B]? = some (.cells #[v1, v2, v3, v4] 33 (0, 0)) := (q3 B (hlt h.bk) (own_ne h.o4 h.bk)).trans h.bk
  refine ⟨e1, ⟨h.hb, ?_, ?_, ?_, ?_, ?_, ?_, ?_, ?_, ?_, ?_, ?_⟩, fr_of (x := #[]) h.hb q2 _ _ q3⟩
  · rw [heap_setCell_same _ _ _ _ _ _ e1]; rfl
  · exact own_after h.o1 h.bk h.d14.symm _ _ q3
  · exact own_after h.o2 h.bk h.d24.symm _ _ q3
  · exact own_after h.o3 h.bk h.d34.symm _ _ q3
  · exact q1.of_heap fun k e => heap_set_ne (show k ≠ B from fun hh => own_ne q1 e1 (hh ▸ e))
  · exact h.d12
  · exact h.d13
  · exact (DjS.push h.o1 h.d14.symm q4).symm
  · exact h.d23
  · exact (DjS.push h.o2 h.d24.symm q4).symm
  · exact (DjS.push h.o3 h.d34.symm q4).symm
theorem Bk.pb {w : World} {base B : Nat} {v1 v2 v3 v4 : Value} {L1 L2 L3 L4 : List Value} {ns : List Nat} (h : Bk w base B v1 v2 v3 v4 L1 L2 L3 L4 ns) : PB w base B v1 v2 v3 v4 L1 L2 L3 L4 :=
  ⟨h.hb, h.bk, h.o1, h.o2, h.o3, h.o4, h.d12, h.d13, h.d14, h.d23, h.d24, h.d34⟩
/-- A list of bytes that the book does not name may be written. -/
theorem Bk.keepsV {w w1 : World} {base B : Nat} {v v1 v2 v3 v4 : Value} {L1 L2 L3 L4 : List Value} {ns : List Nat} {b0 : Nat} {os : List Int} (h : Bk w base B v1 v2 v3 v4 L1 L2 L3 L4 ns) (hv : Own w b0 v os) (hk : ∀ k, k < w.heap.size → v.ownBlock ≠ some k → w1.heap[k]? = w.heap[k]?) (ho : ∀ g, v.ownBlock = some g → Off g L1 L2 L3 L4) : Bk w1 base B v1 v2 v3 v4 L1 L2 L3 L4 ns := by
  have hS : ∀ {u : Value} {vs : List Value}, OwnS w base u vs → OwnS w1 base u vs := fun hu => hu.of_heap fun k e => by
    obtain ⟨_, a2, x, a3⟩ := hu.heap k e
    refine hk k a2 fun e2 => ?_
    obtain ⟨_, y, hy⟩ := own_heap5 hv k e2
    exact ne_of_type a3 hy (by decide) rfl
  refine ⟨h.hb, (hk B (hlt h.bk) fun e2 => ?_).trans h.bk, hS h.o1, hS h.o2, hS h.o3, hS h.o4, h.d12, h.d13, h.d14, h.d23, h.d24, h.d34, h.en.of_heap fun k x a1 a2 _ a4 => hk k a1 fun e2 => ?_⟩
  · obtain ⟨_, y, hy⟩ := own_heap5 hv B e2
    exact ne_of_type h.bk hy (by decide) rfl
  · obtain ⟨i, _, a5⟩ := a4
    obtain ⟨b1, b2, b3, b4⟩ := ho k e2 i
    rcases a5 with e | e | e | e
    · exact b1 e
    · exact b2 e
    · exact b3 e
    · exact b4 e
/-- Blocks of bytes are as they were. -/
def By (w w' : World) : Prop := ∀ (k : Nat) (cs : Array Value), w.heap[k]? = some (Obj.cells cs 5 (0, 0)) → w'.heap[k]? = some (Obj.cells cs 5 (0, 0))
theorem By.trans {a b c : World} (h : By a b) (k : By b c) : By a c := fun i cs hi => k i cs (h i cs hi)
theorem By.of_fr {w w1 : World} {base B : Nat} {a : Value} {vs : List Value} {x : Array Value} (h : Fr base B a w w1) (ho : OwnS w base a vs) (hb : w.heap[B]? = some (.cells x 33 (0, 0))) : By w w1 := fun k cs hk =>
  (h.2 k (hlt hk) (ne_of_type hk hb (by decide)) (fun e => by obtain ⟨_, _, y, hy⟩ := ho.heap k e; exact ne_of_type hk hy (by decide) rfl)).trans hk
theorem FL.by {w w1 : World} {v : Value} {m : Int} {n : Nat} (h : FL w v m n) (hb : By w w1) : FL w1 v m n := h.of_heap fun k e => by
  obtain ⟨_, cs, hc⟩ := h.heap k e
  rw [hb k cs hc, hc]
theorem Ents.by {w w1 : World} {L1 L2 L3 L4 : List Value} {ns : List Nat} (h : Ents w L1 L2 L3 L4 ns) (hb : By w w1) : Ents w1 L1 L2 L3 L4 ns := h.of_heap fun k cs _ hc _ _ => by rw [hb k cs hc, hc]
theorem fresh_le {v u : Value} {a b : Nat} (h : v.ownBlock = u.ownBlock ∨ ∃ k, v.ownBlock = some k ∧ a ≤ k) (hab : b ≤ a) : v.ownBlock = u.ownBlock ∨ ∃ k, v.ownBlock = some k ∧ b ≤ k := by
  rcases h with e | ⟨k, e, hk⟩
  · exact Or.inl e
  · exact Or.inr ⟨k, e, Nat.le_trans hab hk⟩
/-- Where an answer of append lies: where the list does, or in a new block. -/
def At (w : World) (v x : Value) : Prop := x.ownBlock = v.ownBlock ∨ ∃ k, x.ownBlock = some k ∧ w.heap.size ≤ k
/-- All but v's block is as it was. -/
def KV (w : World) (base : Nat) (v : Value) (w' : World) : Prop := Below base w w' ∧ ∀ k, k < w.heap.size → v.ownBlock ≠ some k → w'.heap[k]? = w.heap[k]?
theorem KV.refl (w : World) (base : Nat) (v : Value) : KV w base v w := ⟨Below.refl _ _, fun _ _ _ => rfl⟩
theorem KV.step {w w1 w2 : World} {base : Nat} {v x : Value} (h : KV w base v w1) (hx : At w v x) (hb : Below base w1 w2) (hk : ∀ k, k < w1.heap.size → x.ownBlock ≠ some k → w2.heap[k]? = w1.heap[k]?) : KV w base v w2 :=
  ⟨h.1.trans hb, fun k h1 h2 => by
    rw [hk k (Nat.lt_of_lt_of_le h1 h.1.size) fun e => ?_, h.2 k h1 h2]
    rcases hx with q | ⟨k2, q, q2⟩
    · exact h2 (q ▸ e)
    · rw [q] at e; cases e; omega⟩
theorem At.step {w w1 : World} {v x y : Value} (hx : At w v x) (hw : w.heap.size ≤ w1.heap.size) (hy : y.ownBlock = x.ownBlock ∨ ∃ k, y.ownBlock = some k ∧ w1.heap.size ≤ k) : At w v y := by
  rcases hy with q | ⟨k, q, q2⟩
  · rcases hx with e | ⟨k2, e, e2⟩
    · exact Or.inl (q.trans e)
    · exact Or.inr ⟨k2, q.trans e, e2⟩
  · exact Or.inr ⟨k, q, by omega⟩
theorem At.self (w : World) (v : Value) : At w v v := Or.inl rfl
/-- Whatever was full of m stays so. -/
def Fu (m : Int) (w w' : World) : Prop := ∀ b u k, Own w b u (List.replicate k m) → Own w' b u (List.replicate k m)
theorem own_set {w : World} {base n cap k : Nat} {sp : Option Addr} {zs : List Int} {m : Int} (h : Own w base (.slice sp n cap) zs) (hk : k < zs.length) : ∃ g, sp = some ⟨g, 0, none⟩ ∧ base ≤ g ∧ w.cell? ⟨g, k, none⟩ = some (.int .u8 (zs.getD k 0)) ∧ w.frozen? ⟨g, k, none⟩ = false ∧ Own (w.setCell ⟨g, k, none⟩ (.int .u8 m)) base (.slice sp n cap) (zs.set k m) := by
  rcases own_parts h with ⟨_, h0⟩ | ⟨g, cap2, rest, e, hg, hI, hc, hm, hr⟩
  · rw [h0] at hk; simp at hk
  · simp only [Value.slice.injEq] at e
    obtain ⟨rfl, rfl, rfl⟩ := e
    refine ⟨g, rfl, hg, hI.cell k hk, frozen_of_row _ _ _ _ _ hI, ?_⟩
    have := own_in (hI.set k m hk) hg (by rw [List.length_set]; exact hc) hm (by rw [List.length_set]; exact hr)
    rwa [List.length_set] at this
set_option maxRecDepth 100000 in
set_option maxHeartbeats 4000000 in
theorem put_any (w : World) (base B : Nat) (v1 v2 v3 v4 : Value) (L1 L2 L3 L4 : List Value) (ns : List Nat) (h : Bk w base B v1 v2 v3 v4 L1 L2 L3 L4 ns) (hN : ns.length ≤ 4000000000000)
    (v : Value) (n : Nat) (os : List Int) (hO : Own w base v os) (hn : os.length = n) (hn1 : n ≤ 4000000) (ho : ∀ g, v.ownBlock = some g → Off g L1 L2 L3 L4) :
    Calls Try.prog 24 #[.pointer (some ⟨B, 0, none⟩), v] w fun e w' => e = .returned (.tuple #[]) ∧ ∃ v1' v2' v3' v4' x2 x3 x4,
      Bk w' base B v1' v2' v3' v4' (L1 ++ [v]) (L2 ++ [x2]) (L3 ++ [x3]) (L4 ++ [x4]) (ns ++ [n]) ∧
      At w v x2 ∧ At w v x3 ∧ At w v x4 ∧ At w v1 v1' ∧ At w v2 v2' ∧ At w v3 v3' ∧ At w v4 v4' ∧
      (∀ k, k < w.heap.size → v.ownBlock ≠ some k → k ≠ B → v1.ownBlock ≠ some k → v2.ownBlock ≠ some k → v3.ownBlock ≠ some k → v4.ownBlock ≠ some k → w'.heap[k]? = w.heap[k]?) ∧ Below base w w' := by
  obtain ⟨s1, c1, b1, hv1, hvz⟩ := h.o1.at
  clear hvz
  have hl1 := h.en.1
  rw [hl1] at hv1
  have z1 : w.cell? ⟨B, 0, none⟩ = some (.slice s1 ns.length c1) := by rw [cell_of_row _ _ _ _ _ _ h.bk, ← hv1]; rfl
  have i0 : (n : Int) ≤ 4000000 := by omega
  have i00 : (ns.length : Int) ≤ 4000000000000 := by omega
  have HV1 := hid hv1
  obtain ⟨sp, cap, rfl, hsrc, _⟩ := hO.form
  have hcn := hsrc.1
  have hcm := hsrc.2.1
  clear hsrc
  rw [hn] at hO ho hcn ⊢
  unfold maxLen at hcm
  have hbB : base ≤ w.heap.size := Nat.le_of_lt (Nat.lt_of_le_of_lt h.hb (hlt h.bk))
  replace hn := hid hn
  replace hbB := hid hbB
  have HO0 := hid hO
  have HH := hid h
  have HO1 := hid ho
  clear hv1 hl1 ho h
  go_enter Try.func24, Try.ntmps24
  go_wp2_with fail
  refine (mark_any w ns.length (by omega)).mono ?_
  rintro e w0 ⟨rfl, rfl⟩
  generalize hmm : mk ns.length = m at *
  have HM := hid hmm
  clear hmm z1
  go_wp2
  go_loopw [5] (fun i wr => ∃ k : Nat, k ≤ n ∧ i = .int .i64 k ∧ Own wr base (.slice sp n cap) (List.replicate k m ++ os.drop k) ∧ KV w0 base (.slice sp n cap) wr) (fun i _ => n - (intOf i).toNat)
  case atStart => exact ⟨0, by omega, rfl, hO, KV.refl _ _ _⟩
  case round =>
    clear hO
    obtain ⟨k, hk, rfl, hO, hK⟩ := hrel
    by_cases hkn : k < n
    · have i1 : (k : Int) < (n : Int) := by omega
      have hlen : (List.replicate k m ++ os.drop k).length = n := by rw [List.length_append, List.length_replicate, List.length_drop, hn.out]; omega
      obtain ⟨g, rfl, hg, c0, f0, hset⟩ := own_set (m := m) hO (by rw [hlen]; exact hkn)
      have HR := hid (show (List.replicate k m ++ os.drop k).set k m = List.replicate (k + 1) m ++ os.drop (k + 1) by
        have hko : k < os.length := by rw [hn.out]; exact hkn
        rw [List.set_append_right _ _ (by simp), List.length_replicate, Nat.sub_self, List.drop_eq_getElem_cons hko, List.set_cons_zero, List.replicate_succ', List.append_assoc]; rfl)
      replace hlen := hid hlen
      generalize (List.replicate k m ++ os.drop k).getD k 0 = zz at *
      replace hset := hid hset
      replace hO := hid hO
      go_wp2
      go_roundw
      case rel => exact ⟨k + 1, by omega, by go_num, (by rw [← HR.out]; exact hset.out), hK.step (At.self _ _) ((Below.refl _ _).setCell hg _) (fun kk _ q2 => heap_set_ne (show kk ≠ g from fun e => q2 (by rw [e]; rfl)))⟩
      case measure => simp [intOf]; omega
    · obtain rfl : k = n := by omega
      clear hkn
      rw [List.drop_of_length_le (by rw [hn.out]; exact Nat.le_refl _), List.append_nil] at hO
      have hsz0 := hK.1.size
      have KB1 := hid (show k + 1 ≤ 1000000000000 by omega)
      have KB2 := hid (show k + 2 ≤ 1000000000000 by omega)
      have HB := hid (fun (wz : World) (b : KV w0 base (.slice sp k cap) wz) => show base ≤ wz.heap.size from Nat.le_trans hbB.out b.1.size)
      replace hsz0 := hid hsz0
      go_wp2_with (first
        | (at_builtin; refine wpList_growM rfl (.tmp 26) (.tmp 28) rfl base _ k 1 m rfl hO (by decide) rfl KB1.out (HB.out _ hK) _ _ ?_; intro x2 wB O2 bB fB xB sB; have KVB := hK.step (At.self _ _) bB fB; have A2 := (At.self w0 (.slice sp k cap)).step hsz0.out xB; have OB := sB _ _ _ hO; clear bB fB xB sB)
        | (at_builtin; refine wpList_growM rfl (.tmp 30) (.tmp 33) rfl base _ k 2 m rfl OB (by decide) rfl KB2.out (HB.out _ KVB) _ _ ?_; intro x3 wC O3 bC fC xC sC; have KVC := KVB.step (At.self _ _) bC fC; have A3 := (At.self w0 (.slice sp k cap)).step KVB.1.size xC; have OC := sC _ _ _ OB; have O2C := sC _ _ _ O2; clear bC fC xC sC)
        | (at_builtin; refine wpList_growM rfl (.tmp 35) (.tmp 37) rfl base _ k 1 m rfl OC (by decide) rfl KB1.out (HB.out _ KVC) _ _ ?_; intro x4 wD O4 bD fD xD sD; have KVD := KVC.step (At.self _ _) bD fD; have A4 := (At.self w0 (.slice sp k cap)).step KVC.1.size xD; have OD := sD _ _ _ OC; have O2D := sD _ _ _ O2C; have O3D := sD _ _ _ O3; clear bD fD xD sD))
      clear OB OC O2 O2C O3 hO hK KVB KVC
      go_loopw [8, 9] (fun x j wr => ∃ t : Nat, t ≤ 299 ∧ j = .int .i64 (1 + t : Nat) ∧ Own wr base x (List.replicate (k + 1 + t) m) ∧ KV w0 base (.slice sp k cap) wr ∧ At w0 (.slice sp k cap) x ∧ Fu m wD wr) (fun _ j _ => 300 - (intOf j).toNat)
      case atStart => exact ⟨0, by omega, rfl, O4, KVD, A4, fun _ _ _ q => q⟩
      case round =>
        clear O4 KVD A4
        obtain ⟨t, ht, rfl, hX, hK, hA4, hF⟩ := hrel
        by_cases htn : t < 299
        · have i1 : ((1 + t : Nat) : Int) < 300 := by omega
          have HT := hid (show k + 1 + (t + 1) = k + 1 + t + 1 by omega)
          have KL := hid (show k + 1 + t + 1 ≤ 1000000000000 by omega)
          obtain ⟨tt, htt⟩ : ∃ tt, tt = 1 + t := ⟨_, rfl⟩
          rw [← htt]
          rw [← htt] at i1
          have Htt := hid htt
          clear htt
          go_wp2_with (first | (at_builtin; refine wpList_growM rfl (.tmp 43) (.tmp 45) rfl base _ (k + 1 + t) 1 m rfl hX (by decide) rfl KL.out (HB.out _ hK) _ _ ?_; intro x5 wM hX2 bM fM xM sM; have hK2 := hK.step hA4 bM fM; have hA5 := hA4.step hK.1.size xM; have hF2 : Fu m wD wM := fun b u q r => sM b u q (hF b u q r)))
          go_roundw
          case rel => exact ⟨t + 1, by omega, by have := Htt.out; rw [show 1 + (t + 1) = tt + 1 by omega]; go_num, (by rw [HT.out]; exact hX2), hK2, hA5, hF2⟩
          case measure => have := Htt.out; simp [intOf]; omega
        · obtain rfl : t = 299 := by omega
          clear htn
          have hO4 : Own wr base u8 (List.replicate (k + 300) m) := hX
          have hBk := HH.out.keepsV HO0.out hK.2 HO1.out
          have PE := hBk.pb
          have hEnE := hBk.en
          have hO1 := hF _ _ _ OD
          have hO2 := hF _ _ _ O2D
          have hO3 := hF _ _ _ O3D
          have fl1 : FL wr (.slice sp k cap) m k := FL.of_own hO1
          have fl2 := FL.of_own hO2
          have fl3 := FL.of_own hO3
          have fl4 := FL.of_own hO4
          obtain ⟨y2, cy2, rfl⟩ := fl2.form
          obtain ⟨y3, cy3, rfl⟩ := fl3.form
          obtain ⟨y4, cy4, rfl⟩ := fl4.form
          have KX1 := hid (show (Value.slice sp k cap).oneCell' = true from rfl)
          have KX2 := hid (show (Value.slice y2 (k + 1) cy2).oneCell' = true from rfl)
          have KX3 := hid (show (Value.slice y3 (k + 2) cy3).oneCell' = true from rfl)
          have KX4 := hid (show (Value.slice y4 (k + 300) cy4).oneCell' = true from rfl)
          obtain ⟨ln1, ln2, ln3, ln4, _⟩ := id hEnE
          have KL1 := hid (show L1.length + [(Value.slice sp k cap)].length ≤ 5000000000000 by rw [ln1]; simp; omega)
          have KL2 := hid (show L2.length + [(Value.slice y2 (k + 1) cy2)].length ≤ 5000000000000 by rw [ln2]; simp; omega)
          have KL3 := hid (show L3.length + [(Value.slice y3 (k + 2) cy3)].length ≤ 5000000000000 by rw [ln3]; simp; omega)
          have KL4 := hid (show L4.length + [(Value.slice y4 (k + 300) cy4)].length ≤ 5000000000000 by rw [ln4]; simp; omega)
          have BE : Below base w0 wr := hK.1
          have KB := hid (fun (wz : World) (b : Below base w0 wz) => show base ≤ wz.heap.size from Nat.le_trans hbB.out b.size)
          have cE : wr.cell? ⟨B, 0, none⟩ = some v1 := by rw [cell_of_row _ _ _ _ _ _ PE.bk]; rfl
          have Hfl := hid (And.intro fl1 (And.intro fl2 (And.intro fl3 fl4)))
          have HEn := hid hEnE
          have HAt := hid (And.intro A2 (And.intro A3 hA4))
          replace hK := hid hK
          have HPE := hid PE
          clear fl1 fl2 fl3 fl4 hEnE hX hO4 hF OD O2D O3D hO1 hO2 hO3 hBk ln1 ln2 ln3 ln4 A2 A3 hA4
          go_wp2_with (first
        | (at_builtin; refine wpList_pushS rfl (.tmp 51) (.tmp 53) rfl base _ _ [.slice sp k cap] rfl PE.o1 rfl (by intro y hy; rw [List.mem_singleton.1 hy]; exact KX1.out) KL1.out (KB.out _ BE) _ _ ?_; intro v1' w1F q1 q2 q3 q4; obtain ⟨e1, P1, F1⟩ := PE.push1 q1 q2 q3 q4; have T1 := q4; obtain ⟨sa1, ca1, bz1, hva1, hz1⟩ := q1.at; clear hz1; have BL1 := BE.trans F1.1; clear q1 q2 q3 q4; have cc1 : w1F.cell? ⟨B, 0, none⟩ = some v1 := (by rw [cell_of_row _ _ _ _ _ _ e1]; rfl); have ff1 : w1F.frozen? ⟨B, 0, none⟩ = false := frozen_of_row _ _ _ _ _ e1; have cn1 : (w1F.setCell ⟨B, 0, none⟩ v1').cell? ⟨B, 1, none⟩ = some v2 := (by rw [cell_of_row _ _ _ _ _ _ P1.bk]; rfl); have cm1 : w1F.cell? ⟨B, 1, none⟩ = some v2 := (by rw [cell_of_row _ _ _ _ _ _ e1]; rfl); simp only [List.length_append, List.length_cons, List.length_nil, Nat.zero_add] at hva1; subst hva1)
        | (at_builtin; refine wpList_pushS rfl (.tmp 61) (.tmp 63) rfl base _ _ [.slice y2 (k + 1) cy2] rfl P1.o2 (by rw [World.size_setCell]; rfl) (by intro y hy; rw [List.mem_singleton.1 hy]; exact KX2.out) KL2.out (KB.out _ BL1) _ _ ?_; intro v2' w2F q1 q2 q3 q4; obtain ⟨e2, P2, F2⟩ := P1.push2 q1 q2 q3 q4; have T2 := q4; obtain ⟨sa2, ca2, bz2, hva2, hz2⟩ := q1.at; clear hz2; have BL2 := BL1.trans F2.1; clear q1 q2 q3 q4; have cc2 : w2F.cell? ⟨B, 1, none⟩ = some v2 := (by rw [cell_of_row _ _ _ _ _ _ e2]; rfl); have ff2 : w2F.frozen? ⟨B, 1, none⟩ = false := frozen_of_row _ _ _ _ _ e2; have cn2 : (w2F.setCell ⟨B, 1, none⟩ v2').cell? ⟨B, 2, none⟩ = some v3 := (by rw [cell_of_row _ _ _ _ _ _ P2.bk]; rfl); have cm2 : w2F.cell? ⟨B, 2, none⟩ = some v3 := (by rw [cell_of_row _ _ _ _ _ _ e2]; rfl); simp only [List.length_append, List.length_cons, List.length_nil, Nat.zero_add] at hva2; subst hva2)
        | (at_builtin; refine wpList_pushS rfl (.tmp 71) (.tmp 73) rfl base _ _ [.slice y3 (k + 2) cy3] rfl P2.o3 (by rw [World.size_setCell]; rfl) (by intro y hy; rw [List.mem_singleton.1 hy]; exact KX3.out) KL3.out (KB.out _ BL2) _ _ ?_; intro v3' w3F q1 q2 q3 q4; obtain ⟨e3, P3, F3⟩ := P2.push3 q1 q2 q3 q4; have T3 := q4; obtain ⟨sa3, ca3, bz3, hva3, hz3⟩ := q1.at; clear hz3; have BL3 := BL2.trans F3.1; clear q1 q2 q3 q4; have cc3 : w3F.cell? ⟨B, 2, none⟩ = some v3 := (by rw [cell_of_row _ _ _ _ _ _ e3]; rfl); have ff3 : w3F.frozen? ⟨B, 2, none⟩ = false := frozen_of_row _ _ _ _ _ e3; have cn3 : (w3F.setCell ⟨B, 2, none⟩ v3').cell? ⟨B, 3, none⟩ = some v4 := (by rw [cell_of_row _ _ _ _ _ _ P3.bk]; rfl); have cm3 : w3F.cell? ⟨B, 3, none⟩ = some v4 := (by rw [cell_of_row _ _ _ _ _ _ e3]; rfl); simp only [List.length_append, List.length_cons, List.length_nil, Nat.zero_add] at hva3; subst hva3)
        | (at_builtin; refine wpList_pushS rfl (.tmp 81) (.tmp 83) rfl base _ _ [.slice y4 (k + 300) cy4] rfl P3.o4 (by rw [World.size_setCell]; rfl) (by intro y hy; rw [List.mem_singleton.1 hy]; exact KX4.out) KL4.out (KB.out _ BL3) _ _ ?_; intro v4' w4F q1 q2 q3 q4; obtain ⟨e4, P4, F4⟩ := P3.push4 q1 q2 q3 q4; have T4 := q4; obtain ⟨sa4, ca4, bz4, hva4, hz4⟩ := q1.at; clear hz4; have BL4 := BL3.trans F4.1; clear q1 q2 q3 q4; have cc4 : w4F.cell? ⟨B, 3, none⟩ = some v4 := (by rw [cell_of_row _ _ _ _ _ _ e4]; rfl); have ff4 : w4F.frozen? ⟨B, 3, none⟩ = false := frozen_of_row _ _ _ _ _ e4; simp only [List.length_append, List.length_cons, List.length_nil, Nat.zero_add] at hva4; subst hva4))
          have y1' := By.of_fr F1 HPE.out.o1 HPE.out.bk
          have y2' := By.of_fr F2 P1.o2 P1.bk
          have y3' := By.of_fr F3 P2.o3 P2.bk
          have y4' := By.of_fr F4 P3.o4 P3.bk
          have yA := ((y1'.trans y2').trans y3').trans y4'
          obtain ⟨fl1, fl2, fl3, fl4⟩ := Hfl.out
          have EN := Ents.snoc (HEn.out.by yA) (n := k) (by rw [HM.out]; exact fl1.by yA) (by rw [HM.out]; exact fl2.by yA) (by rw [HM.out]; exact fl3.by yA) (by rw [HM.out]; exact fl4.by yA)
          have z0 := hK.out.1.size
          have z1 := F1.1.size
          have z2 := F2.1.size
          have z3 := F3.1.size
          obtain ⟨t2, t3, t4⟩ := HAt.out
          go_end0
          refine ⟨rfl, _, _, _, _, _, _, _, ⟨P4.hb, P4.bk, P4.o1, P4.o2, P4.o3, P4.o4, P4.d12, P4.d13, P4.d14, P4.d23, P4.d24, P4.d34, EN⟩, t2, t3, t4, fresh_le T1 (by omega), fresh_le T2 (by omega), fresh_le T3 (by omega), fresh_le T4 (by omega), fun q a1 a2 a3 a4 a5 a6 a7 => ?_, BL4⟩
          rw [F4.2 q (by omega) a3 a7, F3.2 q (by omega) a3 a6, F2.2 q (by omega) a3 a5, F1.2 q (by omega) a3 a4, hK.out.2 q a1 a2]
end Go.Proofs.Ytihkjfbhmlfonaa.Bo
