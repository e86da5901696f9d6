import Derived.Test.YtaoongjdneaccaaDoorKt
import Derived.ArgAppend
namespace Go.Proofs.YtaoongjdneaccaaDoor
set_option linter.unusedVariables false
set_option linter.unusedSimpArgs false
open Go.RowKit
attribute [local go_sem ↓] Go.wp_at_zero Go.wp_at_succ

/-! Lists that are full of one mark, which may share a block. -/
theorem own_rep {w : World} {base g n cap : Nat} {m : Int} {cur : Array Value} (hh : w.heap[g]? = some (.cells cur 5 (0, 0))) (hg : base ≤ g) (hn : n ≤ cap) (hm : cap ≤ maxLen) (hs : cur.size = cap) (hc : ∀ j, j < n → cur[j]? = some (.int .u8 m)) :
    Own w base (.slice (some ⟨g, 0, none⟩) n cap) (List.replicate n m) := by
  refine ⟨by rw [ints_len, List.length_replicate, Nat.mul_one], Or.inr ⟨g, cap, cur, by rw [List.length_replicate], hg, hh, by rw [List.length_replicate]; exact hn, hm, by omega, ?_⟩⟩
  apply List.ext_getElem?
  intro j
  rw [List.length_replicate, Nat.mul_one, List.getElem?_take]
  by_cases hj : j < n
  · rw [if_pos hj, ints_get .u8 _ j (by rw [List.length_replicate]; exact hj), List.getD_eq_getElem?_getD, List.getElem?_replicate, if_pos hj]
    have := hc j hj
    simpa using this
  · rw [if_neg hj, List.getElem?_eq_none (by rw [ints_len, List.length_replicate]; omega)]
theorem rep_own {w : World} {base n : Nat} {v : Value} {m : Int} (h : Own w base v (List.replicate n m)) : (v = .slice none 0 0 ∧ n = 0) ∨ ∃ g cap cur, v = .slice (some ⟨g, 0, none⟩) n cap ∧ base ≤ g ∧ w.heap[g]? = some (.cells cur 5 (0, 0)) ∧ n ≤ cap ∧ cap ≤ maxLen ∧ cur.size = cap ∧ ∀ j, j < n → cur[j]? = some (.int .u8 m) := by
  obtain ⟨h1, ⟨rfl, hn⟩ | ⟨g, cap, cur, rfl, hg, hh, hc, hm, hs, ht⟩⟩ := h
  · rw [List.length_replicate] at hn; exact Or.inl ⟨rfl, hn⟩
  · rw [List.length_replicate] at hc ht
    refine Or.inr ⟨g, cap, cur, by rw [List.length_replicate], hg, hh, hc, hm, by omega, fun j hj => ?_⟩
    have hg2 := ints_get .u8 (List.replicate n m) j (by rw [List.length_replicate]; exact hj)
    rw [← ht, List.getElem?_take, if_pos (by omega), List.getD_eq_getElem?_getD, List.getElem?_replicate, if_pos hj] at hg2
    simpa using hg2
/-- Marks written from place o on. -/
theorem marks_row (g : Nat) (m : Int) : ∀ (c o : Nat) (w : World) (cur : Array Value), w.heap[g]? = some (.cells cur 5 (0, 0)) → ∃ cur', (w.setCells g o (ints .u8 (List.replicate c m))).heap[g]? = some (.cells cur' 5 (0, 0)) ∧ cur'.size = cur.size ∧ (∀ j, j < cur.size → cur'[j]? = if o ≤ j ∧ j < o + c then some (.int .u8 m) else cur[j]?) ∧ Keeps g w (w.setCells g o (ints .u8 (List.replicate c m)))
  | 0, o, w, cur, h => ⟨cur, h, rfl, fun j hj => by rw [if_neg (by omega)], Keeps.refl g w⟩
  | c + 1, o, w, cur, h => by
    have e : ints .u8 (List.replicate (c + 1) m) = .int .u8 m :: ints .u8 (List.replicate c m) := by rw [List.replicate_succ]; rfl
    rw [e]
    have h1 : (w.setCell ⟨g, o, none⟩ (.int .u8 m)).heap[g]? = some (.cells (cur.setIfInBounds o (.int .u8 m)) 5 (0, 0)) := by
      rw [heap_setCell_same _ _ _ _ _ _ h]
    obtain ⟨cur', a1, a2, a3, a4⟩ := marks_row g m c (o + 1) _ _ h1
    refine ⟨cur', a1, by rw [a2]; simp, fun j hj => ?_, ⟨a4.os, a4.tape, a4.output, by have := a4.size; rw [World.size_setCell] at this; exact this, fun k h1 h2 => ?_⟩⟩
    · rw [a3 j (by simpa using hj)]
      by_cases q1 : o + 1 ≤ j ∧ j < o + 1 + c
      · rw [if_pos q1, if_pos (by omega)]
      · rw [if_neg q1, Array.getElem?_setIfInBounds]
        by_cases q2 : o = j
        · rw [if_pos q2, if_pos (by omega), if_pos (by omega)]
        · rw [if_neg q2, if_neg (by omega)]
    · show ((w.setCell ⟨g, o, none⟩ (.int .u8 m)).setCells g (o + 1) _).heap[k]? = _
      rw [a4.block k (by rw [World.size_setCell]; exact h1) h2, heap_setCell_other w ⟨g, o, none⟩ k _ h2]
/-- append(full of m, m ..): the answer is full of m, and whatever was full of m stays so, in that block or in another. -/
theorem wpList_growM {w : World} {ops : Array Oper} {rest : List Oper} {o : Oper} {a : Act} {Q : Exit → Act → World → Prop} (hgd : o.guard = none) (s x : Operand)
    (ho : o.op = .call { callee := .builtin .append, args := #[s, x], argTypes := #[29, 29] })
    (base : Nat) (v : Value) (n c : Nat) (m : Int) (hs : a.eval s = v) (hown : Own w base v (List.replicate n m)) (hc0 : 0 < c) (hx : a.eval x = .slice (some ⟨w.heap.size, 0, none⟩) c c)
    (hlen : n + c ≤ 1000000000000) (hbase : base ≤ w.heap.size) (t : TypeId) (fr : Nat × Nat)
    (h : ∀ v' w', Own w' base v' (List.replicate (n + c) m) → Below base w w' → (∀ k, k < w.heap.size → v.ownBlock ≠ some k → w'.heap[k]? = w.heap[k]?) → (v'.ownBlock = v.ownBlock ∨ ∃ k, v'.ownBlock = some k ∧ w.heap.size ≤ k) →
      (∀ b u k, Own w b u (List.replicate k m) → Own w' b u (List.replicate k m)) → wpList Tryd.prog ops Q rest (a.put o.dst v') w') :
    wpList Tryd.prog ops Q (o :: rest) a (w.alloc (.cells (ints .u8 (List.replicate c m)).toArray t fr)) := by
  obtain ⟨i5, hi5, hz5, hs5, hy5⟩ := Tryd.info5
  have bA : Below w.heap.size w (w.alloc (.cells (ints .u8 (List.replicate c m)).toArray t fr)) := (Below.refl _ _).alloc (Nat.le_refl _) _
  have lc : (ints .u8 (List.replicate c m)).length = c := by rw [ints_len, List.length_replicate]
  have ln : (ints .u8 (List.replicate n m)).length = n := by rw [ints_len, List.length_replicate]
  have hN : ∀ j u, (ints .u8 (List.replicate c m))[j]? = some u → (w.alloc (.cells (ints .u8 (List.replicate c m)).toArray t fr)).cell? ((⟨w.heap.size, 0, none⟩ : Addr).add j) = some u := fun j u hu => by
    rw [Addr.add_mid, Nat.zero_add, cell_of_row _ _ _ _ _ _ (hnew w _)]
    simpa using hu
  have fin : ∀ v' w', w'.ownsRow (w.alloc (.cells (ints .u8 (List.replicate c m)).toArray t fr)).heap.size 5 1 v' (n + c) (ints .u8 (List.replicate n m) ++ ints .u8 (List.replicate c m)) → (w.alloc (.cells (ints .u8 (List.replicate c m)).toArray t fr)).grownBy w' none → wpList Tryd.prog ops Q rest (a.put o.dst v') w' := by
    intro v' w' q1 q2
    have bB : Below w.heap.size w w' := bA.trans (grown_keeps q2 (fun k hk => by cases hk) (by simp))
    have q3 : Own w' (w.alloc (.cells (ints .u8 (List.replicate c m)).toArray t fr)).heap.size v' (List.replicate n m ++ List.replicate c m) := Own.mk_append (by rw [List.length_replicate, List.length_replicate]; exact q1)
    rw [List.replicate_append_replicate] at q3
    have hsz : w.heap.size ≤ (w.alloc (.cells (ints .u8 (List.replicate c m)).toArray t fr)).heap.size := by simp
    refine h v' w' ⟨q3.1, q3.2.imp id fun ⟨g, cap, cur, e, hg, r⟩ => ⟨g, cap, cur, e, by omega, r⟩⟩ (bB.mono hbase) (fun k hk _ => bB.block k hk) ?_ (fun b u k hu => hu.below bB (Nat.le_refl _))
    rcases rep_own q3 with ⟨_, hn⟩ | ⟨g', cap', cur, e1, e2, _⟩
    · omega
    · exact Or.inr ⟨g', by rw [e1]; rfl, by omega⟩
  rcases rep_own hown with ⟨rfl, rfl⟩ | ⟨g, cap, cur, rfl, hg, hh, hn, hm, hsz, hc⟩
  · exact wpList_append_grows _ hgd s x 29 ho 5 i5 (.int .u8 0) 1 1 Tryd.underlying29 hi5 hz5 hs5 hy5 rfl Nat.one_pos none 0 0 (ints .u8 (List.replicate 0 m)) hs (fun _ => ⟨rfl, rfl⟩) (by rw [ln]) (fun b hb => by cases hb) ⟨w.heap.size, 0, none⟩ c c (ints .u8 (List.replicate c m)) hx (by rw [lc]; omega) hN (ints_one _ _) (by omega) (by unfold maxLen; omega) (by omega) fin
  · have hhA : (w.alloc (.cells (ints .u8 (List.replicate c m)).toArray t fr)).heap[g]? = some (.cells cur 5 (0, 0)) := hold hh
    refine wpList_append_arg _ hgd s x 29 ho 5 i5 (.int .u8 0) 1 1 Tryd.underlying29 hi5 hz5 hs5 hy5 rfl Nat.one_pos g 0 n cap (ints .u8 (List.replicate n m)) hs (by rw [ln]; omega) ?_ ⟨w.heap.size, 0, none⟩ c c (ints .u8 (List.replicate c m)) hx (by rw [lc]; omega) hN (ints_one _ _) ?_ (by unfold maxLen; omega) (by omega) ?_ (fun _ => fin)
    · intro j u hu
      have hj : j < n := by have := (List.getElem?_eq_some_iff.1 hu).1; rwa [ln] at this
      rw [ints_get .u8 _ j (by rw [List.length_replicate]; exact hj), List.getD_eq_getElem?_getD, List.getElem?_replicate, if_pos hj] at hu
      rw [Nat.zero_add, cell_of_row _ _ _ _ _ _ hhA, hc j hj]
      exact hu
    · intro hr j hj
      rw [lc] at hj
      refine ⟨?_, frozen_of_row _ _ _ _ _ hhA⟩
      rw [cell_of_row _ _ _ _ _ _ hhA, Array.getElem?_eq_getElem (by omega)]
      rfl
    · intro hr
      obtain ⟨cur', a1, a2, a3, a4⟩ := marks_row g m c (0 + n * 1) _ cur hhA
      have hszA : w.heap.size ≤ (w.alloc (.cells (ints .u8 (List.replicate c m)).toArray t fr)).heap.size := by simp
      refine h _ _ (own_rep a1 hg hr hm (by rw [a2, hsz]) fun j hj => ?_) ((bA.mono hbase).trans (a4.below_g hg (by omega))) (fun k hk hne => ?_) (Or.inl rfl) (fun b u k hu => ?_)
      · rw [a3 j (by omega)]
        by_cases q : j < n
        · rw [if_neg (by omega)]; exact hc j q
        · rw [if_pos (by omega)]
      · rw [a4.block k (by omega) (fun e => hne (by rw [e]; rfl))]
        exact bA.block k hk
      · rcases rep_own hu with ⟨rfl, rfl⟩ | ⟨g2, cap2, cur2, rfl, hg2, hh2, hn2, hm2, hsz2, hc2⟩
        · exact Own.nil _ _
        · by_cases q : g2 = g
          · subst q
            rw [hh] at hh2
            obtain rfl : cur = cur2 := by simpa using hh2
            refine own_rep a1 hg2 hn2 hm2 (by rw [a2, hsz2]) fun j hj => ?_
            rw [a3 j (by omega)]
            split
            · rfl
            · exact hc2 j hj
          · have e1 := a4.block g2 (by have := hlt hh2; omega) q
            exact own_rep (e1.trans (hold hh2)) hg2 hn2 hm2 hsz2 hc2
end Go.Proofs.YtaoongjdneaccaaDoor
