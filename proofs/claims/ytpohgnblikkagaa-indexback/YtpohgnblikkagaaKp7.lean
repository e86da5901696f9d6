import Derived.Test.YtpohgnblikkagaaKp6
import Derived.Deep.DeepAppendRoom
import Derived.ArgAppend
namespace Go.Proofs.Ytpohgnblikkagaa
set_option linter.unusedVariables false
set_option linter.unusedSimpArgs false
open Go.RowKit
attribute [local go_sem ↓] Go.wp_at_zero Go.wp_at_succ

/-- append(own, x): what was in the list's block up to its length stays there, moved or not. -/
theorem wpList_growK {w : World} {ops : Array Oper} {rest : List Oper} {o : Oper} {a : Act} {Q : Exit → Act → World → Prop} (hgd : o.guard = none) (s x : Operand)
    (ho : o.op = .call { callee := .builtin .append, args := #[s, x], argTypes := #[26, 26] })
    (base : Nat) (v : Value) (zs : List Int) (y : Int) (hs : a.eval s = v) (hown : Own w base v zs) (hx : a.eval x = .slice (some ⟨w.heap.size, 0, none⟩) 1 1)
    (hlen : zs.length + 1 ≤ 140737488355328) (hbase : base ≤ w.heap.size) (t : TypeId) (fr : Nat × Nat)
    (h : ∀ v' w', Own w' base v' (zs ++ [y]) → Below base w w' → (∀ k, k < w.heap.size → v.ownBlock ≠ some k → w'.heap[k]? = w.heap[k]?) → (v'.ownBlock = v.ownBlock ∨ ∃ k, v'.ownBlock = some k ∧ w.heap.size ≤ k) →
      (∀ g j, v.ownBlock = some g → j < zs.length → w'.cell? ⟨g, j, none⟩ = some (.int .u8 (zs.getD j 0))) → (∀ g, v.ownBlock = some g → ∃ cur, w'.heap[g]? = some (.cells cur 5 (0, 0))) → wpList Try.prog ops Q rest (a.put o.dst v') w') :
    wpList Try.prog ops Q (o :: rest) a (w.alloc (.cells #[.int .u8 y] t fr)) := by
  obtain ⟨i5, hi5, hz5, hs5, hy5⟩ := Try.info5
  have bA : Below w.heap.size w (w.alloc (.cells #[.int .u8 y] t fr)) := (Below.refl _ _).alloc (Nat.le_refl _) _
  have hownA := own_pushes hown (.cells #[.int .u8 y] t fr)
  have hN : ∀ j u, (ints .u8 [y])[j]? = some u → (w.alloc (.cells #[.int .u8 y] t fr)).cell? ((⟨w.heap.size, 0, none⟩ : Addr).add j) = some u := fun j u hu => by
    have hj : j = 0 := by
      have := (List.getElem?_eq_some_iff.1 hu).1
      simp [ints] at this; exact this
    subst hj
    rw [show (⟨w.heap.size, 0, none⟩ : Addr).add 0 = ⟨w.heap.size, 0, none⟩ from rfl, cell_of_row _ _ _ _ _ _ (hnew w _)]
    simpa [ints] using hu
  have grow : ∀ (ao : Option Addr) (cap : Nat), v = .slice ao zs.length cap → (ao = none → zs.length = 0 ∧ cap = 0) → (∀ b, ao = some b → ∃ g, b = ⟨g, 0, none⟩ ∧ ∀ j, j < zs.length → w.cell? ⟨g, j, none⟩ = some (.int .u8 (zs.getD j 0))) → cap < zs.length + 1 → wpList Try.prog ops Q (o :: rest) a (w.alloc (.cells #[.int .u8 y] t fr)) := by
    intro ao cap hv hnone hold0 hfull
    refine wpList_append_grows _ hgd s x 26 ho 5 i5 (.int .u8 0) 1 1 Try.underlying26 hi5 hz5 hs5 hy5 rfl Nat.one_pos ao zs.length cap (ints .u8 zs) (hs.trans hv) hnone (by rw [ints_len]; omega) ?_ ⟨w.heap.size, 0, none⟩ 1 1 (ints .u8 [y]) hx rfl hN (ints_one _ _) hfull (by unfold maxLen; omega) (by omega) ?_
    · intro b hb j u hu
      obtain ⟨g, rfl, hc⟩ := hold0 b hb
      have hj : j < zs.length := by have := (List.getElem?_eq_some_iff.1 hu).1; rwa [ints_len] at this
      rw [ints_get .u8 zs j hj] at hu
      have hg : g < w.heap.size := by
        have := hown.block g (by rw [hv, hb]; rfl)
        exact this.2
      rw [Addr.add_mid, Nat.zero_add, bA.cell (p := ⟨g, j, none⟩) hg, hc j hj]; exact hu
    · intro v' w' q1 q2
      have bB : Below w.heap.size w w' := bA.trans (grown_keeps q2 (fun k hk => by cases hk) (by simp))
      have q3 : Own w' (w.alloc (.cells #[.int .u8 y] t fr)).heap.size v' (zs ++ [y]) := Own.mk_append (xs := zs) (ys := [y]) q1
      refine h v' w' (own_base q3 (by simp; omega)) (bB.mono hbase) (fun k hk _ => bB.block k hk) ?_ ?_ (fun g hg => by obtain ⟨_, c2, h2⟩ := own_block5 hown hg; exact ⟨c2, hbel bB h2 (hlt h2)⟩)
      · rcases q3.2 with ⟨_, hn⟩ | ⟨g', cap', cur, e1, e2, _⟩
        · simp at hn
        · refine Or.inr ⟨g', by rw [e1]; rfl, by simp at e2; omega⟩
      · intro g j hg hj
        have hgl := (hown.block g hg).2
        rw [bB.cell (p := ⟨g, j, none⟩) hgl]
        rw [hv] at hg
        cases ao with
        | none => simp [Value.ownBlock] at hg
        | some b =>
          obtain ⟨g2, rfl, hc⟩ := hold0 b rfl
          simp [Value.ownBlock] at hg; subst hg
          exact hc j hj
  have hown0 := hown
  obtain ⟨h1, ⟨hv, hn⟩ | ⟨g, cap, cur, hv, hg, hh, hc, hm, hsz, ht⟩⟩ := hown0
  · exact grow none 0 (by rw [hv, hn]) (fun _ => ⟨hn, rfl⟩) (fun b hb => by cases hb) (by omega)
  · have hcell : ∀ (w9 : World) (c9 : Array Value) (_ : w9.heap[g]? = some (.cells c9 5 (0, 0))) (xs : List Int) (_ : c9.toList.take (xs.length * 1) = ints .u8 xs) (j : Nat) (_ : j < xs.length), w9.cell? ⟨g, j, none⟩ = some (.int .u8 (xs.getD j 0)) := fun w9 c9 h9 xs t9 j hj => by
      rw [cell_of_row _ _ _ _ _ _ h9]
      have hg2 := ints_get .u8 xs j hj
      rw [← t9, List.getElem?_take, if_pos (by omega)] at hg2
      simpa using hg2
    by_cases hr : zs.length + 1 ≤ cap
    · subst hv
      refine wpList_append_own_spare _ hgd s x 26 ho base 5 i5 1 Try.underlying26 hi5 hs5 g zs.length cap (ints .u8 zs) hs hownA ⟨w.heap.size, 0, none⟩ 1 1 (ints .u8 [y]) hx rfl hN (ints_one _ _) hr ?_
      intro w' q1 q2
      have q3 : Own w' base (.slice (some ⟨g, 0, none⟩) (zs.length + 1) cap) (zs ++ [y]) := Own.mk_append (xs := zs) (ys := [y]) q1
      refine h _ w' q3 ((bA.mono hbase).trans (grown_keeps q2 (fun k hk => by cases hk; exact hg) (by simp; omega))) (fun k hk hne => ?_) (Or.inl rfl) (fun g2 j e hj => ?_) (fun g2 e => (own_block5 q3 e).2)
      · rw [q2.block k (by simp; omega) (fun e => hne (show some g = some k from e.symm ▸ rfl))]
        exact bA.block k hk
      · simp [Value.ownBlock] at e; subst e
        obtain ⟨_, ⟨e1, _⟩ | ⟨g3, cap3, cur3, e1, _, h3, _, _, _, t3⟩⟩ := q3
        · cases e1
        · have e4 : g3 = g := by simp only [Value.slice.injEq, Option.some.injEq, Addr.mk.injEq] at e1; exact e1.1.1.symm
          subst e4
          have := hcell w' cur3 h3 (zs ++ [y]) t3 j (by simp; omega)
          rw [this, List.getD_eq_getElem?_getD, List.getD_eq_getElem?_getD, List.getElem?_append_left hj]
    · exact grow (some ⟨g, 0, none⟩) cap hv (fun e => by cases e) (fun b hb => by cases hb; exact ⟨g, rfl, fun j hj => hcell w cur hh zs ht j hj⟩) (by omega)
end Go.Proofs.Ytpohgnblikkagaa
