import Derived.Test.YtpohgnblikkagaaKp5
import Derived.Deep.DeepAppendRoom
namespace Go.Proofs.Ytpohgnblikkagaa
set_option linter.unusedVariables false
set_option linter.unusedSimpArgs false
open Go.RowKit
attribute [local go_sem ↓] Go.wp_at_zero Go.wp_at_succ

/-- The keeper's first list. -/
structure AP (w : World) (base B : Nat) (v1 v2 : Value) (L1 : List Value) (cs : List (List Int)) : Prop where
  hb : base ≤ B
  bk : w.heap[B]? = some (.cells #[v1, v2] 36 (0, 0))
  o1 : OwnK w base v1 L1
  l1 : L1.length = cs.length
  e1 : ∀ i, i < cs.length → Own w base (L1.getD i undef) (cs.getD i [])
  ap : ∀ i j, i < j → j < cs.length → DjB (L1.getD i undef) (L1.getD j undef)
theorem KP.ap' {w : World} {base B : Nat} {v1 v2 : Value} {L1 L2 : List Value} {zs : List (List Int)} (h : KP w base B v1 v2 L1 L2 zs) : AP w base B v1 v2 L1 zs := ⟨h.pk.hb, h.pk.bk, h.pk.o1, h.l1, h.e1, h.ap⟩
theorem AP.below {w w1 : World} {base B : Nat} {v1 v2 : Value} {L1 : List Value} {cs : List (List Int)} (h : AP w base B v1 v2 L1 cs) (hb : Below w.heap.size w w1) : AP w1 base B v1 v2 L1 cs :=
  ⟨h.hb, hbel hb h.bk (hlt h.bk), h.o1.of_heap fun k e => hb.block k (h.o1.heap k e).2.1, h.l1, fun i hi => (h.e1 i hi).below hb (Nat.le_refl _), h.ap⟩
theorem own_block5 {w : World} {base : Nat} {v : Value} {zs : List Int} (h : Own w base v zs) {k : Nat} (hk : v.ownBlock = some k) : base ≤ k ∧ ∃ cs, w.heap[k]? = some (.cells cs 5 (0, 0)) := by
  rcases h.2 with ⟨rfl, _⟩ | ⟨g, cap, cur, rfl, hg, hh, _⟩
  · simp [Value.ownBlock] at hk
  · simp [Value.ownBlock] at hk; subst hk; exact ⟨hg, cur, hh⟩
/-- A cell of a list written. -/
theorem own_set {w : World} {base : Nat} {v : Value} {zs : List Int} (h : Own w base v zs) (k : Nat) (hk : k < zs.length) : ∃ g cap cur, v = .slice (some ⟨g, 0, none⟩) zs.length cap ∧ base ≤ g ∧ w.heap[g]? = some (.cells cur 5 (0, 0)) ∧ w.cell? ⟨g, k, none⟩ = some (.int .u8 (zs.getD k 0)) ∧ ∀ x, Own (w.setCell ⟨g, k, none⟩ (.int .u8 x)) base v (zs.set k x) := by
  obtain ⟨h1, ⟨rfl, hn⟩ | ⟨g, cap, cur, rfl, hg, hh, hc, hm, hs, ht⟩⟩ := h
  · omega
  · have hcell : w.cell? ⟨g, k, none⟩ = some (.int .u8 (zs.getD k 0)) := by
      rw [cell_of_row _ _ _ _ _ _ hh]
      have hg2 := ints_get .u8 zs k hk
      rw [← ht, List.getElem?_take, if_pos (by omega)] at hg2
      simpa using hg2
    refine ⟨g, cap, cur, rfl, hg, hh, hcell, fun x => ⟨by rw [ints_len, List.length_set, Nat.mul_one], Or.inr ⟨g, cap, cur.setIfInBounds k (.int .u8 x), by rw [List.length_set], hg, ?_, by rw [List.length_set]; exact hc, hm, by rw [Array.size_setIfInBounds]; exact hs, ?_⟩⟩⟩
    · rw [heap_setCell_same _ _ _ _ _ _ hh]
    · rw [Array.toList_setIfInBounds, List.length_set, List.take_set, ht]
      simp [ints, List.map_set]
theorem AP.set {w : World} {base B : Nat} {v1 v2 : Value} {L1 : List Value} {cs : List (List Int)} (h : AP w base B v1 v2 L1 cs) (i : Nat) (hi : i < cs.length) (k : Nat) (hk : k < (cs.getD i []).length) :
    ∃ g cap cur, L1.getD i undef = .slice (some ⟨g, 0, none⟩) (cs.getD i []).length cap ∧ base ≤ g ∧ w.heap[g]? = some (.cells cur 5 (0, 0)) ∧ w.cell? ⟨g, k, none⟩ = some (.int .u8 ((cs.getD i []).getD k 0)) ∧ ∀ x, AP (w.setCell ⟨g, k, none⟩ (.int .u8 x)) base B v1 v2 L1 (cs.set i ((cs.getD i []).set k x)) := by
  obtain ⟨g, cap, cur, hv, hg, hh, hc, hset⟩ := own_set (h.e1 i hi) k hk
  refine ⟨g, cap, cur, hv, hg, hh, hc, fun x => ⟨h.hb, ?_, ?_, by simp [h.l1], fun j hj => ?_, fun a b hab hb => h.ap a b hab (by simpa using hb)⟩⟩
  · exact heap_set_far h.bk _ _ (ne_tyK h.bk hh (by decide))
  · exact h.o1.of_heap fun q e => by
      obtain ⟨_, _, c2, hq⟩ := h.o1.heap q e
      rw [hq]; exact heap_set_far hq _ _ (ne_tyK hq hh (by decide))
  · rw [List.length_set] at hj
    by_cases e : j = i
    · subst e
      rw [show (cs.set j ((cs.getD j []).set k x)).getD j [] = (cs.getD j []).set k x by simp [List.getD_eq_getElem?_getD, hj]]
      exact hset x
    · rw [show (cs.set i ((cs.getD i []).set k x)).getD j [] = cs.getD j [] by simp only [List.getD_eq_getElem?_getD]; rw [List.getElem?_set_ne (by omega)]]
      refine (h.e1 j hj).of_heap fun q eq => ?_
      obtain ⟨_, c2, hq⟩ := own_block5 (h.e1 j hj) eq
      have hne : q ≠ g := by
        rintro rfl
        have e2 : (L1.getD i undef).ownBlock = some q := by rw [hv]; rfl
        rcases Nat.lt_or_gt_of_ne e with h1 | h1
        · exact h.ap j i h1 hi q eq e2
        · exact h.ap i j h1 hj q e2 eq
      rw [hq]; exact heap_set_far hq _ _ hne
theorem AP.rws {w : World} {base B : Nat} {v1 v2 : Value} {L1 : List Value} {cs : List (List Int)} (h : AP w base B v1 v2 L1 cs) : ∃ sp cap, v1 = .slice sp cs.length cap ∧ Rws w sp cs := by
  obtain ⟨sp, cap, b, e, hc, _, hp, hcell⟩ := h.o1.at
  rw [h.l1] at e
  by_cases h0 : 0 < cs.length
  · obtain ⟨b2, _, e2, _, l2, _⟩ := h.o1.el 0 (by rw [h.l1]; exact h0)
    rw [e, h.l1] at e2
    have hsp := hp (by rw [h.l1]; exact h0)
    refine ⟨sp, cap, e, b, 0, ?_, fun _ => hsp, fun r hr => ?_⟩
    · cases e2; cases hsp; exact l2
    · obtain ⟨sp', c, e3, hS, hn⟩ := (h.e1 r hr).form
      refine ⟨sp', c, ?_, hn, hS⟩
      rw [Nat.zero_add, hcell r (by rw [h.l1]; exact hr), e3]
  · exact ⟨sp, cap, e, B, 0, hlt h.bk, fun h1 => absurd h1 h0, fun r hr => absurd (Nat.lt_of_le_of_lt (Nat.zero_le _) hr) h0⟩
end Go.Proofs.Ytpohgnblikkagaa
