import Derived.Test.YtpohgnblikkagaaKp7
namespace Go.Proofs.Ytpohgnblikkagaa
set_option linter.unusedVariables false
set_option linter.unusedSimpArgs false
open Go.RowKit
attribute [local go_sem ↓] Go.wp_at_zero Go.wp_at_succ

/-- The lists with their marks, those below i grown by three hundred. -/
structure GR (w : World) (base B : Nat) (v1 v2 gv : Value) (L1 G : List Value) (cs : List (List Int)) (i : Nat) : Prop where
  hb : base ≤ B
  bk : w.heap[B]? = some (.cells #[v1, v2] 36 (0, 0))
  o1 : OwnK w base v1 L1
  og : OwnK w base gv G
  dj : DjB v1 gv
  l1 : L1.length = cs.length
  lg : G.length = i
  sr : ∀ r, r < cs.length → ∃ sp cap, L1.getD r undef = .slice sp (cs.getD r []).length cap ∧ (sp = none → cap = 0) ∧ Src w sp cap (cs.getD r []) ∧ ∀ g, (L1.getD r undef).ownBlock = some g → ∃ cur, w.heap[g]? = some (.cells cur 5 (0, 0))
  e1 : ∀ r, i ≤ r → r < cs.length → Own w base (L1.getD r undef) (cs.getD r [])
  eg : ∀ j, j < i → Own w base (G.getD j undef) (mksK j ((cs.getD j []).length + 300))
  ap : ∀ a b, a < b → b < cs.length → DjB (L1.getD a undef) (L1.getD b undef)
  ag : ∀ j r, j < i → i ≤ r → r < cs.length → DjB (G.getD j undef) (L1.getD r undef)
theorem AP.gr {w : World} {base B : Nat} {v1 v2 : Value} {L1 : List Value} {cs : List (List Int)} (h : AP w base B v1 v2 L1 cs) : GR w base B v1 v2 (.slice none 0 0) L1 [] cs 0 :=
  ⟨h.hb, h.bk, h.o1, OwnK.nil _ _, (DjB.nil _).symm, h.l1, rfl, fun r hr => by obtain ⟨sp, cap, e, hS, hn⟩ := (h.e1 r hr).form; exact ⟨sp, cap, e, hn, hS, fun g hg => (own_block5 (h.e1 r hr) hg).2⟩, fun r _ hr => h.e1 r hr, fun j hj => by omega, h.ap, fun j r hj => by omega⟩
/-- List i while it grows. -/
structure GI (w0 w : World) (base : Nat) (u v : Value) (i n t : Nat) : Prop where
  ow : Own w base v (mksK i (n + t))
  be : Below base w0 w
  fr : ∀ k, k < w0.heap.size → u.ownBlock ≠ some k → w.heap[k]? = w0.heap[k]?
  bl : v.ownBlock = u.ownBlock ∨ ∃ k, v.ownBlock = some k ∧ w0.heap.size ≤ k
  sr : ∀ g j, u.ownBlock = some g → j < n → w.cell? ⟨g, j, none⟩ = some (.int .u8 (mkK i j))
  ty : ∀ g, u.ownBlock = some g → ∃ cur, w.heap[g]? = some (.cells cur 5 (0, 0))
theorem GI.start {w : World} {base : Nat} {u : Value} {i n : Nat} (h : Own w base u (mksK i n)) : GI w w base u u i n 0 := by
  refine ⟨h, Below.refl _ _, fun _ _ _ => rfl, Or.inl rfl, fun g j hg hj => ?_, fun g hg => (own_block5 h hg).2⟩
  obtain ⟨g2, cap, cur, e, _, _, hc, _⟩ := own_set h j (by rw [mksK_len]; exact hj)
  rw [e] at hg; simp [Value.ownBlock] at hg; subst hg
  rw [hc, mksK_get _ _ _ hj]
theorem GI.step {w0 w w' : World} {base : Nat} {u v v' : Value} {i n t : Nat} (h : GI w0 w base u v i n t) (hu : ∀ k, u.ownBlock = some k → k < w0.heap.size) (hO : Own w' base v' (mksK i (n + t) ++ [mkK i (n + t)])) (hB : Below base w w')
    (q3 : ∀ k, k < w.heap.size → v.ownBlock ≠ some k → w'.heap[k]? = w.heap[k]?) (q4 : v'.ownBlock = v.ownBlock ∨ ∃ k, v'.ownBlock = some k ∧ w.heap.size ≤ k)
    (q5 : ∀ g j, v.ownBlock = some g → j < (mksK i (n + t)).length → w'.cell? ⟨g, j, none⟩ = some (.int .u8 ((mksK i (n + t)).getD j 0))) (q6 : ∀ g, v.ownBlock = some g → ∃ cur, w'.heap[g]? = some (.cells cur 5 (0, 0))) : GI w0 w' base u v' i n (t + 1) := by
  have hsz := h.be.size
  have hne : ∀ k, k < w0.heap.size → u.ownBlock ≠ some k → v.ownBlock ≠ some k := fun k hk hn e => by
    rcases h.bl with e2 | ⟨k2, e2, h2⟩
    · exact hn (e2 ▸ e)
    · rw [e2] at e; cases e; omega
  refine ⟨by rw [← Nat.add_assoc, mksK_succ]; exact hO, h.be.trans hB, fun k hk hn => (q3 k (by omega) (hne k hk hn)).trans (h.fr k hk hn), ?_, fun g j hg hj => ?_, fun g hg => ?_⟩
  · rcases q4 with e | ⟨k, e, hk⟩
    · rw [e]; exact h.bl
    · exact Or.inr ⟨k, e, by omega⟩
  · by_cases e : v.ownBlock = some g
    · rw [q5 g j e (by rw [mksK_len]; omega), mksK_get _ _ _ (by omega)]
    · have hg0 := hu g hg
      rw [← h.sr g j hg hj]
      have := q3 g (by omega) e
      simp only [World.cell?, this]
  · by_cases e : v.ownBlock = some g
    · exact q6 g e
    · obtain ⟨cur, hc⟩ := h.ty g hg
      exact ⟨cur, by rw [q3 g (hlt hc) e]; exact hc⟩
/-- List i has grown, and stands behind the grown ones. -/
theorem GR.next {w w2 w3 : World} {base B : Nat} {v1 v2 gv gv' v : Value} {L1 G : List Value} {cs : List (List Int)} {i : Nat} (h : GR w base B v1 v2 gv L1 G cs i) (hi : i < cs.length) (hm : cs.getD i [] = mksK i (cs.getD i []).length)
    (hI : GI w w2 base (L1.getD i undef) v i (cs.getD i []).length 300) (q1 : OwnK w3 base gv' (G ++ [v])) (q3 : ∀ k, k < w2.heap.size → gv.ownBlock ≠ some k → w3.heap[k]? = w2.heap[k]?)
    (q4 : gv'.ownBlock = gv.ownBlock ∨ ∃ k, gv'.ownBlock = some k ∧ w2.heap.size ≤ k) : GR w3 base B v1 v2 gv' L1 (G ++ [v]) cs (i + 1) := by
  have hsz := hI.be.size
  have hgT : ∀ k cur, w2.heap[k]? = some (.cells cur 5 (0, 0)) → gv.ownBlock ≠ some k := fun k cur hk e => by
    obtain ⟨_, hl, c2, h2⟩ := h.og.heap k e
    have hu : (L1.getD i undef).ownBlock ≠ some k := fun e2 => by
      obtain ⟨_, c3, h3⟩ := own_block5 (h.e1 i (Nat.le_refl _) hi) e2
      exact ne_tyK h2 h3 (by decide) rfl
    have := (hI.fr k hl hu).trans h2
    exact ne_tyK hk this (by decide) rfl
  have F : ∀ k, k < w.heap.size → (L1.getD i undef).ownBlock ≠ some k → gv.ownBlock ≠ some k → w3.heap[k]? = w.heap[k]? := fun k hk a b => (q3 k (by omega) b).trans (hI.fr k hk a)
  have uT : ∀ k cur t, w.heap[k]? = some (.cells cur t (0, 0)) → t ≠ 5 → (L1.getD i undef).ownBlock ≠ some k := fun k cur t hk ht e => by
    obtain ⟨_, c3, h3⟩ := own_block5 (h.e1 i (Nat.le_refl _) hi) e
    exact ne_tyK hk h3 ht rfl
  have F5 : ∀ k cur, w.heap[k]? = some (.cells cur 5 (0, 0)) → (L1.getD i undef).ownBlock ≠ some k → w3.heap[k]? = w.heap[k]? := fun k cur hk a => F k (hlt hk) a fun e => by
    obtain ⟨_, _, c2, h2⟩ := h.og.heap k e
    exact ne_tyK hk h2 (by decide) rfl
  have G5 : ∀ (k : Nat) (cur : Array Value), w2.heap[k]? = some (Obj.cells cur 5 (0, 0)) → w3.heap[k]? = some (Obj.cells cur 5 (0, 0)) := fun k cur hk => (q3 k (hlt hk) (hgT k cur hk)).trans hk
  have apn : ∀ r, r < cs.length → r ≠ i → DjB (L1.getD r undef) (L1.getD i undef) := fun r hr hne => by
    rcases Nat.lt_or_gt_of_ne hne with h1 | h1
    · exact h.ap r i h1 hi
    · exact (h.ap i r h1 hr).symm
  refine ⟨h.hb, ?_, ?_, q1, ?_, h.l1, by simp [h.lg], fun r hr => ?_, fun r hr1 hr => ?_, fun j hj => ?_, h.ap, fun j r hj hr1 hr => ?_⟩
  · rw [F B (hlt h.bk) (uT _ _ _ h.bk (by decide)) (ownK_ne h.og h.bk)]; exact h.bk
  · exact h.o1.of_heap fun k e => by
      obtain ⟨_, hl, c2, h2⟩ := h.o1.heap k e
      exact F k hl (uT _ _ _ h2 (by decide)) (fun e2 => h.dj k e e2)
  · intro k e1 e2
    obtain ⟨_, hl, _⟩ := h.o1.heap k e1
    rcases q4 with e | ⟨k2, e, hk⟩
    · exact h.dj k e1 (e ▸ e2)
    · rw [e] at e2; cases e2; omega
  · obtain ⟨sp, cap, e, hn, hS, hT⟩ := h.sr r hr
    by_cases hri : r = i
    · subst hri
      refine ⟨sp, cap, e, hn, ?_, fun g hg => by obtain ⟨cur, hc⟩ := hI.ty g hg; exact ⟨cur, G5 g cur hc⟩⟩
      obtain ⟨s1, s2, b, o, s3, s4, s5⟩ := hS
      by_cases h0 : 0 < (cs.getD r []).length
      · have hO := h.e1 r (Nat.le_refl _) hr
        obtain ⟨g, cap2, cur, e2, _, _, _, _⟩ := own_set hO 0 h0
        rw [e] at e2
        have hsp := s4 h0
        rw [hsp] at e2
        simp only [Value.slice.injEq, Option.some.injEq, Addr.mk.injEq] at e2
        obtain ⟨⟨rfl, rfl, _⟩, _, _⟩ := e2
        have hob : (L1.getD r undef).ownBlock = some b := by rw [e, hsp]; rfl
        obtain ⟨cur, hc⟩ := hI.ty b hob
        have hc3 := G5 b cur hc
        refine ⟨s1, s2, b, 0, fun _ => hlt hc3, fun _ => hsp, fun j hj => ?_⟩
        have := hI.sr b j hob hj
        rw [Nat.zero_add, show (cs.getD r []).getD j 0 = mkK r j by (have e9 := mksK_get r _ j hj; rw [← hm] at e9; exact e9), ← this]
        simp only [World.cell?, hc3, hc]
      · have hz : cs.getD r [] = [] := List.eq_nil_of_length_eq_zero (by omega)
        rw [hz]; exact Src.empty _ _ _ s2
    · have hd := apn r hr hri
      refine ⟨sp, cap, e, hn, ?_, fun g hg => by obtain ⟨cur, hc⟩ := hT g hg; exact ⟨cur, by rw [F5 g cur hc (fun e2 => hd g hg e2)]; exact hc⟩⟩
      obtain ⟨s1, s2, b, o, s3, s4, s5⟩ := hS
      by_cases h0 : 0 < (cs.getD r []).length
      · have hob : (L1.getD r undef).ownBlock = some b := by rw [e, s4 h0]; rfl
        obtain ⟨cur, hc⟩ := hT b hob
        have hc3 := F5 b cur hc (fun e2 => hd b hob e2)
        refine ⟨s1, s2, b, o, fun _ => hlt (hc3.trans hc), s4, fun j hj => ?_⟩
        rw [← s5 j hj]
        simp only [World.cell?, hc3]
      · have hz : cs.getD r [] = [] := List.eq_nil_of_length_eq_zero (by omega)
        rw [hz]; exact Src.empty _ _ _ s2
  · have hO := h.e1 r (by omega) hr
    exact hO.of_heap fun k e => by
      obtain ⟨_, cur, hc⟩ := own_block5 hO e
      exact F5 k cur hc (fun e2 => apn r hr (by omega) k e e2)
  · rw [getD_snocK, h.lg]
    by_cases e : j = i
    · rw [if_pos e]; subst e
      exact hI.ow.of_heap fun k e => by
        obtain ⟨_, cur, hc⟩ := own_block5 hI.ow e
        rw [G5 k cur hc, hc]
    · rw [if_neg e]
      have hO := h.eg j (by omega)
      exact hO.of_heap fun k e2 => by
        obtain ⟨_, cur, hc⟩ := own_block5 hO e2
        exact F5 k cur hc (fun e3 => h.ag j i (by omega) (Nat.le_refl _) hi k e2 e3)
  · rw [getD_snocK, h.lg]
    by_cases e : j = i
    · rw [if_pos e]
      intro k e1 e2
      have hO := h.e1 r (by omega) hr
      rcases hI.bl with e3 | ⟨k2, e3, hk⟩
      · exact apn r hr (by omega) k e2 (e3 ▸ e1)
      · rw [e3] at e1; cases e1
        obtain ⟨_, cur, hc⟩ := own_block5 hO e2
        have := hlt hc; omega
    · rw [if_neg e]; exact h.ag j r (by omega) (by omega) hr
end Go.Proofs.Ytpohgnblikkagaa
