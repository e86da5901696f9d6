import Derived.Test.YtpohgnblikkagaaKpA
namespace Go.Proofs.Ytpohgnblikkagaa
set_option linter.unusedVariables false
set_option linter.unusedSimpArgs false
open Go.RowKit

/-! A keeper among other things: rows that keep leaves, values that are apart from all that it holds. -/
theorem KP.of_ty {w w' : World} {base B : Nat} {v1 v2 : Value} {L1 L2 : List Value} {zs : List (List Int)} (h : KP w base B v1 v2 L1 L2 zs)
    (hk : ∀ (k : Nat) (cs : Array Value) (t : TypeId) (fr : Nat × Nat), w.heap[k]? = some (.cells cs t fr) → (t = 26 ∨ t = 36 ∨ t = 5) → w'.heap[k]? = some (.cells cs t fr)) : KP w' base B v1 v2 L1 L2 zs := by
  have hK : ∀ {v : Value} {vs : List Value}, OwnK w base v vs → OwnK w' base v vs := fun {v vs} ho => ho.of_heap fun k e => by
    obtain ⟨_, _, cs, hc⟩ := ho.heap _ e
    rw [hc]; exact hk _ _ _ _ hc (Or.inl rfl)
  have hO : ∀ {v : Value} {ys : List Int}, Own w base v ys → Own w' base v ys := fun {v ys} ho => ho.of_heap fun k e => by
    rcases ho.2 with ⟨rfl, _⟩ | ⟨g, cap, cur, rfl, hg, hh, _⟩
    · simp [Value.ownBlock] at e
    · simp [Value.ownBlock] at e; subst e; rw [hh]; exact hk _ _ _ _ hh (Or.inr (Or.inr rfl))
  exact ⟨⟨h.pk.hb, hk _ _ _ _ h.pk.bk (Or.inr (Or.inl rfl)), hK h.pk.o1, hK h.pk.o2, h.pk.dj⟩, h.l1, h.l2, fun i hi => hO (h.e1 i hi), fun i hi => hO (h.e2 i hi), h.ap⟩
theorem own_blk {w : World} {base : Nat} {v : Value} {zs : List Int} (h : Own w base v zs) {k : Nat} (e : v.ownBlock = some k) : base ≤ k ∧ k < w.heap.size ∧ ∃ cs, w.heap[k]? = some (.cells cs 5 (0, 0)) := by
  rcases h.2 with ⟨rfl, _⟩ | ⟨g, cap, cur, rfl, hg, hh, _⟩
  · simp [Value.ownBlock] at e
  · simp [Value.ownBlock] at e; subst e; exact ⟨hg, hlt hh, cur, hh⟩
theorem djb_lt {w1 w2 : World} {b1 b2 : Nat} {v1 v2 : Value} {z1 z2 : List Int} (h1 : Own w1 b1 v1 z1) (h2 : Own w2 b2 v2 z2) (h : w1.heap.size ≤ b2) : DjB v1 v2 := fun k e1 e2 => by
  have := (own_blk h1 e1).2.1
  have := (own_blk h2 e2).1
  omega
theorem own_of_row {w : World} {base g : Nat} {zs : List Int} (hg : w.heap[g]? = some (.cells (ints .u8 zs).toArray 5 (0, 0))) (hb : base ≤ g) (hm : zs.length ≤ maxLen) : Own w base (.slice (some ⟨g, 0, none⟩) zs.length zs.length) zs := by
  refine ⟨by rw [ints_len]; omega, Or.inr ⟨g, zs.length, _, rfl, hb, hg, Nat.le_refl _, hm, ?_, ?_⟩⟩
  · simp [ints_len]
  · rw [List.toList_toArray, Nat.mul_one, List.take_of_length_le (by rw [ints_len]; exact Nat.le_refl _)]
/-- The rows that keep leaves alone. -/
def Plain (t : Nat) : Prop := t ≠ 26 ∧ t ≠ 36
structure RS (w0 w : World) (B N : Nat) (ex : List Value) (rows : List (Nat × List Value × Nat)) : Prop where
  bel : Below w0.heap.size w0 w
  kp : ∃ v1 v2 L1 L2 zs, KP w w0.heap.size B v1 v2 L1 L2 zs ∧ zs.length ≤ N ∧ (∀ r, (zs.getD r []).length ≤ 140737488355000) ∧ ∀ x ∈ ex, ∀ r, r < zs.length → DjB (L1.getD r undef) x
  rw : ∀ x ∈ rows, w0.heap.size ≤ x.1 ∧ w.heap[x.1]? = some (.cells x.2.1.toArray x.2.2 (0, 0)) ∧ Plain x.2.2
theorem RS.call {w0 w w' : World} {B N : Nat} {ex : List Value} {rows : List (Nat × List Value × Nat)} (h : RS w0 w B N ex rows) (hb : Below w.heap.size w w') : RS w0 w' B N ex rows := by
  obtain ⟨v1, v2, L1, L2, zs, hk, h1, h2, h3⟩ := h.kp
  exact ⟨h.bel.trans (hb.mono h.bel.size), ⟨v1, v2, L1, L2, zs, hk.below hb, h1, h2, h3⟩, fun x hx => ⟨(h.rw x hx).1, hbel hb (h.rw x hx).2.1 (hlt (h.rw x hx).2.1), (h.rw x hx).2.2⟩⟩
theorem RS.drew {w0 w : World} {B N : Nat} {ex : List Value} {rows : List (Nat × List Value × Nat)} (h : RS w0 w B N ex rows) : RS w0 w.drew B N ex rows := h.call (Below.refl _ _).drew
theorem RS.alloc {w0 w : World} {B N : Nat} {ex : List Value} {rows : List (Nat × List Value × Nat)} (h : RS w0 w B N ex rows) (cs : List Value) (t : Nat) (ht : Plain t) : RS w0 (w.alloc (.cells cs.toArray t)) B N ex ((w.heap.size, cs, t) :: rows) := by
  have h2 := h.call ((Below.refl w.heap.size w).alloc (Nat.le_refl _) (.cells cs.toArray t))
  refine ⟨h2.bel, h2.kp, fun x hx => ?_⟩
  rcases List.mem_cons.1 hx with rfl | hx
  · exact ⟨h.bel.size, hnew w _, ht⟩
  · exact h2.rw x hx
theorem RS.put {w0 w : World} {B N : Nat} {ex : List Value} {rows : List (Nat × List Value × Nat)} (h : RS w0 w B N ex rows) {g t : Nat} {cs : List Value} (hg : w0.heap.size ≤ g) (hr : w.heap[g]? = some (.cells cs.toArray t (0, 0))) (ht : Plain t) : RS w0 w B N ex ((g, cs, t) :: rows) :=
  ⟨h.bel, h.kp, fun x hx => by
    rcases List.mem_cons.1 hx with rfl | hx
    · exact ⟨hg, hr, ht⟩
    · exact h.rw x hx⟩
theorem RS.row {w0 w : World} {B N : Nat} {ex : List Value} {rows : List (Nat × List Value × Nat)} (h : RS w0 w B N ex rows) {g t : Nat} {cs : List Value} (hm : (g, cs, t) ∈ rows) : w.heap[g]? = some (.cells cs.toArray t (0, 0)) := (h.rw _ hm).2.1
theorem RS.cell {w0 w : World} {B N : Nat} {ex : List Value} {rows : List (Nat × List Value × Nat)} (h : RS w0 w B N ex rows) {g t : Nat} {cs : List Value} (hm : (g, cs, t) ∈ rows) {j : Nat} {v : Value} (hv : cs[j]? = some v) : w.cell? ⟨g, j, none⟩ = some v := by
  rw [cell_of_row _ _ _ _ _ _ (h.row hm)]; simpa using hv
theorem RS.rng {w0 w : World} {B N : Nat} {ex : List Value} {rows : List (Nat × List Value × Nat)} (h : RS w0 w B N ex rows) {g t o : Nat} {cs ps : List Value} (hm : (g, cs, t) ∈ rows) (hp : ∀ j v, ps[j]? = some v → cs[o + j]? = some v) : w.rangeAt g o ps := fun j v hv => h.cell hm (hp j v hv)
theorem RS.sub {w0 w : World} {B N : Nat} {ex ex' : List Value} {rows rows' : List (Nat × List Value × Nat)} (h : RS w0 w B N ex rows) (h1 : ∀ x ∈ ex', x ∈ ex) (h2 : ∀ x ∈ rows', x ∈ rows) : RS w0 w B N ex' rows' := by
  obtain ⟨v1, v2, L1, L2, zs, hk, q1, q2, q3⟩ := h.kp
  exact ⟨h.bel, ⟨v1, v2, L1, L2, zs, hk, q1, q2, fun x hx => q3 x (h1 x hx)⟩, fun x hx => h.rw x (h2 x hx)⟩
theorem RS.mono {w0 w : World} {B N M : Nat} {ex : List Value} {rows : List (Nat × List Value × Nat)} (h : RS w0 w B N ex rows) (hN : N ≤ M) : RS w0 w B M ex rows := by
  obtain ⟨v1, v2, L1, L2, zs, hk, q1, q2, q3⟩ := h.kp
  exact ⟨h.bel, ⟨v1, v2, L1, L2, zs, hk, by omega, q2, q3⟩, h.rw⟩
/-- A list that a call has made. -/
theorem RS.new {w0 w w' : World} {B N : Nat} {ex : List Value} {rows : List (Nat × List Value × Nat)} (h : RS w0 w B N ex rows) (hb : Below w.heap.size w w') {v : Value} {zs : List Int} (ho : Own w' w.heap.size v zs) : RS w0 w' B N (v :: ex) rows := by
  have h2 := h.call hb
  obtain ⟨v1, v2, L1, L2, ps, hk, q1, q2, q3⟩ := h.kp
  obtain ⟨hbel, _, hrw⟩ := h2
  refine ⟨hbel, ⟨v1, v2, L1, L2, ps, hk.below hb, q1, q2, fun x hx r hr => ?_⟩, hrw⟩
  rcases List.mem_cons.1 hx with rfl | hx
  · exact djb_lt (hk.e1 r hr) ho (Nat.le_refl _)
  · exact q3 x hx r hr
/-- A cell written into a row. -/
theorem RS.set {w0 w : World} {B N : Nat} {ex : List Value} {rows : List (Nat × List Value × Nat)} {g t : Nat} {cs : List Value} (h : RS w0 w B N ex ((g, cs, t) :: rows)) (h5 : t ≠ 5) (hne : ∀ x ∈ rows, x.1 ≠ g) (j : Nat) (v : Value) : RS w0 (w.setCell ⟨g, j, none⟩ v) B N ex ((g, cs.set j v, t) :: rows) := by
  have hr := h.row (.head _)
  have hg := (h.rw _ (.head _)).1
  have ht := (h.rw _ (.head _)).2.2
  obtain ⟨v1, v2, L1, L2, ps, hk, q1, q2, q3⟩ := h.kp
  have oth : ∀ k, k ≠ g → (w.setCell ⟨g, j, none⟩ v).heap[k]? = w.heap[k]? := fun k hk => heap_setCell_other w _ k _ hk
  refine ⟨below_set h.bel hg v, ⟨v1, v2, L1, L2, ps, hk.of_ty fun k cs' t' fr hc hty => ?_, q1, q2, q3⟩, fun x hx => ?_⟩
  · rw [oth k (fun e => ?_)]; exact hc
    subst e
    rw [hr] at hc
    cases hc
    rcases hty with e | e | e
    · exact ht.1 e
    · exact ht.2 e
    · exact h5 e
  · rcases List.mem_cons.1 hx with rfl | hx
    · refine ⟨hg, ?_, ht⟩
      rw [heap_setCell_same _ _ _ _ _ _ hr]; simp
    · refine ⟨(h.rw x (.tail _ hx)).1, ?_, (h.rw x (.tail _ hx)).2.2⟩
      rw [oth _ (hne x hx)]; exact (h.rw x (.tail _ hx)).2.1
/-- What keep leaves, said of all that stands beside. -/
theorem RS.keep {w0 w : World} {B N : Nat} {ex : List Value} {rows : List (Nat × List Value × Nat)} {sp : Option Addr} {cap : Nat} {ys : List Int} (h : RS w0 w B N (.slice sp ys.length cap :: ex) rows) (hN : N ≤ 100000000) (ho : Own w w0.heap.size (.slice sp ys.length cap) ys) (hlen : ys.length ≤ 140737488355000) (hd : ∀ y ∈ ex, DjB (.slice sp ys.length cap) y) :
    Calls Try.prog 7 #[.pointer (some ⟨B, 0, none⟩), .slice sp ys.length cap] w fun e w' => e = .returned (.tuple #[]) ∧ RS w0 w' B (N + 1) ex rows ∧ TF w w' ∧ w.heap.size ≤ w'.heap.size := by
  obtain ⟨v1, v2, L1, L2, zs, hk, q1, q2, q3⟩ := h.kp
  refine (keep_any w w0.heap.size B v1 v2 L1 L2 zs hk (by omega) ys sp cap ho hlen (q3 _ (.head _))).mono ?_
  rintro e w' ⟨rfl, v1', v2', y, hk', ht, hb, _, _⟩
  refine ⟨rfl, ⟨h.bel.trans hb, ⟨v1', v2', _, _, _, hk', by simp; omega, fun r => ?_, fun x hx r hr => ?_⟩, fun x hx => ⟨(h.rw x hx).1, ?_, (h.rw x hx).2.2⟩⟩, ht, hb.size⟩
  · rw [getD_snocZ]; split
    · exact hlen
    · exact q2 r
  · rw [getD_snocK, hk.l1]
    simp at hr
    by_cases e : r = zs.length
    · rw [if_pos e]; exact hd x hx
    · rw [if_neg e]; exact q3 x (.tail _ hx) r (by omega)
  · refine ht _ _ (h.rw x hx).2.1 (fun cs fr e => ?_) (fun cs fr e => ?_)
    · injection e with e1 e2; exact (h.rw x hx).2.2.1 e2
    · injection e with e1 e2; exact (h.rw x hx).2.2.2 e2
theorem RS.start (w : World) (cs : List Value) (t : Nat) (ht : Plain t) : RS w ((w.alloc (.cells cs.toArray t)).alloc (.cells #[.slice none 0 0, .slice none 0 0] 36)) (w.heap.size + 1) 0 [] [(w.heap.size, cs, t)] := by
  have e : (w.alloc (.cells cs.toArray t)).heap.size = w.heap.size + 1 := by simp
  have hb : Below w.heap.size w ((w.alloc (.cells cs.toArray t)).alloc (.cells #[.slice none 0 0, .slice none 0 0] 36)) := ((Below.refl _ _).alloc (Nat.le_refl _) _).alloc (by rw [e]; omega) _
  have h1 := hnew (w.alloc (.cells cs.toArray t)) (.cells #[.slice none 0 0, .slice none 0 0] 36)
  rw [e] at h1
  refine ⟨hb, ⟨.slice none 0 0, .slice none 0 0, [], [], [], ⟨⟨by omega, h1, OwnK.nil _ _, OwnK.nil _ _, DjB.nil _⟩, rfl, rfl, fun i hi => by simp at hi, fun i hi => by simp at hi, fun i j _ hj => by simp at hj⟩, Nat.le_refl _, fun r => by simp, fun x hx => by cases hx⟩, fun x hx => ?_⟩
  rcases List.mem_cons.1 hx with rfl | hx
  · exact ⟨Nat.le_refl _, hold (hnew w _), ht⟩
  · cases hx
theorem RS.untouched {w0 w : World} {B N : Nat} {ex : List Value} {rows : List (Nat × List Value × Nat)} (h : RS w0 w B N ex rows) (hN : N ≤ 100000000) : Calls Try.prog 9 #[.pointer (some ⟨B, 0, none⟩)] w fun e w' => e = .returned (.bool true) ∧ Below w.heap.size w w' := by
  obtain ⟨v1, v2, L1, L2, zs, hk, q1, q2, q3⟩ := h.kp
  exact untouched_any w w0.heap.size B v1 v2 L1 L2 zs hk (by omega)
theorem RS.apart {w0 w : World} {B N : Nat} {ex : List Value} {rows : List (Nat × List Value × Nat)} (h : RS w0 w B N ex rows) (hN : N ≤ 100000000) : Calls Try.prog 10 #[.pointer (some ⟨B, 0, none⟩)] w fun e w' => e = .returned (.bool true) ∧ Below w0.heap.size w w' := by
  obtain ⟨v1, v2, L1, L2, zs, hk, q1, q2, q3⟩ := h.kp
  exact apart_any w w0.heap.size B v1 v2 L1 L2 zs hk (by omega) q2
end Go.Proofs.Ytpohgnblikkagaa
