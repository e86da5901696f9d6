import Derived.Test.YtenfklcgkfaajaaDk33
namespace Go.Proofs.Ytenfklcgkfaajaa
set_option linter.unusedVariables false
set_option linter.unusedSimpArgs false
open Go.RowKit
attribute [local go_sem ↓] Go.wp_at_zero Go.wp_at_succ


theorem grown_far {c : Bool} {w w1 : World} {base : Nat} {v : Value} {ms : List ME} (h : OwnL c w base v ms) (hg : w.grownBy w1 v.ownBlock) {k u : Nat} {cs : Array Value} {fr : Nat × Nat} (hk : w.heap[k]? = some (.cells cs u fr)) (hu : u ≠ tyE c) : w1.heap[k]? = w.heap[k]? := by
  refine hg.block k (hlt hk) (fun e => ?_)
  obtain ⟨_, _, ds, e2⟩ := h.block k e.symm
  exact ne_ty hk e2 hu rfl
theorem own_grown {c : Bool} {w w1 : World} {base b2 : Nat} {v : Value} {ms : List ME} (h : OwnL c w base v ms) (hg : w.grownBy w1 v.ownBlock) {u : Value} {zs : List Int} (ho : Own w b2 u zs) : Own w1 b2 u zs := by
  refine ho.of_heap fun k hk => ?_
  rcases ho.2 with ⟨e, _⟩ | ⟨g, cap, cur, e, _, hh, _⟩
  · rw [e] at hk; simp [Value.ownBlock] at hk
  · rw [e] at hk; simp [Value.ownBlock] at hk; subst hk; exact grown_far h hg hh (by unfold tyE; cases c <;> decide)
theorem ElO.grown {c c' : Bool} {w w1 : World} {base b2 : Nat} {v u : Value} {ms ml : List ME} {xs : List Cg} (h : OwnL c w base v ms) (hg : w.grownBy w1 v.ownBlock) (ho : ElO c' w b2 u ml xs) (hc : c' ≠ c) : ElO c' w1 b2 u ml xs :=
  ho.of_heap fun k cs t _ e ht => grown_far h hg e (by
    unfold tyE at ht ⊢
    cases c <;> cases c' <;> first | exact absurd rfl hc | (rcases ht with rfl | rfl <;> decide))
theorem rpC_38 {r : Rp} {vv rv lv cv : Value} (h : RpL r) : (rpC r vv rv lv cv)[38]? = some lv ∧ (rpC r vv rv lv cv)[39]? = some cv := by
  unfold rpC
  constructor <;> (rw [← List.append_assoc, List.getElem?_append_right (by simp [ints, h.sum])]; simp [ints, h.sum])
theorem FQ.push {w0 w wc w1 w2 : World} {g : Nat} {sp : Option Addr} {cap : Nat} {bs : List Int} {L : Lk} {r : Rp} {vv rv lv cv v' : Value} {ml mc ml' : List ME} {xs : List Cg} (h : FQ w0 w wc g sp cap bs L r vv rv lv cv ml mc) (hg : wc.grownBy w1 lv.ownBlock) (E : ElO false w1 w.heap.size v' ml' xs) (row : w2.heap[w.heap.size]? = some (.cells (rpC { r with list := xs } vv rv v' cv).toArray 32 (0, 0))) (q : Keeps w.heap.size w1 w2) : FQ w0 w w2 g sp cap bs L { r with list := xs } vv rv v' cv ml' mc := by
  have hgw := h.hg
  have hb : Below w.heap.size wc w1 := grown_keeps hg (fun k hk => (h.o.ol.own.block k hk).1) h.kp.size
  have hx : w1.heap[w.heap.size]? = _ := (grown_far h.o.ol.own hg h.row (by decide)).trans h.row
  have hy : w1.heap[w.heap.size + 1]? = _ := (grown_far h.o.ol.own hg h.ans (by decide)).trans h.ans
  have m1 := h.lm.keep (hb.mono hgw)
  refine ⟨m1.keep2 q (by omega) (by have := h.lm.new; omega), row, q.heap hy (by omega), ⟨⟨h.o.l.sum, h.o.l.inf⟩, own_far (own_grown h.o.ol.own hg h.o.ov) hx (by decide) q, own_far (own_grown h.o.ol.own hg h.o.orw) hx (by decide) q, E.far hx (by decide) (by decide) q, (ElO.grown h.o.ol.own hg h.o.oc (by decide)).far hx (by decide) (by decide) q⟩, ?_, hgw, Nat.le_trans h.sz (Nat.le_trans hb.size q.size)⟩
  have k1 := h.kp.then hb
  exact ⟨q.os.trans k1.os, q.tape.trans k1.tape, q.output.trans k1.output, Nat.le_trans k1.size q.size, fun i hi hn => (q.block i (Nat.lt_of_lt_of_le hi k1.size) (by omega)).trans (k1.block i hi hn)⟩
theorem FQ.pushC {w0 w wc w1 w2 : World} {g : Nat} {sp : Option Addr} {cap : Nat} {bs : List Int} {L : Lk} {r : Rp} {vv rv lv cv v' : Value} {ml mc mc' : List ME} {xs : List Cg} (h : FQ w0 w wc g sp cap bs L r vv rv lv cv ml mc) (hg : wc.grownBy w1 cv.ownBlock) (E : ElO true w1 w.heap.size v' mc' xs) (row : w2.heap[w.heap.size]? = some (.cells (rpC { r with chs := xs } vv rv lv v').toArray 32 (0, 0))) (q : Keeps w.heap.size w1 w2) : FQ w0 w w2 g sp cap bs L { r with chs := xs } vv rv lv v' ml mc' := by
  have hgw := h.hg
  have hb : Below w.heap.size wc w1 := grown_keeps hg (fun k hk => (h.o.oc.own.block k hk).1) h.kp.size
  have hx : w1.heap[w.heap.size]? = _ := (grown_far h.o.oc.own hg h.row (by decide)).trans h.row
  have hy : w1.heap[w.heap.size + 1]? = _ := (grown_far h.o.oc.own hg h.ans (by decide)).trans h.ans
  have m1 := h.lm.keep (hb.mono hgw)
  refine ⟨m1.keep2 q (by omega) (by have := h.lm.new; omega), row, q.heap hy (by omega), ⟨⟨h.o.l.sum, h.o.l.inf⟩, own_far (own_grown h.o.oc.own hg h.o.ov) hx (by decide) q, own_far (own_grown h.o.oc.own hg h.o.orw) hx (by decide) q, (ElO.grown h.o.oc.own hg h.o.ol (by decide)).far hx (by decide) (by decide) q, E.far hx (by decide) (by decide) q⟩, ?_, hgw, Nat.le_trans h.sz (Nat.le_trans hb.size q.size)⟩
  have k1 := h.kp.then hb
  exact ⟨q.os.trans k1.os, q.tape.trans k1.tape, q.output.trans k1.output, Nat.le_trans k1.size q.size, fun i hi hn => (q.block i (Nat.lt_of_lt_of_le hi k1.size) (by omega)).trans (k1.block i hi hn)⟩
theorem built_ent2' (l : List Value) (hl : l.length = 32) (s : Option Addr) (n c : Nat) : Try.prog.built 52 [(0, .agg l.toArray), (1, .slice s n c)] = some (l ++ [Value.slice s n c]).toArray := by
  obtain ⟨x0, x1, x2, x3, x4, x5, x6, x7, x8, x9, x10, x11, x12, x13, x14, x15, x16, x17, x18, x19, x20, x21, x22, x23, x24, x25, x26, x27, x28, x29, x30, x31, rfl⟩ := list32 hl
  kernel_rfl
theorem built_ent2 (k : List Int) (h : k.length = 32) (s : Option Addr) (n c : Nat) : Try.prog.built 52 [(0, .agg (ints .u8 k).toArray), (1, .slice s n c)] = some (elC false k false (.slice s n c)).toArray := built_ent2' _ (by rw [ints_len, h]) s n c
theorem built_chg1 (d : Bool) : Try.prog.built 54 [(1, .bool d)] = some (elC true z32 d (.slice none 0 0)).toArray := by kernel_rfl
theorem llP_bad {c : Bool} {b : List Int} {n : Nat} {L : Lk} {acc : List Cg} (h : L.bad = true) : llP c b n L acc = (acc, L) := by
  cases n with
  | zero => rfl
  | succ n => unfold llP; rw [h, if_pos rfl]
end Go.Proofs.Ytenfklcgkfaajaa
