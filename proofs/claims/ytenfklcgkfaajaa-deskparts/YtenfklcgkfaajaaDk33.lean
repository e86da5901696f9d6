import Derived.Test.YtenfklcgkfaajaaDx
namespace Go.Proofs.Ytenfklcgkfaajaa
set_option linter.unusedVariables false
set_option linter.unusedSimpArgs false
open Go.RowKit
attribute [local go_sem ↓] Go.wp_at_zero Go.wp_at_succ


/-- The document's fields midway: the reply x that came in, its answer y. -/
structure FQ (w0 w wc : World) (g : Nat) (sp : Option Addr) (cap : Nat) (bs : List Int) (L : Lk) (r : Rp) (vv rv lv cv : Value) (ml mc : List ME) : Prop where
  lm : LM w0 wc g sp cap bs L
  row : wc.heap[w.heap.size]? = some (.cells (rpC r vv rv lv cv).toArray 32 (0, 0))
  ans : wc.heap[w.heap.size + 1]? = some (.cells (rpC rp0 (.slice none 0 0) (.slice none 0 0) (.slice none 0 0) (.slice none 0 0)).toArray 32 (0, 0))
  o : RpO wc w.heap.size r vv rv lv cv ml mc
  kp : Keeps g w wc
  hg : g < w.heap.size
  sz : w.heap.size + 2 ≤ wc.heap.size
theorem FQ.call {w0 w wc w1 : World} {g : Nat} {sp : Option Addr} {cap : Nat} {bs : List Int} {L L1 : Lk} {r : Rp} {vv rv lv cv : Value} {ml mc : List ME} (h : FQ w0 w wc g sp cap bs L r vv rv lv cv ml mc) (hk : LM w0 w1 g sp cap bs L1) (q : Keeps g wc w1) : FQ w0 w w1 g sp cap bs L1 r vv rv lv cv ml mc :=
  ⟨hk, q.heap h.row (by have := h.hg; omega), q.heap h.ans (by have := h.hg; omega), h.o.keeps q h.hg, h.kp.trans q, h.hg, Nat.le_trans h.sz q.size⟩
theorem FQ.kpx {w0 w wc w1 : World} {g : Nat} {sp : Option Addr} {cap : Nat} {bs : List Int} {L : Lk} {r : Rp} {vv rv lv cv : Value} {ml mc : List ME} (h : FQ w0 w wc g sp cap bs L r vv rv lv cv ml mc) {x : Nat} (hx : w.heap.size ≤ x) (q : Keeps x wc w1) : Keeps g w w1 :=
  ⟨q.os.trans h.kp.os, q.tape.trans h.kp.tape, q.output.trans h.kp.output, Nat.le_trans h.kp.size q.size, fun i hi hn => (q.block i (Nat.lt_of_lt_of_le hi h.kp.size) (by omega)).trans (h.kp.block i hi hn)⟩
theorem FQ.put {w0 w wc w1 : World} {g : Nat} {sp : Option Addr} {cap : Nat} {bs : List Int} {L : Lk} {r r' : Rp} {vv rv lv cv vv' rv' lv' cv' : Value} {ml mc ml' mc' : List ME} (h : FQ w0 w wc g sp cap bs L r vv rv lv cv ml mc) (row : w1.heap[w.heap.size]? = some (.cells (rpC r' vv' rv' lv' cv').toArray 32 (0, 0))) (q : Keeps w.heap.size wc w1) (o : RpO wc w.heap.size r' vv' rv' lv' cv' ml' mc') : FQ w0 w w1 g sp cap bs L r' vv' rv' lv' cv' ml' mc' := by
  have hg := h.hg
  exact ⟨h.lm.keep2 q (by omega) (by have := h.lm.new; omega), row, q.heap h.ans (by omega), o.far h.row q, h.kpx (Nat.le_refl _) q, h.hg, Nat.le_trans h.sz q.size⟩
theorem FQ.out {w0 w wc w1 : World} {g : Nat} {sp : Option Addr} {cap : Nat} {bs : List Int} {L : Lk} {r : Rp} {vv rv lv cv : Value} {ml mc : List ME} (h : FQ w0 w wc g sp cap bs L r vv rv lv cv ml mc) (q : Keeps (w.heap.size + 1) wc w1) : RpO w1 w.heap.size r vv rv lv cv ml mc ∧ LM w0 w1 g sp cap bs L ∧ Keeps g w w1 := by
  have hg := h.hg
  exact ⟨h.o.far h.ans q, h.lm.keep2 q (by omega) (by have := h.lm.new; omega), h.kpx (by omega) q⟩
theorem FQ.start {w0 w : World} {g : Nat} {sp : Option Addr} {cap : Nat} {bs : List Int} {L : Lk} (h : LM w0 w g sp cap bs L) : FQ w0 w ((w.alloc (.cells (rpC rp0 (.slice none 0 0) (.slice none 0 0) (.slice none 0 0) (.slice none 0 0)).toArray 32)).alloc (.cells (rpC rp0 (.slice none 0 0) (.slice none 0 0) (.slice none 0 0) (.slice none 0 0)).toArray 32)) g sp cap bs L rp0 (.slice none 0 0) (.slice none 0 0) (.slice none 0 0) (.slice none 0 0) [] [] := by
  have hb : Below w.heap.size w ((w.alloc (.cells (rpC rp0 (.slice none 0 0) (.slice none 0 0) (.slice none 0 0) (.slice none 0 0)).toArray 32)).alloc (.cells (rpC rp0 (.slice none 0 0) (.slice none 0 0) (.slice none 0 0) (.slice none 0 0)).toArray 32)) := ((Below.refl _ _).alloc (Nat.le_refl _) _).alloc (by simp) _
  refine ⟨h.keep (hb.mono h.lt), hold (hnew w _), ?_, RpO.zero _ _, Keeps.of_below hb, h.lt, by simp⟩
  have := hnew (w.alloc (.cells (rpC rp0 (.slice none 0 0) (.slice none 0 0) (.slice none 0 0) (.slice none 0 0)).toArray 32)) (.cells (rpC rp0 (.slice none 0 0) (.slice none 0 0) (.slice none 0 0) (.slice none 0 0)).toArray 32)
  rwa [show (w.alloc (.cells (rpC rp0 (.slice none 0 0) (.slice none 0 0) (.slice none 0 0) (.slice none 0 0)).toArray 32)).heap.size = w.heap.size + 1 by simp] at this
theorem inC_set (i : Nf) (x : Int) (h : i.sum.length = 32) : (inC i).set 0 (.int .i64 x) = inC { i with width := x } ∧ (inC i).set 1 (.int .i64 x) = inC { i with first := x } ∧ (inC i).set 2 (.int .i64 x) = inC { i with last := x } ∧ (inC i).set 3 (.int .i64 x) = inC { i with used := x } ∧ (inC i).set 4 (.int .i64 x) = inC { i with pages := x } ∧ (inC i).set 5 (.int .i64 x) = inC { i with keys := x } := ⟨rfl, rfl, rfl, rfl, rfl, rfl⟩
theorem rpC_inset {r : Rp} {vv rv lv cv : Value} (h : RpL r) (j : Nat) (hj : j < 38) (u : Value) (i : Nf) (hi : (inC r.info).set j u = inC i) : (rpC r vv rv lv cv).set (40 + j) u = rpC { r with info := i } vv rv lv cv := by
  unfold rpC
  rw [← List.append_assoc, ← List.append_assoc, List.set_append_right _ _ (by simp [ints, h.sum])]
  rw [show 40 + j - (([Value.int .i64 r.err, .int .i64 r.ver, .bool r.found, .bool r.more, vv] ++ ints .u8 r.sum) ++ [rv, lv, cv]).length = j by simp [ints, h.sum], hi]
  simp
end Go.Proofs.Ytenfklcgkfaajaa
