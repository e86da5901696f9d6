import Derived.Test.YtenfklcgkfaajaaDk25
namespace Go.Proofs.Ytenfklcgkfaajaa
set_option linter.unusedVariables false
set_option linter.unusedSimpArgs false
open Go.RowKit
attribute [local go_sem ↓] Go.wp_at_zero Go.wp_at_succ

def rpC (r : Rp) (vv rv lv cv : Value) : List Value := [.int .i64 r.err, .int .i64 r.ver, .bool r.found, .bool r.more, vv] ++ (ints .u8 r.sum ++ ([rv, lv, cv] ++ inC r.info))
structure RpL (r : Rp) : Prop where
  sum : r.sum.length = 32
  inf : r.info.sum.length = 32
theorem rpC_len {r : Rp} {vv rv lv cv : Value} (h : RpL r) : (rpC r vv rv lv cv).length = 78 := by
  unfold rpC; simp [ints, h.sum, inC_len h.inf]
theorem rpC_one {r : Rp} {vv rv lv cv : Value} (h1 : vv.oneCell' = true) (h2 : rv.oneCell' = true) (h3 : lv.oneCell' = true) (h4 : cv.oneCell' = true) : ∀ v ∈ rpC r vv rv lv cv, v.oneCell' = true := by
  intro v hv
  unfold rpC at hv
  rcases List.mem_append.1 hv with a | a
  · simp only [List.mem_cons, List.not_mem_nil, or_false] at a
    rcases a with rfl | rfl | rfl | rfl | rfl <;> first | rfl | assumption
  rcases List.mem_append.1 a with a | a
  · exact ints_one _ _ v a
  rcases List.mem_append.1 a with a | a
  · simp only [List.mem_cons, List.not_mem_nil, or_false] at a
    rcases a with rfl | rfl | rfl <;> assumption
  · exact inC_one _ v a
theorem rp0_L : RpL rp0 := ⟨z32_len, z32_len⟩
theorem allocRep (a : Act) (o : Oper) (w : World) (ho : o.op = .alloc 32) : (execOp a.eval o).run Try.prog w = .ok (.value (.pointer (some ⟨w.heap.size, 0, none⟩))) (w.alloc (.cells (rpC rp0 (.slice none 0 0) (.slice none 0 0) (.slice none 0 0) (.slice none 0 0)).toArray 32)) := by
  unfold execOp
  rw [ho]
  kernel_rfl
theorem Try.sizeRep : (Try.prog.info? 32).map (·.size) = some 78 := by kernel_rfl
theorem Try.sizeErr : (Try.prog.info? 24).map (·.size) = some 1 := by kernel_rfl
theorem Try.sizeEs : (Try.prog.info? 27).map (·.size) = some 1 := by kernel_rfl
theorem Try.sizeCs : (Try.prog.info? 28).map (·.size) = some 1 := by kernel_rfl
theorem set_mid {l m n : List Value} {j k : Nat} {v : Value} (h : l.length = k) (hj : j < m.length) : (l ++ (m ++ n)).set (k + j) v = l ++ (m.set j v ++ n) := by
  rw [List.set_append_right _ _ (by omega), h, Nat.add_sub_cancel_left, List.set_append_left _ _ hj]
theorem rpC_raw {r : Rp} {vv rv lv cv : Value} (h : RpL r) (u : Value) : (rpC r vv rv lv cv).set 37 u = rpC r vv u lv cv := by
  unfold rpC
  rw [← List.append_assoc, set_mid (k := 37) (j := 0) (by simp [ints, h.sum]) (by simp)]
  simp
theorem rpC_list {r : Rp} {vv rv lv cv : Value} (h : RpL r) (u : Value) : (rpC r vv rv lv cv).set 38 u = rpC r vv rv u cv := by
  unfold rpC
  rw [← List.append_assoc, set_mid (k := 37) (j := 1) (by simp [ints, h.sum]) (by simp)]
  simp
theorem rpC_chs {r : Rp} {vv rv lv cv : Value} (h : RpL r) (u : Value) : (rpC r vv rv lv cv).set 39 u = rpC r vv rv lv u := by
  unfold rpC
  rw [← List.append_assoc, set_mid (k := 37) (j := 2) (by simp [ints, h.sum]) (by simp)]
  simp
theorem rpC_sum {r : Rp} {vv rv lv cv : Value} (h : RpL r) (k : List Int) (hk : k.length = 32) : (rpC r vv rv lv cv).take 5 ++ ints .u8 k ++ (rpC r vv rv lv cv).drop (5 + (ints .u8 k).length) = rpC { r with sum := k } vv rv lv cv := by
  unfold rpC
  rw [ints_len, hk]
  have e1 : ∀ (l m : List Value), l.length = 5 → (l ++ m).take 5 = l := fun l m hl => by rw [List.take_append_of_le_length (by omega), List.take_of_length_le (by omega)]
  have e2 : ∀ (l m n : List Value), l.length = 5 → m.length = 32 → (l ++ (m ++ n)).drop (5 + 32) = n := fun l m n hl hm => by
    rw [← List.append_assoc, List.drop_append_of_le_length (by simp; omega), List.drop_of_length_le (by simp; omega), List.nil_append]
  rw [e1 _ _ rfl, e2 _ _ _ rfl (by rw [ints_len, h.sum])]
  simp
theorem rpC_info {r : Rp} {vv rv lv cv : Value} (h : RpL r) (i : Nf) (hi : i.sum.length = 32) : (rpC r vv rv lv cv).take 40 ++ inC i ++ (rpC r vv rv lv cv).drop (40 + (inC i).length) = rpC { r with info := i } vv rv lv cv := by
  rw [List.drop_of_length_le (by rw [rpC_len h, inC_len hi]; decide), List.append_nil]
  unfold rpC
  rw [← List.append_assoc, ← List.append_assoc, List.take_append_of_le_length (by simp [ints, h.sum]), List.take_of_length_le (by simp [ints, h.sum])]
  simp
/-- At most one of a reply's lists is there. -/
def Sd (vv rv : Value) (ml mc : List ME) : Prop := (rv = .slice none 0 0 ∧ ml = [] ∧ mc = []) ∨ (vv = .slice none 0 0 ∧ ml = [] ∧ mc = []) ∨ (vv = .slice none 0 0 ∧ rv = .slice none 0 0 ∧ mc = []) ∨ (vv = .slice none 0 0 ∧ rv = .slice none 0 0 ∧ ml = [])
/-- A reply that a call made: its lists are its own. -/
structure RpO (w : World) (base : Nat) (r : Rp) (vv rv lv cv : Value) (ml mc : List ME) : Prop where
  l : RpL r
  ov : Own w base vv r.val
  orw : Own w base rv r.raw
  ol : ElO false w base lv ml r.list
  oc : ElO true w base cv mc r.chs
theorem RpO.keeps {w w1 : World} {base g : Nat} {r : Rp} {vv rv lv cv : Value} {ml mc : List ME} (h : RpO w base r vv rv lv cv ml mc) (k : Keeps g w w1) (hg : g < base) : RpO w1 base r vv rv lv cv ml mc :=
  ⟨h.l, h.ov.keeps k hg, h.orw.keeps k hg, h.ol.keeps k hg, h.oc.keeps k hg⟩
theorem RpO.far {w w1 : World} {base q : Nat} {r : Rp} {vv rv lv cv : Value} {ml mc : List ME} {cs : Array Value} {fr : Nat × Nat} (h : RpO w base r vv rv lv cv ml mc) (hr : w.heap[q]? = some (.cells cs 32 fr)) (k : Keeps q w w1) : RpO w1 base r vv rv lv cv ml mc :=
  ⟨h.l, own_far h.ov hr (by decide) k, own_far h.orw hr (by decide) k, h.ol.far hr (by decide) (by decide) k, h.oc.far hr (by decide) (by decide) k⟩
theorem RpO.below {w w1 : World} {base B : Nat} {r : Rp} {vv rv lv cv : Value} {ml mc : List ME} (h : RpO w base r vv rv lv cv ml mc) (k : Below B w w1) (hB : w.heap.size ≤ B) : RpO w1 base r vv rv lv cv ml mc :=
  ⟨h.l, h.ov.below k hB, h.orw.below k hB, h.ol.below k hB, h.oc.below k hB⟩
theorem RpO.lower {w : World} {base base' : Nat} {r : Rp} {vv rv lv cv : Value} {ml mc : List ME} (h : RpO w base r vv rv lv cv ml mc) (hb : base' ≤ base) : RpO w base' r vv rv lv cv ml mc :=
  ⟨h.l, own_lower h.ov hb, own_lower h.orw hb, h.ol.lower hb, h.oc.lower hb⟩
theorem RpO.one {w : World} {base : Nat} {r : Rp} {vv rv lv cv : Value} {ml mc : List ME} (h : RpO w base r vv rv lv cv ml mc) : ∀ v ∈ rpC r vv rv lv cv, v.oneCell' = true := rpC_one h.ov.cells.2 h.orw.cells.2 h.ol.own.cells.2 h.oc.own.cells.2
theorem RpO.zero (w : World) (base : Nat) : RpO w base rp0 (.slice none 0 0) (.slice none 0 0) (.slice none 0 0) (.slice none 0 0) [] [] := ⟨rp0_L, Own.nil _ _, Own.nil _ _, ElO.nil _ _ _, ElO.nil _ _ _⟩
theorem RpO.lt {w : World} {base : Nat} {r : Rp} {vv rv lv cv : Value} {ml mc : List ME} (h : RpO w base r vv rv lv cv ml mc) {i : Nat} (hi : i < 78) : i < (rpC r vv rv lv cv).length := by rw [rpC_len h.l]; exact hi
/-- reply midway. -/
structure PQ (w0 w wc : World) (g b : Nat) (R : Rd) (r : Rp) (vv rv lv cv : Value) (ml mc : List ME) : Prop where
  rk : RK w0 wc g b R
  row : wc.heap[w.heap.size]? = some (.cells (rpC r vv rv lv cv).toArray 32 (0, 0))
  o : RpO wc w.heap.size r vv rv lv cv ml mc
  kp : Keeps g w wc
  hg : g < w.heap.size
theorem PQ.call {w0 w wc w1 : World} {g b : Nat} {R R1 : Rd} {r : Rp} {vv rv lv cv : Value} {ml mc : List ME} (h : PQ w0 w wc g b R r vv rv lv cv ml mc) (hk : RK w0 w1 g b R1) (q : Keeps g wc w1) : PQ w0 w w1 g b R1 r vv rv lv cv ml mc :=
  ⟨hk, q.heap h.row (by have := h.hg; omega), h.o.keeps q h.hg, h.kp.trans q, h.hg⟩
theorem PQ.put {w0 w wc w1 : World} {g b : Nat} {R : Rd} {r r' : Rp} {vv rv lv cv vv' rv' lv' cv' : Value} {ml mc ml' mc' : List ME} (h : PQ w0 w wc g b R r vv rv lv cv ml mc) (row : w1.heap[w.heap.size]? = some (.cells (rpC r' vv' rv' lv' cv').toArray 32 (0, 0))) (q : Keeps w.heap.size wc w1) (o : RpO wc w.heap.size r' vv' rv' lv' cv' ml' mc') : PQ w0 w w1 g b R r' vv' rv' lv' cv' ml' mc' := by
  have hg := h.hg
  refine ⟨h.rk.keep2 q (by omega) (by have := h.rk.new; omega), row, o.far h.row q, ?_, h.hg⟩
  exact ⟨q.os.trans h.kp.os, q.tape.trans h.kp.tape, q.output.trans h.kp.output, Nat.le_trans h.kp.size q.size, fun i hi hn => (q.block i (Nat.lt_of_lt_of_le hi h.kp.size) (by omega)).trans (h.kp.block i hi hn)⟩
end Go.Proofs.Ytenfklcgkfaajaa
