import Derived.WalkKit
import Derived.WalkSpells
import Derived.WalkLawsBesides
import Derived.ChangeKeysEq
import Derived.OpenShut
import Derived.Laws.CopyOwn
import Derived.Deep.RegionHeld3
import Derived.Deep.MidRow
import Derived.Deep.DrawnRows
namespace Go.Proofs.YtpmjijadjblkeaaDoor
set_option linter.unusedVariables false
set_option linter.unusedSimpArgs false
open Go.RowKit

theorem hid {p : Prop} (h : p) : Hid p := h

/-! Arrays of integers, held against one another. -/
theorem part_int {P : Program} {e : TypeId} {kd : IntKind} (hu : P.underlying e = some (.int kd)) (xs : Array Value) (o : Nat) (v : Value) (h : xs[o]? = some v) (w : World) : (part e xs o).run P w = .ok v w := by
  have hagg : (isAgg e).run P w = .ok false w := by
    unfold isAgg
    rw [Sem.run_bind, run_underlying hu w]
    rfl
  simp [part, Sem.run_bind, hagg, h]
theorem eqItems_ints {P : Program} {e : TypeId} {kd : IntKind} (hu : P.underlying e = some (.int kd)) (d : Nat) (k : IntKind) (as bs : List Int) (w : World) : ∀ is : List Nat, (∀ i ∈ is, i < as.length ∧ i < bs.length) →
    (Op.eqItems (d + 1) e 1 (as.map (Value.int k)).toArray (bs.map (Value.int k)).toArray is).run P w = .ok (is.all fun i => as[i]? == bs[i]?) w
  | [], _ => by simp [Op.eqItems]
  | i :: is, h => by
    obtain ⟨ha, hb⟩ := h i (by simp)
    have ih := eqItems_ints hu d k as bs w is (fun j hj => h j (by simp [hj]))
    have pa : (part e (as.map (Value.int k)).toArray i).run P w = .ok (.int k as[i]) w := part_int hu _ _ _ (by simp [ha]) w
    have pb : (part e (bs.map (Value.int k)).toArray i).run P w = .ok (.int k bs[i]) w := part_int hu _ _ _ (by simp [hb]) w
    simp only [Op.eqItems, Nat.mul_one, Sem.run_bind, pa, pb, Result.andThen_ok, run_equalIn_int w d e k kd _ _ hu]
    rw [List.all_cons, List.getElem?_eq_getElem ha, List.getElem?_eq_getElem hb]
    cases hc : as[i] == bs[i]
    · have : (some as[i] == some bs[i]) = false := by simpa using hc
      simp [this]
    · have : (some as[i] == some bs[i]) = true := by simpa using hc
      simp [this, ih]
theorem all_range_eq (as bs : List Int) (n : Nat) (ha : as.length = n) (hb : bs.length = n) : ((List.range n).all fun i => as[i]? == bs[i]?) = decide (as = bs) := by
  rw [Bool.eq_iff_iff, decide_eq_true_iff]
  simp only [List.all_eq_true, List.mem_range, beq_iff_eq]
  constructor
  · intro h
    apply List.ext_getElem?
    intro i
    by_cases hi : i < n
    · exact h i hi
    · rw [List.getElem?_eq_none (by omega), List.getElem?_eq_none (by omega)]
  · rintro rfl i _; rfl
theorem equalIn_ints {P : Program} {t e : TypeId} {kd : IntKind} {n : Nat} (ht : P.underlying t = some (.array n e)) (hu : P.underlying e = some (.int kd)) (hs : (P.info? e).map (·.size) = some 1) (k : IntKind) (as bs : List Int) (ha : as.length = n) (hb : bs.length = n) (w : World) :
    (Op.equalIn 10000 t (.agg (as.map (Value.int k)).toArray) (.agg (bs.map (Value.int k)).toArray)).run P w = .ok (decide (as = bs)) w := by
  obtain ⟨i, hi⟩ := info_of_underlying hu
  have hc : P.cellsOf e = 1 := by simp [Program.cellsOf, hi] at hs ⊢; exact hs
  rw [show (10000 : Nat) = 9998 + 1 + 1 from rfl, run_equalIn_array w (9998 + 1) _ _ ht hi, hc, eqItems_ints hu 9998 k as bs w _ (fun j hj => by simp at hj; omega), all_range_eq as bs n ha hb]

/-! Blocks behind allocations. -/
theorem heap3_new (w : World) (A B C : Obj) : (((w.alloc A).alloc B).alloc C).heap[w.heap.size + 1 + 1]? = some C := by
  show (((w.heap.push A).push B).push C)[w.heap.size + 1 + 1]? = some C
  rw [Array.getElem?_push, if_pos (by simp)]
theorem heap3_mid (w : World) (A B C : Obj) : (((w.alloc A).alloc B).alloc C).heap[w.heap.size + 1]? = some B := by
  show (((w.heap.push A).push B).push C)[w.heap.size + 1]? = some B
  rw [Array.getElem?_push, if_neg (by simp), Array.getElem?_push, if_pos (by simp)]
theorem heap3_old (w : World) (A B C : Obj) : (((w.alloc A).alloc B).alloc C).heap[w.heap.size]? = some A := by
  show (((w.heap.push A).push B).push C)[w.heap.size]? = some A
  rw [Array.getElem?_push, if_neg (by simp; omega), Array.getElem?_push, if_neg (by simp), Array.getElem?_push, if_pos rfl]
theorem below3 (w : World) (A B C : Obj) : Below w.heap.size w (((w.alloc A).alloc B).alloc C) :=
  (((Below.refl _ _).alloc (Nat.le_refl _) _).alloc (by simp) _).alloc (by simp; omega) _
theorem hnew (w : World) (o : Obj) : (w.alloc o).heap[w.heap.size]? = some o := by
  show (w.heap.push o)[w.heap.size]? = some o
  simp
theorem hold {w : World} {o x : Obj} {i : Nat} (hx : w.heap[i]? = some x) : (w.alloc o).heap[i]? = some x := by
  have h : i < w.heap.size := (Array.getElem?_eq_some_iff.1 hx).1
  show (w.heap.push o)[i]? = some x
  rw [Array.getElem?_push, if_neg (Nat.ne_of_lt h), hx]
theorem hlt {w : World} {x : Obj} {i : Nat} (hx : w.heap[i]? = some x) : i < w.heap.size := (Array.getElem?_eq_some_iff.1 hx).1
theorem hbel {w w1 : World} {B g : Nat} {o : Obj} (hb : Below B w w1) (h : w.heap[g]? = some o) (hg : g < B) : w1.heap[g]? = some o := (hb.block g hg).trans h
theorem rng {w : World} {g : Nat} {cs : List Value} {t : TypeId} {fr : Nat × Nat} (h : w.heap[g]? = some (.cells cs.toArray t fr)) : w.rangeAt g 0 cs := fun j v hv => by rw [Nat.zero_add, cell_of_row _ _ _ _ _ _ h]; simpa using hv
theorem rng_below {w w1 : World} {B g o : Nat} {cs : List Value} (h : w.rangeAt g o cs) (hb : Below B w w1) (hg : g < B) : w1.rangeAt g o cs := fun j v hv => (hb.cell (p := ⟨g, o + j, none⟩) hg).trans (h j v hv)
theorem setRow_alloc (w : World) (cs ds : Array Value) (t : TypeId) (fr : Nat × Nat) : (w.alloc (.cells cs t fr)).setRow w.heap.size ds = w.alloc (.cells ds t fr) := by
  unfold World.setRow World.alloc
  congr 1
  apply Array.ext
  · simp
  · intro i h1 h2
    simp only [Array.getElem_modify, Array.getElem_push]
    split <;> split <;> simp_all <;> omega
theorem heap_alloc_le {w w1 : World} {B g : Nat} {o : Obj} (hb : Below B w w1) (hg : g < B) (h : w.heap[g]? = some o) : w1.heap[g]? = some o := (hb.block g hg).trans h
end Go.Proofs.YtpmjijadjblkeaaDoor
