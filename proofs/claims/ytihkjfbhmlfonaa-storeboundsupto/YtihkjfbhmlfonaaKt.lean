import Derived.Test.YtihkjfbhmlfonaaRows
import Derived.WalkKit
import Derived.WalkSpells
import Derived.WalkLawsBesides
import Derived.ChangeKeysEq
import Derived.OpenShut
import Derived.Laws.CopyOwn
import Derived.Deep.RegionHeld3
import Derived.Deep.MidRow
import Derived.Deep.DrawnRows
import Derived.Laws.AppendOwnNone
import Derived.Maps.AppendAt
import Derived.Deep.DeepCutAuto
import Derived.BigQuiet
import Derived.BigFrame
import Derived.Deep.QuietTactic
namespace Go.Proofs.Ytihkjfbhmlfonaa
set_option linter.unusedVariables false
set_option linter.unusedSimpArgs false
open Go.RowKit

theorem hid {p : Prop} (h : p) : Hid p := h

/-! Arrays of integers, held against one another. -/
theorem part_int {P : Program} {e : TypeId} {kd : IntKind} (hu : P.underlying e = some (.int kd)) (xs : Array Value) (o : Nat) (v : Value) (h : xs[o]? = some v) (w : World) : (part e xs o).run P w = .ok v w := by
  have hagg : (isAgg e).run P w = .ok false w := by
    unfold isAgg
    rw [Sem.run_bind, run_underlying hu w]
    rfl
  simp [part, Sem.run_bind, hagg, h]
theorem eqItems_ints {P : Program} {e : TypeId} {kd : IntKind} (hu : P.underlying e = some (.int kd)) (d : Nat) (k : IntKind) (ax bs : List Int) (w : World) : ∀ is : List Nat, (∀ i ∈ is, i < ax.length ∧ i < bs.length) →
    (Op.eqItems (d + 1) e 1 (ax.map (Value.int k)).toArray (bs.map (Value.int k)).toArray is).run P w = .ok (is.all fun i => ax[i]? == bs[i]?) w
  | [], _ => by simp [Op.eqItems]
  | i :: is, h => by
    obtain ⟨ha, hb⟩ := h i (by simp)
    have ih := eqItems_ints hu d k ax bs w is (fun j hj => h j (by simp [hj]))
    have pa : (part e (ax.map (Value.int k)).toArray i).run P w = .ok (.int k ax[i]) w := part_int hu _ _ _ (by simp [ha]) w
    have pb : (part e (bs.map (Value.int k)).toArray i).run P w = .ok (.int k bs[i]) w := part_int hu _ _ _ (by simp [hb]) w
    simp only [Op.eqItems, Nat.mul_one, Sem.run_bind, pa, pb, Result.andThen_ok, run_equalIn_int w d e k kd _ _ hu]
    rw [List.all_cons, List.getElem?_eq_getElem ha, List.getElem?_eq_getElem hb]
    cases hc : ax[i] == bs[i]
    · have : (some ax[i] == some bs[i]) = false := by simpa using hc
      simp [this]
    · have : (some ax[i] == some bs[i]) = true := by simpa using hc
      simp [this, ih]
theorem all_range_eq (ax bs : List Int) (n : Nat) (ha : ax.length = n) (hb : bs.length = n) : ((List.range n).all fun i => ax[i]? == bs[i]?) = decide (ax = bs) := by
  rw [Bool.eq_iff_iff, decide_eq_true_iff]
  simp only [List.all_eq_true, List.mem_range, beq_iff_eq]
  constructor
  · intro h
    apply List.ext_getElem?
    intro i
    by_cases hi : i < n
    · exact h i hi
    · rw [List.getElem?_eq_none (by omega), List.getElem?_eq_none (by omega)]
  · rintro rfl i _; rfl
theorem equalIn_ints {P : Program} {t e : TypeId} {kd : IntKind} {n : Nat} (ht : P.underlying t = some (.array n e)) (hu : P.underlying e = some (.int kd)) (hs : (P.info? e).map (·.size) = some 1) (k : IntKind) (ax bs : List Int) (ha : ax.length = n) (hb : bs.length = n) (w : World) :
    (Op.equalIn 10000 t (.agg (ax.map (Value.int k)).toArray) (.agg (bs.map (Value.int k)).toArray)).run P w = .ok (decide (ax = bs)) w := by
  obtain ⟨i, hi⟩ := info_of_underlying hu
  have hc : P.cellsOf e = 1 := by simp [Program.cellsOf, hi] at hs ⊢; exact hs
  rw [show (10000 : Nat) = 9998 + 1 + 1 from rfl, run_equalIn_array w (9998 + 1) _ _ ht hi, hc, eqItems_ints hu 9998 k ax bs w _ (fun j hj => by simp at hj; omega), all_range_eq ax bs n ha hb]

/-! Blocks behind allocations. -/
theorem heap3_new (w : World) (A B C : Obj) : (((w.alloc A).alloc B).alloc C).heap[w.heap.size + 1 + 1]? = some C := by
  show (((w.heap.push A).push B).push C)[w.heap.size + 1 + 1]? = some C
  rw [Array.getElem?_push, if_pos (by simp)]
theorem heap3_mid (w : World) (A B C : Obj) : (((w.alloc A).alloc B).alloc C).heap[w.heap.size + 1]? = some B := by
  show (((w.heap.push A).push B).push C)[w.heap.size + 1]? = some B
  rw [Array.getElem?_push, if_neg (by simp), Array.getElem?_push, if_pos (by simp)]
theorem heap3_old (w : World) (A B C : Obj) : (((w.alloc A).alloc B).alloc C).heap[w.heap.size]? = some A := by
  show (((w.heap.push A).push B).push C)[w.heap.size]? = some A
  rw [Array.getElem?_push, if_neg (by simp; omega), Array.getElem?_push, if_neg (by simp), Array.getElem?_push, if_pos rfl]
theorem below3 (w : World) (A B C : Obj) : Below w.heap.size w (((w.alloc A).alloc B).alloc C) :=
  (((Below.refl _ _).alloc (Nat.le_refl _) _).alloc (by simp) _).alloc (by simp; omega) _
theorem hnew (w : World) (o : Obj) : (w.alloc o).heap[w.heap.size]? = some o := by
  show (w.heap.push o)[w.heap.size]? = some o
  simp
theorem hold {w : World} {o x : Obj} {i : Nat} (hx : w.heap[i]? = some x) : (w.alloc o).heap[i]? = some x := by
  have h : i < w.heap.size := (Array.getElem?_eq_some_iff.1 hx).1
  show (w.heap.push o)[i]? = some x
  rw [Array.getElem?_push, if_neg (Nat.ne_of_lt h), hx]
theorem hlt {w : World} {x : Obj} {i : Nat} (hx : w.heap[i]? = some x) : i < w.heap.size := (Array.getElem?_eq_some_iff.1 hx).1
theorem hbel {w w1 : World} {B g : Nat} {o : Obj} (hb : Below B w w1) (h : w.heap[g]? = some o) (hg : g < B) : w1.heap[g]? = some o := (hb.block g hg).trans h
theorem rng {w : World} {g : Nat} {cs : List Value} {t : TypeId} {fr : Nat × Nat} (h : w.heap[g]? = some (.cells cs.toArray t fr)) : w.rangeAt g 0 cs := fun j v hv => by rw [Nat.zero_add, cell_of_row _ _ _ _ _ _ h]; simpa using hv
theorem rng_below {w w1 : World} {B g o : Nat} {cs : List Value} (h : w.rangeAt g o cs) (hb : Below B w w1) (hg : g < B) : w1.rangeAt g o cs := fun j v hv => (hb.cell (p := ⟨g, o + j, none⟩) hg).trans (h j v hv)
theorem setRow_alloc (w : World) (cs ds : Array Value) (t : TypeId) (fr : Nat × Nat) : (w.alloc (.cells cs t fr)).setRow w.heap.size ds = w.alloc (.cells ds t fr) := by
  unfold World.setRow World.alloc
  congr 1
  apply Array.ext
  · simp
  · intro i h1 h2
    simp only [Array.getElem_modify, Array.getElem_push]
    split <;> split <;> simp_all <;> omega
theorem heap_alloc_le {w w1 : World} {B g : Nat} {o : Obj} (hb : Below B w w1) (hg : g < B) (h : w.heap[g]? = some o) : w1.heap[g]? = some o := (hb.block g hg).trans h
theorem wrap_i64_id (x : Int) (h : -9223372036854775808 ≤ x) (h2 : x ≤ 9223372036854775807) : IntKind.i64.wrap x = x := by
  rw [IntKind.wrap_i64]; omega
/-- The cells of an array of integers. -/
def ints (k : IntKind) (zs : List Int) : List Value := zs.map (Value.int k)
theorem ints_len (k : IntKind) (zs : List Int) : (ints k zs).length = zs.length := by simp [ints]
theorem ints_size (k : IntKind) (zs : List Int) : (ints k zs).toArray.size = zs.length := by simp [ints]
theorem ints_get (k : IntKind) (zs : List Int) (j : Nat) (h : j < zs.length) : (ints k zs)[j]? = some (.int k (zs.getD j 0)) := by simp [ints, h]
theorem ints_one (k : IntKind) (zs : List Int) : ∀ v ∈ ints k zs, v.oneCell' = true := fun v hv => by
  obtain ⟨z, _, rfl⟩ := List.mem_map.1 hv; rfl
theorem cell_ints {w : World} {g : Nat} {k : IntKind} {zs : List Int} {t : TypeId} {fr : Nat × Nat} (h : w.heap[g]? = some (.cells (ints k zs).toArray t fr)) (j : Nat) (hj : j < zs.length) : w.cell? ⟨g, j, none⟩ = some (.int k (zs.getD j 0)) := by
  rw [cell_of_row _ _ _ _ _ _ h]; simpa using ints_get k zs j hj

/-- What is laid so far, the rest zero. -/
def padz (v : List Int) (n : Nat) : List Int := v ++ List.replicate (n - v.length) 0
theorem padz_len (v : List Int) (n : Nat) (h : v.length ≤ n) : (padz v n).length = n := by simp [padz]; omega
theorem padz_set (v : List Int) (n : Nat) (x : Int) (h : v.length < n) : (padz v n).set v.length x = padz (v ++ [x]) n := by
  unfold padz
  rw [List.set_append_right _ _ (Nat.le_refl _), Nat.sub_self, show n - v.length = (n - (v ++ [x]).length) + 1 by simp; omega, List.replicate_succ]
  simp
theorem padz_get (v : List Int) (n j : Nat) (h : j < v.length) : (padz v n).getD j 0 = v.getD j 0 := by
  simp [padz, List.getElem?_append_left h]
theorem padz_full (v : List Int) (n : Nat) (h : v.length = n) : padz v n = v := by simp [padz, h]

theorem ints_set (k : IntKind) (zs : List Int) (j : Nat) (x : Int) : (ints k zs).toArray.setIfInBounds j (.int k x) = (ints k (zs.set j x)).toArray := by
  simp [ints, List.map_set]
theorem heap_set_ints {w : World} {g : Nat} {k : IntKind} {zs : List Int} {t : TypeId} (h : w.heap[g]? = some (.cells (ints k zs).toArray t (0, 0))) (j : Nat) (x : Int) : (w.setCell ⟨g, j, none⟩ (.int k x)).heap[g]? = some (.cells (ints k (zs.set j x)).toArray t (0, 0)) := by
  rw [heap_setCell_same _ _ _ _ _ _ h, ints_set]
theorem heap_set_far {w : World} {g : Nat} {o : Obj} (h : w.heap[g]? = some o) (a : Addr) (v : Value) (hne : g ≠ a.block) : (w.setCell a v).heap[g]? = some o := by
  rw [heap_setCell_other _ _ _ _ hne, h]

theorem bits_bd (op : BinOp) (x y : Int) : 0 ≤ bits op .u32 x y ∧ bits op .u32 x y ≤ 4294967295 := bounds_u32 (wf_bits op .u32 x y)
theorem wrap_bd (x : Int) : 0 ≤ IntKind.u32.wrap x ∧ IntKind.u32.wrap x ≤ 4294967295 := bounds_u32 (wf_wrap .u32 x)
theorem cell_padz {w : World} {g t : Nat} {k : IntKind} {v : List Int} {n : Nat} {fr : Nat × Nat} (h : w.heap[g]? = some (.cells (ints k (padz v n)).toArray t fr)) (hn : v.length ≤ n) (j : Nat) (hj : j < v.length) : w.cell? ⟨g, j, none⟩ = some (.int k (v[j]?.getD 0)) := by
  rw [cell_ints h j (by rw [padz_len _ _ hn]; omega), padz_get _ _ _ hj]; simp

theorem Try.size5 : (Try.prog.info? 5).map (·.size) = some 1 := by kernel_rfl
/-- All but block g is ax it was. -/
structure Keeps (g : Nat) (w w' : World) : Prop where
  os : w'.os = w.os
  tape : w'.tape = w.tape
  output : w'.output = w.output
  size : w.heap.size ≤ w'.heap.size
  block : ∀ k, k < w.heap.size → k ≠ g → w'.heap[k]? = w.heap[k]?
theorem Keeps.refl (g : Nat) (w : World) : Keeps g w w := ⟨rfl, rfl, rfl, Nat.le_refl _, fun _ _ _ => rfl⟩
theorem Keeps.trans {g : Nat} {a b c : World} (h : Keeps g a b) (k : Keeps g b c) : Keeps g a c :=
  ⟨k.os.trans h.os, k.tape.trans h.tape, k.output.trans h.output, Nat.le_trans h.size k.size, fun i hi hne => (k.block i (Nat.lt_of_lt_of_le hi h.size) hne).trans (h.block i hi hne)⟩
theorem Keeps.of_below {g : Nat} {a b : World} (h : Below a.heap.size a b) : Keeps g a b := ⟨h.os, h.tape, h.output, h.size, fun k hk _ => h.block k hk⟩
theorem Keeps.drew {g : Nat} {a b : World} (h : Keeps g a b) : Keeps g a b.drew := ⟨h.os, h.tape, h.output, h.size, h.block⟩
theorem Keeps.setRow {g : Nat} {a b : World} (h : Keeps g a b) (cs : Array Value) : Keeps g a (b.setRow g cs) :=
  ⟨h.os, h.tape, h.output, by rw [size_setRow]; exact h.size, fun k hk hne => (setRow_other b g k cs hne).trans (h.block k hk hne)⟩
theorem Keeps.below {g : Nat} {a b : World} (h : Keeps g a b) (hg : a.heap.size ≤ g) : Below a.heap.size a b := ⟨h.os, h.tape, h.output, h.size, fun k hk => h.block k hk (by omega)⟩
theorem Keeps.below_g {g B : Nat} {a b : World} (h : Keeps g a b) (hg : B ≤ g) (hB : B ≤ a.heap.size) : Below B a b := ⟨h.os, h.tape, h.output, h.size, fun k hk => h.block k (by omega) (by omega)⟩
theorem Keeps.heap {g k : Nat} {a b : World} {o : Obj} (h : Keeps g a b) (hk : a.heap[k]? = some o) (hne : k ≠ g) : b.heap[k]? = some o := (h.block k (hlt hk) hne).trans hk
theorem setCells_row {w : World} {g o : Nat} {cur : List Value} {t : TypeId} {vs : List Value} (h : w.heap[g]? = some (.cells cur.toArray t (0, 0))) (hfit : o + vs.length ≤ cur.length) (h1 : ∀ v ∈ vs, v.oneCell' = true) :
    w.setCells g o vs = w.setRow g (cur.take o ++ vs ++ cur.drop (o + vs.length)).toArray := by
  have a := run_storeCells_cells (P := Try.prog) g o vs 0 w (fun j hj => by rw [cell_of_row _ _ _ _ _ _ h, List.getElem?_toArray, List.getElem?_eq_getElem (by omega)]; rfl) (fun j hj => frozen_of_row _ _ _ _ _ h) h1
  have b := run_storeCells_at (P := Try.prog) g o t vs 0 cur.toArray w h (by simpa using hfit) h1
  rw [a] at b
  simpa using b
/-- A slice of bytes: what it reads ax. -/
def Src (w : World) (sp : Option Addr) (cap : Nat) (zs : List Int) : Prop :=
  zs.length ≤ cap ∧ cap ≤ maxLen ∧ ∃ b o, (0 < zs.length → b < w.heap.size) ∧ (0 < zs.length → sp = some ⟨b, o, none⟩) ∧ ∀ j, j < zs.length → w.cell? ⟨b, o + j, none⟩ = some (.int .u8 (zs.getD j 0))
theorem Src.below {w w1 : World} {B : Nat} {sp : Option Addr} {cap : Nat} {zs : List Int} (h : Src w sp cap zs) (hb : Below B w w1) (hB : w.heap.size ≤ B) : Src w1 sp cap zs := by
  obtain ⟨h1, h2, b, o, h3, h4, h5⟩ := h
  exact ⟨h1, h2, b, o, fun h => Nat.lt_of_lt_of_le (h3 h) hb.size, h4, fun j hj => (hb.cell (p := ⟨b, o + j, none⟩) (by show b < B; have := h3 (by omega); omega)).trans (h5 j hj)⟩
theorem Src.empty (w : World) (sp : Option Addr) (cap : Nat) (h : cap ≤ maxLen) : Src w sp cap [] := ⟨by simp, h, 0, 0, fun h => by simp at h, fun h => by simp at h, fun j hj => by simp at hj⟩
theorem Src.nil (w : World) : Src w none 0 [] := Src.empty w none 0 (by simp [maxLen])
/-- A slice of slices of bytes: what it reads ax. -/
def Rws (w : World) (sp : Option Addr) (ps : List (List Int)) : Prop :=
  ∃ b o, b < w.heap.size ∧ (0 < ps.length → sp = some ⟨b, o, none⟩) ∧ ∀ r, r < ps.length → ∃ sp' c, w.cell? ⟨b, o + r, none⟩ = some (.slice sp' (ps.getD r []).length c) ∧ (sp' = none → c = 0) ∧ Src w sp' c (ps.getD r [])
theorem Rws.below {w w1 : World} {B : Nat} {sp : Option Addr} {ps : List (List Int)} (h : Rws w sp ps) (hb : Below B w w1) (hB : w.heap.size ≤ B) : Rws w1 sp ps := by
  obtain ⟨b, o, h1, h2, h3⟩ := h
  refine ⟨b, o, Nat.lt_of_lt_of_le h1 hb.size, h2, fun r hr => ?_⟩
  obtain ⟨sp', c, h4, h5, h6⟩ := h3 r hr
  exact ⟨sp', c, (hb.cell (p := ⟨b, o + r, none⟩) (by show b < B; omega)).trans h4, h5, h6.below hb hB⟩
/-- A list of bytes that the call made itself. -/
def Own (w : World) (base : Nat) (v : Value) (zs : List Int) : Prop := w.ownsRow base 5 1 v zs.length (ints .u8 zs)
theorem Own.nil (w : World) (base : Nat) : Own w base (.slice none 0 0) [] := ⟨rfl, Or.inl ⟨rfl, rfl⟩⟩
theorem Own.block {w : World} {base : Nat} {v : Value} {zs : List Int} (h : Own w base v zs) : ∀ k, v.ownBlock = some k → base ≤ k ∧ k < w.heap.size := by
  intro k hk
  rcases h.2 with ⟨rfl, _⟩ | ⟨g, cap, cur, rfl, hg, hh, _⟩
  · simp [Value.ownBlock] at hk
  · simp [Value.ownBlock] at hk; subst hk; exact ⟨hg, hlt hh⟩
theorem Own.of_heap {w w1 : World} {base : Nat} {v : Value} {zs : List Int} (h : Own w base v zs) (hk : ∀ k, v.ownBlock = some k → w1.heap[k]? = w.heap[k]?) : Own w1 base v zs := by
  refine ⟨h.1, ?_⟩
  rcases h.2 with h2 | ⟨g, cap, cur, rfl, hg, hh, r⟩
  · exact Or.inl h2
  · exact Or.inr ⟨g, cap, cur, rfl, hg, (hk g rfl).trans hh, r⟩
theorem Own.keeps {w w1 : World} {base g : Nat} {v : Value} {zs : List Int} (h : Own w base v zs) (hk : Keeps g w w1) (hg : g < base) : Own w1 base v zs :=
  h.of_heap fun k hv => hk.block k (h.block k hv).2 (by have := (h.block k hv).1; omega)
theorem Own.below {w w1 : World} {base B : Nat} {v : Value} {zs : List Int} (h : Own w base v zs) (hb : Below B w w1) (hB : w.heap.size ≤ B) : Own w1 base v zs :=
  h.of_heap fun k hv => hb.block k (by have := (h.block k hv).2; omega)
theorem Own.form {w : World} {base : Nat} {v : Value} {zs : List Int} (h : Own w base v zs) : ∃ sp cap, v = .slice sp zs.length cap ∧ Src w sp cap zs ∧ (sp = none → cap = 0) := by
  obtain ⟨h1, ⟨rfl, hn⟩ | ⟨g, cap, cur, rfl, hg, hh, hc, hm, hs, ht⟩⟩ := h
  · refine ⟨none, 0, by rw [hn], ⟨by omega, by simp [maxLen], 0, 0, fun h => by omega, fun h => by omega, fun j hj => by omega⟩, fun _ => rfl⟩
  · refine ⟨some ⟨g, 0, none⟩, cap, rfl, ⟨hc, hm, g, 0, fun _ => hlt hh, fun _ => rfl, fun j hj => ?_⟩, fun h => by cases h⟩
    rw [Nat.zero_add, cell_of_row _ _ _ _ _ _ hh]
    have hg2 := ints_get .u8 zs j hj
    rw [← ht, List.getElem?_take, if_pos (by omega)] at hg2
    simpa using hg2
theorem grown_keeps {w w1 : World} {row : Option Nat} {B : Nat} (h : w.grownBy w1 row) (hr : ∀ k, row = some k → B ≤ k) (hB : B ≤ w.heap.size) : Below B w w1 :=
  ⟨h.os, h.tape, h.output, h.size, fun k hk => h.block k (by omega) (fun e => by have := hr k e.symm; omega)⟩
theorem Own.mk_append {w : World} {base : Nat} {v : Value} {xs ys : List Int} (h : w.ownsRow base 5 1 v (xs.length + ys.length) (ints .u8 xs ++ ints .u8 ys)) : Own w base v (xs ++ ys) := by
  unfold Own; rw [List.length_append, show ints .u8 (xs ++ ys) = ints .u8 xs ++ ints .u8 ys by simp [ints]]; exact h
theorem Try.info5m : (Try.prog.info? 5).map (fun i => (i.zero, i.size, i.bytes)) = some (some (.int .u8 0), 1, 1) := by kernel_rfl
theorem Try.info5 : ∃ i, Try.prog.info? 5 = some i ∧ i.zero = some (.int .u8 0) ∧ i.size = 1 ∧ i.bytes = 1 := by
  have h := Try.info5m
  cases hq : Try.prog.info? 5 with
  | none => rw [hq] at h; cases h
  | some i =>
    rw [hq] at h
    simp only [Option.map_some, Option.some.injEq, Prod.mk.injEq] at h
    exact ⟨i, rfl, h.1, h.2.1, h.2.2⟩

/-- The cells of a slice of bytes, ax append asks them. -/
theorem src_news {w : World} {sp : Addr} {cap : Nat} {zs : List Int} (h : Src w (some sp) cap zs) : ∀ j u, (ints .u8 zs)[j]? = some u → w.cell? (sp.add j) = some u := fun j u hu => by
  obtain ⟨_, _, b, o, _, hsp, hc⟩ := h
  have hj : j < zs.length := by have := (List.getElem?_eq_some_iff.1 hu).1; rwa [ints_len] at this
  rw [ints_get .u8 zs j hj] at hu
  obtain rfl := Option.some.inj (hsp (by omega))
  rw [Addr.add_mid, ← hu]; exact hc j hj

/-- A piece of a list of pieces, in a later world. -/
theorem Rws.piece {w wr : World} {sp : Option Addr} {ps : List (List Int)} (h : Rws w sp ps) (hb : Below w.heap.size w wr) (n : Nat) (hn : n < ps.length) :
    ∃ b o sp' c, sp = some ⟨b, o, none⟩ ∧ wr.cell? ⟨b, o + n, none⟩ = some (.slice sp' (ps.getD n []).length c) ∧ (sp' = none → c = 0) ∧ Src w sp' c (ps.getD n []) ∧ b < w.heap.size := by
  obtain ⟨b, o, h1, h2, h3⟩ := h
  obtain ⟨sp', c, h4, h5, h6⟩ := h3 n hn
  exact ⟨b, o, sp', c, h2 (by omega), (hb.cell (p := ⟨b, o + n, none⟩) h1).trans h4, h5, h6, h1⟩
/-- append(own, src...), src nil or not. -/
theorem wpList_append_wide {w : World} {ops : Array Oper} {rest : List Oper} {o : Oper} {a : Act} {Q : Exit → Act → World → Prop} (hgd : o.guard = none) (s x : Operand)
    (ho : o.op = .call { callee := .builtin .append, args := #[s, x], argTypes := #[36, 36] })
    (base : Nat) (v : Value) (zs ys : List Int) (hs : a.eval s = v) (hown : Own w base v zs) (sp : Option Addr) (c : Nat) (hx : a.eval x = .slice sp ys.length c) (hnil : sp = none → c = 0) (hS : Src w sp c ys)
    (hlen : zs.length + ys.length ≤ 140737488351232) (hbase : base ≤ w.heap.size)
    (h : ∀ v' w', Own w' base v' (zs ++ ys) → w.grownBy w' v.ownBlock → (v'.ownBlock = v.ownBlock ∨ v'.ownBlock = some w.heap.size) → wpList Try.prog ops Q rest (a.put o.dst v') w') :
    wpList Try.prog ops Q (o :: rest) a w := by
  obtain ⟨i5, hi5, hz5, hs5, hy5⟩ := Try.info5
  cases sp with
  | none =>
    obtain rfl := hnil rfl
    obtain rfl : ys = [] := List.eq_nil_of_length_eq_zero (by have := hS.1; omega)
    refine wpList_append_own_none hgd s x 36 ho base 5 i5 1 Try.underlying36 hi5 v _ _ hs hown hx (h v w ?_ ⟨rfl, rfl, rfl, Nat.le_refl _, fun _ _ _ => rfl⟩ (Or.inl rfl))
    rw [List.append_nil]; exact hown
  | some ad =>
    refine wpList_append_own_at _ hgd s x 36 ho base 5 i5 (.int .u8 0) 1 1 Try.underlying36 hi5 hz5 hs5 hy5 rfl Nat.one_pos v zs.length (ints .u8 zs) hs hown ad ys.length c (ints .u8 ys) hx (by rw [ints_len]; omega) (src_news hS) (ints_one _ _) (by unfold maxLen; omega) (by omega) hbase ?_
    intro v' w' h1 h2 _ h4
    exact h v' w' (Own.mk_append h1) h2 h4

theorem own_pushes {w : World} {base : Nat} {v : Value} {zs : List Int} (h : Own w base v zs) (o : Obj) : Own (w.alloc o) base v zs := h.below ((Below.refl w.heap.size w).alloc (Nat.le_refl _) o) (Nat.le_refl _)
/-- append(own, x): the one behind the list lies in a block of its own. -/
theorem wpList_push_any {w : World} {ops : Array Oper} {rest : List Oper} {o : Oper} {a : Act} {Q : Exit → Act → World → Prop} (hgd : o.guard = none) (s x : Operand)
    (ho : o.op = .call { callee := .builtin .append, args := #[s, x], argTypes := #[36, 36] })
    (base : Nat) (v : Value) (zs : List Int) (y : Int) (hs : a.eval s = v) (hown : Own w base v zs) (hx : a.eval x = .slice (some ⟨w.heap.size, 0, none⟩) 1 1)
    (hlen : zs.length + 1 ≤ 140737488355328) (hbase : base ≤ w.heap.size) (t : TypeId) (fr : Nat × Nat)
    (h : ∀ v' w', Own w' base v' (zs ++ [y]) → Below base w w' → wpList Try.prog ops Q rest (a.put o.dst v') w') :
    wpList Try.prog ops Q (o :: rest) a (w.alloc (.cells #[.int .u8 y] t fr)) := by
  obtain ⟨i5, hi5, hz5, hs5, hy5⟩ := Try.info5
  refine wpList_append_own_at _ hgd s x 36 ho base 5 i5 (.int .u8 0) 1 1 Try.underlying36 hi5 hz5 hs5 hy5 rfl Nat.one_pos v zs.length (ints .u8 zs) hs (own_pushes hown _) ⟨w.heap.size, 0, none⟩ 1 1 (ints .u8 [y]) hx rfl ?_ (ints_one _ _) (by unfold maxLen; omega) (by omega) (by simp; omega) ?_
  · intro j u hu
    have hj : j = 0 := by
      have := (List.getElem?_eq_some_iff.1 hu).1
      simp [ints] at this; exact this
    subst hj
    rw [show (⟨w.heap.size, 0, none⟩ : Addr).add 0 = ⟨w.heap.size, 0, none⟩ from rfl, cell_of_row _ _ _ _ _ _ (hnew w _)]
    simpa [ints] using hu
  · intro v' w' h1 h2 _ h4
    have hB1 : Below base w (w.alloc (.cells #[.int .u8 y] t fr)) := (Below.refl _ _).alloc hbase _
    exact h v' w' (Own.mk_append (ys := [y]) h1) (hB1.trans (grown_keeps h2 (fun k hk => (hown.block k hk).1) (by simp; omega)))

def slen : Value → Nat | .slice _ n _ => n | _ => 0
theorem made_bytes (n : Nat) : (madeCells (Value.int IntKind.u8 0).cells n).toList = ints .u8 (padz [] n) := by
  have hz : (Value.int IntKind.u8 0).cells = #[.int .u8 0] := rfl
  rw [hz]
  apply List.ext_getElem
  · simp [madeCells, ints, padz]
  · intro i h1 h2
    simp [madeCells, ints, padz, Nat.mod_one]
theorem made_row {w1 : World} {base g n : Nat} (h : w1.ownsRow base 5 1 (.slice (some ⟨g, 0, none⟩) n n) n (madeCells (Value.int IntKind.u8 0).cells (n * 1)).toList) : w1.heap[g]? = some (.cells (ints .u8 (padz [] n)).toArray 5 (0, 0)) := by
  obtain ⟨h1, ⟨hv, _⟩ | ⟨g', cap, cur, hv, hg, hh, hc, hm, hs, ht⟩⟩ := h
  · cases hv
  · simp only [Value.slice.injEq, Option.some.injEq, Addr.mk.injEq] at hv
    obtain ⟨⟨rfl, _⟩, _, rfl⟩ := hv
    rw [Nat.mul_one, made_bytes] at ht
    rw [hh, ← ht, List.take_of_length_le (by simp [hs])]
theorem below_drewN {B : Nat} {a w : World} (h : Below B a w) (n : Nat) : Below B a (w.drewN n) := h.trans ⟨rfl, rfl, rfl, Nat.le_refl _, fun _ _ => rfl⟩
theorem src_row {w : World} {g t : Nat} {zs tl : List Int} (h : w.heap[g]? = some (.cells (ints .u8 (zs ++ tl)).toArray t)) (cap : Nat) (hc : zs.length ≤ cap) (hm : cap ≤ maxLen) : Src w (some ⟨g, 0, none⟩) cap zs := by
  refine ⟨hc, hm, g, 0, fun _ => hlt h, fun _ => rfl, fun j hj => ?_⟩
  rw [Nat.zero_add, cell_ints h j (by rw [List.length_append]; omega), List.getD_eq_getElem?_getD, List.getElem?_append_left hj, List.getD_eq_getElem?_getD]
/-- A list whose first n are those of another. -/
def overTo (us bs : List Int) (n : Nat) : List Int := us.take n ++ bs.drop n
theorem overTo_len (us bs : List Int) (n : Nat) (h : us.length = bs.length) (hn : n ≤ bs.length) : (overTo us bs n).length = bs.length := by simp [overTo]; omega
theorem overTo_set (us bs : List Int) (n : Nat) (h : us.length = bs.length) (hn : n < bs.length) : (overTo us bs n).set n (us[n]?.getD 0) = overTo us bs (n + 1) := by
  unfold overTo
  rw [List.set_append_right _ _ (by simp; omega), List.length_take, show n - min n us.length = 0 by omega, List.drop_eq_getElem_cons hn, List.set_cons_zero, List.take_succ_eq_append_getElem (by omega), List.getElem?_eq_getElem (by omega), List.append_assoc]
  rfl
theorem overTo_get (us bs : List Int) (n : Nat) (h : us.length = bs.length) (hn : n < bs.length) : (overTo us bs n)[n]?.getD 0 = bs[n]?.getD 0 := by
  unfold overTo
  rw [List.getElem?_append_right (by simp; omega), List.length_take, show n - min n us.length = 0 by omega, List.getElem?_drop]; rfl
theorem overTo_get' (us bs : List Int) (n : Nat) (h : us.length = bs.length) (hn : n < bs.length) : (overTo us bs (n + 1))[n]?.getD 0 = us[n]?.getD 0 := by
  unfold overTo
  rw [List.getElem?_append_left (by simp; omega), List.getElem?_take, if_pos (by omega)]
theorem overTo_zero (us bs : List Int) : overTo us bs 0 = bs := rfl
theorem overTo_all (us bs : List Int) (h : us.length = bs.length) : overTo us bs bs.length = us := by
  unfold overTo; rw [List.take_of_length_le (by omega), List.drop_of_length_le (by omega), List.append_nil]

/-- Where a list that the call made lies. -/
def Ot (N : Nat) (spv : Option Addr) (g : Nat) (rest : List Value) (os : List Int) (wr : World) : Prop := 0 < N → spv = some ⟨g, 0, none⟩ ∧ wr.heap[g]? = some (.cells (ints .u8 os ++ rest).toArray 5 (0, 0))
theorem Own.ot {w : World} {base : Nat} {v : Value} {zs : List Int} (h : Own w base v zs) : ∃ spv capv g rest, v = .slice spv zs.length capv ∧ (spv = none → capv = 0) ∧ zs.length ≤ capv ∧ capv ≤ maxLen ∧ base ≤ g ∧ Ot zs.length spv g rest zs w := by
  obtain ⟨h1, ⟨rfl, hn⟩ | ⟨g, cap, cur, rfl, hg, hh, hc, hm, hs, ht⟩⟩ := h
  · exact ⟨none, 0, base, [], by rw [hn], fun _ => rfl, by omega, by simp [maxLen], Nat.le_refl _, fun h => by omega⟩
  · refine ⟨some ⟨g, 0, none⟩, cap, g, cur.toList.drop zs.length, rfl, (fun h => by cases h), hc, hm, hg, fun _ => ⟨rfl, ?_⟩⟩
    rw [hh, ← ht, Nat.mul_one, List.take_append_drop]
theorem Ot.src {N : Nat} {spv : Option Addr} {g cap : Nat} {rest : List Value} {os : List Int} {w : World} (h : Ot N spv g rest os w) (hN : os.length = N) (hc : N ≤ cap) (hm : cap ≤ maxLen) : Src w spv cap os := by
  by_cases hp : 0 < N
  · obtain ⟨rfl, hh⟩ := h hp
    refine ⟨by omega, hm, g, 0, fun _ => hlt hh, fun _ => rfl, fun j hj => ?_⟩
    rw [Nat.zero_add, cell_of_row _ _ _ _ _ _ hh]
    have hg2 := ints_get .u8 os j hj
    simp only [List.getElem?_toArray]
    rw [List.getElem?_append_left (by rw [ints_len]; exact hj), hg2]
  · exact ⟨by omega, hm, 0, 0, fun h => by omega, fun h => by omega, fun j hj => by omega⟩
theorem Ot.of_heap {N : Nat} {spv : Option Addr} {g : Nat} {rest : List Value} {os : List Int} {w w1 : World} (h : Ot N spv g rest os w) (hk : ∀ o, w.heap[g]? = some o → w1.heap[g]? = some o) : Ot N spv g rest os w1 := fun hp => ⟨(h hp).1, hk _ (h hp).2⟩
theorem Ot.below {N : Nat} {spv : Option Addr} {g : Nat} {rest : List Value} {os : List Int} {w w1 : World} (h : Ot N spv g rest os w) (hb : Below w.heap.size w w1) : Ot N spv g rest os w1 := h.of_heap fun o ho => hbel hb ho (hlt ho)
theorem Ot.set {N : Nat} {spv : Option Addr} {g : Nat} {rest : List Value} {os : List Int} {w : World} (h : Ot N spv g rest os w) (j : Nat) (x : Int) (hj : j < os.length) : Ot N spv g rest (os.set j x) (w.setCell ⟨g, j, none⟩ (.int .u8 x)) := fun hp => by
  refine ⟨(h hp).1, ?_⟩
  rw [setCell_eq_setRow w g _ _ _ _ _ (h hp).2, setRow_heap _ _ _ _ _ _ (h hp).2]
  congr 2
  simp only [List.setIfInBounds_toArray]
  rw [List.set_append_left _ _ (by rw [ints_len]; exact hj)]
  simp [ints, List.map_set]

/-- The builtin copy into a block that is known whole, as one step of a region that draws its order: the world behind it written out. -/
theorem step_copy_row {P : Program} {ops : Array Oper} {o : Oper} {a : Act} {w : World} {K : Act → World → Prop} {Q : Exit → Act → World → Prop} {E : Prop} (hgd : o.guard = none) (d s : Operand) (dT sT : TypeId)
    (ho : o.op = .call { callee := .builtin .copy, args := #[d, s], argTypes := #[dT, sT] }) (elem : TypeId) (hu : P.underlying dT = some (.slice elem)) (hsz : (P.info? elem).map (·.size) = some 1)
    (ad : Addr) (dLen dCap sLen sCap : Nat) (g off : Nat) (hd : a.eval d = .slice (some ⟨g, off, none⟩) dLen dCap) (hs : a.eval s = .slice (some ad) sLen sCap)
    (cur : List Value) (t : TypeId) (hg : w.heap[g]? = some (.cells cur.toArray t (0, 0))) (cs : List Value) (hn : cs.length = Nat.min sLen dLen)
    (hsrc : ∀ j v, cs[j]? = some v → w.cell? (ad.add j) = some v) (hfit : off + cs.length ≤ cur.length) (h1 : ∀ v ∈ cs, v.oneCell' = true)
    (h : K (a.put o.dst (goInt cs.length)) (w.setRow g (cur.take off ++ cs ++ cur.drop (off + cs.length)).toArray)) :
    if Region.wanted o (yielded ops a.tmps) = true then Oper.wp P o a w K Q else E := by
  have hw : Region.wanted o (yielded ops a.tmps) = true := by simp [Region.wanted, hgd]
  rw [if_pos hw]
  have hrun := run_copy_row (P := P) w dT sT o.type elem g off dLen dCap ad sLen sCap cur.toArray t cs hu hsz hg hn hsrc (by simpa using hfit) h1
  unfold Oper.wp
  simp [execOp, ho, resolve, invoke, builtin, hd, hs, hrun, Result.andThen]
  rw [Oper.upon_value]
  simpa using h
theorem wpList_load_row_w {P : Program} {ops : Array Oper} {rest : List Oper} {o : Oper} {a : Act} {w : World} {Q : Exit → Act → World → Prop} (hw : Region.wanted o (yielded ops a.tmps) = true) (ty : TypeId) (x : Operand) (ho : o.op = .load ty x)
    (g : Nat) (hx : a.eval x = .pointer (some ⟨g, 0, none⟩)) (t : TypeId) (cs : Array Value) (fr : Nat × Nat) (d : TypeDesc) (hg : w.heap[g]? = some (.cells cs t fr))
    (hu : P.underlying ty = some d) (hd : (match d with | .struct _ | .array _ _ => true | _ => false) = true) (hi : (P.info? ty).map (·.size) = some cs.size)
    (h : wpList P ops Q rest (a.put o.dst (.agg cs)) w) : wpList P ops Q (o :: rest) a w :=
  BigFrame.wpList_want hw fun _ hK => wp_load_row ty x ho g hx t cs fr d hg hu hd hi (hK _ _ h)
theorem wpList_load_mid_w {P : Program} {ops : Array Oper} {rest : List Oper} {op : Oper} {a : Act} {w : World} {Q : Exit → Act → World → Prop} (hw : Region.wanted op (yielded ops a.tmps) = true) (ty : TypeId) (x : Operand) (ho : op.op = .load ty x)
    (b o : Nat) (hx : a.eval x = .pointer (some ⟨b, o, none⟩)) (cs : List Value) (d : TypeDesc) (hc : w.rangeAt b o cs)
    (hu : P.underlying ty = some d) (hd : d.isRow = true) (hi : (P.info? ty).map (·.size) = some cs.length)
    (h : wpList P ops Q rest (a.put op.dst (.agg cs.toArray)) w) : wpList P ops Q (op :: rest) a w :=
  BigFrame.wpList_want hw fun _ hK => wp_load_mid ty x ho b o hx cs d hc hu hd hi (hK _ _ h)
end Go.Proofs.Ytihkjfbhmlfonaa
