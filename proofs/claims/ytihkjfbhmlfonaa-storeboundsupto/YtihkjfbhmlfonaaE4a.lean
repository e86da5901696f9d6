import Derived.Test.YtihkjfbhmlfonaaKt
import Derived.Maps.OwnSet
import Derived.Maps.OwnOps
namespace Go.Proofs.Ytihkjfbhmlfonaa
set_option linter.unusedVariables false
set_option linter.unusedSimpArgs false
open Go.RowKit
attribute [local go_sem ↓] Go.wp_at_zero Go.wp_at_succ

/-! A disk, and how it lies in memory. -/
/-- An open write. -/
structure OW where
  page : Nat
  data : List Int
/-- What a disk is. -/
structure DS where
  img : List Int
  ops : List OW
  power : Bool
  armed : Int
  epoch : Int
  reads : Int
  writes : Int
  syncs : Int
def encW (o : OW) : List Value := .int .i64 o.page :: ints .u8 o.data
def Bts (zs : List Int) : Prop := ∀ x ∈ zs, 0 ≤ x ∧ x < 256
theorem Bts.get {zs : List Int} (h : Bts zs) (j : Nat) : 0 ≤ zs.getD j 0 ∧ zs.getD j 0 < 256 := by
  by_cases hj : j < zs.length
  · rw [List.getD_eq_getElem?_getD, List.getElem?_eq_getElem hj]; exact h _ (List.getElem_mem hj)
  · rw [List.getD_eq_getElem?_getD, List.getElem?_eq_none (by omega)]; simp
/-- A write that a disk of n pages takes. -/
def OwOk (n : Nat) (o : OW) : Prop := o.page < n ∧ o.data.length = 256 ∧ Bts o.data
theorem OwOk.len {n : Nat} {o : OW} (h : OwOk n o) : (encW o).length = 257 := by simp [encW, ints, h.2.1]
theorem encW_one (o : OW) : ∀ v ∈ encW o, v.oneCell' = true := by
  intro v hv
  rcases List.mem_cons.1 hv with rfl | h
  · rfl
  · exact ints_one _ _ v h
/-- The place of the last open write of a page. -/
def lastR (p : Nat) : List OW → Option Nat
  | [] => none
  | o :: r => if o.page = p then some r.length else lastR p r
def lastOf (ops : List OW) (p : Nat) : Option Nat := lastR p ops.reverse
theorem lastOf_nil (p : Nat) : lastOf [] p = none := rfl
theorem lastOf_snoc (ops : List OW) (o : OW) (p : Nat) : lastOf (ops ++ [o]) p = if o.page = p then some ops.length else lastOf ops p := by
  simp [lastOf, lastR]
theorem lastR_lt (p : Nat) : ∀ (r : List OW) (i : Nat), lastR p r = some i → i < r.length
  | [], i, h => by cases h
  | o :: r, i, h => by
    unfold lastR at h
    split at h
    · cases h; simp
    · have := lastR_lt p r i h; simp; omega
theorem lastOf_lt {ops : List OW} {p i : Nat} (h : lastOf ops p = some i) : i < ops.length := by simpa using lastR_lt p ops.reverse i h
/-- What the map of the newest writes says. -/
structure NewM (M : DataW Unit) (ops : List OW) : Prop where
  isMap : Maps.IsMap M
  no : ∀ p, lastOf ops p = none → Maps.has M (.int .i64 (p : Nat)) = false
  yes : ∀ p i, lastOf ops p = some i → Maps.has M (.int .i64 (p : Nat)) = true ∧ M.atKey (.int .i64 (p : Nat)) (.lit (.int .i64 0)) = .lit (.int .i64 (i : Nat))
theorem NewM.nil : NewM (.map []) [] := ⟨Maps.isMap_empty, fun p _ => rfl, fun p i h => by cases h⟩
theorem wfk (p : Nat) (h : p < 4096) : (Lit.int .i64 (p : Nat)).wf = true := WalkArith.wf_i64 (by omega)
theorem NewM.snoc {M : DataW Unit} {ops : List OW} (h : NewM M ops) (o : OW) (hp : o.page < 4096) : NewM (M.put (.int .i64 (o.page : Nat)) (.lit (.int .i64 (ops.length : Nat)))) (ops ++ [o]) := by
  have hk : WideAt.IsKeyLit (.int .i64 (o.page : Nat)) := by first | trivial | exact wfk _ hp | decide
  refine ⟨h.isMap.put _ _, fun p hl => ?_, fun p i hl => ?_⟩
  · rw [lastOf_snoc] at hl
    split at hl
    · cases hl
    · rename_i hne
      rw [Maps.has_put_other (by intro e; simp only [Lit.int.injEq, true_and] at e; omega)]
      exact h.no p hl
  · rw [lastOf_snoc] at hl
    split at hl
    · rename_i he
      cases hl
      subst he
      exact ⟨Maps.has_put_same h.isMap hk _, Maps.atKey_put_same h.isMap hk _ _⟩
    · rename_i hne
      rw [Maps.has_put_other (by intro e; simp only [Lit.int.injEq, true_and] at e; omega), Maps.atKey_put_other (by intro e; simp only [Lit.int.injEq, true_and] at e; omega)]
      exact h.yes p i hl
/-- Where a disk's parts lie. -/
structure DP where
  p : Nat
  g : Nat
  m : Nat
  gc : Nat
  ov : Value
  rest : List Value
  M : DataW Unit
def DP.fp (P : DP) : List Nat := P.p :: P.g :: P.m :: P.ov.ownBlock.toList
def dcells (P : DP) (D : DS) : Array Value := #[.int .i64 D.reads, .int .i64 D.writes, .int .i64 D.syncs, .int .i64 D.ops.length, .slice (some ⟨P.g, 0, none⟩) D.img.length P.gc, P.ov, .map (some P.m), .bool D.power, .int .i64 D.armed, .int .i64 D.epoch]
/-- A disk of n pages that is as it should. -/
structure DsOk (D : DS) : Prop where
  n : ∃ n, 3 ≤ n ∧ n ≤ 4096 ∧ D.img.length = 256 * n ∧ ∀ o ∈ D.ops, OwOk n o
  bts : Bts D.img
  ops : D.ops.length ≤ 400000000000
  reads : 0 ≤ D.reads ∧ D.reads ≤ 4000000000000000000
  writes : 0 ≤ D.writes ∧ D.writes ≤ 4000000000000000000
  syncs : 0 ≤ D.syncs ∧ D.syncs ≤ 4000000000000000000
  epoch : 0 ≤ D.epoch ∧ D.epoch ≤ 4000000000000000000
  armed : 0 ≤ D.armed ∧ D.armed ≤ 9223372036854775807
structure DK (w : World) (base : Nat) (P : DP) (D : DS) : Prop where
  cell : w.heap[P.p]? = some (.cells (dcells P D) 53 (0, 0))
  im : w.heap[P.g]? = some (.cells (ints .u8 D.img ++ P.rest).toArray 5 (0, 0))
  gl : D.img.length ≤ P.gc
  gm : P.gc ≤ maxLen
  opn : w.ownsRow base 119 257 P.ov D.ops.length (D.ops.flatMap encW)
  mp : w.ownsMap Try.prog 3 (plainElem Try.prog 3) P.m D.ops.length P.M
  new : NewM P.M D.ops
  bp : base ≤ P.p
  bg : base ≤ P.g
  bm : base ≤ P.m
/-- What else has not turned. -/
structure Fr (F : List Nat) (a b : World) : Prop where
  os : b.os = a.os
  tape : b.tape = a.tape
  output : b.output = a.output
  size : a.heap.size ≤ b.heap.size
  block : ∀ k, k < a.heap.size → k ∉ F → b.heap[k]? = a.heap[k]?
theorem Fr.refl (F : List Nat) (a : World) : Fr F a a := ⟨rfl, rfl, rfl, Nat.le_refl _, fun _ _ _ => rfl⟩
/-- Blocks that were there, or are new. -/
def Gr (w : World) (F F' : List Nat) : Prop := ∀ k ∈ F', k ∈ F ∨ w.heap.size ≤ k
theorem Gr.refl (w : World) (F : List Nat) : Gr w F F := fun k h => Or.inl h
theorem Fr.trans {F F' : List Nat} {a b c : World} (h : Fr F a b) (k : Fr F' b c) (g : Gr a F F') : Fr F a c :=
  ⟨k.os.trans h.os, k.tape.trans h.tape, k.output.trans h.output, Nat.le_trans h.size k.size, fun i hi hn => (k.block i (Nat.lt_of_lt_of_le hi h.size) (fun e => (g i e).elim hn (by omega))).trans (h.block i hi hn)⟩
theorem Gr.trans {F F' F'' : List Nat} {a b : World} (h : Gr a F F') (k : Gr b F' F'') (hs : a.heap.size ≤ b.heap.size) : Gr a F F'' := fun i hi => (k i hi).elim (h i) (fun q => Or.inr (by omega))
theorem Fr.of_below {F : List Nat} {a b : World} (h : Below a.heap.size a b) : Fr F a b := ⟨h.os, h.tape, h.output, h.size, fun k hk _ => h.block k hk⟩
theorem Fr.below {F : List Nat} {a b : World} {B : Nat} (h : Fr F a b) (hF : ∀ k ∈ F, B ≤ k) (hB : B ≤ a.heap.size) : Below B a b := ⟨h.os, h.tape, h.output, h.size, fun k hk => h.block k (by omega) (fun e => by have := hF k e; omega)⟩
theorem Fr.drew {F : List Nat} {a b : World} (h : Fr F a b) : Fr F a b.drew := ⟨h.os, h.tape, h.output, h.size, h.block⟩
theorem Fr.setCell {F : List Nat} {a b : World} (h : Fr F a b) {p : Nat} (hp : p ∈ F) (o : Nat) (v : Value) : Fr F a (b.setCell ⟨p, o, none⟩ v) :=
  ⟨h.os, h.tape, h.output, by rw [World.size_setCell]; exact h.size, fun k hk hn => (heap_setCell_other b ⟨p, o, none⟩ k v (fun e => hn (e ▸ hp))).trans (h.block k hk hn)⟩
theorem Fr.tail {F F' : List Nat} {a b c : World} (h : Fr F a b) (k : Below b.heap.size b c) : Fr F a c :=
  ⟨k.os.trans h.os, k.tape.trans h.tape, k.output.trans h.output, Nat.le_trans h.size k.size, fun i hi hn => (k.block i (Nat.lt_of_lt_of_le hi h.size)).trans (h.block i hi hn)⟩
/-- A row stays while its block does. -/
theorem ownsRow_heap {w w1 : World} {base t k n : Nat} {v : Value} {cs : List Value} (h : w.ownsRow base t k v n cs) (hk : ∀ i, v.ownBlock = some i → w1.heap[i]? = w.heap[i]?) : w1.ownsRow base t k v n cs := by
  refine ⟨h.1, ?_⟩
  rcases h.2 with h2 | ⟨g, cap, cur, rfl, hg, hh, r⟩
  · exact Or.inl h2
  · exact Or.inr ⟨g, cap, cur, rfl, hg, (hk g rfl).trans hh, r⟩
theorem ownsRow_block {w : World} {base t k n : Nat} {v : Value} {cs : List Value} (h : w.ownsRow base t k v n cs) : ∀ i, v.ownBlock = some i → base ≤ i ∧ ∃ cur, w.heap[i]? = some (.cells cur t (0, 0)) := by
  intro i hi
  rcases h.2 with ⟨rfl, _⟩ | ⟨g, cap, cur, rfl, hg, hh, r⟩
  · simp [Value.ownBlock] at hi
  · simp [Value.ownBlock] at hi; subst hi; exact ⟨hg, cur, hh⟩
theorem ownsMap_heap {w w1 : World} {b n : Nat} {M : DataW Unit} (h : w.ownsMap Try.prog 3 (plainElem Try.prog 3) b n M) (hk : w1.heap[b]? = w.heap[b]?) : w1.ownsMap Try.prog 3 (plainElem Try.prog 3) b n M := by
  obtain ⟨es, clock, hb, F, hs, hD⟩ := h
  exact ⟨es, clock, hk.trans hb, F, hs, hD⟩
theorem DP.mem (P : DP) (k : Nat) : k ∈ P.fp ↔ k = P.p ∨ k = P.g ∨ k = P.m ∨ P.ov.ownBlock = some k := by
  simp [DP.fp, eq_comm]
theorem DK.lt {w : World} {base : Nat} {P : DP} {D : DS} (h : DK w base P D) : ∀ k ∈ P.fp, base ≤ k ∧ k < w.heap.size := by
  intro k hk
  rcases (P.mem k).1 hk with rfl | rfl | rfl | e
  · exact ⟨h.bp, hlt h.cell⟩
  · exact ⟨h.bg, hlt h.im⟩
  · exact ⟨h.bm, h.mp.lt⟩
  · obtain ⟨a, cur, b⟩ := ownsRow_block h.opn k e; exact ⟨a, hlt b⟩
theorem DK.of_heap {w w1 : World} {base : Nat} {P : DP} {D : DS} (h : DK w base P D) (hk : ∀ k ∈ P.fp, w1.heap[k]? = w.heap[k]?) : DK w1 base P D :=
  ⟨(hk _ ((P.mem _).2 (Or.inl rfl))).trans h.cell, (hk _ ((P.mem _).2 (Or.inr (Or.inl rfl)))).trans h.im, h.gl, h.gm, ownsRow_heap h.opn fun i hi => hk i ((P.mem _).2 (Or.inr (Or.inr (Or.inr hi)))), ownsMap_heap h.mp (hk _ ((P.mem _).2 (Or.inr (Or.inr (Or.inl rfl))))), h.new, h.bp, h.bg, h.bm⟩
theorem DK.below {w w1 : World} {base : Nat} {P : DP} {D : DS} (h : DK w base P D) (hb : Below w.heap.size w w1) : DK w1 base P D := h.of_heap fun k hk => hb.block k (h.lt k hk).2
theorem ne_ty {w : World} {a b : Nat} {x y : Array Value} {t u : TypeId} {f f' : Nat × Nat} (ha : w.heap[a]? = some (.cells x t f)) (hb : w.heap[b]? = some (.cells y u f')) (h : t ≠ u) : a ≠ b := by
  rintro rfl; rw [ha] at hb; simp only [Option.some.injEq, Obj.cells.injEq] at hb; exact h hb.2.1
theorem DK.pg {w : World} {base : Nat} {P : DP} {D : DS} (h : DK w base P D) : P.p ≠ P.g := ne_ty h.cell h.im (by decide)
theorem DK.pm {w : World} {base : Nat} {P : DP} {D : DS} (h : DK w base P D) : P.p ≠ P.m := by
  obtain ⟨es, clock, hb, _⟩ := h.mp
  intro e; rw [← e, h.cell] at hb; cases hb
theorem DK.gm' {w : World} {base : Nat} {P : DP} {D : DS} (h : DK w base P D) : P.g ≠ P.m := by
  obtain ⟨es, clock, hb, _⟩ := h.mp
  intro e; rw [← e, h.im] at hb; cases hb
theorem DK.po {w : World} {base : Nat} {P : DP} {D : DS} (h : DK w base P D) : P.ov.ownBlock ≠ some P.p := fun e => by
  obtain ⟨_, cur, hh⟩ := ownsRow_block h.opn _ e; exact ne_ty hh h.cell (by decide) rfl
theorem DK.go {w : World} {base : Nat} {P : DP} {D : DS} (h : DK w base P D) : P.ov.ownBlock ≠ some P.g := fun e => by
  obtain ⟨_, cur, hh⟩ := ownsRow_block h.opn _ e; exact ne_ty hh h.im (by decide) rfl
theorem DK.mo {w : World} {base : Nat} {P : DP} {D : DS} (h : DK w base P D) : P.ov.ownBlock ≠ some P.m := fun e => by
  obtain ⟨_, cur, hh⟩ := ownsRow_block h.opn _ e
  obtain ⟨es, clock, hb, _⟩ := h.mp
  rw [hh] at hb; cases hb
/-- A disk, its footprint and its pointer. -/
def DA (w : World) (base : Nat) (F : List Nat) (p : Nat) (D : DS) : Prop := ∃ P : DP, P.p = p ∧ P.fp = F ∧ DK w base P D ∧ DsOk D
theorem DA.lt {w : World} {base : Nat} {F : List Nat} {p : Nat} {D : DS} (h : DA w base F p D) : ∀ k ∈ F, base ≤ k ∧ k < w.heap.size := by
  obtain ⟨P, rfl, rfl, h, _⟩ := h; exact h.lt
theorem DA.ok {w : World} {base : Nat} {F : List Nat} {p : Nat} {D : DS} (h : DA w base F p D) : DsOk D := by
  obtain ⟨P, rfl, rfl, h, k⟩ := h; exact k
theorem DA.below {w w1 : World} {base : Nat} {F : List Nat} {p : Nat} {D : DS} (h : DA w base F p D) (hb : Below w.heap.size w w1) : DA w1 base F p D := by
  obtain ⟨P, e1, e2, h, k⟩ := h; exact ⟨P, e1, e2, h.below hb, k⟩
def Apart (F G : List Nat) : Prop := ∀ k ∈ F, k ∉ G
theorem DA.other {w w1 : World} {base b2 : Nat} {F G : List Nat} {p : Nat} {D : DS} (h : DA w base G p D) (hf : Fr F w w1) (ha : Apart F G) : DA w1 base G p D := by
  have hl := h.lt
  obtain ⟨P, e1, rfl, h, k⟩ := h
  exact ⟨P, e1, rfl, h.of_heap fun i hi => hf.block i (hl i hi).2 (fun e => ha i e hi), k⟩
theorem Apart.symm {F G : List Nat} (h : Apart F G) : Apart G F := fun k hk e => h k e hk
theorem Apart.step {w : World} {F F' G : List Nat} (h : Apart F G) (hG : ∀ k ∈ G, k < w.heap.size) (hg : Gr w F F') : Apart F' G := fun k hk e => (hg k hk).elim (fun q => h k q e) (fun q => by have := hG k e; omega)
/-- What a call leaves. -/
def Nx (base : Nat) (F : List Nat) (p : Nat) (w : World) (D' : DS) (w' : World) : Prop := ∃ F', DA w' base F' p D' ∧ Fr F w w' ∧ Gr w F F'
end Go.Proofs.Ytihkjfbhmlfonaa
