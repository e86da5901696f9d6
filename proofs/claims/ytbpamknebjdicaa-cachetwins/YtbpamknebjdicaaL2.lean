import Derived.Test.YtbpamknebjdicaaL1
import Derived.Maps.OwnSet
import Derived.Maps.OwnOps
namespace Go.Proofs.Ytbpamknebjdicaa
set_option linter.unusedVariables false
set_option linter.unusedSimpArgs false
open Go.RowKit
attribute [local go_sem ↓] Go.wp_at_zero Go.wp_at_succ

/-- What else has not turned. -/
structure Fr (F : List Nat) (a b : World) : Prop where
  os : b.os = a.os
  tape : b.tape = a.tape
  output : b.output = a.output
  size : a.heap.size ≤ b.heap.size
  block : ∀ k, k < a.heap.size → k ∉ F → b.heap[k]? = a.heap[k]?
theorem Fr.refl (F : List Nat) (a : World) : Fr F a a := ⟨rfl, rfl, rfl, Nat.le_refl _, fun _ _ _ => rfl⟩
/-- Blocks that were there, or are new. -/
def Gr (w : World) (F F' : List Nat) : Prop := ∀ k ∈ F', k ∈ F ∨ w.heap.size ≤ k
theorem Gr.refl (w : World) (F : List Nat) : Gr w F F := fun k h => Or.inl h
theorem Fr.trans {F F' : List Nat} {a b c : World} (h : Fr F a b) (k : Fr F' b c) (g : Gr a F F') : Fr F a c :=
  ⟨k.os.trans h.os, k.tape.trans h.tape, k.output.trans h.output, Nat.le_trans h.size k.size, fun i hi hn => (k.block i (Nat.lt_of_lt_of_le hi h.size) (fun e => (g i e).elim hn (by omega))).trans (h.block i hi hn)⟩
theorem Fr.trans' {F : List Nat} {a b c : World} (h : Fr F a b) (k : Fr F b c) : Fr F a c := h.trans k (Gr.refl a F)
theorem Gr.trans {F F' F'' : List Nat} {a b : World} (h : Gr a F F') (k : Gr b F' F'') (hs : a.heap.size ≤ b.heap.size) : Gr a F F'' := fun i hi => (k i hi).elim (h i) (fun q => Or.inr (by omega))
theorem Fr.of_below {F : List Nat} {a b : World} (h : Below a.heap.size a b) : Fr F a b := ⟨h.os, h.tape, h.output, h.size, fun k hk _ => h.block k hk⟩
theorem Fr.below {F : List Nat} {a b : World} {B : Nat} (h : Fr F a b) (hF : ∀ k ∈ F, B ≤ k) (hB : B ≤ a.heap.size) : Below B a b := ⟨h.os, h.tape, h.output, h.size, fun k hk => h.block k (by omega) (fun e => by have := hF k e; omega)⟩
theorem Fr.setCell {F : List Nat} {a b : World} (h : Fr F a b) {p : Nat} (hp : p ∈ F) (o : Nat) (v : Value) : Fr F a (b.setCell ⟨p, o, none⟩ v) :=
  ⟨h.os, h.tape, h.output, by rw [World.size_setCell]; exact h.size, fun k hk hn => (heap_setCell_other b ⟨p, o, none⟩ k v (fun e => hn (e ▸ hp))).trans (h.block k hk hn)⟩
def Apart (F G : List Nat) : Prop := ∀ k ∈ F, k ∉ G
theorem Apart.symm {F G : List Nat} (h : Apart F G) : Apart G F := fun k hk e => h k e hk
theorem Apart.step {w : World} {F F' G : List Nat} (h : Apart F G) (hG : ∀ k ∈ G, k < w.heap.size) (hg : Gr w F F') : Apart F' G := fun k hk e => (hg k hk).elim (fun q => h k q e) (fun q => by have := hG k e; omega)
theorem ne_ty {w : World} {a b : Nat} {x y : Array Value} {t u : TypeId} {f f' : Nat × Nat} (ha : w.heap[a]? = some (.cells x t f)) (hb : w.heap[b]? = some (.cells y u f')) (h : t ≠ u) : a ≠ b := by
  rintro rfl; rw [ha] at hb; simp only [Option.some.injEq, Obj.cells.injEq] at hb; exact h hb.2.1
/-! A cache, and how it lies in memory. -/
def optr : Option Nat → Value
  | none => .pointer none
  | some b => .pointer (some ⟨b, 0, none⟩)
/-- How a pointer in the map reads. -/
def PR (v : Value) : Option (DataW Unit × List MemPlace) := match v with
  | .pointer none => some (.lit (.int .i64 (-1)), [])
  | .pointer (some ⟨b, 0, none⟩) => some (.lit (.int .i64 (b : Nat)), [])
  | _ => none
theorem PR_some (b : Nat) : PR (.pointer (some ⟨b, 0, none⟩)) = some (.lit (.int .i64 (b : Nat)), []) := rfl
theorem PR_none : PR (.pointer none) = some (.lit (.int .i64 (-1)), []) := rfl
theorem PR_inv {v : Value} {b : Nat} {ps : List MemPlace} (h : PR v = some (.lit (.int .i64 (b : Nat)), ps)) : v = .pointer (some ⟨b, 0, none⟩) := by
  unfold PR at h
  split at h
  · simp at h
  · simp at h; obtain ⟨h1, _⟩ := h; have : _ = b := Int.ofNat.inj h1; rw [this]
  · cases h
theorem PR_inv0 {v : Value} {ps : List MemPlace} (h : PR v = some (.lit (.int .i64 (-1)), ps)) : v = .pointer none := by
  unfold PR at h
  split at h
  · rfl
  · simp at h
  · cases h
end Go.Proofs.Ytbpamknebjdicaa
