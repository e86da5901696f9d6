import Derived.Test.YtcifbnldohmbnaaSp
import Derived.Test.YtcifbnldohmbnaaCt
namespace Go.Proofs.Ytcifbnldohmbnaa
set_option linter.unusedVariables false
set_option linter.unusedSimpArgs false
open Go.RowKit
attribute [local go_sem ↓] Go.wp_at_zero Go.wp_at_succ

/-! A row of changes that is written into. -/
def RowM (w : World) (g : Nat) (os : List MC) : Prop := w.heap[g]? = some (.cells (os.flatMap encM).toArray 40 (0, 0))
def Len34 (os : List MC) : Prop := ∀ m ∈ os, (encM m).length = 34
theorem Len34.set {os : List MC} (h : Len34 os) (k : Nat) (m : MC) (hm : (encM m).length = 34) : Len34 (os.set k m) := fun x hx => by
  rcases List.mem_or_eq_of_mem_set hx with h1 | rfl
  · exact h x h1
  · exact hm
theorem flat_set : ∀ (os : List MC) (h : Len34 os) (k : Nat) (m : MC), k < os.length → (os.flatMap encM).take (k * 34) ++ encM m ++ (os.flatMap encM).drop (k * 34 + 34) = (os.set k m).flatMap encM
  | [], _, k, m, hk => by simp at hk
  | x :: os, h, 0, m, _ => by
    have hx := h x (by simp)
    rw [List.flatMap_cons, Nat.zero_mul, List.take_zero, List.nil_append, Nat.zero_add, List.drop_append_of_le_length (by omega), List.drop_of_length_le (by omega), List.nil_append, List.set_cons_zero, List.flatMap_cons]
  | x :: os, h, k + 1, m, hk => by
    have hx := h x (by simp)
    have ih := flat_set os (fun y hy => h y (by simp [hy])) k m (by simp at hk; omega)
    rw [List.flatMap_cons, List.set_cons_succ, List.flatMap_cons, ← ih]
    rw [show (k + 1) * 34 = (encM x).length + k * 34 by omega, List.take_length_add_append, show (encM x).length + k * 34 + 34 = (encM x).length + (k * 34 + 34) by omega, List.drop_length_add_append]
    simp only [List.append_assoc]
theorem flat_setv : ∀ (os : List MC) (h : Len34 os) (k : Nat) (v : Value), k < os.length → (os.getD k dM).key.length = 32 → (os.flatMap encM).set (k * 34 + 33) v = (os.set k ⟨(os.getD k dM).key, (os.getD k dM).del, v⟩).flatMap encM
  | [], _, k, m, hk, _ => by simp at hk
  | x :: os, h, 0, v, _, hl => by
    have hx := h x (by simp)
    rw [List.flatMap_cons, Nat.zero_mul, Nat.zero_add, List.set_append_left _ _ (by omega), List.set_cons_zero, List.flatMap_cons]
    congr 1
    simp only [List.getD_cons_zero] at hl ⊢
    simp only [encM]
    rw [List.set_append_right _ _ (by rw [ints_len, hl]; decide), ints_len, hl]; rfl
  | x :: os, h, k + 1, v, hk, hl => by
    have hx := h x (by simp)
    have ih := flat_setv os (fun y hy => h y (by simp [hy])) k v (by simp at hk; omega) (by simpa using hl)
    rw [List.flatMap_cons, List.set_cons_succ, List.flatMap_cons, List.set_append_right _ _ (by omega), show (k + 1) * 34 + 33 - (encM x).length = k * 34 + 33 by omega, ih]
    simp
theorem RowM.there {w : World} {g : Nat} {os : List MC} (h : RowM w g os) (hl : Len34 os) (k : Nat) (hk : k < os.length) : w.there g (k * 34) 34 := fun j hj => by
  have := flat_len os hl
  exact ⟨by rw [cell_of_row _ _ _ _ _ _ h, List.getElem?_toArray, List.getElem?_eq_getElem (by rw [this]; omega)]; rfl, frozen_of_row _ _ _ _ _ h⟩
theorem RowM.put {w : World} {g : Nat} {os : List MC} (h : RowM w g os) (hl : Len34 os) (k : Nat) (hk : k < os.length) (m : MC) (hm : (encM m).length = 34) (h1 : ∀ v ∈ encM m, v.oneCell' = true) :
    RowM (w.setCells g (k * 34) (encM m)) g (os.set k m) ∧ (∀ B, B ≤ g → Below B w (w.setCells g (k * 34) (encM m))) ∧ ∀ q, q ≠ g → (w.setCells g (k * 34) (encM m)).heap[q]? = w.heap[q]? := by
  have hf := flat_len os hl
  rw [setCells_row h (by rw [hf, hm]; omega) h1]
  refine ⟨?_, fun B hB => below_setRow (Below.refl _ _) hB _, fun q hq => setRow_other _ _ _ _ hq⟩
  unfold RowM
  rw [setRow_heap _ _ _ _ _ _ h, hm, flat_set os hl k m hk]
theorem RowM.putv {w : World} {g : Nat} {os : List MC} (h : RowM w g os) (hl : Len34 os) (k : Nat) (hk : k < os.length) (v : Value) (hm : (os.getD k dM).key.length = 32) :
    RowM (w.setCell ⟨g, k * 34 + 33, none⟩ v) g (os.set k ⟨(os.getD k dM).key, (os.getD k dM).del, v⟩) := by
  unfold RowM
  rw [heap_setCell_same _ _ _ _ _ _ h, List.setIfInBounds_toArray, flat_setv os hl k v hk hm]
theorem RowM.cellv {w : World} {g : Nat} {os : List MC} (h : RowM w g os) (hl : Len34 os) (k : Nat) (hk : k < os.length) (hm : (os.getD k dM).key.length = 32) : w.cell? ⟨g, k * 34 + 33, none⟩ = some (os.getD k dM).sv := by
  rw [cell_of_row _ _ _ _ _ _ h, List.getElem?_toArray, flat_get os hl k 33 (by decide), if_pos hk, encM, List.getElem?_append_right (by rw [ints_len, hm]; decide), ints_len, hm]; rfl
theorem RowM.own {w : World} {base g : Nat} {os : List MC} (h : RowM w g os) (hl : Len34 os) (hb : base ≤ g) (hm : os.length ≤ maxLen) : OwnM w base (.slice (some ⟨g, 0, none⟩) os.length os.length) os := by
  have hf := flat_len os hl
  exact ⟨hf, Or.inr ⟨g, os.length, (os.flatMap encM).toArray, rfl, hb, h, Nat.le_refl _, hm, by simp [hf], by rw [List.take_of_length_le (by simp [hf])]⟩⟩
theorem Try.infoZm : (Try.prog.info? 40).map (fun i => (i.zero.map (·.cells), i.size, i.bytes)) = some (some (encM dM).toArray, 34, 64) := by kernel_rfl
theorem Try.infoZ : ∃ i z, Try.prog.info? 40 = some i ∧ i.zero = some z ∧ z.cells = (encM dM).toArray ∧ i.size = 34 ∧ i.bytes = 64 := by
  have h := Try.infoZm
  cases hq : Try.prog.info? 40 with
  | none => rw [hq] at h; cases h
  | some i =>
    rw [hq] at h
    simp only [Option.map_some, Option.some.injEq, Prod.mk.injEq] at h
    obtain ⟨h1, h2, h3⟩ := h
    cases hz : i.zero with
    | none => rw [hz] at h1; cases h1
    | some z => rw [hz] at h1; simp only [Option.map_some, Option.some.injEq] at h1; exact ⟨i, z, rfl, hz, h1, h2, h3⟩
theorem len34_rep (n : Nat) : Len34 (List.replicate n dM) := fun m hm => by rw [(List.mem_replicate.1 hm).2]; exact encD_len
theorem made_chg (n : Nat) : (madeCells (encM dM).toArray (n * 34)).toList = (List.replicate n dM).flatMap encM := by
  have hl := flat_len (List.replicate n dM) (len34_rep n)
  rw [List.length_replicate] at hl
  apply List.ext_getElem?
  intro j
  by_cases hj : j < n * 34
  · have h1 : j / 34 < n := by omega
    have e := flat_get (List.replicate n dM) (len34_rep n) (j / 34) (j % 34) (Nat.mod_lt _ (by decide))
    rw [show j / 34 * 34 + j % 34 = j by omega, List.length_replicate, if_pos h1] at e
    rw [e, List.getD_eq_getElem?_getD, List.getElem?_replicate, if_pos h1, Option.getD_some]
    have hs : (encM dM).toArray.size = 34 := by simpa using encD_len
    rw [Array.getElem?_toList, Array.getElem?_eq_getElem (by rw [size_madeCells]; exact hj)]
    simp only [madeCells, Array.getElem_map, Array.getElem_range, hs]
    rw [getElem!_pos _ _ (by rw [hs]; exact Nat.mod_lt _ (by decide)), List.getElem_toArray, List.getElem?_eq_getElem]
  · rw [List.getElem?_eq_none (by simp [size_madeCells]; omega), List.getElem?_eq_none (by rw [hl]; omega)]
theorem made_rowM {w1 : World} {base g n : Nat} (h : w1.ownsRow base 40 34 (.slice (some ⟨g, 0, none⟩) n n) n (madeCells (encM dM).toArray (n * 34)).toList) : RowM w1 g (List.replicate n dM) := by
  obtain ⟨h1, ⟨hv, _⟩ | ⟨g', cap, cur, hv, hg, hh, hc, hm, hs, ht⟩⟩ := h
  · cases hv
  · simp only [Value.slice.injEq, Option.some.injEq, Addr.mk.injEq] at hv
    obtain ⟨⟨rfl, _⟩, _, rfl⟩ := hv
    rw [made_chg] at ht
    unfold RowM
    rw [hh, ← ht, List.take_of_length_le (by simp [hs])]
end Go.Proofs.Ytcifbnldohmbnaa
