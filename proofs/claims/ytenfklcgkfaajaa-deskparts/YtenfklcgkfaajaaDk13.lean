import Derived.Test.YtenfklcgkfaajaaDk12
import Derived.ProofKit
import Derived.OpenShut
import Derived.SizedLaws
import Derived.Deep.DeepHandedRow
import Derived.Deep.Slices
import Derived.Lib.LaidTab
namespace Go.Proofs.Ytenfklcgkfaajaa
set_option linter.unusedVariables false
set_option linter.unusedSimpArgs false
open Go.ChangeShapes Go.WideShapes Go.ChangeAt Go.RowKit

theorem own_knob : ownKnob Try.prog.godebug = none := by kernel_rfl
theorem Try.laidOut : laidOutB Try.prog = true := by kernel_rfl
theorem cells5 : Try.prog.cellsOf 5 = 1 := by kernel_rfl
theorem Try.bytes5 : Try.prog.bytesOf 5 = 1 := by kernel_rfl
/-- No slice in it is beyond the reach. -/
def WS {H : Type} (t : TypeId) (d : DataW H) : Prop := ∀ n ∈ d.weights Try.prog t, n ≤ reachBytes
theorem weightsAll_mem {H : Type} {P : Program} {e : TypeId} : ∀ {l : List (DataW H)} {d : DataW H}, d ∈ l → ∀ n ∈ d.weights P e, n ∈ DataW.weightsAll P e l
  | x :: l, d, hd, n, hn => by
    simp only [DataW.weightsAll, List.mem_append]
    rcases List.mem_cons.1 hd with rfl | h
    · exact Or.inl hn
    · exact Or.inr (weightsAll_mem h n hn)
theorem WS.slice {H : Type} {t e : TypeId} {el sp : List (DataW H)} (hu : Try.prog.underlying t = some (.slice e)) (h : WS t (.slice el sp)) : (el.length + sp.length) * Try.prog.bytesOf e ≤ reachBytes ∧ ∀ d ∈ el, WS e d :=
  ⟨h _ (by simp [DataW.weights, hu]), fun d hd n hn => h n (by
    simp only [DataW.weights, hu, List.mem_cons, List.mem_append]
    exact Or.inr (Or.inl (weightsAll_mem hd n hn)))⟩
theorem WS.field {H : Type} {t : TypeId} {fs : Array Field} {ds : List (DataW H)} (hu : Try.prog.underlying t = some (.struct fs)) (h : WS t (.agg ds)) {j : Nat} {f : Field} {d : DataW H} (hf : fs[j]? = some f) (hd : ds[j]? = some d) : WS f.type d :=
  fun n hn => h n (by
    simp only [DataW.weights, hu]
    exact DataW.weights_mem_each (by rw [List.getElem?_map]; simp [hf]) hd n hn)
section
variable {H : Type} {enc : TypeId × Value → H} {W : World}
theorem open_bytesN {fuel : Nat} {v : Value} {d : DataW H} {p : List MemPlace} (hw : WS 22 d) (hf : DataW.trod enc Try.prog W 0 (fun _ => true) true fuel 22 [v] = some (d, p)) :
    ∃ (zs : List Int) (sp : Option Addr) (cap : Nat), v = .slice sp zs.length cap ∧ Bys zs ∧ Src W sp cap zs ∧ (sp = none → cap = 0) ∧ zs.length ≤ 140737488351232 := by
  rcases open_ints Try.underlying22 Try.underlying5 cells5 hf with ⟨hcs, hx⟩ | ⟨a, len, cap, zs, hcs, _, hl, hm, hz, hx, hcell, hwz⟩
  · simp at hcs
    subst hcs
    exact ⟨[], none, 0, rfl, fun x hx => by simp at hx, Src.nil W, fun _ => rfl, by simp⟩
  · simp at hcs
    subst hcs
    have hzl : zs.length = cap := by simpa using hz
    have hll : (zs.take len).length = len := by rw [List.length_take]; omega
    refine ⟨zs.take len, some a, cap, by rw [hll], fun x hx => ?_, ⟨by rw [hll]; exact hl, hm, ?_⟩, (fun h => by cases h), ?_⟩
    · have := bounds_u8 (hwz x (List.mem_of_mem_take hx))
      omega
    · rw [hll]
      by_cases hL : 0 < len
      · have hc0 := hcell 0 (by omega)
        have hsp : a.spot = none := by have := World.cell?_spot hc0; unfold Addr.add at this; split at this <;> simp_all
        obtain ⟨b, o, spot⟩ := a
        obtain rfl : spot = none := hsp
        refine ⟨b, o, fun _ => by have := block_lt_of_cell hc0; rwa [Addr.add_mid] at this, fun _ => rfl, fun j hj => ?_⟩
        have := hcell j (by omega)
        rw [Addr.add_mid] at this
        rw [this]
        congr 2
        simp [List.getElem?_take, hj]
      · exact ⟨0, 0, fun h => by omega, fun h => by omega, fun j hj => by omega⟩
    · rw [hll]
      simp only [Prod.mk.injEq] at hx
      rw [hx.1] at hw
      have := (hw.slice Try.underlying22).1
      rw [Try.bytes5] at this
      simp [lits, reachBytes] at this
      omega
end
theorem cut_at (l : List Value) (n m : Nat) : l.drop n = (l.drop n).take m ++ l.drop (n + m) := by
  have := (List.take_append_drop m (l.drop n)).symm
  rwa [List.drop_drop] at this
theorem trod_one {H : Type} {enc : TypeId × Value → H} {W : World} {l : List Value} {n : Nat} (h : n < l.length) : ∃ sv, (l.drop n).take 1 = [sv] := by
  rw [List.take_one, List.head?_drop, List.getElem?_eq_getElem h]; exact ⟨_, rfl⟩
end Go.Proofs.Ytenfklcgkfaajaa
