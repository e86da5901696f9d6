import Derived.Test.YtbddndcdcicnaabDoorLa5
import Derived.Test.YtbddndcdcicnaabDoorNh
namespace Go.Proofs.YtbddndcdcicnaabDoor
set_option linter.unusedVariables false
set_option linter.unusedSimpArgs false
open Go.ChangeShapes Go.WideShapes Go.ChangeAt Go.RowKit

theorem cells3 : Tryd.prog.cellsOf 3 = 1 := by kernel_rfl
theorem cellsSup : Tryd.prog.cellsOf 23 = 5 := by kernel_rfl
/-- A superblock's fields fit. -/
def SupOk (s : Sup) : Prop := (-9223372036854775808 ≤ s.wd ∧ s.wd ≤ 9223372036854775807) ∧ (-9223372036854775808 ≤ s.ge ∧ s.ge ≤ 9223372036854775807) ∧ (-9223372036854775808 ≤ s.ma ∧ s.ma ≤ 9223372036854775807) ∧ (-9223372036854775808 ≤ s.hd ∧ s.hd ≤ 9223372036854775807) ∧ (-9223372036854775808 ≤ s.pg ∧ s.pg ≤ 9223372036854775807)
theorem open_super {H : Type} {enc : TypeId × Value → H} {W : World} {v : Value} {d : DataW H} {p : List MemPlace} {b0 : Nat}
    (hv : Value.okWide Tryd.prog W .any b0 23 v) (h : DataW.Trod enc Tryd.prog W 0 (fun _ => true) true 23 v d p) : ∃ s : Sup, v = .agg (supC s) ∧ SupOk s := by
  obtain ⟨cs, rfl, hsz⟩ := okWide_struct Tryd.underlying23 hv
  rw [cellsSup] at hsz
  obtain ⟨fuel, hf⟩ := h
  change DataW.trod enc Tryd.prog W 0 (fun _ => true) true fuel 23 cs.toList = some (d, p) at hf
  obtain ⟨xs, k, hk, hxy, _, hxl, hfd⟩ := DataW.trod_struct Tryd.underlying23 hf
  have hxl' : xs.length = 5 := hxl
  have each : ∀ i (hi : i < 5), ∃ z, cs[i]? = some (.int .i64 z) ∧ -9223372036854775808 ≤ z ∧ z ≤ 9223372036854775807 := fun i hi => by
    have hg : DataW.trod enc Tryd.prog W 0 (fun _ => true) true k 3 ((cs.toList.drop i).take 1) = some (xs[i]'(by omega)) := by
      have hi' : i = 0 ∨ i = 1 ∨ i = 2 ∨ i = 3 ∨ i = 4 := by omega
      rcases hi' with rfl | rfl | rfl | rfl | rfl
      · have := hfd 0 _ rfl
        rw [List.getElem?_eq_getElem (by omega)] at this
        exact this
      · have := hfd 1 _ rfl
        rw [List.getElem?_eq_getElem (by omega)] at this
        exact this
      · have := hfd 2 _ rfl
        rw [List.getElem?_eq_getElem (by omega)] at this
        exact this
      · have := hfd 3 _ rfl
        rw [List.getElem?_eq_getElem (by omega)] at this
        exact this
      · have := hfd 4 _ rfl
        rw [List.getElem?_eq_getElem (by omega)] at this
        exact this
    obtain ⟨z, hz, _, hw⟩ := DataW.trod_int Tryd.underlying3 hg
    refine ⟨z, ?_, bounds_i64 hw⟩
    have e : ((cs.toList.drop i).take 1)[0]? = cs[i]? := by simp
    rw [← e, hz]; rfl
  obtain ⟨z0, e0, w0⟩ := each 0 (by omega)
  obtain ⟨z1, e1, w1⟩ := each 1 (by omega)
  obtain ⟨z2, e2, w2⟩ := each 2 (by omega)
  obtain ⟨z3, e3, w3⟩ := each 3 (by omega)
  obtain ⟨z4, e4, w4⟩ := each 4 (by omega)
  refine ⟨⟨z0, z1, z2, z3, z4⟩, ?_, w0, w1, w2, w3, w4⟩
  congr 1
  apply Array.ext_getElem?
  intro i
  by_cases hi : i < 5
  · have hi' : i = 0 ∨ i = 1 ∨ i = 2 ∨ i = 3 ∨ i = 4 := by omega
    rcases hi' with rfl | rfl | rfl | rfl | rfl
    · rw [e0]; rfl
    · rw [e1]; rfl
    · rw [e2]; rfl
    · rw [e3]; rfl
    · rw [e4]; rfl
  · rw [Array.getElem?_eq_none (by omega), Array.getElem?_eq_none (by simp [supC]; omega)]
end Go.Proofs.YtbddndcdcicnaabDoor
