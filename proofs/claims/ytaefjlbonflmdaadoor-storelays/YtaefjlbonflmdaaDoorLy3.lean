import Derived.Test.YtaefjlbonflmdaaDoorLy2
import Derived.Test.YtaefjlbonflmdaaDoorSt19
import Derived.Deep.Matrix
namespace Go.Proofs.YtaefjlbonflmdaaDoor
set_option linter.unusedVariables false
set_option linter.unusedSimpArgs false
open Go.ChangeShapes Go.WideShapes Go.ChangeAt Go.RowKit
theorem cellsLt : Tryd.prog.cellsOf 35 = 1 := by kernel_rfl
section
variable {H : Type} {enc : TypeId × Value → H} {W : World}
set_option maxRecDepth 100000 in
theorem open_lots {fuel : Nat} {v : Value} {d : DataW H} {p : List MemPlace} (hw : WS 22 d) (hf : DataW.trod enc Tryd.prog W 0 (fun _ => true) true fuel 22 [v] = some (d, p)) :
    ∃ (ls : List (List MD)) (sp : Option Addr) (cap : Nat), v = .slice sp ls.length cap ∧ Lts W W.heap.size sp ls ∧ ls.length ≤ cap ∧ cap ≤ 9223372036854775807 := by
  rcases Deep.open_slice Tryd.underlying22 hf with ⟨hcs, hx⟩ | ⟨a, len, cap, m, n, D, Pl, hcs, _, hl, hm, hmm, hx, hrow⟩
  · simp at hcs
    subst hcs
    exact ⟨[], none, 0, rfl, ⟨0, 0, fun h => by simp at h, fun i hi => by simp at hi⟩, by decide, by decide⟩
  · simp at hcs
    subst hcs
    simp only [Prod.mk.injEq] at hx
    obtain ⟨rfl, _⟩ := hx
    simp only [if_true] at hmm
    subst hmm
    obtain ⟨w1, w2⟩ := hw.slice Tryd.underlying22
    have each : ∀ i, i < len → ∃ q : List MD, ∃ tp tc, W.cell? (a.add (i * 1)) = some (.slice tp q.length tc) ∧ Mds W W.heap.size tp q ∧ q.length ≤ tc ∧ tc ≤ 9223372036854775807 ∧ ∀ c ∈ q, MdOk c := by
      intro i hi
      obtain ⟨cs', h1, h2⟩ := hrow i (by omega)
      rw [cellsLt] at h1
      obtain ⟨_, hlen, hcell⟩ := World.cells?_some h1
      obtain ⟨c, rfl⟩ : ∃ c, cs' = [c] := by
        match cs', hlen with
        | [c], _ => exact ⟨c, rfl⟩
      have hd := w2 (D i) (List.mem_map.2 ⟨i, List.mem_range.2 hi, rfl⟩)
      obtain ⟨q, tp, tc, rfl, hM, hok, hq, htc⟩ := open_mades hd h2
      refine ⟨q, tp, tc, ?_, hM, hq, htc, hok⟩
      have := hcell 0 (by omega)
      rw [Deep.add_add, Nat.add_zero] at this
      rw [this]; rfl
    obtain ⟨q, hq⟩ := Deep.choose_lt (α := List MD) each
    have gm : ∀ i, i < len → ((List.range len).map q).getD i [] = q i := fun i hi => by simp [hi]
    have hlen : ((List.range len).map q).length = len := by simp
    by_cases hz : 0 < len
    · obtain ⟨_, _, c0, _⟩ := hq 0 hz
      have hsp : a.spot = none := by
        have := World.cell?_spot c0
        unfold Addr.add at this; split at this <;> simp_all
      obtain ⟨b, o, spot⟩ := a
      obtain rfl : spot = none := hsp
      have hblk : b < W.heap.size := by
        have := block_lt_of_cell c0; rwa [Addr.add_mid] at this
      refine ⟨(List.range len).map q, some ⟨b, o, none⟩, m, by rw [hlen], ⟨b, o, fun _ => ⟨hblk, rfl⟩, fun i hi => ?_⟩, by rw [hlen]; exact hl, by unfold maxLen at hm; omega⟩
      rw [hlen] at hi
      rw [gm i hi]
      obtain ⟨tp, tc, e1, e2, e3, e4, e5⟩ := hq i hi
      rw [Addr.add_mid, Nat.mul_one] at e1
      exact ⟨tp, tc, e1, e2, e3, e4, fun j hj => e5 _ (by rw [List.getD_eq_getElem?_getD, List.getElem?_eq_getElem hj]; exact List.getElem_mem hj)⟩
    · exact ⟨(List.range len).map q, some a, m, by rw [hlen], ⟨0, 0, fun h => by rw [hlen] at h; omega, fun i hi => by rw [hlen] at hi; omega⟩, by rw [hlen]; exact hl, by unfold maxLen at hm; omega⟩
end
end Go.Proofs.YtaefjlbonflmdaaDoor
