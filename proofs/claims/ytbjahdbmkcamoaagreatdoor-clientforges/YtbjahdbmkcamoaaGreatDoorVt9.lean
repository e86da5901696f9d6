import Derived.Test.YtbjahdbmkcamoaaGreatDoorKt
namespace Go.Proofs.YtbjahdbmkcamoaaGreatDoor
set_option linter.unusedVariables false
set_option linter.unusedSimpArgs false
open Go.RowKit
attribute [local go_sem ↓] Go.wp_at_zero Go.wp_at_succ

theorem cmpK_all {z y : List Int} (hl : z.length = y.length) (h : ∀ j, j < z.length → z.getD j 0 = y.getD j 0) : z = y := by
  apply List.ext_getElem hl
  intro i h1 h2
  have := h i h1
  simpa [List.getD_eq_getElem?_getD, List.getElem?_eq_getElem h1, List.getElem?_eq_getElem h2] using this
/-- A list that a call made, not empty. -/
theorem Own.pos {w : World} {base : Nat} {v : Value} {zs : List Int} (h : Own w base v zs) (hp : 0 < zs.length) : ∃ g cap, v = .slice (some ⟨g, 0, none⟩) zs.length cap ∧ w.cell? ⟨g, 0, none⟩ = some (.int .u8 (zs.getD 0 0)) ∧ Src w (some ⟨g, 0, none⟩) cap zs ∧ g < w.heap.size := by
  obtain ⟨h1, ⟨rfl, hn⟩ | ⟨g, cap, cur, rfl, hg, hh, hc, hm, hs, ht⟩⟩ := h
  · omega
  · have hS : Src w (some ⟨g, 0, none⟩) cap zs := by
      refine ⟨hc, hm, g, 0, fun _ => hlt hh, fun _ => rfl, fun j hj => ?_⟩
      rw [Nat.zero_add, cell_of_row _ _ _ _ _ _ hh]
      have hg2 := ints_get .u8 zs j hj
      rw [← ht, List.getElem?_take, if_pos (by omega)] at hg2
      simpa using hg2
    refine ⟨g, cap, rfl, ?_, hS, hlt hh⟩
    obtain ⟨_, _, b, o, _, h4, h5⟩ := hS
    have e := h4 hp
    simp only [Option.some.injEq, Addr.mk.injEq] at e
    obtain ⟨rfl, rfl, _⟩ := e
    exact h5 0 hp
end Go.Proofs.YtbjahdbmkcamoaaGreatDoor
