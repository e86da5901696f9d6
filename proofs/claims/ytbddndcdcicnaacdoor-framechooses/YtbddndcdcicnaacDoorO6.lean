import Derived.Test.YtbddndcdcicnaacDoorO5
namespace Go.Proofs.YtbddndcdcicnaacDoor
set_option linter.unusedVariables false
set_option linter.unusedSimpArgs false
open Go.RowKit
attribute [local go_sem ↓] Go.wp_at_zero Go.wp_at_succ

/-- place, what is laid over being newer than the list. -/
theorem place_new (w : World) (base : Nat) (zs ys : List Int) (g uc : Nat) (rest : List Value) (hI : In w g rest (zs ++ t600)) (hl : ys.length = zs.length) (hg : g < base) (sp : Option Addr) (cap : Nat) (hO : Own w base (.slice sp ys.length cap) ys) (hlen : zs.length ≤ 140737488352000) :
    Calls Tryd.prog 9 #[.slice (some ⟨g, 0, none⟩) zs.length uc, .slice sp zs.length cap] w fun e w' => e = .returned (.tuple #[]) ∧ In w' g rest (ys ++ t600) ∧ Keeps g w w' ∧ Own w' base (.slice sp ys.length cap) ys := by
  have hKO : ∀ w', Keeps g w w' → Own w' base (.slice sp ys.length cap) ys := fun w' hK => hO.of_heap fun k hk => hK.block k (hO.block k hk).2 (by have := (hO.block k hk).1; omega)
  obtain ⟨tp, tc, hv, hS, _⟩ := hO.form
  simp only [Value.slice.injEq] at hv
  obtain ⟨rfl, _, rfl⟩ := hv
  obtain ⟨h1, h2, b, o, h3, h4, h5⟩ := hS
  by_cases hp : 0 < ys.length
  · have hb : b ≠ g := by
      have e := h4 hp
      have := (hO.block b (by rw [e]; rfl)).1
      omega
    refine (place_any w zs ys g uc rest hI hl b o sp cap hb h4 h5 hlen).mono ?_
    rintro e w' ⟨rfl, hI', hK⟩
    exact ⟨rfl, hI', hK, hKO w' hK⟩
  · refine (place_any w zs ys g uc rest hI hl (g + 1) 0 sp cap (by omega) (fun h => absurd h hp) (fun j hj => by omega) hlen).mono ?_
    rintro e w' ⟨rfl, hI', hK⟩
    exact ⟨rfl, hI', hK, hKO w' hK⟩
end Go.Proofs.YtbddndcdcicnaacDoor
