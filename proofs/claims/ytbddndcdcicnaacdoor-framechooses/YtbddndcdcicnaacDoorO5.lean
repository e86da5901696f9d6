import Derived.Test.YtbddndcdcicnaacDoorO4
namespace Go.Proofs.YtbddndcdcicnaacDoor
set_option linter.unusedVariables false
set_option linter.unusedSimpArgs false
open Go.RowKit
attribute [local go_sem ↓] Go.wp_at_zero Go.wp_at_succ

/-- place, what is laid over being older than the list. -/
theorem place_to (w w0 : World) (zs ys : List Int) (g uc : Nat) (rest : List Value) (hI : In w g rest (zs ++ t600)) (hl : ys.length = zs.length) (hg : w0.heap.size ≤ g) (BB : Below w0.heap.size w0 w) (sp : Option Addr) (cap : Nat) (hS : Src w0 sp cap ys) (hlen : zs.length ≤ 140737488352000) :
    Calls Tryd.prog 9 #[.slice (some ⟨g, 0, none⟩) zs.length uc, .slice sp zs.length cap] w fun e w' => e = .returned (.tuple #[]) ∧ In w' g rest (ys ++ t600) ∧ Below w0.heap.size w0 w' := by
  have hw0 : w0.heap.size ≤ w.heap.size := BB.size
  obtain ⟨h1, h2, b, o, h3, h4, h5⟩ := hS
  by_cases hp : 0 < ys.length
  · refine (place_any w zs ys g uc rest hI hl b o sp cap (by have := h3 hp; omega) h4 (fun j hj => (BB.cell (p := ⟨b, o + j, none⟩) (h3 hp)).trans (h5 j hj)) hlen).mono ?_
    rintro e w' ⟨rfl, hI', hK⟩
    exact ⟨rfl, hI', BB.trans (hK.below_g hg hw0)⟩
  · refine (place_any w zs ys g uc rest hI hl (g + 1) 0 sp cap (by omega) (fun h => absurd h hp) (fun j hj => by omega) hlen).mono ?_
    rintro e w' ⟨rfl, hI', hK⟩
    exact ⟨rfl, hI', BB.trans (hK.below_g hg hw0)⟩
theorem In.bel {w w' : World} {g : Nat} {rest : List Value} {os : List Int} (h : In w g rest os) (hb : Below w.heap.size w w') : In w' g rest os := hbel hb h (hlt h)
end Go.Proofs.YtbddndcdcicnaacDoor
