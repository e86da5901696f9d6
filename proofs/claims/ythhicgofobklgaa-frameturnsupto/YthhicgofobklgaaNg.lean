import Derived.Test.YthhicgofobklgaaNf
import Derived.Lib.LazyBuf
namespace Go.Proofs.Ythhicgofobklgaa
set_option linter.unusedVariables false
set_option linter.unusedSimpArgs false
open Go.RowKit
attribute [local go_sem ↓] Go.wp_at_zero Go.wp_at_succ

theorem own_emptyN {w : World} {base g : Nat} (h : w.heap[g]? = some (.cells #[] 5 (0, 0))) (hg : base ≤ g) : Own w base (.slice (some ⟨g, 0, none⟩) 0 0) [] :=
  ⟨rfl, Or.inr ⟨g, 0, #[], rfl, hg, h, Nat.le_refl _, by simp [maxLen], rfl, rfl⟩⟩
theorem Src.mid {w : World} {b o cap : Nat} {r : List Int} (hS : Src w (some ⟨b, o, none⟩) cap r) (k n : Nat) (h : k + n ≤ r.length) (hb : b < w.heap.size) (c : Nat) (hc1 : n ≤ c) (hc2 : c ≤ maxLen) : Src w (some ⟨b, o + k, none⟩) c ((r.drop k).take n) := by
  obtain ⟨h1, h2, b', o', h3, h4, h5⟩ := hS
  have hl : ((r.drop k).take n).length = n := by simp; omega
  refine ⟨by omega, hc2, b, o + k, fun _ => hb, fun _ => rfl, fun j hj => ?_⟩
  have he := h4 (by omega)
  cases he
  have := h5 (k + j) (by omega)
  rw [Nat.add_assoc, this, List.getD_eq_getElem?_getD, List.getD_eq_getElem?_getD, List.getElem?_take, if_pos (by omega), List.getElem?_drop]
theorem Own.base {w : World} {B B' : Nat} {v : Value} {zs : List Int} (h : Own w B v zs) (hB : B' ≤ B) : Own w B' v zs := by
  refine ⟨h.1, ?_⟩
  rcases h.2 with h2 | ⟨g, cap, cur, rfl, hg, r⟩
  · exact Or.inl h2
  · exact Or.inr ⟨g, cap, cur, rfl, by omega, r⟩
end Go.Proofs.Ythhicgofobklgaa
