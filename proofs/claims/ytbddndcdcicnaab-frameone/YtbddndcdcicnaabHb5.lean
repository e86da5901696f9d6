import Derived.Test.YtbddndcdcicnaabNha
import Derived.Lib.SlBytesConst
import Derived.Laws.IdiomStrings
namespace Go.Proofs.Ytbddndcdcicnaab
set_option linter.unusedVariables false
set_option linter.unusedSimpArgs false
open Go.RowKit
attribute [local go_sem ↓] Go.wp_at_zero Go.wp_at_succ

theorem src_rowf {w : World} {g t : Nat} {zs : List Int} {fr : Nat × Nat} (h : w.heap[g]? = some (.cells (ints .u8 zs).toArray t fr)) (cap : Nat) (hc : zs.length ≤ cap) (hm : cap ≤ maxLen) : Src w (some ⟨g, 0, none⟩) cap zs := by
  refine ⟨hc, hm, g, 0, fun _ => _root_.Go.Proofs.Ytbddndcdcicnaab.hlt h, fun _ => rfl, fun j hj => ?_⟩
  rw [Nat.zero_add, cell_ints h j hj]
theorem src_new (w : World) (zs : List Int) (t : Nat) (fr : Nat × Nat) (cap : Nat) (hc : zs.length ≤ cap) (hm : cap ≤ maxLen) : Src (w.alloc (.cells (ints .u8 zs).toArray t fr)) (some ⟨w.heap.size, 0, none⟩) cap zs := src_rowf (hnew w _) cap hc hm
theorem Src.tail {w : World} {tp : Option Addr} {tc k : Nat} {zs : List Int} (h : Src w tp tc zs) (hk : k ≤ zs.length) : Src w (Option.map (fun x => x.add k) tp) (tc - k) (zs.drop k) := by
  obtain ⟨h1, h2, b, o, h3, h4, h5⟩ := h
  refine ⟨by rw [List.length_drop]; omega, by omega, b, o + k, fun h => h3 (by rw [List.length_drop] at h; omega), fun h => ?_, fun j hj => ?_⟩
  · rw [List.length_drop] at h
    rw [h4 (by omega), Option.map_some, Addr.add_mid]
  · rw [List.length_drop] at hj
    have := h5 (k + j) (by omega)
    rw [Nat.add_assoc, this, List.getD_eq_getElem?_getD, List.getD_eq_getElem?_getD, List.getElem?_drop]
theorem Src.tail0 {w : World} {tp sq : Option Addr} {tc k : Nat} {zs : List Int} (h : Src w tp tc zs) (hk : tc = k) : Src w sq 0 (zs.drop k) := by
  have e : zs.drop k = [] := by apply List.eq_nil_of_length_eq_zero; rw [List.length_drop]; have := h.1; omega
  rw [e]
  exact Src.empty _ _ _ (by simp [maxLen])
theorem Byts.take {l : List Int} (h : Byts l) (n : Nat) : Byts (l.take n) := fun x hx => h x (List.mem_of_mem_take hx)
theorem Byts.drop {l : List Int} (h : Byts l) (n : Nat) : Byts (l.drop n) := fun x hx => h x (List.mem_of_mem_drop hx)
theorem below_new (w : World) (o : Obj) : Below w.heap.size w (w.alloc o) := (Below.refl _ _).alloc (Nat.le_refl _) _
end Go.Proofs.Ytbddndcdcicnaab
