import Derived.Test.YtaoongjdneaccaaDoorNha
import Derived.Lib.SlBytesConst
import Derived.Laws.IdiomStrings
namespace Go.Proofs.YtaoongjdneaccaaDoor
set_option linter.unusedVariables false
set_option linter.unusedSimpArgs false
open Go.RowKit
attribute [local go_sem ↓] Go.wp_at_zero Go.wp_at_succ

theorem src_rowf {w : World} {g t : Nat} {zs : List Int} {fr : Nat × Nat} (h : w.heap[g]? = some (.cells (ints .u8 zs).toArray t fr)) (cap : Nat) (hc : zs.length ≤ cap) (hm : cap ≤ maxLen) : Src w (some ⟨g, 0, none⟩) cap zs := by
  refine ⟨hc, hm, g, 0, fun _ => _root_.Go.Proofs.YtaoongjdneaccaaDoor.hlt h, fun _ => rfl, fun j hj => ?_⟩
  rw [Nat.zero_add, cell_ints h j hj]
theorem src_new (w : World) (zs : List Int) (t : Nat) (fr : Nat × Nat) (cap : Nat) (hc : zs.length ≤ cap) (hm : cap ≤ maxLen) : Src (w.alloc (.cells (ints .u8 zs).toArray t fr)) (some ⟨w.heap.size, 0, none⟩) cap zs := src_rowf (hnew w _) cap hc hm
theorem Src.tail {w : World} {tp : Option Addr} {tc k : Nat} {zs : List Int} (h : Src w tp tc zs) (hk : k ≤ zs.length) : Src w (Option.map (fun x => x.add k) tp) (tc - k) (zs.drop k) := by
  obtain ⟨h1, h2, b, o, h3, h4, h5⟩ := h
  refine ⟨by rw [List.length_drop]; omega, by omega, b, o + k, fun h => h3 (by rw [List.length_drop] at h; omega), fun h => ?_, fun j hj => ?_⟩
  · rw [List.length_drop] at h
    rw [h4 (by omega), Option.map_some, Addr.add_mid]
  · rw [List.length_drop] at hj
    have := h5 (k + j) (by omega)
    rw [Nat.add_assoc, this, List.getD_eq_getElem?_getD, List.getD_eq_getElem?_getD, List.getElem?_drop]
theorem Src.tail0 {w : World} {tp sq : Option Addr} {tc k : Nat} {zs : List Int} (h : Src w tp tc zs) (hk : tc = k) : Src w sq 0 (zs.drop k) := by
  have e : zs.drop k = [] := by apply List.eq_nil_of_length_eq_zero; rw [List.length_drop]; have := h.1; omega
  rw [e]
  exact Src.empty _ _ _ (by simp [maxLen])
theorem Byts.take {l : List Int} (h : Byts l) (n : Nat) : Byts (l.take n) := fun x hx => h x (List.mem_of_mem_take hx)
theorem Byts.drop {l : List Int} (h : Byts l) (n : Nat) : Byts (l.drop n) := fun x hx => h x (List.mem_of_mem_drop hx)
theorem below_new (w : World) (o : Obj) : Below w.heap.size w (w.alloc o) := (Below.refl _ _).alloc (Nat.le_refl _) _
set_option maxRecDepth 100000 in
set_option maxHeartbeats 400000 in
theorem same_any (w : World) (xs ys : List Int) (sp sq : Option Addr) (c d : Nat) (hX : Src w sp c xs) (hY : Src w sq d ys) :
    Calls Tryd.prog 9 #[.slice sp xs.length c, .slice sq ys.length d] w fun e w' => e = .returned (.bool (decide (xs = ys))) ∧ Below w.heap.size w w' := by
  obtain ⟨hc, hm, b, o, hb, hsp, hsrc⟩ := hX
  obtain ⟨hc', hm', b', o', hb', hsp', hsrc'⟩ := hY
  unfold maxLen at hm hm'
  by_cases hl : xs.length = ys.length
  · have hl1 : ((xs.length : Int) != (ys.length : Int)) = false := by simpa using (by omega : (xs.length : Int) = (ys.length : Int))
    have HL := hid hl
    have i0 : (xs.length : Int) ≤ 9223372036854775807 := by omega
    clear hl
    go_enter Tryd.func9, Tryd.ntmps9
    go_wp2
    go_loopw [5] (fun i wr => ∃ k : Nat, k ≤ xs.length ∧ i = .int .i64 k ∧ xs.take k = ys.take k ∧ Below w.heap.size w wr) (fun i _ => xs.length - (intOf i).toNat)
    case atStart => exact ⟨0, by omega, rfl, rfl, Below.refl _ _⟩
    case round =>
      obtain ⟨k, hk, rfl, hT, hB⟩ := hrel
      replace hT := hid hT
      by_cases hlt : k < xs.length
      · have i1 : (k : Int) < (xs.length : Int) := by omega
        have hlt' : k < ys.length := by have := HL.out; omega
        have i2 : (k : Int) < (ys.length : Int) := by omega
        obtain rfl := hsp (by omega)
        obtain rfl := hsp' (by omega)
        have c1 := (hB.cell (p := ⟨b, o + k, none⟩) (hb (by omega))).trans (hsrc k hlt)
        have c2 := (hB.cell (p := ⟨b', o' + k, none⟩) (hb' (by omega))).trans (hsrc' k hlt')
        have HX := hid (show xs.take (k + 1) = xs.take k ++ [xs.getD k 0] by
          rw [List.take_succ_eq_append_getElem hlt, List.getD_eq_getElem?_getD, List.getElem?_eq_getElem hlt]; rfl)
        have HY := hid (show ys.take (k + 1) = ys.take k ++ [ys.getD k 0] by
          rw [List.take_succ_eq_append_getElem hlt', List.getD_eq_getElem?_getD, List.getElem?_eq_getElem hlt']; rfl)
        by_cases hxy : xs.getD k 0 = ys.getD k 0
        · rw [hxy] at c1 HX
          clear hxy
          generalize ys.getD k 0 = y at *
          go_wp2
          go_region_held3 (fun w' => w'.cell? ⟨b, o + k, none⟩ = some (.int .u8 y) ∧ w'.cell? ⟨b', o' + k, none⟩ = some (.int .u8 y)) (go_keep) (fail)
          go_wp2
          go_roundw
          case rel => exact ⟨k + 1, by omega, by go_num, (by rw [HX.out, HY.out, hT.out]), hB.drew⟩
          case measure => simp [intOf]; omega
        · have HF := hid (show decide (xs = ys) = false from decide_eq_false (fun h => hxy (by rw [h])))
          generalize ys.getD k 0 = y at *
          generalize xs.getD k 0 = x at *
          have hxy' : (x != y) = true := by simpa using hxy
          go_wp2
          go_region_held3 (fun w' => w'.cell? ⟨b, o + k, none⟩ = some (.int .u8 x) ∧ w'.cell? ⟨b', o' + k, none⟩ = some (.int .u8 y)) (go_keep) (fail)
          go_wp2
          go_ret
          exact ⟨by rw [HF.out]; rfl, hB.drew⟩
      · obtain rfl : k = xs.length := by omega
        have HT := hid (show decide (xs = ys) = true from decide_eq_true (by
          have := hT.out
          rw [List.take_length, HL.out, List.take_length] at this
          exact this))
        clear hlt
        go_wp2
        go_ret
        exact ⟨by rw [HT.out]; rfl, hB⟩
  · have HF := hid (show decide (xs = ys) = false from decide_eq_false (fun h => hl (by rw [h])))
    have hl' : ((xs.length : Int) != (ys.length : Int)) = true := by simpa using (by omega : ¬ (xs.length : Int) = (ys.length : Int))
    clear hl
    go_enter Tryd.func9, Tryd.ntmps9
    go_wp2
    go_ret
    exact ⟨by rw [HF.out]; rfl, Below.refl _ _⟩
end Go.Proofs.YtaoongjdneaccaaDoor
