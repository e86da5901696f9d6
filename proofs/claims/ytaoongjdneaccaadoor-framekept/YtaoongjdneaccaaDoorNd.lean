import Derived.Test.YtaoongjdneaccaaDoorNc
namespace Go.Proofs.YtaoongjdneaccaaDoor
set_option linter.unusedVariables false
set_option linter.unusedSimpArgs false
open Go.RowKit
attribute [local go_sem ↓] Go.wp_at_zero Go.wp_at_succ

set_option maxRecDepth 100000 in
theorem isPlace_any (w : World) (p : Int) : Calls Tryd.prog 25 #[.int .i64 p] w fun e w' => e = .returned (.bool (placeOk p)) ∧ w' = w := by
  by_cases h1 : 2 ≤ p
  · by_cases h2 : p < 4096
    · have HP := hid (show placeOk p = true by simp [placeOk, h1, h2])
      go_enter Tryd.func25, Tryd.ntmps25
      go_wp2
      go_ret
      exact ⟨by rw [HP.out]; rfl, rfl⟩
    · have HP := hid (show placeOk p = false by simp [placeOk, h2])
      go_enter Tryd.func25, Tryd.ntmps25
      go_wp2
      go_ret
      exact ⟨by rw [HP.out]; rfl, rfl⟩
  · have HP := hid (show placeOk p = false by simp [placeOk, h1])
    go_enter Tryd.func25, Tryd.ntmps25
    go_wp2
    go_ret
    exact ⟨by rw [HP.out]; rfl, rfl⟩
set_option maxRecDepth 100000 in
theorem isKind_any (w : World) (k : Int) : Calls Tryd.prog 24 #[.int .i64 k] w fun e w' => e = .returned (.bool (kindOk k)) ∧ w' = w := by
  by_cases h1 : k = 1
  · subst h1
    go_enter Tryd.func24, Tryd.ntmps24
    go_wp2
    go_ret
    exact ⟨by rfl, rfl⟩
  by_cases h2 : k = 2
  · subst h2
    go_enter Tryd.func24, Tryd.ntmps24
    go_wp2
    go_ret
    exact ⟨by rfl, rfl⟩
  by_cases h3 : k = 3
  · subst h3
    go_enter Tryd.func24, Tryd.ntmps24
    go_wp2
    go_ret
    exact ⟨by rfl, rfl⟩
  have HP := hid (show kindOk k = false by simp [kindOk]; omega)
  have e1 : (k == 1) = false := by simpa using h1
  have e2 : (k == 2) = false := by simpa using h2
  have e3 : (k == 3) = false := by simpa using h3
  clear h1 h2 h3
  go_enter Tryd.func24, Tryd.ntmps24
  go_wp2
  go_ret
  exact ⟨by rw [HP.out]; rfl, rfl⟩
set_option maxRecDepth 100000 in
set_option maxHeartbeats 400000 in
theorem allZero_any (w : World) (zs : List Int) (sp : Option Addr) (cap : Nat) (hS : Src w sp cap zs) :
    Calls Tryd.prog 33 #[.slice sp zs.length cap] w fun e w' => e = .returned (.bool (decide (zs = List.replicate zs.length 0))) ∧ Below w.heap.size w w' := by
  obtain ⟨hc, hm, b, o, hb, hsp, hsrc⟩ := hS
  unfold maxLen at hm
  have i0 : (zs.length : Int) ≤ 9223372036854775807 := by omega
  go_enter Tryd.func33, Tryd.ntmps33
  go_wp2
  go_loopw [7] (fun i wr => ∃ n : Nat, n ≤ zs.length ∧ i = .int .i64 n ∧ zs.take n = List.replicate n 0 ∧ Below w.heap.size w wr) (fun i _ => zs.length - (intOf i).toNat)
  case atStart => exact ⟨0, by omega, rfl, rfl, Below.refl _ _⟩
  case round =>
    obtain ⟨n, hn, rfl, hT, hB⟩ := hrel
    replace hT := hid hT
    by_cases hlt : n < zs.length
    · have i1 : (n : Int) < (zs.length : Int) := by omega
      obtain rfl := hsp (by omega)
      have c0 := (hB.cell (p := ⟨b, o + n, none⟩) (hb (by omega))).trans (hsrc n hlt)
      by_cases hz : zs.getD n 0 = 0
      · rw [hz] at c0
        replace hz := hid hz
        have HT := hid (show zs.take (n + 1) = List.replicate (n + 1) 0 by
          have := hz.out
          rw [List.getD_eq_getElem?_getD, List.getElem?_eq_getElem hlt] at this
          rw [List.take_succ_eq_append_getElem hlt, hT.out, List.replicate_succ']
          congr 2)
        go_wp2
        go_roundw
        case rel => exact ⟨n + 1, by omega, by go_num, HT.out, hB⟩
        case measure => simp [intOf]; omega
      · have HT := hid (show decide (zs = List.replicate zs.length 0) = false by
          simp only [decide_eq_false_iff_not]
          intro h
          apply hz
          rw [h]
          simp [List.getElem?_replicate, hlt])
        have hz2 : (zs.getD n 0 != 0) = true := by simpa using hz
        clear hz
        generalize zs.getD n 0 = x at *
        go_wp2
        go_ret
        exact ⟨by rw [HT.out]; rfl, hB⟩
    · obtain rfl : n = zs.length := by omega
      have HT := hid (show decide (zs = List.replicate zs.length 0) = true by
        have := hT.out
        rw [List.take_length] at this
        simpa using this)
      clear hlt hn
      go_wp2
      go_ret
      exact ⟨by rw [HT.out]; rfl, hB⟩
/-- A part of a block is written over. -/
def laidAt (os : List Int) (o : Nat) (ys : List Int) : List Int := os.take o ++ ys ++ os.drop (o + ys.length)
theorem laidAt_len (os : List Int) (o : Nat) (ys : List Int) (h : o + ys.length ≤ os.length) : (laidAt os o ys).length = os.length := by simp [laidAt]; omega
theorem laidAt_snoc (os : List Int) (o : Nat) (ys : List Int) (y : Int) (h : o + ys.length < os.length) : (laidAt os o ys).set (o + ys.length) y = laidAt os o (ys ++ [y]) := by
  unfold laidAt
  rw [List.set_append_right _ _ (by simp; omega), show o + ys.length - (os.take o ++ ys).length = 0 by simp; omega, List.drop_eq_getElem_cons (by omega), List.set_cons_zero]
  simp [List.append_assoc, Nat.add_assoc]
set_option maxRecDepth 100000 in
set_option maxHeartbeats 400000 in
theorem lay_any (w : World) (g o n cap : Nat) (t : TypeId) (os : List Int) (v : Int) (hv : 0 ≤ v) (hv2 : v < 9223372036854775808) (hn : n ≤ 8) (hI : w.heap[g]? = some (.cells (ints .u8 os).toArray t (0, 0))) (hfit : o + n ≤ os.length) :
    Calls Tryd.prog 26 #[.slice (some ⟨g, o, none⟩) n cap, .int .i64 v] w fun e w' => e = .returned (.tuple #[]) ∧ w'.heap[g]? = some (.cells (ints .u8 (laidAt os o (num v n))).toArray t (0, 0)) ∧ Keeps g w w' := by
  have i0 : (n : Int) ≤ 8 := by omega
  go_enter Tryd.func26, Tryd.ntmps26
  go_wp2
  go_loopw [7] (fun i wr => ∃ m : Nat, m ≤ n ∧ i = .int .i64 m ∧ wr.heap[g]? = some (.cells (ints .u8 (laidAt os o (num v m))).toArray t (0, 0)) ∧ Keeps g w wr) (fun i _ => n - (intOf i).toNat)
  case atStart => exact ⟨0, by omega, rfl, by simpa [laidAt, num] using hI, Keeps.refl g w⟩
  case round =>
    clear hI
    obtain ⟨m, hm, rfl, hI, hK⟩ := hrel
    by_cases hlt : m < n
    · have i1 : (m : Int) < (n : Int) := by omega
      have hl : (num v m).length = m := num_len v m
      have hc := cell_ints hI (o + m) (by rw [laidAt_len _ _ _ (by omega)]; omega)
      have hfz : wr.frozen? ⟨g, o + m, none⟩ = false := frozen_of_row _ _ _ _ _ hI
      have HS := hid (show (laidAt os o (num v m)).set (o + m) (v / 2 ^ (8 * m) % 256) = laidAt os o (num v (m + 1)) by
        rw [num_snoc v hv m, ← laidAt_snoc _ _ _ _ (by omega), hl, Int.pow_mul]; rfl)
      replace hl := hid hl
      generalize (laidAt os o (num v m)).getD (o + m) 0 = z at *
      go_wp2
      go_roundw
      case rel => exact ⟨m + 1, by omega, by go_num, by rw [← HS.out]; exact heap_set_ints hI _ _, hK.setCell _ _⟩
      case measure => simp [intOf]; omega
    · obtain rfl : m = n := by omega
      clear hlt
      go_wp2
      go_end0
      exact ⟨rfl, hI, hK⟩
end Go.Proofs.YtaoongjdneaccaaDoor
