import Derived.Test.YtaoongjdneaccaaDoorDc5
namespace Go.Proofs.YtaoongjdneaccaaDoor
set_option linter.unusedVariables false
set_option linter.unusedSimpArgs false
open Go.RowKit
attribute [local go_sem ↓] Go.wp_at_zero Go.wp_at_succ

theorem sbF_get : ∀ (s m : Nat), m < 4 → (sbF s).getD m 0 = (s : Int) / (2 : Int) ^ (8 * m) % 256 := by
  intro s m hm
  match m, hm with
  | 0, _ => simp [sbF]
  | 1, _ => simp [sbF]
  | 2, _ => simp [sbF]
  | 3, _ => simp [sbF]
set_option maxRecDepth 100000 in
set_option maxHeartbeats 400000 in
theorem rwhole_short (w : World) (zs : List Int) (sp : Option Addr) (cap : Nat) (hlen : zs.length < 4) :
    Calls Tryd.prog 35 #[.slice sp zs.length cap] w fun e w' => e = .returned (.bool false) ∧ Below w.heap.size w w' := by
  have i1 : (zs.length : Int) - 4 < 0 := by omega
  go_enter Tryd.func35, Tryd.ntmps35
  go_wp2
  go_ret
  exact ⟨rfl, Below.refl _ _⟩
set_option maxRecDepth 100000 in
set_option maxHeartbeats 400000 in
theorem rwhole_any (w : World) (hG : Gl w) (xs ys : List Int) (hb8 : Byts (xs ++ ys)) (hy : ys.length = 4) (sp : Option Addr) (cap : Nat) (hS : Src w sp cap (xs ++ ys)) (hlen : xs.length ≤ 1048576) :
    Calls Tryd.prog 35 #[.slice sp (xs.length + 4) cap] w fun e w' => e = .returned (.bool (decide (sbF (sumF xs) = ys))) ∧ Below w.heap.size w w' := by
  obtain ⟨hc, hm, b, o, hb, hsp, hsrc⟩ := hS
  have hl : (xs ++ ys).length = xs.length + 4 := by rw [List.length_append, hy]
  rw [hl] at hc hb hsp hsrc
  obtain rfl := hsp (by omega)
  replace hb := hb (by omega)
  unfold maxLen at hm
  have i1 : ¬ ((xs.length : Int) + 4 < 4) := by omega
  have i2 : (xs.length : Int) ≤ 1048576 := by omega
  have i3 : (xs.length : Int) + 4 - 4 = (xs.length : Int) := by omega
  have i4 : (xs.length : Int) ≤ (cap : Int) := by omega
  have i5 : xs.length ≤ cap := by omega
  have h8x : Byts xs := fun x hx => hb8 x (List.mem_append_left _ hx)
  have lx := sumF_lt h8x
  have hX : Src w (some ⟨b, o, none⟩) cap xs := ⟨by omega, by unfold maxLen; omega, b, o, fun _ => hb, fun _ => rfl, fun j hj => by
    rw [hsrc j (by omega), List.getD_eq_getElem?_getD, List.getElem?_append_left hj, ← List.getD_eq_getElem?_getD]⟩
  have hY := hid (fun j (hj : j < 4) => show w.cell? ⟨b, o + (xs.length + j), none⟩ = some (.int .u8 (ys.getD j 0)) by
    rw [hsrc (xs.length + j) (by omega), List.getD_eq_getElem?_getD, List.getElem?_append_right (by omega), show xs.length + j - xs.length = j by omega, ← List.getD_eq_getElem?_getD])
  replace hy := hid hy
  clear hsrc hl
  go_enter Tryd.func35, Tryd.ntmps35
  go_wp2_with fail
  refine (rsum_any w hG xs h8x _ cap hX hlen).mono ?_
  rintro e w1 ⟨rfl, b1⟩
  have hsg := hid (sbF_get (sumF xs))
  have hsl := hid (sbF_len (sumF xs))
  go_wp2
  go_loopw [5] (fun i wr => ∃ m : Nat, m ≤ 4 ∧ i = .int .i64 m ∧ (∀ j, j < m → (sbF (sumF xs)).getD j 0 = ys.getD j 0) ∧ Below w.heap.size w wr) (fun i _ => 4 - (intOf i).toNat)
  case atStart => exact ⟨0, by omega, rfl, fun j hj => by omega, b1⟩
  case round =>
    obtain ⟨m, hm4, rfl, hE, hB⟩ := hrel
    replace hE := hid hE
    by_cases hlt : m < 4
    · have j1 : (m : Int) < 4 := by omega
      have j2 : (xs.length : Int) + (m : Int) < (xs.length : Int) + 4 := by omega
      have c0 := (hB.cell (p := ⟨b, o + (xs.length + m), none⟩) hb).trans (hY.out m hlt)
      obtain ⟨z, hz⟩ : ∃ z, z = (sbF (sumF xs)).getD m 0 := ⟨_, rfl⟩
      have e1 : ((sumF xs : Nat) : Int) / (2 : Int) ^ (8 * m) % 256 = z := by rw [hz, hsg.out m hlt]
      by_cases hq : z = ys.getD m 0
      · have HE2 := hid (show ∀ j, j < m + 1 → (sbF (sumF xs)).getD j 0 = ys.getD j 0 from fun j hj => by
          by_cases h : j = m
          · subst h; rw [← hz, hq]
          · exact hE.out j (by omega))
        rw [← hq] at c0
        clear hq hz
        generalize sumF xs = s at *
        go_wp2
        go_roundw
        case rel => exact ⟨m + 1, by omega, by go_num, HE2.out, hB⟩
        case measure => simp [intOf]; omega
      · have HF := hid (show decide (sbF (sumF xs) = ys) = false from decide_eq_false (fun h => hq (by rw [hz, h])))
        clear hz
        generalize ys.getD m 0 = y at *
        have hq1 : (y != z) = true := by simpa using (fun h : y = z => hq h.symm)
        go_wp2
        go_ret
        exact ⟨by rw [HF.out]; rfl, hB⟩
    · obtain rfl : m = 4 := by omega
      clear hlt
      have HT := hid (show decide (sbF (sumF xs) = ys) = true from decide_eq_true (by
        apply List.ext_getElem
        · rw [hsl.out, hy.out]
        · intro j h1 h2
          have := hE.out j (by rw [hsl.out] at h1; exact h1)
          rw [List.getD_eq_getElem?_getD, List.getElem?_eq_getElem h1, List.getD_eq_getElem?_getD, List.getElem?_eq_getElem h2] at this
          exact this))
      go_wp2
      go_ret
      exact ⟨by rw [HT.out]; rfl, hB⟩
end Go.Proofs.YtaoongjdneaccaaDoor
