import Derived.Test.YtihkjfbhmlfonaaMf6
import Derived.Laws.Cover3
namespace Go.Proofs.Ytihkjfbhmlfonaa
set_option linter.unusedVariables false
set_option linter.unusedSimpArgs false
open Go.RowKit
attribute [local go_sem ↓] Go.wp_at_zero Go.wp_at_succ

theorem Try.guard145 : Try.prog.eqGuardType Try.prog.depth 145 = false := by kernel_rfl
theorem eqA4 (xs ys : List Int) (ha : xs.length = 4) (hb : ys.length = 4) (w : World) :
    (Op.equalIn 10000 145 (.agg (ints .u8 xs).toArray) (.agg (ints .u8 ys).toArray)).run Try.prog w = .ok (decide (xs = ys)) w :=
  equalIn_ints Try.underlying145 Try.underlying5 Try.size5 .u8 xs ys ha hb w
set_option maxRecDepth 100000 in
set_option maxHeartbeats 400000 in
theorem whole_short (w : World) (zs : List Int) (sp : Option Addr) (cap : Nat) (hlen : zs.length < 4) :
    Calls Try.prog 82 #[.slice sp zs.length cap] w fun e w' => e = .returned (.bool false) ∧ Below w.heap.size w w' := by
  have i1 : (zs.length : Int) < 4 := by omega
  go_enter Try.func82, Try.ntmps82
  go_wp2
  go_ret
  exact ⟨rfl, Below.refl _ _⟩
set_option maxRecDepth 100000 in
set_option maxHeartbeats 400000 in
theorem whole_any (w : World) (xs ys : List Int) (hb8 : Byts (xs ++ ys)) (hy : ys.length = 4) (sp : Option Addr) (cap : Nat) (hS : Src w sp cap (xs ++ ys)) :
    Calls Try.prog 82 #[.slice sp (xs.length + 4) cap] w fun e w' => e = .returned (.bool (decide (sbF (sumF xs) = ys))) ∧ Below w.heap.size w w' := by
  obtain ⟨hc, hm, b, o, hb, hsp, hsrc⟩ := hS
  have hl : (xs ++ ys).length = xs.length + 4 := by rw [List.length_append, hy]
  rw [hl] at hc hb hsp hsrc
  obtain rfl := hsp (by omega)
  replace hb := hb (by omega)
  unfold maxLen at hm
  have i1 : ¬ ((xs.length : Int) + 4 < 4) := by omega
  have i2 : (xs.length : Int) + 4 ≤ 9223372036854775807 := by omega
  have i3 : (xs.length : Int) + 4 - 4 = (xs.length : Int) := by omega
  go_enter Try.func82, Try.ntmps82
  have h8x : Byts xs := fun x hx => hb8 x (List.mem_append_left _ hx)
  have lx := sumF_lt h8x
  obtain ⟨y0, y1, y2, y3, rfl⟩ : ∃ y0 y1 y2 y3, ys = [y0, y1, y2, y3] := by
    match ys, hy with
    | [y0, y1, y2, y3], _ => exact ⟨y0, y1, y2, y3, rfl⟩
  have gj : ∀ j, j < 4 → (xs ++ [y0, y1, y2, y3]).getD (xs.length + j) 0 = [y0, y1, y2, y3].getD j 0 := fun j hj => by
    rw [List.getD_eq_getElem?_getD, List.getElem?_append_right (by omega), show xs.length + j - xs.length = j by omega, ← List.getD_eq_getElem?_getD]
  have c0 : w.cell? ⟨b, o + xs.length, none⟩ = some (.int .u8 y0) := by have := hsrc (xs.length + 0) (by omega); rw [gj 0 (by omega)] at this; exact this
  have c1 : w.cell? ⟨b, o + xs.length + 1, none⟩ = some (.int .u8 y1) := by have := hsrc (xs.length + 1) (by omega); rw [gj 1 (by omega), ← Nat.add_assoc] at this; exact this
  have c2 : w.cell? ⟨b, o + xs.length + 2, none⟩ = some (.int .u8 y2) := by have := hsrc (xs.length + 2) (by omega); rw [gj 2 (by omega), ← Nat.add_assoc] at this; exact this
  have c3 : w.cell? ⟨b, o + xs.length + 3, none⟩ = some (.int .u8 y3) := by have := hsrc (xs.length + 3) (by omega); rw [gj 3 (by omega), ← Nat.add_assoc] at this; exact this
  have hX : Src w (some ⟨b, o, none⟩) cap xs := ⟨by omega, by unfold maxLen; omega, b, o, fun _ => hb, fun _ => rfl, fun j hj => by
    rw [hsrc j (by omega), List.getD_eq_getElem?_getD, List.getElem?_append_left hj, ← List.getD_eq_getElem?_getD]⟩
  have KX := hid (fun (w' : World) (B : Below w.heap.size w w') => sum_any w' xs h8x (some ⟨b, o, none⟩) cap (hX.below B (Nat.le_refl _)))
  have KB := hid (fun (w' : World) => sb_any w' (sumF xs) lx)
  have KG := hid (fun (w' : World) (B : Below w.heap.size w w') => show w'.cell? ⟨b, o + xs.length, none⟩ = some (.int .u8 y0) ∧ w'.cell? ⟨b, o + xs.length + 1, none⟩ = some (.int .u8 y1) ∧ w'.cell? ⟨b, o + xs.length + 2, none⟩ = some (.int .u8 y2) ∧ w'.cell? ⟨b, o + xs.length + 3, none⟩ = some (.int .u8 y3) from
    ⟨(B.cell (p := ⟨b, o + xs.length, none⟩) hb).trans c0, (B.cell (p := ⟨b, o + xs.length + 1, none⟩) hb).trans c1, (B.cell (p := ⟨b, o + xs.length + 2, none⟩) hb).trans c2, (B.cell (p := ⟨b, o + xs.length + 3, none⟩) hb).trans c3⟩)
  have q : ∀ w', (Op.equalIn 10000 145 (.agg (ints .u8 (sbF (sumF xs))).toArray) (.agg #[.int .u8 y0, .int .u8 y1, .int .u8 y2, .int .u8 y3])).run Try.prog w' = .ok (decide (sbF (sumF xs) = [y0, y1, y2, y3])) w' := fun w' => eqA4 (sbF (sumF xs)) [y0, y1, y2, y3] (sbF_len _) rfl w'
  have g4 := Try.guard145
  have hne : ¬ (cap = xs.length) := by omega
  have i4 : (xs.length : Int) ≤ (cap : Int) := by omega
  have i5 : (xs.length : Int) + 4 ≤ (cap : Int) := by omega
  have i6 : xs.length ≤ cap := by omega
  have hat : ∀ w, (Instr.arrayAt 145 (.slice (some ⟨b, o + xs.length, none⟩) 4 (cap - xs.length))).run Try.prog w = .ok (.pointer (some ⟨b, o + xs.length, none⟩)) w := fun w => run_arrayAt w 145 _ 4 _ 4 (cap - xs.length) Try.underlying145 (Nat.le_refl _)
  have i7 : (xs.length : Int) ≤ (xs.length : Int) + 4 := by omega
  have i8 : (0 : Int) ≤ (xs.length : Int) := by omega
  have i9 : xs.length ≤ xs.length + 4 := by omega
  have hne2 : ¬ (xs.length = cap) := by omega
  have BR := (Below.refl w.heap.size w).drew
  have sc := KG.out _ BR
  have R : ∀ (Z : Prop) [Decidable Z], True := fun _ _ => trivial
  generalize hD : decide (sbF (sumF xs) = [y0, y1, y2, y3]) = D at *
  clear hy hsrc hX hl gj hD R
  go_wp2_with fail
  go_region_held3 (fun w' => w'.cell? ⟨b, o + xs.length, none⟩ = some (.int .u8 y0) ∧ w'.cell? ⟨b, o + xs.length + 1, none⟩ = some (.int .u8 y1) ∧ w'.cell? ⟨b, o + xs.length + 2, none⟩ = some (.int .u8 y2) ∧ w'.cell? ⟨b, o + xs.length + 3, none⟩ = some (.int .u8 y3)) (first | exact ⟨c0, c1, c2, c3⟩ | exact sc | exact sc4 | exact sc5 | assumption) (first | (go_at_call 97; refine (KX.out _ BR).mono ?_; rintro e w4 ⟨rfl, b4⟩; have B4 := BR.trans (b4.mono BR.size); have sc4 := KG.out _ B4) | (go_at_call 96; refine (KB.out _).mono ?_; rintro e w5 ⟨rfl, b5⟩; have B5 := B4.trans (b5.mono B4.size); have sc5 := KG.out _ B5))
  all_goals go_wp2
  all_goals go_ret
  all_goals exact ⟨rfl, B5⟩
end Go.Proofs.Ytihkjfbhmlfonaa
