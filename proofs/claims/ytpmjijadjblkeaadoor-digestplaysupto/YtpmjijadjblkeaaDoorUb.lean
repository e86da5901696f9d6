import Derived.Test.YtpmjijadjblkeaaDoorUa
import Derived.BigQuiet
import Derived.Deep.QuietTactic
namespace Go.Proofs.YtpmjijadjblkeaaDoor
set_option linter.unusedVariables false
set_option linter.unusedSimpArgs false
open Go.RowKit
attribute [local go_sem ↓] Go.wp_at_zero Go.wp_at_succ

theorem below_drewN {B : Nat} {a w : World} (h : Below B a w) (n : Nat) : Below B a (w.drewN n) := h.trans ⟨rfl, rfl, rfl, Nat.le_refl _, fun _ _ => rfl⟩
set_option maxRecDepth 100000 in
set_option maxHeartbeats 400000 in
theorem intact_any (w : World) (zs : List Int) (lp sp : Option Addr) (lcap cap : Nat) (hL : Src w lp lcap (zs ++ tail80)) (hS : Src w sp cap zs) (hlen : zs.length ≤ 140737488351232) :
    Calls Tryd.prog 18 #[.slice lp (zs.length + 80) lcap, .slice sp zs.length cap] w fun e w' => e = .returned (.bool true) ∧ Below w.heap.size w w' := by
  obtain ⟨hc, hm, b, o, hb, hsp, hsrc⟩ := hS
  obtain ⟨hc', hm', b', o', hb', hsp', hsrc'⟩ := hL
  have hl : (zs ++ tail80).length = zs.length + 80 := by simp [tail80]
  rw [hl] at hsp' hsrc' hc'
  obtain rfl := hsp' (by omega)
  have i1 : (zs.length : Int) ≤ 140737488351232 := by omega
  go_enter Tryd.func18, Tryd.ntmps18
  go_wp2
  go_loopw [5] (fun i wr => ∃ k : Nat, k ≤ zs.length + 80 ∧ i = .int .i64 k ∧ Below w.heap.size w wr) (fun i _ => zs.length + 80 - (intOf i).toNat)
  case atStart => exact ⟨0, by omega, rfl, Below.refl _ _⟩
  case round =>
    obtain ⟨k, hk, rfl, hB⟩ := hrel
    by_cases hlt : k < zs.length + 80
    · have c1 := (hB.cell (p := ⟨b', o' + k, none⟩) hb').trans (hsrc' k hlt)
      have i2 : (k : Int) < (zs.length : Int) + 80 := by omega
      have j0 : (0 : Int) ≤ k := by omega
      by_cases hlz : k < zs.length
      · obtain rfl := hsp (by omega)
        have c2 := (hB.cell (p := ⟨b, o + k, none⟩) hb).trans (hsrc k hlz)
        rw [show (zs ++ tail80).getD k 0 = zs.getD k 0 by rw [List.getD_eq_getElem?_getD, List.getElem?_append_left hlz, List.getD_eq_getElem?_getD]] at c1
        generalize zs.getD k 0 = x at *
        have i3 : (k : Int) < (zs.length : Int) := by omega
        have i4 : decide (zs.length ≤ k) = false := decide_eq_false (by omega)
        go_wp2
        go_quiet (fail)
        go_wp2
        go_roundw
        case rel => exact ⟨k + 1, by omega, by go_num, below_drewN hB _⟩
        case measure => simp [intOf]; omega
      · have c2 : (zs ++ tail80).getD k 0 = 165 := by
          rw [List.getD_eq_getElem?_getD, List.getElem?_append_right (by omega), tail80, List.getElem?_replicate, if_pos (by omega)]; rfl
        rw [c2] at c1
        have i3 : decide ((k : Int) < (zs.length : Int)) = false := decide_eq_false (by omega)
        have i4 : (zs.length : Int) ≤ (k : Int) := by omega
        go_wp2
        go_quiet (fail)
        go_wp2
        go_roundw
        case rel => exact ⟨k + 1, by omega, by go_num, below_drewN hB _⟩
        case measure => simp [intOf]; omega
    · obtain rfl : k = zs.length + 80 := by omega
      have i2 : ¬ (((zs.length + 80 : Nat) : Int) < (zs.length : Int) + 80) := by omega
      clear hlt
      go_wp2
      go_ret
      exact ⟨rfl, hB⟩
end Go.Proofs.YtpmjijadjblkeaaDoor
