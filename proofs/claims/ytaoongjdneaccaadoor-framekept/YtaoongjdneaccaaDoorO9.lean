import Derived.Test.YtaoongjdneaccaaDoorO8
import Derived.Test.YtaoongjdneaccaaDoorO6
namespace Go.Proofs.YtaoongjdneaccaaDoor
set_option linter.unusedVariables false
set_option linter.unusedSimpArgs false
open Go.RowKit
attribute [local go_sem ↓] Go.wp_at_zero Go.wp_at_succ

set_option maxRecDepth 100000 in
set_option maxHeartbeats 1000000 in
theorem qUnSuper_any (w : World) (hG : Gl w) (r : List Int) (h8 : Byts r) (sp : Option Addr) (cap : Nat) (hS : Src w sp cap r) :
    Calls Tryd.prog 19 #[.slice sp r.length cap] w fun e w' => e = .returned (.tuple #[.agg (supC (unSuperF r).1), .int .i64 (unSuperF r).2]) ∧ Below w.heap.size w w' := by
  have r0 := hnew w (.cells (supC sup0) 31)
  have b0 := below_new w (.cells (supC sup0) 31)
  have hlm : (r.length : Int) ≤ 9223372036854775807 := by have := hS.1; have := hS.2.1; unfold maxLen at this; omega
  by_cases hl : r.length = 256
  · by_cases hC : feed ones (r.take 64) = CR
    · rw [hl]; exact qUnSuper_ok w hG r h8 hl hC sp cap hS
    · have HF := hid (unSuper_sum r hl hC)
      have hS' := hS
      obtain ⟨hc, hm, b, o, hb, hsp, hsrc⟩ := hS
      obtain rfl := hsp (by omega)
      replace hb := hb (by omega)
      have i1 : 64 ≤ cap := by omega
      have i2 : (64 : Int) ≤ (cap : Int) := by omega
      have hS0 := hS'.below b0 (Nat.le_refl _)
      have hb0 : b < (w.alloc (.cells (supC sup0) 31)).heap.size := Nat.lt_of_lt_of_le hb b0.size
      have h64 : ((r.drop 0).take 64).length = 64 := by simp [hl]
      have hM := hS0.mid 0 64 (by omega) hb0 cap (by omega) hm
      have hw := rwhole_L (w.alloc (.cells (supC sup0) 31)) (hG.below b0 hG.1) ((r.drop 0).take 64) ((h8.drop 0).take 64) (by omega) (by omega) _ _ hM
      rw [h64, List.drop_zero, Nat.add_zero, show decide (feed ones (r.take 64) = CR) = false by simpa using hC] at hw
      rw [hl]
      clear hM hS0 hb0 h64 hsrc hC hl hlm
      go_enter Tryd.func19, Tryd.ntmps19
      go_wp2_with fail
      refine hw.mono ?_
      rintro e w2 ⟨rfl, b2⟩
      have B2 := b0.trans (b2.mono b0.size)
      have rR := hbel b2 r0 (hlt r0)
      clear b2 b0 r0 hw
      go_wp2_with (first | (refine wpList_store_row (by rfl) 31 (.tmp 2) (.tmp 13) (by rfl) w.heap.size (supC sup0) (by rfl) (by rfl) 31 (supC sup0) (by exact rR) (supN0 _) rfl (supO0 _) ?_))
      exact bodyPost_ret (v := .tuple #[.agg (supC sup0), .int .i64 52]) (results_c2 Tryd.results19 _ _ w.heap.size 31 _ _ _ rfl (setRow_heap _ _ _ (supC sup0) _ _ rR) Tryd.underlying31 rfl (supN0 _)) rfl ⟨by rw [HF.out], below_setRow B2 (Nat.le_refl _) _⟩
  · have HF := hid (show unSuperF r = (sup0, 53) by rw [unSuperF, if_pos hl])
    have hl2 : ((r.length : Int) != 256) = true := by simp; omega
    clear hS hl
    go_enter Tryd.func19, Tryd.ntmps19
    go_wp2_with (first | (refine wpList_store_row (by rfl) 31 (.tmp 2) (.tmp 8) (by rfl) w.heap.size (supC sup0) (by rfl) (by rfl) 31 (supC sup0) (by exact r0) (supN0 _) rfl (supO0 _) ?_))
    exact bodyPost_ret (v := .tuple #[.agg (supC sup0), .int .i64 53]) (results_c2 Tryd.results19 _ _ w.heap.size 31 _ _ _ rfl (setRow_heap _ _ _ (supC sup0) _ _ r0) Tryd.underlying31 rfl (supN0 _)) rfl ⟨by rw [HF.out], below_setRow b0 (Nat.le_refl _) _⟩
theorem guardU5 : Tryd.prog.eqGuardType Tryd.prog.depth 31 = false := by kernel_rfl
theorem eqSup5 (s t : Sup) (w : World) : (Op.equalIn 10000 31 (.agg (supC s)) (.agg (supC t))).run Tryd.prog w = .ok (decide (s = t)) w := by
  obtain ⟨a, b, c, d, e⟩ := s
  obtain ⟨a', b', c', d', e'⟩ := t
  unfold supC
  go_simp
  repeat' split
  all_goals simp_all
theorem supZ5 (s : Sup) : (#[.int .i64 0, .int .i64 0, .int .i64 0, .int .i64 0, .int .i64 0] : Array Value).size = (supC s).size := rfl
end Go.Proofs.YtaoongjdneaccaaDoor
