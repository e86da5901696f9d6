import Derived.Test.YtbmjegcnfokagabDoorHb
import Derived.Lib.SlBytesConst
import Derived.Laws.IdiomStrings
namespace Go.Proofs.YtbmjegcnfokagabDoor
set_option linter.unusedVariables false
set_option linter.unusedSimpArgs false
open Go.RowKit
attribute [local go_sem ↓] Go.wp_at_zero Go.wp_at_succ

theorem sum_known : sumF [49, 50, 51, 52, 53, 54, 55, 56, 57] = 3421780262 := by decide +kernel
set_option maxRecDepth 100000 in
set_option maxHeartbeats 400000 in
theorem known_any (w : World) :
    Calls Tryd.prog 15 #[] w fun e w' => e = .returned (.bool true) ∧ Below w.heap.size w w' := by
  have kc := fun (w : World) (C : Array Value) (n c : Nat) => Lib.run_convert_bytes_const (P := Tryd.prog) w 22 5 C n c Tryd.underlying22 Tryd.underlying5
  have hb := below_new w (.cells (ints .u8 [49, 50, 51, 52, 53, 54, 55, 56, 57]).toArray 5 (9, 10))
  go_enter Tryd.func15, Tryd.ntmps15
  go_wp2_with fail
  refine (sum_any _ [49, 50, 51, 52, 53, 54, 55, 56, 57] (fun x hx => by simp at hx; omega) (some ⟨w.heap.size, 0, none⟩) 9 (src_new w _ 5 (9, 10) 9 (by simp) (by simp [maxLen]))).mono ?_
  rintro e w1 ⟨rfl, b1⟩
  rw [sum_known]
  go_wp2
  go_ret
  exact ⟨rfl, hb.trans (b1.mono hb.size)⟩
end Go.Proofs.YtbmjegcnfokagabDoor
