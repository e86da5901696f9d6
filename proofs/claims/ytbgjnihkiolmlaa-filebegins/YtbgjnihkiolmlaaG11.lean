import Derived.Test.YtbgjnihkiolmlaaG10
namespace Go.Proofs.Ytbgjnihkiolmlaa
set_option linter.unusedVariables false
set_option linter.unusedSimpArgs false
open Go.RowKit
attribute [local go_sem ↓] Go.wp_at_zero Go.wp_at_succ

set_option maxHeartbeats 400000 in
theorem begins_walk (w : World) (a0 a1 a2 a3 : Int) (h3 : -9223372036854775808 ≤ a3 ∧ a3 ≤ 9223372036854775807) (zs : List Int) (h8 : Byts zs) (sp : Option Addr) (cap : Nat) (hS : Src w sp cap zs) :
    Calls Try.prog 3 #[.int .i64 a0, .int .i64 a1, .int .i64 a2, .int .i64 a3, .slice sp zs.length cap] w fun e w' => e = .returned (.bool true) ∧ Below w.heap.size w w' := by
  by_cases hf : 3 ≤ a0 ∧ a0 ≤ 64 ∧ 1 ≤ a1 ∧ a1 ≤ 32
  · by_cases ho : 1 ≤ a2 ∧ a2 ≤ 32
    · obtain ⟨n, rfl⟩ : ∃ n : Nat, a0 = n := ⟨a0.toNat, by omega⟩
      refine begins_in w n a1 a2 a3 ⟨by omega, by omega⟩ hf.2.2 ho h3 zs h8 sp cap hS ?_
      intro a hz e
      obtain ⟨_, _, b, o, q1, q2, _⟩ := hS
      have := q2 hz
      rw [e] at this
      cases this
      exact q1 hz
    · have HF := hid (fits_yes w a0 a1 hf)
      by_cases h1 : 1 ≤ a2
      · have h2 : ¬ a2 ≤ 32 := fun q => ho ⟨h1, q⟩
        clear hf ho hS
        go_enter Try.func3, Try.ntmps3
        go_wp2_with (first | (go_at_call 9; refine HF.out.mono ?_; rintro e w0 ⟨rfl, rfl⟩))
        go_ret
        exact ⟨rfl, Below.refl _ _⟩
      · clear hf ho hS
        go_enter Try.func3, Try.ntmps3
        go_wp2_with (first | (go_at_call 9; refine HF.out.mono ?_; rintro e w0 ⟨rfl, rfl⟩))
        go_ret
        exact ⟨rfl, Below.refl _ _⟩
  · have HF := hid (fits_no w a0 a1 hf)
    clear hf hS
    go_enter Try.func3, Try.ntmps3
    go_wp2_with (first | (go_at_call 9; refine HF.out.mono ?_; rintro e w0 ⟨rfl, rfl⟩))
    go_ret
    exact ⟨rfl, Below.refl _ _⟩
end Go.Proofs.Ytbgjnihkiolmlaa
