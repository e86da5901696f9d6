import Derived.Test.YtjlakgojbfglhaaFC3
namespace Go.Proofs.Ytjlakgojbfglhaa
set_option linter.unusedVariables false
set_option linter.unusedSimpArgs false
open Go.RowKit
attribute [local go_sem ↓] Go.wp_at_zero Go.wp_at_succ

set_option maxRecDepth 100000 in
set_option maxHeartbeats 400000 in
theorem counts_walk (w : World) (a0 a1 : Int) (ac : List AC) (hok : ∀ a ∈ ac, AcOk a) (sp : Option Addr) (cap : Nat) (hA : Acs w w.heap.size sp ac) (hal : (ac.length : Int) ≤ 9223372036854775807) :
    Calls Try.prog 3 #[.int .i64 a0, .int .i64 a1, .slice sp ac.length cap] w fun e w' => e = .returned (.bool true) ∧ Below w.heap.size w w' := by
  by_cases hf : 3 ≤ a0 ∧ a0 ≤ 64 ∧ 1 ≤ a1 ∧ a1 ≤ 32
  · obtain ⟨n, rfl⟩ : ∃ n : Nat, a0 = n := ⟨a0.toNat, by omega⟩
    exact counts_in w n a1 ⟨by omega, by omega⟩ hf.2.2 ac hok sp cap hA hal
  · have HF := hid (fits_no w a0 a1 hf)
    clear hf hA
    go_enter Try.func3, Try.ntmps3
    go_wp2_with (first | (go_at_call 4; refine HF.out.mono ?_; rintro e w0 ⟨rfl, rfl⟩))
    go_ret
    exact ⟨rfl, Below.refl _ _⟩
end Go.Proofs.Ytjlakgojbfglhaa
