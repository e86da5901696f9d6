import Derived.Test.YthhchbeaefcljaaQb2
namespace Go.Proofs.Ythhchbeaefcljaa
set_option linter.unusedVariables false
set_option linter.unusedSimpArgs false
open Go.RowKit
attribute [local go_sem ↓] Go.wp_at_zero Go.wp_at_succ

set_option maxRecDepth 100000 in
set_option maxHeartbeats 400000 in
theorem burst_walk (w : World) (a0 a1 : Int) (ac : List AC) (hok : ∀ a ∈ ac, AcOk a) (sp : Option Addr) (cap : Nat) (hA : Acs w w.heap.size sp ac) (hal : (ac.length : Int) ≤ 9223372036854775807) (pg : Int) (hpg : -9223372036854775808 ≤ pg ∧ pg ≤ 9223372036854775807) (bt : Int) (hbt : -9223372036854775808 ≤ bt ∧ bt ≤ 9223372036854775807) (pt : Int) (hpt : 0 ≤ pt ∧ pt < 4294967296) :
    Calls Try.prog 4 #[.int .i64 a0, .int .i64 a1, .slice sp ac.length cap, .int .i64 pg, .int .i64 bt, .int .u32 pt] w fun e w' => e = .returned (.bool true) ∧ Below w.heap.size w w' := by
  by_cases hf : 3 ≤ a0 ∧ a0 ≤ 64 ∧ 1 ≤ a1 ∧ a1 ≤ 32
  · obtain ⟨n, rfl⟩ : ∃ n : Nat, a0 = n := ⟨a0.toNat, by omega⟩
    by_cases h0 : pt = 0
    · exact burst_in w n a1 ⟨by omega, by omega⟩ hf.2.2 ac hok sp cap hA hal pg hpg bt hbt pt 1 (Or.inl ⟨h0, rfl⟩)
    · exact burst_in w n a1 ⟨by omega, by omega⟩ hf.2.2 ac hok sp cap hA hal pg hpg bt hbt pt pt.toNat (Or.inr ⟨h0, by omega, by omega⟩)
  · have HF := hid (fits_no w a0 a1 hf)
    clear hf hA
    go_enter Try.func4, Try.ntmps4
    go_wp2_with (first | (go_at_call 6; refine HF.out.mono ?_; rintro e w0 ⟨rfl, rfl⟩))
    go_ret
    exact ⟨rfl, Below.refl _ _⟩
end Go.Proofs.Ythhchbeaefcljaa
