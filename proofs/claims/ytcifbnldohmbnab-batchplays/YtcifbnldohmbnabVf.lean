import Derived.Test.YtcifbnldohmbnabVe
import Derived.Test.YtcifbnldohmbnabSu
namespace Go.Proofs.Ytcifbnldohmbnab
set_option linter.unusedVariables false
set_option linter.unusedSimpArgs false
open Go.RowKit
attribute [local go_sem ↓] Go.wp_at_zero Go.wp_at_succ

set_option maxRecDepth 100000 in
set_option maxHeartbeats 1000000 in
theorem rNormal_any (w : World) (cs : List Chg) (sp : Option Addr) (cap b o : Nat) (ms : List MC) (hC : Chs w sp cap cs b o ms) (hok : ∀ c ∈ cs, OkC c) :
    Calls Try.prog 38 #[.slice sp cs.length cap] w fun e w' => ∃ v, e = .returned (.tuple #[v, .int .i64 (NorE cs)]) ∧ Mine w' w.heap.size v (NorL cs) ∧ Below w.heap.size w w' := by
  have K1 := hid (rwrong_any w cs sp cap b o ms hC hok 4096 (by decide))
  go_enter Try.func38, Try.ntmps38
  go_wp2_with fail
  refine K1.out.mono ?_
  rintro e w1 ⟨rfl, hb1⟩
  clear K1
  by_cases h0 : wrongC cs 4096 = 0
  · obtain ⟨hl, _, hnd⟩ := wrong_zero.1 h0
    have K2 := hid (rsorted_any cs.length w1 cs sp cap b o ms (hC.below hb1) hok (Nat.le_refl _) (by omega))
    have HE := hid (show NorE cs = 0 from h0)
    have HLs := hid (show NorL cs = normC cs by unfold NorL; rw [if_pos h0])
    have HND := hid hnd
    rw [h0]
    clear h0 hl hnd
    go_wp2_with fail
    refine K2.out.mono ?_
    rintro e w2 ⟨v, l, rfl, q1, q2, hM, hb2⟩
    clear K2
    have hl := norm_unique q1 q2 HND.out
    subst hl
    go_wp2
    refine bodyPost_ret (results_tmp2 Try.results38 _ _ _) rfl ⟨v, ?_, ?_, hb1.trans (hb2.mono hb1.size)⟩
    · rw [HE.out]; rfl
    · rw [HLs.out]; exact hM.base hb1.size
  · have HE := hid (show NorE cs = wrongC cs 4096 from rfl)
    have HLs := hid (show NorL cs = [] by unfold NorL; rw [if_neg h0])
    generalize wrongC cs 4096 = ww at *
    go_wp2
    refine bodyPost_ret (results_tmp2 Try.results38 _ _ _) rfl ⟨.slice none 0 0, ?_, ?_, hb1⟩
    · rw [HE.out]; rfl
    · rw [HLs.out]; exact Mine.nil _ _
end Go.Proofs.Ytcifbnldohmbnab
