import Derived.Test.YtbddndcdcicnaabN6a
import Derived.Test.YtbddndcdcicnaabN6b
import Derived.Test.YtbddndcdcicnaabN6c
import Derived.Test.YtbddndcdcicnaabN6d
namespace Go.Proofs.Ytbddndcdcicnaab
set_option linter.unusedVariables false
set_option linter.unusedSimpArgs false
open Go.RowKit
attribute [local go_sem ↓] Go.wp_at_zero Go.wp_at_succ

theorem tmod2 (x : Int) : -1 ≤ x.tmod 2 ∧ x.tmod 2 ≤ 1 := by
  have h1 := Int.tmod_lt_of_pos x (show (0 : Int) < 2 by omega)
  have h2 := Int.tmod_lt_of_pos (-x) (show (0 : Int) < 2 by omega)
  rw [Int.neg_tmod] at h2
  omega
set_option maxRecDepth 100000 in
set_option maxHeartbeats 1000000 in
theorem one_walk (w : World) (s : Sup) (rise wh a : Int) (hr : -9223372036854775808 ≤ rise ∧ rise ≤ 9223372036854775807) (pt : Nat) (hpt : pt < 4294967296) :
    Calls Try.prog 4 #[.agg (supC s), .int .i64 rise, .int .i64 wh, .int .i64 a, .int .u32 pt] w fun e w' => e = .returned (.bool true) ∧ Below w.heap.size w w' := by
  by_cases hvg : validS s = true ∧ s.ge < 1099511627776
  · obtain ⟨hv, hg⟩ := hvg
    have hvv := (validS_iff s).1 hv
    have hp : s.ge.tmod 2 = 0 ∨ s.ge.tmod 2 = 1 := by
      rw [Int.tmod_eq_emod_of_nonneg (by omega)]; omega
    have ht := tmod2 wh
    have hw2 : IntKind.i64.wrap (wh.tmod 2) = wh.tmod 2 := wrap_i64_id _ (by omega) (by omega)
    by_cases hw : wh.tmod 2 = 0
    · have hq : (wh.tmod 2 == 0) = true := by simpa using hw
      rcases hp with hp | hp
      · exact one_a w s hv hg rise wh a hr pt hpt hp _ rfl hq hw2
      · exact one_c w s hv hg rise wh a hr pt hpt hp _ rfl hq hw2
    · have hq : (wh.tmod 2 == 0) = false := by simpa using hw
      rcases hp with hp | hp
      · exact one_b w s hv hg rise wh a hr pt hpt hp _ rfl hq hw2
      · exact one_d w s hv hg rise wh a hr pt hpt hp _ rfl hq hw2
  · have r5 := hnew w (.cells (supC s) 27)
    have B := below_new w (.cells (supC s) 27)
    go_enter Try.func4, Try.ntmps4
    go_wp2_with fail
    refine (knownSuper_any _).mono ?_
    rintro e w1 ⟨rfl, b1⟩
    replace r5 := hbel b1 r5 (hlt r5)
    replace B := B.trans (b1.mono B.size)
    clear b1
    cases hv : validS s
    · go_wp2_with (first
        | (refine wpList_load_row_w (by rfl) 27 (.tmp 5) (by rfl) w.heap.size (by rfl) 27 (supC s) (0, 0) _ (by exact r5) Try.underlying27 rfl (supN s) ?_))
      refine (packSuper_bad w1 s hv).mono ?_
      rintro e w2 ⟨rfl, b2⟩
      replace B := B.trans (b2.mono B.size)
      clear b2
      go_wp2
      go_ret
      exact ⟨rfl, B⟩
    · have hg : 1099511627776 ≤ s.ge := Classical.byContradiction fun h => hvg ⟨hv, by omega⟩
      have HV := hid hv
      clear hvg hv
      go_wp2_with (first
        | (refine wpList_load_row_w (by rfl) 27 (.tmp 5) (by rfl) w.heap.size (by rfl) 27 (supC s) (0, 0) _ (by exact r5) Try.underlying27 rfl (supN s) ?_))
      refine (packSuper_ok w1 s HV.out).mono ?_
      rintro e w2 ⟨gA, rfl, hgA, rA, b2⟩
      replace r5 := hbel b2 r5 (hlt r5)
      replace B := B.trans (b2.mono B.size)
      have c5 : w2.cell? ⟨w.heap.size, 1, none⟩ = some (.int .i64 s.ge) := cell_of_row w2 _ 1 _ _ _ r5
      clear b2 rA hgA
      generalize s.ge = ge at *
      go_wp2
      go_ret
      exact ⟨rfl, B⟩
end Go.Proofs.Ytbddndcdcicnaab
