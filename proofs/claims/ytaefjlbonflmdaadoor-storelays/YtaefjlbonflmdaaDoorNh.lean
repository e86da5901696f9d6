import Derived.Test.YtaefjlbonflmdaaDoorNg
namespace Go.Proofs.YtaefjlbonflmdaaDoor
set_option linter.unusedVariables false
set_option linter.unusedSimpArgs false
open Go.RowKit
attribute [local go_sem ↓] Go.wp_at_zero Go.wp_at_succ

/-- A superblock's cells. -/
def supC (s : Sup) : Array Value := #[.int .i64 s.wd, .int .i64 s.ge, .int .i64 s.ma, .int .i64 s.hd, .int .i64 s.pg]
set_option maxRecDepth 100000 in
set_option maxHeartbeats 1000000 in
theorem valid_at (w : World) (wd ge ma hd pg : Int) :
    Calls Tryd.prog 78 #[.agg #[.int .i64 wd, .int .i64 ge, .int .i64 ma, .int .i64 hd, .int .i64 pg]] w fun e w' => e = .returned (.bool (validS ⟨wd, ge, ma, hd, pg⟩)) ∧ Below w.heap.size w w' := by
  by_cases n0 : ¬ (1 ≤ wd)
  · skip
    have HV := hid (show validS ⟨wd, ge, ma, hd, pg⟩ = false by simp [validS]; omega)
    go_enter Tryd.func78, Tryd.ntmps78
    go_wp2
    go_ret
    exact ⟨by rw [HV.out]; rfl, below_new w _⟩
  have h0 : 1 ≤ wd := Classical.not_not.1 n0
  clear n0
  by_cases n1 : ¬ (wd ≤ 32)
  · skip
    have HV := hid (show validS ⟨wd, ge, ma, hd, pg⟩ = false by simp [validS]; omega)
    go_enter Tryd.func78, Tryd.ntmps78
    go_wp2
    go_ret
    exact ⟨by rw [HV.out]; rfl, below_new w _⟩
  have h1 : wd ≤ 32 := Classical.not_not.1 n1
  clear n1
  by_cases n2 : ¬ (0 ≤ ge)
  · skip
    have HV := hid (show validS ⟨wd, ge, ma, hd, pg⟩ = false by simp [validS]; omega)
    go_enter Tryd.func78, Tryd.ntmps78
    go_wp2
    go_ret
    exact ⟨by rw [HV.out]; rfl, below_new w _⟩
  have h2 : 0 ≤ ge := Classical.not_not.1 n2
  clear n2
  by_cases n3 : ¬ (ge ≤ 1099511627776)
  · skip
    have HV := hid (show validS ⟨wd, ge, ma, hd, pg⟩ = false by simp [validS]; omega)
    go_enter Tryd.func78, Tryd.ntmps78
    go_wp2
    go_ret
    exact ⟨by rw [HV.out]; rfl, below_new w _⟩
  have h3 : ge ≤ 1099511627776 := Classical.not_not.1 n3
  clear n3
  by_cases n4 : ¬ (3 ≤ pg)
  · skip
    have HV := hid (show validS ⟨wd, ge, ma, hd, pg⟩ = false by simp [validS]; omega)
    go_enter Tryd.func78, Tryd.ntmps78
    go_wp2
    go_ret
    exact ⟨by rw [HV.out]; rfl, below_new w _⟩
  have h4 : 3 ≤ pg := Classical.not_not.1 n4
  clear n4
  by_cases n5 : ¬ (pg ≤ 4096)
  · skip
    have HV := hid (show validS ⟨wd, ge, ma, hd, pg⟩ = false by simp [validS]; omega)
    go_enter Tryd.func78, Tryd.ntmps78
    go_wp2
    go_ret
    exact ⟨by rw [HV.out]; rfl, below_new w _⟩
  have h5 : pg ≤ 4096 := Classical.not_not.1 n5
  clear n5
  by_cases n6 : ¬ (2 ≤ ma)
  · skip
    have HV := hid (show validS ⟨wd, ge, ma, hd, pg⟩ = false by simp [validS]; omega)
    go_enter Tryd.func78, Tryd.ntmps78
    go_wp2
    go_ret
    exact ⟨by rw [HV.out]; rfl, below_new w _⟩
  have h6 : 2 ≤ ma := Classical.not_not.1 n6
  clear n6
  by_cases n7 : ¬ (ma ≤ pg)
  · skip
    have HV := hid (show validS ⟨wd, ge, ma, hd, pg⟩ = false by simp [validS]; omega)
    go_enter Tryd.func78, Tryd.ntmps78
    go_wp2
    go_ret
    exact ⟨by rw [HV.out]; rfl, below_new w _⟩
  have h7 : ma ≤ pg := Classical.not_not.1 n7
  clear n7
  by_cases h8 : hd = 0
  · have e8 : (hd == 0) = true := by simpa using h8
    have HV := hid (show validS ⟨wd, ge, ma, hd, pg⟩ = true by simp only [validS, decide_eq_true_eq]; omega)
    clear h8
    go_enter Tryd.func78, Tryd.ntmps78
    go_wp2
    go_ret
    exact ⟨by rw [HV.out]; rfl, below_new w _⟩
  have e8 : (hd == 0) = false := by simpa using h8
  by_cases n9 : ¬ (2 ≤ hd)
  · skip
    have HV := hid (show validS ⟨wd, ge, ma, hd, pg⟩ = false by simp [validS]; omega)
    clear h8
    go_enter Tryd.func78, Tryd.ntmps78
    go_wp2
    go_ret
    exact ⟨by rw [HV.out]; rfl, below_new w _⟩
  have h9 : 2 ≤ hd := Classical.not_not.1 n9
  clear n9
  by_cases n10 : ¬ (hd < ma)
  · skip
    have HV := hid (show validS ⟨wd, ge, ma, hd, pg⟩ = false by simp [validS]; omega)
    clear h8
    go_enter Tryd.func78, Tryd.ntmps78
    go_wp2
    go_ret
    exact ⟨by rw [HV.out]; rfl, below_new w _⟩
  have h10 : hd < ma := Classical.not_not.1 n10
  clear n10
  have HV := hid (show validS ⟨wd, ge, ma, hd, pg⟩ = true by simp only [validS, decide_eq_true_eq]; omega)
  clear h8
  go_enter Tryd.func78, Tryd.ntmps78
  go_wp2
  go_ret
  exact ⟨by rw [HV.out]; rfl, below_new w _⟩
theorem valid_any (w : World) (s : Sup) : Calls Tryd.prog 78 #[.agg (supC s)] w fun e w' => e = .returned (.bool (validS s)) ∧ Below w.heap.size w w' := valid_at w s.wd s.ge s.ma s.hd s.pg
end Go.Proofs.YtaefjlbonflmdaaDoor
