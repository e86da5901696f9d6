import Derived.Test.YtcifbnldohmbnabPf
namespace Go.Proofs.Ytcifbnldohmbnab
set_option linter.unusedVariables false
set_option linter.unusedSimpArgs false
open Go.RowKit
attribute [local go_sem ↓] Go.wp_at_zero Go.wp_at_succ
theorem parsePlay_any (w W0 : World) (m : MO) (p : BOp) (hm : SaysO W0 m p) (hW0 : Below W0.heap.size W0 w) :
    Calls Try.prog 13 #[.agg (encO m).toArray] w fun e w' => e = .returned (.bool true) ∧ Below w.heap.size w w' := by
  by_cases h : p.raw.length = 0
  · exact parsePlay_nil w W0 m p hm hW0 h
  · exact parsePlay_pos w W0 m p hm hW0 (by omega)
set_option maxRecDepth 100000 in
set_option maxHeartbeats 1000000 in
theorem plays_parse (w W0 : World) (m : MO) (p : BOp) (hm : SaysO W0 m p) (hW0 : Below W0.heap.size W0 w) (h1 : p.kind = 5) :
    Calls Try.prog 10 #[.agg (encO m).toArray] w fun e w' => e = .returned (.bool true) ∧ Below w.heap.size w w' := by
  have g1 := hnew w (.cells (encO m).toArray 30)
  have g2 : Below w.heap.size w (w.alloc (.cells (encO m).toArray 30)) := (Below.refl _ _).alloc (Nat.le_refl _) _
  have c0 := O_k g1 hm
  have SO := hid (show (encO m).toArray.size = 69 by simpa using hm.len)
  have KC := hid (parsePlay_any (w.alloc (.cells (encO m).toArray 30)) W0 m p hm (hW0.trans (g2.mono hW0.size)))
  rw [h1] at c0
  go_enter Try.func10, Try.ntmps10
  go_wp2_with (first | refine wpList_load_row rfl 30 _ rfl _ rfl 30 _ _ _ (by exact g1) Try.underlying30 rfl (by rw [opSize, SO.out]) ?_)
  refine KC.out.mono ?_
  rintro e w1 ⟨rfl, hB1⟩
  go_wp2
  go_ret
  exact ⟨rfl, g2.trans (hB1.mono (by simp))⟩
end Go.Proofs.Ytcifbnldohmbnab
