import Derived.Test.YtcifbnldohmbnabXc
namespace Go.Proofs.Ytcifbnldohmbnab
set_option linter.unusedVariables false
set_option linter.unusedSimpArgs false
open Go.RowKit
attribute [local go_sem ↓] Go.wp_at_zero Go.wp_at_succ
set_option maxRecDepth 100000 in
set_option maxHeartbeats 1000000 in
theorem plays_build (w W0 : World) (m : MO) (p : BOp) (hm : SaysO W0 m p) (hW0 : Below W0.heap.size W0 w) (h1 : p.kind = 4) :
    Calls Try.prog 10 #[.agg (encO m).toArray] w fun e w' => e = .returned (.bool true) ∧ Below w.heap.size w w' := by
  have g1 := hnew w (.cells (encO m).toArray 30)
  have g2 : Below w.heap.size w (w.alloc (.cells (encO m).toArray 30)) := (Below.refl _ _).alloc (Nat.le_refl _) _
  have c0 := O_k g1 hm
  have SO := hid (show (encO m).toArray.size = 69 by simpa using hm.len)
  have KC := hid (listsPlay_any (w.alloc (.cells (encO m).toArray 30)) W0 m p hm (hW0.trans (g2.mono hW0.size)) (by rw [h1]; exact asked_build))
  rw [h1] at c0
  go_enter Try.func10, Try.ntmps10
  go_wp2_with (first | refine wpList_load_row rfl 30 _ rfl _ rfl 30 _ _ _ (by exact g1) Try.underlying30 rfl (by rw [opSize, SO.out]) ?_)
  refine KC.out.mono ?_
  rintro e w1 ⟨rfl, hB1⟩
  go_wp2
  go_ret
  exact ⟨rfl, g2.trans (hB1.mono (by simp))⟩
set_option maxRecDepth 100000 in
set_option maxHeartbeats 1000000 in
theorem plays_normal (w W0 : World) (m : MO) (p : BOp) (hm : SaysO W0 m p) (hW0 : Below W0.heap.size W0 w) (h1 : p.kind = 6) :
    Calls Try.prog 10 #[.agg (encO m).toArray] w fun e w' => e = .returned (.bool true) ∧ Below w.heap.size w w' := by
  have g1 := hnew w (.cells (encO m).toArray 30)
  have g2 : Below w.heap.size w (w.alloc (.cells (encO m).toArray 30)) := (Below.refl _ _).alloc (Nat.le_refl _) _
  have c0 := O_k g1 hm
  have SO := hid (show (encO m).toArray.size = 69 by simpa using hm.len)
  have KC := hid (listsPlay_any (w.alloc (.cells (encO m).toArray 30)) W0 m p hm (hW0.trans (g2.mono hW0.size)) (by rw [h1]; exact asked_normal))
  rw [h1] at c0
  go_enter Try.func10, Try.ntmps10
  go_wp2_with (first | refine wpList_load_row rfl 30 _ rfl _ rfl 30 _ _ _ (by exact g1) Try.underlying30 rfl (by rw [opSize, SO.out]) ?_)
  refine KC.out.mono ?_
  rintro e w1 ⟨rfl, hB1⟩
  go_wp2
  go_ret
  exact ⟨rfl, g2.trans (hB1.mono (by simp))⟩
set_option maxRecDepth 100000 in
set_option maxHeartbeats 1000000 in
theorem plays_fold (w W0 : World) (m : MO) (p : BOp) (hm : SaysO W0 m p) (hW0 : Below W0.heap.size W0 w) (h1 : p.kind = 7) :
    Calls Try.prog 10 #[.agg (encO m).toArray] w fun e w' => e = .returned (.bool true) ∧ Below w.heap.size w w' := by
  have g1 := hnew w (.cells (encO m).toArray 30)
  have g2 : Below w.heap.size w (w.alloc (.cells (encO m).toArray 30)) := (Below.refl _ _).alloc (Nat.le_refl _) _
  have c0 := O_k g1 hm
  have SO := hid (show (encO m).toArray.size = 69 by simpa using hm.len)
  have KC := hid (listsPlay_any (w.alloc (.cells (encO m).toArray 30)) W0 m p hm (hW0.trans (g2.mono hW0.size)) (by rw [h1]; exact asked_fold))
  rw [h1] at c0
  go_enter Try.func10, Try.ntmps10
  go_wp2_with (first | refine wpList_load_row rfl 30 _ rfl _ rfl 30 _ _ _ (by exact g1) Try.underlying30 rfl (by rw [opSize, SO.out]) ?_)
  refine KC.out.mono ?_
  rintro e w1 ⟨rfl, hB1⟩
  go_wp2
  go_ret
  exact ⟨rfl, g2.trans (hB1.mono (by simp))⟩
set_option maxRecDepth 100000 in
theorem builds_walk (w : World) (ps : List BOp) (sp : Option Addr) (cap b o : Nat) (ms : List MO) (hS : Scr w sp ps b o ms) (hlen : ps.length ≤ 140737488351232) :
    Calls Try.prog 4 #[.slice sp ps.length cap] w fun e w' => e = .returned (.bool true) ∧ Below w.heap.size w w' := by
  have KC := hid (upTo_any w ps sp cap b o ms hS hlen 4 4 fun i hi h1 h3 w' hb => plays_build w' w _ _ (hS.says i hi) hb (by omega))
  go_enter Try.func4, Try.ntmps4
  go_wp2_with fail
  refine KC.out.mono ?_
  rintro e w1 ⟨rfl, hB1⟩
  go_wp2
  go_ret
  exact ⟨rfl, hB1⟩
set_option maxRecDepth 100000 in
theorem normals_walk (w : World) (ps : List BOp) (sp : Option Addr) (cap b o : Nat) (ms : List MO) (hS : Scr w sp ps b o ms) (hlen : ps.length ≤ 140737488351232) :
    Calls Try.prog 6 #[.slice sp ps.length cap] w fun e w' => e = .returned (.bool true) ∧ Below w.heap.size w w' := by
  have KC := hid (upTo_any w ps sp cap b o ms hS hlen 6 6 fun i hi h1 h3 w' hb => plays_normal w' w _ _ (hS.says i hi) hb (by omega))
  go_enter Try.func6, Try.ntmps6
  go_wp2_with fail
  refine KC.out.mono ?_
  rintro e w1 ⟨rfl, hB1⟩
  go_wp2
  go_ret
  exact ⟨rfl, hB1⟩
set_option maxRecDepth 100000 in
theorem folds_walk (w : World) (ps : List BOp) (sp : Option Addr) (cap b o : Nat) (ms : List MO) (hS : Scr w sp ps b o ms) (hlen : ps.length ≤ 140737488351232) :
    Calls Try.prog 7 #[.slice sp ps.length cap] w fun e w' => e = .returned (.bool true) ∧ Below w.heap.size w w' := by
  have KC := hid (upTo_any w ps sp cap b o ms hS hlen 7 7 fun i hi h1 h3 w' hb => plays_fold w' w _ _ (hS.says i hi) hb (by omega))
  go_enter Try.func7, Try.ntmps7
  go_wp2_with fail
  refine KC.out.mono ?_
  rintro e w1 ⟨rfl, hB1⟩
  go_wp2
  go_ret
  exact ⟨rfl, hB1⟩
end Go.Proofs.Ytcifbnldohmbnab
