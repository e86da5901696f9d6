import Derived.Test.YtbnghhgeoodphaaGreatDoorNk
namespace Go.Proofs.YtbnghhgeoodphaaGreatDoor
set_option maxRecDepth 100000
set_option maxHeartbeats 40000000
set_option linter.unusedVariables false
set_option linter.unusedSimpArgs false
open Go.RowKit
attribute [local go_sem ↓] Go.wp_at_zero Go.wp_at_succ
theorem guardU : Tryz.prog.eqGuardType Tryz.prog.depth 65 = false := by kernel_rfl
theorem eqSup (s t : Sup) (w : World) : (Op.equalIn 10000 65 (.agg (supC s)) (.agg (supC t))).run Tryz.prog w = .ok (decide (s = t)) w := by
 obtain ⟨a, b, c, d, e⟩ := s
 obtain ⟨a', b', c', d', e'⟩ := t
 unfold supC
 go_simp
 repeat' split
 all_goals simp_all
theorem superP_len (s : Sup) : (secS s ++ List.replicate 192 (0 : Int)).length = 256 := by rw [List.length_append, secS_len, List.length_replicate]
theorem packSuper_ok (w : World) (s : Sup) (hv : validS s = true) :
   Calls Tryz.prog 84 #[.agg (supC s)] w fun e w' => ∃ g, e = .returned (.tuple #[.slice (some ⟨g, 0, none⟩) 256 256, .int .i64 0]) /\ w.heap.size <= g /\ w'.heap[g]? = some (.cells (ints .u8 (secS s ++ List.replicate 192 0)).toArray 5 (0, 0)) /\ Below w.heap.size w w' := by
 refine (packSuper_any w s).mono ?_
 rintro e w' ⟨v, rfl, hN, hB⟩
 rw [superF_ok s hv] at hN ⊢
 rcases hN with ⟨_, h0⟩ | ⟨_, g, rfl, hg, hr⟩
 · have := superP_len s; simp only at h0; rw [h0] at this; simp at this
 · exact ⟨g, by simp only [superP_len], hg, hr, hB⟩
end Go.Proofs.YtbnghhgeoodphaaGreatDoor
