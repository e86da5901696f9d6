import Derived.Test.YtihkjfbhmlfonaaNk
namespace Go.Proofs.Ytihkjfbhmlfonaa
set_option linter.unusedVariables false
set_option linter.unusedSimpArgs false
open Go.RowKit
attribute [local go_sem ↓] Go.wp_at_zero Go.wp_at_succ

theorem guardU : Try.prog.eqGuardType Try.prog.depth 56 = false := by kernel_rfl
theorem eqSup (s t : Sup) (w : World) : (Op.equalIn 10000 56 (.agg (supC s)) (.agg (supC t))).run Try.prog w = .ok (decide (s = t)) w := by
  obtain ⟨a, b, c, d, e⟩ := s
  obtain ⟨a', b', c', d', e'⟩ := t
  unfold supC
  go_simp
  repeat' split
  all_goals simp_all
theorem superP_len (s : Sup) : (secS s ++ List.replicate 192 (0 : Int)).length = 256 := by rw [List.length_append, secS_len, List.length_replicate]
theorem superP_byts (s : Sup) (h : validS s = true) : Byts (secS s ++ List.replicate 192 0) := byts_app (secS_byts s h) (rep_byts _)
/-- PackSuper of what is valid. -/
theorem packSuper_ok (w : World) (s : Sup) (hv : validS s = true) :
    Calls Try.prog 57 #[.agg (supC s)] w fun e w' => ∃ g, e = .returned (.tuple #[.slice (some ⟨g, 0, none⟩) 256 256, .int .i64 0]) ∧ w.heap.size ≤ g ∧ w'.heap[g]? = some (.cells (ints .u8 (secS s ++ List.replicate 192 0)).toArray 5 (0, 0)) ∧ Below w.heap.size w w' := by
  refine (packSuper_any w s).mono ?_
  rintro e w' ⟨v, rfl, hN, hB⟩
  rw [superF_ok s hv] at hN ⊢
  rcases hN with ⟨_, h0⟩ | ⟨_, g, rfl, hg, hr⟩
  · have := superP_len s; simp only at h0; rw [h0] at this; simp at this
  · exact ⟨g, by simp only [superP_len], hg, hr, hB⟩
theorem packSuper_bad (w : World) (s : Sup) (hv : validS s = false) :
    Calls Try.prog 57 #[.agg (supC s)] w fun e w' => e = .returned (.tuple #[.slice none 0 0, .int .i64 53]) ∧ Below w.heap.size w w' := by
  refine (packSuper_any w s).mono ?_
  rintro e w' ⟨v, rfl, hN, hB⟩
  rw [superF_bad s hv] at hN ⊢
  rcases hN with ⟨rfl, h0⟩ | ⟨hn, g, rfl, hg, hr⟩
  · exact ⟨rfl, hB⟩
  · exact absurd rfl hn
/-- UnpackSuper of a superblock whose sum is wrong. -/
theorem unSuper_wrong (w : World) (R Y : List Int) (h8 : Byts (R ++ Y)) (hR : R.length = 64) (hY : Y.length = 192) (hC : feed ones R ≠ CR) (sp : Option Addr) (cap : Nat) (hS : Src w sp cap (R ++ Y)) :
    Calls Try.prog 76 #[.slice sp 256 cap] w fun e w' => e = .returned (.tuple #[.agg (supC sup0), .int .i64 52]) ∧ Below w.heap.size w w' := by
  have h := unSuper_any w (R ++ Y) h8 sp cap hS
  have hl : (R ++ Y).length = 256 := by rw [List.length_append, hR, hY]
  rw [hl, unSuper_sum (R ++ Y) hl (by rw [List.take_left' hR]; exact hC)] at h
  exact h
end Go.Proofs.Ytihkjfbhmlfonaa
