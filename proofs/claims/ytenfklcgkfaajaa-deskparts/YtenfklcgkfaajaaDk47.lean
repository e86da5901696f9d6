import Derived.Test.YtenfklcgkfaajaaDk43
import Derived.Test.YtenfklcgkfaajaaDk38
namespace Go.Proofs.Ytenfklcgkfaajaa
set_option linter.unusedVariables false
set_option linter.unusedSimpArgs false
open Go.RowKit
attribute [local go_sem ↓] Go.wp_at_zero Go.wp_at_succ

theorem nmV_bd (R : Rd) (n : Nat) : -9223372036854775808 ≤ nmV R n ∧ nmV R n ≤ 9223372036854775807 := w64_bd _
theorem in_bd (R : Rd) : NfB (inV R) := by
  unfold inV
  constructor <;> dsimp only <;> exact nmV_bd _ _
theorem nf0_bd : NfB nf0 := ⟨by simp [nf0], by simp [nf0], by simp [nf0], by simp [nf0], by simp [nf0], by simp [nf0]⟩
theorem rp0_bd : RpB rp0 := ⟨by simp [rp0], by simp [rp0], nf0_bd, by simp [rp0]⟩
theorem elV_bys {R : Rd} (hy : Bys R.rest) (c : Bool) : Bys (elV c R).val := by
  unfold elV
  cases c with
  | false => exact vaV_bys (tkS_bys hy 32)
  | true =>
    show Bys (cgV R).val
    unfold cgV
    split
    · exact vaV_bys (tkS_bys (tkS_bys hy 1) 32)
    · split
      · exact Bys.nil
      · exact Bys.nil
theorem liP_bys (c : Bool) : ∀ (n : Nat) (R : Rd) (acc : List Cg), Bys R.rest → (∀ x ∈ acc, Bys x.val) → ∀ x ∈ (liP c n R acc).1, Bys x.val
  | 0, R, acc, _, ha => ha
  | n + 1, R, acc, hy, ha => by
    unfold liP
    split
    · intro x hx; cases hx
    · refine liP_bys c n _ _ (elS_bys hy c) (fun x hx => ?_)
      rcases List.mem_append.1 hx with h | h
      · exact ha x h
      · obtain rfl : x = elV c R := by simpa using h
        exact elV_bys hy c
theorem lsP_bys (c : Bool) {R : Rd} (hy : Bys R.rest) : ∀ k, k < (lsP c R).1.length → Bys ((lsP c R).1.getD k dX).val := fun k hk =>
  liP_bys c _ _ _ (upS_bys hy _ _) (fun x hx => by cases hx) _ (getD_mem hk)
theorem rp0_y : RpY rp0 := ⟨Bys.nil, Bys.nil, fun k hk => by simp [rp0] at hk, fun k hk => by simp [rp0] at hk⟩
theorem rest2 (raw : List Int) (hl : raw.length ≤ 140737488351234) : (tkS ⟨raw, false⟩ 2).rest.length ≤ 140737488351232 := by
  unfold tkS
  split
  · simp; omega
  · rename_i h
    simp at h ⊢; omega
theorem fdP_facts (op : Int) (R : Rd) (hy : Bys R.rest) (hl : R.rest.length ≤ 140737488351232) : RpB (fdP op R).1 ∧ RpY (fdP op R).1 := by
  have n0 : ∀ k, k < ([] : List Cg).length → Bys (([] : List Cg).getD k dX).val := fun k hk => by simp at hk
  have z0 : (-9223372036854775808 : Int) ≤ 0 ∧ (0 : Int) ≤ 9223372036854775807 := by omega
  have l0 : ([] : List Int).length ≤ 140737488351232 := by simp
  unfold fdP
  split
  · exact ⟨⟨z0, nmV_bd _ _, nf0_bd, l0⟩, ⟨Bys.nil, Bys.nil, n0, n0⟩⟩
  split
  · split
    · exact ⟨⟨z0, z0, nf0_bd, l0⟩, ⟨vaV_bys (flS_bys hy), Bys.nil, n0, n0⟩⟩
    · exact ⟨rp0_bd, rp0_y⟩
  split
  · exact ⟨⟨z0, z0, nf0_bd, l0⟩, ⟨Bys.nil, Bys.nil, n0, n0⟩⟩
  split
  · exact ⟨⟨z0, z0, nf0_bd, by show (tkV R R.rest.length).length ≤ _; rw [tkV_len]; exact hl⟩, ⟨Bys.nil, tkV_bys hy _, n0, n0⟩⟩
  split
  · exact ⟨⟨z0, z0, nf0_bd, l0⟩, ⟨Bys.nil, Bys.nil, lsP_bys false (flS_bys hy), n0⟩⟩
  split
  · exact ⟨⟨z0, z0, nf0_bd, l0⟩, ⟨Bys.nil, Bys.nil, n0, lsP_bys true hy⟩⟩
  split
  · exact ⟨⟨z0, z0, in_bd _, l0⟩, ⟨Bys.nil, Bys.nil, n0, n0⟩⟩
  · exact ⟨rp0_bd, rp0_y⟩
theorem rpP_facts (op : Int) (raw : List Int) (hy : Bys raw) (hl : raw.length ≤ 140737488351234) : RpB (rpP op ⟨raw, false⟩).1 ∧ RpY (rpP op ⟨raw, false⟩).1 := by
  unfold rpP
  split
  · exact fdP_facts op _ (tkS_bys (R := ⟨raw, false⟩) hy 2) (rest2 raw hl)
  · exact ⟨⟨nmV_bd _ _, by simp [rp0], nf0_bd, by simp [rp0]⟩, ⟨Bys.nil, Bys.nil, fun k hk => by simp [rp0] at hk, fun k hk => by simp [rp0] at hk⟩⟩
theorem dcP_facts (op : Int) (raw : List Int) (hy : Bys raw) (hl : raw.length ≤ 140737488351234) : RpB ((dcP op raw).getD rp0) ∧ RpY ((dcP op raw).getD rp0) := by
  unfold dcP
  split
  · exact rpP_facts op raw hy hl
  · exact ⟨rp0_bd, rp0_y⟩
theorem dc7 : dcP 2 [0, 0, 1, 1, 0, 7] = some { rp0 with found := true, val := [7] } := by rfl
end Go.Proofs.Ytenfklcgkfaajaa
