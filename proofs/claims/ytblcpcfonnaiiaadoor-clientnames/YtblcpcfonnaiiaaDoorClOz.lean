import Derived.Test.YtblcpcfonnaiiaaDoorClK
import Derived.Test.YtblcpcfonnaiiaaDoorXb9
namespace Go.Proofs.YtblcpcfonnaiiaaDoor
set_option linter.unusedVariables false
set_option linter.unusedSimpArgs false
open Go.RowKit
attribute [local go_sem ↓] Go.wp_at_zero Go.wp_at_succ

/-! The proof that nothing is there, under the empty map's root. -/
def z33 : List Int := List.replicate 33 0
theorem z33_bys : Bys z33 := fun x hx => by have := List.eq_of_mem_replicate hx; omega
theorem dec_z33 : decP z33 = some pf0 := by kernel_rfl
theorem bit_zB (h : Nat) : bitB zB h = 0 := by
  unfold bitB
  have : zB.getD (h / 8) 0 = 0 := by
    unfold zB
    rw [List.getD_eq_getElem?_getD, List.getElem?_replicate]
    split <;> rfl
  rw [this]; simp
theorem digE_pf0 (k : Int) : ∀ h, digE k pf0 h = 0
  | 0 => rfl
  | h + 1 => by
    have := digE_pf0 k h
    exact digE_s0 this (bit_zB h)
theorem nbr_pf0 (k : Int) (h : Nat) : nbr k pf0 h = emptyD k h := by
  unfold nbr; rw [show pf0.bs = zB from rfl, bit_zB, if_neg (by decide)]
theorem pth_pf0 (k : Int) (ks : List Int) : ∀ h, pth k ks (nbr k pf0) (footD k ks pf0.f pf0.vs) h = emptyD k h
  | 0 => rfl
  | h + 1 => by
    show (if bitK ks (255 - h) = 0 then branchD k (pth k ks (nbr k pf0) (footD k ks pf0.f pf0.vs) h) (nbr k pf0 h) else branchD k (nbr k pf0 h) (pth k ks (nbr k pf0) (footD k ks pf0.f pf0.vs) h)) = emptyD k (h + 1)
    rw [pth_pf0 k ks h, nbr_pf0]
    split <;> rfl
theorem held_z33 (k : Int) (ks root : List Int) : heldE k root ks z33 = if emptyD k 256 = root then 0 else 131 := by
  have h1 : decE z33 = 0 := by unfold decE; rw [dec_z33]; rfl
  have h2 : decV z33 = pf0 := by unfold decV; rw [dec_z33]; rfl
  unfold heldE pthP
  rw [if_pos h1, h2, if_pos (digE_pf0 k 256), pth_pf0]
theorem ver_z33 {k : Int} (ks : List Int) (h1 : 1 ≤ k) (h2 : k ≤ 32) : verE k (emptyD k 256) ks z33 = 0 ∧ verF k (emptyD k 256) ks z33 = false ∧ verV k (emptyD k 256) ks z33 = [] := by
  have e : verE k (emptyD k 256) ks z33 = 0 := by unfold verE; rw [if_neg (by omega), held_z33, if_pos rfl]
  have d : decV z33 = pf0 := by unfold decV; rw [dec_z33]; rfl
  refine ⟨e, ?_, ?_⟩
  · unfold verF; rw [if_pos e, d]; rfl
  · unfold verV; rw [if_pos e, d]; rfl
end Go.Proofs.YtblcpcfonnaiiaaDoor
