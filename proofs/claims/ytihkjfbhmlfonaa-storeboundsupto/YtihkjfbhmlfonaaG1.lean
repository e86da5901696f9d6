import Derived.Test.YtihkjfbhmlfonaaN5
import Derived.Test.YtihkjfbhmlfonaaMd6
namespace Go.Proofs.Ytihkjfbhmlfonaa
set_option linter.unusedVariables false
set_option linter.unusedSimpArgs false
open Go.RowKit
attribute [local go_sem ↓] Go.wp_at_zero Go.wp_at_succ

def sel {α : Type} (k : Nat) (n : Nat) (x y : α) : α := if k = n then x else y
def Good (s o : Sup) (L0 L1 : List Int) : Prop := validS s = true ∧ validS o = true ∧ Fol s o ∧ ∃ Y Z : List Int, Y.length = 192 ∧ Z.length = 192 ∧ Byts Y ∧ Byts Z ∧ ((s.ge % 2 = 0 ∧ L0 = secS s ++ Y ∧ L1 = secS o ++ Z) ∨ (s.ge % 2 = 1 ∧ L0 = secS o ++ Y ∧ L1 = secS s ++ Z))
theorem Good.choose {s o : Sup} {L0 L1 : List Int} (h : Good s o L0 L1) : chooseF L0 L1 = (s, 0) ∧ Byts L0 ∧ Byts L1 ∧ L0.length = 256 ∧ L1.length = 256 := by
  obtain ⟨hv, ho, hf, Y, Z, hY, hZ, y8, z8, h | h⟩ := h
  · obtain ⟨hp, rfl, rfl⟩ := h
    have hb := (validS_iff s).1 hv
    refine ⟨choose_odd o s Y Z hY hZ ho hv hf (by rw [Int.tmod_eq_emod_of_nonneg (by omega)]; exact hp), byts_app (secS_byts s hv) y8, byts_app (secS_byts o ho) z8, by rw [List.length_append, secS_len, hY], by rw [List.length_append, secS_len, hZ]⟩
  · obtain ⟨hp, rfl, rfl⟩ := h
    have hb := (validS_iff o).1 ho
    have h1 := hf.1
    refine ⟨choose_even o s Y Z hY hZ ho hv hf (by rw [Int.tmod_eq_emod_of_nonneg (by omega)]; omega), byts_app (secS_byts o ho) y8, byts_app (secS_byts s hv) z8, by rw [List.length_append, secS_len, hY], by rw [List.length_append, secS_len, hZ]⟩
theorem Good.older {s o : Sup} {L0 L1 : List Int} (h : Good s o L0 L1) (k : Nat) (hk : (s.ge + 1) % 2 = (k : Int)) : ∃ Z : List Int, Z.length = 192 ∧ sel k 0 L0 L1 = secS o ++ Z := by
  obtain ⟨hv, ho, hf, Y, Z, hY, hZ, y8, z8, h | h⟩ := h
  · obtain ⟨hp, rfl, rfl⟩ := h
    obtain rfl : k = 1 := by omega
    exact ⟨Z, hZ, rfl⟩
  · obtain ⟨hp, rfl, rfl⟩ := h
    obtain rfl : k = 0 := by omega
    exact ⟨Y, hY, rfl⟩
theorem Good.keep {s o : Sup} {L0 L1 : List Int} (h : Good s o L0 L1) (k : Nat) (hk : (s.ge + 1) % 2 = (k : Int)) (T : List Int) (hT : T.length = 192) (t8 : Byts T) : Good s o (sel k 0 (secS o ++ T) L0) (sel k 1 (secS o ++ T) L1) := by
  obtain ⟨hv, ho, hf, Y, Z, hY, hZ, y8, z8, h | h⟩ := h
  · obtain ⟨hp, rfl, rfl⟩ := h
    obtain rfl : k = 1 := by omega
    exact ⟨hv, ho, hf, Y, T, hY, hT, y8, t8, Or.inl ⟨hp, rfl, rfl⟩⟩
  · obtain ⟨hp, rfl, rfl⟩ := h
    obtain rfl : k = 0 := by omega
    exact ⟨hv, ho, hf, T, Z, hT, hZ, t8, z8, Or.inr ⟨hp, rfl, rfl⟩⟩
theorem Good.next {s o u : Sup} {L0 L1 : List Int} (h : Good s o L0 L1) (k : Nat) (hk : (s.ge + 1) % 2 = (k : Int)) (hu : validS u = true) (hf' : Fol u s) (T : List Int) (hT : T.length = 192) (t8 : Byts T) : Good u s (sel k 0 (secS u ++ T) L0) (sel k 1 (secS u ++ T) L1) := by
  have hg := hf'.1
  obtain ⟨hv, ho, hf, Y, Z, hY, hZ, y8, z8, h | h⟩ := h
  · obtain ⟨hp, rfl, rfl⟩ := h
    obtain rfl : k = 1 := by omega
    exact ⟨hu, hv, hf', Y, T, hY, hT, y8, t8, Or.inr ⟨by omega, rfl, rfl⟩⟩
  · obtain ⟨hp, rfl, rfl⟩ := h
    obtain rfl : k = 0 := by omega
    exact ⟨hu, hv, hf', T, Z, hT, hZ, t8, z8, Or.inl ⟨by omega, rfl, rfl⟩⟩
theorem zz_empty : emptyF (zz 256) = true := by decide +kernel
theorem blank2 : chooseF (zz 256) (zz 256) = (sup0, 55) := by decide +kernel
theorem blank1 (s : Sup) (Y : List Int) (hv : validS s = true) (hY : Y.length = 192) (hg : s.ge = 0) : chooseF (secS s ++ Y) (zz 256) = (sup0, 55) := by
  have hu : (unSuperF (zz 256)).2 ≠ 0 := by decide +kernel
  unfold chooseF
  rw [unS_app s Y hv hY, if_neg (fun h => hu h.2), if_pos (Or.inl ⟨rfl, hg⟩), if_pos zz_empty]
end Go.Proofs.Ytihkjfbhmlfonaa
