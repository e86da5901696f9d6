import Derived.Test.YtbnghhgeoodphaaGreatDoorN5
import Derived.Test.YtbnghhgeoodphaaGreatDoorMd6
namespace Go.Proofs.YtbnghhgeoodphaaGreatDoor
set_option maxRecDepth 100000
set_option maxHeartbeats 40000000
set_option linter.unusedVariables false
set_option linter.unusedSimpArgs false
open Go.RowKit
attribute [local go_sem ↓] Go.wp_at_zero Go.wp_at_succ
def Good (s o : Sup) (L0 L1 : List Int) : Prop := validS s = true /\ validS o = true /\ Fol s o /\ ∃ Y Z : List Int, Y.length = 192 /\ Z.length = 192 /\ Byts Y /\ Byts Z /\ ((s.ge % 2 = 0 /\ L0 = secS s ++ Y /\ L1 = secS o ++ Z) \/ (s.ge % 2 = 1 /\ L0 = secS o ++ Y /\ L1 = secS s ++ Z))
theorem Good.choose {s o : Sup} {L0 L1 : List Int} (h : Good s o L0 L1) : chooseF L0 L1 = (s, 0) /\ Byts L0 /\ Byts L1 /\ L0.length = 256 /\ L1.length = 256 := by
 obtain ⟨hv, ho, hf, Y, Z, hY, hZ, y8, z8, h | h⟩ := h
 · obtain ⟨hp, rfl, rfl⟩ := h
   have hb := (validS_iff s).1 hv
   refine ⟨choose_odd o s Y Z hY hZ ho hv hf (by rw [Int.tmod_eq_emod_of_nonneg (by omega)]; exact hp), byts_app (secS_byts s hv) y8, byts_app (secS_byts o ho) z8, by rw [List.length_append, secS_len, hY], by rw [List.length_append, secS_len, hZ]⟩
 · obtain ⟨hp, rfl, rfl⟩ := h
   have hb := (validS_iff o).1 ho
   have h1 := hf.1
   refine ⟨choose_even o s Y Z hY hZ ho hv hf (by rw [Int.tmod_eq_emod_of_nonneg (by omega)]; omega), byts_app (secS_byts o ho) y8, byts_app (secS_byts s hv) z8, by rw [List.length_append, secS_len, hY], by rw [List.length_append, secS_len, hZ]⟩
end Go.Proofs.YtbnghhgeoodphaaGreatDoor
