import Derived.Test.YtjlakgojbfglhaaFb
namespace Go.Proofs.Ytjlakgojbfglhaa
set_option linter.unusedVariables false
set_option linter.unusedSimpArgs false
open Go.RowKit
attribute [local go_sem ↓] Go.wp_at_zero Go.wp_at_succ

set_option maxRecDepth 100000 in
set_option maxHeartbeats 400000 in
theorem copied_any (w : World) (zs : List Int) (sp : Option Addr) (cap : Nat) (hS : Src w sp cap zs) (hlen : zs.length ≤ 140737488355000) :
    Calls Try.prog 24 #[.slice sp zs.length cap] w fun e w' => ∃ v, e = .returned v ∧ Own w' w.heap.size v zs ∧ Below w.heap.size w w' := by
  obtain ⟨hc, hm, b, o, hb, hsp, hsrc⟩ := hS
  have hO := Own.nil w w.heap.size
  have i0 : (zs.length : Int) ≤ 140737488355000 := by omega
  go_enter Try.func24, Try.ntmps24
  go_wp2
  go_loopw [3, 4] (fun v i wr => ∃ k : Nat, k ≤ zs.length ∧ i = .int .i64 k ∧ Own wr w.heap.size v (zs.take k) ∧ Below w.heap.size w wr) (fun _ i _ => zs.length - (intOf i).toNat)
  case atStart => exact ⟨0, by omega, rfl, hO, Below.refl _ _⟩
  case round =>
    clear hO
    obtain ⟨k, hk, rfl, hO, hB⟩ := hrel
    by_cases hlt : k < zs.length
    · have i1 : (k : Int) < (zs.length : Int) := by omega
      obtain rfl := hsp (by omega)
      have c0 := (hB.cell (p := ⟨b, o + k, none⟩) (hb (by omega))).trans (hsrc k hlt)
      have HT := hid (show zs.take (k + 1) = zs.take k ++ [zs.getD k 0] by
        rw [List.take_succ_eq_append_getElem hlt, List.getD_eq_getElem?_getD, List.getElem?_eq_getElem hlt]; rfl)
      have KL := hid (show (zs.take k).length + 1 ≤ 140737488355328 by rw [List.length_take]; omega)
      generalize zs.getD k 0 = x at *
      generalize zs.take k = zk at *
      go_wp2_with (first | (at_builtin; refine wpList_push_any rfl (.tmp 11) (.tmp 16) rfl w.heap.size _ _ x rfl hO rfl KL.out hB.size _ _ ?_; intro v2 w2 hO2 hB2))
      go_roundw
      case rel => exact ⟨k + 1, by omega, by go_num, (by rw [HT.out]; exact hO2), hB.trans hB2⟩
      case measure => simp [intOf]; omega
    · obtain rfl : k = zs.length := by omega
      have HT := hid (show zs.take zs.length = zs by rw [List.take_length])
      clear hlt
      go_wp2
      go_ret
      exact ⟨_, rfl, (by rw [← HT.out]; exact hO), hB⟩
end Go.Proofs.Ytjlakgojbfglhaa
