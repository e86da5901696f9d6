import Derived.Test.YtaoongjdneaccaaDoorDc5
namespace Go.Proofs.YtaoongjdneaccaaDoor
set_option linter.unusedVariables false
set_option linter.unusedSimpArgs false
open Go.RowKit
attribute [local go_sem ↓] Go.wp_at_zero Go.wp_at_succ

theorem sbF_getS : ∀ (s m : Nat), m < 4 → (sbF s).getD m 0 = (s : Int) / (2 : Int) ^ (8 * m) % 256 := by
  intro s m hm
  match m, hm with
  | 0, _ => simp [sbF]
  | 1, _ => simp [sbF]
  | 2, _ => simp [sbF]
  | 3, _ => simp [sbF]
theorem take_snocD (l : List Int) (k : Nat) (h : k < l.length) : l.take (k + 1) = l.take k ++ [l.getD k 0] := by
  rw [List.take_succ_eq_append_getElem h, List.getD_eq_getElem?_getD, List.getElem?_eq_getElem h]; rfl
set_option maxRecDepth 100000 in
set_option maxHeartbeats 400000 in
theorem rseal_any (w : World) (hG : Gl w) (zs : List Int) (h8 : Byts zs) (sp : Option Addr) (cap : Nat) (hS : Src w sp cap zs) (hlen : zs.length ≤ 1048576) :
    Calls Tryd.prog 51 #[.slice sp zs.length cap] w fun e w' => ∃ v, e = .returned v ∧ Own w' w.heap.size v (sealF zs) ∧ Below w.heap.size w w' := by
  have i0 : (zs.length : Int) ≤ 1048576 := by omega
  go_enter Tryd.func51, Tryd.ntmps51
  go_wp2_with fail
  refine (rsum_any w hG zs h8 sp cap hS hlen).mono ?_
  rintro e w1 ⟨rfl, b1⟩
  obtain ⟨hc, hm, b, o, hb, hsp, hsrc⟩ := hS
  have hO : Own w1 w.heap.size (.slice none 0 0) [] := Own.nil _ _
  have hsl := hid (sbF_len (sumF zs))
  have HS := hid (show sealF zs = zs ++ sbF (sumF zs) from rfl)
  have hsg := hid (sbF_getS (sumF zs))
  go_wp2
  go_loopw [4, 5] (fun v i wr => ∃ k : Nat, k ≤ zs.length ∧ i = .int .i64 k ∧ Own wr w.heap.size v (zs.take k) ∧ Below w.heap.size w wr) (fun _ i _ => zs.length - (intOf i).toNat)
  case atStart => exact ⟨0, by omega, rfl, hO, b1⟩
  case round =>
    clear hO b1
    obtain ⟨k, hk, rfl, hO, hB⟩ := hrel
    by_cases hlt : k < zs.length
    · have i1 : (k : Int) < (zs.length : Int) := by omega
      obtain rfl := hsp (by omega)
      have c0 := (hB.cell (p := ⟨b, o + k, none⟩) (hb (by omega))).trans (hsrc k hlt)
      have HT := hid (take_snocD zs k hlt)
      have KL := hid (show (zs.take k).length + 1 ≤ 140737488355328 by rw [List.length_take]; omega)
      generalize zs.getD k 0 = x at *
      generalize zs.take k = zk at *
      go_wp2_with (first | (at_builtin; refine wpList_push_any rfl (.tmp 15) (.tmp 20) rfl w.heap.size _ _ x rfl hO rfl KL.out hB.size _ _ ?_; intro v2 w2 hO2 hB2))
      go_roundw
      case rel => exact ⟨k + 1, by omega, by go_num, (by rw [HT.out]; exact hO2), hB.trans hB2⟩
      case measure => simp [intOf]; omega
    · obtain rfl : k = zs.length := by omega
      clear hlt
      rw [List.take_length] at hO
      go_wp2
      go_loopw [4, 6] (fun v i wr => ∃ m : Nat, m ≤ 4 ∧ i = .int .i64 m ∧ Own wr w.heap.size v (zs ++ (sbF (sumF zs)).take m) ∧ Below w.heap.size w wr) (fun _ i _ => 4 - (intOf i).toNat)
      case atStart => exact ⟨0, by omega, rfl, by rw [List.take_zero, List.append_nil]; exact hO, hB⟩
      case round =>
        clear hO hB
        obtain ⟨m, hm4, rfl, hO, hB⟩ := hrel
        by_cases hlt : m < 4
        · have j1 : (m : Int) < 4 := by omega
          obtain ⟨z, hz⟩ : ∃ z, z = (sbF (sumF zs)).getD m 0 := ⟨_, rfl⟩
          have e1 : ((sumF zs : Nat) : Int) / (2 : Int) ^ (8 * m) % 256 = z := by rw [hz, hsg.out m hlt]
          have HT := hid (show zs ++ (sbF (sumF zs)).take (m + 1) = zs ++ (sbF (sumF zs)).take m ++ [z] by rw [take_snocD _ m (by rw [hsl.out]; exact hlt), ← hz, List.append_assoc])
          have KL := hid (show (zs ++ (sbF (sumF zs)).take m).length + 1 ≤ 140737488355328 by rw [List.length_append, List.length_take]; omega)
          clear hz
          generalize zs ++ (sbF (sumF zs)).take m = tb at *
          go_wp2_with (first | (at_builtin; refine wpList_push_any rfl (.tmp 26) (.tmp 33) rfl w.heap.size _ _ z rfl hO rfl KL.out hB.size _ _ ?_; intro v2 w2 hO2 hB2))
          go_roundw
          case rel => exact ⟨m + 1, by omega, by go_num, (by rw [HT.out]; exact hO2), hB.trans hB2⟩
          case measure => simp [intOf]; omega
        · obtain rfl : m = 4 := by omega
          clear hlt
          rw [List.take_of_length_le (by rw [hsl.out]; exact Nat.le_refl _), ← HS.out] at hO
          go_wp2
          go_ret
          exact ⟨_, rfl, hO, hB⟩
end Go.Proofs.YtaoongjdneaccaaDoor
