import Derived.Test.YtblcpcfonnaiiaaDoorD1w
import Derived.Test.YtblcpcfonnaiiaaDoorVa9
namespace Go.Proofs.YtblcpcfonnaiiaaDoor
set_option linter.unusedVariables false
set_option linter.unusedSimpArgs false
open Go.RowKit
attribute [local go_sem ↓] Go.wp_at_zero Go.wp_at_succ

/-- The length's bytes, the highest first. -/
def lenBy (L : Int) : List Int := [lb L 7, lb L 6, lb L 5, lb L 4, lb L 3, lb L 2, lb L 1, lb L 0]
/-- How many zeros come behind. -/
def zrs (m : List Int) : Nat := (119 - m.length % 64) % 64
def filledF (m : List Int) : List Int := m ++ [128] ++ List.replicate (zrs m) 0 ++ lenBy (lenBits m.length)
theorem lenBy_succ (L : Int) (n : Nat) (hn : n < 8) : (lenBy L).take (n + 1) = (lenBy L).take n ++ [L / 2 ^ (56 - 8 * n) % 256] := by
  have h : ∀ i : Nat, lb L i = L / 2 ^ (8 * i) % 256 := fun i => by
    rw [lb, IntKind.wrap_u8]; congr 2
  match n, hn with
  | 0, _ => simp [lenBy, h]
  | 1, _ => simp [lenBy, h]
  | 2, _ => simp [lenBy, h]
  | 3, _ => simp [lenBy, h]
  | 4, _ => simp [lenBy, h]
  | 5, _ => simp [lenBy, h]
  | 6, _ => simp [lenBy, h]
  | 7, _ => simp [lenBy, h]

set_option maxRecDepth 100000 in
set_option maxHeartbeats 1000000 in
theorem rfilled_any (w : World) (zs : List Int) (sp : Option Addr) (cap : Nat) (hS : Src w sp cap zs) (hnil : sp = none → cap = 0) (hlen : zs.length ≤ 140737488354000) (h0 : 0 < w.heap.size) :
    Calls Tryd.prog 47 #[.slice sp zs.length cap] w fun e w' => ∃ v, e = .returned v ∧ Own w' w.heap.size v (filledF zs) ∧ Below w.heap.size w w' := by
  have hO := Own.nil w w.heap.size
  have hln : ([] : List Int).length + zs.length ≤ 140737488355328 := by simp; omega
  have KL := hid hln
  clear hln
  go_enter Tryd.func47, Tryd.ntmps47
  have KL2 := hid (show ([] ++ zs).length + 1 ≤ 140737488355328 by simp; omega)
  go_wp2_with (first | (at_builtin; refine wpList_append_most rfl (.tmp 6) (.tmp 7) rfl w.heap.size (.slice none 0 0) [] zs rfl hO sp cap rfl hnil hS KL.out (Nat.le_refl _) ?_; intro v1 w1 hO1 hg1 _; have hB1 := grown_keeps hg1 (fun k hk => by simp [Value.ownBlock] at hk) (Nat.le_refl w.heap.size); clear hg1) | (at_builtin; refine wpList_push_any rfl (.tmp 9) (.tmp 10) rfl w.heap.size _ _ 128 rfl hO1 rfl KL2.out hB1.size _ _ ?_; intro v2 w2 hO2 hB2))
  rw [List.nil_append] at hO2
  have hB3 := hB1.trans hB2
  go_loopw [3] (fun v wr => ∃ n : Nat, n ≤ zrs zs ∧ Own wr w.heap.size v (zs ++ [128] ++ List.replicate n 0) ∧ Below w.heap.size w wr) (fun v _ => zrs zs + zs.length + 1 - slen v)
  case atStart => exact ⟨0, by omega, by rw [List.replicate_zero, List.append_nil]; exact hO2, hB3⟩
  case round =>
    clear hO1 hB1 hO2 hB2 hB3 KL KL2
    obtain ⟨n, hn, hOn, hBn⟩ := hrel
    have hl := hid (show (zs ++ [128] ++ List.replicate n 0).length = zs.length + 1 + n by simp; omega)
    have hz : zrs zs < 64 := Nat.mod_lt _ (by omega)
    have KL2 := hid (show (zs ++ [128] ++ List.replicate n 0).length + 1 ≤ 140737488355328 by rw [hl.out]; omega)
    obtain ⟨sp1, cap1, rfl, hS1, hn1⟩ := hOn.form
    by_cases hlt : n < zrs zs
    · have hne : ¬ (((zs ++ [128] ++ List.replicate n 0).length : Int) % 64 = 56) := by
        rw [hl.out]; unfold zrs at hlt; omega
      replace hne : (((zs ++ [128] ++ List.replicate n 0).length : Int) % 64 != 56) = true := by simpa using hne
      have HF := hid (show zs ++ [128] ++ List.replicate n 0 ++ [0] = zs ++ [128] ++ List.replicate (n + 1) 0 by rw [List.replicate_succ', ← List.append_assoc])
      generalize zs ++ [128] ++ List.replicate n 0 = fz at *
      go_wp2_with (first | (at_builtin; refine wpList_push_any rfl (.tmp 16) (.tmp 17) rfl w.heap.size _ _ 0 rfl hOn rfl KL2.out hBn.size _ _ ?_; intro v2 w2 hO2 hB2))
      go_roundw
      case rel => exact ⟨n + 1, by omega, (by rw [← HF.out]; exact hO2), hBn.trans hB2⟩
      case measure =>
        obtain ⟨sp2, cap2, rfl, _, _⟩ := hO2.form
        simp only [slen, List.length_append, hl.out, List.length_cons, List.length_nil]; omega
    · obtain rfl : n = zrs zs := by omega
      have hne : ((zs ++ [128] ++ List.replicate (zrs zs) 0).length : Int) % 64 = 56 := by
        rw [hl.out]; unfold zrs; omega
      have hL := lenBits_bd zs.length
      have HL := hid (show IntKind.u64.wrap ((zs.length : Int) * 8) = lenBits zs.length from rfl)
      have i1 : (zs.length : Int) ≤ 140737488354000 := by omega
      have KF := hid (show filledF zs = zs ++ [128] ++ List.replicate (zrs zs) 0 ++ lenBy (lenBits zs.length) from rfl)
      have hL2 := hid (show lenBits zs.length = (zs.length : Int) * 8 by rw [lenBits, IntKind.wrap_u64]; omega)
      generalize zs ++ [128] ++ List.replicate (zrs zs) 0 = fz at *
      generalize lenBits zs.length = L at *
      go_wp2
      go_loopw [3, 5] (fun v i wr => ∃ n : Nat, n ≤ 8 ∧ i = .int .i64 n ∧ Own wr w.heap.size v (fz ++ (lenBy L).take n) ∧ Below w.heap.size w wr) (fun _ i _ => 8 - (intOf i).toNat)
      case atStart => exact ⟨0, by omega, rfl, by rw [List.take_zero, List.append_nil]; exact hOn, hBn⟩
      case round =>
        clear hOn hBn hne
        obtain ⟨n, hn, rfl, hOn, hBn⟩ := hrel
        by_cases hlt : n < 8
        · have i1 : (n : Int) < 8 := by omega
          have KS := hid (lenBy_succ L n hlt)
          have KL3 := hid (show (fz ++ (lenBy L).take n).length + 1 ≤ 140737488355328 by rw [List.length_append, hl.out, List.length_take]; omega)
          go_wp2_with (first | (at_builtin; refine wpList_push_any rfl (.tmp 27) (.tmp 35) rfl w.heap.size _ _ _ rfl hOn rfl KL3.out hBn.size _ _ ?_; intro v2 w2 hO2 hB2))
          rw [← hL2.out, List.append_assoc, ← KS.out] at hO2
          go_roundw
          case rel => exact ⟨n + 1, by omega, by go_num, hO2, hBn.trans hB2⟩
          case measure => simp [intOf]; omega
        · obtain rfl : n = 8 := by omega
          clear hlt
          rw [show (lenBy L).take 8 = lenBy L from rfl, ← KF.out] at hOn
          go_wp2
          go_ret
          exact ⟨_, rfl, hOn, hBn⟩

theorem lenTo8 (A : List Int) (b0 b1 b2 b3 b4 b5 b6 b7 L : Int) (h : A.length = 56) : lenTo (A ++ [b0, b1, b2, b3, b4, b5, b6, b7]) L 8 = A ++ lenBy L := by
  simp [lenTo, lenBy, List.set_append_right, h]
theorem stOf_filled (m : List Int) : stOf (filledF m) = padS (stOf m) (padz (restOf m) 64) m.length := by
  have hr := restOf_len m
  have h64 : m.length % 64 < 64 := Nat.mod_lt _ (by omega)
  have et : ((m.length : Int) % 64).toNat = (restOf m).length := by rw [hr]; omega
  have es : (padz (restOf m) 64).set (restOf m).length 128 = restOf m ++ 128 :: List.replicate (63 - (restOf m).length) 0 := by
    rw [padz, List.set_append_right _ _ (Nat.le_refl _), Nat.sub_self, show 64 - (restOf m).length = (63 - (restOf m).length) + 1 by omega, List.replicate_succ, List.set_cons_zero]
  unfold padS
  rw [et, es]
  by_cases c : (m.length : Int) % 64 < 56
  · rw [if_pos c]
    have e1 : restOf m ++ 128 :: List.replicate (63 - (restOf m).length) 0 = (restOf m ++ 128 :: List.replicate (55 - (restOf m).length) 0) ++ [0, 0, 0, 0, 0, 0, 0, 0] := by
      rw [show 63 - (restOf m).length = (55 - (restOf m).length) + 8 by omega, ← List.replicate_append_replicate, List.append_assoc]; rfl
    rw [e1, lenTo8 _ _ _ _ _ _ _ _ _ _ (by simp; omega)]
    have e2 : filledF m = m ++ (128 :: List.replicate (55 - (restOf m).length) 0 ++ lenBy (lenBits m.length)) := by
      rw [filledF, show zrs m = 55 - (restOf m).length by unfold zrs; omega]; simp
    rw [e2, (text_full m _ (by simp [lenBy]; omega)).1, List.append_assoc]
  · rw [if_neg c]
    have e1 : z64 = List.replicate 56 0 ++ [0, 0, 0, 0, 0, 0, 0, 0] := rfl
    rw [e1, lenTo8 _ _ _ _ _ _ _ _ _ _ (by simp)]
    have e2 : filledF m = (m ++ 128 :: List.replicate (63 - (restOf m).length) 0) ++ (List.replicate 56 0 ++ lenBy (lenBits m.length)) := by
      rw [filledF, show zrs m = (63 - (restOf m).length) + 56 by unfold zrs; omega, ← List.replicate_append_replicate]; simp
    have t := text_full m (128 :: List.replicate (63 - (restOf m).length) 0) (by simp; omega)
    rw [e2, (text_full _ (List.replicate 56 0 ++ lenBy (lenBits m.length)) (by rw [t.2]; simp [lenBy])).1, t.1, t.2, List.nil_append]
theorem filledF_len (m : List Int) : (filledF m).length % 64 = 0 ∧ m.length + 9 ≤ (filledF m).length ∧ (filledF m).length ≤ m.length + 72 := by
  have : (filledF m).length = m.length + 1 + zrs m + 8 := by simp [filledF, lenBy]; omega
  rw [this]; unfold zrs; omega
end Go.Proofs.YtblcpcfonnaiiaaDoor
