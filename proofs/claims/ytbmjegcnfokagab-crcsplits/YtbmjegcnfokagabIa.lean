import Derived.Test.YtbmjegcnfokagabHb
import Derived.Test.YtbmjegcnfokagabFd
namespace Go.Proofs.Ytbmjegcnfokagab
set_option linter.unusedVariables false
set_option linter.unusedSimpArgs false
open Go.RowKit
attribute [local go_sem ↓] Go.wp_at_zero Go.wp_at_succ

set_option maxRecDepth 100000 in
set_option maxHeartbeats 400000 in
theorem splits_in (w : World) (zs : List Int) (hb8 : Byts zs) (sp : Option Addr) (cap : Nat) (hS : Src w sp cap zs) (hlen : zs.length ≤ 140737488355000) (k : Nat) (hk : k ≤ zs.length) :
    Calls Try.prog 4 #[.slice sp zs.length cap, .int .i64 k] w fun e w' => e = .returned (.bool true) ∧ Below w.heap.size w w' := by
  have i0 : (zs.length : Int) ≤ 140737488355000 := by omega
  have i1 : (k : Int) ≤ (zs.length : Int) := by omega
  go_enter Try.func4, Try.ntmps4
  go_wp2_with fail
  refine (copied_any w zs sp cap hS hlen).mono ?_
  rintro e w1 ⟨v, rfl, hO1, b1⟩
  obtain ⟨tp, tc, rfl, hT, hTn⟩ := hO1.form
  go_wp2_with fail
  refine (short_any w1 zs tp tc hT hlen k).mono ?_
  rintro e w2 ⟨v, rfl, hO2, b2⟩
  have hT2 := hT.below b2 (Nat.le_refl _)
  obtain ⟨xp, xc, rfl, hX, hXn⟩ := hO2.form
  rw [Int.toNat_natCast] at hX ⊢
  have B2 := b1.trans (b2.mono b1.size)
  clear hO1 hO2 hT b1 b2
  have hYa : ∀ (_ : tc = k), Src w2 tp 0 (zs.drop k) := fun h => hT2.tail0 h
  have hYb := hT2.tail hk
  have HL := hid (show zs.length - k = (zs.drop k).length by rw [List.length_drop])
  have hj0 : ¬ (k : Int) < 0 := by omega
  have HYa := hid hYa
  have HYb := hid hYb
  have hlen2 : (zs.drop k).length ≤ 140737488355000 := by rw [List.length_drop]; omega
  have hkl : (zs.take k).length = k := by rw [List.length_take]; omega
  have HJ := hid (joinF_sums (zs.take k) (zs.drop k))
  have HU := hid (show updF (sumF (zs.take k)) (zs.drop k) = sumF zs by
    have := updF_append 0 (zs.take k) (zs.drop k)
    rw [List.take_append_drop] at this
    exact this.symm)
  rw [List.take_append_drop] at HJ
  have h8x := hb8.take k
  have h8y := hb8.drop k
  have HS0 := hid (show updF 0 zs = sumF zs from rfl)
  clear hYa hYb
  have lx := sumF_lt h8x
  have ly := sumF_lt h8y
  have lz := sumF_lt hb8
  have hkl' := hid hkl
  replace hX : Src w2 xp xc (zs.take k) := hX
  generalize zs.drop k = ys at *
  generalize zs.take k = xs at *
  clear hkl
  go_wp2_with fail
  all_goals (try subst_vars)
  all_goals rw [HL.out]
  all_goals first | refine (copied_any w2 ys _ _ HYb.out hlen2).mono ?_ | refine (copied_any w2 ys _ _ (HYa.out (by assumption)) hlen2).mono ?_ | refine (copied_any w2 ys _ _ (HYa.out rfl) hlen2).mono ?_
  all_goals rintro e w3 ⟨v, rfl, hO3, b3⟩
  all_goals have B3 := B2.trans (b3.mono B2.size)
  all_goals obtain ⟨yp, yc, rfl, hY, hYn⟩ := hO3.form
  all_goals have hX3 := hX.below b3 (Nat.le_refl _)
  all_goals have hT3 := hT2.below b3 (Nat.le_refl _)
  all_goals clear hO3 b3 HYa HYb hT2 hX hTn hXn hYn
  all_goals go_wp2_with fail
  all_goals refine (sum_any w3 zs hb8 tp _ hT3).mono ?_
  all_goals rintro e w4 ⟨rfl, b4⟩
  all_goals have B4 := B3.trans (b4.mono B3.size)
  all_goals have hX4 := hX3.below b4 (Nat.le_refl _)
  all_goals have hT4 := hT3.below b4 (Nat.le_refl _)
  all_goals have hY4 := hY.below b4 (Nat.le_refl _)
  all_goals clear b4 hX3 hT3 hY B3
  all_goals go_wp2_with fail
  all_goals refine (sum_any w4 xs h8x xp _ hX4).mono ?_
  all_goals rintro e w5 ⟨rfl, b5⟩
  all_goals have B5 := B4.trans (b5.mono B4.size)
  all_goals have hT5 := hT4.below b5 (Nat.le_refl _)
  all_goals have hY5 := hY4.below b5 (Nat.le_refl _)
  all_goals clear b5 hX4 hT4 hY4 B4
  all_goals go_wp2_with fail
  all_goals refine (sum_any w5 ys h8y yp _ hY5).mono ?_
  all_goals rintro e w6 ⟨rfl, b6⟩
  all_goals have B6 := B5.trans (b6.mono B5.size)
  all_goals have hT6 := hT5.below b6 (Nat.le_refl _)
  all_goals have hY6 := hY5.below b6 (Nat.le_refl _)
  all_goals clear b6 hT5 hY5 B5
  all_goals go_wp2_with fail
  all_goals refine (known_any w6).mono ?_
  all_goals rintro e w7 ⟨rfl, b7⟩
  all_goals have B7 := B6.trans (b7.mono B6.size)
  all_goals have hT7 := hT6.below b7 (Nat.le_refl _)
  all_goals have hY7 := hY6.below b7 (Nat.le_refl _)
  all_goals clear b7 hT6 hY6 B6
  all_goals go_wp2_with fail
  all_goals refine (upd_any w7 _ lx ys h8y yp _ hY7).mono ?_
  all_goals rintro e w8 ⟨rfl, b8⟩
  all_goals have B8 := B7.trans (b8.mono B7.size)
  all_goals have hT8 := hT7.below b8 (Nat.le_refl _)
  all_goals clear b8 hT7 hY7 B7
  all_goals rw [HU.out]
  all_goals go_wp2_with fail
  all_goals refine (join_any w8 _ _ ys.length lx ly (by omega)).mono ?_
  all_goals rintro e w9 ⟨rfl, b9⟩
  all_goals have B9 := B8.trans (b9.mono B8.size)
  all_goals have hT9 := hT8.below b9 (Nat.le_refl _)
  all_goals clear b9 hT8 B8
  all_goals rw [HJ.out]
  all_goals go_wp2_with fail
  all_goals refine (upd_any w9 0 (by decide) zs hb8 tp _ hT9).mono ?_
  all_goals rintro e w10 ⟨rfl, b10⟩
  all_goals have B10 := B9.trans (b10.mono B9.size)
  all_goals rw [HS0.out]
  all_goals go_wp2
  all_goals go_ret
  all_goals exact ⟨rfl, B10⟩
end Go.Proofs.Ytbmjegcnfokagab
