import Derived.Test.YtenfklcgkfaajaaDk43
namespace Go.Proofs.Ytenfklcgkfaajaa
set_option linter.unusedVariables false
set_option linter.unusedSimpArgs false
open Go.RowKit
attribute [local go_sem ↓] Go.wp_at_zero Go.wp_at_succ

set_option maxRecDepth 100000 in
set_option maxHeartbeats 800000 in
theorem long_e (w : World) (k : List Int) (d : Bool) (s : Option Addr) (n p : Nat) (hk : k.length = 32) (hn : n ≤ 128) :
    Calls Try.prog 56 #[.agg (elC false k d (.slice s n p)).toArray] w fun e w' => e = .returned (.bool false) ∧ Below w.heap.size w w' := by
  have hb1 := hid ((Below.refl w.heap.size w).alloc (Nat.le_refl _) (.cells (elC false k d (.slice s n p)).toArray 52))
  have i1 : (n : Int) ≤ 128 := by omega
  obtain ⟨_, c1⟩ := el_false (rng (hnew w (.cells (elC false k d (.slice s n p)).toArray 52))) hk
  rw [Nat.zero_add] at c1
  go_enter Try.func56, Try.ntmps56
  go_wp2
  go_ret
  exact ⟨by show Ending.returned (Value.bool (decide (128 < (n : Int)))) = _; rw [decide_eq_false (by omega)], hb1.out⟩
set_option maxRecDepth 100000 in
set_option maxHeartbeats 800000 in
theorem long_c (w : World) (k : List Int) (d : Bool) (s : Option Addr) (n p : Nat) (hk : k.length = 32) (hn : d = true ∨ n ≤ 128) :
    Calls Try.prog 58 #[.agg (elC true k d (.slice s n p)).toArray] w fun e w' => e = .returned (.bool false) ∧ Below w.heap.size w w' := by
  have hb1 := hid ((Below.refl w.heap.size w).alloc (Nat.le_refl _) (.cells (elC true k d (.slice s n p)).toArray 54))
  obtain ⟨_, c1, c2⟩ := el_true (rng (hnew w (.cells (elC true k d (.slice s n p)).toArray 54))) hk
  rw [Nat.zero_add] at c1 c2
  cases d with
  | true =>
    clear hn
    go_enter Try.func58, Try.ntmps58
    go_wp2
    go_ret
    exact ⟨rfl, hb1.out⟩
  | false =>
    have i1 : (n : Int) ≤ 128 := hn.elim (fun h => by cases h) (fun h => by omega)
    clear hn
    go_enter Try.func58, Try.ntmps58
    go_wp2
    go_ret
    exact ⟨by show Ending.returned (Value.bool (decide (128 < (n : Int)))) = _; rw [decide_eq_false (by omega)], hb1.out⟩
set_option maxRecDepth 100000 in
set_option maxHeartbeats 2000000 in
theorem indexE_none (w0 w : World) (xs : List Cg) (sp : Option Addr) (cap : Nat) (hI : ElI false w0 sp cap xs) (h0 : Below w0.heap.size w0 w) (hF : lsF false xs = true) :
    Calls Try.prog 70 #[.slice sp xs.length cap, .func (.func 56) #[] #[]] w fun e w' => e = .returned (.int .i64 (-1)) ∧ Below w.heap.size w w' := by
  have hln : xs.length ≤ 4096 := by unfold lsF at hF; simp at hF; omega
  have hfa : ∀ x ∈ xs, elF false x = true := by unfold lsF at hF; simp at hF; exact fun x hx => hF.2 x hx
  obtain ⟨nl, _, _, b, o, hbo, hel⟩ := hI
  have i0 : (xs.length : Int) ≤ 4096 := by omega
  go_enter Try.func70, Try.ntmps70
  go_wp2
  go_loopw [8] (fun i wr => ∃ k : Nat, k ≤ xs.length ∧ i = .int .i64 k ∧ Below w.heap.size w wr) (fun i _ => xs.length - (intOf i).toNat)
  case atStart => exact ⟨0, Nat.zero_le _, rfl, Below.refl _ _⟩
  case round =>
    obtain ⟨k, hk, rfl, hBr⟩ := hrel
    by_cases hlt' : k < xs.length
    · have i1 : (k : Int) < (xs.length : Int) := by omega
      obtain ⟨rfl, hbl⟩ := hbo (by omega)
      obtain ⟨s, p, rg, kl, Sv, nv⟩ := hel k hlt'
      have hfx := hfa _ (getD_mem (d := dX) hlt')
      have rgr := hid (rng_below rg (h0.trans (hBr.mono h0.size)) hbl)
      have SE := hid (show (Try.prog.info? 52).map (·.size) = some (elC false (xs.getD k dX).key (xs.getD k dX).del (.slice s (xs.getD k dX).val.length p)).length by rw [elC_len kl]; exact Try.sizeEnt)
      have KF := hid (long_e wr (xs.getD k dX).key (xs.getD k dX).del s (xs.getD k dX).val.length p kl (by unfold elF at hfx; simpa using hfx))
      generalize xs.getD k dX = x at *
      clear rg
      go_wp2_with (first
        | (refine wpList_load_mid rfl 52 _ rfl b (o + k * 33) rfl (elC false x.key x.del (.slice s x.val.length p)) _ rgr.out Try.underlying52 rfl SE.out ?_))
      refine KF.out.mono ?_
      rintro e w2 ⟨rfl, hB2⟩
      clear KF SE rgr
      go_wp2
      go_roundw
      case rel => exact ⟨k + 1, by omega, by go_num, hBr.trans (hB2.mono hBr.size)⟩
      case measure => simp [intOf]; omega
    · obtain rfl : k = xs.length := by omega
      clear hlt'
      go_wp2
      go_ret
      exact ⟨rfl, hBr⟩
set_option maxRecDepth 100000 in
set_option maxHeartbeats 800000 in
theorem containsE_none (w0 w : World) (xs : List Cg) (sp : Option Addr) (cap : Nat) (hI : ElI false w0 sp cap xs) (h0 : Below w0.heap.size w0 w) (hF : lsF false xs = true) :
    Calls Try.prog 57 #[.slice sp xs.length cap, .func (.func 56) #[] #[]] w fun e w' => e = .returned (.bool false) ∧ Below w.heap.size w w' := by
  have KF := hid (indexE_none w0 w xs sp cap hI h0 hF)
  go_enter Try.func57, Try.ntmps57
  go_wp2_with fail
  refine KF.out.mono ?_
  rintro e w2 ⟨rfl, hB2⟩
  clear KF
  go_wp2
  go_ret
  exact ⟨rfl, hB2⟩
set_option maxRecDepth 100000 in
set_option maxHeartbeats 2000000 in
theorem indexC_none (w0 w : World) (xs : List Cg) (sp : Option Addr) (cap : Nat) (hI : ElI true w0 sp cap xs) (h0 : Below w0.heap.size w0 w) (hF : lsF true xs = true) :
    Calls Try.prog 71 #[.slice sp xs.length cap, .func (.func 58) #[] #[]] w fun e w' => e = .returned (.int .i64 (-1)) ∧ Below w.heap.size w w' := by
  have hln : xs.length ≤ 4096 := by unfold lsF at hF; simp at hF; omega
  have hfa : ∀ x ∈ xs, elF true x = true := by unfold lsF at hF; simp at hF; exact fun x hx => hF.2 x hx
  obtain ⟨nl, _, _, b, o, hbo, hel⟩ := hI
  have i0 : (xs.length : Int) ≤ 4096 := by omega
  go_enter Try.func71, Try.ntmps71
  go_wp2
  go_loopw [8] (fun i wr => ∃ k : Nat, k ≤ xs.length ∧ i = .int .i64 k ∧ Below w.heap.size w wr) (fun i _ => xs.length - (intOf i).toNat)
  case atStart => exact ⟨0, Nat.zero_le _, rfl, Below.refl _ _⟩
  case round =>
    obtain ⟨k, hk, rfl, hBr⟩ := hrel
    by_cases hlt' : k < xs.length
    · have i1 : (k : Int) < (xs.length : Int) := by omega
      obtain ⟨rfl, hbl⟩ := hbo (by omega)
      obtain ⟨s, p, rg, kl, Sv, nv⟩ := hel k hlt'
      have hfx := hfa _ (getD_mem (d := dX) hlt')
      have rgr := hid (rng_below rg (h0.trans (hBr.mono h0.size)) hbl)
      have SE := hid (show (Try.prog.info? 54).map (·.size) = some (elC true (xs.getD k dX).key (xs.getD k dX).del (.slice s (xs.getD k dX).val.length p)).length by rw [elC_len kl]; exact Try.sizeChg)
      have KF := hid (long_c wr (xs.getD k dX).key (xs.getD k dX).del s (xs.getD k dX).val.length p kl (by unfold elF at hfx; simpa using hfx))
      generalize xs.getD k dX = x at *
      clear rg
      go_wp2_with (first
        | (refine wpList_load_mid rfl 54 _ rfl b (o + k * 34) rfl (elC true x.key x.del (.slice s x.val.length p)) _ rgr.out Try.underlying54 rfl SE.out ?_))
      refine KF.out.mono ?_
      rintro e w2 ⟨rfl, hB2⟩
      clear KF SE rgr
      go_wp2
      go_roundw
      case rel => exact ⟨k + 1, by omega, by go_num, hBr.trans (hB2.mono hBr.size)⟩
      case measure => simp [intOf]; omega
    · obtain rfl : k = xs.length := by omega
      clear hlt'
      go_wp2
      go_ret
      exact ⟨rfl, hBr⟩
set_option maxRecDepth 100000 in
set_option maxHeartbeats 800000 in
theorem containsC_none (w0 w : World) (xs : List Cg) (sp : Option Addr) (cap : Nat) (hI : ElI true w0 sp cap xs) (h0 : Below w0.heap.size w0 w) (hF : lsF true xs = true) :
    Calls Try.prog 59 #[.slice sp xs.length cap, .func (.func 58) #[] #[]] w fun e w' => e = .returned (.bool false) ∧ Below w.heap.size w w' := by
  have KF := hid (indexC_none w0 w xs sp cap hI h0 hF)
  go_enter Try.func59, Try.ntmps59
  go_wp2_with fail
  refine KF.out.mono ?_
  rintro e w2 ⟨rfl, hB2⟩
  clear KF
  go_wp2
  go_ret
  exact ⟨rfl, hB2⟩
end Go.Proofs.Ytenfklcgkfaajaa
