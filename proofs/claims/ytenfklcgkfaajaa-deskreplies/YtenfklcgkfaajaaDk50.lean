import Derived.Test.YtenfklcgkfaajaaDk46
namespace Go.Proofs.Ytenfklcgkfaajaa
set_option linter.unusedVariables false
set_option linter.unusedSimpArgs false
open Go.RowKit
attribute [local go_sem ↓] Go.wp_at_zero Go.wp_at_succ

set_option maxRecDepth 100000 in
set_option maxHeartbeats 800000 in
theorem long_e_any (w : World) (k : List Int) (d : Bool) (s : Option Addr) (n p : Nat) (hk : k.length = 32) (hn : n ≤ maxLen) :
    Calls Try.prog 56 #[.agg (elC false k d (.slice s n p)).toArray] w fun e w' => e = .returned (.bool (decide (128 < (n : Int)))) ∧ Below w.heap.size w w' := by
  have hb1 := hid ((Below.refl w.heap.size w).alloc (Nat.le_refl _) (.cells (elC false k d (.slice s n p)).toArray 52))
  obtain ⟨_, c1⟩ := el_false (rng (hnew w (.cells (elC false k d (.slice s n p)).toArray 52))) hk
  rw [Nat.zero_add] at c1
  clear hn
  go_enter Try.func56, Try.ntmps56
  go_wp2
  go_ret
  exact ⟨rfl, hb1.out⟩
set_option maxRecDepth 100000 in
set_option maxHeartbeats 800000 in
theorem long_c_any (w : World) (k : List Int) (d : Bool) (s : Option Addr) (n p : Nat) (hk : k.length = 32) (hn : n ≤ maxLen) :
    Calls Try.prog 58 #[.agg (elC true k d (.slice s n p)).toArray] w fun e w' => e = .returned (.bool (!d && decide (128 < (n : Int)))) ∧ Below w.heap.size w w' := by
  have hb1 := hid ((Below.refl w.heap.size w).alloc (Nat.le_refl _) (.cells (elC true k d (.slice s n p)).toArray 54))
  obtain ⟨_, c1, c2⟩ := el_true (rng (hnew w (.cells (elC true k d (.slice s n p)).toArray 54))) hk
  rw [Nat.zero_add] at c1 c2
  clear hn
  cases d with
  | true =>
    go_enter Try.func58, Try.ntmps58
    go_wp2
    go_ret
    exact ⟨rfl, hb1.out⟩
  | false =>
    go_enter Try.func58, Try.ntmps58
    go_wp2
    go_ret
    exact ⟨rfl, hb1.out⟩
theorem lg_e (x : Cg) : decide (128 < (x.val.length : Int)) = !elF false x := by
  unfold elF
  rw [Bool.eq_iff_iff]; simp; omega
theorem lg_c (x : Cg) : (!x.del && decide (128 < (x.val.length : Int))) = !elF true x := by
  unfold elF
  cases x.del <;> (rw [Bool.eq_iff_iff]; simp; try omega)
set_option maxRecDepth 100000 in
set_option maxHeartbeats 2000000 in
theorem indexE_any (w0 w : World) (xs : List Cg) (sp : Option Addr) (cap : Nat) (hI : ElI false w0 sp cap xs) (h0 : Below w0.heap.size w0 w) (hln : xs.length ≤ 4096) :
    Calls Try.prog 70 #[.slice sp xs.length cap, .func (.func 56) #[] #[]] w fun e w' => (∃ j : Int, e = .returned (.int .i64 j) ∧ (0 ≤ j) = (xs.all (elF false) = false) ∧ -1 ≤ j ∧ j ≤ 4096) ∧ Below w.heap.size w w' := by
  obtain ⟨nl, _, _, b, o, hbo, hel⟩ := hI
  have i0 : (xs.length : Int) ≤ 4096 := by omega
  go_enter Try.func70, Try.ntmps70
  go_wp2
  go_loopw [8] (fun i wr => ∃ k : Nat, k ≤ xs.length ∧ i = .int .i64 k ∧ Hid (∀ m, m < k → elF false (xs.getD m dX) = true) ∧ Below w.heap.size w wr) (fun i _ => xs.length - (intOf i).toNat)
  case atStart => exact ⟨0, Nat.zero_le _, rfl, hid (fun m hm => by omega), Below.refl _ _⟩
  case round =>
    obtain ⟨k, hk, rfl, hA, hBr⟩ := hrel
    by_cases hlt' : k < xs.length
    · have i1 : (k : Int) < (xs.length : Int) := by omega
      obtain ⟨rfl, hbl⟩ := hbo (by omega)
      obtain ⟨s, p, rg, kl, Sv, nv⟩ := hel k hlt'
      have rgr := hid (rng_below rg (h0.trans (hBr.mono h0.size)) hbl)
      have SE := hid (show (Try.prog.info? 52).map (·.size) = some (elC false (xs.getD k dX).key (xs.getD k dX).del (.slice s (xs.getD k dX).val.length p)).length by rw [elC_len kl]; exact Try.sizeEnt)
      have KF := hid (long_e_any wr (xs.getD k dX).key (xs.getD k dX).del s (xs.getD k dX).val.length p kl (by have h1 := Sv.1; have h2 := Sv.2.1; omega))
      rw [lg_e] at KF
      have HX := hid (show xs.getD k dX = xs.getD k dX from rfl)
      generalize hx : xs.getD k dX = x at KF SE rgr
      replace hx := hid hx
      clear rg HX kl Sv nv
      cases hf : elF false x with
      | true =>
        rw [hf] at KF
        replace hf := hid hf
        go_wp2_with (first
          | (refine wpList_load_mid rfl 52 _ rfl b (o + k * 33) rfl (elC false x.key x.del (.slice s x.val.length p)) _ rgr.out Try.underlying52 rfl SE.out ?_))
        refine KF.out.mono ?_
        rintro e w2 ⟨rfl, hB2⟩
        clear KF SE rgr
        go_wp2
        go_roundw
        case rel => exact ⟨k + 1, by omega, by go_num, hid (fun m hm => by rcases Nat.lt_or_ge m k with h | h; exact hA.out m h; obtain rfl : m = k := (by omega); rw [hx.out]; exact hf.out), hBr.trans (hB2.mono hBr.size)⟩
        case measure => simp [intOf]; omega
      | false =>
        rw [hf] at KF
        replace hf := hid hf
        go_wp2_with (first
          | (refine wpList_load_mid rfl 52 _ rfl b (o + k * 33) rfl (elC false x.key x.del (.slice s x.val.length p)) _ rgr.out Try.underlying52 rfl SE.out ?_))
        refine KF.out.mono ?_
        rintro e w2 ⟨rfl, hB2⟩
        clear KF SE rgr
        go_wp2
        go_ret
        refine ⟨⟨_, rfl, ?_, by omega, by omega⟩, hBr.trans (hB2.mono hBr.size)⟩
        refine propext ⟨fun _ => ?_, fun _ => by omega⟩
        rw [List.all_eq_false]
        exact ⟨_, getD_mem (d := dX) hlt', by rw [hx.out, hf.out]; simp⟩
    · obtain rfl : k = xs.length := by omega
      clear hlt'
      go_wp2
      go_ret
      refine ⟨⟨_, rfl, ?_, by omega, by omega⟩, hBr⟩
      refine propext ⟨fun h => by omega, fun h => ?_⟩
      obtain ⟨x, hx, hn⟩ := List.all_eq_false.1 h
      obtain ⟨i, hi, rfl⟩ := List.mem_iff_getElem.1 hx
      have := hA.out i hi
      rw [List.getD_eq_getElem?_getD, List.getElem?_eq_getElem hi] at this
      exact absurd this hn
set_option maxRecDepth 100000 in
set_option maxHeartbeats 800000 in
theorem containsE_any (w0 w : World) (xs : List Cg) (sp : Option Addr) (cap : Nat) (hI : ElI false w0 sp cap xs) (h0 : Below w0.heap.size w0 w) (hln : xs.length ≤ 4096) :
    Calls Try.prog 57 #[.slice sp xs.length cap, .func (.func 56) #[] #[]] w fun e w' => e = .returned (.bool (!xs.all (elF false))) ∧ Below w.heap.size w w' := by
  have KF := hid (indexE_any w0 w xs sp cap hI h0 hln)
  go_enter Try.func57, Try.ntmps57
  go_wp2_with fail
  refine KF.out.mono ?_
  rintro e w2 ⟨⟨j, rfl, hj, j0, j1⟩, hB2⟩
  have HJ := hid (show decide (0 ≤ j) = !xs.all (elF false) by rw [Bool.eq_iff_iff, decide_eq_true_eq, hj]; simp)
  clear KF hj
  go_wp2
  go_ret
  refine ⟨?_, hB2⟩
  rw [← HJ.out]
  rfl
set_option maxRecDepth 100000 in
set_option maxHeartbeats 2000000 in
theorem indexC_any (w0 w : World) (xs : List Cg) (sp : Option Addr) (cap : Nat) (hI : ElI true w0 sp cap xs) (h0 : Below w0.heap.size w0 w) (hln : xs.length ≤ 4096) :
    Calls Try.prog 71 #[.slice sp xs.length cap, .func (.func 58) #[] #[]] w fun e w' => (∃ j : Int, e = .returned (.int .i64 j) ∧ (0 ≤ j) = (xs.all (elF true) = false) ∧ -1 ≤ j ∧ j ≤ 4096) ∧ Below w.heap.size w w' := by
  obtain ⟨nl, _, _, b, o, hbo, hel⟩ := hI
  have i0 : (xs.length : Int) ≤ 4096 := by omega
  go_enter Try.func71, Try.ntmps71
  go_wp2
  go_loopw [8] (fun i wr => ∃ k : Nat, k ≤ xs.length ∧ i = .int .i64 k ∧ Hid (∀ m, m < k → elF true (xs.getD m dX) = true) ∧ Below w.heap.size w wr) (fun i _ => xs.length - (intOf i).toNat)
  case atStart => exact ⟨0, Nat.zero_le _, rfl, hid (fun m hm => by omega), Below.refl _ _⟩
  case round =>
    obtain ⟨k, hk, rfl, hA, hBr⟩ := hrel
    by_cases hlt' : k < xs.length
    · have i1 : (k : Int) < (xs.length : Int) := by omega
      obtain ⟨rfl, hbl⟩ := hbo (by omega)
      obtain ⟨s, p, rg, kl, Sv, nv⟩ := hel k hlt'
      have rgr := hid (rng_below rg (h0.trans (hBr.mono h0.size)) hbl)
      have SE := hid (show (Try.prog.info? 54).map (·.size) = some (elC true (xs.getD k dX).key (xs.getD k dX).del (.slice s (xs.getD k dX).val.length p)).length by rw [elC_len kl]; exact Try.sizeChg)
      have KF := hid (long_c_any wr (xs.getD k dX).key (xs.getD k dX).del s (xs.getD k dX).val.length p kl (by have h1 := Sv.1; have h2 := Sv.2.1; omega))
      rw [lg_c] at KF
      have HX := hid (show xs.getD k dX = xs.getD k dX from rfl)
      generalize hx : xs.getD k dX = x at KF SE rgr
      replace hx := hid hx
      clear rg HX kl Sv nv
      cases hf : elF true x with
      | true =>
        rw [hf] at KF
        replace hf := hid hf
        go_wp2_with (first
          | (refine wpList_load_mid rfl 54 _ rfl b (o + k * 34) rfl (elC true x.key x.del (.slice s x.val.length p)) _ rgr.out Try.underlying54 rfl SE.out ?_))
        refine KF.out.mono ?_
        rintro e w2 ⟨rfl, hB2⟩
        clear KF SE rgr
        go_wp2
        go_roundw
        case rel => exact ⟨k + 1, by omega, by go_num, hid (fun m hm => by rcases Nat.lt_or_ge m k with h | h; exact hA.out m h; obtain rfl : m = k := (by omega); rw [hx.out]; exact hf.out), hBr.trans (hB2.mono hBr.size)⟩
        case measure => simp [intOf]; omega
      | false =>
        rw [hf] at KF
        replace hf := hid hf
        go_wp2_with (first
          | (refine wpList_load_mid rfl 54 _ rfl b (o + k * 34) rfl (elC true x.key x.del (.slice s x.val.length p)) _ rgr.out Try.underlying54 rfl SE.out ?_))
        refine KF.out.mono ?_
        rintro e w2 ⟨rfl, hB2⟩
        clear KF SE rgr
        go_wp2
        go_ret
        refine ⟨⟨_, rfl, ?_, by omega, by omega⟩, hBr.trans (hB2.mono hBr.size)⟩
        refine propext ⟨fun _ => ?_, fun _ => by omega⟩
        rw [List.all_eq_false]
        exact ⟨_, getD_mem (d := dX) hlt', by rw [hx.out, hf.out]; simp⟩
    · obtain rfl : k = xs.length := by omega
      clear hlt'
      go_wp2
      go_ret
      refine ⟨⟨_, rfl, ?_, by omega, by omega⟩, hBr⟩
      refine propext ⟨fun h => by omega, fun h => ?_⟩
      obtain ⟨x, hx, hn⟩ := List.all_eq_false.1 h
      obtain ⟨i, hi, rfl⟩ := List.mem_iff_getElem.1 hx
      have := hA.out i hi
      rw [List.getD_eq_getElem?_getD, List.getElem?_eq_getElem hi] at this
      exact absurd this hn
set_option maxRecDepth 100000 in
set_option maxHeartbeats 800000 in
theorem containsC_any (w0 w : World) (xs : List Cg) (sp : Option Addr) (cap : Nat) (hI : ElI true w0 sp cap xs) (h0 : Below w0.heap.size w0 w) (hln : xs.length ≤ 4096) :
    Calls Try.prog 59 #[.slice sp xs.length cap, .func (.func 58) #[] #[]] w fun e w' => e = .returned (.bool (!xs.all (elF true))) ∧ Below w.heap.size w w' := by
  have KF := hid (indexC_any w0 w xs sp cap hI h0 hln)
  go_enter Try.func59, Try.ntmps59
  go_wp2_with fail
  refine KF.out.mono ?_
  rintro e w2 ⟨⟨j, rfl, hj, j0, j1⟩, hB2⟩
  have HJ := hid (show decide (0 ≤ j) = !xs.all (elF true) by rw [Bool.eq_iff_iff, decide_eq_true_eq, hj]; simp)
  clear KF hj
  go_wp2
  go_ret
  refine ⟨?_, hB2⟩
  rw [← HJ.out]
  rfl
end Go.Proofs.Ytenfklcgkfaajaa
