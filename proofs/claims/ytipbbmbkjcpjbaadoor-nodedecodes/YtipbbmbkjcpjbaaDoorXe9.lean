import Derived.Test.YtipbbmbkjcpjbaaDoorXd9
namespace Go.Proofs.YtipbbmbkjcpjbaaDoor
set_option linter.unusedVariables false
set_option linter.unusedSimpArgs false
open Go.RowKit
attribute [local go_sem ↓] Go.wp_at_zero Go.wp_at_succ

set_option maxRecDepth 100000 in
set_option maxHeartbeats 4000000 in
theorem plays_empty (w : World) (hG : Gb w) (o : NOp) (ok : NOk o) (hkd : o.kd = 7) :
    Calls Tryd.prog 7 #[.agg (opC o).toArray] w fun e w' => e = .returned (.bool true) ∧ Below w.heap.size w w' := by
  have d0 := NR.box (w := w) ok
  have c0 := d0.ck
  rw [hkd] at c0
  have HK := hid hkd
  have KN := hid (fun w1 (h : Gb w1) (i : Nat) => numbers_empty w1 h (nearD o i) (nearD_ok ok i) (by rw [nearD_kd, hkd]))
  clear hkd
  go_enter Tryd.func7, Tryd.ntmps7
  go_wp2
  generalize w.alloc (.cells (opC o).toArray 32) = w1 at *
  go_loopw [7] (fun i wr => ∃ j : Nat, j ≤ 4 ∧ i = .int .i64 j ∧ NR w wr w.heap.size o) (fun i _ => 4 - (intOf i).toNat)
  case atStart => exact ⟨0, by omega, rfl, d0⟩
  case round =>
    clear c0 d0
    obtain ⟨j, hj, rfl, dr⟩ := hrel
    have c0 := dr.ck
    rw [HK.out] at c0
    have g0 := dr.2.2
    match j, hj with
    | 0, _ =>
      rw [show ((0 : Nat) : Int) = 0 from rfl]
      go_wp2_with (first | refine wpList_load_row_w (by rfl) 32 _ (by rfl) _ (by rfl) 32 _ _ _ g0 Tryd.underlying32 rfl (by rw [Tryd.sizeOp, opC_size ok]) ?_)
      refine (nearly_0 _ o ok).mono ?_
      rintro e w2 ⟨rfl, hb2⟩
      have d2 := dr.call hb2
      have ok2 := nearD_ok ok 0
      have KM := hid (KN.out w2 (d2.gb hG) 0)
      generalize nearD o 0 = o2 at *
      go_wp2_with fail
      refine KM.out.mono ?_
      rintro e w3 ⟨rfl, hb3⟩
      have d3 := d2.call hb3
      go_wp2
      go_roundw
      case rel => exact ⟨1, by omega, by go_num, d3⟩
      case measure => simp [intOf]
    | 1, _ =>
      rw [show ((1 : Nat) : Int) = 1 from rfl]
      go_wp2
      go_roundw
      case rel => exact ⟨2, by omega, by go_num, dr⟩
      case measure => simp [intOf]
    | 2, _ =>
      rw [show ((2 : Nat) : Int) = 2 from rfl]
      go_wp2
      go_roundw
      case rel => exact ⟨3, by omega, by go_num, dr⟩
      case measure => simp [intOf]
    | 3, _ =>
      rw [show ((3 : Nat) : Int) = 3 from rfl]
      go_wp2
      go_roundw
      case rel => exact ⟨4, by omega, by go_num, dr⟩
      case measure => simp [intOf]
    | 4, _ =>
      rw [show ((4 : Nat) : Int) = 4 from rfl]
      go_wp2
      go_ret
      exact ⟨rfl, dr.2.1⟩
    | n + 5, h => exact absurd h (by omega)
set_option maxRecDepth 100000 in
set_option maxHeartbeats 4000000 in
theorem plays_btext (w : World) (hG : Gb w) (o : NOp) (ok : NOk o) (hkd : o.kd = 4) :
    Calls Tryd.prog 7 #[.agg (opC o).toArray] w fun e w' => e = .returned (.bool true) ∧ Below w.heap.size w w' := by
  have d0 := NR.box (w := w) ok
  have c0 := d0.ck
  rw [hkd] at c0
  have HK := hid hkd
  have KN := hid (fun w1 (h : Gb w1) (i : Nat) => numbers_text w1 h (nearD o i) (nearD_ok ok i) (by rw [nearD_kd, hkd]))
  clear hkd
  go_enter Tryd.func7, Tryd.ntmps7
  go_wp2
  generalize w.alloc (.cells (opC o).toArray 32) = w1 at *
  go_loopw [7] (fun i wr => ∃ j : Nat, j ≤ 4 ∧ i = .int .i64 j ∧ NR w wr w.heap.size o) (fun i _ => 4 - (intOf i).toNat)
  case atStart => exact ⟨0, by omega, rfl, d0⟩
  case round =>
    clear c0 d0
    obtain ⟨j, hj, rfl, dr⟩ := hrel
    have c0 := dr.ck
    rw [HK.out] at c0
    have g0 := dr.2.2
    match j, hj with
    | 0, _ =>
      rw [show ((0 : Nat) : Int) = 0 from rfl]
      go_wp2_with (first | refine wpList_load_row_w (by rfl) 32 _ (by rfl) _ (by rfl) 32 _ _ _ g0 Tryd.underlying32 rfl (by rw [Tryd.sizeOp, opC_size ok]) ?_)
      refine (nearly_0 _ o ok).mono ?_
      rintro e w2 ⟨rfl, hb2⟩
      have d2 := dr.call hb2
      have ok2 := nearD_ok ok 0
      have KM := hid (KN.out w2 (d2.gb hG) 0)
      generalize nearD o 0 = o2 at *
      go_wp2_with fail
      refine KM.out.mono ?_
      rintro e w3 ⟨rfl, hb3⟩
      have d3 := d2.call hb3
      go_wp2
      go_roundw
      case rel => exact ⟨1, by omega, by go_num, d3⟩
      case measure => simp [intOf]
    | 1, _ =>
      rw [show ((1 : Nat) : Int) = 1 from rfl]
      go_wp2
      go_roundw
      case rel => exact ⟨2, by omega, by go_num, dr⟩
      case measure => simp [intOf]
    | 2, _ =>
      rw [show ((2 : Nat) : Int) = 2 from rfl]
      go_wp2_with (first | refine wpList_load_row_w (by rfl) 32 _ (by rfl) _ (by rfl) 32 _ _ _ g0 Tryd.underlying32 rfl (by rw [Tryd.sizeOp, opC_size ok]) ?_)
      refine (nearly_2 _ o ok).mono ?_
      rintro e w2 ⟨rfl, hb2⟩
      have d2 := dr.call hb2
      have ok2 := nearD_ok ok 2
      have KM := hid (KN.out w2 (d2.gb hG) 2)
      generalize nearD o 2 = o2 at *
      go_wp2_with fail
      refine KM.out.mono ?_
      rintro e w3 ⟨rfl, hb3⟩
      have d3 := d2.call hb3
      go_wp2
      go_roundw
      case rel => exact ⟨3, by omega, by go_num, d3⟩
      case measure => simp [intOf]
    | 3, _ =>
      rw [show ((3 : Nat) : Int) = 3 from rfl]
      go_wp2_with (first | refine wpList_load_row_w (by rfl) 32 _ (by rfl) _ (by rfl) 32 _ _ _ g0 Tryd.underlying32 rfl (by rw [Tryd.sizeOp, opC_size ok]) ?_)
      refine (nearly_3 _ o ok).mono ?_
      rintro e w2 ⟨rfl, hb2⟩
      have d2 := dr.call hb2
      have ok2 := nearD_ok ok 3
      have KM := hid (KN.out w2 (d2.gb hG) 3)
      generalize nearD o 3 = o2 at *
      go_wp2_with fail
      refine KM.out.mono ?_
      rintro e w3 ⟨rfl, hb3⟩
      have d3 := d2.call hb3
      go_wp2
      go_roundw
      case rel => exact ⟨4, by omega, by go_num, d3⟩
      case measure => simp [intOf]
    | 4, _ =>
      rw [show ((4 : Nat) : Int) = 4 from rfl]
      have KM := hid (KN.out wr (dr.gb hG) 0)
      rw [show nearD o 0 = o from rfl] at KM
      go_wp2_with (first | refine wpList_load_row_w (by rfl) 32 _ (by rfl) _ (by rfl) 32 _ _ _ g0 Tryd.underlying32 rfl (by rw [Tryd.sizeOp, opC_size ok]) ?_)
      refine KM.out.mono ?_
      rintro e w3 ⟨rfl, hb3⟩
      have d3 := dr.call hb3
      go_wp2
      go_ret
      exact ⟨rfl, d3.2.1⟩
    | n + 5, h => exact absurd h (by omega)
set_option maxRecDepth 100000 in
set_option maxHeartbeats 4000000 in
theorem plays_branch (w : World) (hG : Gb w) (o : NOp) (ok : NOk o) (hkd : o.kd = 6) :
    Calls Tryd.prog 7 #[.agg (opC o).toArray] w fun e w' => e = .returned (.bool true) ∧ Below w.heap.size w w' := by
  have d0 := NR.box (w := w) ok
  have c0 := d0.ck
  rw [hkd] at c0
  have HK := hid hkd
  have KN := hid (fun w1 (h : Gb w1) (i : Nat) => numbers_branch w1 h (nearD o i) (nearD_ok ok i) (by rw [nearD_kd, hkd]))
  clear hkd
  go_enter Tryd.func7, Tryd.ntmps7
  go_wp2
  generalize w.alloc (.cells (opC o).toArray 32) = w1 at *
  go_loopw [7] (fun i wr => ∃ j : Nat, j ≤ 4 ∧ i = .int .i64 j ∧ NR w wr w.heap.size o) (fun i _ => 4 - (intOf i).toNat)
  case atStart => exact ⟨0, by omega, rfl, d0⟩
  case round =>
    clear c0 d0
    obtain ⟨j, hj, rfl, dr⟩ := hrel
    have c0 := dr.ck
    rw [HK.out] at c0
    have g0 := dr.2.2
    match j, hj with
    | 0, _ =>
      rw [show ((0 : Nat) : Int) = 0 from rfl]
      go_wp2_with (first | refine wpList_load_row_w (by rfl) 32 _ (by rfl) _ (by rfl) 32 _ _ _ g0 Tryd.underlying32 rfl (by rw [Tryd.sizeOp, opC_size ok]) ?_)
      refine (nearly_0 _ o ok).mono ?_
      rintro e w2 ⟨rfl, hb2⟩
      have d2 := dr.call hb2
      have ok2 := nearD_ok ok 0
      have KM := hid (KN.out w2 (d2.gb hG) 0)
      generalize nearD o 0 = o2 at *
      go_wp2_with fail
      refine KM.out.mono ?_
      rintro e w3 ⟨rfl, hb3⟩
      have d3 := d2.call hb3
      go_wp2
      go_roundw
      case rel => exact ⟨1, by omega, by go_num, d3⟩
      case measure => simp [intOf]
    | 1, _ =>
      rw [show ((1 : Nat) : Int) = 1 from rfl]
      go_wp2
      go_roundw
      case rel => exact ⟨2, by omega, by go_num, dr⟩
      case measure => simp [intOf]
    | 2, _ =>
      rw [show ((2 : Nat) : Int) = 2 from rfl]
      go_wp2_with (first | refine wpList_load_row_w (by rfl) 32 _ (by rfl) _ (by rfl) 32 _ _ _ g0 Tryd.underlying32 rfl (by rw [Tryd.sizeOp, opC_size ok]) ?_)
      refine (nearly_2 _ o ok).mono ?_
      rintro e w2 ⟨rfl, hb2⟩
      have d2 := dr.call hb2
      have ok2 := nearD_ok ok 2
      have KM := hid (KN.out w2 (d2.gb hG) 2)
      generalize nearD o 2 = o2 at *
      go_wp2_with fail
      refine KM.out.mono ?_
      rintro e w3 ⟨rfl, hb3⟩
      have d3 := d2.call hb3
      go_wp2
      go_roundw
      case rel => exact ⟨3, by omega, by go_num, d3⟩
      case measure => simp [intOf]
    | 3, _ =>
      rw [show ((3 : Nat) : Int) = 3 from rfl]
      go_wp2_with (first | refine wpList_load_row_w (by rfl) 32 _ (by rfl) _ (by rfl) 32 _ _ _ g0 Tryd.underlying32 rfl (by rw [Tryd.sizeOp, opC_size ok]) ?_)
      refine (nearly_3 _ o ok).mono ?_
      rintro e w2 ⟨rfl, hb2⟩
      have d2 := dr.call hb2
      have ok2 := nearD_ok ok 3
      have KM := hid (KN.out w2 (d2.gb hG) 3)
      generalize nearD o 3 = o2 at *
      go_wp2_with fail
      refine KM.out.mono ?_
      rintro e w3 ⟨rfl, hb3⟩
      have d3 := d2.call hb3
      go_wp2
      go_roundw
      case rel => exact ⟨4, by omega, by go_num, d3⟩
      case measure => simp [intOf]
    | 4, _ =>
      rw [show ((4 : Nat) : Int) = 4 from rfl]
      have KM := hid (KN.out wr (dr.gb hG) 0)
      rw [show nearD o 0 = o from rfl] at KM
      go_wp2_with (first | refine wpList_load_row_w (by rfl) 32 _ (by rfl) _ (by rfl) 32 _ _ _ g0 Tryd.underlying32 rfl (by rw [Tryd.sizeOp, opC_size ok]) ?_)
      refine KM.out.mono ?_
      rintro e w3 ⟨rfl, hb3⟩
      have d3 := dr.call hb3
      go_wp2
      go_ret
      exact ⟨rfl, d3.2.1⟩
    | n + 5, h => exact absurd h (by omega)
end Go.Proofs.YtipbbmbkjcpjbaaDoor
