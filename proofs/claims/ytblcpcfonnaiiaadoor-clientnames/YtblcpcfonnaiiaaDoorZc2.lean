import Derived.Test.YtblcpcfonnaiiaaDoorZb2
namespace Go.Proofs.YtblcpcfonnaiiaaDoor
set_option linter.unusedVariables false
set_option linter.unusedSimpArgs false
open Go.RowKit
attribute [local go_sem ↓] Go.wp_at_zero Go.wp_at_succ

theorem wpList_tab {ops : Array Oper} {rest : List Oper} {o : Oper} {a : Act} {w : World} {Q : Exit → Act → World → Prop} (hg : o.guard = none) (s : ByteArray) (x : Operand) (ho : o.op = .index 9 (.const (.string s)) x)
    (n : Nat) (hx : a.eval x = .int .u8 n) (hn : n < 256) (hs : ((List.range 256).all fun i => (s[i]?).map (·.toNat) == some (one8 (i : Int))) = true) (h : wpList Tryd.prog ops Q rest (a.put o.dst (.int .u8 (one8 (n : Int)))) w) :
    wpList Tryd.prog ops Q (o :: rest) a w := by
  have h1 := List.all_eq_true.1 hs n (List.mem_range.2 hn)
  simp only [beq_iff_eq] at h1
  cases hb : s[n]? with
  | none => rw [hb] at h1; cases h1
  | some b =>
    rw [hb] at h1
    simp only [Option.map_some, Option.some.injEq] at h1
    have hr : (Instr.index 9 (.string s) (.int .u8 n)).run Tryd.prog w = .ok (.int .u8 (one8 (n : Int))) w := by
      unfold Instr.index
      have hu : Tryd.prog.underlying 9 = some .string := by kernel_rfl
      simp only [asIntOf, Sem.run_bind, Sem.run_pure, Result.andThen_ok, run_underlying hu w]
      rw [if_pos (by omega), Int.toNat_natCast, hb, ← h1]
      rfl
    refine wpList_plain hg fun K hK => ?_
    unfold Oper.wp execOp
    have e : a.eval (.const (.string s)) = .string s := rfl
    simp only [ho, e, hx, Sem.run_bind, hr, Result.andThen_ok, Sem.run_pure]
    exact hK _ _ h
set_option maxRecDepth 100000 in
set_option maxHeartbeats 2000000 in
theorem onesCount_any (w : World) (b : Int) (h : 0 ≤ b ∧ b < 256) :
    Calls Tryd.prog 73 #[.int .u8 b] w fun e w' => e = .returned (.int .i64 (one8 b)) ∧ Below w.heap.size w w' := by
  obtain ⟨n, rfl⟩ := Int.eq_ofNat_of_zero_le h.1
  have hn : n < 256 := by omega
  have h8 := one8_le (n : Int)
  go_enter Tryd.func73, Tryd.ntmps73
  go_wp2_with (first | refine wpList_tab rfl _ _ rfl n rfl hn (by decide +kernel) ?_)
  go_ret
  exact ⟨rfl, Below.refl _ _⟩
set_option maxRecDepth 100000 in
set_option maxHeartbeats 2000000 in
theorem countOf_any (w : World) (bs : List Int) (hl : bs.length = 32) (hy : Bys bs) :
    Calls Tryd.prog 69 #[.agg (ints .u8 bs).toArray] w fun e w' => e = .returned (.int .i64 (onesN bs)) ∧ Below w.heap.size w w' := by
  have r0 := hnew w (.cells (ints .u8 bs).toArray 28)
  have hB := (Below.refl w.heap.size w).alloc (Nat.le_refl _) (.cells (ints .u8 bs).toArray 28)
  have LS := hid (show (Tryd.prog.info? 28).map (·.size) = some (ints .u8 bs).toArray.size by rw [Tryd.sizeA, List.size_toArray, ints_len, hl])
  have IX := hid (fun k (h : k < bs.length) => idxA bs k h hl)
  have ST := hid (fun k (h : k < bs.length) => onesN_take bs k h)
  have BD := hid (fun k => onesN_le (bs.take k))
  have TF := hid (show onesN (bs.take 32) = onesN bs by rw [List.take_of_length_le (by omega)])
  have BY := hid (fun k (h : k < bs.length) => onesCount_any (b := bs.getD k 0) (h := hy.at k h))
  generalize ints .u8 bs = C at *
  go_enter Tryd.func69, Tryd.ntmps69
  go_wp2_with (first | refine wpList_load_row rfl 28 _ rfl _ rfl 28 _ _ _ r0 Tryd.underlying28 rfl LS.out ?_)
  generalize w.alloc (.cells C.toArray 28) = w1 at *
  go_loopw [3, 7] (fun n i wr => ∃ k : Nat, k ≤ 32 ∧ i = .int .i64 k ∧ n = .int .i64 (onesN (bs.take k)) ∧ Below w.heap.size w wr) (fun _ i _ => 32 - (intOf i).toNat)
  case atStart => exact ⟨0, by omega, rfl, rfl, hB⟩
  case round =>
    obtain ⟨k, hk, rfl, rfl, hBr⟩ := hrel
    by_cases hlt : k < 32
    · have i1 : (k : Int) < 32 := by omega
      have hkl : k < bs.length := by omega
      have ix := IX.out k hkl
      have st := hid (ST.out k hkl)
      have KO := hid (fun w1 => BY.out k hkl w1)
      have b1 : (onesN (bs.take k) : Int) ≤ 256 := by have := BD.out k; rw [List.length_take] at this; omega
      have b2 : (one8 (bs.getD k 0) : Int) ≤ 8 := by have := one8_le (bs.getD k 0); omega
      generalize hO : onesN (bs.take k) = O at *
      generalize one8 (bs.getD k 0) = E at *
      generalize bs.getD k 0 = x at *
      clear hO
      go_wp2_with fail
      refine (KO.out _).mono ?_
      rintro e w2 ⟨rfl, hb2⟩
      go_wp2
      go_roundw
      case rel => exact ⟨k + 1, by omega, by go_num, (by rw [st.out]; go_num), hBr.trans (hb2.mono hBr.size)⟩
      case measure => simp [intOf]; omega
    · obtain rfl : k = 32 := by omega
      rw [TF.out]
      go_wp2
      go_ret
      exact ⟨rfl, hBr⟩
end Go.Proofs.YtblcpcfonnaiiaaDoor
