import Derived.Test.YtlhmhpkgdcdjkaaZb2
namespace Go.Proofs.Ytlhmhpkgdcdjkaa
set_option linter.unusedVariables false
set_option linter.unusedSimpArgs false
open Go.RowKit
attribute [local go_sem ↓] Go.wp_at_zero Go.wp_at_succ

theorem wpList_tab {ops : Array Oper} {rest : List Oper} {o : Oper} {a : Act} {w : World} {Q : Exit → Act → World → Prop} (hg : o.guard = none) (s : ByteArray) (x : Operand) (ho : o.op = .index 9 (.const (.string s)) x)
    (n : Nat) (hx : a.eval x = .int .u8 n) (hn : n < 256) (hs : ((List.range 256).all fun i => (s[i]?).map (·.toNat) == some (one8 (i : Int))) = true) (h : wpList Try.prog ops Q rest (a.put o.dst (.int .u8 (one8 (n : Int)))) w) :
    wpList Try.prog ops Q (o :: rest) a w := by
  have h1 := List.all_eq_true.1 hs n (List.mem_range.2 hn)
  simp only [beq_iff_eq] at h1
  cases hb : s[n]? with
  | none => rw [hb] at h1; cases h1
  | some b =>
    rw [hb] at h1
    simp only [Option.map_some, Option.some.injEq] at h1
    have hr : (Instr.index 9 (.string s) (.int .u8 n)).run Try.prog w = .ok (.int .u8 (one8 (n : Int))) w := by
      unfold Instr.index
      have hu : Try.prog.underlying 9 = some .string := by kernel_rfl
      simp only [asIntOf, Sem.run_bind, Sem.run_pure, Result.andThen_ok, run_underlying hu w]
      rw [if_pos (by omega), Int.toNat_natCast, hb, ← h1]
      rfl
    refine wpList_plain hg fun K hK => ?_
    unfold Oper.wp execOp
    have e : a.eval (.const (.string s)) = .string s := rfl
    simp only [ho, e, hx, Sem.run_bind, hr, Result.andThen_ok, Sem.run_pure]
    exact hK _ _ h
set_option maxRecDepth 100000 in
set_option maxHeartbeats 2000000 in
theorem onesCount_any (w : World) (b : Int) (h : 0 ≤ b ∧ b < 256) :
    Calls Try.prog 30 #[.int .u8 b] w fun e w' => e = .returned (.int .i64 (one8 b)) ∧ Below w.heap.size w w' := by
  obtain ⟨n, rfl⟩ := Int.eq_ofNat_of_zero_le h.1
  have hn : n < 256 := by omega
  have h8 := one8_le (n : Int)
  go_enter Try.func30, Try.ntmps30
  go_wp2_with (first | refine wpList_tab rfl _ _ rfl n rfl hn (by decide +kernel) ?_)
  go_ret
  exact ⟨rfl, Below.refl _ _⟩
set_option maxRecDepth 100000 in
set_option maxHeartbeats 2000000 in
theorem countOf_any (w : World) (bs : List Int) (hl : bs.length = 32) (hy : Bys bs) :
    Calls Try.prog 24 #[.agg (ints .u8 bs).toArray] w fun e w' => e = .returned (.int .i64 (onesN bs)) ∧ Below w.heap.size w w' := by
  have r0 := hnew w (.cells (ints .u8 bs).toArray 23)
  have hB := (Below.refl w.heap.size w).alloc (Nat.le_refl _) (.cells (ints .u8 bs).toArray 23)
  have LS := hid (show (Try.prog.info? 23).map (·.size) = some (ints .u8 bs).toArray.size by rw [Try.sizeA, List.size_toArray, ints_len, hl])
  have IX := hid (fun k (h : k < bs.length) => idxA bs k h hl)
  have ST := hid (fun k (h : k < bs.length) => onesN_take bs k h)
  have BD := hid (fun k => onesN_le (bs.take k))
  have TF := hid (show onesN (bs.take 32) = onesN bs by rw [List.take_of_length_le (by omega)])
  have BY := hid (fun k (h : k < bs.length) => onesCount_any (b := bs.getD k 0) (h := hy.at k h))
  generalize ints .u8 bs = C at *
  go_enter Try.func24, Try.ntmps24
  go_wp2_with (first | refine wpList_load_row rfl 23 _ rfl _ rfl 23 _ _ _ r0 Try.underlying23 rfl LS.out ?_)
  generalize w.alloc (.cells C.toArray 23) = w1 at *
  go_loopw [3, 7] (fun n i wr => ∃ k : Nat, k ≤ 32 ∧ i = .int .i64 k ∧ n = .int .i64 (onesN (bs.take k)) ∧ Below w.heap.size w wr) (fun _ i _ => 32 - (intOf i).toNat)
  case atStart => exact ⟨0, by omega, rfl, rfl, hB⟩
  case round =>
    obtain ⟨k, hk, rfl, rfl, hBr⟩ := hrel
    by_cases hlt : k < 32
    · have i1 : (k : Int) < 32 := by omega
      have hkl : k < bs.length := by omega
      have ix := IX.out k hkl
      have st := hid (ST.out k hkl)
      have KO := hid (fun w1 => BY.out k hkl w1)
      have b1 : (onesN (bs.take k) : Int) ≤ 256 := by have := BD.out k; rw [List.length_take] at this; omega
      have b2 : (one8 (bs.getD k 0) : Int) ≤ 8 := by have := one8_le (bs.getD k 0); omega
      generalize hO : onesN (bs.take k) = O at *
      generalize one8 (bs.getD k 0) = E at *
      generalize bs.getD k 0 = x at *
      clear hO
      go_wp2_with fail
      refine (KO.out _).mono ?_
      rintro e w2 ⟨rfl, hb2⟩
      go_wp2
      go_roundw
      case rel => exact ⟨k + 1, by omega, by go_num, (by rw [st.out]; go_num), hBr.trans (hb2.mono hBr.size)⟩
      case measure => simp [intOf]; omega
    · obtain rfl : k = 32 := by omega
      rw [TF.out]
      go_wp2
      go_ret
      exact ⟨rfl, hBr⟩
set_option maxRecDepth 100000 in
set_option maxHeartbeats 2000000 in
theorem wf_t (w : World) (p : Pf) (ok : PfOk p) (y : PfY p) (s1 s2 : Option Addr) (c1 c2 : Nat) (hv : p.vs.length ≤ 9223372036854775807) (hs : p.ss.length ≤ 9223372036854775807) (hf : p.f = true) (hc : p.vs.length ≤ 128) :
    Calls Try.prog 16 #[.agg (pfC p (.slice s1 p.vs.length c1) (.slice s2 p.ss.length c2)).toArray] w fun e w' => e = .returned (.bool (decide (p.ss.length = onesN p.bs))) ∧ Below w.heap.size w w' := by
  have d0 := (BK.nil w).alloc (pfC p (.slice s1 p.vs.length c1) (.slice s2 p.ss.length c2)) 26
  have c0 := d0.cell (.head _) (pfC_f p _ _)
  have c1' := d0.cell (.head _) (pfC_v p (.slice s1 p.vs.length c1) (.slice s2 p.ss.length c2))
  have c34 := pfC_s ok (.slice s1 p.vs.length c1) (.slice s2 p.ss.length c2)
  have cb := pfC_b p (.slice s1 p.vs.length c1) (.slice s2 p.ss.length c2)
  have LS := hid (show (Try.prog.info? 23).map (·.size) = some (ints .u8 p.bs).length by rw [Try.sizeA, ints_len, ok.bs])
  have KC := hid (fun w1 => countOf_any w1 p.bs ok.bs y.bs)
  have HD := hid (show decide (p.ss.length = onesN p.bs) = ((p.ss.length : Int) == (onesN p.bs : Int)) by rw [Bool.eq_iff_iff, decide_eq_true_iff, beq_iff_eq]; omega)
  have b1 : (onesN p.bs : Int) ≤ 256 := by have := onesN_le p.bs; have := ok.bs; omega
  have i1 : (p.vs.length : Int) ≤ 128 := by omega
  rw [hf] at c0
  have i2 : (p.ss.length : Int) ≤ 9223372036854775807 := by omega
  generalize decide (p.ss.length = onesN p.bs) = D at *
  generalize pfC p (.slice s1 p.vs.length c1) (.slice s2 p.ss.length c2) = C at *
  generalize p.vs.length = n at *
  generalize ints .u8 p.bs = IB at *
  generalize onesN p.bs = O at *
  generalize p.ss.length = m at *
  go_enter Try.func16, Try.ntmps16
  go_wp2
  refine wp_region_noPanic ?_
  refine wp_region_held_drew (S := (fun w' => BK w w' [(w.heap.size, C, 26)])) (by kernel_rfl) d0.drew (fun hHeld => ?_)
  refine wpAnyH_take (i := 0) (oi := { dst := some 18, op := Op.fieldAddr 26 (Operand.tmp 1) 3, type := 0, pos := "raw.go:29", after := #[], guard := none }) (v := .pointer (some ⟨w.heap.size, 34, none⟩)) rfl (by kernel_rfl) (by kernel_rfl) (by kernel_rfl) (fun _ _ _ h => h) (Or.inl ⟨by rfl, by intro w hS; go_simp⟩) hHeld ?_
  try simp only [Act.put, List.setIfInBounds_toArray, List.set_cons_zero, List.set_cons_succ]
  refine wpAnyH_take (i := 3) (oi := { dst := some 21, op := Op.fieldAddr 26 (Operand.tmp 1) 2, type := 0, pos := "raw.go:29", after := #[], guard := none }) (v := .pointer (some ⟨w.heap.size, 2, none⟩)) rfl (by kernel_rfl) (by kernel_rfl) (by kernel_rfl) (fun _ _ _ h => h) (Or.inl ⟨by rfl, by intro w hS; go_simp⟩) hHeld ?_
  try simp only [Act.put, List.setIfInBounds_toArray, List.set_cons_zero, List.set_cons_succ]
  refine wpAnyH_take (i := 1) (oi := { dst := some 19, op := Op.load 24 (Operand.tmp 18), type := 24, pos := "raw.go:29", after := #[{ on := 0, ground := Ground.data }], guard := none }) (v := .slice s2 m c2) rfl (by kernel_rfl) (by kernel_rfl) (by kernel_rfl) (fun _ _ _ h => h) (Or.inl ⟨by rfl, by intro w hS; have hc := hS.cell (.head _) c34; go_simp⟩) hHeld ?_
  try simp only [Act.put, List.setIfInBounds_toArray, List.set_cons_zero, List.set_cons_succ]
  refine wpAnyH_take (i := 4) (oi := { dst := some 22, op := Op.load 23 (Operand.tmp 21), type := 23, pos := "raw.go:29", after := #[{ on := 3, ground := Ground.data }], guard := none }) (v := .agg (IB).toArray) rfl (by kernel_rfl) (by kernel_rfl) (by kernel_rfl) (fun _ _ _ h => h) (yieldsIf_load_mid (by rfl) 23 _ rfl w.heap.size (2) rfl (IB) _ (fun w hS => hS.rng (.head _) cb) Try.underlying23 rfl LS.out) hHeld ?_
  try simp only [Act.put, List.setIfInBounds_toArray, List.set_cons_zero, List.set_cons_succ]
  refine wpAnyH_take (i := 2) (oi := { dst := some 20, op := Op.call { callee := Callee.builtin Builtin.len, args := #[Operand.tmp 19], argTypes := #[24] }, type := 3, pos := "raw.go:29", after := #[{ on := 1, ground := Ground.data }], guard := none }) (v := .int .i64 m) rfl (by kernel_rfl) (by kernel_rfl) (by kernel_rfl) (fun _ _ _ h => h) (Or.inl ⟨by rfl, by intro w hS; go_simp⟩) hHeld ?_
  try simp only [Act.put, List.setIfInBounds_toArray, List.set_cons_zero, List.set_cons_succ]
  refine wpAnyH_ready (rs := [5]) (by kernel_rfl) (by simp) ?_
  refine (AllReadyH.cons (o := { dst := some 23, op := Op.call { callee := Callee.value (Operand.func 24), args := #[Operand.tmp 22], argTypes := #[23] }, type := 3, pos := "raw.go:29", after := #[{ on := 4, ground := Ground.data }], guard := none }) rfl (fun K hK => ?_) AllReadyH.nil)
  go_simp
  go_at_call 24
  refine (KC.out _).mono ?_
  rintro e w4 ⟨rfl, hb4⟩
  go_wp2_with fail
  refine hK.out _ _ (hHeld.call hb4) (fun hHeld2 => ?_)
  clear hK K hHeld
  have hHeld := hHeld2
  clear hHeld2
  try simp only [Act.put, List.setIfInBounds_toArray, List.set_cons_zero, List.set_cons_succ]
  refine wpAnyH_take (i := 6) (oi := { dst := some 24, op := Op.binOp BinOp.eql 3 (Operand.tmp 20) (Operand.tmp 23) 3, type := 4, pos := "raw.go:29", after := #[{ on := 2, ground := Ground.data }, { on := 5, ground := Ground.data }], guard := none }) (v := .bool ((m : Int) == (O : Int))) rfl (by kernel_rfl) (by kernel_rfl) (by kernel_rfl) (fun _ _ _ h => h) (Or.inl ⟨by rfl, by intro w hS; go_simp⟩) hHeld ?_
  try simp only [Act.put, List.setIfInBounds_toArray, List.set_cons_zero, List.set_cons_succ]
  refine wpAnyH_take (i := 7) (oi := { dst := some 2, op := Op.assign (Operand.tmp 24), type := 4, pos := "raw.go:29", after := #[{ on := 6, ground := Ground.data }, { on := 5, ground := Ground.chain }, { on := 0, ground := Ground.phase }, { on := 1, ground := Ground.phase }, { on := 2, ground := Ground.phase }, { on := 3, ground := Ground.phase }, { on := 4, ground := Ground.phase }, { on := 5, ground := Ground.phase }, { on := 6, ground := Ground.phase }], guard := none }) (v := .bool ((m : Int) == (O : Int))) rfl (by kernel_rfl) (by kernel_rfl) (by kernel_rfl) (fun _ _ _ h => h) (Or.inl ⟨by rfl, by intro w hS; go_simp⟩) hHeld ?_
  try simp only [Act.put, List.setIfInBounds_toArray, List.set_cons_zero, List.set_cons_succ]
  refine wpAnyH_done (by kernel_rfl) ?_ _
  refine NoPanic.normal ?_
  go_wp2
  go_ret
  exact ⟨(by rw [HD.out]; rfl), hHeld.1⟩
set_option maxRecDepth 100000 in
set_option maxHeartbeats 2000000 in
theorem wf_f (w : World) (p : Pf) (ok : PfOk p) (y : PfY p) (s1 s2 : Option Addr) (c1 c2 : Nat) (hv : p.vs.length ≤ 9223372036854775807) (hs : p.ss.length ≤ 9223372036854775807) (hf : p.f = false) (hc : p.vs.length = 0) :
    Calls Try.prog 16 #[.agg (pfC p (.slice s1 p.vs.length c1) (.slice s2 p.ss.length c2)).toArray] w fun e w' => e = .returned (.bool (decide (p.ss.length = onesN p.bs))) ∧ Below w.heap.size w w' := by
  have d0 := (BK.nil w).alloc (pfC p (.slice s1 p.vs.length c1) (.slice s2 p.ss.length c2)) 26
  have c0 := d0.cell (.head _) (pfC_f p _ _)
  have c1' := d0.cell (.head _) (pfC_v p (.slice s1 p.vs.length c1) (.slice s2 p.ss.length c2))
  have c34 := pfC_s ok (.slice s1 p.vs.length c1) (.slice s2 p.ss.length c2)
  have cb := pfC_b p (.slice s1 p.vs.length c1) (.slice s2 p.ss.length c2)
  have LS := hid (show (Try.prog.info? 23).map (·.size) = some (ints .u8 p.bs).length by rw [Try.sizeA, ints_len, ok.bs])
  have KC := hid (fun w1 => countOf_any w1 p.bs ok.bs y.bs)
  have HD := hid (show decide (p.ss.length = onesN p.bs) = ((p.ss.length : Int) == (onesN p.bs : Int)) by rw [Bool.eq_iff_iff, decide_eq_true_iff, beq_iff_eq]; omega)
  have b1 : (onesN p.bs : Int) ≤ 256 := by have := onesN_le p.bs; have := ok.bs; omega
  rw [hf] at c0
  have i2 : (p.ss.length : Int) ≤ 9223372036854775807 := by omega
  generalize decide (p.ss.length = onesN p.bs) = D at *
  generalize pfC p (.slice s1 p.vs.length c1) (.slice s2 p.ss.length c2) = C at *
  rw [hc] at *
  generalize ints .u8 p.bs = IB at *
  generalize onesN p.bs = O at *
  generalize p.ss.length = m at *
  go_enter Try.func16, Try.ntmps16
  go_wp2
  refine wp_region_noPanic ?_
  refine wp_region_held_drew (S := (fun w' => BK w w' [(w.heap.size, C, 26)])) (by kernel_rfl) d0.drew (fun hHeld => ?_)
  refine wpAnyH_take (i := 0) (oi := { dst := some 18, op := Op.fieldAddr 26 (Operand.tmp 1) 3, type := 0, pos := "raw.go:29", after := #[], guard := none }) (v := .pointer (some ⟨w.heap.size, 34, none⟩)) rfl (by kernel_rfl) (by kernel_rfl) (by kernel_rfl) (fun _ _ _ h => h) (Or.inl ⟨by rfl, by intro w hS; go_simp⟩) hHeld ?_
  try simp only [Act.put, List.setIfInBounds_toArray, List.set_cons_zero, List.set_cons_succ]
  refine wpAnyH_take (i := 3) (oi := { dst := some 21, op := Op.fieldAddr 26 (Operand.tmp 1) 2, type := 0, pos := "raw.go:29", after := #[], guard := none }) (v := .pointer (some ⟨w.heap.size, 2, none⟩)) rfl (by kernel_rfl) (by kernel_rfl) (by kernel_rfl) (fun _ _ _ h => h) (Or.inl ⟨by rfl, by intro w hS; go_simp⟩) hHeld ?_
  try simp only [Act.put, List.setIfInBounds_toArray, List.set_cons_zero, List.set_cons_succ]
  refine wpAnyH_take (i := 1) (oi := { dst := some 19, op := Op.load 24 (Operand.tmp 18), type := 24, pos := "raw.go:29", after := #[{ on := 0, ground := Ground.data }], guard := none }) (v := .slice s2 m c2) rfl (by kernel_rfl) (by kernel_rfl) (by kernel_rfl) (fun _ _ _ h => h) (Or.inl ⟨by rfl, by intro w hS; have hc := hS.cell (.head _) c34; go_simp⟩) hHeld ?_
  try simp only [Act.put, List.setIfInBounds_toArray, List.set_cons_zero, List.set_cons_succ]
  refine wpAnyH_take (i := 4) (oi := { dst := some 22, op := Op.load 23 (Operand.tmp 21), type := 23, pos := "raw.go:29", after := #[{ on := 3, ground := Ground.data }], guard := none }) (v := .agg (IB).toArray) rfl (by kernel_rfl) (by kernel_rfl) (by kernel_rfl) (fun _ _ _ h => h) (yieldsIf_load_mid (by rfl) 23 _ rfl w.heap.size (2) rfl (IB) _ (fun w hS => hS.rng (.head _) cb) Try.underlying23 rfl LS.out) hHeld ?_
  try simp only [Act.put, List.setIfInBounds_toArray, List.set_cons_zero, List.set_cons_succ]
  refine wpAnyH_take (i := 2) (oi := { dst := some 20, op := Op.call { callee := Callee.builtin Builtin.len, args := #[Operand.tmp 19], argTypes := #[24] }, type := 3, pos := "raw.go:29", after := #[{ on := 1, ground := Ground.data }], guard := none }) (v := .int .i64 m) rfl (by kernel_rfl) (by kernel_rfl) (by kernel_rfl) (fun _ _ _ h => h) (Or.inl ⟨by rfl, by intro w hS; go_simp⟩) hHeld ?_
  try simp only [Act.put, List.setIfInBounds_toArray, List.set_cons_zero, List.set_cons_succ]
  refine wpAnyH_ready (rs := [5]) (by kernel_rfl) (by simp) ?_
  refine (AllReadyH.cons (o := { dst := some 23, op := Op.call { callee := Callee.value (Operand.func 24), args := #[Operand.tmp 22], argTypes := #[23] }, type := 3, pos := "raw.go:29", after := #[{ on := 4, ground := Ground.data }], guard := none }) rfl (fun K hK => ?_) AllReadyH.nil)
  go_simp
  go_at_call 24
  refine (KC.out _).mono ?_
  rintro e w4 ⟨rfl, hb4⟩
  go_wp2_with fail
  refine hK.out _ _ (hHeld.call hb4) (fun hHeld2 => ?_)
  clear hK K hHeld
  have hHeld := hHeld2
  clear hHeld2
  try simp only [Act.put, List.setIfInBounds_toArray, List.set_cons_zero, List.set_cons_succ]
  refine wpAnyH_take (i := 6) (oi := { dst := some 24, op := Op.binOp BinOp.eql 3 (Operand.tmp 20) (Operand.tmp 23) 3, type := 4, pos := "raw.go:29", after := #[{ on := 2, ground := Ground.data }, { on := 5, ground := Ground.data }], guard := none }) (v := .bool ((m : Int) == (O : Int))) rfl (by kernel_rfl) (by kernel_rfl) (by kernel_rfl) (fun _ _ _ h => h) (Or.inl ⟨by rfl, by intro w hS; go_simp⟩) hHeld ?_
  try simp only [Act.put, List.setIfInBounds_toArray, List.set_cons_zero, List.set_cons_succ]
  refine wpAnyH_take (i := 7) (oi := { dst := some 2, op := Op.assign (Operand.tmp 24), type := 4, pos := "raw.go:29", after := #[{ on := 6, ground := Ground.data }, { on := 5, ground := Ground.chain }, { on := 0, ground := Ground.phase }, { on := 1, ground := Ground.phase }, { on := 2, ground := Ground.phase }, { on := 3, ground := Ground.phase }, { on := 4, ground := Ground.phase }, { on := 5, ground := Ground.phase }, { on := 6, ground := Ground.phase }], guard := none }) (v := .bool ((m : Int) == (O : Int))) rfl (by kernel_rfl) (by kernel_rfl) (by kernel_rfl) (fun _ _ _ h => h) (Or.inl ⟨by rfl, by intro w hS; go_simp⟩) hHeld ?_
  try simp only [Act.put, List.setIfInBounds_toArray, List.set_cons_zero, List.set_cons_succ]
  refine wpAnyH_done (by kernel_rfl) ?_ _
  refine NoPanic.normal ?_
  go_wp2
  go_ret
  exact ⟨(by rw [HD.out]; rfl), hHeld.1⟩
set_option maxRecDepth 100000 in
set_option maxHeartbeats 2000000 in
theorem wn_f (w : World) (p : Pf) (ok : PfOk p) (s1 s2 : Option Addr) (c1 c2 : Nat) (hv : p.vs.length ≤ 9223372036854775807) (hf : p.f = false) (hc : 0 < p.vs.length) :
    Calls Try.prog 16 #[.agg (pfC p (.slice s1 p.vs.length c1) (.slice s2 p.ss.length c2)).toArray] w fun e w' => e = .returned (.bool false) ∧ Below w.heap.size w w' := by
  have d0 := (BK.nil w).alloc (pfC p (.slice s1 p.vs.length c1) (.slice s2 p.ss.length c2)) 26
  have c0 := d0.cell (.head _) (pfC_f p _ _)
  have c1' := d0.cell (.head _) (pfC_v p (.slice s1 p.vs.length c1) (.slice s2 p.ss.length c2))
  rw [hf] at c0
  have i1 : (0 : Int) < (p.vs.length : Int) := by omega
  have i0 : (p.vs.length : Int) ≤ 9223372036854775807 := by omega
  generalize pfC p (.slice s1 p.vs.length c1) (.slice s2 p.ss.length c2) = C at *
  generalize p.vs.length = n at *
  go_enter Try.func16, Try.ntmps16
  go_wp2
  go_ret
  exact ⟨rfl, d0.1⟩
set_option maxRecDepth 100000 in
set_option maxHeartbeats 2000000 in
theorem wn_t (w : World) (p : Pf) (ok : PfOk p) (s1 s2 : Option Addr) (c1 c2 : Nat) (hv : p.vs.length ≤ 9223372036854775807) (hf : p.f = true) (hc : 128 < p.vs.length) :
    Calls Try.prog 16 #[.agg (pfC p (.slice s1 p.vs.length c1) (.slice s2 p.ss.length c2)).toArray] w fun e w' => e = .returned (.bool false) ∧ Below w.heap.size w w' := by
  have d0 := (BK.nil w).alloc (pfC p (.slice s1 p.vs.length c1) (.slice s2 p.ss.length c2)) 26
  have c0 := d0.cell (.head _) (pfC_f p _ _)
  have c1' := d0.cell (.head _) (pfC_v p (.slice s1 p.vs.length c1) (.slice s2 p.ss.length c2))
  rw [hf] at c0
  have i1 : (128 : Int) < (p.vs.length : Int) := by omega
  have i0 : (p.vs.length : Int) ≤ 9223372036854775807 := by omega
  generalize pfC p (.slice s1 p.vs.length c1) (.slice s2 p.ss.length c2) = C at *
  generalize p.vs.length = n at *
  go_enter Try.func16, Try.ntmps16
  go_wp2
  go_ret
  exact ⟨rfl, d0.1⟩
theorem wellFormed_any (w : World) (p : Pf) (ok : PfOk p) (y : PfY p) (s1 s2 : Option Addr) (c1 c2 : Nat) (hv : p.vs.length ≤ 9223372036854775807) (hs : p.ss.length ≤ 9223372036854775807) :
    Calls Try.prog 16 #[.agg (pfC p (.slice s1 p.vs.length c1) (.slice s2 p.ss.length c2)).toArray] w fun e w' => e = .returned (.bool (decide (WellP p))) ∧ Below w.heap.size w w' := by
  cases hf : p.f with
  | true =>
    by_cases hc : p.vs.length ≤ 128
    · have := wf_t w p ok y s1 s2 c1 c2 hv hs hf hc
      rwa [show decide (p.ss.length = onesN p.bs) = decide (WellP p) by rw [decide_eq_decide]; exact ⟨fun h => ⟨(fun e => by rw [hf] at e; cases e), hc, h⟩, fun h => h.num⟩] at this
    · have := wn_t w p ok s1 s2 c1 c2 hv hf (by omega)
      rwa [show false = decide (WellP p) by rw [eq_comm, decide_eq_false_iff_not]; exact fun h => hc h.len] at this
  | false =>
    by_cases hc : p.vs.length = 0
    · have := wf_f w p ok y s1 s2 c1 c2 hv hs hf hc
      rwa [show decide (p.ss.length = onesN p.bs) = decide (WellP p) by rw [decide_eq_decide]; exact ⟨fun h => ⟨fun _ => List.eq_nil_of_length_eq_zero hc, by omega, h⟩, fun h => h.num⟩] at this
    · have := wn_f w p ok s1 s2 c1 c2 hv hf (by omega)
      rwa [show false = decide (WellP p) by rw [eq_comm, decide_eq_false_iff_not]; exact fun h => hc (by rw [h.emp hf]; rfl)] at this
set_option maxRecDepth 100000 in
set_option maxHeartbeats 2000000 in
theorem appendAns_f (w : World) (s1 : Option Addr) (n1 c1 : Nat) :
    Calls Try.prog 17 #[.slice none 0 0, .bool false, .slice s1 n1 c1] w fun e w' => ∃ v, e = .returned v ∧ Own w' w.heap.size v [0] ∧ Below w.heap.size w w' := by
  have hO := Own.nil w w.heap.size
  have hS := src_new w [0] 5 (0, 0) (by simp [maxLen])
  go_enter Try.func17, Try.ntmps17
  go_wp2_with (first | (at_builtin; refine wpList_push_any rfl (.tmp 9) (.tmp 10) rfl w.heap.size _ _ 0 rfl hO rfl (by simp) (Nat.le_refl _) _ _ ?_; intro v2 w2 hO2 hB2))
  go_ret
  exact ⟨_, rfl, hO2, hB2⟩
set_option maxRecDepth 100000 in
set_option maxHeartbeats 2000000 in
theorem appendAns_t (w : World) (vs : List Int) (s1 : Option Addr) (c1 : Nat) (hS : Src w s1 c1 vs) (hnil : s1 = none → c1 = 0) (hl : vs.length ≤ 128) :
    Calls Try.prog 17 #[.slice none 0 0, .bool true, .slice s1 vs.length c1] w fun e w' => ∃ v, e = .returned v ∧ Own w' w.heap.size v ([1, (vs.length : Int) % 256, (vs.length : Int) / 256] ++ vs) ∧ Below w.heap.size w w' := by
  have hO := Own.nil w w.heap.size
  have i1 : (vs.length : Int) ≤ 128 := by omega
  have HV := hid (show [1, (vs.length : Int) % 256, (vs.length : Int) / 256] = [1, (vs.length : Int), (vs.length : Int) / 256] by rw [show (vs.length : Int) % 256 = (vs.length : Int) by omega])
  rw [HV.out]
  have hS2 := src_new w [1, (vs.length : Int), (vs.length : Int) / 256] 5 (0, 0) (by simp [maxLen])
  have hS3 := hS.below ((Below.refl w.heap.size w).alloc (Nat.le_refl _) (.cells (ints .u8 [1, (vs.length : Int), (vs.length : Int) / 256]).toArray 5)) (Nat.le_refl _)
  have hl0 := hid hl
  clear HV
  generalize hn : vs.length = n at *
  have HN := hid hn
  clear hn
  go_enter Try.func17, Try.ntmps17
  go_wp2_with (first
    | (at_builtin; refine wpList_append_wide rfl (.tmp 12) (.tmp 20) rfl w.heap.size _ [] [1, (n : Int), (n : Int) / 256] rfl (own_pushes hO _) (some ⟨w.heap.size, 0, none⟩) 3 rfl (fun h => by cases h) hS2 (by simp) (by simp) ?_; intro v2 w2 hO2 hg2 hd2; refine Hid.out ?_))
  refine hid ?_
  have hb2 : Below w.heap.size w w2 := ((Below.refl _ w).alloc (Nat.le_refl _) _).trans (grown_keeps hg2 (fun k hk => (hO.block k hk).1) (by simp))
  have hS4 := hS.below hb2 (Nat.le_refl _)
  rw [List.nil_append] at hO2
  go_wp2_with (first
    | (at_builtin; refine wpList_append_wide rfl (.tmp 22) (.tmp 23) rfl w.heap.size _ [1, (n : Int), (n : Int) / 256] vs rfl hO2 s1 c1 (by rw [HN.out]; rfl) hnil hS4 (by have := hl0.out; have := HN.out; simp; omega) hb2.size ?_; intro v3 w3 hO3 hg3 hd3))
  go_ret
  exact ⟨_, rfl, hO3, hb2.trans (grown_keeps hg3 (fun k hk => (hO2.block k hk).1) hb2.size)⟩
end Go.Proofs.Ytlhmhpkgdcdjkaa
