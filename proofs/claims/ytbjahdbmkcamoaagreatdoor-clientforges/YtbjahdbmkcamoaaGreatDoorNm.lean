import Derived.Test.YtbjahdbmkcamoaaGreatDoorNe
namespace Go.Proofs.YtbjahdbmkcamoaaGreatDoor
set_option linter.unusedVariables false
set_option linter.unusedSimpArgs false
open Go.RowKit
attribute [local go_sem ↓] Go.wp_at_zero Go.wp_at_succ

theorem one8_half : ∀ v, v < 256 → one8 ((v : Nat) : Int) = v % 2 + one8 ((v / 2 : Nat) : Int) := by decide +kernel
theorem one8_zero : one8 0 = 0 := rfl
theorem own_new (w : World) (ys : List Int) (base : Nat) (hb : base ≤ w.heap.size) (hl : ys.length ≤ maxLen) : Own (w.alloc (.cells (ints .u8 ys).toArray 5)) base (.slice (some ⟨w.heap.size, 0, none⟩) ys.length ys.length) ys :=
  ⟨by rw [ints_len, Nat.mul_one], Or.inr ⟨w.heap.size, ys.length, (ints .u8 ys).toArray, rfl, hb, hnew w _, Nat.le_refl _, hl, by rw [ints_size, Nat.mul_one], by show (ints .u8 ys).take (ys.length * 1) = _; rw [List.take_of_length_le (by rw [ints_len]; omega)]⟩⟩
set_option maxRecDepth 100000 in
set_option maxHeartbeats 2000000 in
theorem xOnes_any (w : World) (bs : List Int) (hl : bs.length = 32) (hy : Bys bs) :
    Calls Tryz.prog 37 #[.agg (ints .u8 bs).toArray] w fun e w' => e = .returned (.int .i64 (onesN bs)) ∧ Below w.heap.size w w' := by
  have r0 := hnew w (.cells (ints .u8 bs).toArray 23)
  have hB := (Below.refl w.heap.size w).alloc (Nat.le_refl _) (.cells (ints .u8 bs).toArray 23)
  have ST := hid (fun k (h : k < bs.length) => onesN_take bs k h)
  have BD := hid (fun k => onesN_le (bs.take k))
  have TF := hid (show onesN (bs.take 32) = onesN bs by rw [List.take_of_length_le (by omega)])
  have CE := hid (fun k (h : k < bs.length) => cell_ints r0 k h)
  have BY := hid (fun k (h : k < bs.length) => hy.at k h)
  generalize ints .u8 bs = C at *
  go_enter Tryz.func37, Tryz.ntmps37
  go_wp2
  generalize w.alloc (.cells C.toArray 23) = w1 at *
  go_loopw [3, 4] (fun n i wr => w1 = wr ∧ ∃ k : Nat, k ≤ 32 ∧ i = .int .i64 k ∧ n = .int .i64 (onesN (bs.take k))) (fun _ i _ => 32 - (intOf i).toNat)
  case atStart => exact ⟨rfl, 0, by omega, rfl, rfl⟩
  case round =>
    obtain ⟨rfl, k, hk, rfl, rfl⟩ := hrel
    by_cases hlt : k < 32
    · have i1 : (k : Int) < 32 := by omega
      have hkl : k < bs.length := by omega
      have c0 := CE.out k hkl
      have st := hid (ST.out k hkl)
      have b1 := hid (show onesN (bs.take k) ≤ 256 by have := BD.out k; rw [List.length_take] at this; omega)
      have by1 := BY.out k hkl
      have h8 := hid (one8_le (bs.getD k 0))
      generalize bs.getD k 0 = x at *
      obtain ⟨x, rfl⟩ := Int.eq_ofNat_of_zero_le by1.1
      have ix : (x : Int) ≤ 255 := by omega
      generalize hO : onesN (bs.take k) = O at *
      clear hO by1
      go_wp2
      go_loopw [3, 5] (fun n v wr => w1 = wr ∧ ∃ y m : Nat, y ≤ 255 ∧ v = .int .i64 y ∧ n = .int .i64 m ∧ Hid (m + one8 (y : Int) = O + one8 (x : Int))) (fun _ v _ => (intOf v).toNat)
      case atStart => exact ⟨rfl, x, O, by omega, rfl, rfl, hid rfl⟩
      case round =>
        clear c0
        obtain ⟨rfl, y, m, hy1, rfl, rfl, hs⟩ := hrel
        have im : (m : Int) ≤ 264 := by have := hs.out; have := b1.out; have := h8.out; omega
        by_cases hp : 0 < y
        · have i2 : (0 : Int) < (y : Int) := by omega
          have i3 : (y : Int) ≤ 255 := by omega
          have HF := hid (one8_half y (by omega))
          go_wp2
          go_roundw
          case rel => exact ⟨trivial, y / 2, m + y % 2, by omega, by go_num, by go_num, hid (by have := hs.out; rw [HF.out] at this; omega)⟩
          case measure => simp [intOf]; omega
        · obtain rfl : y = 0 := by omega
          have hm : m = O + one8 (x : Int) := by have := hs.out; simpa [one8_zero] using this
          rw [show ((0 : Nat) : Int) = 0 from rfl]
          have HM := hid hm
          clear hs hm
          go_wp2
          go_roundw
          case rel => exact ⟨trivial, k + 1, by omega, by go_num, by rw [st.out, HM.out]⟩
          case measure => simp [intOf]; omega
    · obtain rfl : k = 32 := by omega
      rw [TF.out]
      go_wp2
      go_ret
      exact ⟨rfl, hB⟩
set_option maxRecDepth 100000 in
set_option maxHeartbeats 2000000 in
theorem xenc_fn (w : World) (p : Pf) (ok : PfOk p) (y : PfY p) (s1 s2 : Option Addr) (c1 c2 : Nat) (hv : p.vs.length ≤ 9223372036854775807) (hs : p.ss.length ≤ 9223372036854775807) (hf : p.f = false) (hc : 0 < p.vs.length) :
    Calls Tryz.prog 19 #[.agg (pfC p (.slice s1 p.vs.length c1) (.slice s2 p.ss.length c2)).toArray] w fun e w' => e = .returned (.tuple #[.slice none 0 0, .int .i64 120]) ∧ Below w.heap.size w w' := by
  have d0 := (BK.nil w).alloc (pfC p (.slice s1 p.vs.length c1) (.slice s2 p.ss.length c2)) 52
  have k0 := pfC_f p (.slice s1 p.vs.length c1) (.slice s2 p.ss.length c2)
  have k1 := pfC_v p (.slice s1 p.vs.length c1) (.slice s2 p.ss.length c2)
  have k34 := pfC_s ok (.slice s1 p.vs.length c1) (.slice s2 p.ss.length c2)
  have kb := pfC_b p (.slice s1 p.vs.length c1) (.slice s2 p.ss.length c2)
  have LS := hid (show (Tryz.prog.info? 23).map (·.size) = some (ints .u8 p.bs).length by rw [Tryz.sizeA, ints_len, ok.bs])
  have KC := hid (fun w1 => xOnes_any w1 p.bs ok.bs y.bs)
  have b1 : (onesN p.bs : Int) ≤ 256 := by have := onesN_le p.bs; have := ok.bs; omega
  have i3 : (0 : Int) < (p.vs.length : Int) := by omega
  have i0 : (p.vs.length : Int) ≤ 9223372036854775807 := by omega
  have i9 : (p.ss.length : Int) ≤ 9223372036854775807 := by omega
  rw [hf] at k0
  generalize pfC p (.slice s1 p.vs.length c1) (.slice s2 p.ss.length c2) = C at *
  generalize p.vs.length = n at *
  generalize ints .u8 p.bs = IB at *
  generalize onesN p.bs = O at *
  generalize p.ss.length = m at *
  go_enter Tryz.func19, Tryz.ntmps19
  go_wp2
  refine wp_region_noPanic ?_
  refine wp_region_held_drew (S := (fun w' => BK w w' [(w.heap.size, C, 52)])) (by kernel_rfl) d0.drew (fun hHeld => ?_)
  refine wpAnyH_take (i := 0) (oi := { dst := some 9, op := Op.fieldAddr 52 (Operand.tmp 1) 0, type := 0, pos := "ref.go:184", after := #[], guard := none }) (v := .pointer (some ⟨w.heap.size, 0, none⟩)) rfl (by kernel_rfl) (by kernel_rfl) (by kernel_rfl) (fun _ _ _ h => h) (Or.inl ⟨by rfl, by intro w hS; go_simp⟩) hHeld ?_
  try simp only [Act.put, List.setIfInBounds_toArray, List.set_cons_zero, List.set_cons_succ]
  refine wpAnyH_take (i := 1) (oi := { dst := some 10, op := Op.load 4 (Operand.tmp 9), type := 4, pos := "ref.go:184", after := #[{ on := 0, ground := Ground.data }], guard := none }) (v := .bool false) rfl (by kernel_rfl) (by kernel_rfl) (by kernel_rfl) (fun _ _ _ h => h) (Or.inl ⟨by rfl, by intro w hS; have hc := hS.cell (.head _) k0; go_simp⟩) hHeld ?_
  try simp only [Act.put, List.setIfInBounds_toArray, List.set_cons_zero, List.set_cons_succ]
  refine wpAnyH_take (i := 2) (oi := { dst := some 11, op := Op.unOp UnOp.not 4 (Operand.tmp 10), type := 4, pos := "ref.go:184", after := #[{ on := 1, ground := Ground.data }], guard := none }) (v := .bool true) rfl (by kernel_rfl) (by kernel_rfl) (by kernel_rfl) (fun _ _ _ h => h) (Or.inl ⟨by rfl, by intro w hS; go_simp⟩) hHeld ?_
  try simp only [Act.put, List.setIfInBounds_toArray, List.set_cons_zero, List.set_cons_succ]
  refine wpAnyH_take (i := 3) (oi := { dst := some 12, op := Op.move (Operand.tmp 11), type := 4, pos := "ref.go:184", after := #[{ on := 2, ground := Ground.data }], guard := none }) (v := .bool true) rfl (by kernel_rfl) (by kernel_rfl) (by kernel_rfl) (fun _ _ _ h => h) (Or.inl ⟨by rfl, by intro w hS; go_simp⟩) hHeld ?_
  try simp only [Act.put, List.setIfInBounds_toArray, List.set_cons_zero, List.set_cons_succ]
  refine wpAnyH_take (i := 4) (oi := { dst := some 13, op := Op.fieldAddr 52 (Operand.tmp 1) 1, type := 0, pos := "ref.go:184", after := #[{ on := 3, ground := Ground.guard }], guard := some (3, true) }) (v := .pointer (some ⟨w.heap.size, 1, none⟩)) rfl (by kernel_rfl) (by kernel_rfl) (by kernel_rfl) (fun _ _ _ h => h) (Or.inl ⟨by rfl, by intro w hS; go_simp⟩) hHeld ?_
  try simp only [Act.put, List.setIfInBounds_toArray, List.set_cons_zero, List.set_cons_succ]
  refine wpAnyH_take (i := 5) (oi := { dst := some 14, op := Op.load 30 (Operand.tmp 13), type := 30, pos := "ref.go:184", after := #[{ on := 4, ground := Ground.data }, { on := 3, ground := Ground.guard }], guard := some (3, true) }) (v := .slice s1 n c1) rfl (by kernel_rfl) (by kernel_rfl) (by kernel_rfl) (fun _ _ _ h => h) (Or.inl ⟨by rfl, by intro w hS; have hc := hS.cell (.head _) k1; go_simp⟩) hHeld ?_
  try simp only [Act.put, List.setIfInBounds_toArray, List.set_cons_zero, List.set_cons_succ]
  refine wpAnyH_take (i := 6) (oi := { dst := some 15, op := Op.call { callee := Callee.builtin Builtin.len, args := #[Operand.tmp 14], argTypes := #[30] }, type := 3, pos := "ref.go:184", after := #[{ on := 5, ground := Ground.data }, { on := 3, ground := Ground.guard }], guard := some (3, true) }) (v := .int .i64 n) rfl (by kernel_rfl) (by kernel_rfl) (by kernel_rfl) (fun _ _ _ h => h) (Or.inl ⟨by rfl, by intro w hS; go_simp⟩) hHeld ?_
  try simp only [Act.put, List.setIfInBounds_toArray, List.set_cons_zero, List.set_cons_succ]
  refine wpAnyH_take (i := 7) (oi := { dst := some 16, op := Op.binOp BinOp.gtr 3 (Operand.tmp 15) (Operand.const (Value.int IntKind.i64 0)) 3, type := 4, pos := "ref.go:184", after := #[{ on := 6, ground := Ground.data }, { on := 3, ground := Ground.guard }], guard := some (3, true) }) (v := .bool true) rfl (by kernel_rfl) (by kernel_rfl) (by kernel_rfl) (fun _ _ _ h => h) (Or.inl ⟨by rfl, by intro w hS; go_simp⟩) hHeld ?_
  try simp only [Act.put, List.setIfInBounds_toArray, List.set_cons_zero, List.set_cons_succ]
  refine wpAnyH_take (i := 8) (oi := { dst := some 17, op := Op.pick (Operand.tmp 12) (Operand.tmp 16) (Operand.const (Value.bool false)), type := 4, pos := "ref.go:184", after := #[{ on := 3, ground := Ground.data }, { on := 7, ground := Ground.data }], guard := none }) (v := .bool true) rfl (by kernel_rfl) (by kernel_rfl) (by kernel_rfl) (fun _ _ _ h => h) (Or.inl ⟨by rfl, by intro w hS; go_simp⟩) hHeld ?_
  try simp only [Act.put, List.setIfInBounds_toArray, List.set_cons_zero, List.set_cons_succ]
  refine wpAnyH_take (i := 9) (oi := { dst := some 18, op := Op.move (Operand.tmp 17), type := 4, pos := "ref.go:184", after := #[{ on := 8, ground := Ground.data }, { on := 3, ground := Ground.chain }], guard := none }) (v := .bool true) rfl (by kernel_rfl) (by kernel_rfl) (by kernel_rfl) (fun _ _ _ h => h) (Or.inl ⟨by rfl, by intro w hS; go_simp⟩) hHeld ?_
  try simp only [Act.put, List.setIfInBounds_toArray, List.set_cons_zero, List.set_cons_succ]
  refine wpAnyH_take (i := 10) (oi := { dst := some 19, op := Op.fieldAddr 52 (Operand.tmp 1) 1, type := 0, pos := "ref.go:184", after := #[{ on := 9, ground := Ground.guard }], guard := some (9, false) }) (v := undef) rfl (by kernel_rfl) (by kernel_rfl) (by kernel_rfl) (fun _ _ _ h => h) (Or.inr ⟨by rfl, rfl⟩) hHeld ?_
  try simp only [Act.put, List.setIfInBounds_toArray, List.set_cons_zero, List.set_cons_succ]
  refine wpAnyH_take (i := 11) (oi := { dst := some 20, op := Op.load 30 (Operand.tmp 19), type := 30, pos := "ref.go:184", after := #[{ on := 10, ground := Ground.data }, { on := 9, ground := Ground.guard }], guard := some (9, false) }) (v := undef) rfl (by kernel_rfl) (by kernel_rfl) (by kernel_rfl) (fun _ _ _ h => h) (Or.inr ⟨by rfl, rfl⟩) hHeld ?_
  try simp only [Act.put, List.setIfInBounds_toArray, List.set_cons_zero, List.set_cons_succ]
  refine wpAnyH_take (i := 12) (oi := { dst := some 21, op := Op.call { callee := Callee.builtin Builtin.len, args := #[Operand.tmp 20], argTypes := #[30] }, type := 3, pos := "ref.go:184", after := #[{ on := 11, ground := Ground.data }, { on := 9, ground := Ground.guard }], guard := some (9, false) }) (v := undef) rfl (by kernel_rfl) (by kernel_rfl) (by kernel_rfl) (fun _ _ _ h => h) (Or.inr ⟨by rfl, rfl⟩) hHeld ?_
  try simp only [Act.put, List.setIfInBounds_toArray, List.set_cons_zero, List.set_cons_succ]
  refine wpAnyH_take (i := 13) (oi := { dst := some 22, op := Op.binOp BinOp.gtr 3 (Operand.tmp 21) (Operand.const (Value.int IntKind.i64 128)) 3, type := 4, pos := "ref.go:184", after := #[{ on := 12, ground := Ground.data }, { on := 9, ground := Ground.guard }], guard := some (9, false) }) (v := undef) rfl (by kernel_rfl) (by kernel_rfl) (by kernel_rfl) (fun _ _ _ h => h) (Or.inr ⟨by rfl, rfl⟩) hHeld ?_
  try simp only [Act.put, List.setIfInBounds_toArray, List.set_cons_zero, List.set_cons_succ]
  refine wpAnyH_take (i := 14) (oi := { dst := some 23, op := Op.pick (Operand.tmp 18) (Operand.const (Value.bool true)) (Operand.tmp 22), type := 4, pos := "ref.go:184", after := #[{ on := 9, ground := Ground.data }, { on := 13, ground := Ground.data }], guard := none }) (v := .bool true) rfl (by kernel_rfl) (by kernel_rfl) (by kernel_rfl) (fun _ _ _ h => h) (Or.inl ⟨by rfl, by intro w hS; go_simp⟩) hHeld ?_
  try simp only [Act.put, List.setIfInBounds_toArray, List.set_cons_zero, List.set_cons_succ]
  refine wpAnyH_take (i := 15) (oi := { dst := some 24, op := Op.move (Operand.tmp 23), type := 4, pos := "ref.go:184", after := #[{ on := 14, ground := Ground.data }, { on := 9, ground := Ground.chain }], guard := none }) (v := .bool true) rfl (by kernel_rfl) (by kernel_rfl) (by kernel_rfl) (fun _ _ _ h => h) (Or.inl ⟨by rfl, by intro w hS; go_simp⟩) hHeld ?_
  try simp only [Act.put, List.setIfInBounds_toArray, List.set_cons_zero, List.set_cons_succ]
  refine wpAnyH_take (i := 16) (oi := { dst := some 25, op := Op.fieldAddr 52 (Operand.tmp 1) 3, type := 0, pos := "ref.go:184", after := #[{ on := 15, ground := Ground.guard }], guard := some (15, false) }) (v := undef) rfl (by kernel_rfl) (by kernel_rfl) (by kernel_rfl) (fun _ _ _ h => h) (Or.inr ⟨by rfl, rfl⟩) hHeld ?_
  try simp only [Act.put, List.setIfInBounds_toArray, List.set_cons_zero, List.set_cons_succ]
  refine wpAnyH_take (i := 19) (oi := { dst := some 28, op := Op.fieldAddr 52 (Operand.tmp 1) 2, type := 0, pos := "ref.go:184", after := #[{ on := 15, ground := Ground.guard }], guard := some (15, false) }) (v := undef) rfl (by kernel_rfl) (by kernel_rfl) (by kernel_rfl) (fun _ _ _ h => h) (Or.inr ⟨by rfl, rfl⟩) hHeld ?_
  try simp only [Act.put, List.setIfInBounds_toArray, List.set_cons_zero, List.set_cons_succ]
  refine wpAnyH_take (i := 17) (oi := { dst := some 26, op := Op.load 48 (Operand.tmp 25), type := 48, pos := "ref.go:184", after := #[{ on := 16, ground := Ground.data }, { on := 15, ground := Ground.guard }], guard := some (15, false) }) (v := undef) rfl (by kernel_rfl) (by kernel_rfl) (by kernel_rfl) (fun _ _ _ h => h) (Or.inr ⟨by rfl, rfl⟩) hHeld ?_
  try simp only [Act.put, List.setIfInBounds_toArray, List.set_cons_zero, List.set_cons_succ]
  refine wpAnyH_take (i := 20) (oi := { dst := some 29, op := Op.load 23 (Operand.tmp 28), type := 23, pos := "ref.go:184", after := #[{ on := 19, ground := Ground.data }, { on := 15, ground := Ground.guard }], guard := some (15, false) }) (v := undef) rfl (by kernel_rfl) (by kernel_rfl) (by kernel_rfl) (fun _ _ _ h => h) (Or.inr ⟨by rfl, rfl⟩) hHeld ?_
  try simp only [Act.put, List.setIfInBounds_toArray, List.set_cons_zero, List.set_cons_succ]
  refine wpAnyH_take (i := 18) (oi := { dst := some 27, op := Op.call { callee := Callee.builtin Builtin.len, args := #[Operand.tmp 26], argTypes := #[48] }, type := 3, pos := "ref.go:184", after := #[{ on := 17, ground := Ground.data }, { on := 15, ground := Ground.guard }], guard := some (15, false) }) (v := undef) rfl (by kernel_rfl) (by kernel_rfl) (by kernel_rfl) (fun _ _ _ h => h) (Or.inr ⟨by rfl, rfl⟩) hHeld ?_
  try simp only [Act.put, List.setIfInBounds_toArray, List.set_cons_zero, List.set_cons_succ]
  refine wpAnyH_take (i := 21) (oi := { dst := some 30, op := Op.call { callee := Callee.value (Operand.func 37), args := #[Operand.tmp 29], argTypes := #[23] }, type := 3, pos := "ref.go:184", after := #[{ on := 20, ground := Ground.data }, { on := 15, ground := Ground.chain }, { on := 15, ground := Ground.guard }], guard := some (15, false) }) (v := undef) rfl (by kernel_rfl) (by kernel_rfl) (by kernel_rfl) (fun _ _ _ h => h) (Or.inr ⟨by rfl, rfl⟩) hHeld ?_
  try simp only [Act.put, List.setIfInBounds_toArray, List.set_cons_zero, List.set_cons_succ]
  refine wpAnyH_take (i := 22) (oi := { dst := some 31, op := Op.binOp BinOp.neq 3 (Operand.tmp 27) (Operand.tmp 30) 3, type := 4, pos := "ref.go:184", after := #[{ on := 18, ground := Ground.data }, { on := 21, ground := Ground.data }, { on := 15, ground := Ground.guard }], guard := some (15, false) }) (v := undef) rfl (by kernel_rfl) (by kernel_rfl) (by kernel_rfl) (fun _ _ _ h => h) (Or.inr ⟨by rfl, rfl⟩) hHeld ?_
  try simp only [Act.put, List.setIfInBounds_toArray, List.set_cons_zero, List.set_cons_succ]
  refine wpAnyH_take (i := 23) (oi := { dst := some 32, op := Op.pick (Operand.tmp 24) (Operand.const (Value.bool true)) (Operand.tmp 31), type := 4, pos := "ref.go:184", after := #[{ on := 15, ground := Ground.data }, { on := 22, ground := Ground.data }], guard := none }) (v := .bool true) rfl (by kernel_rfl) (by kernel_rfl) (by kernel_rfl) (fun _ _ _ h => h) (Or.inl ⟨by rfl, by intro w hS; go_simp⟩) hHeld ?_
  try simp only [Act.put, List.setIfInBounds_toArray, List.set_cons_zero, List.set_cons_succ]
  refine wpAnyH_done (by kernel_rfl) ?_ _
  refine NoPanic.normal ?_
  go_wp2
  exact bodyPost_ret (results_tmp2 Tryz.results19 _ _ _) rfl ⟨rfl, hHeld.1⟩
set_option maxRecDepth 100000 in
set_option maxHeartbeats 2000000 in
theorem xenc_tn (w : World) (p : Pf) (ok : PfOk p) (y : PfY p) (s1 s2 : Option Addr) (c1 c2 : Nat) (hv : p.vs.length ≤ 9223372036854775807) (hs : p.ss.length ≤ 9223372036854775807) (hf : p.f = true) (hc : 128 < p.vs.length) :
    Calls Tryz.prog 19 #[.agg (pfC p (.slice s1 p.vs.length c1) (.slice s2 p.ss.length c2)).toArray] w fun e w' => e = .returned (.tuple #[.slice none 0 0, .int .i64 120]) ∧ Below w.heap.size w w' := by
  have d0 := (BK.nil w).alloc (pfC p (.slice s1 p.vs.length c1) (.slice s2 p.ss.length c2)) 52
  have k0 := pfC_f p (.slice s1 p.vs.length c1) (.slice s2 p.ss.length c2)
  have k1 := pfC_v p (.slice s1 p.vs.length c1) (.slice s2 p.ss.length c2)
  have k34 := pfC_s ok (.slice s1 p.vs.length c1) (.slice s2 p.ss.length c2)
  have kb := pfC_b p (.slice s1 p.vs.length c1) (.slice s2 p.ss.length c2)
  have LS := hid (show (Tryz.prog.info? 23).map (·.size) = some (ints .u8 p.bs).length by rw [Tryz.sizeA, ints_len, ok.bs])
  have KC := hid (fun w1 => xOnes_any w1 p.bs ok.bs y.bs)
  have b1 : (onesN p.bs : Int) ≤ 256 := by have := onesN_le p.bs; have := ok.bs; omega
  have i3 : (128 : Int) < (p.vs.length : Int) := by omega
  have i0 : (p.vs.length : Int) ≤ 9223372036854775807 := by omega
  have i9 : (p.ss.length : Int) ≤ 9223372036854775807 := by omega
  rw [hf] at k0
  generalize pfC p (.slice s1 p.vs.length c1) (.slice s2 p.ss.length c2) = C at *
  generalize p.vs.length = n at *
  generalize ints .u8 p.bs = IB at *
  generalize onesN p.bs = O at *
  generalize p.ss.length = m at *
  go_enter Tryz.func19, Tryz.ntmps19
  go_wp2
  refine wp_region_noPanic ?_
  refine wp_region_held_drew (S := (fun w' => BK w w' [(w.heap.size, C, 52)])) (by kernel_rfl) d0.drew (fun hHeld => ?_)
  refine wpAnyH_take (i := 0) (oi := { dst := some 9, op := Op.fieldAddr 52 (Operand.tmp 1) 0, type := 0, pos := "ref.go:184", after := #[], guard := none }) (v := .pointer (some ⟨w.heap.size, 0, none⟩)) rfl (by kernel_rfl) (by kernel_rfl) (by kernel_rfl) (fun _ _ _ h => h) (Or.inl ⟨by rfl, by intro w hS; go_simp⟩) hHeld ?_
  try simp only [Act.put, List.setIfInBounds_toArray, List.set_cons_zero, List.set_cons_succ]
  refine wpAnyH_take (i := 1) (oi := { dst := some 10, op := Op.load 4 (Operand.tmp 9), type := 4, pos := "ref.go:184", after := #[{ on := 0, ground := Ground.data }], guard := none }) (v := .bool true) rfl (by kernel_rfl) (by kernel_rfl) (by kernel_rfl) (fun _ _ _ h => h) (Or.inl ⟨by rfl, by intro w hS; have hc := hS.cell (.head _) k0; go_simp⟩) hHeld ?_
  try simp only [Act.put, List.setIfInBounds_toArray, List.set_cons_zero, List.set_cons_succ]
  refine wpAnyH_take (i := 2) (oi := { dst := some 11, op := Op.unOp UnOp.not 4 (Operand.tmp 10), type := 4, pos := "ref.go:184", after := #[{ on := 1, ground := Ground.data }], guard := none }) (v := .bool false) rfl (by kernel_rfl) (by kernel_rfl) (by kernel_rfl) (fun _ _ _ h => h) (Or.inl ⟨by rfl, by intro w hS; go_simp⟩) hHeld ?_
  try simp only [Act.put, List.setIfInBounds_toArray, List.set_cons_zero, List.set_cons_succ]
  refine wpAnyH_take (i := 3) (oi := { dst := some 12, op := Op.move (Operand.tmp 11), type := 4, pos := "ref.go:184", after := #[{ on := 2, ground := Ground.data }], guard := none }) (v := .bool false) rfl (by kernel_rfl) (by kernel_rfl) (by kernel_rfl) (fun _ _ _ h => h) (Or.inl ⟨by rfl, by intro w hS; go_simp⟩) hHeld ?_
  try simp only [Act.put, List.setIfInBounds_toArray, List.set_cons_zero, List.set_cons_succ]
  refine wpAnyH_take (i := 4) (oi := { dst := some 13, op := Op.fieldAddr 52 (Operand.tmp 1) 1, type := 0, pos := "ref.go:184", after := #[{ on := 3, ground := Ground.guard }], guard := some (3, true) }) (v := undef) rfl (by kernel_rfl) (by kernel_rfl) (by kernel_rfl) (fun _ _ _ h => h) (Or.inr ⟨by rfl, rfl⟩) hHeld ?_
  try simp only [Act.put, List.setIfInBounds_toArray, List.set_cons_zero, List.set_cons_succ]
  refine wpAnyH_take (i := 5) (oi := { dst := some 14, op := Op.load 30 (Operand.tmp 13), type := 30, pos := "ref.go:184", after := #[{ on := 4, ground := Ground.data }, { on := 3, ground := Ground.guard }], guard := some (3, true) }) (v := undef) rfl (by kernel_rfl) (by kernel_rfl) (by kernel_rfl) (fun _ _ _ h => h) (Or.inr ⟨by rfl, rfl⟩) hHeld ?_
  try simp only [Act.put, List.setIfInBounds_toArray, List.set_cons_zero, List.set_cons_succ]
  refine wpAnyH_take (i := 6) (oi := { dst := some 15, op := Op.call { callee := Callee.builtin Builtin.len, args := #[Operand.tmp 14], argTypes := #[30] }, type := 3, pos := "ref.go:184", after := #[{ on := 5, ground := Ground.data }, { on := 3, ground := Ground.guard }], guard := some (3, true) }) (v := undef) rfl (by kernel_rfl) (by kernel_rfl) (by kernel_rfl) (fun _ _ _ h => h) (Or.inr ⟨by rfl, rfl⟩) hHeld ?_
  try simp only [Act.put, List.setIfInBounds_toArray, List.set_cons_zero, List.set_cons_succ]
  refine wpAnyH_take (i := 7) (oi := { dst := some 16, op := Op.binOp BinOp.gtr 3 (Operand.tmp 15) (Operand.const (Value.int IntKind.i64 0)) 3, type := 4, pos := "ref.go:184", after := #[{ on := 6, ground := Ground.data }, { on := 3, ground := Ground.guard }], guard := some (3, true) }) (v := undef) rfl (by kernel_rfl) (by kernel_rfl) (by kernel_rfl) (fun _ _ _ h => h) (Or.inr ⟨by rfl, rfl⟩) hHeld ?_
  try simp only [Act.put, List.setIfInBounds_toArray, List.set_cons_zero, List.set_cons_succ]
  refine wpAnyH_take (i := 8) (oi := { dst := some 17, op := Op.pick (Operand.tmp 12) (Operand.tmp 16) (Operand.const (Value.bool false)), type := 4, pos := "ref.go:184", after := #[{ on := 3, ground := Ground.data }, { on := 7, ground := Ground.data }], guard := none }) (v := .bool false) rfl (by kernel_rfl) (by kernel_rfl) (by kernel_rfl) (fun _ _ _ h => h) (Or.inl ⟨by rfl, by intro w hS; go_simp⟩) hHeld ?_
  try simp only [Act.put, List.setIfInBounds_toArray, List.set_cons_zero, List.set_cons_succ]
  refine wpAnyH_take (i := 9) (oi := { dst := some 18, op := Op.move (Operand.tmp 17), type := 4, pos := "ref.go:184", after := #[{ on := 8, ground := Ground.data }, { on := 3, ground := Ground.chain }], guard := none }) (v := .bool false) rfl (by kernel_rfl) (by kernel_rfl) (by kernel_rfl) (fun _ _ _ h => h) (Or.inl ⟨by rfl, by intro w hS; go_simp⟩) hHeld ?_
  try simp only [Act.put, List.setIfInBounds_toArray, List.set_cons_zero, List.set_cons_succ]
  refine wpAnyH_take (i := 10) (oi := { dst := some 19, op := Op.fieldAddr 52 (Operand.tmp 1) 1, type := 0, pos := "ref.go:184", after := #[{ on := 9, ground := Ground.guard }], guard := some (9, false) }) (v := .pointer (some ⟨w.heap.size, 1, none⟩)) rfl (by kernel_rfl) (by kernel_rfl) (by kernel_rfl) (fun _ _ _ h => h) (Or.inl ⟨by rfl, by intro w hS; go_simp⟩) hHeld ?_
  try simp only [Act.put, List.setIfInBounds_toArray, List.set_cons_zero, List.set_cons_succ]
  refine wpAnyH_take (i := 11) (oi := { dst := some 20, op := Op.load 30 (Operand.tmp 19), type := 30, pos := "ref.go:184", after := #[{ on := 10, ground := Ground.data }, { on := 9, ground := Ground.guard }], guard := some (9, false) }) (v := .slice s1 n c1) rfl (by kernel_rfl) (by kernel_rfl) (by kernel_rfl) (fun _ _ _ h => h) (Or.inl ⟨by rfl, by intro w hS; have hc := hS.cell (.head _) k1; go_simp⟩) hHeld ?_
  try simp only [Act.put, List.setIfInBounds_toArray, List.set_cons_zero, List.set_cons_succ]
  refine wpAnyH_take (i := 12) (oi := { dst := some 21, op := Op.call { callee := Callee.builtin Builtin.len, args := #[Operand.tmp 20], argTypes := #[30] }, type := 3, pos := "ref.go:184", after := #[{ on := 11, ground := Ground.data }, { on := 9, ground := Ground.guard }], guard := some (9, false) }) (v := .int .i64 n) rfl (by kernel_rfl) (by kernel_rfl) (by kernel_rfl) (fun _ _ _ h => h) (Or.inl ⟨by rfl, by intro w hS; go_simp⟩) hHeld ?_
  try simp only [Act.put, List.setIfInBounds_toArray, List.set_cons_zero, List.set_cons_succ]
  refine wpAnyH_take (i := 13) (oi := { dst := some 22, op := Op.binOp BinOp.gtr 3 (Operand.tmp 21) (Operand.const (Value.int IntKind.i64 128)) 3, type := 4, pos := "ref.go:184", after := #[{ on := 12, ground := Ground.data }, { on := 9, ground := Ground.guard }], guard := some (9, false) }) (v := .bool true) rfl (by kernel_rfl) (by kernel_rfl) (by kernel_rfl) (fun _ _ _ h => h) (Or.inl ⟨by rfl, by intro w hS; go_simp⟩) hHeld ?_
  try simp only [Act.put, List.setIfInBounds_toArray, List.set_cons_zero, List.set_cons_succ]
  refine wpAnyH_take (i := 14) (oi := { dst := some 23, op := Op.pick (Operand.tmp 18) (Operand.const (Value.bool true)) (Operand.tmp 22), type := 4, pos := "ref.go:184", after := #[{ on := 9, ground := Ground.data }, { on := 13, ground := Ground.data }], guard := none }) (v := .bool true) rfl (by kernel_rfl) (by kernel_rfl) (by kernel_rfl) (fun _ _ _ h => h) (Or.inl ⟨by rfl, by intro w hS; go_simp⟩) hHeld ?_
  try simp only [Act.put, List.setIfInBounds_toArray, List.set_cons_zero, List.set_cons_succ]
  refine wpAnyH_take (i := 15) (oi := { dst := some 24, op := Op.move (Operand.tmp 23), type := 4, pos := "ref.go:184", after := #[{ on := 14, ground := Ground.data }, { on := 9, ground := Ground.chain }], guard := none }) (v := .bool true) rfl (by kernel_rfl) (by kernel_rfl) (by kernel_rfl) (fun _ _ _ h => h) (Or.inl ⟨by rfl, by intro w hS; go_simp⟩) hHeld ?_
  try simp only [Act.put, List.setIfInBounds_toArray, List.set_cons_zero, List.set_cons_succ]
  refine wpAnyH_take (i := 16) (oi := { dst := some 25, op := Op.fieldAddr 52 (Operand.tmp 1) 3, type := 0, pos := "ref.go:184", after := #[{ on := 15, ground := Ground.guard }], guard := some (15, false) }) (v := undef) rfl (by kernel_rfl) (by kernel_rfl) (by kernel_rfl) (fun _ _ _ h => h) (Or.inr ⟨by rfl, rfl⟩) hHeld ?_
  try simp only [Act.put, List.setIfInBounds_toArray, List.set_cons_zero, List.set_cons_succ]
  refine wpAnyH_take (i := 19) (oi := { dst := some 28, op := Op.fieldAddr 52 (Operand.tmp 1) 2, type := 0, pos := "ref.go:184", after := #[{ on := 15, ground := Ground.guard }], guard := some (15, false) }) (v := undef) rfl (by kernel_rfl) (by kernel_rfl) (by kernel_rfl) (fun _ _ _ h => h) (Or.inr ⟨by rfl, rfl⟩) hHeld ?_
  try simp only [Act.put, List.setIfInBounds_toArray, List.set_cons_zero, List.set_cons_succ]
  refine wpAnyH_take (i := 17) (oi := { dst := some 26, op := Op.load 48 (Operand.tmp 25), type := 48, pos := "ref.go:184", after := #[{ on := 16, ground := Ground.data }, { on := 15, ground := Ground.guard }], guard := some (15, false) }) (v := undef) rfl (by kernel_rfl) (by kernel_rfl) (by kernel_rfl) (fun _ _ _ h => h) (Or.inr ⟨by rfl, rfl⟩) hHeld ?_
  try simp only [Act.put, List.setIfInBounds_toArray, List.set_cons_zero, List.set_cons_succ]
  refine wpAnyH_take (i := 20) (oi := { dst := some 29, op := Op.load 23 (Operand.tmp 28), type := 23, pos := "ref.go:184", after := #[{ on := 19, ground := Ground.data }, { on := 15, ground := Ground.guard }], guard := some (15, false) }) (v := undef) rfl (by kernel_rfl) (by kernel_rfl) (by kernel_rfl) (fun _ _ _ h => h) (Or.inr ⟨by rfl, rfl⟩) hHeld ?_
  try simp only [Act.put, List.setIfInBounds_toArray, List.set_cons_zero, List.set_cons_succ]
  refine wpAnyH_take (i := 18) (oi := { dst := some 27, op := Op.call { callee := Callee.builtin Builtin.len, args := #[Operand.tmp 26], argTypes := #[48] }, type := 3, pos := "ref.go:184", after := #[{ on := 17, ground := Ground.data }, { on := 15, ground := Ground.guard }], guard := some (15, false) }) (v := undef) rfl (by kernel_rfl) (by kernel_rfl) (by kernel_rfl) (fun _ _ _ h => h) (Or.inr ⟨by rfl, rfl⟩) hHeld ?_
  try simp only [Act.put, List.setIfInBounds_toArray, List.set_cons_zero, List.set_cons_succ]
  refine wpAnyH_take (i := 21) (oi := { dst := some 30, op := Op.call { callee := Callee.value (Operand.func 37), args := #[Operand.tmp 29], argTypes := #[23] }, type := 3, pos := "ref.go:184", after := #[{ on := 20, ground := Ground.data }, { on := 15, ground := Ground.chain }, { on := 15, ground := Ground.guard }], guard := some (15, false) }) (v := undef) rfl (by kernel_rfl) (by kernel_rfl) (by kernel_rfl) (fun _ _ _ h => h) (Or.inr ⟨by rfl, rfl⟩) hHeld ?_
  try simp only [Act.put, List.setIfInBounds_toArray, List.set_cons_zero, List.set_cons_succ]
  refine wpAnyH_take (i := 22) (oi := { dst := some 31, op := Op.binOp BinOp.neq 3 (Operand.tmp 27) (Operand.tmp 30) 3, type := 4, pos := "ref.go:184", after := #[{ on := 18, ground := Ground.data }, { on := 21, ground := Ground.data }, { on := 15, ground := Ground.guard }], guard := some (15, false) }) (v := undef) rfl (by kernel_rfl) (by kernel_rfl) (by kernel_rfl) (fun _ _ _ h => h) (Or.inr ⟨by rfl, rfl⟩) hHeld ?_
  try simp only [Act.put, List.setIfInBounds_toArray, List.set_cons_zero, List.set_cons_succ]
  refine wpAnyH_take (i := 23) (oi := { dst := some 32, op := Op.pick (Operand.tmp 24) (Operand.const (Value.bool true)) (Operand.tmp 31), type := 4, pos := "ref.go:184", after := #[{ on := 15, ground := Ground.data }, { on := 22, ground := Ground.data }], guard := none }) (v := .bool true) rfl (by kernel_rfl) (by kernel_rfl) (by kernel_rfl) (fun _ _ _ h => h) (Or.inl ⟨by rfl, by intro w hS; go_simp⟩) hHeld ?_
  try simp only [Act.put, List.setIfInBounds_toArray, List.set_cons_zero, List.set_cons_succ]
  refine wpAnyH_done (by kernel_rfl) ?_ _
  refine NoPanic.normal ?_
  go_wp2
  exact bodyPost_ret (results_tmp2 Tryz.results19 _ _ _) rfl ⟨rfl, hHeld.1⟩
set_option maxRecDepth 100000 in
set_option maxHeartbeats 2000000 in
theorem xenc_tq (w : World) (p : Pf) (ok : PfOk p) (y : PfY p) (s1 s2 : Option Addr) (c1 c2 : Nat) (hv : p.vs.length ≤ 9223372036854775807) (hs : p.ss.length ≤ 9223372036854775807) (hf : p.f = true) (hc : p.vs.length ≤ 128) (hq : ¬ p.ss.length = onesN p.bs) :
    Calls Tryz.prog 19 #[.agg (pfC p (.slice s1 p.vs.length c1) (.slice s2 p.ss.length c2)).toArray] w fun e w' => e = .returned (.tuple #[.slice none 0 0, .int .i64 120]) ∧ Below w.heap.size w w' := by
  have d0 := (BK.nil w).alloc (pfC p (.slice s1 p.vs.length c1) (.slice s2 p.ss.length c2)) 52
  have k0 := pfC_f p (.slice s1 p.vs.length c1) (.slice s2 p.ss.length c2)
  have k1 := pfC_v p (.slice s1 p.vs.length c1) (.slice s2 p.ss.length c2)
  have k34 := pfC_s ok (.slice s1 p.vs.length c1) (.slice s2 p.ss.length c2)
  have kb := pfC_b p (.slice s1 p.vs.length c1) (.slice s2 p.ss.length c2)
  have LS := hid (show (Tryz.prog.info? 23).map (·.size) = some (ints .u8 p.bs).length by rw [Tryz.sizeA, ints_len, ok.bs])
  have KC := hid (fun w1 => xOnes_any w1 p.bs ok.bs y.bs)
  have b1 : (onesN p.bs : Int) ≤ 256 := by have := onesN_le p.bs; have := ok.bs; omega
  have i3 : (p.vs.length : Int) ≤ 128 := by omega
  have i4 : ¬ ((p.ss.length : Int) = (onesN p.bs : Int)) := by omega
  have i0 : (p.vs.length : Int) ≤ 9223372036854775807 := by omega
  have i9 : (p.ss.length : Int) ≤ 9223372036854775807 := by omega
  rw [hf] at k0
  generalize pfC p (.slice s1 p.vs.length c1) (.slice s2 p.ss.length c2) = C at *
  generalize p.vs.length = n at *
  generalize ints .u8 p.bs = IB at *
  generalize onesN p.bs = O at *
  generalize p.ss.length = m at *
  go_enter Tryz.func19, Tryz.ntmps19
  go_wp2
  refine wp_region_noPanic ?_
  refine wp_region_held_drew (S := (fun w' => BK w w' [(w.heap.size, C, 52)])) (by kernel_rfl) d0.drew (fun hHeld => ?_)
  refine wpAnyH_take (i := 0) (oi := { dst := some 9, op := Op.fieldAddr 52 (Operand.tmp 1) 0, type := 0, pos := "ref.go:184", after := #[], guard := none }) (v := .pointer (some ⟨w.heap.size, 0, none⟩)) rfl (by kernel_rfl) (by kernel_rfl) (by kernel_rfl) (fun _ _ _ h => h) (Or.inl ⟨by rfl, by intro w hS; go_simp⟩) hHeld ?_
  try simp only [Act.put, List.setIfInBounds_toArray, List.set_cons_zero, List.set_cons_succ]
  refine wpAnyH_take (i := 1) (oi := { dst := some 10, op := Op.load 4 (Operand.tmp 9), type := 4, pos := "ref.go:184", after := #[{ on := 0, ground := Ground.data }], guard := none }) (v := .bool true) rfl (by kernel_rfl) (by kernel_rfl) (by kernel_rfl) (fun _ _ _ h => h) (Or.inl ⟨by rfl, by intro w hS; have hc := hS.cell (.head _) k0; go_simp⟩) hHeld ?_
  try simp only [Act.put, List.setIfInBounds_toArray, List.set_cons_zero, List.set_cons_succ]
  refine wpAnyH_take (i := 2) (oi := { dst := some 11, op := Op.unOp UnOp.not 4 (Operand.tmp 10), type := 4, pos := "ref.go:184", after := #[{ on := 1, ground := Ground.data }], guard := none }) (v := .bool false) rfl (by kernel_rfl) (by kernel_rfl) (by kernel_rfl) (fun _ _ _ h => h) (Or.inl ⟨by rfl, by intro w hS; go_simp⟩) hHeld ?_
  try simp only [Act.put, List.setIfInBounds_toArray, List.set_cons_zero, List.set_cons_succ]
  refine wpAnyH_take (i := 3) (oi := { dst := some 12, op := Op.move (Operand.tmp 11), type := 4, pos := "ref.go:184", after := #[{ on := 2, ground := Ground.data }], guard := none }) (v := .bool false) rfl (by kernel_rfl) (by kernel_rfl) (by kernel_rfl) (fun _ _ _ h => h) (Or.inl ⟨by rfl, by intro w hS; go_simp⟩) hHeld ?_
  try simp only [Act.put, List.setIfInBounds_toArray, List.set_cons_zero, List.set_cons_succ]
  refine wpAnyH_take (i := 4) (oi := { dst := some 13, op := Op.fieldAddr 52 (Operand.tmp 1) 1, type := 0, pos := "ref.go:184", after := #[{ on := 3, ground := Ground.guard }], guard := some (3, true) }) (v := undef) rfl (by kernel_rfl) (by kernel_rfl) (by kernel_rfl) (fun _ _ _ h => h) (Or.inr ⟨by rfl, rfl⟩) hHeld ?_
  try simp only [Act.put, List.setIfInBounds_toArray, List.set_cons_zero, List.set_cons_succ]
  refine wpAnyH_take (i := 5) (oi := { dst := some 14, op := Op.load 30 (Operand.tmp 13), type := 30, pos := "ref.go:184", after := #[{ on := 4, ground := Ground.data }, { on := 3, ground := Ground.guard }], guard := some (3, true) }) (v := undef) rfl (by kernel_rfl) (by kernel_rfl) (by kernel_rfl) (fun _ _ _ h => h) (Or.inr ⟨by rfl, rfl⟩) hHeld ?_
  try simp only [Act.put, List.setIfInBounds_toArray, List.set_cons_zero, List.set_cons_succ]
  refine wpAnyH_take (i := 6) (oi := { dst := some 15, op := Op.call { callee := Callee.builtin Builtin.len, args := #[Operand.tmp 14], argTypes := #[30] }, type := 3, pos := "ref.go:184", after := #[{ on := 5, ground := Ground.data }, { on := 3, ground := Ground.guard }], guard := some (3, true) }) (v := undef) rfl (by kernel_rfl) (by kernel_rfl) (by kernel_rfl) (fun _ _ _ h => h) (Or.inr ⟨by rfl, rfl⟩) hHeld ?_
  try simp only [Act.put, List.setIfInBounds_toArray, List.set_cons_zero, List.set_cons_succ]
  refine wpAnyH_take (i := 7) (oi := { dst := some 16, op := Op.binOp BinOp.gtr 3 (Operand.tmp 15) (Operand.const (Value.int IntKind.i64 0)) 3, type := 4, pos := "ref.go:184", after := #[{ on := 6, ground := Ground.data }, { on := 3, ground := Ground.guard }], guard := some (3, true) }) (v := undef) rfl (by kernel_rfl) (by kernel_rfl) (by kernel_rfl) (fun _ _ _ h => h) (Or.inr ⟨by rfl, rfl⟩) hHeld ?_
  try simp only [Act.put, List.setIfInBounds_toArray, List.set_cons_zero, List.set_cons_succ]
  refine wpAnyH_take (i := 8) (oi := { dst := some 17, op := Op.pick (Operand.tmp 12) (Operand.tmp 16) (Operand.const (Value.bool false)), type := 4, pos := "ref.go:184", after := #[{ on := 3, ground := Ground.data }, { on := 7, ground := Ground.data }], guard := none }) (v := .bool false) rfl (by kernel_rfl) (by kernel_rfl) (by kernel_rfl) (fun _ _ _ h => h) (Or.inl ⟨by rfl, by intro w hS; go_simp⟩) hHeld ?_
  try simp only [Act.put, List.setIfInBounds_toArray, List.set_cons_zero, List.set_cons_succ]
  refine wpAnyH_take (i := 9) (oi := { dst := some 18, op := Op.move (Operand.tmp 17), type := 4, pos := "ref.go:184", after := #[{ on := 8, ground := Ground.data }, { on := 3, ground := Ground.chain }], guard := none }) (v := .bool false) rfl (by kernel_rfl) (by kernel_rfl) (by kernel_rfl) (fun _ _ _ h => h) (Or.inl ⟨by rfl, by intro w hS; go_simp⟩) hHeld ?_
  try simp only [Act.put, List.setIfInBounds_toArray, List.set_cons_zero, List.set_cons_succ]
  refine wpAnyH_take (i := 10) (oi := { dst := some 19, op := Op.fieldAddr 52 (Operand.tmp 1) 1, type := 0, pos := "ref.go:184", after := #[{ on := 9, ground := Ground.guard }], guard := some (9, false) }) (v := .pointer (some ⟨w.heap.size, 1, none⟩)) rfl (by kernel_rfl) (by kernel_rfl) (by kernel_rfl) (fun _ _ _ h => h) (Or.inl ⟨by rfl, by intro w hS; go_simp⟩) hHeld ?_
  try simp only [Act.put, List.setIfInBounds_toArray, List.set_cons_zero, List.set_cons_succ]
  refine wpAnyH_take (i := 11) (oi := { dst := some 20, op := Op.load 30 (Operand.tmp 19), type := 30, pos := "ref.go:184", after := #[{ on := 10, ground := Ground.data }, { on := 9, ground := Ground.guard }], guard := some (9, false) }) (v := .slice s1 n c1) rfl (by kernel_rfl) (by kernel_rfl) (by kernel_rfl) (fun _ _ _ h => h) (Or.inl ⟨by rfl, by intro w hS; have hc := hS.cell (.head _) k1; go_simp⟩) hHeld ?_
  try simp only [Act.put, List.setIfInBounds_toArray, List.set_cons_zero, List.set_cons_succ]
  refine wpAnyH_take (i := 12) (oi := { dst := some 21, op := Op.call { callee := Callee.builtin Builtin.len, args := #[Operand.tmp 20], argTypes := #[30] }, type := 3, pos := "ref.go:184", after := #[{ on := 11, ground := Ground.data }, { on := 9, ground := Ground.guard }], guard := some (9, false) }) (v := .int .i64 n) rfl (by kernel_rfl) (by kernel_rfl) (by kernel_rfl) (fun _ _ _ h => h) (Or.inl ⟨by rfl, by intro w hS; go_simp⟩) hHeld ?_
  try simp only [Act.put, List.setIfInBounds_toArray, List.set_cons_zero, List.set_cons_succ]
  refine wpAnyH_take (i := 13) (oi := { dst := some 22, op := Op.binOp BinOp.gtr 3 (Operand.tmp 21) (Operand.const (Value.int IntKind.i64 128)) 3, type := 4, pos := "ref.go:184", after := #[{ on := 12, ground := Ground.data }, { on := 9, ground := Ground.guard }], guard := some (9, false) }) (v := .bool false) rfl (by kernel_rfl) (by kernel_rfl) (by kernel_rfl) (fun _ _ _ h => h) (Or.inl ⟨by rfl, by intro w hS; go_simp⟩) hHeld ?_
  try simp only [Act.put, List.setIfInBounds_toArray, List.set_cons_zero, List.set_cons_succ]
  refine wpAnyH_take (i := 14) (oi := { dst := some 23, op := Op.pick (Operand.tmp 18) (Operand.const (Value.bool true)) (Operand.tmp 22), type := 4, pos := "ref.go:184", after := #[{ on := 9, ground := Ground.data }, { on := 13, ground := Ground.data }], guard := none }) (v := .bool false) rfl (by kernel_rfl) (by kernel_rfl) (by kernel_rfl) (fun _ _ _ h => h) (Or.inl ⟨by rfl, by intro w hS; go_simp⟩) hHeld ?_
  try simp only [Act.put, List.setIfInBounds_toArray, List.set_cons_zero, List.set_cons_succ]
  refine wpAnyH_take (i := 15) (oi := { dst := some 24, op := Op.move (Operand.tmp 23), type := 4, pos := "ref.go:184", after := #[{ on := 14, ground := Ground.data }, { on := 9, ground := Ground.chain }], guard := none }) (v := .bool false) rfl (by kernel_rfl) (by kernel_rfl) (by kernel_rfl) (fun _ _ _ h => h) (Or.inl ⟨by rfl, by intro w hS; go_simp⟩) hHeld ?_
  try simp only [Act.put, List.setIfInBounds_toArray, List.set_cons_zero, List.set_cons_succ]
  refine wpAnyH_take (i := 16) (oi := { dst := some 25, op := Op.fieldAddr 52 (Operand.tmp 1) 3, type := 0, pos := "ref.go:184", after := #[{ on := 15, ground := Ground.guard }], guard := some (15, false) }) (v := .pointer (some ⟨w.heap.size, 34, none⟩)) rfl (by kernel_rfl) (by kernel_rfl) (by kernel_rfl) (fun _ _ _ h => h) (Or.inl ⟨by rfl, by intro w hS; go_simp⟩) hHeld ?_
  try simp only [Act.put, List.setIfInBounds_toArray, List.set_cons_zero, List.set_cons_succ]
  refine wpAnyH_take (i := 19) (oi := { dst := some 28, op := Op.fieldAddr 52 (Operand.tmp 1) 2, type := 0, pos := "ref.go:184", after := #[{ on := 15, ground := Ground.guard }], guard := some (15, false) }) (v := .pointer (some ⟨w.heap.size, 2, none⟩)) rfl (by kernel_rfl) (by kernel_rfl) (by kernel_rfl) (fun _ _ _ h => h) (Or.inl ⟨by rfl, by intro w hS; go_simp⟩) hHeld ?_
  try simp only [Act.put, List.setIfInBounds_toArray, List.set_cons_zero, List.set_cons_succ]
  refine wpAnyH_take (i := 17) (oi := { dst := some 26, op := Op.load 48 (Operand.tmp 25), type := 48, pos := "ref.go:184", after := #[{ on := 16, ground := Ground.data }, { on := 15, ground := Ground.guard }], guard := some (15, false) }) (v := .slice s2 m c2) rfl (by kernel_rfl) (by kernel_rfl) (by kernel_rfl) (fun _ _ _ h => h) (Or.inl ⟨by rfl, by intro w hS; have hc := hS.cell (.head _) k34; go_simp⟩) hHeld ?_
  try simp only [Act.put, List.setIfInBounds_toArray, List.set_cons_zero, List.set_cons_succ]
  refine wpAnyH_take (i := 20) (oi := { dst := some 29, op := Op.load 23 (Operand.tmp 28), type := 23, pos := "ref.go:184", after := #[{ on := 19, ground := Ground.data }, { on := 15, ground := Ground.guard }], guard := some (15, false) }) (v := .agg (IB).toArray) rfl (by kernel_rfl) (by kernel_rfl) (by kernel_rfl) (fun _ _ _ h => h) (yieldsIf_load_mid (by rfl) 23 _ rfl w.heap.size (2) rfl (IB) _ (fun w hS => hS.rng (.head _) kb) Tryz.underlying23 rfl LS.out) hHeld ?_
  try simp only [Act.put, List.setIfInBounds_toArray, List.set_cons_zero, List.set_cons_succ]
  refine wpAnyH_take (i := 18) (oi := { dst := some 27, op := Op.call { callee := Callee.builtin Builtin.len, args := #[Operand.tmp 26], argTypes := #[48] }, type := 3, pos := "ref.go:184", after := #[{ on := 17, ground := Ground.data }, { on := 15, ground := Ground.guard }], guard := some (15, false) }) (v := .int .i64 m) rfl (by kernel_rfl) (by kernel_rfl) (by kernel_rfl) (fun _ _ _ h => h) (Or.inl ⟨by rfl, by intro w hS; go_simp⟩) hHeld ?_
  try simp only [Act.put, List.setIfInBounds_toArray, List.set_cons_zero, List.set_cons_succ]
  refine wpAnyH_ready (rs := [21]) (by kernel_rfl) (by simp) ?_
  refine (AllReadyH.cons (o := { dst := some 30, op := Op.call { callee := Callee.value (Operand.func 37), args := #[Operand.tmp 29], argTypes := #[23] }, type := 3, pos := "ref.go:184", after := #[{ on := 20, ground := Ground.data }, { on := 15, ground := Ground.chain }, { on := 15, ground := Ground.guard }], guard := some (15, false) }) rfl (fun K hK => ?_) AllReadyH.nil)
  go_simp
  go_at_call 37
  refine (KC.out _).mono ?_
  rintro e w4 ⟨rfl, hb4⟩
  go_wp2_with fail
  refine hK.out _ _ (hHeld.call hb4) (fun hHeld2 => ?_)
  clear hK K hHeld
  have hHeld := hHeld2
  clear hHeld2
  try simp only [Act.put, List.setIfInBounds_toArray, List.set_cons_zero, List.set_cons_succ]
  refine wpAnyH_take (i := 22) (oi := { dst := some 31, op := Op.binOp BinOp.neq 3 (Operand.tmp 27) (Operand.tmp 30) 3, type := 4, pos := "ref.go:184", after := #[{ on := 18, ground := Ground.data }, { on := 21, ground := Ground.data }, { on := 15, ground := Ground.guard }], guard := some (15, false) }) (v := .bool true) rfl (by kernel_rfl) (by kernel_rfl) (by kernel_rfl) (fun _ _ _ h => h) (Or.inl ⟨by rfl, by intro w hS; go_simp⟩) hHeld ?_
  try simp only [Act.put, List.setIfInBounds_toArray, List.set_cons_zero, List.set_cons_succ]
  refine wpAnyH_take (i := 23) (oi := { dst := some 32, op := Op.pick (Operand.tmp 24) (Operand.const (Value.bool true)) (Operand.tmp 31), type := 4, pos := "ref.go:184", after := #[{ on := 15, ground := Ground.data }, { on := 22, ground := Ground.data }], guard := none }) (v := .bool true) rfl (by kernel_rfl) (by kernel_rfl) (by kernel_rfl) (fun _ _ _ h => h) (Or.inl ⟨by rfl, by intro w hS; go_simp⟩) hHeld ?_
  try simp only [Act.put, List.setIfInBounds_toArray, List.set_cons_zero, List.set_cons_succ]
  refine wpAnyH_done (by kernel_rfl) ?_ _
  refine NoPanic.normal ?_
  go_wp2
  exact bodyPost_ret (results_tmp2 Tryz.results19 _ _ _) rfl ⟨rfl, hHeld.1⟩
set_option maxRecDepth 100000 in
set_option maxHeartbeats 2000000 in
theorem xenc_fq (w : World) (p : Pf) (ok : PfOk p) (y : PfY p) (s1 s2 : Option Addr) (c1 c2 : Nat) (hv : p.vs.length ≤ 9223372036854775807) (hs : p.ss.length ≤ 9223372036854775807) (hf : p.f = false) (hc : p.vs.length = 0) (hq : ¬ p.ss.length = onesN p.bs) :
    Calls Tryz.prog 19 #[.agg (pfC p (.slice s1 p.vs.length c1) (.slice s2 p.ss.length c2)).toArray] w fun e w' => e = .returned (.tuple #[.slice none 0 0, .int .i64 120]) ∧ Below w.heap.size w w' := by
  have d0 := (BK.nil w).alloc (pfC p (.slice s1 p.vs.length c1) (.slice s2 p.ss.length c2)) 52
  have k0 := pfC_f p (.slice s1 p.vs.length c1) (.slice s2 p.ss.length c2)
  have k1 := pfC_v p (.slice s1 p.vs.length c1) (.slice s2 p.ss.length c2)
  have k34 := pfC_s ok (.slice s1 p.vs.length c1) (.slice s2 p.ss.length c2)
  have kb := pfC_b p (.slice s1 p.vs.length c1) (.slice s2 p.ss.length c2)
  have LS := hid (show (Tryz.prog.info? 23).map (·.size) = some (ints .u8 p.bs).length by rw [Tryz.sizeA, ints_len, ok.bs])
  have KC := hid (fun w1 => xOnes_any w1 p.bs ok.bs y.bs)
  have b1 : (onesN p.bs : Int) ≤ 256 := by have := onesN_le p.bs; have := ok.bs; omega
  have i4 : ¬ ((p.ss.length : Int) = (onesN p.bs : Int)) := by omega
  have i0 : (p.vs.length : Int) ≤ 9223372036854775807 := by omega
  have i9 : (p.ss.length : Int) ≤ 9223372036854775807 := by omega
  rw [hf] at k0
  generalize pfC p (.slice s1 p.vs.length c1) (.slice s2 p.ss.length c2) = C at *
  rw [hc] at *
  generalize ints .u8 p.bs = IB at *
  generalize onesN p.bs = O at *
  generalize p.ss.length = m at *
  go_enter Tryz.func19, Tryz.ntmps19
  go_wp2
  refine wp_region_noPanic ?_
  refine wp_region_held_drew (S := (fun w' => BK w w' [(w.heap.size, C, 52)])) (by kernel_rfl) d0.drew (fun hHeld => ?_)
  refine wpAnyH_take (i := 0) (oi := { dst := some 9, op := Op.fieldAddr 52 (Operand.tmp 1) 0, type := 0, pos := "ref.go:184", after := #[], guard := none }) (v := .pointer (some ⟨w.heap.size, 0, none⟩)) rfl (by kernel_rfl) (by kernel_rfl) (by kernel_rfl) (fun _ _ _ h => h) (Or.inl ⟨by rfl, by intro w hS; go_simp⟩) hHeld ?_
  try simp only [Act.put, List.setIfInBounds_toArray, List.set_cons_zero, List.set_cons_succ]
  refine wpAnyH_take (i := 1) (oi := { dst := some 10, op := Op.load 4 (Operand.tmp 9), type := 4, pos := "ref.go:184", after := #[{ on := 0, ground := Ground.data }], guard := none }) (v := .bool false) rfl (by kernel_rfl) (by kernel_rfl) (by kernel_rfl) (fun _ _ _ h => h) (Or.inl ⟨by rfl, by intro w hS; have hc := hS.cell (.head _) k0; go_simp⟩) hHeld ?_
  try simp only [Act.put, List.setIfInBounds_toArray, List.set_cons_zero, List.set_cons_succ]
  refine wpAnyH_take (i := 2) (oi := { dst := some 11, op := Op.unOp UnOp.not 4 (Operand.tmp 10), type := 4, pos := "ref.go:184", after := #[{ on := 1, ground := Ground.data }], guard := none }) (v := .bool true) rfl (by kernel_rfl) (by kernel_rfl) (by kernel_rfl) (fun _ _ _ h => h) (Or.inl ⟨by rfl, by intro w hS; go_simp⟩) hHeld ?_
  try simp only [Act.put, List.setIfInBounds_toArray, List.set_cons_zero, List.set_cons_succ]
  refine wpAnyH_take (i := 3) (oi := { dst := some 12, op := Op.move (Operand.tmp 11), type := 4, pos := "ref.go:184", after := #[{ on := 2, ground := Ground.data }], guard := none }) (v := .bool true) rfl (by kernel_rfl) (by kernel_rfl) (by kernel_rfl) (fun _ _ _ h => h) (Or.inl ⟨by rfl, by intro w hS; go_simp⟩) hHeld ?_
  try simp only [Act.put, List.setIfInBounds_toArray, List.set_cons_zero, List.set_cons_succ]
  refine wpAnyH_take (i := 4) (oi := { dst := some 13, op := Op.fieldAddr 52 (Operand.tmp 1) 1, type := 0, pos := "ref.go:184", after := #[{ on := 3, ground := Ground.guard }], guard := some (3, true) }) (v := .pointer (some ⟨w.heap.size, 1, none⟩)) rfl (by kernel_rfl) (by kernel_rfl) (by kernel_rfl) (fun _ _ _ h => h) (Or.inl ⟨by rfl, by intro w hS; go_simp⟩) hHeld ?_
  try simp only [Act.put, List.setIfInBounds_toArray, List.set_cons_zero, List.set_cons_succ]
  refine wpAnyH_take (i := 5) (oi := { dst := some 14, op := Op.load 30 (Operand.tmp 13), type := 30, pos := "ref.go:184", after := #[{ on := 4, ground := Ground.data }, { on := 3, ground := Ground.guard }], guard := some (3, true) }) (v := .slice s1 0 c1) rfl (by kernel_rfl) (by kernel_rfl) (by kernel_rfl) (fun _ _ _ h => h) (Or.inl ⟨by rfl, by intro w hS; have hc := hS.cell (.head _) k1; go_simp⟩) hHeld ?_
  try simp only [Act.put, List.setIfInBounds_toArray, List.set_cons_zero, List.set_cons_succ]
  refine wpAnyH_take (i := 6) (oi := { dst := some 15, op := Op.call { callee := Callee.builtin Builtin.len, args := #[Operand.tmp 14], argTypes := #[30] }, type := 3, pos := "ref.go:184", after := #[{ on := 5, ground := Ground.data }, { on := 3, ground := Ground.guard }], guard := some (3, true) }) (v := .int .i64 0) rfl (by kernel_rfl) (by kernel_rfl) (by kernel_rfl) (fun _ _ _ h => h) (Or.inl ⟨by rfl, by intro w hS; go_simp⟩) hHeld ?_
  try simp only [Act.put, List.setIfInBounds_toArray, List.set_cons_zero, List.set_cons_succ]
  refine wpAnyH_take (i := 7) (oi := { dst := some 16, op := Op.binOp BinOp.gtr 3 (Operand.tmp 15) (Operand.const (Value.int IntKind.i64 0)) 3, type := 4, pos := "ref.go:184", after := #[{ on := 6, ground := Ground.data }, { on := 3, ground := Ground.guard }], guard := some (3, true) }) (v := .bool false) rfl (by kernel_rfl) (by kernel_rfl) (by kernel_rfl) (fun _ _ _ h => h) (Or.inl ⟨by rfl, by intro w hS; go_simp⟩) hHeld ?_
  try simp only [Act.put, List.setIfInBounds_toArray, List.set_cons_zero, List.set_cons_succ]
  refine wpAnyH_take (i := 8) (oi := { dst := some 17, op := Op.pick (Operand.tmp 12) (Operand.tmp 16) (Operand.const (Value.bool false)), type := 4, pos := "ref.go:184", after := #[{ on := 3, ground := Ground.data }, { on := 7, ground := Ground.data }], guard := none }) (v := .bool false) rfl (by kernel_rfl) (by kernel_rfl) (by kernel_rfl) (fun _ _ _ h => h) (Or.inl ⟨by rfl, by intro w hS; go_simp⟩) hHeld ?_
  try simp only [Act.put, List.setIfInBounds_toArray, List.set_cons_zero, List.set_cons_succ]
  refine wpAnyH_take (i := 9) (oi := { dst := some 18, op := Op.move (Operand.tmp 17), type := 4, pos := "ref.go:184", after := #[{ on := 8, ground := Ground.data }, { on := 3, ground := Ground.chain }], guard := none }) (v := .bool false) rfl (by kernel_rfl) (by kernel_rfl) (by kernel_rfl) (fun _ _ _ h => h) (Or.inl ⟨by rfl, by intro w hS; go_simp⟩) hHeld ?_
  try simp only [Act.put, List.setIfInBounds_toArray, List.set_cons_zero, List.set_cons_succ]
  refine wpAnyH_take (i := 10) (oi := { dst := some 19, op := Op.fieldAddr 52 (Operand.tmp 1) 1, type := 0, pos := "ref.go:184", after := #[{ on := 9, ground := Ground.guard }], guard := some (9, false) }) (v := .pointer (some ⟨w.heap.size, 1, none⟩)) rfl (by kernel_rfl) (by kernel_rfl) (by kernel_rfl) (fun _ _ _ h => h) (Or.inl ⟨by rfl, by intro w hS; go_simp⟩) hHeld ?_
  try simp only [Act.put, List.setIfInBounds_toArray, List.set_cons_zero, List.set_cons_succ]
  refine wpAnyH_take (i := 11) (oi := { dst := some 20, op := Op.load 30 (Operand.tmp 19), type := 30, pos := "ref.go:184", after := #[{ on := 10, ground := Ground.data }, { on := 9, ground := Ground.guard }], guard := some (9, false) }) (v := .slice s1 0 c1) rfl (by kernel_rfl) (by kernel_rfl) (by kernel_rfl) (fun _ _ _ h => h) (Or.inl ⟨by rfl, by intro w hS; have hc := hS.cell (.head _) k1; go_simp⟩) hHeld ?_
  try simp only [Act.put, List.setIfInBounds_toArray, List.set_cons_zero, List.set_cons_succ]
  refine wpAnyH_take (i := 12) (oi := { dst := some 21, op := Op.call { callee := Callee.builtin Builtin.len, args := #[Operand.tmp 20], argTypes := #[30] }, type := 3, pos := "ref.go:184", after := #[{ on := 11, ground := Ground.data }, { on := 9, ground := Ground.guard }], guard := some (9, false) }) (v := .int .i64 0) rfl (by kernel_rfl) (by kernel_rfl) (by kernel_rfl) (fun _ _ _ h => h) (Or.inl ⟨by rfl, by intro w hS; go_simp⟩) hHeld ?_
  try simp only [Act.put, List.setIfInBounds_toArray, List.set_cons_zero, List.set_cons_succ]
  refine wpAnyH_take (i := 13) (oi := { dst := some 22, op := Op.binOp BinOp.gtr 3 (Operand.tmp 21) (Operand.const (Value.int IntKind.i64 128)) 3, type := 4, pos := "ref.go:184", after := #[{ on := 12, ground := Ground.data }, { on := 9, ground := Ground.guard }], guard := some (9, false) }) (v := .bool false) rfl (by kernel_rfl) (by kernel_rfl) (by kernel_rfl) (fun _ _ _ h => h) (Or.inl ⟨by rfl, by intro w hS; go_simp⟩) hHeld ?_
  try simp only [Act.put, List.setIfInBounds_toArray, List.set_cons_zero, List.set_cons_succ]
  refine wpAnyH_take (i := 14) (oi := { dst := some 23, op := Op.pick (Operand.tmp 18) (Operand.const (Value.bool true)) (Operand.tmp 22), type := 4, pos := "ref.go:184", after := #[{ on := 9, ground := Ground.data }, { on := 13, ground := Ground.data }], guard := none }) (v := .bool false) rfl (by kernel_rfl) (by kernel_rfl) (by kernel_rfl) (fun _ _ _ h => h) (Or.inl ⟨by rfl, by intro w hS; go_simp⟩) hHeld ?_
  try simp only [Act.put, List.setIfInBounds_toArray, List.set_cons_zero, List.set_cons_succ]
  refine wpAnyH_take (i := 15) (oi := { dst := some 24, op := Op.move (Operand.tmp 23), type := 4, pos := "ref.go:184", after := #[{ on := 14, ground := Ground.data }, { on := 9, ground := Ground.chain }], guard := none }) (v := .bool false) rfl (by kernel_rfl) (by kernel_rfl) (by kernel_rfl) (fun _ _ _ h => h) (Or.inl ⟨by rfl, by intro w hS; go_simp⟩) hHeld ?_
  try simp only [Act.put, List.setIfInBounds_toArray, List.set_cons_zero, List.set_cons_succ]
  refine wpAnyH_take (i := 16) (oi := { dst := some 25, op := Op.fieldAddr 52 (Operand.tmp 1) 3, type := 0, pos := "ref.go:184", after := #[{ on := 15, ground := Ground.guard }], guard := some (15, false) }) (v := .pointer (some ⟨w.heap.size, 34, none⟩)) rfl (by kernel_rfl) (by kernel_rfl) (by kernel_rfl) (fun _ _ _ h => h) (Or.inl ⟨by rfl, by intro w hS; go_simp⟩) hHeld ?_
  try simp only [Act.put, List.setIfInBounds_toArray, List.set_cons_zero, List.set_cons_succ]
  refine wpAnyH_take (i := 19) (oi := { dst := some 28, op := Op.fieldAddr 52 (Operand.tmp 1) 2, type := 0, pos := "ref.go:184", after := #[{ on := 15, ground := Ground.guard }], guard := some (15, false) }) (v := .pointer (some ⟨w.heap.size, 2, none⟩)) rfl (by kernel_rfl) (by kernel_rfl) (by kernel_rfl) (fun _ _ _ h => h) (Or.inl ⟨by rfl, by intro w hS; go_simp⟩) hHeld ?_
  try simp only [Act.put, List.setIfInBounds_toArray, List.set_cons_zero, List.set_cons_succ]
  refine wpAnyH_take (i := 17) (oi := { dst := some 26, op := Op.load 48 (Operand.tmp 25), type := 48, pos := "ref.go:184", after := #[{ on := 16, ground := Ground.data }, { on := 15, ground := Ground.guard }], guard := some (15, false) }) (v := .slice s2 m c2) rfl (by kernel_rfl) (by kernel_rfl) (by kernel_rfl) (fun _ _ _ h => h) (Or.inl ⟨by rfl, by intro w hS; have hc := hS.cell (.head _) k34; go_simp⟩) hHeld ?_
  try simp only [Act.put, List.setIfInBounds_toArray, List.set_cons_zero, List.set_cons_succ]
  refine wpAnyH_take (i := 20) (oi := { dst := some 29, op := Op.load 23 (Operand.tmp 28), type := 23, pos := "ref.go:184", after := #[{ on := 19, ground := Ground.data }, { on := 15, ground := Ground.guard }], guard := some (15, false) }) (v := .agg (IB).toArray) rfl (by kernel_rfl) (by kernel_rfl) (by kernel_rfl) (fun _ _ _ h => h) (yieldsIf_load_mid (by rfl) 23 _ rfl w.heap.size (2) rfl (IB) _ (fun w hS => hS.rng (.head _) kb) Tryz.underlying23 rfl LS.out) hHeld ?_
  try simp only [Act.put, List.setIfInBounds_toArray, List.set_cons_zero, List.set_cons_succ]
  refine wpAnyH_take (i := 18) (oi := { dst := some 27, op := Op.call { callee := Callee.builtin Builtin.len, args := #[Operand.tmp 26], argTypes := #[48] }, type := 3, pos := "ref.go:184", after := #[{ on := 17, ground := Ground.data }, { on := 15, ground := Ground.guard }], guard := some (15, false) }) (v := .int .i64 m) rfl (by kernel_rfl) (by kernel_rfl) (by kernel_rfl) (fun _ _ _ h => h) (Or.inl ⟨by rfl, by intro w hS; go_simp⟩) hHeld ?_
  try simp only [Act.put, List.setIfInBounds_toArray, List.set_cons_zero, List.set_cons_succ]
  refine wpAnyH_ready (rs := [21]) (by kernel_rfl) (by simp) ?_
  refine (AllReadyH.cons (o := { dst := some 30, op := Op.call { callee := Callee.value (Operand.func 37), args := #[Operand.tmp 29], argTypes := #[23] }, type := 3, pos := "ref.go:184", after := #[{ on := 20, ground := Ground.data }, { on := 15, ground := Ground.chain }, { on := 15, ground := Ground.guard }], guard := some (15, false) }) rfl (fun K hK => ?_) AllReadyH.nil)
  go_simp
  go_at_call 37
  refine (KC.out _).mono ?_
  rintro e w4 ⟨rfl, hb4⟩
  go_wp2_with fail
  refine hK.out _ _ (hHeld.call hb4) (fun hHeld2 => ?_)
  clear hK K hHeld
  have hHeld := hHeld2
  clear hHeld2
  try simp only [Act.put, List.setIfInBounds_toArray, List.set_cons_zero, List.set_cons_succ]
  refine wpAnyH_take (i := 22) (oi := { dst := some 31, op := Op.binOp BinOp.neq 3 (Operand.tmp 27) (Operand.tmp 30) 3, type := 4, pos := "ref.go:184", after := #[{ on := 18, ground := Ground.data }, { on := 21, ground := Ground.data }, { on := 15, ground := Ground.guard }], guard := some (15, false) }) (v := .bool true) rfl (by kernel_rfl) (by kernel_rfl) (by kernel_rfl) (fun _ _ _ h => h) (Or.inl ⟨by rfl, by intro w hS; go_simp⟩) hHeld ?_
  try simp only [Act.put, List.setIfInBounds_toArray, List.set_cons_zero, List.set_cons_succ]
  refine wpAnyH_take (i := 23) (oi := { dst := some 32, op := Op.pick (Operand.tmp 24) (Operand.const (Value.bool true)) (Operand.tmp 31), type := 4, pos := "ref.go:184", after := #[{ on := 15, ground := Ground.data }, { on := 22, ground := Ground.data }], guard := none }) (v := .bool true) rfl (by kernel_rfl) (by kernel_rfl) (by kernel_rfl) (fun _ _ _ h => h) (Or.inl ⟨by rfl, by intro w hS; go_simp⟩) hHeld ?_
  try simp only [Act.put, List.setIfInBounds_toArray, List.set_cons_zero, List.set_cons_succ]
  refine wpAnyH_done (by kernel_rfl) ?_ _
  refine NoPanic.normal ?_
  go_wp2
  exact bodyPost_ret (results_tmp2 Tryz.results19 _ _ _) rfl ⟨rfl, hHeld.1⟩
end Go.Proofs.YtbjahdbmkcamoaaGreatDoor
namespace Go.Proofs.YtbjahdbmkcamoaaGreatDoor
set_option linter.unusedVariables false
set_option linter.unusedSimpArgs false
open Go.RowKit
attribute [local go_sem ↓] Go.wp_at_zero Go.wp_at_succ

set_option maxRecDepth 100000 in
set_option maxHeartbeats 8000000 in
theorem xenc_f (w : World) (p : Pf) (ok : PfOk p) (y : PfY p) (s1 s2 : Option Addr) (c1 c2 : Nat) (hS : Src w s1 c1 p.vs) (hT : SrcD w s2 c2 p.ss) (hw : WellP p) (hf : p.f = false) :
    Calls Tryz.prog 19 #[.agg (pfC p (.slice s1 p.vs.length c1) (.slice s2 p.ss.length c2)).toArray] w fun e w' => ∃ v, e = .returned (.tuple #[v, .int .i64 0]) ∧ Own w' w.heap.size v (encP p) ∧ Below w.heap.size w w' := by
  have hv := hw.len
  have hm := (encP_len ok hw).2.2
  have hq := hw.num
  have d0 := (BK.nil w).alloc (pfC p (.slice s1 p.vs.length c1) (.slice s2 p.ss.length c2)) 52
  have k0 := pfC_f p (.slice s1 p.vs.length c1) (.slice s2 p.ss.length c2)
  have k1 := pfC_v p (.slice s1 p.vs.length c1) (.slice s2 p.ss.length c2)
  have k34 := pfC_s ok (.slice s1 p.vs.length c1) (.slice s2 p.ss.length c2)
  have kb := pfC_b p (.slice s1 p.vs.length c1) (.slice s2 p.ss.length c2)
  have LS := hid (show (Tryz.prog.info? 23).map (·.size) = some (ints .u8 p.bs).length by rw [Tryz.sizeA, ints_len, ok.bs])
  have KC := hid (fun w1 => xOnes_any w1 p.bs ok.bs y.bs)
  have b1 : (onesN p.bs : Int) ≤ 256 := by have := onesN_le p.bs; have := ok.bs; omega
  have i9 : (p.ss.length : Int) ≤ 256 := by omega
  have I4 := hid (show (p.ss.length : Int) = (onesN p.bs : Int) by omega)
  have hv0 : p.vs.length = 0 := by rw [hw.emp hf]; rfl
  have HAP := hid (show ansP p = [0] by unfold ansP; rw [if_neg (by rw [hf]; simp)])
  have HA := hid (ansP_len hw).2
  have HB := hid ok.bs
  have KB := hid (fun k (h : k < p.bs.length) => pfC_b p (.slice s1 p.vs.length c1) (.slice s2 p.ss.length c2) k _ (ints_get .u8 p.bs k h))
  have FT := hid (fun k (h : k < p.ss.length) => flat_take p.ss k h)
  have FL := hid (fun k => flat_take_len p.ss k ok.ss)
  have FA := hid (show ansP p ++ (p.bs ++ (p.ss.take p.ss.length).flatten) = encP p by rw [List.take_length]; rfl)
  have DL := hid (fun j (hj : j < p.ss.length) => hT.dlen j hj)
  have hBL := hid (fun b o (e : s2 = some ⟨b, o, none⟩) (hp : 0 < p.ss.length) => show b < w.heap.size by
    obtain ⟨b', o', q1, q2, _⟩ := hT.at hp
    rw [e] at q1
    cases q1
    exact q2)
  have hm' := hid hm
  have k34' := hid k34
  clear hv hm hq
  rw [hf] at k0
  generalize hCC : pfC p (.slice s1 p.vs.length c1) (.slice s2 p.ss.length c2) = C at *
  clear hCC
  rw [hv0] at *
  clear hv0
  generalize hIB : ints .u8 p.bs = IB at *
  clear hIB
  generalize hOO : onesN p.bs = O at *
  clear hOO
  generalize ansP p = AP at *
  go_enter Tryz.func19, Tryz.ntmps19
  go_wp2
  refine wp_region_noPanic ?_
  refine wp_region_held_drew (S := (fun w' => BK w w' [(w.heap.size, C, 52)])) (by kernel_rfl) d0.drew (fun hHeld => ?_)
  refine wpAnyH_take (i := 0) (oi := { dst := some 9, op := Op.fieldAddr 52 (Operand.tmp 1) 0, type := 0, pos := "ref.go:184", after := #[], guard := none }) (v := .pointer (some ⟨w.heap.size, 0, none⟩)) rfl (by kernel_rfl) (by kernel_rfl) (by kernel_rfl) (fun _ _ _ h => h) (Or.inl ⟨by rfl, by intro w hS; go_simp⟩) hHeld ?_
  try simp only [Act.put, List.setIfInBounds_toArray, List.set_cons_zero, List.set_cons_succ]
  refine wpAnyH_take (i := 1) (oi := { dst := some 10, op := Op.load 4 (Operand.tmp 9), type := 4, pos := "ref.go:184", after := #[{ on := 0, ground := Ground.data }], guard := none }) (v := .bool false) rfl (by kernel_rfl) (by kernel_rfl) (by kernel_rfl) (fun _ _ _ h => h) (Or.inl ⟨by rfl, by intro w hS; have hc := hS.cell (.head _) k0; go_simp⟩) hHeld ?_
  try simp only [Act.put, List.setIfInBounds_toArray, List.set_cons_zero, List.set_cons_succ]
  refine wpAnyH_take (i := 2) (oi := { dst := some 11, op := Op.unOp UnOp.not 4 (Operand.tmp 10), type := 4, pos := "ref.go:184", after := #[{ on := 1, ground := Ground.data }], guard := none }) (v := .bool true) rfl (by kernel_rfl) (by kernel_rfl) (by kernel_rfl) (fun _ _ _ h => h) (Or.inl ⟨by rfl, by intro w hS; go_simp⟩) hHeld ?_
  try simp only [Act.put, List.setIfInBounds_toArray, List.set_cons_zero, List.set_cons_succ]
  refine wpAnyH_take (i := 3) (oi := { dst := some 12, op := Op.move (Operand.tmp 11), type := 4, pos := "ref.go:184", after := #[{ on := 2, ground := Ground.data }], guard := none }) (v := .bool true) rfl (by kernel_rfl) (by kernel_rfl) (by kernel_rfl) (fun _ _ _ h => h) (Or.inl ⟨by rfl, by intro w hS; go_simp⟩) hHeld ?_
  try simp only [Act.put, List.setIfInBounds_toArray, List.set_cons_zero, List.set_cons_succ]
  refine wpAnyH_take (i := 4) (oi := { dst := some 13, op := Op.fieldAddr 52 (Operand.tmp 1) 1, type := 0, pos := "ref.go:184", after := #[{ on := 3, ground := Ground.guard }], guard := some (3, true) }) (v := .pointer (some ⟨w.heap.size, 1, none⟩)) rfl (by kernel_rfl) (by kernel_rfl) (by kernel_rfl) (fun _ _ _ h => h) (Or.inl ⟨by rfl, by intro w hS; go_simp⟩) hHeld ?_
  try simp only [Act.put, List.setIfInBounds_toArray, List.set_cons_zero, List.set_cons_succ]
  refine wpAnyH_take (i := 5) (oi := { dst := some 14, op := Op.load 30 (Operand.tmp 13), type := 30, pos := "ref.go:184", after := #[{ on := 4, ground := Ground.data }, { on := 3, ground := Ground.guard }], guard := some (3, true) }) (v := .slice s1 0 c1) rfl (by kernel_rfl) (by kernel_rfl) (by kernel_rfl) (fun _ _ _ h => h) (Or.inl ⟨by rfl, by intro w hS; have hc := hS.cell (.head _) k1; go_simp⟩) hHeld ?_
  try simp only [Act.put, List.setIfInBounds_toArray, List.set_cons_zero, List.set_cons_succ]
  refine wpAnyH_take (i := 6) (oi := { dst := some 15, op := Op.call { callee := Callee.builtin Builtin.len, args := #[Operand.tmp 14], argTypes := #[30] }, type := 3, pos := "ref.go:184", after := #[{ on := 5, ground := Ground.data }, { on := 3, ground := Ground.guard }], guard := some (3, true) }) (v := .int .i64 0) rfl (by kernel_rfl) (by kernel_rfl) (by kernel_rfl) (fun _ _ _ h => h) (Or.inl ⟨by rfl, by intro w hS; go_simp⟩) hHeld ?_
  try simp only [Act.put, List.setIfInBounds_toArray, List.set_cons_zero, List.set_cons_succ]
  refine wpAnyH_take (i := 7) (oi := { dst := some 16, op := Op.binOp BinOp.gtr 3 (Operand.tmp 15) (Operand.const (Value.int IntKind.i64 0)) 3, type := 4, pos := "ref.go:184", after := #[{ on := 6, ground := Ground.data }, { on := 3, ground := Ground.guard }], guard := some (3, true) }) (v := .bool false) rfl (by kernel_rfl) (by kernel_rfl) (by kernel_rfl) (fun _ _ _ h => h) (Or.inl ⟨by rfl, by intro w hS; go_simp⟩) hHeld ?_
  try simp only [Act.put, List.setIfInBounds_toArray, List.set_cons_zero, List.set_cons_succ]
  refine wpAnyH_take (i := 8) (oi := { dst := some 17, op := Op.pick (Operand.tmp 12) (Operand.tmp 16) (Operand.const (Value.bool false)), type := 4, pos := "ref.go:184", after := #[{ on := 3, ground := Ground.data }, { on := 7, ground := Ground.data }], guard := none }) (v := .bool false) rfl (by kernel_rfl) (by kernel_rfl) (by kernel_rfl) (fun _ _ _ h => h) (Or.inl ⟨by rfl, by intro w hS; go_simp⟩) hHeld ?_
  try simp only [Act.put, List.setIfInBounds_toArray, List.set_cons_zero, List.set_cons_succ]
  refine wpAnyH_take (i := 9) (oi := { dst := some 18, op := Op.move (Operand.tmp 17), type := 4, pos := "ref.go:184", after := #[{ on := 8, ground := Ground.data }, { on := 3, ground := Ground.chain }], guard := none }) (v := .bool false) rfl (by kernel_rfl) (by kernel_rfl) (by kernel_rfl) (fun _ _ _ h => h) (Or.inl ⟨by rfl, by intro w hS; go_simp⟩) hHeld ?_
  try simp only [Act.put, List.setIfInBounds_toArray, List.set_cons_zero, List.set_cons_succ]
  refine wpAnyH_take (i := 10) (oi := { dst := some 19, op := Op.fieldAddr 52 (Operand.tmp 1) 1, type := 0, pos := "ref.go:184", after := #[{ on := 9, ground := Ground.guard }], guard := some (9, false) }) (v := .pointer (some ⟨w.heap.size, 1, none⟩)) rfl (by kernel_rfl) (by kernel_rfl) (by kernel_rfl) (fun _ _ _ h => h) (Or.inl ⟨by rfl, by intro w hS; go_simp⟩) hHeld ?_
  try simp only [Act.put, List.setIfInBounds_toArray, List.set_cons_zero, List.set_cons_succ]
  refine wpAnyH_take (i := 11) (oi := { dst := some 20, op := Op.load 30 (Operand.tmp 19), type := 30, pos := "ref.go:184", after := #[{ on := 10, ground := Ground.data }, { on := 9, ground := Ground.guard }], guard := some (9, false) }) (v := .slice s1 0 c1) rfl (by kernel_rfl) (by kernel_rfl) (by kernel_rfl) (fun _ _ _ h => h) (Or.inl ⟨by rfl, by intro w hS; have hc := hS.cell (.head _) k1; go_simp⟩) hHeld ?_
  try simp only [Act.put, List.setIfInBounds_toArray, List.set_cons_zero, List.set_cons_succ]
  refine wpAnyH_take (i := 12) (oi := { dst := some 21, op := Op.call { callee := Callee.builtin Builtin.len, args := #[Operand.tmp 20], argTypes := #[30] }, type := 3, pos := "ref.go:184", after := #[{ on := 11, ground := Ground.data }, { on := 9, ground := Ground.guard }], guard := some (9, false) }) (v := .int .i64 0) rfl (by kernel_rfl) (by kernel_rfl) (by kernel_rfl) (fun _ _ _ h => h) (Or.inl ⟨by rfl, by intro w hS; go_simp⟩) hHeld ?_
  try simp only [Act.put, List.setIfInBounds_toArray, List.set_cons_zero, List.set_cons_succ]
  refine wpAnyH_take (i := 13) (oi := { dst := some 22, op := Op.binOp BinOp.gtr 3 (Operand.tmp 21) (Operand.const (Value.int IntKind.i64 128)) 3, type := 4, pos := "ref.go:184", after := #[{ on := 12, ground := Ground.data }, { on := 9, ground := Ground.guard }], guard := some (9, false) }) (v := .bool false) rfl (by kernel_rfl) (by kernel_rfl) (by kernel_rfl) (fun _ _ _ h => h) (Or.inl ⟨by rfl, by intro w hS; go_simp⟩) hHeld ?_
  try simp only [Act.put, List.setIfInBounds_toArray, List.set_cons_zero, List.set_cons_succ]
  refine wpAnyH_take (i := 14) (oi := { dst := some 23, op := Op.pick (Operand.tmp 18) (Operand.const (Value.bool true)) (Operand.tmp 22), type := 4, pos := "ref.go:184", after := #[{ on := 9, ground := Ground.data }, { on := 13, ground := Ground.data }], guard := none }) (v := .bool false) rfl (by kernel_rfl) (by kernel_rfl) (by kernel_rfl) (fun _ _ _ h => h) (Or.inl ⟨by rfl, by intro w hS; go_simp⟩) hHeld ?_
  try simp only [Act.put, List.setIfInBounds_toArray, List.set_cons_zero, List.set_cons_succ]
  refine wpAnyH_take (i := 15) (oi := { dst := some 24, op := Op.move (Operand.tmp 23), type := 4, pos := "ref.go:184", after := #[{ on := 14, ground := Ground.data }, { on := 9, ground := Ground.chain }], guard := none }) (v := .bool false) rfl (by kernel_rfl) (by kernel_rfl) (by kernel_rfl) (fun _ _ _ h => h) (Or.inl ⟨by rfl, by intro w hS; go_simp⟩) hHeld ?_
  try simp only [Act.put, List.setIfInBounds_toArray, List.set_cons_zero, List.set_cons_succ]
  refine wpAnyH_take (i := 16) (oi := { dst := some 25, op := Op.fieldAddr 52 (Operand.tmp 1) 3, type := 0, pos := "ref.go:184", after := #[{ on := 15, ground := Ground.guard }], guard := some (15, false) }) (v := .pointer (some ⟨w.heap.size, 34, none⟩)) rfl (by kernel_rfl) (by kernel_rfl) (by kernel_rfl) (fun _ _ _ h => h) (Or.inl ⟨by rfl, by intro w hS; go_simp⟩) hHeld ?_
  try simp only [Act.put, List.setIfInBounds_toArray, List.set_cons_zero, List.set_cons_succ]
  refine wpAnyH_take (i := 19) (oi := { dst := some 28, op := Op.fieldAddr 52 (Operand.tmp 1) 2, type := 0, pos := "ref.go:184", after := #[{ on := 15, ground := Ground.guard }], guard := some (15, false) }) (v := .pointer (some ⟨w.heap.size, 2, none⟩)) rfl (by kernel_rfl) (by kernel_rfl) (by kernel_rfl) (fun _ _ _ h => h) (Or.inl ⟨by rfl, by intro w hS; go_simp⟩) hHeld ?_
  try simp only [Act.put, List.setIfInBounds_toArray, List.set_cons_zero, List.set_cons_succ]
  refine wpAnyH_take (i := 17) (oi := { dst := some 26, op := Op.load 48 (Operand.tmp 25), type := 48, pos := "ref.go:184", after := #[{ on := 16, ground := Ground.data }, { on := 15, ground := Ground.guard }], guard := some (15, false) }) (v := .slice s2 p.ss.length c2) rfl (by kernel_rfl) (by kernel_rfl) (by kernel_rfl) (fun _ _ _ h => h) (Or.inl ⟨by rfl, by intro w hS; have hc := hS.cell (.head _) k34; go_simp⟩) hHeld ?_
  try simp only [Act.put, List.setIfInBounds_toArray, List.set_cons_zero, List.set_cons_succ]
  refine wpAnyH_take (i := 20) (oi := { dst := some 29, op := Op.load 23 (Operand.tmp 28), type := 23, pos := "ref.go:184", after := #[{ on := 19, ground := Ground.data }, { on := 15, ground := Ground.guard }], guard := some (15, false) }) (v := .agg (IB).toArray) rfl (by kernel_rfl) (by kernel_rfl) (by kernel_rfl) (fun _ _ _ h => h) (yieldsIf_load_mid (by rfl) 23 _ rfl w.heap.size (2) rfl (IB) _ (fun w hS => hS.rng (.head _) kb) Tryz.underlying23 rfl LS.out) hHeld ?_
  try simp only [Act.put, List.setIfInBounds_toArray, List.set_cons_zero, List.set_cons_succ]
  refine wpAnyH_take (i := 18) (oi := { dst := some 27, op := Op.call { callee := Callee.builtin Builtin.len, args := #[Operand.tmp 26], argTypes := #[48] }, type := 3, pos := "ref.go:184", after := #[{ on := 17, ground := Ground.data }, { on := 15, ground := Ground.guard }], guard := some (15, false) }) (v := .int .i64 p.ss.length) rfl (by kernel_rfl) (by kernel_rfl) (by kernel_rfl) (fun _ _ _ h => h) (Or.inl ⟨by rfl, by intro w hS; go_simp⟩) hHeld ?_
  try simp only [Act.put, List.setIfInBounds_toArray, List.set_cons_zero, List.set_cons_succ]
  refine wpAnyH_ready (rs := [21]) (by kernel_rfl) (by simp) ?_
  refine (AllReadyH.cons (o := { dst := some 30, op := Op.call { callee := Callee.value (Operand.func 37), args := #[Operand.tmp 29], argTypes := #[23] }, type := 3, pos := "ref.go:184", after := #[{ on := 20, ground := Ground.data }, { on := 15, ground := Ground.chain }, { on := 15, ground := Ground.guard }], guard := some (15, false) }) rfl (fun K hK => ?_) AllReadyH.nil)
  go_simp
  go_at_call 37
  refine (KC.out _).mono ?_
  rintro e w4 ⟨rfl, hb4⟩
  go_wp2_with fail
  refine hK.out _ _ (hHeld.call hb4) (fun hHeld2 => ?_)
  clear hK K hHeld
  have hHeld := hHeld2
  clear hHeld2
  try simp only [Act.put, List.setIfInBounds_toArray, List.set_cons_zero, List.set_cons_succ]
  refine wpAnyH_take (i := 22) (oi := { dst := some 31, op := Op.binOp BinOp.neq 3 (Operand.tmp 27) (Operand.tmp 30) 3, type := 4, pos := "ref.go:184", after := #[{ on := 18, ground := Ground.data }, { on := 21, ground := Ground.data }, { on := 15, ground := Ground.guard }], guard := some (15, false) }) (v := .bool false) rfl (by kernel_rfl) (by kernel_rfl) (by kernel_rfl) (fun _ _ _ h => h) (Or.inl ⟨by rfl, by intro w hS; have h9 := I4.out; go_simp⟩) hHeld ?_
  try simp only [Act.put, List.setIfInBounds_toArray, List.set_cons_zero, List.set_cons_succ]
  refine wpAnyH_take (i := 23) (oi := { dst := some 32, op := Op.pick (Operand.tmp 24) (Operand.const (Value.bool true)) (Operand.tmp 31), type := 4, pos := "ref.go:184", after := #[{ on := 15, ground := Ground.data }, { on := 22, ground := Ground.data }], guard := none }) (v := .bool false) rfl (by kernel_rfl) (by kernel_rfl) (by kernel_rfl) (fun _ _ _ h => h) (Or.inl ⟨by rfl, by intro w hS; go_simp⟩) hHeld ?_
  try simp only [Act.put, List.setIfInBounds_toArray, List.set_cons_zero, List.set_cons_succ]
  refine wpAnyH_done (by kernel_rfl) ?_ _
  refine NoPanic.normal ?_
  clear k34
  have k34 := k34'
  have hGw := hHeld.lt (.head _)
  clear hb4 d0
  have e0 := hHeld.cell (.head _) k0
  go_wp2
  have dA := hHeld.other (.cells #[.int .u8 0] 5)
  have hOa : Own (w4.alloc (.cells #[.int .u8 0] 5)) w4.heap.size (.slice (some ⟨w4.heap.size, 0, none⟩) 1 1) [0] := own_new w4 [0] w4.heap.size (Nat.le_refl _) (by simp [maxLen])
  rw [← HAP.out] at hOa
  have hzA : w4.heap.size ≤ (w4.alloc (.cells #[.int .u8 0] 5)).heap.size := by simp
  have hGB : w.heap.size < w4.heap.size := hGw
  have hwB : w.heap.size ≤ w4.heap.size := by omega
  generalize w4.heap.size = B at *
  clear hHeld e0
  generalize hwR : w4.alloc (.cells #[.int .u8 0] 5) = wR at *
  clear hwR
  go_loopw [4, 6] (fun v i wr => ∃ k : Nat, k ≤ 32 ∧ i = .int .i64 k ∧ Own wr B v (AP ++ p.bs.take k) ∧ BK w wr [(w.heap.size, C, 52)] ∧ B ≤ wr.heap.size) (fun _ i _ => 32 - (intOf i).toNat)
  case atStart => exact ⟨0, by omega, rfl, (by rw [List.take_zero, List.append_nil]; exact hOa), dA, hzA⟩
  case round =>
    clear hOa dA hzA
    obtain ⟨k, hk, rfl, hO, dr, hzr⟩ := hrel
    by_cases hlt : k < 32
    · have i1 : (k : Int) < 32 := by omega
      have hkb : k < p.bs.length := by have := HB.out; omega
      have c0 := dr.cell (.head _) (KB.out k hkb)
      have HT := hid (show AP ++ p.bs.take (k + 1) = (AP ++ p.bs.take k) ++ [p.bs.getD k 0] by rw [List.take_succ_eq_append_getElem hkb, List.getD_eq_getElem?_getD, List.getElem?_eq_getElem hkb, List.append_assoc]; rfl)
      have KN := hid (show (AP ++ p.bs.take k).length + 1 ≤ 140737488355328 by have := HA.out; rw [List.length_append, List.length_take]; omega)
      generalize p.bs.getD k 0 = x at *
      generalize AP ++ p.bs.take k = Z at *
      go_wp2_with (first | (at_builtin; refine wpList_push_any rfl (.tmp 66) (.tmp 71) rfl B _ _ x rfl hO rfl KN.out hzr _ _ ?_; intro v2 w2 hO2 hB2))
      go_roundw
      case rel => exact ⟨k + 1, by omega, by go_num, (by rw [HT.out]; exact hO2), ⟨dr.1.trans (hB2.mono (by omega)), fun x hx => by
        simp only [List.mem_cons, List.not_mem_nil, or_false] at hx
        subst hx
        exact hbel hB2 (dr.row (.head _)) hGB⟩, Nat.le_trans hzr hB2.size⟩
      case measure => simp [intOf]; omega
    · obtain rfl : k = 32 := by omega
      rw [List.take_of_length_le (by have := HB.out; omega)] at hO
      rw [show ((32 : Nat) : Int) = 32 from rfl]
      clear hlt hk
      have hO0 : Own wr B u4 ((AP ++ p.bs) ++ (p.ss.take 0).flatten) := by rw [List.take_zero, List.flatten_nil, List.append_nil]; exact hO
      have HA2 := hid (show (AP ++ p.bs).length ≤ 163 by have := HA.out; have := HB.out; rw [List.length_append]; omega)
      have FA2 := hid (show (AP ++ p.bs) ++ (p.ss.take p.ss.length).flatten = encP p by rw [List.append_assoc]; exact FA.out)
      generalize AP ++ p.bs = A2 at *
      clear hO
      go_wp2
      generalize wr = wS at *
      go_loopw [4, 7] (fun v i wr => ∃ k : Nat, k ≤ p.ss.length ∧ i = .int .i64 k ∧ Own wr B v (A2 ++ (p.ss.take k).flatten) ∧ BK w wr [(w.heap.size, C, 52)] ∧ B ≤ wr.heap.size) (fun _ i _ => p.ss.length - (intOf i).toNat)
      case atStart => exact ⟨0, by omega, rfl, hO0, dr, hzr⟩
      case round =>
        clear hO0 dr hzr
        obtain ⟨k, hk, rfl, hO, dr, hzr⟩ := hrel
        have x34 := dr.cell (.head _) k34.out
        by_cases hlt : k < p.ss.length
        · have i1 : (k : Int) < (p.ss.length : Int) := by omega
          have TT := hT.below dr.1 (Nat.le_refl _)
          obtain ⟨b, o, rfl, hbl, hR⟩ := TT.at (by omega)
          have hbl0 : b < w.heap.size := hBL.out b o rfl (by omega)
          have rg := hid (hR k hlt)
          have dl := hid (DL.out k hlt)
          have HF := hid (FT.out k hlt)
          have HL := hid (FL.out k)
          generalize p.ss.getD k [] = d at *
          have hO1 : Own wr B u4 ((A2 ++ (p.ss.take k).flatten) ++ d.take 0) := by rw [List.take_zero, List.append_nil]; exact hO
          have HZ := hid (show (A2 ++ (p.ss.take k).flatten).length ≤ 10000 by have := HA2.out; have := HL.out; have := hm'.out; rw [List.length_append]; omega)
          have HF2 := hid (show A2 ++ (p.ss.take (k + 1)).flatten = (A2 ++ (p.ss.take k).flatten) ++ d by rw [HF.out, List.append_assoc])
          generalize A2 ++ (p.ss.take k).flatten = Z at *
          generalize hmm : p.ss.length = m at *
          clear hmm hO hR TT
          go_wp2
          generalize wr = wT at *
          go_loopw [4, 8] (fun v i wr => ∃ j : Nat, j ≤ 32 ∧ i = .int .i64 j ∧ Own wr B v (Z ++ d.take j) ∧ BK w wr [(w.heap.size, C, 52)] ∧ B ≤ wr.heap.size ∧ Below B wT wr) (fun _ i _ => 32 - (intOf i).toNat)
          case atStart => exact ⟨0, by omega, rfl, hO1, dr, hzr, Below.refl _ _⟩
          case round =>
            clear hO1 dr hzr x34
            obtain ⟨j, hj, rfl, hO, dr, hzr, hBT⟩ := hrel
            have x34 := dr.cell (.head _) k34.out
            by_cases hlj : j < 32
            · have j1 : (j : Int) < 32 := by omega
              have hjd : j < d.length := by have := dl.out; omega
              have c0 := (rng_below rg.out hBT (by omega)) j _ (ints_get .u8 d j hjd)
              have HT := hid (show Z ++ d.take (j + 1) = (Z ++ d.take j) ++ [d.getD j 0] by rw [List.take_succ_eq_append_getElem hjd, List.getD_eq_getElem?_getD, List.getElem?_eq_getElem hjd, List.append_assoc]; rfl)
              have KN := hid (show (Z ++ d.take j).length + 1 ≤ 140737488355328 by have := HZ.out; rw [List.length_append, List.length_take]; omega)
              generalize d.getD j 0 = x at *
              generalize Z ++ d.take j = Zj at *
              go_wp2_with (first | (at_builtin; refine wpList_push_any rfl (.tmp 84) (.tmp 92) rfl B _ _ x rfl hO rfl KN.out hzr _ _ ?_; intro v2 w2 hO2 hB2))
              go_roundw
              case rel => exact ⟨j + 1, by omega, by go_num, (by rw [HT.out]; exact hO2), ⟨dr.1.trans (hB2.mono (by omega)), fun x hx => by
                simp only [List.mem_cons, List.not_mem_nil, or_false] at hx
                subst hx
                exact hbel hB2 (dr.row (.head _)) hGB⟩, Nat.le_trans hzr hB2.size, hBT.trans hB2⟩
              case measure => simp [intOf]; omega
            · obtain rfl : j = 32 := by omega
              rw [List.take_of_length_le (by have := dl.out; omega)] at hO
              rw [show ((32 : Nat) : Int) = 32 from rfl]
              go_wp2
              go_roundw
              case rel => exact ⟨k + 1, by omega, by go_num, (by rw [HF2.out]; exact hO), dr, hzr⟩
              case measure => simp [intOf]; omega
        · obtain rfl : k = p.ss.length := by omega
          rw [FA2.out] at hO
          go_wp2
          refine bodyPost_ret (results_tmp2 Tryz.results19 _ _ _) rfl ?_
          exact ⟨_, rfl, own_lower hO (by omega), dr.1⟩
set_option maxRecDepth 100000 in
set_option maxHeartbeats 8000000 in
theorem xenc_t (w : World) (p : Pf) (ok : PfOk p) (y : PfY p) (s1 s2 : Option Addr) (c1 c2 : Nat) (hS : Src w s1 c1 p.vs) (hT : SrcD w s2 c2 p.ss) (hw : WellP p) (hf : p.f = true) :
    Calls Tryz.prog 19 #[.agg (pfC p (.slice s1 p.vs.length c1) (.slice s2 p.ss.length c2)).toArray] w fun e w' => ∃ v, e = .returned (.tuple #[v, .int .i64 0]) ∧ Own w' w.heap.size v (encP p) ∧ Below w.heap.size w w' := by
  have hv := hw.len
  have hm := (encP_len ok hw).2.2
  have hq := hw.num
  have d0 := (BK.nil w).alloc (pfC p (.slice s1 p.vs.length c1) (.slice s2 p.ss.length c2)) 52
  have k0 := pfC_f p (.slice s1 p.vs.length c1) (.slice s2 p.ss.length c2)
  have k1 := pfC_v p (.slice s1 p.vs.length c1) (.slice s2 p.ss.length c2)
  have k34 := pfC_s ok (.slice s1 p.vs.length c1) (.slice s2 p.ss.length c2)
  have kb := pfC_b p (.slice s1 p.vs.length c1) (.slice s2 p.ss.length c2)
  have LS := hid (show (Tryz.prog.info? 23).map (·.size) = some (ints .u8 p.bs).length by rw [Tryz.sizeA, ints_len, ok.bs])
  have KC := hid (fun w1 => xOnes_any w1 p.bs ok.bs y.bs)
  have b1 : (onesN p.bs : Int) ≤ 256 := by have := onesN_le p.bs; have := ok.bs; omega
  have i9 : (p.ss.length : Int) ≤ 256 := by omega
  have I4 := hid (show (p.ss.length : Int) = (onesN p.bs : Int) by omega)
  have i3 : (p.vs.length : Int) ≤ 128 := by omega
  have HAP := hid (show ansP p = [1, (p.vs.length : Int) % 256, (p.vs.length : Int) / 256] ++ p.vs by unfold ansP; rw [if_pos hf])
  have HA := hid (ansP_len hw).2
  have HB := hid ok.bs
  have KB := hid (fun k (h : k < p.bs.length) => pfC_b p (.slice s1 p.vs.length c1) (.slice s2 p.ss.length c2) k _ (ints_get .u8 p.bs k h))
  have FT := hid (fun k (h : k < p.ss.length) => flat_take p.ss k h)
  have FL := hid (fun k => flat_take_len p.ss k ok.ss)
  have FA := hid (show ansP p ++ (p.bs ++ (p.ss.take p.ss.length).flatten) = encP p by rw [List.take_length]; rfl)
  have DL := hid (fun j (hj : j < p.ss.length) => hT.dlen j hj)
  have hBL := hid (fun b o (e : s2 = some ⟨b, o, none⟩) (hp : 0 < p.ss.length) => show b < w.heap.size by
    obtain ⟨b', o', q1, q2, _⟩ := hT.at hp
    rw [e] at q1
    cases q1
    exact q2)
  have hm' := hid hm
  have k34' := hid k34
  clear hv hm hq
  rw [hf] at k0
  generalize hCC : pfC p (.slice s1 p.vs.length c1) (.slice s2 p.ss.length c2) = C at *
  clear hCC
  generalize hIB : ints .u8 p.bs = IB at *
  clear hIB
  generalize hOO : onesN p.bs = O at *
  clear hOO
  generalize ansP p = AP at *
  generalize hn : p.vs.length = n at *
  have HN := hid hn
  clear hn
  go_enter Tryz.func19, Tryz.ntmps19
  go_wp2
  refine wp_region_noPanic ?_
  refine wp_region_held_drew (S := (fun w' => BK w w' [(w.heap.size, C, 52)])) (by kernel_rfl) d0.drew (fun hHeld => ?_)
  refine wpAnyH_take (i := 0) (oi := { dst := some 9, op := Op.fieldAddr 52 (Operand.tmp 1) 0, type := 0, pos := "ref.go:184", after := #[], guard := none }) (v := .pointer (some ⟨w.heap.size, 0, none⟩)) rfl (by kernel_rfl) (by kernel_rfl) (by kernel_rfl) (fun _ _ _ h => h) (Or.inl ⟨by rfl, by intro w hS; go_simp⟩) hHeld ?_
  try simp only [Act.put, List.setIfInBounds_toArray, List.set_cons_zero, List.set_cons_succ]
  refine wpAnyH_take (i := 1) (oi := { dst := some 10, op := Op.load 4 (Operand.tmp 9), type := 4, pos := "ref.go:184", after := #[{ on := 0, ground := Ground.data }], guard := none }) (v := .bool true) rfl (by kernel_rfl) (by kernel_rfl) (by kernel_rfl) (fun _ _ _ h => h) (Or.inl ⟨by rfl, by intro w hS; have hc := hS.cell (.head _) k0; go_simp⟩) hHeld ?_
  try simp only [Act.put, List.setIfInBounds_toArray, List.set_cons_zero, List.set_cons_succ]
  refine wpAnyH_take (i := 2) (oi := { dst := some 11, op := Op.unOp UnOp.not 4 (Operand.tmp 10), type := 4, pos := "ref.go:184", after := #[{ on := 1, ground := Ground.data }], guard := none }) (v := .bool false) rfl (by kernel_rfl) (by kernel_rfl) (by kernel_rfl) (fun _ _ _ h => h) (Or.inl ⟨by rfl, by intro w hS; go_simp⟩) hHeld ?_
  try simp only [Act.put, List.setIfInBounds_toArray, List.set_cons_zero, List.set_cons_succ]
  refine wpAnyH_take (i := 3) (oi := { dst := some 12, op := Op.move (Operand.tmp 11), type := 4, pos := "ref.go:184", after := #[{ on := 2, ground := Ground.data }], guard := none }) (v := .bool false) rfl (by kernel_rfl) (by kernel_rfl) (by kernel_rfl) (fun _ _ _ h => h) (Or.inl ⟨by rfl, by intro w hS; go_simp⟩) hHeld ?_
  try simp only [Act.put, List.setIfInBounds_toArray, List.set_cons_zero, List.set_cons_succ]
  refine wpAnyH_take (i := 4) (oi := { dst := some 13, op := Op.fieldAddr 52 (Operand.tmp 1) 1, type := 0, pos := "ref.go:184", after := #[{ on := 3, ground := Ground.guard }], guard := some (3, true) }) (v := undef) rfl (by kernel_rfl) (by kernel_rfl) (by kernel_rfl) (fun _ _ _ h => h) (Or.inr ⟨by rfl, rfl⟩) hHeld ?_
  try simp only [Act.put, List.setIfInBounds_toArray, List.set_cons_zero, List.set_cons_succ]
  refine wpAnyH_take (i := 5) (oi := { dst := some 14, op := Op.load 30 (Operand.tmp 13), type := 30, pos := "ref.go:184", after := #[{ on := 4, ground := Ground.data }, { on := 3, ground := Ground.guard }], guard := some (3, true) }) (v := undef) rfl (by kernel_rfl) (by kernel_rfl) (by kernel_rfl) (fun _ _ _ h => h) (Or.inr ⟨by rfl, rfl⟩) hHeld ?_
  try simp only [Act.put, List.setIfInBounds_toArray, List.set_cons_zero, List.set_cons_succ]
  refine wpAnyH_take (i := 6) (oi := { dst := some 15, op := Op.call { callee := Callee.builtin Builtin.len, args := #[Operand.tmp 14], argTypes := #[30] }, type := 3, pos := "ref.go:184", after := #[{ on := 5, ground := Ground.data }, { on := 3, ground := Ground.guard }], guard := some (3, true) }) (v := undef) rfl (by kernel_rfl) (by kernel_rfl) (by kernel_rfl) (fun _ _ _ h => h) (Or.inr ⟨by rfl, rfl⟩) hHeld ?_
  try simp only [Act.put, List.setIfInBounds_toArray, List.set_cons_zero, List.set_cons_succ]
  refine wpAnyH_take (i := 7) (oi := { dst := some 16, op := Op.binOp BinOp.gtr 3 (Operand.tmp 15) (Operand.const (Value.int IntKind.i64 0)) 3, type := 4, pos := "ref.go:184", after := #[{ on := 6, ground := Ground.data }, { on := 3, ground := Ground.guard }], guard := some (3, true) }) (v := undef) rfl (by kernel_rfl) (by kernel_rfl) (by kernel_rfl) (fun _ _ _ h => h) (Or.inr ⟨by rfl, rfl⟩) hHeld ?_
  try simp only [Act.put, List.setIfInBounds_toArray, List.set_cons_zero, List.set_cons_succ]
  refine wpAnyH_take (i := 8) (oi := { dst := some 17, op := Op.pick (Operand.tmp 12) (Operand.tmp 16) (Operand.const (Value.bool false)), type := 4, pos := "ref.go:184", after := #[{ on := 3, ground := Ground.data }, { on := 7, ground := Ground.data }], guard := none }) (v := .bool false) rfl (by kernel_rfl) (by kernel_rfl) (by kernel_rfl) (fun _ _ _ h => h) (Or.inl ⟨by rfl, by intro w hS; go_simp⟩) hHeld ?_
  try simp only [Act.put, List.setIfInBounds_toArray, List.set_cons_zero, List.set_cons_succ]
  refine wpAnyH_take (i := 9) (oi := { dst := some 18, op := Op.move (Operand.tmp 17), type := 4, pos := "ref.go:184", after := #[{ on := 8, ground := Ground.data }, { on := 3, ground := Ground.chain }], guard := none }) (v := .bool false) rfl (by kernel_rfl) (by kernel_rfl) (by kernel_rfl) (fun _ _ _ h => h) (Or.inl ⟨by rfl, by intro w hS; go_simp⟩) hHeld ?_
  try simp only [Act.put, List.setIfInBounds_toArray, List.set_cons_zero, List.set_cons_succ]
  refine wpAnyH_take (i := 10) (oi := { dst := some 19, op := Op.fieldAddr 52 (Operand.tmp 1) 1, type := 0, pos := "ref.go:184", after := #[{ on := 9, ground := Ground.guard }], guard := some (9, false) }) (v := .pointer (some ⟨w.heap.size, 1, none⟩)) rfl (by kernel_rfl) (by kernel_rfl) (by kernel_rfl) (fun _ _ _ h => h) (Or.inl ⟨by rfl, by intro w hS; go_simp⟩) hHeld ?_
  try simp only [Act.put, List.setIfInBounds_toArray, List.set_cons_zero, List.set_cons_succ]
  refine wpAnyH_take (i := 11) (oi := { dst := some 20, op := Op.load 30 (Operand.tmp 19), type := 30, pos := "ref.go:184", after := #[{ on := 10, ground := Ground.data }, { on := 9, ground := Ground.guard }], guard := some (9, false) }) (v := .slice s1 n c1) rfl (by kernel_rfl) (by kernel_rfl) (by kernel_rfl) (fun _ _ _ h => h) (Or.inl ⟨by rfl, by intro w hS; have hc := hS.cell (.head _) k1; go_simp⟩) hHeld ?_
  try simp only [Act.put, List.setIfInBounds_toArray, List.set_cons_zero, List.set_cons_succ]
  refine wpAnyH_take (i := 12) (oi := { dst := some 21, op := Op.call { callee := Callee.builtin Builtin.len, args := #[Operand.tmp 20], argTypes := #[30] }, type := 3, pos := "ref.go:184", after := #[{ on := 11, ground := Ground.data }, { on := 9, ground := Ground.guard }], guard := some (9, false) }) (v := .int .i64 n) rfl (by kernel_rfl) (by kernel_rfl) (by kernel_rfl) (fun _ _ _ h => h) (Or.inl ⟨by rfl, by intro w hS; go_simp⟩) hHeld ?_
  try simp only [Act.put, List.setIfInBounds_toArray, List.set_cons_zero, List.set_cons_succ]
  refine wpAnyH_take (i := 13) (oi := { dst := some 22, op := Op.binOp BinOp.gtr 3 (Operand.tmp 21) (Operand.const (Value.int IntKind.i64 128)) 3, type := 4, pos := "ref.go:184", after := #[{ on := 12, ground := Ground.data }, { on := 9, ground := Ground.guard }], guard := some (9, false) }) (v := .bool false) rfl (by kernel_rfl) (by kernel_rfl) (by kernel_rfl) (fun _ _ _ h => h) (Or.inl ⟨by rfl, by intro w hS; go_simp⟩) hHeld ?_
  try simp only [Act.put, List.setIfInBounds_toArray, List.set_cons_zero, List.set_cons_succ]
  refine wpAnyH_take (i := 14) (oi := { dst := some 23, op := Op.pick (Operand.tmp 18) (Operand.const (Value.bool true)) (Operand.tmp 22), type := 4, pos := "ref.go:184", after := #[{ on := 9, ground := Ground.data }, { on := 13, ground := Ground.data }], guard := none }) (v := .bool false) rfl (by kernel_rfl) (by kernel_rfl) (by kernel_rfl) (fun _ _ _ h => h) (Or.inl ⟨by rfl, by intro w hS; go_simp⟩) hHeld ?_
  try simp only [Act.put, List.setIfInBounds_toArray, List.set_cons_zero, List.set_cons_succ]
  refine wpAnyH_take (i := 15) (oi := { dst := some 24, op := Op.move (Operand.tmp 23), type := 4, pos := "ref.go:184", after := #[{ on := 14, ground := Ground.data }, { on := 9, ground := Ground.chain }], guard := none }) (v := .bool false) rfl (by kernel_rfl) (by kernel_rfl) (by kernel_rfl) (fun _ _ _ h => h) (Or.inl ⟨by rfl, by intro w hS; go_simp⟩) hHeld ?_
  try simp only [Act.put, List.setIfInBounds_toArray, List.set_cons_zero, List.set_cons_succ]
  refine wpAnyH_take (i := 16) (oi := { dst := some 25, op := Op.fieldAddr 52 (Operand.tmp 1) 3, type := 0, pos := "ref.go:184", after := #[{ on := 15, ground := Ground.guard }], guard := some (15, false) }) (v := .pointer (some ⟨w.heap.size, 34, none⟩)) rfl (by kernel_rfl) (by kernel_rfl) (by kernel_rfl) (fun _ _ _ h => h) (Or.inl ⟨by rfl, by intro w hS; go_simp⟩) hHeld ?_
  try simp only [Act.put, List.setIfInBounds_toArray, List.set_cons_zero, List.set_cons_succ]
  refine wpAnyH_take (i := 19) (oi := { dst := some 28, op := Op.fieldAddr 52 (Operand.tmp 1) 2, type := 0, pos := "ref.go:184", after := #[{ on := 15, ground := Ground.guard }], guard := some (15, false) }) (v := .pointer (some ⟨w.heap.size, 2, none⟩)) rfl (by kernel_rfl) (by kernel_rfl) (by kernel_rfl) (fun _ _ _ h => h) (Or.inl ⟨by rfl, by intro w hS; go_simp⟩) hHeld ?_
  try simp only [Act.put, List.setIfInBounds_toArray, List.set_cons_zero, List.set_cons_succ]
  refine wpAnyH_take (i := 17) (oi := { dst := some 26, op := Op.load 48 (Operand.tmp 25), type := 48, pos := "ref.go:184", after := #[{ on := 16, ground := Ground.data }, { on := 15, ground := Ground.guard }], guard := some (15, false) }) (v := .slice s2 p.ss.length c2) rfl (by kernel_rfl) (by kernel_rfl) (by kernel_rfl) (fun _ _ _ h => h) (Or.inl ⟨by rfl, by intro w hS; have hc := hS.cell (.head _) k34; go_simp⟩) hHeld ?_
  try simp only [Act.put, List.setIfInBounds_toArray, List.set_cons_zero, List.set_cons_succ]
  refine wpAnyH_take (i := 20) (oi := { dst := some 29, op := Op.load 23 (Operand.tmp 28), type := 23, pos := "ref.go:184", after := #[{ on := 19, ground := Ground.data }, { on := 15, ground := Ground.guard }], guard := some (15, false) }) (v := .agg (IB).toArray) rfl (by kernel_rfl) (by kernel_rfl) (by kernel_rfl) (fun _ _ _ h => h) (yieldsIf_load_mid (by rfl) 23 _ rfl w.heap.size (2) rfl (IB) _ (fun w hS => hS.rng (.head _) kb) Tryz.underlying23 rfl LS.out) hHeld ?_
  try simp only [Act.put, List.setIfInBounds_toArray, List.set_cons_zero, List.set_cons_succ]
  refine wpAnyH_take (i := 18) (oi := { dst := some 27, op := Op.call { callee := Callee.builtin Builtin.len, args := #[Operand.tmp 26], argTypes := #[48] }, type := 3, pos := "ref.go:184", after := #[{ on := 17, ground := Ground.data }, { on := 15, ground := Ground.guard }], guard := some (15, false) }) (v := .int .i64 p.ss.length) rfl (by kernel_rfl) (by kernel_rfl) (by kernel_rfl) (fun _ _ _ h => h) (Or.inl ⟨by rfl, by intro w hS; go_simp⟩) hHeld ?_
  try simp only [Act.put, List.setIfInBounds_toArray, List.set_cons_zero, List.set_cons_succ]
  refine wpAnyH_ready (rs := [21]) (by kernel_rfl) (by simp) ?_
  refine (AllReadyH.cons (o := { dst := some 30, op := Op.call { callee := Callee.value (Operand.func 37), args := #[Operand.tmp 29], argTypes := #[23] }, type := 3, pos := "ref.go:184", after := #[{ on := 20, ground := Ground.data }, { on := 15, ground := Ground.chain }, { on := 15, ground := Ground.guard }], guard := some (15, false) }) rfl (fun K hK => ?_) AllReadyH.nil)
  go_simp
  go_at_call 37
  refine (KC.out _).mono ?_
  rintro e w4 ⟨rfl, hb4⟩
  go_wp2_with fail
  refine hK.out _ _ (hHeld.call hb4) (fun hHeld2 => ?_)
  clear hK K hHeld
  have hHeld := hHeld2
  clear hHeld2
  try simp only [Act.put, List.setIfInBounds_toArray, List.set_cons_zero, List.set_cons_succ]
  refine wpAnyH_take (i := 22) (oi := { dst := some 31, op := Op.binOp BinOp.neq 3 (Operand.tmp 27) (Operand.tmp 30) 3, type := 4, pos := "ref.go:184", after := #[{ on := 18, ground := Ground.data }, { on := 21, ground := Ground.data }, { on := 15, ground := Ground.guard }], guard := some (15, false) }) (v := .bool false) rfl (by kernel_rfl) (by kernel_rfl) (by kernel_rfl) (fun _ _ _ h => h) (Or.inl ⟨by rfl, by intro w hS; have h9 := I4.out; go_simp⟩) hHeld ?_
  try simp only [Act.put, List.setIfInBounds_toArray, List.set_cons_zero, List.set_cons_succ]
  refine wpAnyH_take (i := 23) (oi := { dst := some 32, op := Op.pick (Operand.tmp 24) (Operand.const (Value.bool true)) (Operand.tmp 31), type := 4, pos := "ref.go:184", after := #[{ on := 15, ground := Ground.data }, { on := 22, ground := Ground.data }], guard := none }) (v := .bool false) rfl (by kernel_rfl) (by kernel_rfl) (by kernel_rfl) (fun _ _ _ h => h) (Or.inl ⟨by rfl, by intro w hS; go_simp⟩) hHeld ?_
  try simp only [Act.put, List.setIfInBounds_toArray, List.set_cons_zero, List.set_cons_succ]
  refine wpAnyH_done (by kernel_rfl) ?_ _
  refine NoPanic.normal ?_
  clear k34
  have k34 := k34'
  have hGw := hHeld.lt (.head _)
  clear hb4 d0
  have e0 := hHeld.cell (.head _) k0
  have e1 := hHeld.cell (.head _) k1
  have q1 := (hHeld.other (.cells #[.int .u8 0] 5)).cell (.head _) k0
  have q2 := (hHeld.other (.cells #[.int .u8 0] 5)).cell (.head _) k1
  go_wp2
  have dA := (hHeld.other (.cells #[.int .u8 0] 5)).other (.cells #[.int .u8 1, .int .u8 ((n : Int) % 256), .int .u8 ((n : Int) / 256)] 5)
  have hOa : Own ((w4.alloc (.cells #[.int .u8 0] 5)).alloc (.cells #[.int .u8 1, .int .u8 ((n : Int) % 256), .int .u8 ((n : Int) / 256)] 5)) (w4.alloc (.cells #[.int .u8 0] 5)).heap.size (.slice (some ⟨(w4.alloc (.cells #[.int .u8 0] 5)).heap.size, 0, none⟩) 3 3) [1, (n : Int) % 256, (n : Int) / 256] := own_new (w4.alloc (.cells #[.int .u8 0] 5)) [1, (n : Int) % 256, (n : Int) / 256] (w4.alloc (.cells #[.int .u8 0] 5)).heap.size (Nat.le_refl _) (by simp [maxLen])
  have hzA : (w4.alloc (.cells #[.int .u8 0] 5)).heap.size ≤ ((w4.alloc (.cells #[.int .u8 0] 5)).alloc (.cells #[.int .u8 1, .int .u8 ((n : Int) % 256), .int .u8 ((n : Int) / 256)] 5)).heap.size := by simp
  have hszz : (w4.alloc (.cells #[.int .u8 0] 5)).heap.size = w4.heap.size + 1 := by simp
  have hGB : w.heap.size < (w4.alloc (.cells #[.int .u8 0] 5)).heap.size := by simp; omega
  have HAQ := HAP
  rw [hszz] at hOa hzA hGB
  clear hszz
  generalize w4.heap.size + 1 = B at *
  clear hHeld e0 e1 q1 q2
  generalize hwR : (w4.alloc (.cells #[.int .u8 0] 5)).alloc (.cells #[.int .u8 1, .int .u8 ((n : Int) % 256), .int .u8 ((n : Int) / 256)] 5) = wQ at *
  clear hwR
  go_loopw [4, 5] (fun v i wr => ∃ k : Nat, k ≤ n ∧ i = .int .i64 k ∧ Own wr B v ([1, (n : Int) % 256, (n : Int) / 256] ++ p.vs.take k) ∧ BK w wr [(w.heap.size, C, 52)] ∧ B ≤ wr.heap.size) (fun _ i _ => n - (intOf i).toNat)
  case atStart => exact ⟨0, by omega, rfl, (by rw [List.take_zero, List.append_nil]; exact hOa), dA, hzA⟩
  case round =>
    clear hOa dA hzA
    obtain ⟨k, hk, rfl, hO, dr, hzr⟩ := hrel
    have x1 := dr.cell (.head _) k1
    by_cases hlt : k < n
    · have i1 : (k : Int) < (n : Int) := by omega
      have hkv : k < p.vs.length := by have := HN.out; omega
      have TS := hS.below dr.1 (Nat.le_refl _)
      obtain ⟨hc, hmx, b, o, hb, hsp, hsrc⟩ := TS
      obtain rfl := hsp (by omega)
      have c0 := hsrc k hkv
      have HT := hid (show [1, (n : Int) % 256, (n : Int) / 256] ++ p.vs.take (k + 1) = ([1, (n : Int) % 256, (n : Int) / 256] ++ p.vs.take k) ++ [p.vs.getD k 0] by rw [List.take_succ_eq_append_getElem hkv, List.getD_eq_getElem?_getD, List.getElem?_eq_getElem hkv, List.append_assoc]; rfl)
      have KN := hid (show ([1, (n : Int) % 256, (n : Int) / 256] ++ p.vs.take k).length + 1 ≤ 140737488355328 by rw [List.length_append, List.length_take]; simp only [List.length_cons, List.length_nil]; omega)
      clear hsrc hsp hb hc hmx
      generalize p.vs.getD k 0 = x at *
      generalize [1, (n : Int) % 256, (n : Int) / 256] ++ p.vs.take k = Z at *
      go_wp2_with (first | (at_builtin; refine wpList_push_any rfl (.tmp 54) (.tmp 60) rfl B _ _ x rfl hO rfl KN.out hzr _ _ ?_; intro v2 w2 hO2 hB2))
      go_roundw
      case rel => exact ⟨k + 1, by omega, by go_num, (by rw [HT.out]; exact hO2), ⟨dr.1.trans (hB2.mono (by omega)), fun x hx => by
        simp only [List.mem_cons, List.not_mem_nil, or_false] at hx
        subst hx
        exact hbel hB2 (dr.row (.head _)) hGB⟩, Nat.le_trans hzr hB2.size⟩
      case measure => simp [intOf]; omega
    · obtain rfl : k = n := by omega
      have hOa : Own wr B u4 AP := by rw [HAQ.out]; rw [List.take_of_length_le (by have := HN.out; omega)] at hO; exact hO
      have dA := dr
      have hzA := hzr
      clear hO dr hzr hlt hk
      go_wp2
      generalize hwR : wr = wR at *
      clear hwR
      go_loopw [4, 6] (fun v i wr => ∃ k : Nat, k ≤ 32 ∧ i = .int .i64 k ∧ Own wr B v (AP ++ p.bs.take k) ∧ BK w wr [(w.heap.size, C, 52)] ∧ B ≤ wr.heap.size) (fun _ i _ => 32 - (intOf i).toNat)
      case atStart => exact ⟨0, by omega, rfl, (by rw [List.take_zero, List.append_nil]; exact hOa), dA, hzA⟩
      case round =>
        clear hOa dA hzA
        obtain ⟨k, hk, rfl, hO, dr, hzr⟩ := hrel
        by_cases hlt : k < 32
        · have i1 : (k : Int) < 32 := by omega
          have hkb : k < p.bs.length := by have := HB.out; omega
          have c0 := dr.cell (.head _) (KB.out k hkb)
          have HT := hid (show AP ++ p.bs.take (k + 1) = (AP ++ p.bs.take k) ++ [p.bs.getD k 0] by rw [List.take_succ_eq_append_getElem hkb, List.getD_eq_getElem?_getD, List.getElem?_eq_getElem hkb, List.append_assoc]; rfl)
          have KN := hid (show (AP ++ p.bs.take k).length + 1 ≤ 140737488355328 by have := HA.out; rw [List.length_append, List.length_take]; omega)
          generalize p.bs.getD k 0 = x at *
          generalize AP ++ p.bs.take k = Z at *
          go_wp2_with (first | (at_builtin; refine wpList_push_any rfl (.tmp 66) (.tmp 71) rfl B _ _ x rfl hO rfl KN.out hzr _ _ ?_; intro v2 w2 hO2 hB2))
          go_roundw
          case rel => exact ⟨k + 1, by omega, by go_num, (by rw [HT.out]; exact hO2), ⟨dr.1.trans (hB2.mono (by omega)), fun x hx => by
            simp only [List.mem_cons, List.not_mem_nil, or_false] at hx
            subst hx
            exact hbel hB2 (dr.row (.head _)) hGB⟩, Nat.le_trans hzr hB2.size⟩
          case measure => simp [intOf]; omega
        · obtain rfl : k = 32 := by omega
          rw [List.take_of_length_le (by have := HB.out; omega)] at hO
          rw [show ((32 : Nat) : Int) = 32 from rfl]
          clear hlt hk
          have hO0 : Own wr B u4 ((AP ++ p.bs) ++ (p.ss.take 0).flatten) := by rw [List.take_zero, List.flatten_nil, List.append_nil]; exact hO
          have HA2 := hid (show (AP ++ p.bs).length ≤ 163 by have := HA.out; have := HB.out; rw [List.length_append]; omega)
          have FA2 := hid (show (AP ++ p.bs) ++ (p.ss.take p.ss.length).flatten = encP p by rw [List.append_assoc]; exact FA.out)
          generalize AP ++ p.bs = A2 at *
          clear hO
          go_wp2
          generalize wr = wS at *
          go_loopw [4, 7] (fun v i wr => ∃ k : Nat, k ≤ p.ss.length ∧ i = .int .i64 k ∧ Own wr B v (A2 ++ (p.ss.take k).flatten) ∧ BK w wr [(w.heap.size, C, 52)] ∧ B ≤ wr.heap.size) (fun _ i _ => p.ss.length - (intOf i).toNat)
          case atStart => exact ⟨0, by omega, rfl, hO0, dr, hzr⟩
          case round =>
            clear hO0 dr hzr
            obtain ⟨k, hk, rfl, hO, dr, hzr⟩ := hrel
            have x34 := dr.cell (.head _) k34.out
            by_cases hlt : k < p.ss.length
            · have i1 : (k : Int) < (p.ss.length : Int) := by omega
              have TT := hT.below dr.1 (Nat.le_refl _)
              obtain ⟨b, o, rfl, hbl, hR⟩ := TT.at (by omega)
              have hbl0 : b < w.heap.size := hBL.out b o rfl (by omega)
              have rg := hid (hR k hlt)
              have dl := hid (DL.out k hlt)
              have HF := hid (FT.out k hlt)
              have HL := hid (FL.out k)
              generalize p.ss.getD k [] = d at *
              have hO1 : Own wr B u4 ((A2 ++ (p.ss.take k).flatten) ++ d.take 0) := by rw [List.take_zero, List.append_nil]; exact hO
              have HZ := hid (show (A2 ++ (p.ss.take k).flatten).length ≤ 10000 by have := HA2.out; have := HL.out; have := hm'.out; rw [List.length_append]; omega)
              have HF2 := hid (show A2 ++ (p.ss.take (k + 1)).flatten = (A2 ++ (p.ss.take k).flatten) ++ d by rw [HF.out, List.append_assoc])
              generalize A2 ++ (p.ss.take k).flatten = Z at *
              generalize hmm : p.ss.length = m at *
              clear hmm hO hR TT
              go_wp2
              generalize wr = wT at *
              go_loopw [4, 8] (fun v i wr => ∃ j : Nat, j ≤ 32 ∧ i = .int .i64 j ∧ Own wr B v (Z ++ d.take j) ∧ BK w wr [(w.heap.size, C, 52)] ∧ B ≤ wr.heap.size ∧ Below B wT wr) (fun _ i _ => 32 - (intOf i).toNat)
              case atStart => exact ⟨0, by omega, rfl, hO1, dr, hzr, Below.refl _ _⟩
              case round =>
                clear hO1 dr hzr x34
                obtain ⟨j, hj, rfl, hO, dr, hzr, hBT⟩ := hrel
                have x34 := dr.cell (.head _) k34.out
                by_cases hlj : j < 32
                · have j1 : (j : Int) < 32 := by omega
                  have hjd : j < d.length := by have := dl.out; omega
                  have c0 := (rng_below rg.out hBT (by omega)) j _ (ints_get .u8 d j hjd)
                  have HT := hid (show Z ++ d.take (j + 1) = (Z ++ d.take j) ++ [d.getD j 0] by rw [List.take_succ_eq_append_getElem hjd, List.getD_eq_getElem?_getD, List.getElem?_eq_getElem hjd, List.append_assoc]; rfl)
                  have KN := hid (show (Z ++ d.take j).length + 1 ≤ 140737488355328 by have := HZ.out; rw [List.length_append, List.length_take]; omega)
                  generalize d.getD j 0 = x at *
                  generalize Z ++ d.take j = Zj at *
                  go_wp2_with (first | (at_builtin; refine wpList_push_any rfl (.tmp 84) (.tmp 92) rfl B _ _ x rfl hO rfl KN.out hzr _ _ ?_; intro v2 w2 hO2 hB2))
                  go_roundw
                  case rel => exact ⟨j + 1, by omega, by go_num, (by rw [HT.out]; exact hO2), ⟨dr.1.trans (hB2.mono (by omega)), fun x hx => by
                    simp only [List.mem_cons, List.not_mem_nil, or_false] at hx
                    subst hx
                    exact hbel hB2 (dr.row (.head _)) hGB⟩, Nat.le_trans hzr hB2.size, hBT.trans hB2⟩
                  case measure => simp [intOf]; omega
                · obtain rfl : j = 32 := by omega
                  rw [List.take_of_length_le (by have := dl.out; omega)] at hO
                  rw [show ((32 : Nat) : Int) = 32 from rfl]
                  go_wp2
                  go_roundw
                  case rel => exact ⟨k + 1, by omega, by go_num, (by rw [HF2.out]; exact hO), dr, hzr⟩
                  case measure => simp [intOf]; omega
            · obtain rfl : k = p.ss.length := by omega
              rw [FA2.out] at hO
              go_wp2
              refine bodyPost_ret (results_tmp2 Tryz.results19 _ _ _) rfl ?_
              exact ⟨_, rfl, own_lower hO (by omega), dr.1⟩
end Go.Proofs.YtbjahdbmkcamoaaGreatDoor
