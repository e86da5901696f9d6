import Derived.Test.YtbpamknebjdicaaL14
namespace Go.Proofs.Ytbpamknebjdicaa
set_option linter.unusedVariables false
set_option linter.unusedSimpArgs false
open Go.RowKit
attribute [local go_sem ↓] Go.wp_at_zero Go.wp_at_succ

/-! Lists of numbers that are read. -/
def SrcI (w : World) (sp : Option Addr) (zs : List Int) : Prop := zs.length ≤ 9223372036854775807 ∧ ∃ b o, (0 < zs.length → b < w.heap.size) ∧ (0 < zs.length → sp = some ⟨b, o, none⟩) ∧ ∀ j, j < zs.length → w.cell? ⟨b, o + j, none⟩ = some (.int .i64 (zs.getD j 0))
theorem SrcI.below {w w1 : World} {sp : Option Addr} {zs : List Int} (h : SrcI w sp zs) (hb : Below w.heap.size w w1) : SrcI w1 sp zs := by
  obtain ⟨h1, b, o, h2, h3, h4⟩ := h
  exact ⟨h1, b, o, fun q => Nat.lt_of_lt_of_le (h2 q) hb.size, h3, fun j hj => (hb.cell (p := ⟨b, o + j, none⟩) (h2 (by omega))).trans (h4 j hj)⟩
theorem OwnI.src {w : World} {base : Nat} {v : Value} {l : List Int} (h : OwnI w base v l) : ∃ sp cap, v = .slice sp l.length cap ∧ SrcI w sp l := by
  obtain ⟨sp, cap, rfl⟩ := h.form
  refine ⟨sp, cap, rfl, ?_, ?_⟩
  · rcases h.2 with ⟨_, h0⟩ | ⟨g, cap', cur, e, hg, hh, hc, hm, hs, ht⟩
    · omega
    · unfold maxLen at hm; omega
  by_cases hl : 0 < l.length
  · obtain ⟨g, cap', e, hc, ho⟩ := h.at 0 hl
    simp only [Value.slice.injEq] at e
    refine ⟨g, 0, fun _ => (h.lt ho).2, fun _ => e.1, fun j hj => ?_⟩
    obtain ⟨g', cap'', e', hc', _⟩ := h.at j hj
    simp only [Value.slice.injEq] at e'
    have : g' = g := by have := e'.1.symm.trans e.1; simpa using this
    rw [Nat.zero_add, ← this]; exact hc'
  · exact ⟨0, 0, fun q => absurd q hl, fun q => absurd q hl, fun j hj => by omega⟩
set_option maxRecDepth 100000 in
set_option maxHeartbeats 400000 in
theorem same_any (w : World) (xs ys : List Int) (sp sq : Option Addr) (c d : Nat) (hX : SrcI w sp xs) (hY : SrcI w sq ys) :
    Calls Try.prog 16 #[.slice sp xs.length c, .slice sq ys.length d] w fun e w' => e = .returned (.bool (decide (xs = ys))) ∧ Below w.heap.size w w' := by
  obtain ⟨hm, b, o, hb, hsp, hsrc⟩ := hX
  obtain ⟨hm', b', o', hb', hsp', hsrc'⟩ := hY
  by_cases hl : xs.length = ys.length
  · have hl1 : ((xs.length : Int) != (ys.length : Int)) = false := by simpa using (by omega : (xs.length : Int) = (ys.length : Int))
    have HL := hid hl
    have i0 : (xs.length : Int) ≤ 9223372036854775807 := by omega
    clear hl
    go_enter Try.func16, Try.ntmps16
    go_wp2
    go_loopw [5] (fun i wr => ∃ k : Nat, k ≤ xs.length ∧ i = .int .i64 k ∧ xs.take k = ys.take k ∧ Below w.heap.size w wr) (fun i _ => xs.length - (intOf i).toNat)
    case atStart => exact ⟨0, by omega, rfl, rfl, Below.refl _ _⟩
    case round =>
      obtain ⟨k, hk, rfl, hT, hB⟩ := hrel
      replace hT := hid hT
      by_cases hlt : k < xs.length
      · have i1 : (k : Int) < (xs.length : Int) := by omega
        have hlt' : k < ys.length := by have := HL.out; omega
        have i2 : (k : Int) < (ys.length : Int) := by omega
        obtain rfl := hsp (by omega)
        obtain rfl := hsp' (by omega)
        have c1 := (hB.cell (p := ⟨b, o + k, none⟩) (hb (by omega))).trans (hsrc k hlt)
        have c2 := (hB.cell (p := ⟨b', o' + k, none⟩) (hb' (by omega))).trans (hsrc' k hlt')
        have HX := hid (show xs.take (k + 1) = xs.take k ++ [xs.getD k 0] by
          rw [List.take_succ_eq_append_getElem hlt, List.getD_eq_getElem?_getD, List.getElem?_eq_getElem hlt]; rfl)
        have HY := hid (show ys.take (k + 1) = ys.take k ++ [ys.getD k 0] by
          rw [List.take_succ_eq_append_getElem hlt', List.getD_eq_getElem?_getD, List.getElem?_eq_getElem hlt']; rfl)
        by_cases hxy : xs.getD k 0 = ys.getD k 0
        · rw [hxy] at c1 HX
          clear hxy
          generalize ys.getD k 0 = y at *
          go_wp2
          go_region_held3 (fun w' => w'.cell? ⟨b, o + k, none⟩ = some (.int .i64 y) ∧ w'.cell? ⟨b', o' + k, none⟩ = some (.int .i64 y)) (go_keep) (fail)
          go_wp2
          go_roundw
          case rel => exact ⟨k + 1, by omega, by go_num, (by rw [HX.out, HY.out, hT.out]), hB.drew⟩
          case measure => simp [intOf]; omega
        · have HF := hid (show decide (xs = ys) = false from decide_eq_false (fun h => hxy (by rw [h])))
          generalize ys.getD k 0 = y at *
          generalize xs.getD k 0 = x at *
          have hxy' : (x != y) = true := by simpa using hxy
          go_wp2
          go_region_held3 (fun w' => w'.cell? ⟨b, o + k, none⟩ = some (.int .i64 x) ∧ w'.cell? ⟨b', o' + k, none⟩ = some (.int .i64 y)) (go_keep) (fail)
          go_wp2
          go_ret
          exact ⟨by rw [HF.out]; rfl, hB.drew⟩
      · obtain rfl : k = xs.length := by omega
        have HT := hid (show decide (xs = ys) = true from decide_eq_true (by
          have := hT.out
          rw [List.take_length, HL.out, List.take_length] at this
          exact this))
        clear hlt
        go_wp2
        go_ret
        exact ⟨by rw [HT.out]; rfl, hB⟩
  · have HF := hid (show decide (xs = ys) = false from decide_eq_false (fun h => hl (by rw [h])))
    have hl' : ((xs.length : Int) != (ys.length : Int)) = true := by simpa using (by omega : ¬ (xs.length : Int) = (ys.length : Int))
    clear hl
    go_enter Try.func16, Try.ntmps16
    go_wp2
    go_ret
    exact ⟨by rw [HF.out]; rfl, Below.refl _ _⟩
set_option maxRecDepth 100000 in
set_option maxHeartbeats 1000000 in
theorem within_yes (w : World) (xs ys : List Int) (sp sq : Option Addr) (c d : Nat) (hX : SrcI w sp xs) (hY : SrcI w sq ys) (hsub : ∀ x ∈ xs, x ∈ ys) :
    Calls Try.prog 15 #[.slice sp xs.length c, .slice sq ys.length d] w fun e w' => e = .returned (.bool true) ∧ Below w.heap.size w w' := by
  obtain ⟨hm, b, o, hb, hsp, hsrc⟩ := hX
  obtain ⟨hm', b', o', hb', hsp', hsrc'⟩ := hY
  have i0 : (xs.length : Int) ≤ 9223372036854775807 := by omega
  have i0' : (ys.length : Int) ≤ 9223372036854775807 := by omega
  go_enter Try.func15, Try.ntmps15
  go_wp2
  go_loopw [5, 6, 7] (fun i _ _ wr => ∃ k : Nat, k ≤ xs.length ∧ i = .int .i64 k ∧ Below w.heap.size w wr) (fun i _ _ _ => xs.length - (intOf i).toNat)
  case atStart => exact ⟨0, by omega, rfl, Below.refl _ _⟩
  case round =>
    obtain ⟨k, hk, rfl, hB⟩ := hrel
    by_cases hlt : k < xs.length
    · have i1 : (k : Int) < (xs.length : Int) := by omega
      obtain rfl := hsp (by omega)
      have c1 := hsrc k hlt
      have hxm : xs.getD k 0 ∈ ys := hsub _ (by rw [List.getD_eq_getElem?_getD, List.getElem?_eq_getElem hlt]; exact List.getElem_mem hlt)
      have hbk := hb (by omega)
      have HB := hid hB
      have HXM := hid hxm
      clear hB hxm
      generalize xs.getD k 0 = x at *
      go_wp2
      go_loopw [6, 7] (fun f j wq => ∃ (m : Nat), m ≤ ys.length ∧ j = .int .i64 m ∧ f = .bool (decide (x ∈ ys.take m)) ∧ Below w.heap.size w wq) (fun _ j _ => ys.length - (intOf j).toNat)
      case atStart => exact ⟨0, by omega, rfl, by simp, HB.out⟩
      case round =>
        rename_i wq
        obtain ⟨m, hm2, rfl, rfl, hBq⟩ := hrel
        by_cases hl2 : m < ys.length
        · have i2 : (m : Int) < (ys.length : Int) := by omega
          obtain rfl := hsp' (by omega)
          have d1 := (hBq.cell (p := ⟨b, o + k, none⟩) hbk).trans c1
          have d2 := (hBq.cell (p := ⟨b', o' + m, none⟩) (hb' (by omega))).trans (hsrc' m hl2)
          have HT := hid (show ys.take (m + 1) = ys.take m ++ [ys.getD m 0] by
            rw [List.take_succ_eq_append_getElem hl2, List.getD_eq_getElem?_getD, List.getElem?_eq_getElem hl2]; rfl)
          generalize ys.getD m 0 = y at *
          have HBQ := hid hBq
          clear hBq
          by_cases hin : x ∈ ys.take m
          · rw [decide_eq_true hin]
            have HI := hid hin
            clear hin
            go_wp2
            refine wp_region_noPanic ?_
            refine wp_region_held_drew (S := fun _ => True) (by kernel_rfl) trivial (fun hHeld => ?_)
            refine wpAnyH_take (i := 0) (oi := { dst := some 20, op := Op.move (Operand.tmp 6), type := 4, pos := "law.go:324", after := #[], guard := none }) (v := .bool true) rfl (by kernel_rfl) (by kernel_rfl) (by kernel_rfl) (fun _ _ _ h => h) (Or.inl ⟨by rfl, by intro w hS; go_simp⟩) hHeld ?_
            try simp only [Act.put, List.setIfInBounds_toArray, List.set_cons_zero, List.set_cons_succ]
            refine wpAnyH_take (i := 1) (oi := { dst := some 21, op := Op.move (Operand.tmp 20), type := 4, pos := "law.go:324", after := #[{ on := 0, ground := Ground.data }], guard := none }) (v := .bool true) rfl (by kernel_rfl) (by kernel_rfl) (by kernel_rfl) (fun _ _ _ h => h) (Or.inl ⟨by rfl, by intro w hS; go_simp⟩) hHeld ?_
            try simp only [Act.put, List.setIfInBounds_toArray, List.set_cons_zero, List.set_cons_succ]
            refine wpAnyH_take (i := 2) (oi := { dst := some 22, op := Op.move (Operand.tmp 1), type := 29, pos := "law.go:324", after := #[{ on := 1, ground := Ground.guard }], guard := some (1, false) }) (v := undef) rfl (by kernel_rfl) (by kernel_rfl) (by kernel_rfl) (fun _ _ _ h => h) (Or.inr ⟨by rfl, rfl⟩) hHeld ?_
            try simp only [Act.put, List.setIfInBounds_toArray, List.set_cons_zero, List.set_cons_succ]
            refine wpAnyH_take (i := 3) (oi := { dst := some 23, op := Op.move (Operand.tmp 7), type := 3, pos := "law.go:324", after := #[{ on := 1, ground := Ground.guard }], guard := some (1, false) }) (v := undef) rfl (by kernel_rfl) (by kernel_rfl) (by kernel_rfl) (fun _ _ _ h => h) (Or.inr ⟨by rfl, rfl⟩) hHeld ?_
            try simp only [Act.put, List.setIfInBounds_toArray, List.set_cons_zero, List.set_cons_succ]
            refine wpAnyH_take (i := 6) (oi := { dst := some 26, op := Op.move (Operand.tmp 0), type := 29, pos := "law.go:324", after := #[{ on := 1, ground := Ground.guard }], guard := some (1, false) }) (v := undef) rfl (by kernel_rfl) (by kernel_rfl) (by kernel_rfl) (fun _ _ _ h => h) (Or.inr ⟨by rfl, rfl⟩) hHeld ?_
            try simp only [Act.put, List.setIfInBounds_toArray, List.set_cons_zero, List.set_cons_succ]
            refine wpAnyH_take (i := 7) (oi := { dst := some 27, op := Op.move (Operand.tmp 5), type := 3, pos := "law.go:324", after := #[{ on := 1, ground := Ground.guard }], guard := some (1, false) }) (v := undef) rfl (by kernel_rfl) (by kernel_rfl) (by kernel_rfl) (fun _ _ _ h => h) (Or.inr ⟨by rfl, rfl⟩) hHeld ?_
            try simp only [Act.put, List.setIfInBounds_toArray, List.set_cons_zero, List.set_cons_succ]
            refine wpAnyH_take (i := 4) (oi := { dst := some 24, op := Op.indexAddr 29 (Operand.tmp 22) (Operand.tmp 23), type := 0, pos := "law.go:324", after := #[{ on := 2, ground := Ground.data }, { on := 3, ground := Ground.data }, { on := 1, ground := Ground.guard }], guard := some (1, false) }) (v := undef) rfl (by kernel_rfl) (by kernel_rfl) (by kernel_rfl) (fun _ _ _ h => h) (Or.inr ⟨by rfl, rfl⟩) hHeld ?_
            try simp only [Act.put, List.setIfInBounds_toArray, List.set_cons_zero, List.set_cons_succ]
            refine wpAnyH_take (i := 8) (oi := { dst := some 28, op := Op.indexAddr 29 (Operand.tmp 26) (Operand.tmp 27), type := 0, pos := "law.go:324", after := #[{ on := 6, ground := Ground.data }, { on := 7, ground := Ground.data }, { on := 1, ground := Ground.guard }], guard := some (1, false) }) (v := undef) rfl (by kernel_rfl) (by kernel_rfl) (by kernel_rfl) (fun _ _ _ h => h) (Or.inr ⟨by rfl, rfl⟩) hHeld ?_
            try simp only [Act.put, List.setIfInBounds_toArray, List.set_cons_zero, List.set_cons_succ]
            refine wpAnyH_take (i := 5) (oi := { dst := some 25, op := Op.load 3 (Operand.tmp 24), type := 3, pos := "law.go:324", after := #[{ on := 4, ground := Ground.data }, { on := 1, ground := Ground.guard }], guard := some (1, false) }) (v := undef) rfl (by kernel_rfl) (by kernel_rfl) (by kernel_rfl) (fun _ _ _ h => h) (Or.inr ⟨by rfl, rfl⟩) hHeld ?_
            try simp only [Act.put, List.setIfInBounds_toArray, List.set_cons_zero, List.set_cons_succ]
            refine wpAnyH_take (i := 9) (oi := { dst := some 29, op := Op.load 3 (Operand.tmp 28), type := 3, pos := "law.go:324", after := #[{ on := 8, ground := Ground.data }, { on := 1, ground := Ground.guard }], guard := some (1, false) }) (v := undef) rfl (by kernel_rfl) (by kernel_rfl) (by kernel_rfl) (fun _ _ _ h => h) (Or.inr ⟨by rfl, rfl⟩) hHeld ?_
            try simp only [Act.put, List.setIfInBounds_toArray, List.set_cons_zero, List.set_cons_succ]
            refine wpAnyH_take (i := 10) (oi := { dst := some 30, op := Op.binOp BinOp.eql 3 (Operand.tmp 25) (Operand.tmp 29) 3, type := 4, pos := "law.go:324", after := #[{ on := 5, ground := Ground.data }, { on := 9, ground := Ground.data }, { on := 1, ground := Ground.guard }], guard := some (1, false) }) (v := undef) rfl (by kernel_rfl) (by kernel_rfl) (by kernel_rfl) (fun _ _ _ h => h) (Or.inr ⟨by rfl, rfl⟩) hHeld ?_
            try simp only [Act.put, List.setIfInBounds_toArray, List.set_cons_zero, List.set_cons_succ]
            refine wpAnyH_take (i := 11) (oi := { dst := some 31, op := Op.pick (Operand.tmp 21) (Operand.const (Value.bool true)) (Operand.tmp 30), type := 4, pos := "law.go:324", after := #[{ on := 1, ground := Ground.data }, { on := 10, ground := Ground.data }], guard := none }) (v := .bool true) rfl (by kernel_rfl) (by kernel_rfl) (by kernel_rfl) (fun _ _ _ h => h) (Or.inl ⟨by rfl, by intro w hS; go_simp⟩) hHeld ?_
            try simp only [Act.put, List.setIfInBounds_toArray, List.set_cons_zero, List.set_cons_succ]
            refine wpAnyH_take (i := 12) (oi := { dst := some 6, op := Op.assign (Operand.tmp 31), type := 4, pos := "law.go:324", after := #[{ on := 11, ground := Ground.data }, { on := 1, ground := Ground.chain }, { on := 0, ground := Ground.phase }, { on := 1, ground := Ground.phase }, { on := 2, ground := Ground.phase }, { on := 3, ground := Ground.phase }, { on := 4, ground := Ground.phase }, { on := 5, ground := Ground.phase }, { on := 6, ground := Ground.phase }, { on := 7, ground := Ground.phase }, { on := 8, ground := Ground.phase }, { on := 9, ground := Ground.phase }, { on := 10, ground := Ground.phase }, { on := 11, ground := Ground.phase }], guard := none }) (v := .bool true) rfl (by kernel_rfl) (by kernel_rfl) (by kernel_rfl) (fun _ _ _ h => h) (Or.inl ⟨by rfl, by intro w hS; go_simp⟩) hHeld ?_
            try simp only [Act.put, List.setIfInBounds_toArray, List.set_cons_zero, List.set_cons_succ]
            refine wpAnyH_done (by kernel_rfl) ?_ _
            refine NoPanic.normal ?_
            go_wp2
            go_roundw
            case rel => exact ⟨m + 1, by omega, by go_num, by rw [HT.out, decide_eq_true (by have := HI.out; simp [this])], HBQ.out.drew⟩
            case measure => simp [intOf]; omega
          · rw [decide_eq_false hin]
            have HI := hid hin
            clear hin
            by_cases hxy : y = x
            · have hxy' : (y == x) = true := by simpa using hxy
              have HXY := hid hxy
              clear hxy
              go_wp2
              go_region_held3 (fun w' => w'.cell? ⟨b, o + k, none⟩ = some (.int .i64 x) ∧ w'.cell? ⟨b', o' + m, none⟩ = some (.int .i64 y)) (go_keep) (fail)
              go_wp2
              go_roundw
              case rel => exact ⟨m + 1, by omega, by go_num, by rw [HT.out, decide_eq_true (by have := HXY.out; simp [this])], HBQ.out.drew⟩
              case measure => simp [intOf]; omega
            · have hxy' : (y == x) = false := by simpa using hxy
              have HXY := hid hxy
              clear hxy
              go_wp2
              go_region_held3 (fun w' => w'.cell? ⟨b, o + k, none⟩ = some (.int .i64 x) ∧ w'.cell? ⟨b', o' + m, none⟩ = some (.int .i64 y)) (go_keep) (fail)
              go_wp2
              go_roundw
              case rel => exact ⟨m + 1, by omega, by go_num, by rw [HT.out, decide_eq_false (by have h1 := HXY.out; have h2 := HI.out; simp only [List.mem_append, List.mem_singleton, not_or]; exact ⟨h2, fun e => h1 e.symm⟩)], HBQ.out.drew⟩
              case measure => simp [intOf]; omega
        · obtain rfl : m = ys.length := by omega
          rw [List.take_length, decide_eq_true HXM.out]
          have HBQ := hid hBq
          clear hBq hl2 hm2
          go_wp2
          go_roundw
          case rel => exact ⟨k + 1, by omega, by go_num, HBQ.out⟩
          case measure => simp [intOf]; omega
    · obtain rfl : k = xs.length := by omega
      have HB := hid hB
      clear hB hlt
      go_wp2
      go_ret
      exact ⟨rfl, HB.out⟩
end Go.Proofs.Ytbpamknebjdicaa
