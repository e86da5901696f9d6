import Derived.Test.YtbcadiecpcngdaaNh9
namespace Go.Proofs.Ytbcadiecpcngdaa
set_option linter.unusedVariables false
set_option linter.unusedSimpArgs false
open Go.RowKit
attribute [local go_sem ↓] Go.wp_at_zero Go.wp_at_succ

theorem Src.tail9 {w : World} {b o cap : Nat} {r : List Int} (hS : Src w (some ⟨b, o, none⟩) cap r) (k : Nat) (h : k < r.length) : Src w (some ⟨b, o + k, none⟩) (cap - k) (r.drop k) := by
  obtain ⟨h1, h2, b', o', h3, h4, h5⟩ := hS
  have hl : (r.drop k).length = r.length - k := by simp
  have he := h4 (by omega)
  cases he
  refine ⟨by omega, by omega, b, o + k, fun _ => h3 (by omega), fun _ => rfl, fun j hj => ?_⟩
  have := h5 (k + j) (by omega)
  rw [Nat.add_assoc, this, List.getD_eq_getElem?_getD, List.getD_eq_getElem?_getD, List.getElem?_drop]
theorem numP_drop (t : List Int) (k : Nat) : numP (t.drop k) 0 = numP t k := by
  unfold numP
  simp only [List.getD_eq_getElem?_getD, List.getElem?_drop, Nat.zero_add, Nat.add_zero]
def RN (t : List Int) (k : Nat) : List Int := [if 0 < k then numP t 0 else 0, if 1 < k then numP t 4 else 0, if 2 < k then numP t 8 else 0, if 3 < k then numP t 12 else 0]
theorem wpList_allocV {P : Program} {t : TypeId} {Z : List Value} (hz : ∀ (a : Act) (o : Oper) (w : World), o.op = .alloc t → (execOp a.eval o).run P w = .ok (.value (.pointer (some ⟨w.heap.size, 0, none⟩))) (w.alloc (.cells Z.toArray t)))
    {ops : Array Oper} {rest : List Oper} {o : Oper} {a : Act} {w : World} {Q : Exit → Act → World → Prop} (hg : o.guard = none) (ho : o.op = .alloc t)
    (h : wpList P ops Q rest (a.put o.dst (.pointer (some ⟨w.heap.size, 0, none⟩))) (w.alloc (.cells Z.toArray t))) : wpList P ops Q (o :: rest) a w := by
  refine wpList_plain hg fun K hK => ?_
  unfold Oper.wp
  rw [hz a o w ho]
  exact hK _ _ h
theorem yieldsIf_built {P : Program} {ops : Array Oper} {S : World → Prop} {o : Oper} {a : Act} (hw : Region.wanted o (yielded ops a.tmps) = true) (t : TypeId) (parts : Array (Nat × Operand)) (ho : o.op = .build t parts) (ps : List (Nat × Value)) (hp : (parts.toList.map fun (i, x) => (i, a.eval x)) = ps) (cs : Array Value) (hb : P.built t ps = some cs) : YieldsIf P ops S o (.agg cs) a :=
  .inl ⟨hw, fun w _ => by
    have e : P.built t (parts.map fun (i, x) => (i, a.eval x)).toList = some cs := by rw [Array.toList_map, hp]; exact hb
    unfold execOp
    simp only [ho, Sem.run_bind, run_build w t _ cs e, Result.andThen_ok, Sem.run_pure]⟩
theorem bk_setn {w0 w : World} {b g t : Nat} {zs : List Int} {C : List Value} {u : Nat} (h : BK w0 w [(g, C, u), (b, ints .i64 zs, t)]) (hb : w0.heap.size ≤ b) (hne : g ≠ b) (j : Nat) (x : Int) : BK w0 (w.setCell ⟨b, j, none⟩ (.int .i64 x)) [(g, C, u), (b, ints .i64 (zs.set j x), t)] := by
  refine ⟨h.1.setCell (p := ⟨b, j, none⟩) hb _, fun y hy => ?_⟩
  rcases List.mem_cons.1 hy with rfl | hy
  · exact heap_set_far (h.row (.head _)) _ _ hne
  · rcases List.mem_cons.1 hy with rfl | hy
    · exact heap_set_ints (h.row (.tail _ (.head _))) j x
    · cases hy
set_option maxRecDepth 100000 in
set_option maxHeartbeats 2000000 in
theorem readBranch_any (w : World) (t : List Int) (hy : Bys t) (hl : t.length = 80) (sp : Option Addr) (cap : Nat) (hS : Src w sp cap t) :
    Calls Try.prog 54 #[.slice sp 80 cap] w fun e w' => e = .returned (.agg (brC (readB t)).toArray) ∧ Below w.heap.size w w' := by
  obtain ⟨b, o, rfl, hb⟩ : ∃ b o, sp = some ⟨b, o, none⟩ ∧ b < w.heap.size := by obtain ⟨_, _, b, o, h3, h4, _⟩ := hS; exact ⟨b, o, h4 (by omega), h3 (by omega)⟩
  have hcap : 80 ≤ cap := by have := hS.1; omega
  have ic : (80 : Int) ≤ (cap : Int) := by omega
  have ok := readB_ok hl
  have d0 := ((BK.nil w).alloc (brC nd0) 98).alloc (ints .i64 (RN t 0)) 115
  have hz : (w.alloc (.cells (brC nd0).toArray 98)).heap.size = w.heap.size + 1 := by simp
  rw [hz] at d0
  replace d0 : BK w _ [(w.heap.size, brC nd0, 98), (w.heap.size + 1, ints .i64 (RN t 0), 115)] := ⟨d0.1, fun x hx => d0.2 x (by simp only [List.mem_cons, List.not_mem_nil, or_false] at hx ⊢; exact hx.symm)⟩
  have AB := hid allocBr
  have K0 := hid (fun w1 (h : Src w1 (some ⟨b, o + 0, none⟩) (cap - 0) (t.drop 0)) => readNumber_any w1 (t.drop 0) (fun x hx => hy x (List.mem_of_mem_drop hx)) (by simp; omega) (some ⟨b, o + 0, none⟩) (cap - 0) h)
  rw [numP_drop, show (t.drop 0).length = 80 by simp; omega] at K0
  have S0 := hid (hS.tail9 0 (by omega))
  have K1 := hid (fun w1 (h : Src w1 (some ⟨b, o + 4, none⟩) (cap - 4) (t.drop 4)) => readNumber_any w1 (t.drop 4) (fun x hx => hy x (List.mem_of_mem_drop hx)) (by simp; omega) (some ⟨b, o + 4, none⟩) (cap - 4) h)
  rw [numP_drop, show (t.drop 4).length = 76 by simp; omega] at K1
  have S1 := hid (hS.tail9 4 (by omega))
  have K2 := hid (fun w1 (h : Src w1 (some ⟨b, o + 8, none⟩) (cap - 8) (t.drop 8)) => readNumber_any w1 (t.drop 8) (fun x hx => hy x (List.mem_of_mem_drop hx)) (by simp; omega) (some ⟨b, o + 8, none⟩) (cap - 8) h)
  rw [numP_drop, show (t.drop 8).length = 72 by simp; omega] at K2
  have S2 := hid (hS.tail9 8 (by omega))
  have K3 := hid (fun w1 (h : Src w1 (some ⟨b, o + 12, none⟩) (cap - 12) (t.drop 12)) => readNumber_any w1 (t.drop 12) (fun x hx => hy x (List.mem_of_mem_drop hx)) (by simp; omega) (some ⟨b, o + 12, none⟩) (cap - 12) h)
  rw [numP_drop, show (t.drop 12).length = 68 by simp; omega] at K3
  have S3 := hid (hS.tail9 12 (by omega))
  have hrows : ∀ k, k + 32 ≤ 80 → w.rangeAt b (o + k) (ints .u8 ((t.drop k).take 32)) := fun k hk j v hv => by
    have hj := (List.getElem?_eq_some_iff.1 hv).1
    rw [ints_len] at hj
    have hj2 : j < 32 := by simp at hj; omega
    rw [ints_get .u8 _ j hj] at hv
    obtain ⟨_, _, b', o', _, h4, h5⟩ := hS
    have he := h4 (by omega)
    cases he
    have := h5 (k + j) (by omega)
    rw [Nat.add_assoc, this, ← hv, List.getD_eq_getElem?_getD, List.getD_eq_getElem?_getD, List.getElem?_take, if_pos hj2, List.getElem?_drop]
  have r16 := hrows 16 (by omega)
  have r48 := hrows 48 (by omega)
  have BL := hid (built_child (numP t 0) (numP t 8) ((t.drop 16).take 32) ok.ls)
  have BR := hid (built_child (numP t 4) (numP t 12) ((t.drop 48).take 32) ok.rs)
  have BB := hid (built_branch ok)
  have LS := hid (show (Try.prog.info? 36).map (·.size) = some (ints .u8 ((t.drop 16).take 32)).length by rw [Try.sizeD, ints_len]; exact congrArg some ok.ls.symm)
  have RS := hid (show (Try.prog.info? 36).map (·.size) = some (ints .u8 ((t.drop 48).take 32)).length by rw [Try.sizeD, ints_len]; exact congrArg some ok.rs.symm)
  have LB0 := hid (show (brC nd0).length = 68 from rfl)
  have LBn := hid (brC_len ok)
  have OB := hid (brC_one (readB t))
  have R4 := hid (show RN t 4 = [numP t 0, numP t 4, numP t 8, numP t 12] from rfl)
  have R0 := hid (show RN t 0 = [0, 0, 0, 0] from rfl)
  have R1 := hid (show RN t 1 = (RN t 0).set 0 (numP t 0) from rfl)
  have R2 := hid (show RN t 2 = (RN t 1).set 1 (numP t 4) from rfl)
  have R3 := hid (show RN t 3 = (RN t 2).set 2 (numP t 8) from rfl)
  have R4b := hid (show RN t 4 = (RN t 3).set 3 (numP t 12) from rfl)
  have RL : ∀ k, (RN t k).length = 4 := fun _ => rfl
  rw [show brC (readB t) = chC (numP t 0) (numP t 8) ((t.drop 16).take 32) ++ chC (numP t 4) (numP t 12) ((t.drop 48).take 32) from rfl] at BB LBn OB ⊢
  simp only [readB] at BB
  have h16 : ∀ w, (Instr.arrayAt 36 (.slice (some ⟨b, o + 16, none⟩) 32 (cap - 16))).run Try.prog w = .ok (.pointer (some ⟨b, o + 16, none⟩)) w := fun w => run_arrayAt w 36 5 32 (some ⟨b, o + 16, none⟩) 32 (cap - 16) Try.underlying36 (Nat.le_refl _)
  have h48 : ∀ w, (Instr.arrayAt 36 (.slice (some ⟨b, o + 48, none⟩) 32 (cap - 48))).run Try.prog w = .ok (.pointer (some ⟨b, o + 48, none⟩)) w := fun w => run_arrayAt w 36 5 32 (some ⟨b, o + 48, none⟩) 32 (cap - 48) Try.underlying36 (Nat.le_refl _)
  generalize hB0 : brC nd0 = B0 at *
  clear hB0
  generalize chC (numP t 0) (numP t 8) ((t.drop 16).take 32) = CL at *
  generalize chC (numP t 4) (numP t 12) ((t.drop 48).take 32) = CR at *
  generalize (t.drop 16).take 32 = DL at *
  generalize (t.drop 48).take 32 = DR at *
  generalize CL ++ CR = CB at *
  go_enter Try.func54, Try.ntmps54
  go_wp2_with (first
    | refine wpList_allocV AB.out rfl rfl ?_)
  go_loopw [6] (fun i wr => ∃ k : Nat, k ≤ 4 ∧ i = .int .i64 k ∧ BK w wr [(w.heap.size, B0, 98), (w.heap.size + 1, ints .i64 (RN t k), 115)]) (fun i _ => 4 - (intOf i).toNat)
  case atStart => exact ⟨0, by omega, rfl, d0⟩
  case round =>
    clear d0
    obtain ⟨k, hk, rfl, dr⟩ := hrel
    by_cases hlt : k < 4
    · match k, hlt with
      | 0, _ =>
        go_wp2_with fail
        refine (K0.out _ (S0.out.below dr.1 (Nat.le_refl _))).mono ?_
        rintro e w2 ⟨rfl, hb2⟩
        have d2 := dr.call hb2
        have cx := d2.cell (.tail _ (.head _)) (j := 0) (v := .int .i64 0) rfl
        have fx : w2.frozen? ⟨w.heap.size + 1, 0, none⟩ = false := frozen_of_row _ _ _ _ _ (d2.row (.tail _ (.head _)))
        have d3 := bk_setn d2 (by omega) (by omega) 0 (numP t 0)
        go_wp2
        go_roundw
        case rel => exact ⟨1, by omega, by go_num, d3⟩
        case measure => simp [intOf]
      | 1, _ =>
        go_wp2_with fail
        refine (K1.out _ (S1.out.below dr.1 (Nat.le_refl _))).mono ?_
        rintro e w2 ⟨rfl, hb2⟩
        have d2 := dr.call hb2
        have cx := d2.cell (.tail _ (.head _)) (j := 1) (v := .int .i64 0) rfl
        have fx : w2.frozen? ⟨w.heap.size + 1, 1, none⟩ = false := frozen_of_row _ _ _ _ _ (d2.row (.tail _ (.head _)))
        have d3 := bk_setn d2 (by omega) (by omega) 1 (numP t 4)
        go_wp2
        go_roundw
        case rel => exact ⟨2, by omega, by go_num, d3⟩
        case measure => simp [intOf]
      | 2, _ =>
        go_wp2_with fail
        refine (K2.out _ (S2.out.below dr.1 (Nat.le_refl _))).mono ?_
        rintro e w2 ⟨rfl, hb2⟩
        have d2 := dr.call hb2
        have cx := d2.cell (.tail _ (.head _)) (j := 2) (v := .int .i64 0) rfl
        have fx : w2.frozen? ⟨w.heap.size + 1, 2, none⟩ = false := frozen_of_row _ _ _ _ _ (d2.row (.tail _ (.head _)))
        have d3 := bk_setn d2 (by omega) (by omega) 2 (numP t 8)
        go_wp2
        go_roundw
        case rel => exact ⟨3, by omega, by go_num, d3⟩
        case measure => simp [intOf]
      | 3, _ =>
        go_wp2_with fail
        refine (K3.out _ (S3.out.below dr.1 (Nat.le_refl _))).mono ?_
        rintro e w2 ⟨rfl, hb2⟩
        have d2 := dr.call hb2
        have cx := d2.cell (.tail _ (.head _)) (j := 3) (v := .int .i64 0) rfl
        have fx : w2.frozen? ⟨w.heap.size + 1, 3, none⟩ = false := frozen_of_row _ _ _ _ _ (d2.row (.tail _ (.head _)))
        have d3 := bk_setn d2 (by omega) (by omega) 3 (numP t 12)
        go_wp2
        go_roundw
        case rel => exact ⟨4, by omega, by go_num, d3⟩
        case measure => simp [intOf]
    · obtain rfl : k = 4 := by omega
      rw [R4.out] at dr
      generalize numP t 0 = n0 at *
      generalize numP t 4 = n1 at *
      generalize numP t 8 = n2 at *
      generalize numP t 12 = n3 at *
      go_wp2_with fail
      refine wp_region_noPanic ?_
      refine wp_region_held_drew (S := (fun w' => ∃ C, C.length = 68 ∧ BK w w' [(w.heap.size, C, 98), (w.heap.size + 1, ints .i64 [n0, n1, n2, n3], 115)])) (by kernel_rfl) ⟨B0, LB0.out, dr.drew⟩ (fun hHeld => ?_)
      refine wpAnyH_take (i := 0) (oi := { dst := some 19, op := Op.indexAddr 115 (Operand.tmp 3) (Operand.const (Value.int IntKind.i64 0)), type := 0, pos := "form.go:93", after := #[], guard := none }) (v := .pointer (some ⟨w.heap.size + 1, 0, none⟩)) rfl (by kernel_rfl) (by kernel_rfl) (by kernel_rfl) (fun _ _ _ h => h) (Or.inl ⟨by rfl, by intro w hS; go_simp⟩) hHeld ?_
      try simp only [Act.put, List.setIfInBounds_toArray, List.set_cons_zero, List.set_cons_succ]
      refine wpAnyH_take (i := 2) (oi := { dst := some 21, op := Op.indexAddr 115 (Operand.tmp 3) (Operand.const (Value.int IntKind.i64 2)), type := 0, pos := "form.go:93", after := #[], guard := none }) (v := .pointer (some ⟨w.heap.size + 1, 2, none⟩)) rfl (by kernel_rfl) (by kernel_rfl) (by kernel_rfl) (fun _ _ _ h => h) (Or.inl ⟨by rfl, by intro w hS; go_simp⟩) hHeld ?_
      try simp only [Act.put, List.setIfInBounds_toArray, List.set_cons_zero, List.set_cons_succ]
      refine wpAnyH_take (i := 4) (oi := { dst := some 23, op := Op.move (Operand.tmp 5), type := 23, pos := "form.go:93", after := #[], guard := none }) (v := .slice (some ⟨b, o + 16, none⟩) 64 (cap - 16)) rfl (by kernel_rfl) (by kernel_rfl) (by kernel_rfl) (fun _ _ _ h => h) (Or.inl ⟨by rfl, by intro w hS; go_simp⟩) hHeld ?_
      try simp only [Act.put, List.setIfInBounds_toArray, List.set_cons_zero, List.set_cons_succ]
      refine wpAnyH_take (i := 9) (oi := { dst := some 28, op := Op.indexAddr 115 (Operand.tmp 3) (Operand.const (Value.int IntKind.i64 1)), type := 0, pos := "form.go:93", after := #[], guard := none }) (v := .pointer (some ⟨w.heap.size + 1, 1, none⟩)) rfl (by kernel_rfl) (by kernel_rfl) (by kernel_rfl) (fun _ _ _ h => h) (Or.inl ⟨by rfl, by intro w hS; go_simp⟩) hHeld ?_
      try simp only [Act.put, List.setIfInBounds_toArray, List.set_cons_zero, List.set_cons_succ]
      refine wpAnyH_take (i := 11) (oi := { dst := some 30, op := Op.indexAddr 115 (Operand.tmp 3) (Operand.const (Value.int IntKind.i64 3)), type := 0, pos := "form.go:93", after := #[], guard := none }) (v := .pointer (some ⟨w.heap.size + 1, 3, none⟩)) rfl (by kernel_rfl) (by kernel_rfl) (by kernel_rfl) (fun _ _ _ h => h) (Or.inl ⟨by rfl, by intro w hS; go_simp⟩) hHeld ?_
      try simp only [Act.put, List.setIfInBounds_toArray, List.set_cons_zero, List.set_cons_succ]
      refine wpAnyH_take (i := 13) (oi := { dst := some 32, op := Op.move (Operand.tmp 5), type := 23, pos := "form.go:93", after := #[], guard := none }) (v := .slice (some ⟨b, o + 16, none⟩) 64 (cap - 16)) rfl (by kernel_rfl) (by kernel_rfl) (by kernel_rfl) (fun _ _ _ h => h) (Or.inl ⟨by rfl, by intro w hS; go_simp⟩) hHeld ?_
      try simp only [Act.put, List.setIfInBounds_toArray, List.set_cons_zero, List.set_cons_succ]
      refine wpAnyH_take (i := 1) (oi := { dst := some 20, op := Op.load 3 (Operand.tmp 19), type := 3, pos := "form.go:93", after := #[{ on := 0, ground := Ground.data }], guard := none }) (v := .int .i64 n0) rfl (by kernel_rfl) (by kernel_rfl) (by kernel_rfl) (fun _ _ _ h => h) (Or.inl ⟨by rfl, by intro w hS; have hc := hS.choose_spec.2.cell (.tail _ (.head _)) (j := 0) (v := .int .i64 n0) rfl; go_simp⟩) hHeld ?_
      try simp only [Act.put, List.setIfInBounds_toArray, List.set_cons_zero, List.set_cons_succ]
      refine wpAnyH_take (i := 3) (oi := { dst := some 22, op := Op.load 3 (Operand.tmp 21), type := 3, pos := "form.go:93", after := #[{ on := 2, ground := Ground.data }], guard := none }) (v := .int .i64 n2) rfl (by kernel_rfl) (by kernel_rfl) (by kernel_rfl) (fun _ _ _ h => h) (Or.inl ⟨by rfl, by intro w hS; have hc := hS.choose_spec.2.cell (.tail _ (.head _)) (j := 2) (v := .int .i64 n2) rfl; go_simp⟩) hHeld ?_
      try simp only [Act.put, List.setIfInBounds_toArray, List.set_cons_zero, List.set_cons_succ]
      refine wpAnyH_take (i := 5) (oi := { dst := some 24, op := Op.slice 23 (Operand.tmp 23) none (some (Operand.const (Value.int IntKind.i64 32))) none, type := 23, pos := "form.go:93", after := #[{ on := 4, ground := Ground.data }], guard := none }) (v := .slice (some ⟨b, o + 16, none⟩) 32 (cap - 16)) rfl (by kernel_rfl) (by kernel_rfl) (by kernel_rfl) (fun _ _ _ h => h) (Or.inl ⟨by rfl, by intro w hS; have q : ¬ (((cap - 16 : Nat) : Int) < 32) := (by omega); go_simp⟩) hHeld ?_
      try simp only [Act.put, List.setIfInBounds_toArray, List.set_cons_zero, List.set_cons_succ]
      refine wpAnyH_take (i := 10) (oi := { dst := some 29, op := Op.load 3 (Operand.tmp 28), type := 3, pos := "form.go:93", after := #[{ on := 9, ground := Ground.data }], guard := none }) (v := .int .i64 n1) rfl (by kernel_rfl) (by kernel_rfl) (by kernel_rfl) (fun _ _ _ h => h) (Or.inl ⟨by rfl, by intro w hS; have hc := hS.choose_spec.2.cell (.tail _ (.head _)) (j := 1) (v := .int .i64 n1) rfl; go_simp⟩) hHeld ?_
      try simp only [Act.put, List.setIfInBounds_toArray, List.set_cons_zero, List.set_cons_succ]
      refine wpAnyH_take (i := 12) (oi := { dst := some 31, op := Op.load 3 (Operand.tmp 30), type := 3, pos := "form.go:93", after := #[{ on := 11, ground := Ground.data }], guard := none }) (v := .int .i64 n3) rfl (by kernel_rfl) (by kernel_rfl) (by kernel_rfl) (fun _ _ _ h => h) (Or.inl ⟨by rfl, by intro w hS; have hc := hS.choose_spec.2.cell (.tail _ (.head _)) (j := 3) (v := .int .i64 n3) rfl; go_simp⟩) hHeld ?_
      try simp only [Act.put, List.setIfInBounds_toArray, List.set_cons_zero, List.set_cons_succ]
      refine wpAnyH_take (i := 14) (oi := { dst := some 33, op := Op.slice 23 (Operand.tmp 32) (some (Operand.const (Value.int IntKind.i64 32))) none none, type := 23, pos := "form.go:93", after := #[{ on := 13, ground := Ground.data }], guard := none }) (v := .slice (some ⟨b, o + 48, none⟩) 32 (cap - 48)) rfl (by kernel_rfl) (by kernel_rfl) (by kernel_rfl) (fun _ _ _ h => h) (Or.inl ⟨by rfl, by intro w hS; go_simp; omega⟩) hHeld ?_
      try simp only [Act.put, List.setIfInBounds_toArray, List.set_cons_zero, List.set_cons_succ]
      refine wpAnyH_take (i := 6) (oi := { dst := some 25, op := Op.sliceToArrayPointer 36 (Operand.tmp 24), type := 0, pos := "form.go:93", after := #[{ on := 5, ground := Ground.data }], guard := none }) (v := .pointer (some ⟨b, o + 16, none⟩)) rfl (by kernel_rfl) (by kernel_rfl) (by kernel_rfl) (fun _ _ _ h => h) (Or.inl ⟨by rfl, by intro w hS; go_simp⟩) hHeld ?_
      try simp only [Act.put, List.setIfInBounds_toArray, List.set_cons_zero, List.set_cons_succ]
      refine wpAnyH_take (i := 15) (oi := { dst := some 34, op := Op.sliceToArrayPointer 36 (Operand.tmp 33), type := 0, pos := "form.go:93", after := #[{ on := 14, ground := Ground.data }], guard := none }) (v := .pointer (some ⟨b, o + 48, none⟩)) rfl (by kernel_rfl) (by kernel_rfl) (by kernel_rfl) (fun _ _ _ h => h) (Or.inl ⟨by rfl, by intro w hS; go_simp⟩) hHeld ?_
      try simp only [Act.put, List.setIfInBounds_toArray, List.set_cons_zero, List.set_cons_succ]
      refine wpAnyH_take (i := 7) (oi := { dst := some 26, op := Op.load 36 (Operand.tmp 25), type := 36, pos := "form.go:93", after := #[{ on := 6, ground := Ground.data }], guard := none }) (v := .agg (ints .u8 DL).toArray) rfl (by kernel_rfl) (by kernel_rfl) (by kernel_rfl) (fun _ _ _ h => h) (yieldsIf_load_mid (by rfl) 36 _ rfl b (o + 16) rfl (ints .u8 DL) _ (fun w hS => rng_below r16 hS.choose_spec.2.1 hb) Try.underlying36 rfl LS.out) hHeld ?_
      try simp only [Act.put, List.setIfInBounds_toArray, List.set_cons_zero, List.set_cons_succ]
      refine wpAnyH_take (i := 16) (oi := { dst := some 35, op := Op.load 36 (Operand.tmp 34), type := 36, pos := "form.go:93", after := #[{ on := 15, ground := Ground.data }], guard := none }) (v := .agg (ints .u8 DR).toArray) rfl (by kernel_rfl) (by kernel_rfl) (by kernel_rfl) (fun _ _ _ h => h) (yieldsIf_load_mid (by rfl) 36 _ rfl b (o + 48) rfl (ints .u8 DR) _ (fun w hS => rng_below r48 hS.choose_spec.2.1 hb) Try.underlying36 rfl RS.out) hHeld ?_
      try simp only [Act.put, List.setIfInBounds_toArray, List.set_cons_zero, List.set_cons_succ]
      refine wpAnyH_take (i := 8) (oi := { dst := some 27, op := Op.build 94 #[(0, Operand.tmp 20), (1, Operand.tmp 22), (2, Operand.tmp 26)], type := 94, pos := "form.go:93", after := #[{ on := 1, ground := Ground.data }, { on := 3, ground := Ground.data }, { on := 7, ground := Ground.data }], guard := none }) (v := .agg CL.toArray) rfl (by kernel_rfl) (by kernel_rfl) (by kernel_rfl) (fun _ _ _ h => h) (yieldsIf_built (by rfl) 94 #[(0, Operand.tmp 20), (1, Operand.tmp 22), (2, Operand.tmp 26)] rfl _ rfl _ BL.out) hHeld ?_
      try simp only [Act.put, List.setIfInBounds_toArray, List.set_cons_zero, List.set_cons_succ]
      refine wpAnyH_take (i := 17) (oi := { dst := some 36, op := Op.build 94 #[(0, Operand.tmp 29), (1, Operand.tmp 31), (2, Operand.tmp 35)], type := 94, pos := "form.go:93", after := #[{ on := 10, ground := Ground.data }, { on := 12, ground := Ground.data }, { on := 16, ground := Ground.data }], guard := none }) (v := .agg CR.toArray) rfl (by kernel_rfl) (by kernel_rfl) (by kernel_rfl) (fun _ _ _ h => h) (yieldsIf_built (by rfl) 94 #[(0, Operand.tmp 29), (1, Operand.tmp 31), (2, Operand.tmp 35)] rfl _ rfl _ BR.out) hHeld ?_
      try simp only [Act.put, List.setIfInBounds_toArray, List.set_cons_zero, List.set_cons_succ]
      refine wpAnyH_take (i := 18) (oi := { dst := some 37, op := Op.build 98 #[(0, Operand.tmp 27), (1, Operand.tmp 36)], type := 98, pos := "form.go:93", after := #[{ on := 8, ground := Ground.data }, { on := 17, ground := Ground.data }], guard := none }) (v := .agg CB.toArray) rfl (by kernel_rfl) (by kernel_rfl) (by kernel_rfl) (fun _ _ _ h => h) (yieldsIf_built (by rfl) 98 #[(0, Operand.tmp 27), (1, Operand.tmp 36)] rfl _ rfl _ BB.out) hHeld ?_
      try simp only [Act.put, List.setIfInBounds_toArray, List.set_cons_zero, List.set_cons_succ]
      refine wpAnyH_ready (rs := [19]) (by kernel_rfl) (by simp) ?_
      refine (AllReadyH.cons (o := { dst := none, op := Op.store 98 (Operand.tmp 2) (Operand.tmp 37), type := 0, pos := "form.go:93", after := #[{ on := 18, ground := Ground.data }, { on := 0, ground := Ground.phase }, { on := 1, ground := Ground.phase }, { on := 2, ground := Ground.phase }, { on := 3, ground := Ground.phase }, { on := 4, ground := Ground.phase }, { on := 5, ground := Ground.phase }, { on := 6, ground := Ground.phase }, { on := 7, ground := Ground.phase }, { on := 8, ground := Ground.phase }, { on := 9, ground := Ground.phase }, { on := 10, ground := Ground.phase }, { on := 11, ground := Ground.phase }, { on := 12, ground := Ground.phase }, { on := 13, ground := Ground.phase }, { on := 14, ground := Ground.phase }, { on := 15, ground := Ground.phase }, { on := 16, ground := Ground.phase }, { on := 17, ground := Ground.phase }, { on := 18, ground := Ground.phase }], guard := none }) rfl (fun K hK => ?_) AllReadyH.nil)
      have hh := hHeld
      obtain ⟨C, hC, dC⟩ := hh
      rw [if_pos (by rfl)]
      refine wp_store_row 98 _ _ rfl w.heap.size CB.toArray rfl rfl 98 _ (dC.row (.head _)) (by rw [Try.sizeBr, List.size_toArray, LBn.out]) (by rw [List.size_toArray, List.size_toArray, hC, LBn.out]) (all_oneCell_toArray OB.out) ?_
      have d9 := dC.set (Nat.le_refl _) (by intro x hx; simp only [List.mem_cons, List.not_mem_nil, or_false] at hx; subst hx; simp) CB
      refine hK.out _ _ (⟨CB, LBn.out, d9⟩) (fun hHeld2 => ?_)
      clear hK K hHeld
      have hHeld := hHeld2
      clear hHeld2
      try simp only [Act.put, List.setIfInBounds_toArray, List.set_cons_zero, List.set_cons_succ]
      refine wpAnyH_done (by kernel_rfl) ?_ _
      refine NoPanic.normal ?_
      go_wp2
      exact bodyPost_ret (v := .agg CB.toArray) (results_cell_row Try.results54 _ _ w.heap.size 98 _ _ _ rfl (d9.row (.head _)) Try.underlying98 rfl (by rw [Try.sizeBr, List.size_toArray, LBn.out])) rfl ⟨rfl, d9.1⟩
end Go.Proofs.Ytbcadiecpcngdaa
