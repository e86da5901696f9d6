import Derived.Test.YtpjfpepjledlmaaGreatDoorVx1
import Derived.RangeFuncNested
import Derived.RangeFuncBound
import Derived.RangeFuncCalls
import Derived.RangeFuncLeaves
import Derived.RangeFuncFrom
import Derived.ControlIn
import Derived.OwnWalkIn
import Derived.Shelf.Abstract
namespace Go.Proofs.YtpjfpepjledlmaaGreatDoor
set_option linter.unusedVariables false
set_option linter.unusedSimpArgs false
open Go.RowKit
attribute [local go_sem ↓] Go.wp_at_zero Go.wp_at_succ

theorem results_cc {P : Program} {fn : Func} {p q : Tmp} {ty ty2 : TypeId} (h : fn.results = #[.cell p ty, .cell q ty2]) (tmps : Array Value) (w : World) (g : Nat) (t : TypeId) (cs : Array Value) (fr : Nat × Nat) (d : TypeDesc)
    (hp : tmps.getD p undef = .pointer (some ⟨g, 0, none⟩)) (hg : w.heap[g]? = some (.cells cs t fr))
    (hu : P.underlying ty = some d) (hd : (match d with | .struct _ | .array _ _ => true | _ => false) = true) (hi : (P.info? ty).map (·.size) = some cs.size) (g2 : Nat) (x : Value)
    (hq : tmps.getD q undef = .pointer (some ⟨g2, 0, none⟩)) (hx : (loadVar ty2 ⟨g2, 0, none⟩).run P w = .ok x w) :
    (results fn tmps).run P w = .ok (.tuple #[.agg cs, x]) w := by
  have hp' : tmps[p]?.getD undef = .pointer (some ⟨g, 0, none⟩) := by simpa using hp
  have hq' : tmps[q]?.getD undef = .pointer (some ⟨g2, 0, none⟩) := by simpa using hq
  simp [results, h, hp', hq', asAddr, run_loadVar_row w g t ty cs fr d hg hu hd hi, hx]
theorem step_storeRowC {w : World} {ops : Array Oper} {o : Oper} {a : Act} {K : Act → World → Prop} {Q : Exit → Act → World → Prop} {E : Prop} (hgd : o.guard = none) (ty : TypeId) (x y : Operand) (ho : o.op = .store ty x y)
    (g : Nat) (cells : Array Value) (hx : a.eval x = .pointer (some ⟨g, 0, none⟩)) (hy : a.eval y = .agg cells)
    (t : TypeId) (old : Array Value) (hg : w.heap[g]? = some (.cells old t (0, 0))) (hi : (Tryz.prog.info? ty).map (·.size) = some cells.size)
    (hold : old.size = cells.size) (h1 : cells.all (·.oneCell') = true) (h : K (a.put o.dst undef) (w.setRow g cells)) :
    if Region.wanted o (yielded ops a.tmps) = true then Oper.wp Tryz.prog o a w K Q else E := by
  have hw : Region.wanted o (yielded ops a.tmps) = true := by simp [Region.wanted, hgd]
  rw [if_pos hw]
  exact wp_store_row ty x y ho g cells hx hy t old hg hi hold h1 h
theorem wpList_allocAny {t : TypeId} {C : Array Value} (hz : ∀ (a : Act) (o : Oper) (w : World), o.op = .alloc t → (execOp a.eval o).run Tryz.prog w = .ok (.value (.pointer (some ⟨w.heap.size, 0, none⟩))) (w.alloc (.cells C t))) {w : World} {ops : Array Oper} {rest : List Oper} {o : Oper} {a : Act} {Q : Exit → Act → World → Prop} (hg : o.guard = none) (ho : o.op = .alloc t)
    (h : wpList Tryz.prog ops Q rest (a.put o.dst (.pointer (some ⟨w.heap.size, 0, none⟩))) (w.alloc (.cells C t))) : wpList Tryz.prog ops Q (o :: rest) a w := by
  refine wpList_plain hg fun K hK => ?_
  unfold Oper.wp
  rw [hz a o w ho]
  exact hK _ _ h
theorem Tryz.sizeDg : (Tryz.prog.info? 45).map (·.size) = some 32 := by kernel_rfl
theorem alloc22 (a : Act) (o : Oper) (w : World) (ho : o.op = .alloc 22) : (execOp a.eval o).run Tryz.prog w = .ok (.value (.pointer (some ⟨w.heap.size, 0, none⟩))) (w.alloc (.cells (ints .u8 z32).toArray 22)) := by
  unfold execOp
  rw [ho]
  kernel_rfl
theorem alloc45 (a : Act) (o : Oper) (w : World) (ho : o.op = .alloc 45) : (execOp a.eval o).run Tryz.prog w = .ok (.value (.pointer (some ⟨w.heap.size, 0, none⟩))) (w.alloc (.cells (ints .u8 z32).toArray 45)) := by
  unfold execOp
  rw [ho]
  kernel_rfl
set_option maxRecDepth 100000 in
set_option maxHeartbeats 2000000 in
theorem back_nil (w : World) (y : Value) (b : Nat) (hc : w.cell? ⟨b, 0, none⟩ = some (.slice none 0 0)) : Calls Tryz.prog 79 #[y, .pointer (some ⟨b, 0, none⟩)] w fun e w' => e = .returned (.tuple #[]) ∧ w = w' := by
  go_enter Tryz.func79, Tryz.ntmps79
  go_wp2
  go_loopw [3] (fun i w' => i = .int .i64 (-1) ∧ w' = w) (fun _ _ => 0)
  case atStart => exact ⟨rfl, rfl⟩
  case round =>
    obtain ⟨rfl, rfl⟩ := hrel
    go_wp2
    go_end0
    exact ⟨rfl, rfl⟩
set_option maxRecDepth 100000 in
set_option maxHeartbeats 2000000 in
theorem backward_nil (w : World) : Calls Tryz.prog 53 #[.slice none 0 0] w fun e w' => e = .returned (.func (.func 79) #[] #[.pointer (some ⟨w.heap.size, 0, none⟩)]) ∧ w' = w.alloc (.cells #[.slice none 0 0] 44) := by
  go_enter Tryz.func53, Tryz.ntmps53
  go_wp2
  go_ret
  exact ⟨rfl, rfl⟩
set_option maxRecDepth 100000 in
set_option maxHeartbeats 2000000 in
theorem named_nil (w : World) (hG : Glob w) (k : Int) : Calls Tryz.prog 32 #[.int .i64 k, .slice none 0 0] w fun e w' => e = .returned (.tuple #[.agg (ints .u8 z32).toArray, .slice none 0 0]) ∧ Below w.heap.size w w' := by
  refine (callsIn_wide (n := 9)).1 ?_
  refine callsIn_of_wp_marks Tryz.func32 rfl trivial ?_ rfl
  refine wpIn_wide.2 ?_
  simp only [Tryz.ntmps32, List.size_toArray, List.length_cons, List.length_nil, Nat.reduceAdd, Nat.reduceSub, Array.replicate_succ, Array.replicate_zero, List.push_toArray, List.append_toArray, List.nil_append, List.cons_append]
  have hb3 := ((((Below.refl w.heap.size w).alloc (Nat.le_refl _) (.cells #[.int .i64 k] 3)).alloc (by simp) (.cells (ints .u8 z32).toArray 22)).alloc (by simp; omega) (.cells #[.slice none 0 0] 26))
  have r4 : (((w.alloc (.cells #[.int .i64 k] 3)).alloc (.cells (ints .u8 z32).toArray 22)).alloc (.cells #[.slice none 0 0] 26)).heap[w.heap.size + 1]? = some (.cells (ints .u8 z32).toArray 22 (0, 0)) := by
    have h := hnew (w.alloc (.cells #[.int .i64 k] 3)) (.cells (ints .u8 z32).toArray 22)
    rw [show (w.alloc (.cells #[.int .i64 k] 3)).heap.size = w.heap.size + 1 by simp] at h
    exact hold h
  have r5 : (((w.alloc (.cells #[.int .i64 k] 3)).alloc (.cells (ints .u8 z32).toArray 22)).alloc (.cells #[.slice none 0 0] 26)).heap[w.heap.size + 1 + 1]? = some (.cells #[.slice none 0 0] 26 (0, 0)) := by
    have h := hnew ((w.alloc (.cells #[.int .i64 k] 3)).alloc (.cells (ints .u8 z32).toArray 22)) (.cells #[.slice none 0 0] 26)
    rw [show ((w.alloc (.cells #[.int .i64 k] 3)).alloc (.cells (ints .u8 z32).toArray 22)).heap.size = w.heap.size + 1 + 1 by simp] at h
    exact h
  have HEM := hid (fun w1 (hb : Below w.heap.size w w1) => empty_any w1 (hG.below hb hG.1) k 0)
  have LZ := hid (show (ints .u8 z32).length = 32 from rfl)
  have HZ := hid alloc22
  have HD := hid alloc45
  have OZ := hid (ints_one .u8 z32)
  have LE := hid (show (ints .u8 (emptyD k (hgt 0))).length = 32 by rw [ints_len]; exact emptyD_len k _)
  have OE := hid (ints_one .u8 (emptyD k (hgt 0)))
  generalize ints .u8 (emptyD k (hgt 0)) = E at *
  generalize ints .u8 z32 = Z at *
  clear hG
  go_wp2_with (first | refine wpList_allocAny HZ.out rfl rfl ?_)
  refine (HEM.out _ hb3).mono ?_
  generalize ((w.alloc (.cells #[.int .i64 k] 3)).alloc (.cells Z.toArray 22)).alloc (.cells #[.slice none 0 0] 26) = w3 at *
  rintro e w4 ⟨rfl, hb4⟩
  have q4 := (hb4.block _ (hlt r4)).trans r4
  have q5 := (hb4.block _ (hlt r5)).trans r5
  have hb5 := hb3.trans (hb4.mono hb3.size)
  have h6 : (w4.alloc (.cells Z.toArray 45)).heap[w4.heap.size]? = some (.cells Z.toArray 45 (0, 0)) := hnew w4 _
  have h7 := hold (o := .cells #[.int .i64 0] 3) h6
  clear hb4 r4 r5 hb3 HEM
  have S45 := hid (show (Tryz.prog.info? 45).map (·.size) = some E.toArray.size by rw [Tryz.sizeDg, List.size_toArray, LE.out])
  have EZ := hid (show Z.toArray.size = E.toArray.size by rw [List.size_toArray, List.size_toArray, LE.out, LZ.out])
  go_wp2_with (first
    | refine wpList_allocAny HD.out rfl rfl ?_
    | (refine wpList_store_row rfl 45 _ _ rfl w4.heap.size E.toArray rfl rfl 45 Z.toArray h7 S45.out EZ.out (all_oneCell_toArray OE.out) ?_; refine Hid.out ?_))
  refine hid ?_
  have hb6 : Below w.heap.size w (((w4.alloc (.cells Z.toArray 45)).alloc (.cells #[.int .i64 0] 3)).setRow w4.heap.size E.toArray) := below_setRow ((hb5.alloc hb5.size _).alloc (by have := hb5.size; simp; omega) _) hb5.size _
  have k4 : (((w4.alloc (.cells Z.toArray 45)).alloc (.cells #[.int .i64 0] 3)).setRow w4.heap.size E.toArray).heap[w.heap.size + 1]? = some (.cells Z.toArray 22 (0, 0)) := (setRow_other _ _ _ _ (Nat.ne_of_lt (hlt q4))).trans (hold (hold q4))
  have k5 : (((w4.alloc (.cells Z.toArray 45)).alloc (.cells #[.int .i64 0] 3)).setRow w4.heap.size E.toArray).heap[w.heap.size + 1 + 1]? = some (.cells #[.slice none 0 0] 26 (0, 0)) := (setRow_other _ _ _ _ (Nat.ne_of_lt (hlt q5))).trans (hold (hold q5))
  have k7 : (((w4.alloc (.cells Z.toArray 45)).alloc (.cells #[.int .i64 0] 3)).setRow w4.heap.size E.toArray).heap[w4.heap.size + 1]? = some (.cells #[.int .i64 0] 3 (0, 0)) := by
    rw [setRow_other _ _ _ _ (by omega)]
    have h := hnew (w4.alloc (.cells Z.toArray 45)) (.cells #[.int .i64 0] 3)
    rw [show (w4.alloc (.cells Z.toArray 45)).heap.size = w4.heap.size + 1 by simp] at h
    exact h
  have hg7 : w.heap.size + 1 + 1 < w4.heap.size := hlt q5
  generalize ((w4.alloc (.cells Z.toArray 45)).alloc (.cells #[.int .i64 0] 3)).setRow w4.heap.size E.toArray = w6 at *
  have c7 : w6.cell? ⟨w4.heap.size + 1, 0, none⟩ = some (.int .i64 0) := by rw [cell_of_row _ _ _ _ _ _ k7]; rfl
  have f7 : w6.frozen? ⟨w4.heap.size + 1, 0, none⟩ = false := frozen_of_row _ _ _ _ _ k7
  have HB7 := hid (hb6.setCell (p := ⟨w4.heap.size + 1, 0, none⟩) (by show w.heap.size ≤ w4.heap.size + 1; omega) (.int .i64 0))
  have R4 := hid (show (w6.setCell ⟨w4.heap.size + 1, 0, none⟩ (.int .i64 0)).heap[w.heap.size + 1]? = _ from (Below.heap_setCell w6 _ _ _ (by show w.heap.size + 1 ≠ w4.heap.size + 1; omega)).trans k4)
  have R5 := hid (show (w6.setCell ⟨w4.heap.size + 1, 0, none⟩ (.int .i64 0)).heap[w.heap.size + 1 + 1]? = _ from (Below.heap_setCell w6 _ _ _ (by show w.heap.size + 1 + 1 ≠ w4.heap.size + 1; omega)).trans k5)
  clear hb5 q4 q5 h6 h7 hb6 k4 k5 k7
  go_wp2_with fail
  generalize w6.setCell ⟨w4.heap.size + 1, 0, none⟩ (.int .i64 0) = w7 at *
  refine (backward_nil w7).mono ?_
  rintro e w8 ⟨rfl, hw8⟩
  have hb8 : Below w7.heap.size w7 w8 := by rw [hw8]; exact (Below.refl _ _).alloc (Nat.le_refl _) _
  have HB8 := hid (HB7.out.trans (hb8.mono HB7.out.size))
  have Q4 := hid ((hb8.block _ (hlt R4.out)).trans R4.out)
  have Q5 := hid ((hb8.block _ (hlt R5.out)).trans R5.out)
  have HC := hid (show w8.cell? ⟨w7.heap.size, 0, none⟩ = some (.slice none 0 0) by rw [hw8]; rw [cell_of_row _ _ _ _ _ _ (hnew w7 _)]; rfl)
  clear hb8 hw8 R4 R5 HB7 c7 f7
  go_wp2_with fail
  refine (wpIn_wide (n := 9)).1 ?_
  refine wpIn_rangeFunc_ownF (α := Empty) rfl (by omega) (gf := 79) (lb := #[.pointer (some ⟨w7.heap.size, 0, none⟩)]) rfl trivial (enters_of Tryz.func79 (by kernel_rfl) rfl) (encs := fun x => x.elim) (Kp := fun _ _ => True) (S := fun xs => xs = []) (Sp := fun _ => False) (N := 0) (w0 := w8) ?seq (fun _ _ => trivial) (fun _ _ _ _ _ _ _ _ => trivial) (Below.refl _ _) (fun x => x.elim) (fun _ W => Below w8.heap.size w8 W) (fun _ _ _ => False) (ownFrom_below (Nat.le_refl _) (Nat.le_refl _)) (fun _ _ _ _ _ h _ _ => h) (Below.refl _ _) (fun x => x.elim) (fun l x => x.elim) (fun l pre x => x.elim) ?done ?stop
  case seq =>
    intro l J Jx W hW hJ hJx hY h0
    refine callsIn_wide.2 ((back_nil W (.func (.yield l) #[] #[]) w7.heap.size ((hW.cell (p := ⟨w7.heap.size, 0, none⟩) (block_lt_of_cell HC.out)).trans HC.out)).mono ?_)
    rintro e W' ⟨rfl, rfl⟩
    exact ⟨⟨_, rfl⟩, Or.inl ⟨[], rfl, h0⟩⟩
  case stop =>
    rintro D c pre W _ h _
    exact h.elim
  case done =>
    rintro D xs W hD hS hI hK
    have k4 := (hI.block _ (hlt Q4.out)).trans Q4.out
    have k5 := (hI.block _ (hlt Q5.out)).trans Q5.out
    have hbW := HB8.out.trans (hI.mono HB8.out.size)
    clear hI Q4 HC
    have S22 := hid (show (Tryz.prog.info? 22).map (·.size) = some Z.toArray.size by rw [List.size_toArray, LZ.out]; kernel_rfl)
    have hlw := hlt k5
    obtain ⟨G4, hG4⟩ : ∃ G4, G4 = w.heap.size + 1 := ⟨_, rfl⟩
    obtain ⟨G5, hG5⟩ : ∃ G5, G5 = w.heap.size + 1 + 1 := ⟨_, rfl⟩
    have N45 := hid (show G4 ≠ G5 by omega)
    have ND4 := hid (show D ≠ G4 by have := hlt Q5.out; omega)
    have ND5 := hid (show D ≠ G5 by have := hlt Q5.out; omega)
    have LO4 := hid (show w.heap.size ≤ G4 by omega)
    have LO5 := hid (show w.heap.size ≤ G5 by omega)
    have L48 := hid (show G4 < w8.heap.size by have := hlt Q5.out; omega)
    have L58 := hid (show G5 < w8.heap.size by have := hlt Q5.out; omega)
    clear Q5
    go_wp2_with fail
    rw [← hG5] at k5
    rw [← hG4] at k4
    rw [← hG5, ← hG4]
    clear hG4 hG5
    refine wp_region_noPanic ?_
    refine wp_region_held_drew (S := fun w' => (w'.heap[G4]? = some (.cells Z.toArray 22 (0, 0)) ∧ w'.heap[G5]? = some (.cells #[.slice none 0 0] 26 (0, 0)) ∧ w'.heap[D]? = some (.deferred (some []))) ∧ Below w.heap.size w w') (by kernel_rfl) ⟨⟨k4, k5, hK⟩, hbW.drew⟩ (fun hHeld => ?_)
    refine wpAnyH_take (i := 0) (oi := { dst := some 46, op := Op.load 22 (Operand.tmp 4), type := 22, pos := "path.go:144", after := #[], guard := none }) (v := .agg Z.toArray) rfl (by kernel_rfl) (by kernel_rfl) (by kernel_rfl) (fun _ _ _ h => h) (yieldsIf_load_mid (by rfl) 22 (.tmp 4) rfl G4 0 rfl Z _ (fun w1 hS => rng hS.1.1) Tryz.underlying22 rfl (by rw [LZ.out]; kernel_rfl)) hHeld ?_
    try simp only [Act.put, List.setIfInBounds_toArray, List.set_cons_zero, List.set_cons_succ]
    refine wpAnyH_take (i := 1) (oi := { dst := some 47, op := Op.load 26 (Operand.tmp 5), type := 26, pos := "path.go:144", after := #[], guard := none }) (v := .slice none 0 0) rfl (by kernel_rfl) (by kernel_rfl) (by kernel_rfl) (fun _ _ _ h => h) (Or.inl ⟨by rfl, by intro w hS; have hc := (show w.cell? ⟨G5, 0, none⟩ = some (.slice none 0 0) by rw [cell_of_row _ _ _ _ _ _ hS.1.2.1]; rfl); go_simp⟩) hHeld ?_
    try simp only [Act.put, List.setIfInBounds_toArray, List.set_cons_zero, List.set_cons_succ]
    refine wpAnyH_ready (rs := [2]) (by kernel_rfl) (by simp) ?_
    refine (AllReadyH.cons (o := { dst := none, op := Op.store 22 (Operand.tmp 4) (Operand.tmp 46), type := 0, pos := "path.go:144", after := #[{ on := 0, ground := Ground.data }, { on := 0, ground := Ground.phase }, { on := 1, ground := Ground.textOnly Departure.inlinedCapture }], guard := none }) rfl (fun K hK => ?_) AllReadyH.nil)
    refine step_storeRowC rfl 22 (.tmp 4) (.tmp 46) rfl G4 Z.toArray rfl rfl 22 Z.toArray hHeld.1.1 S22.out rfl (all_oneCell_toArray OZ.out) ?_
    refine hK.out _ _ (⟨⟨setRow_heap _ _ _ _ _ _ hHeld.1.1, (setRow_other _ _ _ _ N45.out.symm).trans hHeld.1.2.1, (setRow_other _ _ _ _ ND4.out).trans hHeld.1.2.2⟩, below_setRow hHeld.2 LO4.out _⟩) (fun hHeld2 => ?_)
    clear hK K hHeld
    have hHeld := hHeld2
    clear hHeld2
    try simp only [Act.put, List.setIfInBounds_toArray, List.set_cons_zero, List.set_cons_succ]
    refine wpAnyH_ready (rs := [3]) (by kernel_rfl) (by simp) ?_
    refine (AllReadyH.cons (o := { dst := none, op := Op.store 26 (Operand.tmp 5) (Operand.tmp 47), type := 0, pos := "path.go:144", after := #[{ on := 1, ground := Ground.data }, { on := 2, ground := Ground.chain }, { on := 0, ground := Ground.phase }, { on := 1, ground := Ground.phase }, { on := 2, ground := Ground.phase }], guard := none }) rfl (fun K hK => ?_) AllReadyH.nil)
    have c5 := (cell_of_row _ _ 0 _ _ _ hHeld.1.2.1).trans (show _ = some (Value.slice none 0 0) from rfl)
    have f5 := frozen_of_row _ _ 0 _ _ hHeld.1.2.1
    have HH := hid hHeld
    clear hHeld
    go_simp
    have hHeld := HH.out
    clear HH
    refine hK.out _ _ (⟨⟨(Below.heap_setCell _ _ _ _ N45.out).trans hHeld.1.1, (heap_setCell_same _ _ _ _ _ _ hHeld.1.2.1).trans rfl, (Below.heap_setCell _ _ _ _ ND5.out).trans hHeld.1.2.2⟩, hHeld.2.setCell LO5.out _⟩) (fun hHeld2 => ?_)
    clear hK K hHeld
    have hHeld := hHeld2
    clear hHeld2
    try simp only [Act.put, List.setIfInBounds_toArray, List.set_cons_zero, List.set_cons_succ]
    refine wpAnyH_done (by kernel_rfl) ?_ _
    refine NoPanic.normal ?_
    go_wp2_with fail
    have hP := fun o => belowK_b (Nat.le_refl w8.heap.size) _ D _ o hD hHeld.1.2.2 rfl rfl
    have g4 := ((hP (.deferred none)).block G4 L48.out).trans hHeld.1.1
    have g5 := ((hP (.deferred none)).block G5 L58.out).trans hHeld.1.2.1
    have gb := hHeld.2.trans ((hP (.deferred none)).mono HB8.out.size)
    have c5 := (cell_of_row _ _ 0 _ _ _ g5).trans (show _ = some (Value.slice none 0 0) from rfl)
    refine ⟨by simp, .inl ⟨_, _, rfl, run_takeDeferred hHeld.1.2.2, ?_⟩⟩
    refine ⟨.tuple #[.agg Z.toArray, .slice none 0 0], results_cc Tryz.results32 _ _ G4 22 _ _ _ rfl g4 Tryz.underlying22 rfl S22.out G5 (.slice none 0 0) rfl ?_, rfl, gb⟩
    clear hP g4 g5 gb
    go_simp
end Go.Proofs.YtpjfpepjledlmaaGreatDoor
