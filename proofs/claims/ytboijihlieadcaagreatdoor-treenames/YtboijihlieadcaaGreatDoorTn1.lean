import Derived.Test.YtboijihlieadcaaGreatDoorKt
import Derived.Defers
import Derived.Recover
namespace Go.Proofs.YtboijihlieadcaaGreatDoor
set_option linter.unusedVariables false
set_option linter.unusedSimpArgs false
open Go.RowKit
attribute [local go_sem ↓] Go.wp_at_zero Go.wp_at_succ

set_option maxRecDepth 100000 in
set_option maxHeartbeats 2000000 in
theorem ready_nil (w : World) (k : Int) :
    Calls Tryz.prog 33 #[.pointer none, .int .i64 k] w fun e w' => e = .returned (.int .i64 1) ∧ w' = w := by
  go_enter Tryz.func33, Tryz.ntmps33
  go_wp2
  go_ret
  exact ⟨rfl, rfl⟩
set_option maxRecDepth 100000 in
set_option maxHeartbeats 2000000 in
theorem drafted_nil (w : World) (k : Int) (v : Value) :
    Calls Tryz.prog 42 #[.pointer none, .int .i64 k, v] w fun e w' => e = .returned (.tuple #[.pointer none, .int .i64 1]) ∧ w' = w := by
  go_enter Tryz.func42, Tryz.ntmps42
  go_wp2_with fail
  refine (ready_nil w k).mono ?_
  rintro e w1 ⟨rfl, rfl⟩
  go_wp2
  refine bodyPost_ret (results_tmp2 Tryz.results42 _ _ _) rfl ?_
  exact ⟨rfl, rfl⟩
theorem idle_tGetc (p q r : Value) (w : World) :
    CallsD Tryz.prog 31 #[p, q, r] .returning w fun e u' w' => e = .returned (.tuple #[]) ∧ u' = .returning ∧ w' = w := by
  refine callsD_of_wpS Tryz.func31 rfl fun c₀ cs hu => ?_
  apply wpS_seq
  apply wpS_region
  simp [wpOpsS, go_sem, recoverD, hu, Tryz.ntmps31, Exit.thenS]
  apply wpS_seq
  apply wpS_region
  simp [wpOpsS, go_sem, hu, Exit.thenS, Array.replicate]
  refine wpS_cond (t := false) (by simp [Act.eval, Array.replicate]) ?_
  simp only [Bool.false_eq_true, if_false]
  refine wpS_of_wp (wp_skip ?_)
  cases c₀
  simp_all [bodyPostS, results, Tryz.results31]
theorem idle_tSumc (p q : Value) (w : World) :
    CallsD Tryz.prog 35 #[p, q] .returning w fun e u' w' => e = .returned (.tuple #[]) ∧ u' = .returning ∧ w' = w := by
  refine callsD_of_wpS Tryz.func35 rfl fun c₀ cs hu => ?_
  apply wpS_seq
  apply wpS_region
  simp [wpOpsS, go_sem, recoverD, hu, Tryz.ntmps35, Exit.thenS]
  apply wpS_seq
  apply wpS_region
  simp [wpOpsS, go_sem, hu, Exit.thenS, Array.replicate]
  refine wpS_cond (t := false) (by simp [Act.eval, Array.replicate]) ?_
  simp only [Bool.false_eq_true, if_false]
  refine wpS_of_wp (wp_skip ?_)
  cases c₀
  simp_all [bodyPostS, results, Tryz.results35]
theorem idle_tCountc (p q : Value) (w : World) :
    CallsD Tryz.prog 39 #[p, q] .returning w fun e u' w' => e = .returned (.tuple #[]) ∧ u' = .returning ∧ w' = w := by
  refine callsD_of_wpS Tryz.func39 rfl fun c₀ cs hu => ?_
  apply wpS_seq
  apply wpS_region
  simp [wpOpsS, go_sem, recoverD, hu, Tryz.ntmps39, Exit.thenS]
  apply wpS_seq
  apply wpS_region
  simp [wpOpsS, go_sem, hu, Exit.thenS, Array.replicate]
  refine wpS_cond (t := false) (by simp [Act.eval, Array.replicate]) ?_
  simp only [Bool.false_eq_true, if_false]
  refine wpS_of_wp (wp_skip ?_)
  cases c₀
  simp_all [bodyPostS, results, Tryz.results39]
theorem idle_tCostc (p q : Value) (w : World) :
    CallsD Tryz.prog 41 #[p, q] .returning w fun e u' w' => e = .returned (.tuple #[]) ∧ u' = .returning ∧ w' = w := by
  refine callsD_of_wpS Tryz.func41 rfl fun c₀ cs hu => ?_
  apply wpS_seq
  apply wpS_region
  simp [wpOpsS, go_sem, recoverD, hu, Tryz.ntmps41, Exit.thenS]
  apply wpS_seq
  apply wpS_region
  simp [wpOpsS, go_sem, hu, Exit.thenS, Array.replicate]
  refine wpS_cond (t := false) (by simp [Act.eval, Array.replicate]) ?_
  simp only [Bool.false_eq_true, if_false]
  refine wpS_of_wp (wp_skip ?_)
  cases c₀
  simp_all [bodyPostS, results, Tryz.results41]
theorem idle_tUpdatec (p q : Value) (w : World) :
    CallsD Tryz.prog 43 #[p, q] .returning w fun e u' w' => e = .returned (.tuple #[]) ∧ u' = .returning ∧ w' = w := by
  refine callsD_of_wpS Tryz.func43 rfl fun c₀ cs hu => ?_
  apply wpS_seq
  apply wpS_region
  simp [wpOpsS, go_sem, recoverD, hu, Tryz.ntmps43, Exit.thenS]
  apply wpS_seq
  apply wpS_region
  simp [wpOpsS, go_sem, hu, Exit.thenS, Array.replicate]
  refine wpS_cond (t := false) (by simp [Act.eval, Array.replicate]) ?_
  simp only [Bool.false_eq_true, if_false]
  refine wpS_of_wp (wp_skip ?_)
  cases c₀
  simp_all [bodyPostS, results, Tryz.results43]
set_option maxRecDepth 100000 in
set_option maxHeartbeats 2000000 in
theorem get_nil (w : World) (k : Int) (cs : Array Value) :
    Calls Tryz.prog 9 #[.pointer none, .int .i64 k, .agg cs] w fun e w' => e = .returned (.tuple #[.slice none 0 0, .bool false, .int .i64 1]) ∧ Below w.heap.size w w' := by
  have hmf : ∀ (fn : Fn) (first cap : Array Value) (w : World), (Instr.makeFunc fn first cap).run Tryz.prog w = .ok (.func fn first cap) w := fun _ _ _ _ => rfl
  go_enter_defers Tryz.func9, Tryz.ntmps9
  go_wp2_with fail
  refine (ready_nil _ k).mono ?_
  rintro e w1 ⟨rfl, rfl⟩
  go_wp2
  refine leaves_cons (f := 31) (args := #[.pointer (some ⟨w.heap.size + 1, 0, none⟩), .pointer (some ⟨w.heap.size + 1 + 1, 0, none⟩), .pointer (some ⟨w.heap.size + 1 + 1 + 1, 0, none⟩)]) (by simp) (by simp [go_sem]) ?_
  refine (idle_tGetc _ _ _ _).mono ?_
  rintro e u' w'' ⟨rfl, rfl, rfl⟩
  have hB := hid (show Below w.heap.size w ((((w.alloc (.cells cs 27)).alloc (.cells #[.slice none 0 0] 22)).alloc (.cells #[.bool false] 4)).alloc (.cells #[.int .i64 1] 23)) from (((((Below.refl w.heap.size w).alloc (Nat.le_refl _) _).alloc (by simp) _).alloc (by simp; omega) _).alloc (by simp; omega) _))
  simp [Leaves, settle, results, Tryz.results9, go_sem]
  first | exact hB.out | exact hB.out.drew
theorem dig0 (a : Act) (o : Oper) (w : World) (ho : o.op = .alloc 28) : (execOp a.eval o).run Tryz.prog w = .ok (.value (.pointer (some ⟨w.heap.size, 0, none⟩))) (w.alloc (.cells (ints .u8 (padz [] 32)).toArray 28)) := by
  unfold execOp
  rw [ho]
  kernel_rfl
theorem digB : Tryz.prog.built 28 [] = some (ints .u8 (padz [] 32)).toArray := by kernel_rfl
theorem Tryz.sizeDg : (Tryz.prog.info? 28).map (·.size) = some 32 := by kernel_rfl
theorem wpList_allocV {P : Program} {t : TypeId} {Z : List Value} (hz : ∀ (a : Act) (o : Oper) (w : World), o.op = .alloc t → (execOp a.eval o).run P w = .ok (.value (.pointer (some ⟨w.heap.size, 0, none⟩))) (w.alloc (.cells Z.toArray t)))
    {ops : Array Oper} {rest : List Oper} {o : Oper} {a : Act} {w : World} {Q : Exit → Act → World → Prop} (hg : o.guard = none) (ho : o.op = .alloc t)
    (h : wpList P ops Q rest (a.put o.dst (.pointer (some ⟨w.heap.size, 0, none⟩))) (w.alloc (.cells Z.toArray t))) : wpList P ops Q (o :: rest) a w := by
  refine wpList_plain hg fun K hK => ?_
  unfold Oper.wp
  rw [hz a o w ho]
  exact hK _ _ h
theorem wpList_built {P : Program} {ops : Array Oper} {rest : List Oper} {o : Oper} {a : Act} {w : World} {Q : Exit → Act → World → Prop} (hw : Region.wanted o (yielded ops a.tmps) = true) (t : TypeId) (parts : Array (Nat × Operand)) (ho : o.op = .build t parts) (ps : List (Nat × Value)) (hp : (parts.toList.map fun (i, x) => (i, a.eval x)) = ps) (cs : Array Value) (hb : P.built t ps = some cs)
    (h : wpList P ops Q rest (a.put o.dst (.agg cs)) w) : wpList P ops Q (o :: rest) a w := by
  have e : P.built t (parts.map fun (i, x) => (i, a.eval x)).toList = some cs := by rw [Array.toList_map, hp]; exact hb
  exact BigFrame.wpList_want hw fun _ hK => wp_build t parts ho (by rw [e]; rfl) (by rw [e]; exact hK _ _ h)
theorem results_cc {P : Program} {fn : Func} {p q : Tmp} {ty ty2 : TypeId} (h : fn.results = #[.cell p ty, .cell q ty2]) (tmps : Array Value) (w : World) (g : Nat) (t : TypeId) (cs : Array Value) (fr : Nat × Nat) (d : TypeDesc)
    (hp : tmps.getD p undef = .pointer (some ⟨g, 0, none⟩)) (hg : w.heap[g]? = some (.cells cs t fr))
    (hu : P.underlying ty = some d) (hd : (match d with | .struct _ | .array _ _ => true | _ => false) = true) (hi : (P.info? ty).map (·.size) = some cs.size) (g2 : Nat) (x : Value)
    (hq : tmps.getD q undef = .pointer (some ⟨g2, 0, none⟩)) (hx : (loadVar ty2 ⟨g2, 0, none⟩).run P w = .ok x w) :
    (results fn tmps).run P w = .ok (.tuple #[.agg cs, x]) w := by
  have hp' : tmps[p]?.getD undef = .pointer (some ⟨g, 0, none⟩) := by simpa using hp
  have hq' : tmps[q]?.getD undef = .pointer (some ⟨g2, 0, none⟩) := by simpa using hq
  simp [results, h, hp', hq', asAddr, run_loadVar_row w g t ty cs fr d hg hu hd hi, hx]
set_option maxRecDepth 100000 in
set_option maxHeartbeats 2000000 in
theorem sum_nil (w : World) (k : Int) :
    Calls Tryz.prog 10 #[.pointer none, .int .i64 k] w fun e w' => (∃ Z : List Value, Z.length = 32 ∧ (∀ x ∈ Z, x.oneCell' = true) ∧ e = .returned (.tuple #[.agg Z.toArray, .int .i64 1])) ∧ Below w.heap.size w w' := by
  have hmf : ∀ (fn : Fn) (first cap : Array Value) (w : World), (Instr.makeFunc fn first cap).run Tryz.prog w = .ok (.func fn first cap) w := fun _ _ _ _ => rfl
  have AD := hid dig0
  have BD := hid digB
  have LZ := hid (show (ints .u8 (padz [] 32)).length = 32 from rfl)
  have OZ := hid (ints_one .u8 (padz [] 32))
  generalize ints .u8 (padz [] 32) = Z at *
  have SZ := hid (show (Tryz.prog.info? 28).map (·.size) = some Z.toArray.size by rw [Tryz.sizeDg, List.size_toArray, LZ.out])
  have g0 : ∀ o, ((w.alloc (.cells Z.toArray 28)).alloc o).heap[w.heap.size]? = some (.cells Z.toArray 28) := fun o => hold (hnew w _)
  have hB := hid (show Below w.heap.size w ((w.alloc (.cells Z.toArray 28)).alloc (.cells #[.int .i64 1] 23)) from (((Below.refl w.heap.size w).alloc (Nat.le_refl _) _).alloc (by simp) _))
  have hx : (loadVar 23 ⟨w.heap.size + 1, 0, none⟩).run Tryz.prog ((w.alloc (.cells Z.toArray 28)).alloc (.cells #[.int .i64 1] 23)) = .ok (.int .i64 1) ((w.alloc (.cells Z.toArray 28)).alloc (.cells #[.int .i64 1] 23)) := by go_simp
  have hl := run_loadVar_row (P := Tryz.prog) ((w.alloc (.cells Z.toArray 28)).alloc (.cells #[.int .i64 1] 23)) w.heap.size 28 28 Z.toArray (0, 0) _ (g0 _) Tryz.underlying28 rfl SZ.out
  go_enter_defers Tryz.func10, Tryz.ntmps10
  go_wp2_with (first | refine wpList_allocV AD.out rfl rfl ?_)
  refine (ready_nil _ k).mono ?_
  rintro e w1 ⟨rfl, rfl⟩
  go_wp2_with (first
    | refine wpList_built (by rfl) 28 _ rfl _ rfl _ BD.out ?_
    | (refine wpList_store_row rfl 28 _ _ rfl w.heap.size Z.toArray rfl rfl 28 _ (g0 _) SZ.out rfl (all_oneCell_toArray OZ.out) ?_; rw [setRow_self _ _ _ _ _ (g0 _)]))
  refine leaves_cons (f := 35) (args := #[.pointer (some ⟨w.heap.size, 0, none⟩), .pointer (some ⟨w.heap.size + 1, 0, none⟩)]) (by simp) (by simp [go_sem]) ?_
  refine (idle_tSumc _ _ _).mono ?_
  rintro e u' w'' ⟨rfl, rfl, rfl⟩
  refine ⟨.tuple #[.agg Z.toArray, .int .i64 1], ?_, ⟨Z, LZ.out, OZ.out, rfl⟩, hB.out⟩
  exact results_cc Tryz.results10 _ _ w.heap.size 28 Z.toArray (0, 0) _ rfl (g0 _) Tryz.underlying28 rfl SZ.out (w.heap.size + 1) (.int .i64 1) rfl hx
set_option maxRecDepth 100000 in
set_option maxHeartbeats 2000000 in
theorem count_nil (w : World) (k : Int) :
    Calls Tryz.prog 11 #[.pointer none, .int .i64 k] w fun e w' => e = .returned (.tuple #[.int .i64 0, .int .i64 1]) ∧ Below w.heap.size w w' := by
  have hmf : ∀ (fn : Fn) (first cap : Array Value) (w : World), (Instr.makeFunc fn first cap).run Tryz.prog w = .ok (.func fn first cap) w := fun _ _ _ _ => rfl
  go_enter_defers Tryz.func11, Tryz.ntmps11
  go_wp2_with fail
  refine (ready_nil _ k).mono ?_
  rintro e w1 ⟨rfl, rfl⟩
  go_wp2
  refine leaves_cons (f := 39) (args := #[.pointer (some ⟨w.heap.size, 0, none⟩), .pointer (some ⟨w.heap.size + 1, 0, none⟩)]) (by simp) (by simp [go_sem]) ?_
  refine (idle_tCountc _ _ _).mono ?_
  rintro e u' w'' ⟨rfl, rfl, rfl⟩
  have hB := hid (show Below w.heap.size w ((w.alloc (.cells #[.int .i64 0] 3)).alloc (.cells #[.int .i64 1] 23)) from (((Below.refl w.heap.size w).alloc (Nat.le_refl _) _).alloc (by simp) _))
  simp [Leaves, settle, results, Tryz.results11, go_sem]
  first | exact hB.out | exact hB.out.drew
set_option maxRecDepth 100000 in
set_option maxHeartbeats 2000000 in
theorem cost_nil (w : World) (k : Int) (v : Value) :
    Calls Tryz.prog 12 #[.pointer none, .int .i64 k, v] w fun e w' => e = .returned (.tuple #[.int .i64 0, .int .i64 1]) ∧ Below w.heap.size w w' := by
  have hmf : ∀ (fn : Fn) (first cap : Array Value) (w : World), (Instr.makeFunc fn first cap).run Tryz.prog w = .ok (.func fn first cap) w := fun _ _ _ _ => rfl
  go_enter_defers Tryz.func12, Tryz.ntmps12
  go_wp2_with fail
  refine (drafted_nil _ k v).mono ?_
  rintro e w1 ⟨rfl, rfl⟩
  go_wp2
  go_region
  go_wp2
  refine leaves_cons (f := 41) (args := #[.pointer (some ⟨w.heap.size, 0, none⟩), .pointer (some ⟨w.heap.size + 1, 0, none⟩)]) (by simp) (by simp [go_sem]) ?_
  refine (idle_tCostc _ _ _).mono ?_
  rintro e u' w'' ⟨rfl, rfl, rfl⟩
  have hB := hid (show Below w.heap.size w ((w.alloc (.cells #[.int .i64 0] 3)).alloc (.cells #[.int .i64 1] 23)) from (((Below.refl w.heap.size w).alloc (Nat.le_refl _) _).alloc (by simp) _))
  simp [Leaves, settle, results, Tryz.results12, go_sem]
  first | exact hB.out | exact hB.out.drew
set_option maxRecDepth 100000 in
set_option maxHeartbeats 2000000 in
theorem update_nil (w : World) (k : Int) (v : Value) :
    Calls Tryz.prog 13 #[.pointer none, .int .i64 k, v] w fun e w' => e = .returned (.tuple #[.int .i64 0, .int .i64 1]) ∧ Below w.heap.size w w' := by
  have hmf : ∀ (fn : Fn) (first cap : Array Value) (w : World), (Instr.makeFunc fn first cap).run Tryz.prog w = .ok (.func fn first cap) w := fun _ _ _ _ => rfl
  go_enter_defers Tryz.func13, Tryz.ntmps13
  go_wp2_with fail
  refine (drafted_nil _ k v).mono ?_
  rintro e w1 ⟨rfl, rfl⟩
  go_wp2
  go_region
  go_wp2
  refine leaves_cons (f := 43) (args := #[.pointer (some ⟨w.heap.size, 0, none⟩), .pointer (some ⟨w.heap.size + 1, 0, none⟩)]) (by simp) (by simp [go_sem]) ?_
  refine (idle_tUpdatec _ _ _).mono ?_
  rintro e u' w'' ⟨rfl, rfl, rfl⟩
  have hB := hid (show Below w.heap.size w ((w.alloc (.cells #[.int .i64 0] 3)).alloc (.cells #[.int .i64 1] 23)) from (((Below.refl w.heap.size w).alloc (Nat.le_refl _) _).alloc (by simp) _))
  simp [Leaves, settle, results, Tryz.results13, go_sem]
  first | exact hB.out | exact hB.out.drew
end Go.Proofs.YtboijihlieadcaaGreatDoor
