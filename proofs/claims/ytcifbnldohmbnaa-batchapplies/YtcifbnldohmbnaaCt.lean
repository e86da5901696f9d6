import Derived.Test.YtcifbnldohmbnaaCs
import Derived.Shelf.Slices.Clone
namespace Go.Proofs.Ytcifbnldohmbnaa
set_option linter.unusedVariables false
set_option linter.unusedSimpArgs false
open Go.RowKit
attribute [local go_sem ↓] Go.wp_at_zero Go.wp_at_succ

theorem own_empty (w : World) : Own (w.alloc (.cells #[] 5)) w.heap.size (.slice (some ⟨w.heap.size, 0, none⟩) 0 0) [] :=
  ⟨rfl, Or.inr ⟨w.heap.size, 0, #[], rfl, Nat.le_refl _, hnew w _, Nat.le_refl _, by simp [maxLen], rfl, rfl⟩⟩
set_option maxRecDepth 100000 in
set_option maxHeartbeats 400000 in
theorem Clone_any (w : World) (zs : List Int) (sp : Option Addr) (cap : Nat) (hS : Src w sp cap zs) (hnil : sp = none → cap = 0) (hlen : zs.length ≤ 140737488351232) :
    Calls Try.prog 57 #[.slice sp zs.length cap] w fun e w' => ∃ v, e = .returned v ∧ Own w' w.heap.size v zs ∧ Below w.heap.size w w' := by
  have q22 : ∀ (w : World) (a : Option Addr) (n c n' c' : Nat), (binOp .eql 30 (.slice a n c) (.slice none n' c')).run Try.prog w = .ok (.bool a.isNone) w := fun w a n c n' c' => Lib.run_eql_slice_nil w _ _ a n c n' c' Try.underlying30
  cases sp with
  | none =>
    obtain rfl := hnil rfl
    have hz : zs = [] := List.eq_nil_of_length_eq_zero (by have := hS.1; omega)
    subst hz
    go_enter Try.func57, Try.ntmps57
    go_wp2
    go_ret
    exact ⟨_, rfl, Own.nil _ _, Below.refl _ _⟩
  | some a =>
    have hE := own_empty w
    have hS1 := hS.below ((Below.refl w.heap.size w).alloc (Nat.le_refl _) (.cells #[] 5)) (Nat.le_refl _)
    go_enter Try.func57, Try.ntmps57
    go_wp2_with (first | (at_builtin; refine wpList_append_wide rfl (.tmp 5) (.tmp 6) rfl w.heap.size _ [] zs rfl hE (some a) cap rfl (fun h => by cases h) hS1 (by simp; omega) (by simp) ?_; intro v2 w2 hO2 hg2 hd2))
    go_ret
    refine ⟨_, rfl, hO2, ?_⟩
    exact ((Below.refl _ w).alloc (Nat.le_refl _) _).trans (grown_keeps hg2 (fun k e => (hE.block k e).1) (by simp))
theorem results_c3 {P : Program} {fn : Func} {p q r : Tmp} {ty : TypeId} (h : fn.results = #[.cell p ty, .tmp q, .tmp r]) (tmps : Array Value) (w : World) (g : Nat) (t : TypeId) (cs : Array Value) (fr : Nat × Nat) (d : TypeDesc)
    (hp : tmps.getD p undef = .pointer (some ⟨g, 0, none⟩)) (hg : w.heap[g]? = some (.cells cs t fr))
    (hu : P.underlying ty = some d) (hd : (match d with | .struct _ | .array _ _ => true | _ => false) = true) (hi : (P.info? ty).map (·.size) = some cs.size) :
    (results fn tmps).run P w = .ok (.tuple #[.agg cs, tmps.getD q undef, tmps.getD r undef]) w := by
  have hp' : tmps[p]?.getD undef = .pointer (some ⟨g, 0, none⟩) := by simpa using hp
  simp [results, h, hp', asAddr, run_loadVar_row w g t ty cs fr d hg hu hd hi]
theorem encD_len : (encM dM).length = 34 := by simp [encM, dM, ints]
/-- What parseChange tells. -/
def PCpost (w : World) (z : List Int) (e : Ending) (w' : World) : Prop := ∃ m : MC, e = .returned (.tuple #[.agg (encM m).toArray, .int .i64 (one z).n, .int .i64 (one z).e]) ∧ m.key.length = 32 ∧ (∃ sp n c, m.sv = .slice sp n c) ∧ ((one z).e = 0 → m.key = (one z).c.key ∧ m.del = (one z).c.del ∧ Own w' w.heap.size m.sv (one z).c.val) ∧ Below w.heap.size w w'
theorem pc_err {w w' : World} {z : List Int} {v : Value} {en : Int} (h : (one z).e = en ∧ (one z).n = 0) (hne : en ≠ 0) (hv : v = .tuple #[.agg (encM dM).toArray, .int .i64 0, .int .i64 en]) (hb : Below w.heap.size w w') : PCpost w z (.returned v) w' := by
  refine ⟨dM, ?_, by simp [dM], ⟨none, 0, 0, rfl⟩, fun e => absurd (h.1.symm.trans e) hne, hb⟩
  rw [hv, h.1, h.2]; rfl
/-! A change of zeros, opaque. -/
theorem run_allocZ (a : Act) (o : Oper) (ho : o.op = .alloc 40) (w : World) : (execOp a.eval o).run Try.prog w = .ok (.value (.pointer (some ⟨w.heap.size, 0, none⟩))) (w.alloc (.cells (encM dM).toArray 40)) := by
  unfold execOp
  rw [ho]
  kernel_rfl
theorem run_buildZ (a : Act) (o : Oper) (ho : o.op = .build 40 #[]) (w : World) : (execOp a.eval o).run Try.prog w = .ok (.value (.agg (encM dM).toArray)) w := by
  unfold execOp
  rw [ho]
  kernel_rfl
theorem wpList_allocZ {w : World} {ops : Array Oper} {rest : List Oper} {o : Oper} {a : Act} {Q : Exit → Act → World → Prop} (hg : o.guard = none) (ho : o.op = .alloc 40) (Z : List Value) (hZ : Z = encM dM)
    (h : wpList Try.prog ops Q rest (a.put o.dst (.pointer (some ⟨w.heap.size, 0, none⟩))) (w.alloc (.cells Z.toArray 40))) : wpList Try.prog ops Q (o :: rest) a w := by
  subst hZ
  refine wpList_plain hg fun K hK => ?_
  unfold Oper.wp
  rw [run_allocZ a o ho w]
  exact hK _ _ h
theorem wpList_buildZ {w : World} {ops : Array Oper} {rest : List Oper} {o : Oper} {a : Act} {Q : Exit → Act → World → Prop} (hg : o.guard = none) (ho : o.op = .build 40 #[]) (Z : List Value) (hZ : Z = encM dM)
    (h : wpList Try.prog ops Q rest (a.put o.dst (.agg Z.toArray)) w) : wpList Try.prog ops Q (o :: rest) a w := by
  subst hZ
  refine wpList_plain hg fun K hK => ?_
  unfold Oper.wp
  rw [run_buildZ a o ho w]
  exact hK _ _ h
set_option maxRecDepth 100000 in
set_option maxHeartbeats 1000000 in
theorem parseChange_err1 (w : World) (z : List Int) (sp : Option Addr) (cap : Nat) (hS : Src w sp cap z) (hy : Byts z) (h : z.length < 33 ∨ (z.getD 0 0 ≠ 1 ∧ z.getD 0 0 ≠ 2)) :
    Calls Try.prog 42 #[.slice sp z.length cap] w (PCpost w z) := by
  have HO := hid (show (one z).e = 30 ∧ (one z).n = 0 by unfold one; rw [if_pos h]; exact ⟨rfl, rfl⟩)
  obtain ⟨hc, hm, b, o, hb, hsp, hsrc⟩ := hS
  unfold maxLen at hm
  have i0 : (z.length : Int) ≤ 9223372036854775807 := by omega
  obtain ⟨Z, hZ⟩ : ∃ Z, Z = encM dM := ⟨_, rfl⟩
  have g1 := hnew w (.cells Z.toArray 40)
  have hB : Below w.heap.size w (w.alloc (.cells Z.toArray 40)) := (Below.refl _ _).alloc (Nat.le_refl _) _
  have SO := hid (show Z.toArray.size = 34 by rw [hZ]; simpa using encD_len)
  have oo : ∀ v ∈ Z, v.oneCell' = true := by rw [hZ]; decide
  have fin : ∀ v, v = .tuple #[.agg Z.toArray, .int .i64 0, .int .i64 30] → PCpost w z (.returned v) (w.alloc (.cells Z.toArray 40)) := fun v hv => pc_err HO.out (by decide) (by rw [hv, hZ]) hB
  have FIN := hid fin
  have HZ := hid hZ
  clear fin hZ
  by_cases hl : z.length < 33
  · have hl' : (z.length : Int) < 33 := by omega
    clear h hsrc
    generalize z.length = n at *
    go_enter Try.func42, Try.ntmps42
    go_wp2_with (first
      | refine wpList_allocZ rfl rfl Z HZ.out ?_
      | refine wpList_buildZ rfl rfl Z HZ.out ?_
      | (refine wpList_store_row rfl 40 _ _ rfl _ _ rfl rfl 40 _ (by exact g1) (by rw [chgSize, SO.out]) rfl (all_oneCell_toArray oo) ?_; rw [setRow_alloc]))
    refine bodyPost_ret (results_c3 Try.results42 _ _ w.heap.size 40 Z.toArray _ _ rfl g1 Try.underlying40 rfl (by rw [chgSize, SO.out])) rfl ?_
    exact FIN.out _ rfl
  · obtain ⟨h1, h2⟩ := h.resolve_left hl
    have hl' : ¬ (z.length : Int) < 33 := by omega
    have hl2 : (0 : Int) < (z.length : Int) := by omega
    obtain rfl := hsp (by omega)
    have c0 := (hB.cell (p := ⟨b, o, none⟩) (hb (by omega))).trans (hsrc 0 (by omega))
    clear h hsrc hl
    generalize z.getD 0 0 = x at *
    have e1 : (x != 1) = true := by simp [h1]
    have e2 : (x != 2) = true := by simp [h2]
    generalize z.length = n at *
    go_enter Try.func42, Try.ntmps42
    go_wp2_with (first
      | refine wpList_allocZ rfl rfl Z HZ.out ?_
      | refine wpList_buildZ rfl rfl Z HZ.out ?_
      | (refine wpList_store_row rfl 40 _ _ rfl _ _ rfl rfl 40 _ (by exact g1) (by rw [chgSize, SO.out]) rfl (all_oneCell_toArray oo) ?_; rw [setRow_alloc]))
    refine bodyPost_ret (results_c3 Try.results42 _ _ w.heap.size 40 Z.toArray _ _ rfl g1 Try.underlying40 rfl (by rw [chgSize, SO.out])) rfl ?_
    exact FIN.out _ rfl
theorem build_del' (ks : List Value) (hk : ks.length = 32) (d : Bool) (w : World) :
    (Instr.build 40 #[(0, .agg ks.toArray), (1, .bool d)]).run Try.prog w = .ok (.agg (ks ++ [Value.bool d, Value.slice none 0 0]).toArray) w := by
  obtain ⟨x0, x1, x2, x3, x4, x5, x6, x7, x8, x9, x10, x11, x12, x13, x14, x15, x16, x17, x18, x19, x20, x21, x22, x23, x24, x25, x26, x27, x28, x29, x30, x31, rfl⟩ := list32 hk
  kernel_rfl
theorem build_put' (ks : List Value) (hk : ks.length = 32) (sp : Option Addr) (n c : Nat) (w : World) :
    (Instr.build 40 #[(0, .agg ks.toArray), (2, .slice sp n c)]).run Try.prog w = .ok (.agg (ks ++ [Value.bool false, Value.slice sp n c]).toArray) w := by
  obtain ⟨x0, x1, x2, x3, x4, x5, x6, x7, x8, x9, x10, x11, x12, x13, x14, x15, x16, x17, x18, x19, x20, x21, x22, x23, x24, x25, x26, x27, x28, x29, x30, x31, rfl⟩ := list32 hk
  kernel_rfl
theorem wpList_build_del {w : World} {ops : Array Oper} {rest : List Oper} {o : Oper} {a : Act} {Q : Exit → Act → World → Prop} (hg : o.guard = none) (x y : Operand) (ho : o.op = .build 40 #[(0, x), (1, y)]) (k : List Int) (hk : k.length = 32) (d : Bool)
    (hx : a.eval x = .agg (ints .u8 k).toArray) (hy : a.eval y = .bool d) (h : wpList Try.prog ops Q rest (a.put o.dst (.agg (encM ⟨k, d, .slice none 0 0⟩).toArray)) w) : wpList Try.prog ops Q (o :: rest) a w := by
  refine wpList_plain hg fun K hK => ?_
  unfold Oper.wp execOp
  simp only [ho, List.map_toArray, List.map_cons, List.map_nil, hx, hy, Sem.run_bind, build_del' (ints .u8 k) (by rw [ints_len, hk]) d w, Result.andThen_ok, Sem.run_pure]
  exact hK _ _ h
theorem yields_put {ops : Array Oper} {S : World → Prop} {o : Oper} {a : Act} (hw : Region.wanted o (yielded ops a.tmps) = true) (x z : Operand) (ho : o.op = .build 40 #[(0, x), (2, z)])
    (k : List Int) (hk : k.length = 32) (sp : Option Addr) (n c : Nat) (hx : a.eval x = .agg (ints .u8 k).toArray) (hz : a.eval z = .slice sp n c) :
    YieldsIf Try.prog ops S o (.agg (encM ⟨k, false, .slice sp n c⟩).toArray) a :=
  .inl ⟨hw, fun w _ => by
    unfold execOp
    simp only [ho, List.map_toArray, List.map_cons, List.map_nil, hx, hz, Sem.run_bind, build_put' (ints .u8 k) (by rw [ints_len, hk]) sp n c w, Result.andThen_ok, Sem.run_pure]
    rfl⟩
/-- A piece of a list of bytes, as a row. -/
theorem Src.row {w : World} {b o cap : Nat} {z : List Int} (h : ∀ j, j < z.length → w.cell? ⟨b, o + j, none⟩ = some (.int .u8 (z.getD j 0))) (i n : Nat) (hin : i + n ≤ z.length) : w.rangeAt b (o + i) (ints .u8 ((z.drop i).take n)) := fun j v hv => by
  have hj := (List.getElem?_eq_some_iff.1 hv).1
  rw [ints_len, List.length_take, List.length_drop] at hj
  rw [Nat.add_assoc, h (i + j) (by omega), ← hv, ints_get _ _ _ (by rw [List.length_take, List.length_drop]; omega)]
  congr 2
  rw [List.getD_eq_getElem?_getD, List.getD_eq_getElem?_getD, List.getElem?_take, if_pos (by omega), List.getElem?_drop]
set_option maxRecDepth 100000 in
set_option maxHeartbeats 1000000 in
theorem parseChange_del (w : World) (z : List Int) (sp : Option Addr) (cap : Nat) (hS : Src w sp cap z) (hy : Byts z) (hl : 33 ≤ z.length) (h2 : z.getD 0 0 = 2) :
    Calls Try.prog 42 #[.slice sp z.length cap] w (PCpost w z) := by
  have HO := hid (show (one z).e = 0 ∧ (one z).n = 33 ∧ (one z).c = ⟨(z.drop 1).take 32, true, []⟩ by unfold one; rw [if_neg (by omega), if_pos h2]; exact ⟨rfl, rfl, rfl⟩)
  obtain ⟨hc, hm, b, o, hb, hsp, hsrc⟩ := hS
  unfold maxLen at hm
  have i0 : (z.length : Int) ≤ 9223372036854775807 := by omega
  obtain rfl := hsp (by omega)
  have hbl := hb (by omega)
  obtain ⟨Z, hZ⟩ : ∃ Z, Z = encM dM := ⟨_, rfl⟩
  have SO := hid (show Z.toArray.size = 34 by rw [hZ]; simpa using encD_len)
  have oo : ∀ v ∈ Z, v.oneCell' = true := by rw [hZ]; decide
  have HZ := hid hZ
  clear hZ
  have lk : ((z.drop 1).take 32).length = 32 := by rw [List.length_take, List.length_drop]; omega
  have rk := Src.row (cap := cap) hsrc 1 32 (by omega)
  have hB : Below w.heap.size w (w.alloc (.cells Z.toArray 40)) := (Below.refl _ _).alloc (Nat.le_refl _) _
  have c0 := (hB.cell (p := ⟨b, o, none⟩) hbl).trans (hsrc 0 (by omega))
  rw [h2] at c0
  have rk1 := rng_below rk hB hbl
  generalize hkk : (z.drop 1).take 32 = k at *
  have SK := hid (show (ints .u8 k).toArray.size = 32 by simp [ints, lk])
  have hik : (Try.prog.info? 24).map (·.size) = some (ints .u8 k).length := by rw [keySize, ints_len, lk]
  have ok : ∀ v ∈ ints .u8 k, v.oneCell' = true := ints_one _ _
  have g1 := hnew w (.cells Z.toArray 40)
  have g2 := hnew (w.alloc (.cells Z.toArray 40)) (.cells (ints .u8 k).toArray 24)
  have g3 := hold (o := .cells (ints .u8 k).toArray 24) g1
  have hB2 : Below w.heap.size w ((w.alloc (.cells Z.toArray 40)).alloc (.cells (ints .u8 k).toArray 24)) := hB.alloc (by simp) _
  have hn1 : ¬ cap = 1 := by omega
  have hl' : ¬ (z.length : Int) < 33 := by omega
  have hl2 : (0 : Int) < (z.length : Int) := by omega
  have hcap : (33 : Int) ≤ (cap : Int) := by omega
  have c1 := (((Below.refl _ _).alloc (Nat.le_refl _) (.cells (ints .u8 k).toArray 24)).cell (p := ⟨b, o, none⟩) (by show b < (w.alloc (.cells Z.toArray 40)).heap.size; simp; omega)).trans c0
  have SM := hid (show (encM ⟨k, true, .slice none 0 0⟩).toArray.size = 34 by simp [encM, ints, lk])
  have om : ∀ v ∈ encM ⟨k, true, .slice none 0 0⟩, v.oneCell' = true := by
    intro v hv
    rcases List.mem_append.1 hv with h | h
    · exact ints_one _ _ v h
    · simp at h; rcases h with rfl | rfl <;> rfl
  have hat : ∀ w, (Instr.arrayAt 24 (.slice (some ⟨b, o + 1, none⟩) 32 (cap - 1))).run Try.prog w = .ok (.pointer (some ⟨b, o + 1, none⟩)) w := fun w => run_arrayAt w 24 5 32 (some ⟨b, o + 1, none⟩) 32 (cap - 1) Try.underlying24 (Nat.le_refl _)
  clear hsrc rk
  generalize z.length = n at *
  go_enter Try.func42, Try.ntmps42
  go_wp2_with (first
    | refine wpList_allocZ rfl rfl Z HZ.out ?_
    | refine wpList_load_mid rfl 24 _ rfl b (o + 1) rfl (ints .u8 k) _ rk1 Try.underlying24 rfl hik ?_
    | (refine wpList_store_row rfl 24 _ _ rfl _ _ rfl rfl 24 _ (by exact hnew2 _ _ _) (by rw [keySize, SK.out]) (by rw [SK.out]; rfl) (all_oneCell_toArray ok) ?_; rw [setRow_alloc2])
    | refine wpList_load_row rfl 24 _ rfl _ rfl 24 _ _ _ (by exact hnew2 _ _ _) Try.underlying24 rfl (by rw [keySize, SK.out]) ?_
    | refine wpList_build_del rfl _ _ rfl k lk true rfl rfl ?_
    | (refine wpList_store_row rfl 40 _ _ rfl _ _ rfl rfl 40 _ (by exact g3) (by rw [chgSize, SM.out]) (by simp only [SM.out, SO.out]) (all_oneCell_toArray om) ?_))
  refine bodyPost_ret (results_c3 Try.results42 _ _ w.heap.size 40 _ _ _ rfl (setRow_heap _ _ _ _ _ _ g3) Try.underlying40 rfl (by rw [chgSize, SM.out])) rfl ?_
  refine ⟨⟨k, true, .slice none 0 0⟩, ?_, lk, ⟨none, 0, 0, rfl⟩, fun _ => ?_, below_setRow hB2 (Nat.le_refl _) _⟩
  · rw [HO.out.1, HO.out.2.1]; rfl
  · rw [HO.out.2.2]; exact ⟨rfl, rfl, Own.nil _ _⟩
--PUT
set_option maxRecDepth 100000 in
set_option maxHeartbeats 1000000 in
theorem parseChange_err2 (w : World) (z : List Int) (sp : Option Addr) (cap : Nat) (hS : Src w sp cap z) (hy : Byts z) (hl : 33 ≤ z.length) (h2 : z.getD 0 0 = 1) (hl35 : z.length < 35) :
    Calls Try.prog 42 #[.slice sp z.length cap] w (PCpost w z) := by
  have HO := hid (show (one z).e = 30 ∧ (one z).n = 0 by unfold one; rw [if_neg (by omega), if_neg (by omega), if_pos hl35]; exact ⟨rfl, rfl⟩)
  obtain ⟨hc, hm, b, o, hb, hsp, hsrc⟩ := id hS
  unfold maxLen at hm
  have i0 : (z.length : Int) ≤ 9223372036854775807 := by omega
  obtain rfl := hsp (by omega)
  have hbl := hb (by omega)
  obtain ⟨Z, hZ⟩ : ∃ Z, Z = encM dM := ⟨_, rfl⟩
  have SO := hid (show Z.toArray.size = 34 by rw [hZ]; simpa using encD_len)
  have oo : ∀ v ∈ Z, v.oneCell' = true := by rw [hZ]; decide
  have HZ := hid hZ
  have lk : ((z.drop 1).take 32).length = 32 := by rw [List.length_take, List.length_drop]; omega
  have rk := Src.row (cap := cap) hsrc 1 32 (by omega)
  have hB : Below w.heap.size w (w.alloc (.cells Z.toArray 40)) := (Below.refl _ _).alloc (Nat.le_refl _) _
  have c0 := (hB.cell (p := ⟨b, o, none⟩) hbl).trans (hsrc 0 (by omega))
  rw [h2] at c0
  have rk1 := rng_below rk hB hbl
  generalize hkk : (z.drop 1).take 32 = k at *
  have SK := hid (show (ints .u8 k).toArray.size = 32 by simp [ints, lk])
  have hik : (Try.prog.info? 24).map (·.size) = some (ints .u8 k).length := by rw [keySize, ints_len, lk]
  have ok : ∀ v ∈ ints .u8 k, v.oneCell' = true := ints_one _ _
  have g1 := hnew w (.cells Z.toArray 40)
  have g2 := hnew2 w (.cells Z.toArray 40) (.cells (ints .u8 k).toArray 24)
  have g3 := hold2 w (.cells Z.toArray 40) (.cells (ints .u8 k).toArray 24)
  have hB2 : Below w.heap.size w ((w.alloc (.cells Z.toArray 40)).alloc (.cells (ints .u8 k).toArray 24)) := hB.alloc (by simp) _
  have hn1 : ¬ cap = 1 := by omega
  have hl' : ¬ (z.length : Int) < 33 := by omega
  have hl2 : (0 : Int) < (z.length : Int) := by omega
  have hcap : (33 : Int) ≤ (cap : Int) := by omega
  have c1 := (hB2.cell (p := ⟨b, o, none⟩) hbl).trans (hsrc 0 (by omega))
  rw [h2] at c1
  have hat : ∀ w, (Instr.arrayAt 24 (.slice (some ⟨b, o + 1, none⟩) 32 (cap - 1))).run Try.prog w = .ok (.pointer (some ⟨b, o + 1, none⟩)) w := fun w => run_arrayAt w 24 5 32 (some ⟨b, o + 1, none⟩) 32 (cap - 1) Try.underlying24 (Nat.le_refl _)
  have FIN := hid (show ∀ v, v = .tuple #[.agg Z.toArray, .int .i64 0, .int .i64 30] → PCpost w z (.returned v) (((w.alloc (.cells Z.toArray 40)).alloc (.cells (ints .u8 k).toArray 24)).setRow w.heap.size Z.toArray) from fun v hv => pc_err HO.out (by decide) (by rw [hv, hZ]) (below_setRow hB2 (Nat.le_refl _) _))
  have hl3 : (z.length : Int) < 35 := by omega
  clear hsrc rk hZ
  generalize z.length = n at *
  go_enter Try.func42, Try.ntmps42
  go_wp2_with (first
    | refine wpList_allocZ rfl rfl Z HZ.out ?_
    | refine wpList_buildZ rfl rfl Z HZ.out ?_
    | refine wpList_load_mid rfl 24 _ rfl b (o + 1) rfl (ints .u8 k) _ rk1 Try.underlying24 rfl hik ?_
    | (refine wpList_store_row rfl 24 _ _ rfl _ _ rfl rfl 24 _ (by exact hnew2 _ _ _) (by rw [keySize, SK.out]) (by rw [SK.out]; rfl) (all_oneCell_toArray ok) ?_; rw [setRow_alloc2])
    | (refine wpList_store_row rfl 40 _ _ rfl _ _ rfl rfl 40 _ (by exact g3) (by rw [chgSize, SO.out]) rfl (all_oneCell_toArray oo) ?_))
  refine bodyPost_ret (results_c3 Try.results42 _ _ w.heap.size 40 _ _ _ rfl (setRow_heap _ _ _ _ _ _ g3) Try.underlying40 rfl (by rw [chgSize, SO.out])) rfl ?_
  exact FIN.out _ rfl
theorem tail_src {w : World} {b o cap : Nat} {z : List Int} (h : Src w (some ⟨b, o, none⟩) cap z) (hz : 0 < z.length) (i n c : Nat) (hin : i + n ≤ z.length) (hc : n ≤ c) (hm : c ≤ maxLen) : Src w (some ⟨b, o + i, none⟩) c ((z.drop i).take n) := by
  obtain ⟨hc', hm', b', o', hb, hsp, hsrc⟩ := h
  have := hsp hz
  cases this
  have hl : ((z.drop i).take n).length = n := by rw [List.length_take, List.length_drop]; omega
  refine ⟨by omega, hm, b, o + i, fun _ => hb hz, fun _ => rfl, fun j hj => ?_⟩
  rw [hl] at hj
  rw [Nat.add_assoc, hsrc (i + j) (by omega)]
  congr 2
  rw [List.getD_eq_getElem?_getD, List.getD_eq_getElem?_getD, List.getElem?_take, if_pos hj, List.getElem?_drop]
theorem Byts.piece {z : List Int} (h : Byts z) (i n : Nat) : Byts ((z.drop i).take n) := fun x hx => h x (List.mem_of_mem_drop (List.mem_of_mem_take hx))
end Go.Proofs.Ytcifbnldohmbnaa
