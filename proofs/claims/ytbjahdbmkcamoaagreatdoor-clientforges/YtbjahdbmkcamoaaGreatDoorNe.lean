import Derived.Test.YtbjahdbmkcamoaaGreatDoorZa2
import Derived.Test.YtbjahdbmkcamoaaGreatDoorVt9
import Derived.Lib.LazyBuf
import Derived.Shelf.Slices.Clone
namespace Go.Proofs.YtbjahdbmkcamoaaGreatDoor
set_option linter.unusedVariables false
set_option linter.unusedSimpArgs false
open Go.RowKit
attribute [local go_sem ↓] Go.wp_at_zero Go.wp_at_succ

def BK (w0 w : World) (L : List (Nat × List Value × Nat)) : Prop := Below w0.heap.size w0 w ∧ ∀ x, x ∈ L → w.heap[x.1]? = some (.cells x.2.1.toArray x.2.2 (0, 0))
theorem BK.nil (w : World) : BK w w [] := ⟨Below.refl _ _, fun x h => by cases h⟩
theorem BK.row {w0 w : World} {L : List (Nat × List Value × Nat)} (h : BK w0 w L) {b t : Nat} {zs : List Value} (hm : (b, zs, t) ∈ L) : w.heap[b]? = some (.cells zs.toArray t (0, 0)) := h.2 _ hm
theorem BK.lt {w0 w : World} {L : List (Nat × List Value × Nat)} (h : BK w0 w L) {b t : Nat} {zs : List Value} (hm : (b, zs, t) ∈ L) : b < w.heap.size := hlt (h.row hm)
theorem BK.call {w0 w w' : World} {L : List (Nat × List Value × Nat)} (h : BK w0 w L) (hb : Below w.heap.size w w') : BK w0 w' L :=
  ⟨h.1.trans (hb.mono h.1.size), fun x hx => hbel hb (h.2 x hx) (hlt (h.2 x hx))⟩
theorem BK.alloc {w0 w : World} {L : List (Nat × List Value × Nat)} (h : BK w0 w L) (zs : List Value) (t : Nat) : BK w0 (w.alloc (.cells zs.toArray t)) ((w.heap.size, zs, t) :: L) := by
  refine ⟨h.1.alloc h.1.size _, fun x hx => ?_⟩
  rcases List.mem_cons.1 hx with rfl | hx
  · exact hnew w _
  · exact hold (h.2 x hx)
theorem BK.other {w0 w : World} {L : List (Nat × List Value × Nat)} (h : BK w0 w L) (o : Obj) : BK w0 (w.alloc o) L := ⟨h.1.alloc h.1.size _, fun x hx => hold (h.2 x hx)⟩
theorem BK.drew {w0 w : World} {L : List (Nat × List Value × Nat)} (h : BK w0 w L) : BK w0 w.drew L := ⟨h.1.drew, h.2⟩
theorem BK.set {w0 w : World} {L : List (Nat × List Value × Nat)} {b t : Nat} {zs : List Value} (h : BK w0 w ((b, zs, t) :: L)) (hb : w0.heap.size ≤ b) (hL : ∀ x, x ∈ L → x.1 ≠ b) (ys : List Value) : BK w0 (w.setRow b ys.toArray) ((b, ys, t) :: L) := by
  refine ⟨below_setRow h.1 hb _, fun x hx => ?_⟩
  rcases List.mem_cons.1 hx with rfl | hx
  · exact setRow_heap _ _ _ _ _ _ (h.2 _ (.head _))
  · exact (setRow_other _ _ _ _ (hL x hx)).trans (h.2 x (.tail _ hx))
theorem BK.cell {w0 w : World} {L : List (Nat × List Value × Nat)} (h : BK w0 w L) {b t : Nat} {zs : List Value} (hm : (b, zs, t) ∈ L) {j : Nat} {v : Value} (hv : zs[j]? = some v) : w.cell? ⟨b, j, none⟩ = some v := by
  rw [cell_of_row _ _ _ _ _ _ (h.row hm)]; simpa using hv
theorem BK.rng {w0 w : World} {L : List (Nat × List Value × Nat)} (h : BK w0 w L) {b t o : Nat} {zs ps : List Value} (hm : (b, zs, t) ∈ L) (hp : ∀ j v, ps[j]? = some v → zs[o + j]? = some v) : w.rangeAt b o ps := fun j v hv => h.cell hm (hp j v hv)
theorem mid_at (A B C : List Value) (m j : Nat) (hm : A.length = m) (v : Value) (hv : B[j]? = some v) : (A ++ (B ++ C))[m + j]? = some v := by
  have hj := (List.getElem?_eq_some_iff.1 hv).1
  rw [List.getElem?_append_right (by omega), show m + j - A.length = j by omega, List.getElem?_append_left hj]; exact hv
/-- A block made and filled at once. -/
theorem wpList_new {P : Program} {t : TypeId} {Z : List Value} {m : Nat} (hz : ∀ (a : Act) (o : Oper) (w : World), o.op = .alloc t → (execOp a.eval o).run P w = .ok (.value (.pointer (some ⟨w.heap.size, 0, none⟩))) (w.alloc (.cells Z.toArray t))) (hZ : Z.length = m) (hi : (P.info? t).map (·.size) = some m)
    {ops : Array Oper} {rest : List Oper} {o1 o2 : Oper} {a : Act} {w : World} {Q : Exit → Act → World → Prop} (hg1 : o1.guard = none) (ho1 : o1.op = .alloc t) (hg2 : o2.guard = none) (x y : Operand) (ho2 : o2.op = .store t x y) (hd : o2.dst = none)
    (C : List Value) (hx : (a.put o1.dst (.pointer (some ⟨w.heap.size, 0, none⟩))).eval x = .pointer (some ⟨w.heap.size, 0, none⟩)) (hy : (a.put o1.dst (.pointer (some ⟨w.heap.size, 0, none⟩))).eval y = .agg C.toArray) (hC : C.length = m) (h1 : ∀ v ∈ C, v.oneCell' = true)
    (h : wpList P ops Q rest (a.put o1.dst (.pointer (some ⟨w.heap.size, 0, none⟩))) (w.alloc (.cells C.toArray t))) : wpList P ops Q (o1 :: o2 :: rest) a w := by
  refine wpList_plain hg1 fun K hK => ?_
  unfold Oper.wp
  rw [hz a o1 w ho1]
  refine hK _ _ ?_
  refine wpList_store_row hg2 t x y ho2 w.heap.size C.toArray hx hy t Z.toArray (hnew w _) (by rw [hi, List.size_toArray, hC]) (by rw [List.size_toArray, List.size_toArray, hZ, hC]) (all_oneCell_toArray h1) ?_
  rw [hd, setRow_alloc]
  exact h
theorem BK.sub {w0 w : World} {L L' : List (Nat × List Value × Nat)} (h : BK w0 w L) (hL : ∀ x, x ∈ L' → x ∈ L) : BK w0 w L' := ⟨h.1, fun x hx => h.2 x (hL x hx)⟩
theorem BK.set2 {w0 w : World} {L : List (Nat × List Value × Nat)} {b t : Nat} {zs : List Value} {x : Nat × List Value × Nat} (h : BK w0 w (x :: (b, zs, t) :: L)) (hb : w0.heap.size ≤ b) (hx : x.1 ≠ b) (hL : ∀ x, x ∈ L → x.1 ≠ b) (ys : List Value) : BK w0 (w.setRow b ys.toArray) (x :: (b, ys, t) :: L) := by
  refine ⟨below_setRow h.1 hb _, fun y hy => ?_⟩
  rcases List.mem_cons.1 hy with rfl | hy
  · exact (setRow_other _ _ _ _ hx).trans (h.2 _ (.head _))
  rcases List.mem_cons.1 hy with rfl | hy
  · exact setRow_heap _ _ _ _ _ _ (h.2 _ (.tail _ (.head _)))
  · exact (setRow_other _ _ _ _ (hL y hy)).trans (h.2 y (.tail _ (.tail _ hy)))
/-- A value built, guarded or not. -/
theorem wpList_built {P : Program} {ops : Array Oper} {rest : List Oper} {o : Oper} {a : Act} {w : World} {Q : Exit → Act → World → Prop} (hw : Region.wanted o (yielded ops a.tmps) = true) (t : TypeId) (parts : Array (Nat × Operand)) (ho : o.op = .build t parts) (ps : List (Nat × Value)) (hp : (parts.toList.map fun (i, x) => (i, a.eval x)) = ps) (cs : Array Value) (hb : P.built t ps = some cs)
    (h : wpList P ops Q rest (a.put o.dst (.agg cs)) w) : wpList P ops Q (o :: rest) a w := by
  have e : P.built t (parts.map fun (i, x) => (i, a.eval x)).toList = some cs := by rw [Array.toList_map, hp]; exact hb
  exact BigFrame.wpList_want hw fun _ hK => wp_build t parts ho (by rw [e]; rfl) (by rw [e]; exact hK _ _ h)
theorem yieldsIf_built {P : Program} {ops : Array Oper} {S : World → Prop} {o : Oper} {a : Act} (hw : Region.wanted o (yielded ops a.tmps) = true) (t : TypeId) (parts : Array (Nat × Operand)) (ho : o.op = .build t parts) (ps : List (Nat × Value)) (hp : (parts.toList.map fun (i, x) => (i, a.eval x)) = ps) (cs : Array Value) (hb : P.built t ps = some cs) : YieldsIf P ops S o (.agg cs) a :=
  .inl ⟨hw, fun w _ => by
    have e : P.built t (parts.map fun (i, x) => (i, a.eval x)).toList = some cs := by rw [Array.toList_map, hp]; exact hb
    unfold execOp
    simp only [ho, Sem.run_bind, run_build w t _ cs e, Result.andThen_ok, Sem.run_pure]⟩
theorem own_empty (w : World) : Own (w.alloc (.cells #[] 5)) w.heap.size (.slice (some ⟨w.heap.size, 0, none⟩) 0 0) [] :=
  ⟨rfl, Or.inr ⟨w.heap.size, 0, #[], rfl, Nat.le_refl _, hnew w _, Nat.le_refl _, by simp [maxLen], rfl, rfl⟩⟩
set_option maxRecDepth 100000 in
set_option maxHeartbeats 400000 in
theorem Clone_any (w : World) (zs : List Int) (sp : Option Addr) (cap : Nat) (hS : Src w sp cap zs) (hnil : sp = none → cap = 0) (hlen : zs.length ≤ 140737488351232) :
    Calls Tryz.prog 96 #[.slice sp zs.length cap] w fun e w' => ∃ v, e = .returned v ∧ Own w' w.heap.size v zs ∧ Below w.heap.size w w' := by
  have q22 : ∀ (w : World) (a : Option Addr) (n c n' c' : Nat), (binOp .eql 30 (.slice a n c) (.slice none n' c')).run Tryz.prog w = .ok (.bool a.isNone) w := fun w a n c n' c' => Lib.run_eql_slice_nil w _ _ a n c n' c' Tryz.underlying30
  cases sp with
  | none =>
    obtain rfl := hnil rfl
    have hz : zs = [] := List.eq_nil_of_length_eq_zero (by have := hS.1; omega)
    subst hz
    go_enter Tryz.func96, Tryz.ntmps96
    go_wp2
    go_ret
    exact ⟨_, rfl, Own.nil _ _, Below.refl _ _⟩
  | some a =>
    have hE := own_empty w
    have hS1 := hS.below ((Below.refl w.heap.size w).alloc (Nat.le_refl _) (.cells #[] 5)) (Nat.le_refl _)
    go_enter Tryz.func96, Tryz.ntmps96
    go_wp2_with (first | (at_builtin; refine wpList_append_wide rfl (.tmp 5) (.tmp 6) rfl w.heap.size _ [] zs rfl hE (some a) cap rfl (fun h => by cases h) hS1 (by simp; omega) (by simp) ?_; intro v2 w2 hO2 hg2 hd2))
    go_ret
    refine ⟨_, rfl, hO2, ?_⟩
    exact ((Below.refl _ w).alloc (Nat.le_refl _) _).trans (grown_keeps hg2 (fun k e => (hE.block k e).1) (by simp))
/-- append(own bytes, src...), as a step of a region that draws its order. -/
theorem step_appendB {w : World} {ops : Array Oper} {o : Oper} {a : Act} {K : Act → World → Prop} {Q : Exit → Act → World → Prop} {E : Prop} (hgd : o.guard = none) (s x : Operand)
    (ho : o.op = .call { callee := .builtin .append, args := #[s, x], argTypes := #[30, 30] })
    (base : Nat) (v : Value) (zs ys : List Int) (hs : a.eval s = v) (hown : Own w base v zs) (sp : Option Addr) (c : Nat) (hx : a.eval x = .slice sp ys.length c) (hnil : sp = none → c = 0) (hS : Src w sp c ys)
    (hlen : zs.length + ys.length ≤ 140737488351232) (hbase : base ≤ w.heap.size)
    (h : ∀ v' w', Own w' base v' (zs ++ ys) → w.grownBy w' v.ownBlock → (v'.ownBlock = v.ownBlock ∨ v'.ownBlock = some w.heap.size) → K (a.put o.dst v') w') :
    if Region.wanted o (yielded ops a.tmps) = true then Oper.wp Tryz.prog o a w K Q else E := by
  have hw : Region.wanted o (yielded ops a.tmps) = true := by simp [Region.wanted, hgd]
  rw [if_pos hw]
  obtain ⟨i5, hi5, hz5, hs5, hy5⟩ := Tryz.info5
  cases sp with
  | none =>
    obtain rfl := hnil rfl
    obtain rfl : ys = [] := List.eq_nil_of_length_eq_zero (by have := hS.1; omega)
    have hrun := run_append_owned_none (P := Tryz.prog) w base 30 o.type 5 i5 1 Tryz.underlying30 hi5 v _ _ hown
    unfold Oper.wp
    simp [execOp, ho, resolve, invoke, builtin, hs, hx, hrun, Result.andThen]
    exact h v w (by rw [List.append_nil]; exact hown) ⟨rfl, rfl, rfl, Nat.le_refl _, fun _ _ _ => rfl⟩ (Or.inl rfl)
  | some ad =>
    obtain ⟨v', w', hr, q1, q2, _, q4⟩ := run_append_own_at (P := Tryz.prog) w base 30 o.type 5 i5 (.int .u8 0) 1 1 Tryz.underlying30 hi5 hz5 hs5 hy5 rfl Nat.one_pos v zs.length (ints .u8 zs) hown ad ys.length c (ints .u8 ys) (by rw [ints_len]; omega) (src_news hS) (ints_one _ _) (by unfold maxLen; omega) (by omega) hbase
    unfold Oper.wp execOp
    simp only [ho, resolve, invoke, builtin, Sem.run_bind, Sem.run_pure, Result.andThen_ok, List.map_toArray, List.map_cons, List.map_nil, hs, hx, hr]
    exact h v' w' (Own.mk_append q1) q2 q4
theorem src_new (w : World) (ys : List Int) (t : TypeId) (fr : Nat × Nat) (hl : ys.length ≤ maxLen) : Src (w.alloc (.cells (ints .u8 ys).toArray t fr)) (some ⟨w.heap.size, 0, none⟩) ys.length ys :=
  ⟨Nat.le_refl _, hl, w.heap.size, 0, fun _ => by simp, fun _ => rfl, fun j hj => by rw [Nat.zero_add]; exact cell_ints (hnew w _) j hj⟩
theorem src_row' {w : World} {g t o : Nat} {zs : List Int} {cs : List Value} {fr : Nat × Nat} (h : w.heap[g]? = some (.cells cs.toArray t fr)) (hr : ∀ j, j < zs.length → cs[o + j]? = some (.int .u8 (zs.getD j 0))) (cap : Nat) (hc : zs.length ≤ cap) (hm : cap ≤ maxLen) : Src w (some ⟨g, o, none⟩) cap zs := by
  refine ⟨hc, hm, g, o, fun _ => hlt h, fun _ => rfl, ?_⟩
  intro j hj
  have e := hr j hj
  rw [cell_of_row w g (o + j) cs.toArray t fr h, List.getElem?_toArray]
  exact e
theorem own_lower {w : World} {b0 b1 : Nat} {v : Value} {zs : List Int} (h : Own w b1 v zs) (hb : b0 ≤ b1) : Own w b0 v zs := by
  refine ⟨h.1, ?_⟩
  rcases h.2 with h2 | ⟨g, cap, cur, rfl, hg, r⟩
  · exact Or.inl h2
  · exact Or.inr ⟨g, cap, cur, rfl, by omega, r⟩
theorem src_rng {w : World} {g o : Nat} {zs : List Int} (h : w.rangeAt g o (ints .u8 zs)) (hg : g < w.heap.size) (cap : Nat) (hc : zs.length ≤ cap) (hm : cap ≤ maxLen) : Src w (some ⟨g, o, none⟩) cap zs :=
  ⟨hc, hm, g, o, fun _ => hg, fun _ => rfl, fun j hj => h j _ (ints_get .u8 zs j hj)⟩
theorem src_take {w : World} {b o cap : Nat} {t : List Int} (hS : Src w (some ⟨b, o, none⟩) cap t) (n : Nat) (h : n ≤ t.length) (hn : 0 < n) : w.rangeAt b o (ints .u8 (t.take n)) := fun j v hv => by
  have hj := (List.getElem?_eq_some_iff.1 hv).1
  rw [ints_len] at hj
  have hj2 : j < n := by simp at hj; omega
  rw [ints_get .u8 _ j hj] at hv
  obtain ⟨_, _, b', o', _, h4, h5⟩ := hS
  have he := h4 (by omega)
  cases he
  have := h5 j (by omega)
  rw [this, ← hv, List.getD_eq_getElem?_getD, List.getD_eq_getElem?_getD, List.getElem?_take, if_pos hj2]
theorem Src.lt {w : World} {b o cap : Nat} {t : List Int} (hS : Src w (some ⟨b, o, none⟩) cap t) (h : 0 < t.length) : b < w.heap.size := by
  obtain ⟨_, _, b', o', h3, h4, _⟩ := hS
  have he := h4 h
  cases he
  exact h3 h
theorem Tryz.sizeA : (Tryz.prog.info? 23).map (·.size) = some 32 := by kernel_rfl
theorem Tryz.sizeD : (Tryz.prog.info? 28).map (·.size) = some 32 := by kernel_rfl
theorem Tryz.sizeP : (Tryz.prog.info? 52).map (·.size) = some 35 := by kernel_rfl
theorem Tryz.guardDg : Tryz.prog.eqGuardType Tryz.prog.depth 28 = false := by kernel_rfl
theorem Tryz.guardA : Tryz.prog.eqGuardType Tryz.prog.depth 23 = false := by kernel_rfl
/-! A proof in memory. -/
def pfC (p : Pf) (v s : Value) : List Value := [.bool p.f, v] ++ (ints .u8 p.bs ++ [s])
theorem pfC_len {p : Pf} (h : PfOk p) (v s : Value) : (pfC p v s).length = 35 := by simp [pfC, ints_len, h.bs]
theorem pfC_one (p : Pf) (v s : Value) (hv : v.oneCell' = true) (hs : s.oneCell' = true) : ∀ x ∈ pfC p v s, x.oneCell' = true := fun x hx => by
  simp only [pfC, List.mem_append, List.mem_cons, List.not_mem_nil, or_false] at hx
  rcases hx with (rfl | rfl) | hx | rfl
  · rfl
  · exact hv
  · exact ints_one _ _ x hx
  · exact hs
theorem pfC_f (p : Pf) (v s : Value) : (pfC p v s)[0]? = some (.bool p.f) := rfl
theorem pfC_v (p : Pf) (v s : Value) : (pfC p v s)[1]? = some v := rfl
theorem pfC_b (p : Pf) (v s : Value) (j : Nat) (x : Value) (hx : (ints .u8 p.bs)[j]? = some x) : (pfC p v s)[2 + j]? = some x := mid_at _ _ _ 2 j rfl x hx
theorem pfC_s {p : Pf} (h : PfOk p) (v s : Value) : (pfC p v s)[34]? = some s := by
  have := mid_at ([.bool p.f, v] ++ ints .u8 p.bs) [s] [] 34 0 (by simp [ints_len, h.bs]) s rfl
  rw [List.append_nil, List.append_assoc] at this; exact this
theorem allocPf (a : Act) (o : Oper) (w : World) (ho : o.op = .alloc 52) : (execOp a.eval o).run Tryz.prog w = .ok (.value (.pointer (some ⟨w.heap.size, 0, none⟩))) (w.alloc (.cells (pfC pf0 (.slice none 0 0) (.slice none 0 0)).toArray 52)) := by
  unfold execOp
  rw [ho]
  kernel_rfl
theorem allocA32 (a : Act) (o : Oper) (w : World) (ho : o.op = .alloc 23) : (execOp a.eval o).run Tryz.prog w = .ok (.value (.pointer (some ⟨w.heap.size, 0, none⟩))) (w.alloc (.cells (ints .u8 zB).toArray 23)) := by
  unfold execOp
  rw [ho]
  kernel_rfl
theorem allocDg (a : Act) (o : Oper) (w : World) (ho : o.op = .alloc 28) : (execOp a.eval o).run Tryz.prog w = .ok (.value (.pointer (some ⟨w.heap.size, 0, none⟩))) (w.alloc (.cells (ints .u8 zB).toArray 28)) := by
  unfold execOp
  rw [ho]
  kernel_rfl
theorem built_pf0 : Tryz.prog.built 52 [] = some (pfC pf0 (.slice none 0 0) (.slice none 0 0)).toArray := by kernel_rfl
theorem list32b {l : List Value} (h : l.length = 32) : ∃ x0 x1 x2 x3 x4 x5 x6 x7 x8 x9 x10 x11 x12 x13 x14 x15 x16 x17 x18 x19 x20 x21 x22 x23 x24 x25 x26 x27 x28 x29 x30 x31, l = [x0, x1, x2, x3, x4, x5, x6, x7, x8, x9, x10, x11, x12, x13, x14, x15, x16, x17, x18, x19, x20, x21, x22, x23, x24, x25, x26, x27, x28, x29, x30, x31] := by
  match l, h with
  | [x0, x1, x2, x3, x4, x5, x6, x7, x8, x9, x10, x11, x12, x13, x14, x15, x16, x17, x18, x19, x20, x21, x22, x23, x24, x25, x26, x27, x28, x29, x30, x31], _ => exact ⟨x0, x1, x2, x3, x4, x5, x6, x7, x8, x9, x10, x11, x12, x13, x14, x15, x16, x17, x18, x19, x20, x21, x22, x23, x24, x25, x26, x27, x28, x29, x30, x31, rfl⟩
theorem slice_dig (ks : List Value) (hk : ks.length = 32) (w : World) :
    (Instr.buildSlice 48 1 #[(0, .agg ks.toArray)]).run Tryz.prog w = .ok (.slice (some ⟨w.heap.size, 0, none⟩) 1 1) (w.alloc (.cells ks.toArray 28)) := by
  obtain ⟨x0, x1, x2, x3, x4, x5, x6, x7, x8, x9, x10, x11, x12, x13, x14, x15, x16, x17, x18, x19, x20, x21, x22, x23, x24, x25, x26, x27, x28, x29, x30, x31, rfl⟩ := list32b hk
  kernel_rfl
theorem wpList_sliceD {w : World} {ops : Array Oper} {rest : List Oper} {o : Oper} {a : Act} {Q : Exit → Act → World → Prop} (hg : o.guard = none) (x : Operand) (ho : o.op = .buildSlice 48 1 #[(0, x)])
    (ks : List Value) (hk : ks.length = 32) (hx : a.eval x = .agg ks.toArray) (h : wpList Tryz.prog ops Q rest (a.put o.dst (.slice (some ⟨w.heap.size, 0, none⟩) 1 1)) (w.alloc (.cells ks.toArray 28))) :
    wpList Tryz.prog ops Q (o :: rest) a w := by
  refine wpList_plain hg fun K hK => ?_
  unfold Oper.wp execOp
  simp only [ho, List.map_toArray, List.map_cons, List.map_nil, hx, Sem.run_bind, slice_dig ks hk w, Result.andThen_ok, Sem.run_pure]
  exact hK _ _ h
theorem infoDm : (Tryz.prog.info? 28).map (fun i => (i.zero.map fun z => z.cells.size, i.size, i.bytes)) = some (some 32, 32, 32) := by kernel_rfl
theorem infoD : ∃ i z, Tryz.prog.info? 28 = some i ∧ i.zero = some z ∧ z.cells.size = 32 ∧ i.size = 32 ∧ i.bytes = 32 := by
  have h := infoDm
  cases hq : Tryz.prog.info? 28 with
  | none => rw [hq] at h; cases h
  | some i =>
    rw [hq] at h
    simp only [Option.map_some, Option.some.injEq, Prod.mk.injEq] at h
    obtain ⟨h1, h2, h3⟩ := h
    cases hz : i.zero with
    | none => rw [hz] at h1; cases h1
    | some z =>
      rw [hz] at h1
      simp only [Option.map_some, Option.some.injEq] at h1
      exact ⟨i, z, rfl, hz, h1, h2, h3⟩
theorem ownsRow_heap {w w1 : World} {base t k n : Nat} {v : Value} {cs : List Value} (h : w.ownsRow base t k v n cs) (hk : ∀ i, v.ownBlock = some i → w1.heap[i]? = w.heap[i]?) : w1.ownsRow base t k v n cs := by
  refine ⟨h.1, ?_⟩
  rcases h.2 with h2 | ⟨g, cap, cur, rfl, hg, hh, r⟩
  · exact Or.inl h2
  · exact Or.inr ⟨g, cap, cur, rfl, hg, (hk g rfl).trans hh, r⟩
theorem ownsRow_block {w : World} {base t k n : Nat} {v : Value} {cs : List Value} (h : w.ownsRow base t k v n cs) : ∀ i, v.ownBlock = some i → base ≤ i ∧ ∃ cur, w.heap[i]? = some (.cells cur t (0, 0)) := by
  intro i hi
  rcases h.2 with ⟨rfl, _⟩ | ⟨g, cap, cur, rfl, hg, hh, r⟩
  · simp [Value.ownBlock] at hi
  · simp [Value.ownBlock] at hi; subst hi; exact ⟨hg, cur, hh⟩
theorem ownsRow_form {w : World} {base t k n : Nat} {v : Value} {cs : List Value} (h : w.ownsRow base t k v n cs) : ∃ sp cap, v = .slice sp n cap := by
  rcases h.2 with ⟨rfl, rfl⟩ | ⟨g, cap, cur, rfl, _⟩
  · exact ⟨none, 0, rfl⟩
  · exact ⟨_, _, rfl⟩
theorem built_pf' (f : Bool) (s1 s2 : Option Addr) (n1 c1 n2 c2 : Nat) (ks : List Value) (hk : ks.length = 32) : Tryz.prog.built 52 [(0, .bool f), (1, .slice s1 n1 c1), (2, .agg ks.toArray), (3, .slice s2 n2 c2)] = some ([Value.bool f, .slice s1 n1 c1] ++ (ks ++ [Value.slice s2 n2 c2])).toArray := by
  obtain ⟨x0, x1, x2, x3, x4, x5, x6, x7, x8, x9, x10, x11, x12, x13, x14, x15, x16, x17, x18, x19, x20, x21, x22, x23, x24, x25, x26, x27, x28, x29, x30, x31, rfl⟩ := list32b hk
  kernel_rfl
theorem built_pf3' (f : Bool) (s1 : Option Addr) (n1 c1 : Nat) (ks : List Value) (hk : ks.length = 32) : Tryz.prog.built 52 [(0, .bool f), (1, .slice s1 n1 c1), (2, .agg ks.toArray)] = some ([Value.bool f, .slice s1 n1 c1] ++ (ks ++ [Value.slice none 0 0])).toArray := by
  obtain ⟨x0, x1, x2, x3, x4, x5, x6, x7, x8, x9, x10, x11, x12, x13, x14, x15, x16, x17, x18, x19, x20, x21, x22, x23, x24, x25, x26, x27, x28, x29, x30, x31, rfl⟩ := list32b hk
  kernel_rfl
theorem built_pf (p : Pf) (ok : PfOk p) (s1 s2 : Option Addr) (n1 c1 n2 c2 : Nat) : Tryz.prog.built 52 [(0, .bool p.f), (1, .slice s1 n1 c1), (2, .agg (ints .u8 p.bs).toArray), (3, .slice s2 n2 c2)] = some (pfC p (.slice s1 n1 c1) (.slice s2 n2 c2)).toArray := built_pf' _ _ _ _ _ _ _ _ (by rw [ints_len, ok.bs])
theorem built_pf3 (p : Pf) (ok : PfOk p) (s1 : Option Addr) (n1 c1 : Nat) : Tryz.prog.built 52 [(0, .bool p.f), (1, .slice s1 n1 c1), (2, .agg (ints .u8 p.bs).toArray)] = some (pfC p (.slice s1 n1 c1) (.slice none 0 0)).toArray := built_pf3' _ _ _ _ _ (by rw [ints_len, ok.bs])
/-! A slice of digests. -/
def SrcD (w : World) (sp : Option Addr) (cap : Nat) (ss : List (List Int)) : Prop :=
  ss.length ≤ cap ∧ cap ≤ maxLen ∧ (∀ d ∈ ss, d.length = 32) ∧ ∃ b o, (0 < ss.length → b < w.heap.size) ∧ (0 < ss.length → sp = some ⟨b, o, none⟩) ∧ ∀ j, j < ss.length → w.rangeAt b (o + j * 32) (ints .u8 (ss.getD j []))
theorem SrcD.below {w w1 : World} {B : Nat} {sp : Option Addr} {cap : Nat} {ss : List (List Int)} (h : SrcD w sp cap ss) (hb : Below B w w1) (hB : w.heap.size ≤ B) : SrcD w1 sp cap ss := by
  obtain ⟨h1, h2, h0, b, o, h3, h4, h5⟩ := h
  exact ⟨h1, h2, h0, b, o, fun h => Nat.lt_of_lt_of_le (h3 h) hb.size, h4, fun j hj => rng_below (h5 j hj) hb (by have := h3 (by omega); omega)⟩
theorem SrcD.empty (w : World) (sp : Option Addr) (cap : Nat) (h : cap ≤ maxLen) : SrcD w sp cap [] := ⟨by simp, h, (fun d h => by cases h), 0, 0, fun h => by simp at h, fun h => by simp at h, fun j hj => by simp at hj⟩
theorem SrcD.nil (w : World) : SrcD w none 0 [] := SrcD.empty w none 0 (by simp [maxLen])
theorem flat_get : ∀ (ss : List (List Int)) (i j : Nat), (∀ d ∈ ss, d.length = 32) → i < ss.length → j < 32 → (ints .u8 ss.flatten)[i * 32 + j]? = (ints .u8 (ss.getD i []))[j]?
  | d :: ss, 0, j, h, hi, hj => by
    have hd := h d (.head _)
    simp only [List.flatten_cons, ints, List.map_append, Nat.zero_mul, Nat.zero_add]
    rw [List.getElem?_append_left (by simp; omega)]
    rfl
  | d :: ss, i + 1, j, h, hi, hj => by
    have hd := h d (.head _)
    have ih := flat_get ss i j (fun x hx => h x (.tail _ hx)) (by simpa using hi) hj
    simp only [List.flatten_cons, ints, List.map_append]
    rw [List.getElem?_append_right (by simp; omega), List.length_map, show (i + 1) * 32 + j - d.length = i * 32 + j by omega]
    exact ih
/-- A list of digests that the call made itself. -/
def OwnD (w : World) (base : Nat) (v : Value) (ss : List (List Int)) : Prop := (∀ d ∈ ss, d.length = 32) ∧ w.ownsRow base 28 32 v ss.length (ints .u8 ss.flatten)
theorem OwnD.nil (w : World) (base : Nat) : OwnD w base (.slice none 0 0) [] := ⟨(fun d h => by cases h), rfl, Or.inl ⟨rfl, rfl⟩⟩
theorem OwnD.block {w : World} {base : Nat} {v : Value} {ss : List (List Int)} (h : OwnD w base v ss) : ∀ k, v.ownBlock = some k → base ≤ k ∧ k < w.heap.size := fun k hk => by
  obtain ⟨h1, cur, h2⟩ := ownsRow_block h.2 k hk
  exact ⟨h1, hlt h2⟩
theorem OwnD.of_heap {w w1 : World} {base : Nat} {v : Value} {ss : List (List Int)} (h : OwnD w base v ss) (hk : ∀ k, v.ownBlock = some k → w1.heap[k]? = w.heap[k]?) : OwnD w1 base v ss := ⟨h.1, ownsRow_heap h.2 hk⟩
theorem OwnD.below {w w1 : World} {base B : Nat} {v : Value} {ss : List (List Int)} (h : OwnD w base v ss) (hb : Below B w w1) (hB : w.heap.size ≤ B) : OwnD w1 base v ss :=
  h.of_heap fun k hv => hb.block k (by have := (h.block k hv).2; omega)
theorem OwnD.form {w : World} {base : Nat} {v : Value} {ss : List (List Int)} (h : OwnD w base v ss) : ∃ sp cap, v = .slice sp ss.length cap ∧ SrcD w sp cap ss ∧ (sp = none → cap = 0) := by
  obtain ⟨h0, h1, ⟨rfl, hn⟩ | ⟨g, cap, cur, rfl, hg, hh, hc, hm, hs, ht⟩⟩ := h
  · have : ss = [] := List.eq_nil_of_length_eq_zero hn
    subst this
    exact ⟨none, 0, rfl, SrcD.nil w, fun _ => rfl⟩
  · refine ⟨some ⟨g, 0, none⟩, cap, rfl, ⟨hc, hm, h0, g, 0, fun _ => hlt hh, fun _ => rfl, fun i hi j u hu => ?_⟩, (fun h => by cases h)⟩
    have hd : (ss.getD i []).length = 32 := h0 _ (by rw [List.getD_eq_getElem?_getD, List.getElem?_eq_getElem hi]; exact List.getElem_mem _)
    have hj : j < 32 := by have := (List.getElem?_eq_some_iff.1 hu).1; rwa [ints_len, hd] at this
    have h3 := flat_get ss i j h0 hi hj
    rw [hu, ← ht, List.getElem?_take] at h3
    split at h3
    · rw [Nat.zero_add, cell_of_row _ _ _ _ _ _ hh]
      simpa using h3
    · cases h3
/-- append(own list of digests, one more). -/
theorem wpList_pushD {w : World} {ops : Array Oper} {rest : List Oper} {o : Oper} {a : Act} {Q : Exit → Act → World → Prop} (hgd : o.guard = none) (s x : Operand)
    (ho : o.op = .call { callee := .builtin .append, args := #[s, x], argTypes := #[48, 48] })
    (base : Nat) (v : Value) (ss : List (List Int)) (d : List Int) (hs : a.eval s = v) (hown : OwnD w base v ss) (hx : a.eval x = .slice (some ⟨w.heap.size, 0, none⟩) 1 1) (hl : d.length = 32)
    (hlen : ss.length + 1 ≤ 4398046511104) (hbase : base ≤ w.heap.size) (t : TypeId) (fr : Nat × Nat)
    (h : ∀ v' w', OwnD w' base v' (ss ++ [d]) → Below base w w' → wpList Tryz.prog ops Q rest (a.put o.dst v') w') :
    wpList Tryz.prog ops Q (o :: rest) a (w.alloc (.cells (ints .u8 d).toArray t fr)) := by
  obtain ⟨i5, z, hi5, hz5, hc5, hs5, hy5⟩ := infoD
  have hown' : (w.alloc (.cells (ints .u8 d).toArray t fr)).ownsRow base 28 32 v ss.length (ints .u8 ss.flatten) := ownsRow_heap hown.2 fun k hk => by
    obtain ⟨_, cur, hh⟩ := ownsRow_block hown.2 k hk
    rw [hh]; exact hold hh
  refine wpList_append_own_at _ hgd s x 48 ho base 28 i5 z 32 32 Tryz.underlying48 hi5 hz5 hs5 hy5 hc5 (by decide) v ss.length _ hs hown' ⟨w.heap.size, 0, none⟩ 1 1 (ints .u8 d) hx (by rw [ints_len]; omega) ?_ (ints_one _ _) (by unfold maxLen; omega) (by omega) (by simp; omega) ?_
  · intro j u hu
    rw [Addr.add_mid, Nat.zero_add, cell_of_row _ _ _ _ _ _ (hnew w _)]
    simpa using hu
  · intro v' w' q1 q2 _ q4
    refine h v' w' ⟨fun x hx => ?_, ?_⟩ (((Below.refl base w).alloc hbase _).trans (grown_keeps q2 (fun k hk => (hown.block k hk).1) (by simp; omega)))
    · rcases List.mem_append.1 hx with hx | hx
      · exact hown.1 x hx
      · rw [List.mem_singleton.1 hx]; exact hl
    · rw [List.length_append, List.length_singleton, List.flatten_append, List.flatten_singleton, show ints .u8 (ss.flatten ++ d) = ints .u8 ss.flatten ++ ints .u8 d by simp [ints]]
      exact q1
theorem own_lowerD {w : World} {b0 b1 : Nat} {v : Value} {ss : List (List Int)} (h : OwnD w b1 v ss) (hb : b0 ≤ b1) : OwnD w b0 v ss := by
  refine ⟨h.1, h.2.1, ?_⟩
  rcases h.2.2 with h2 | ⟨g, cap, cur, rfl, hg, r⟩
  · exact Or.inl h2
  · exact Or.inr ⟨g, cap, cur, rfl, by omega, r⟩
theorem SrcD.at {w : World} {sp : Option Addr} {cap : Nat} {ss : List (List Int)} (h : SrcD w sp cap ss) (hp : 0 < ss.length) : ∃ b o, sp = some ⟨b, o, none⟩ ∧ b < w.heap.size ∧ ∀ j, j < ss.length → w.rangeAt b (o + j * 32) (ints .u8 (ss.getD j [])) := by
  obtain ⟨h1, h2, h0, b, o, h3, h4, h5⟩ := h
  exact ⟨b, o, h4 hp, h3 hp, h5⟩
theorem SrcD.dlen {w : World} {sp : Option Addr} {cap : Nat} {ss : List (List Int)} (h : SrcD w sp cap ss) (j : Nat) (hj : j < ss.length) : (ss.getD j []).length = 32 := h.2.2.1 _ (by rw [List.getD_eq_getElem?_getD, List.getElem?_eq_getElem hj]; exact List.getElem_mem _)
theorem idxA (bs : List Int) (k : Nat) (h : k < bs.length) (hl : bs.length = 32) (w : World) : (Instr.index 23 (.agg (ints .u8 bs).toArray) (.int .i64 k)).run Tryz.prog w = .ok (.int .u8 (bs.getD k 0)) w := by
  have hu := Tryz.underlying23
  have hs := Tryz.size5
  unfold Instr.index
  have hz : (sizeOf 5).run Tryz.prog w = .ok 1 w := by kernel_rfl
  simp only [asIntOf, Sem.run_bind, Sem.run_pure, Result.andThen_ok, run_underlying hu w]
  rw [if_pos (by constructor <;> omega)]
  simp only [Sem.run_bind, hz, Result.andThen_ok, Nat.mul_one, Int.toNat_natCast]
  exact part_int Tryz.underlying5 _ _ _ (by rw [List.getElem?_toArray]; exact ints_get .u8 bs k h) w
end Go.Proofs.YtbjahdbmkcamoaaGreatDoor
namespace Go.Proofs.YtbjahdbmkcamoaaGreatDoor
set_option linter.unusedVariables false
set_option linter.unusedSimpArgs false
open Go.RowKit
attribute [local go_sem ↓] Go.wp_at_zero Go.wp_at_succ

theorem wpList_tab {ops : Array Oper} {rest : List Oper} {o : Oper} {a : Act} {w : World} {Q : Exit → Act → World → Prop} (hg : o.guard = none) (s : ByteArray) (x : Operand) (ho : o.op = .index 9 (.const (.string s)) x)
    (n : Nat) (hx : a.eval x = .int .u8 n) (hn : n < 256) (hs : ((List.range 256).all fun i => (s[i]?).map (·.toNat) == some (one8 (i : Int))) = true) (h : wpList Tryz.prog ops Q rest (a.put o.dst (.int .u8 (one8 (n : Int)))) w) :
    wpList Tryz.prog ops Q (o :: rest) a w := by
  have h1 := List.all_eq_true.1 hs n (List.mem_range.2 hn)
  simp only [beq_iff_eq] at h1
  cases hb : s[n]? with
  | none => rw [hb] at h1; cases h1
  | some b =>
    rw [hb] at h1
    simp only [Option.map_some, Option.some.injEq] at h1
    have hr : (Instr.index 9 (.string s) (.int .u8 n)).run Tryz.prog w = .ok (.int .u8 (one8 (n : Int))) w := by
      unfold Instr.index
      have hu : Tryz.prog.underlying 9 = some .string := by kernel_rfl
      simp only [asIntOf, Sem.run_bind, Sem.run_pure, Result.andThen_ok, run_underlying hu w]
      rw [if_pos (by omega), Int.toNat_natCast, hb, ← h1]
      rfl
    refine wpList_plain hg fun K hK => ?_
    unfold Oper.wp execOp
    have e : a.eval (.const (.string s)) = .string s := rfl
    simp only [ho, e, hx, Sem.run_bind, hr, Result.andThen_ok, Sem.run_pure]
    exact hK _ _ h
set_option maxRecDepth 100000 in
set_option maxHeartbeats 2000000 in
theorem onesCount_any (w : World) (b : Int) (h : 0 ≤ b ∧ b < 256) :
    Calls Tryz.prog 101 #[.int .u8 b] w fun e w' => e = .returned (.int .i64 (one8 b)) ∧ Below w.heap.size w w' := by
  obtain ⟨n, rfl⟩ := Int.eq_ofNat_of_zero_le h.1
  have hn : n < 256 := by omega
  have h8 := one8_le (n : Int)
  go_enter Tryz.func101, Tryz.ntmps101
  go_wp2_with (first | refine wpList_tab rfl _ _ rfl n rfl hn (by decide +kernel) ?_)
  go_ret
  exact ⟨rfl, Below.refl _ _⟩
set_option maxRecDepth 100000 in
set_option maxHeartbeats 2000000 in
theorem countOf_any (w : World) (bs : List Int) (hl : bs.length = 32) (hy : Bys bs) :
    Calls Tryz.prog 97 #[.agg (ints .u8 bs).toArray] w fun e w' => e = .returned (.int .i64 (onesN bs)) ∧ Below w.heap.size w w' := by
  have r0 := hnew w (.cells (ints .u8 bs).toArray 23)
  have hB := (Below.refl w.heap.size w).alloc (Nat.le_refl _) (.cells (ints .u8 bs).toArray 23)
  have LS := hid (show (Tryz.prog.info? 23).map (·.size) = some (ints .u8 bs).toArray.size by rw [Tryz.sizeA, List.size_toArray, ints_len, hl])
  have IX := hid (fun k (h : k < bs.length) => idxA bs k h hl)
  have ST := hid (fun k (h : k < bs.length) => onesN_take bs k h)
  have BD := hid (fun k => onesN_le (bs.take k))
  have TF := hid (show onesN (bs.take 32) = onesN bs by rw [List.take_of_length_le (by omega)])
  have BY := hid (fun k (h : k < bs.length) => onesCount_any (b := bs.getD k 0) (h := hy.at k h))
  generalize ints .u8 bs = C at *
  go_enter Tryz.func97, Tryz.ntmps97
  go_wp2_with (first | refine wpList_load_row rfl 23 _ rfl _ rfl 23 _ _ _ r0 Tryz.underlying23 rfl LS.out ?_)
  generalize w.alloc (.cells C.toArray 23) = w1 at *
  go_loopw [3, 7] (fun n i wr => ∃ k : Nat, k ≤ 32 ∧ i = .int .i64 k ∧ n = .int .i64 (onesN (bs.take k)) ∧ Below w.heap.size w wr) (fun _ i _ => 32 - (intOf i).toNat)
  case atStart => exact ⟨0, by omega, rfl, rfl, hB⟩
  case round =>
    obtain ⟨k, hk, rfl, rfl, hBr⟩ := hrel
    by_cases hlt : k < 32
    · have i1 : (k : Int) < 32 := by omega
      have hkl : k < bs.length := by omega
      have ix := IX.out k hkl
      have st := hid (ST.out k hkl)
      have KO := hid (fun w1 => BY.out k hkl w1)
      have b1 : (onesN (bs.take k) : Int) ≤ 256 := by have := BD.out k; rw [List.length_take] at this; omega
      have b2 : (one8 (bs.getD k 0) : Int) ≤ 8 := by have := one8_le (bs.getD k 0); omega
      generalize hO : onesN (bs.take k) = O at *
      generalize one8 (bs.getD k 0) = E at *
      generalize bs.getD k 0 = x at *
      clear hO
      go_wp2_with fail
      refine (KO.out _).mono ?_
      rintro e w2 ⟨rfl, hb2⟩
      go_wp2
      go_roundw
      case rel => exact ⟨k + 1, by omega, by go_num, (by rw [st.out]; go_num), hBr.trans (hb2.mono hBr.size)⟩
      case measure => simp [intOf]; omega
    · obtain rfl : k = 32 := by omega
      rw [TF.out]
      go_wp2
      go_ret
      exact ⟨rfl, hBr⟩
end Go.Proofs.YtbjahdbmkcamoaaGreatDoor
namespace Go.Proofs.YtbjahdbmkcamoaaGreatDoor
set_option linter.unusedVariables false
set_option linter.unusedSimpArgs false
open Go.RowKit
attribute [local go_sem ↓] Go.wp_at_zero Go.wp_at_succ

theorem flat_take (ss : List (List Int)) (k : Nat) (h : k < ss.length) : (ss.take (k + 1)).flatten = (ss.take k).flatten ++ ss.getD k [] := by
  rw [List.take_succ_eq_append_getElem h, List.flatten_append, List.flatten_singleton, List.getD_eq_getElem?_getD, List.getElem?_eq_getElem h]; rfl
theorem flat_take_len (ss : List (List Int)) (k : Nat) (h : ∀ d ∈ ss, d.length = 32) : ((ss.take k).flatten).length ≤ 32 * ss.length := by
  rw [flat_len32 _ (fun d hd => h d (List.mem_of_mem_take hd)), List.length_take]; omega
end Go.Proofs.YtbjahdbmkcamoaaGreatDoor
