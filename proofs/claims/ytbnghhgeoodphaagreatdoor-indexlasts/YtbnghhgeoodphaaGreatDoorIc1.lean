import Derived.Test.YtbnghhgeoodphaaGreatDoorIb1
namespace Go.Proofs.YtbnghhgeoodphaaGreatDoor
set_option maxRecDepth 100000
set_option maxHeartbeats 40000000
set_option linter.unusedVariables false
set_option linter.unusedSimpArgs false
set_option linter.unnecessarySimpa false
open Go.RowKit
open Go.Proofs.YtbnghhgeoodphaaGreatDoor.Ca (Ct ct0 ctC argV AS)
attribute [local go_sem ↓] Go.wp_at_zero Go.wp_at_succ
theorem way_make (w : World) (st : Nat) (q : Int) (r : Rc) (t : Int) : Calls Tryz.prog 75 #[.pointer (some ⟨st, 0, none⟩), .agg (spC q r).toArray, .int .i64 t] w fun e w' => e = .returned (.func (.func 101) #[] #[.pointer (some ⟨w.heap.size + 1, 0, none⟩), .pointer (some ⟨w.heap.size + 2, 0, none⟩), .pointer (some ⟨w.heap.size, 0, none⟩)]) /\ w' = ((w.alloc (.cells #[.pointer (some ⟨st, 0, none⟩)] 27)).alloc (.cells (spC q r).toArray 91)).alloc (.cells #[.int .i64 t] 3) := by
 generalize spC q r = C at *
 go_enter Tryz.func75, Tryz.ntmps75
 go_wp2
 go_ret
 exact ⟨rfl, rfl⟩
abbrev Wy := Int × Rc × Int
def fxR (r : Rc) : Rc := if r.sm.length = 32 then r else rc0
theorem fxR_ok {r : Rc} (h : RcOk r) : fxR r = r := if_pos h.sm
theorem fxR_is (r : Rc) : RcOk (fxR r) := by
 unfold fxR
 split
 · rename_i h; exact ⟨h⟩
 · exact rc0_ok
def wyC (x : Wy) : Array Value := #[.agg (spC x.1 (fxR x.2.1)).toArray, .int .i64 x.2.2]
inductive Way (P : List (Int × List Int)) (t : Int) : Int -> Rc -> List Wy -> Prop
 | stop {q : Int} {r : Rc} (h : ¬ t < numR r.v r.f) : Way P t q r [(q, r, 0)]
 | bad {q : Int} {r : Rc} (h : t < numR r.v r.f) (hf : followP P r t = none) : Way P t q r [(q, r, 0), (0, rc0, 4)]
 | go {q : Int} {r : Rc} {x : Int × Rc} {l : List Wy} (h : t < numR r.v r.f) (hf : followP P r t = some x) (hl : Way P t x.1 x.2 l) : Way P t q r ((q, r, 0) :: l)
def RestY (P : List (Int × List Int)) (t q : Int) (r : Rc) (e : Int) (Y : List Wy) : Prop := (e = 0 /\ Way P t q r Y) \/ (e = 4 /\ q = 0 /\ r = rc0 /\ Y = [(0, rc0, 4)])
theorem opIn_val {n : Nat} {P : Program} {ops : Array Oper} {Q : Exit -> Act -> World -> Prop} {o : Oper} {a : Act} {w : World} {K : Act -> World -> Prop} {E : Prop} {v : Value} (hw : Region.wanted o (yielded ops a.tmps) = true) (hv : (execOp a.eval o).run P w = .ok (.value v) w) (h : K (a.put o.dst v) w) :
   if Region.wanted o (yielded ops a.tmps) = true then Oper.wpIn Fence.wide n P o a w K Q else E := by
 rw [if_pos hw]
 refine ⟨fun _ _ => trivial, ?_⟩
 show Oper.uponIn _ _ _ _ _ _ _ ((Oper.semAt none a.eval o).run P w)
 rw [Oper.semAt_none, hv]
 exact h
theorem opIn_call {n : Nat} {P : Program} {ops : Array Oper} {Q : Exit -> Act -> World -> Prop} {o : Oper} {a : Act} {w : World} {K : Act -> World -> Prop} {E : Prop} {f : FuncId} {args : Array Value} (hw : Region.wanted o (yielded ops a.tmps) = true) (hv : (execOp a.eval o).run P w = .ok (.enter f args) w) (h : Calls P f args w fun e w' => ∃ v, e = .returned v /\ K (a.put o.dst v) w') :
   if Region.wanted o (yielded ops a.tmps) = true then Oper.wpIn Fence.wide n P o a w K Q else E := by
 rw [if_pos hw]
 refine ⟨fun _ _ => trivial, ?_⟩
 show Oper.uponIn _ _ _ _ _ _ _ ((Oper.semAt none a.eval o).run P w)
 rw [Oper.semAt_none, hv, Oper.uponIn_enter]
 refine ⟨fun z => (by cases z), callsIn_wide.2 (h.mono ?_)⟩
 rintro e w' ⟨v, rfl, hk⟩
 exact hk
theorem opIn_round {n : Nat} {P : Program} {ops : Array Oper} {Q : Exit -> Act -> World -> Prop} {o : Oper} {a : Act} {w : World} {K : Act -> World -> Prop} {E : Prop} {l : Nat} {args : Array Value} (hw : Region.wanted o (yielded ops a.tmps) = true) (hv : (execOp a.eval o).run P w = (Instr.yield l args).run P w) {R : Ending -> World -> Prop} (hy : YieldAt Fence.wide (n - 1) P l args w R) (h : ∀ e w', R e w' -> ∃ v, e = .returned v /\ K (a.put o.dst v) w') :
   if Region.wanted o (yielded ops a.tmps) = true then Oper.wpIn Fence.wide n P o a w K Q else E := by
 obtain ⟨fn, tm, asg, bd, e1, e2⟩ := hy
 rw [if_pos hw]
 refine ⟨fun _ _ => trivial, ?_⟩
 show Oper.uponIn _ _ _ _ _ _ _ ((Oper.semAt none a.eval o).run P w)
 rw [Oper.semAt_none, hv, e1, Oper.uponIn_round]
 refine ⟨fun z => (by cases z), e2.mono ?_⟩
 intro e w' hr
 obtain ⟨v, rfl, hk⟩ := h e w' hr
 exact hk
theorem exec_yield {P : Program} {o : Oper} {a : Act} {w : World} {x y z : Operand} {t : TypeId × TypeId} (ho : o.op = .call { callee := .value x, args := #[y, z], argTypes := #[t.1, t.2] }) {l : Nat} (hx : a.eval x = .func (.yield l) #[] #[]) : (execOp a.eval o).run P w = (Instr.yield l #[a.eval y, a.eval z]).run P w := by
 unfold execOp
 simp only [ho]
 simp only [resolve, hx]
 simp [go_sem]
 try rfl
theorem exec_load_row {P : Program} {o : Oper} {a : Act} {w : World} (ty : TypeId) (x : Operand) (ho : o.op = .load ty x) (g : Nat) (hx : a.eval x = .pointer (some ⟨g, 0, none⟩)) (t : TypeId) (cs : Array Value) (d : TypeDesc) (hg : w.heap[g]? = some (.cells cs t (0, 0))) (hu : P.underlying ty = some d) (hd : (match d with | .struct _ | .array _ _ => true | _ => false) = true) (hi : (P.info? ty).map (·.size) = some cs.size) :
   (execOp a.eval o).run P w = .ok (.value (.agg cs)) w := by
 unfold execOp
 simp only [ho, hx, Instr.loadAt, Instr.sureAddr, Sem.run_bind, Sem.run_pure, Result.andThen_ok, run_loadVar_row w g t ty cs (0, 0) d hg hu hd hi]
theorem opIn_skip {n : Nat} {P : Program} {ops : Array Oper} {Q : Exit -> Act -> World -> Prop} {o : Oper} {a : Act} {w : World} {K : Act -> World -> Prop} (hw : Region.wanted o (yielded ops a.tmps) = false) (h : K (a.put o.dst undef) w) :
   if Region.wanted o (yielded ops a.tmps) = true then Oper.wpIn Fence.wide n P o a w K Q else (∀ f, o.about P w a.eval = some f -> Fence.wide.fn f) /\ K (a.put o.dst undef) w := by
 rw [if_neg (by rw [hw]; decide)]
 exact ⟨fun _ _ => trivial, h⟩
theorem way_reg4 (n l g4 g5 g3 G : Nat) (t : Int) (q : Int) (r : Rc) (ok : RcOk r) (y4 y7 y8 y9 y10 y11 y12 y13 y14 y15 y16 y17 y18 y19 y20 y21 y22 y23 y24 y25 y26 y27 y28 : Value) (W : World) (Q : Exit -> Act -> World -> Prop) (hr : W.heap[G]? = some (.cells (spC q r).toArray 91 (0, 0))) (R : Ending -> World -> Prop) (hy : YieldAt Fence.wide (n - 1) Tryz.prog l (wyC (q, r, 4)) W.drew R)
   (hR : ∀ e W1, R e W1 -> e = .returned (.bool true) \/ e = .returned (.bool false))
   (h0 : ∀ W1, R (.returned (.bool false)) W1 -> ∀ (z8 z9 z10 z11 z12 z13 z14 z15 z16 z17 z18 z19 z20 : Value), Q .normal { tmps := #[.func (.yield l) #[] #[], .pointer (some ⟨g4, 0, none⟩), .pointer (some ⟨g5, 0, none⟩), .pointer (some ⟨g3, 0, none⟩), y4, .pointer (some ⟨G, 0, none⟩), .int .i64 4, y7, z8, z9, z10, z11, z12, z13, z14, z15, z16, z17, z18, z19, z20, .bool false, y22, y23, y24, y25, y26, y27, y28], defers := [] } W1)
   (h1 : ∀ W1, R (.returned (.bool true)) W1 -> ∀ (z8 z9 z10 z11 z12 z13 z14 z15 z16 z17 z18 z19 z20 : Value), Q .normal { tmps := #[.func (.yield l) #[] #[], .pointer (some ⟨g4, 0, none⟩), .pointer (some ⟨g5, 0, none⟩), .pointer (some ⟨g3, 0, none⟩), y4, .pointer (some ⟨G, 0, none⟩), .int .i64 4, y7, z8, z9, z10, z11, z12, z13, z14, z15, z16, z17, z18, z19, z20, .bool false, y22, y23, y24, y25, y26, y27, y28], defers := [] } W1) :
   (Code.region 1 #[{ dst := some 8, op := Op.move (Operand.tmp 0), type := 165, pos := "way.go:23", after := #[], guard := none }, { dst := some 9, op := Op.load 91 (Operand.tmp 5), type := 91, pos := "way.go:23", after := #[], guard := none }, { dst := some 10, op := Op.move (Operand.tmp 6), type := 35, pos := "way.go:23", after := #[], guard := none }, { dst := some 11, op := Op.call { callee := Callee.value (Operand.tmp 8), args := #[Operand.tmp 9, Operand.tmp 10], argTypes := #[91, 35] }, type := 4, pos := "way.go:23", after := #[{ on := 0, ground := Ground.data }, { on := 1, ground := Ground.data }, { on := 2, ground := Ground.data }], guard := none }, { dst := some 12, op := Op.move (Operand.tmp 11), type := 4, pos := "way.go:23", after := #[{ on := 3, ground := Ground.data }, { on := 3, ground := Ground.chain }], guard := none }, { dst := some 13, op := Op.move (Operand.tmp 6), type := 35, pos := "way.go:23", after := #[{ on := 4, ground := Ground.guard }], guard := some (4, true) }, { dst := some 14, op := Op.binOp BinOp.eql 35 (Operand.tmp 13) (Operand.const (Value.int IntKind.i64 0)) 35, type := 4, pos := "way.go:23", after := #[{ on := 5, ground := Ground.data }, { on := 4, ground := Ground.guard }], guard := some (4, true) }, { dst := some 15, op := Op.pick (Operand.tmp 12) (Operand.tmp 14) (Operand.const (Value.bool false)), type := 4, pos := "way.go:23", after := #[{ on := 4, ground := Ground.data }, { on := 6, ground := Ground.data }], guard := none }, { dst := some 16, op := Op.move (Operand.tmp 15), type := 4, pos := "way.go:23", after := #[{ on := 7, ground := Ground.data }, { on := 4, ground := Ground.chain }], guard := none }, { dst := some 17, op := Op.load 91 (Operand.tmp 5), type := 91, pos := "way.go:23", after := #[{ on := 8, ground := Ground.guard }], guard := some (8, true) }, { dst := some 18, op := Op.call { callee := Callee.value (Operand.func 102), args := #[Operand.tmp 17], argTypes := #[91] }, type := 3, pos := "way.go:23", after := #[{ on := 9, ground := Ground.data }, { on := 8, ground := Ground.chain }, { on := 8, ground := Ground.guard }], guard := some (8, true) }, { dst := some 19, op := Op.load 3 (Operand.tmp 2), type := 3, pos := "way.go:23", after := #[{ on := 8, ground := Ground.guard }], guard := some (8, true) }, { dst := some 20, op := Op.binOp BinOp.gtr 3 (Operand.tmp 18) (Operand.tmp 19) 3, type := 4, pos := "way.go:23", after := #[{ on := 10, ground := Ground.data }, { on := 11, ground := Ground.data }, { on := 8, ground := Ground.guard }], guard := some (8, true) }, { dst := some 21, op := Op.pick (Operand.tmp 16) (Operand.tmp 20) (Operand.const (Value.bool false)), type := 4, pos := "way.go:23", after := #[{ on := 8, ground := Ground.data }, { on := 12, ground := Ground.data }], guard := none }] true).wp Tryz.prog Q { tmps := #[.func (.yield l) #[] #[], .pointer (some ⟨g4, 0, none⟩), .pointer (some ⟨g5, 0, none⟩), .pointer (some ⟨g3, 0, none⟩), y4, .pointer (some ⟨G, 0, none⟩), .int .i64 4, y7, y8, y9, y10, y11, y12, y13, y14, y15, y16, y17, y18, y19, y20, y21, y22, y23, y24, y25, y26, y27, y28], defers := [] } W := by
 have HS := hid (show (Tryz.prog.info? 91).map (·.size) = some (spC q r).toArray.size by rw [Tryz.sizeSp, List.size_toArray, spC_len q ok])
 have HY := hid hy
 have HR := hid hR
 have HH0 := hid h0
 have HH1 := hid h1
 have HRW := hid (show W.drew.heap[G]? = _ from hr)
 clear hy hR h0 h1 hr
 unfold wyC at HY
 dsimp only at HY
 rw [fxR_ok ok] at HY
 generalize spC q r = Z at *
 clear ok r q
 refine wp_region_noPanic ?_
 refine (wpIn_wide (n := n)).1 ?_
 refine wpIn_region_any (by kernel_rfl) ?_
 show wpAnyIn _ _ _ _ _ _ _ _ _ W.drew
 generalize W.drew = W0 at *
 refine wpAnyIn_take (i := 0) (oi := { dst := some 8, op := Op.move (Operand.tmp 0), type := 165, pos := "way.go:23", after := #[], guard := none }) (v := .func (.yield l) #[] #[]) rfl rfl (by kernel_rfl) (by kernel_rfl) (by kernel_rfl) (fun _ _ _ h => h) ⟨Or.inl ⟨by rfl, by intro w; go_simp⟩, by intro w; rfl⟩ ?_
 try simp only [Act.put, List.setIfInBounds_toArray, List.set_cons_zero, List.set_cons_succ]
 refine wpAnyIn_take (i := 2) (oi := { dst := some 10, op := Op.move (Operand.tmp 6), type := 35, pos := "way.go:23", after := #[], guard := none }) (v := .int .i64 4) rfl rfl (by kernel_rfl) (by kernel_rfl) (by kernel_rfl) (fun _ _ _ h => h) ⟨Or.inl ⟨by rfl, by intro w; go_simp⟩, by intro w; rfl⟩ ?_
 try simp only [Act.put, List.setIfInBounds_toArray, List.set_cons_zero, List.set_cons_succ]
 refine wpAnyIn_ready (rs := [1]) (by kernel_rfl) (by simp) ?_
 refine (AllReadyIn.cons (o := { dst := some 9, op := Op.load 91 (Operand.tmp 5), type := 91, pos := "way.go:23", after := #[], guard := none }) rfl (fun K hK => ?_) AllReadyIn.nil)
 refine opIn_val (v := .agg Z.toArray) (by rfl) (exec_load_row 91 _ rfl G rfl 91 Z.toArray _ HRW.out Tryz.underlying91 rfl HS.out) (hK _ _ ?_)
 clear hK K
 try simp only [Act.put, List.setIfInBounds_toArray, List.set_cons_zero, List.set_cons_succ]
 refine wpAnyIn_ready (rs := [3]) (by kernel_rfl) (by simp) ?_
 refine (AllReadyIn.cons (o := { dst := some 11, op := Op.call { callee := Callee.value (Operand.tmp 8), args := #[Operand.tmp 9, Operand.tmp 10], argTypes := #[91, 35] }, type := 4, pos := "way.go:23", after := #[{ on := 0, ground := Ground.data }, { on := 1, ground := Ground.data }, { on := 2, ground := Ground.data }], guard := none }) rfl (fun K hK => ?_) AllReadyIn.nil)
 refine opIn_round (by rfl) (exec_yield (t := (91, 35)) rfl rfl) HY.out ?_
 intro e W1 hR1
 rcases HR.out e W1 hR1 with rfl | rfl
 · refine ⟨_, rfl, hK _ _ ?_⟩
   clear hK K
   try simp only [Act.put, List.setIfInBounds_toArray, List.set_cons_zero, List.set_cons_succ]
   refine wpAnyIn_take (i := 4) (oi := { dst := some 12, op := Op.move (Operand.tmp 11), type := 4, pos := "way.go:23", after := #[{ on := 3, ground := Ground.data }, { on := 3, ground := Ground.chain }], guard := none }) (v := .bool true) rfl rfl (by kernel_rfl) (by kernel_rfl) (by kernel_rfl) (fun _ _ _ h => h) ⟨Or.inl ⟨by rfl, by intro w; go_simp⟩, by intro w; rfl⟩ ?_
   try simp only [Act.put, List.setIfInBounds_toArray, List.set_cons_zero, List.set_cons_succ]
   refine wpAnyIn_take (i := 5) (oi := { dst := some 13, op := Op.move (Operand.tmp 6), type := 35, pos := "way.go:23", after := #[{ on := 4, ground := Ground.guard }], guard := some (4, true) }) (v := .int .i64 4) rfl rfl (by kernel_rfl) (by kernel_rfl) (by kernel_rfl) (fun _ _ _ h => h) ⟨Or.inl ⟨by rfl, by intro w; go_simp⟩, by intro w; rfl⟩ ?_
   try simp only [Act.put, List.setIfInBounds_toArray, List.set_cons_zero, List.set_cons_succ]
   refine wpAnyIn_take (i := 6) (oi := { dst := some 14, op := Op.binOp BinOp.eql 35 (Operand.tmp 13) (Operand.const (Value.int IntKind.i64 0)) 35, type := 4, pos := "way.go:23", after := #[{ on := 5, ground := Ground.data }, { on := 4, ground := Ground.guard }], guard := some (4, true) }) (v := .bool false) rfl rfl (by kernel_rfl) (by kernel_rfl) (by kernel_rfl) (fun _ _ _ h => h) ⟨Or.inl ⟨by rfl, by intro w; go_simp⟩, by intro w; rfl⟩ ?_
   try simp only [Act.put, List.setIfInBounds_toArray, List.set_cons_zero, List.set_cons_succ]
   refine wpAnyIn_take (i := 7) (oi := { dst := some 15, op := Op.pick (Operand.tmp 12) (Operand.tmp 14) (Operand.const (Value.bool false)), type := 4, pos := "way.go:23", after := #[{ on := 4, ground := Ground.data }, { on := 6, ground := Ground.data }], guard := none }) (v := .bool false) rfl rfl (by kernel_rfl) (by kernel_rfl) (by kernel_rfl) (fun _ _ _ h => h) ⟨Or.inl ⟨by rfl, by intro w; go_simp⟩, by intro w; rfl⟩ ?_
   try simp only [Act.put, List.setIfInBounds_toArray, List.set_cons_zero, List.set_cons_succ]
   refine wpAnyIn_take (i := 8) (oi := { dst := some 16, op := Op.move (Operand.tmp 15), type := 4, pos := "way.go:23", after := #[{ on := 7, ground := Ground.data }, { on := 4, ground := Ground.chain }], guard := none }) (v := .bool false) rfl rfl (by kernel_rfl) (by kernel_rfl) (by kernel_rfl) (fun _ _ _ h => h) ⟨Or.inl ⟨by rfl, by intro w; go_simp⟩, by intro w; rfl⟩ ?_
   try simp only [Act.put, List.setIfInBounds_toArray, List.set_cons_zero, List.set_cons_succ]
   refine wpAnyIn_take (i := 9) (oi := { dst := some 17, op := Op.load 91 (Operand.tmp 5), type := 91, pos := "way.go:23", after := #[{ on := 8, ground := Ground.guard }], guard := some (8, true) }) (v := undef) rfl rfl (by kernel_rfl) (by kernel_rfl) (by kernel_rfl) (fun _ _ _ h => h) ⟨Or.inr ⟨by rfl, rfl⟩, by intro w; rfl⟩ ?_
   try simp only [Act.put, List.setIfInBounds_toArray, List.set_cons_zero, List.set_cons_succ]
   refine wpAnyIn_take (i := 11) (oi := { dst := some 19, op := Op.load 3 (Operand.tmp 2), type := 3, pos := "way.go:23", after := #[{ on := 8, ground := Ground.guard }], guard := some (8, true) }) (v := undef) rfl rfl (by kernel_rfl) (by kernel_rfl) (by kernel_rfl) (fun _ _ _ h => h) ⟨Or.inr ⟨by rfl, rfl⟩, by intro w; rfl⟩ ?_
   try simp only [Act.put, List.setIfInBounds_toArray, List.set_cons_zero, List.set_cons_succ]
   refine wpAnyIn_ready (rs := [10]) (by kernel_rfl) (by simp) ?_
   refine (AllReadyIn.cons (o := { dst := some 18, op := Op.call { callee := Callee.value (Operand.func 102), args := #[Operand.tmp 17], argTypes := #[91] }, type := 3, pos := "way.go:23", after := #[{ on := 9, ground := Ground.data }, { on := 8, ground := Ground.chain }, { on := 8, ground := Ground.guard }], guard := some (8, true) }) rfl (fun K hK => ?_) AllReadyIn.nil)
   refine opIn_skip (by rfl) (hK _ _ ?_)
   clear hK K
   try simp only [Act.put, List.setIfInBounds_toArray, List.set_cons_zero, List.set_cons_succ]
   refine wpAnyIn_take (i := 12) (oi := { dst := some 20, op := Op.binOp BinOp.gtr 3 (Operand.tmp 18) (Operand.tmp 19) 3, type := 4, pos := "way.go:23", after := #[{ on := 10, ground := Ground.data }, { on := 11, ground := Ground.data }, { on := 8, ground := Ground.guard }], guard := some (8, true) }) (v := undef) rfl rfl (by kernel_rfl) (by kernel_rfl) (by kernel_rfl) (fun _ _ _ h => h) ⟨Or.inr ⟨by rfl, rfl⟩, by intro w; rfl⟩ ?_
   try simp only [Act.put, List.setIfInBounds_toArray, List.set_cons_zero, List.set_cons_succ]
   refine wpAnyIn_take (i := 13) (oi := { dst := some 21, op := Op.pick (Operand.tmp 16) (Operand.tmp 20) (Operand.const (Value.bool false)), type := 4, pos := "way.go:23", after := #[{ on := 8, ground := Ground.data }, { on := 12, ground := Ground.data }], guard := none }) (v := .bool false) rfl rfl (by kernel_rfl) (by kernel_rfl) (by kernel_rfl) (fun _ _ _ h => h) ⟨Or.inl ⟨by rfl, by intro w; go_simp⟩, by intro w; rfl⟩ ?_
   try simp only [Act.put, List.setIfInBounds_toArray, List.set_cons_zero, List.set_cons_succ]
   refine wpAnyIn_done (by kernel_rfl) (NoPanic.normal ?_) _
   exact HH1.out W1 hR1 _ _ _ _ _ _ _ _ _ _ _ _ _
 · refine ⟨_, rfl, hK _ _ ?_⟩
   clear hK K
   try simp only [Act.put, List.setIfInBounds_toArray, List.set_cons_zero, List.set_cons_succ]
   refine wpAnyIn_take (i := 4) (oi := { dst := some 12, op := Op.move (Operand.tmp 11), type := 4, pos := "way.go:23", after := #[{ on := 3, ground := Ground.data }, { on := 3, ground := Ground.chain }], guard := none }) (v := .bool false) rfl rfl (by kernel_rfl) (by kernel_rfl) (by kernel_rfl) (fun _ _ _ h => h) ⟨Or.inl ⟨by rfl, by intro w; go_simp⟩, by intro w; rfl⟩ ?_
   try simp only [Act.put, List.setIfInBounds_toArray, List.set_cons_zero, List.set_cons_succ]
   refine wpAnyIn_take (i := 5) (oi := { dst := some 13, op := Op.move (Operand.tmp 6), type := 35, pos := "way.go:23", after := #[{ on := 4, ground := Ground.guard }], guard := some (4, true) }) (v := undef) rfl rfl (by kernel_rfl) (by kernel_rfl) (by kernel_rfl) (fun _ _ _ h => h) ⟨Or.inr ⟨by rfl, rfl⟩, by intro w; rfl⟩ ?_
   try simp only [Act.put, List.setIfInBounds_toArray, List.set_cons_zero, List.set_cons_succ]
   refine wpAnyIn_take (i := 6) (oi := { dst := some 14, op := Op.binOp BinOp.eql 35 (Operand.tmp 13) (Operand.const (Value.int IntKind.i64 0)) 35, type := 4, pos := "way.go:23", after := #[{ on := 5, ground := Ground.data }, { on := 4, ground := Ground.guard }], guard := some (4, true) }) (v := undef) rfl rfl (by kernel_rfl) (by kernel_rfl) (by kernel_rfl) (fun _ _ _ h => h) ⟨Or.inr ⟨by rfl, rfl⟩, by intro w; rfl⟩ ?_
   try simp only [Act.put, List.setIfInBounds_toArray, List.set_cons_zero, List.set_cons_succ]
   refine wpAnyIn_take (i := 7) (oi := { dst := some 15, op := Op.pick (Operand.tmp 12) (Operand.tmp 14) (Operand.const (Value.bool false)), type := 4, pos := "way.go:23", after := #[{ on := 4, ground := Ground.data }, { on := 6, ground := Ground.data }], guard := none }) (v := .bool false) rfl rfl (by kernel_rfl) (by kernel_rfl) (by kernel_rfl) (fun _ _ _ h => h) ⟨Or.inl ⟨by rfl, by intro w; go_simp⟩, by intro w; rfl⟩ ?_
   try simp only [Act.put, List.setIfInBounds_toArray, List.set_cons_zero, List.set_cons_succ]
   refine wpAnyIn_take (i := 8) (oi := { dst := some 16, op := Op.move (Operand.tmp 15), type := 4, pos := "way.go:23", after := #[{ on := 7, ground := Ground.data }, { on := 4, ground := Ground.chain }], guard := none }) (v := .bool false) rfl rfl (by kernel_rfl) (by kernel_rfl) (by kernel_rfl) (fun _ _ _ h => h) ⟨Or.inl ⟨by rfl, by intro w; go_simp⟩, by intro w; rfl⟩ ?_
   try simp only [Act.put, List.setIfInBounds_toArray, List.set_cons_zero, List.set_cons_succ]
   refine wpAnyIn_take (i := 9) (oi := { dst := some 17, op := Op.load 91 (Operand.tmp 5), type := 91, pos := "way.go:23", after := #[{ on := 8, ground := Ground.guard }], guard := some (8, true) }) (v := undef) rfl rfl (by kernel_rfl) (by kernel_rfl) (by kernel_rfl) (fun _ _ _ h => h) ⟨Or.inr ⟨by rfl, rfl⟩, by intro w; rfl⟩ ?_
   try simp only [Act.put, List.setIfInBounds_toArray, List.set_cons_zero, List.set_cons_succ]
   refine wpAnyIn_take (i := 11) (oi := { dst := some 19, op := Op.load 3 (Operand.tmp 2), type := 3, pos := "way.go:23", after := #[{ on := 8, ground := Ground.guard }], guard := some (8, true) }) (v := undef) rfl rfl (by kernel_rfl) (by kernel_rfl) (by kernel_rfl) (fun _ _ _ h => h) ⟨Or.inr ⟨by rfl, rfl⟩, by intro w; rfl⟩ ?_
   try simp only [Act.put, List.setIfInBounds_toArray, List.set_cons_zero, List.set_cons_succ]
   refine wpAnyIn_ready (rs := [10]) (by kernel_rfl) (by simp) ?_
   refine (AllReadyIn.cons (o := { dst := some 18, op := Op.call { callee := Callee.value (Operand.func 102), args := #[Operand.tmp 17], argTypes := #[91] }, type := 3, pos := "way.go:23", after := #[{ on := 9, ground := Ground.data }, { on := 8, ground := Ground.chain }, { on := 8, ground := Ground.guard }], guard := some (8, true) }) rfl (fun K hK => ?_) AllReadyIn.nil)
   refine opIn_skip (by rfl) (hK _ _ ?_)
   clear hK K
   try simp only [Act.put, List.setIfInBounds_toArray, List.set_cons_zero, List.set_cons_succ]
   refine wpAnyIn_take (i := 12) (oi := { dst := some 20, op := Op.binOp BinOp.gtr 3 (Operand.tmp 18) (Operand.tmp 19) 3, type := 4, pos := "way.go:23", after := #[{ on := 10, ground := Ground.data }, { on := 11, ground := Ground.data }, { on := 8, ground := Ground.guard }], guard := some (8, true) }) (v := undef) rfl rfl (by kernel_rfl) (by kernel_rfl) (by kernel_rfl) (fun _ _ _ h => h) ⟨Or.inr ⟨by rfl, rfl⟩, by intro w; rfl⟩ ?_
   try simp only [Act.put, List.setIfInBounds_toArray, List.set_cons_zero, List.set_cons_succ]
   refine wpAnyIn_take (i := 13) (oi := { dst := some 21, op := Op.pick (Operand.tmp 16) (Operand.tmp 20) (Operand.const (Value.bool false)), type := 4, pos := "way.go:23", after := #[{ on := 8, ground := Ground.data }, { on := 12, ground := Ground.data }], guard := none }) (v := .bool false) rfl rfl (by kernel_rfl) (by kernel_rfl) (by kernel_rfl) (fun _ _ _ h => h) ⟨Or.inl ⟨by rfl, by intro w; go_simp⟩, by intro w; rfl⟩ ?_
   try simp only [Act.put, List.setIfInBounds_toArray, List.set_cons_zero, List.set_cons_succ]
   refine wpAnyIn_done (by kernel_rfl) (NoPanic.normal ?_) _
   exact HH0.out W1 hR1 _ _ _ _ _ _ _ _ _ _ _ _ _
theorem way_reg0 (n l g4 g5 g3 G : Nat) (t : Int) (q : Int) (r : Rc) (ok : RcOk r) (y4 y7 y8 y9 y10 y11 y12 y13 y14 y15 y16 y17 y18 y19 y20 y21 y22 y23 y24 y25 y26 y27 y28 : Value) (W : World) (Q : Exit -> Act -> World -> Prop) (hr : W.heap[G]? = some (.cells (spC q r).toArray 91 (0, 0))) (R : Ending -> World -> Prop) (hy : YieldAt Fence.wide (n - 1) Tryz.prog l (wyC (q, r, 0)) W.drew R)
   (hR : ∀ e W1, R e W1 -> e = .returned (.bool true) \/ e = .returned (.bool false))
   (h0 : ∀ W1, R (.returned (.bool false)) W1 -> ∀ (z8 z9 z10 z11 z12 z13 z14 z15 z16 z17 z18 z19 z20 : Value), Q .normal { tmps := #[.func (.yield l) #[] #[], .pointer (some ⟨g4, 0, none⟩), .pointer (some ⟨g5, 0, none⟩), .pointer (some ⟨g3, 0, none⟩), y4, .pointer (some ⟨G, 0, none⟩), .int .i64 0, y7, z8, z9, z10, z11, z12, z13, z14, z15, z16, z17, z18, z19, z20, .bool false, y22, y23, y24, y25, y26, y27, y28], defers := [] } W1)
   (hv : VerR r) (hk : ∀ W1, R (.returned (.bool true)) W1 -> W1.heap[G]? = some (.cells (spC q r).toArray 91 (0, 0)) /\ W1.heap[g5]? = some (.cells #[.int .i64 t] 3 (0, 0)))
   (h1 : ∀ W1 W2, R (.returned (.bool true)) W1 -> Below W1.heap.size W1 W2 -> ∀ (z8 z9 z10 z11 z12 z13 z14 z15 z16 z17 z18 z19 z20 : Value), Q .normal { tmps := #[.func (.yield l) #[] #[], .pointer (some ⟨g4, 0, none⟩), .pointer (some ⟨g5, 0, none⟩), .pointer (some ⟨g3, 0, none⟩), y4, .pointer (some ⟨G, 0, none⟩), .int .i64 0, y7, z8, z9, z10, z11, z12, z13, z14, z15, z16, z17, z18, z19, z20, .bool (decide (t < numR r.v r.f)), y22, y23, y24, y25, y26, y27, y28], defers := [] } W2) :
   (Code.region 1 #[{ dst := some 8, op := Op.move (Operand.tmp 0), type := 165, pos := "way.go:23", after := #[], guard := none }, { dst := some 9, op := Op.load 91 (Operand.tmp 5), type := 91, pos := "way.go:23", after := #[], guard := none }, { dst := some 10, op := Op.move (Operand.tmp 6), type := 35, pos := "way.go:23", after := #[], guard := none }, { dst := some 11, op := Op.call { callee := Callee.value (Operand.tmp 8), args := #[Operand.tmp 9, Operand.tmp 10], argTypes := #[91, 35] }, type := 4, pos := "way.go:23", after := #[{ on := 0, ground := Ground.data }, { on := 1, ground := Ground.data }, { on := 2, ground := Ground.data }], guard := none }, { dst := some 12, op := Op.move (Operand.tmp 11), type := 4, pos := "way.go:23", after := #[{ on := 3, ground := Ground.data }, { on := 3, ground := Ground.chain }], guard := none }, { dst := some 13, op := Op.move (Operand.tmp 6), type := 35, pos := "way.go:23", after := #[{ on := 4, ground := Ground.guard }], guard := some (4, true) }, { dst := some 14, op := Op.binOp BinOp.eql 35 (Operand.tmp 13) (Operand.const (Value.int IntKind.i64 0)) 35, type := 4, pos := "way.go:23", after := #[{ on := 5, ground := Ground.data }, { on := 4, ground := Ground.guard }], guard := some (4, true) }, { dst := some 15, op := Op.pick (Operand.tmp 12) (Operand.tmp 14) (Operand.const (Value.bool false)), type := 4, pos := "way.go:23", after := #[{ on := 4, ground := Ground.data }, { on := 6, ground := Ground.data }], guard := none }, { dst := some 16, op := Op.move (Operand.tmp 15), type := 4, pos := "way.go:23", after := #[{ on := 7, ground := Ground.data }, { on := 4, ground := Ground.chain }], guard := none }, { dst := some 17, op := Op.load 91 (Operand.tmp 5), type := 91, pos := "way.go:23", after := #[{ on := 8, ground := Ground.guard }], guard := some (8, true) }, { dst := some 18, op := Op.call { callee := Callee.value (Operand.func 102), args := #[Operand.tmp 17], argTypes := #[91] }, type := 3, pos := "way.go:23", after := #[{ on := 9, ground := Ground.data }, { on := 8, ground := Ground.chain }, { on := 8, ground := Ground.guard }], guard := some (8, true) }, { dst := some 19, op := Op.load 3 (Operand.tmp 2), type := 3, pos := "way.go:23", after := #[{ on := 8, ground := Ground.guard }], guard := some (8, true) }, { dst := some 20, op := Op.binOp BinOp.gtr 3 (Operand.tmp 18) (Operand.tmp 19) 3, type := 4, pos := "way.go:23", after := #[{ on := 10, ground := Ground.data }, { on := 11, ground := Ground.data }, { on := 8, ground := Ground.guard }], guard := some (8, true) }, { dst := some 21, op := Op.pick (Operand.tmp 16) (Operand.tmp 20) (Operand.const (Value.bool false)), type := 4, pos := "way.go:23", after := #[{ on := 8, ground := Ground.data }, { on := 12, ground := Ground.data }], guard := none }] true).wp Tryz.prog Q { tmps := #[.func (.yield l) #[] #[], .pointer (some ⟨g4, 0, none⟩), .pointer (some ⟨g5, 0, none⟩), .pointer (some ⟨g3, 0, none⟩), y4, .pointer (some ⟨G, 0, none⟩), .int .i64 0, y7, y8, y9, y10, y11, y12, y13, y14, y15, y16, y17, y18, y19, y20, y21, y22, y23, y24, y25, y26, y27, y28], defers := [] } W := by
 have HS := hid (show (Tryz.prog.info? 91).map (·.size) = some (spC q r).toArray.size by rw [Tryz.sizeSp, List.size_toArray, spC_len q ok])
 have HY := hid hy
 have HR := hid hR
 have HH0 := hid h0
 have HH1 := hid h1
 have HRW := hid (show W.drew.heap[G]? = _ from hr)
 have HK := hid hk
 have KN := hid (fun w1 => spNumber_any w1 q r ok hv)
 clear hk hv
 clear hy hR h0 h1 hr
 unfold wyC at HY
 dsimp only at HY
 rw [fxR_ok ok] at HY
 generalize spC q r = Z at *
 generalize numR r.v r.f = I at *
 clear ok r q
 refine wp_region_noPanic ?_
 refine (wpIn_wide (n := n)).1 ?_
 refine wpIn_region_any (by kernel_rfl) ?_
 show wpAnyIn _ _ _ _ _ _ _ _ _ W.drew
 generalize W.drew = W0 at *
 refine wpAnyIn_take (i := 0) (oi := { dst := some 8, op := Op.move (Operand.tmp 0), type := 165, pos := "way.go:23", after := #[], guard := none }) (v := .func (.yield l) #[] #[]) rfl rfl (by kernel_rfl) (by kernel_rfl) (by kernel_rfl) (fun _ _ _ h => h) ⟨Or.inl ⟨by rfl, by intro w; go_simp⟩, by intro w; rfl⟩ ?_
 try simp only [Act.put, List.setIfInBounds_toArray, List.set_cons_zero, List.set_cons_succ]
 refine wpAnyIn_take (i := 2) (oi := { dst := some 10, op := Op.move (Operand.tmp 6), type := 35, pos := "way.go:23", after := #[], guard := none }) (v := .int .i64 0) rfl rfl (by kernel_rfl) (by kernel_rfl) (by kernel_rfl) (fun _ _ _ h => h) ⟨Or.inl ⟨by rfl, by intro w; go_simp⟩, by intro w; rfl⟩ ?_
 try simp only [Act.put, List.setIfInBounds_toArray, List.set_cons_zero, List.set_cons_succ]
 refine wpAnyIn_ready (rs := [1]) (by kernel_rfl) (by simp) ?_
 refine (AllReadyIn.cons (o := { dst := some 9, op := Op.load 91 (Operand.tmp 5), type := 91, pos := "way.go:23", after := #[], guard := none }) rfl (fun K hK => ?_) AllReadyIn.nil)
 refine opIn_val (v := .agg Z.toArray) (by rfl) (exec_load_row 91 _ rfl G rfl 91 Z.toArray _ HRW.out Tryz.underlying91 rfl HS.out) (hK _ _ ?_)
 clear hK K
 try simp only [Act.put, List.setIfInBounds_toArray, List.set_cons_zero, List.set_cons_succ]
 refine wpAnyIn_ready (rs := [3]) (by kernel_rfl) (by simp) ?_
 refine (AllReadyIn.cons (o := { dst := some 11, op := Op.call { callee := Callee.value (Operand.tmp 8), args := #[Operand.tmp 9, Operand.tmp 10], argTypes := #[91, 35] }, type := 4, pos := "way.go:23", after := #[{ on := 0, ground := Ground.data }, { on := 1, ground := Ground.data }, { on := 2, ground := Ground.data }], guard := none }) rfl (fun K hK => ?_) AllReadyIn.nil)
 refine opIn_round (by rfl) (exec_yield (t := (91, 35)) rfl rfl) HY.out ?_
 intro e W1 hR1
 rcases HR.out e W1 hR1 with rfl | rfl
 · refine ⟨_, rfl, hK _ _ ?_⟩
   clear hK K
   try simp only [Act.put, List.setIfInBounds_toArray, List.set_cons_zero, List.set_cons_succ]
   refine wpAnyIn_take (i := 4) (oi := { dst := some 12, op := Op.move (Operand.tmp 11), type := 4, pos := "way.go:23", after := #[{ on := 3, ground := Ground.data }, { on := 3, ground := Ground.chain }], guard := none }) (v := .bool true) rfl rfl (by kernel_rfl) (by kernel_rfl) (by kernel_rfl) (fun _ _ _ h => h) ⟨Or.inl ⟨by rfl, by intro w; go_simp⟩, by intro w; rfl⟩ ?_
   try simp only [Act.put, List.setIfInBounds_toArray, List.set_cons_zero, List.set_cons_succ]
   refine wpAnyIn_take (i := 5) (oi := { dst := some 13, op := Op.move (Operand.tmp 6), type := 35, pos := "way.go:23", after := #[{ on := 4, ground := Ground.guard }], guard := some (4, true) }) (v := .int .i64 0) rfl rfl (by kernel_rfl) (by kernel_rfl) (by kernel_rfl) (fun _ _ _ h => h) ⟨Or.inl ⟨by rfl, by intro w; go_simp⟩, by intro w; rfl⟩ ?_
   try simp only [Act.put, List.setIfInBounds_toArray, List.set_cons_zero, List.set_cons_succ]
   refine wpAnyIn_take (i := 6) (oi := { dst := some 14, op := Op.binOp BinOp.eql 35 (Operand.tmp 13) (Operand.const (Value.int IntKind.i64 0)) 35, type := 4, pos := "way.go:23", after := #[{ on := 5, ground := Ground.data }, { on := 4, ground := Ground.guard }], guard := some (4, true) }) (v := .bool true) rfl rfl (by kernel_rfl) (by kernel_rfl) (by kernel_rfl) (fun _ _ _ h => h) ⟨Or.inl ⟨by rfl, by intro w; go_simp⟩, by intro w; rfl⟩ ?_
   try simp only [Act.put, List.setIfInBounds_toArray, List.set_cons_zero, List.set_cons_succ]
   refine wpAnyIn_take (i := 7) (oi := { dst := some 15, op := Op.pick (Operand.tmp 12) (Operand.tmp 14) (Operand.const (Value.bool false)), type := 4, pos := "way.go:23", after := #[{ on := 4, ground := Ground.data }, { on := 6, ground := Ground.data }], guard := none }) (v := .bool true) rfl rfl (by kernel_rfl) (by kernel_rfl) (by kernel_rfl) (fun _ _ _ h => h) ⟨Or.inl ⟨by rfl, by intro w; go_simp⟩, by intro w; rfl⟩ ?_
   try simp only [Act.put, List.setIfInBounds_toArray, List.set_cons_zero, List.set_cons_succ]
   refine wpAnyIn_take (i := 8) (oi := { dst := some 16, op := Op.move (Operand.tmp 15), type := 4, pos := "way.go:23", after := #[{ on := 7, ground := Ground.data }, { on := 4, ground := Ground.chain }], guard := none }) (v := .bool true) rfl rfl (by kernel_rfl) (by kernel_rfl) (by kernel_rfl) (fun _ _ _ h => h) ⟨Or.inl ⟨by rfl, by intro w; go_simp⟩, by intro w; rfl⟩ ?_
   try simp only [Act.put, List.setIfInBounds_toArray, List.set_cons_zero, List.set_cons_succ]
   obtain ⟨rg, r5⟩ := HK.out W1 hR1
   refine wpAnyIn_ready (rs := [9, 11]) (by kernel_rfl) (by simp) ?_
   refine (AllReadyIn.cons (o := { dst := some 17, op := Op.load 91 (Operand.tmp 5), type := 91, pos := "way.go:23", after := #[{ on := 8, ground := Ground.guard }], guard := some (8, true) }) rfl (fun K hK => ?_) (AllReadyIn.cons (o := { dst := some 19, op := Op.load 3 (Operand.tmp 2), type := 3, pos := "way.go:23", after := #[{ on := 8, ground := Ground.guard }], guard := some (8, true) }) rfl (fun K hK => ?_) AllReadyIn.nil))
   · skip
     refine opIn_val (v := .agg Z.toArray) (by rfl) (exec_load_row 91 _ rfl G rfl 91 Z.toArray _ rg Tryz.underlying91 rfl HS.out) (hK _ _ ?_)
     clear hK K
     try simp only [Act.put, List.setIfInBounds_toArray, List.set_cons_zero, List.set_cons_succ]
     refine wpAnyIn_ready (rs := [10, 11]) (by kernel_rfl) (by simp) ?_
     refine (AllReadyIn.cons (o := { dst := some 18, op := Op.call { callee := Callee.value (Operand.func 102), args := #[Operand.tmp 17], argTypes := #[91] }, type := 3, pos := "way.go:23", after := #[{ on := 9, ground := Ground.data }, { on := 8, ground := Ground.chain }, { on := 8, ground := Ground.guard }], guard := some (8, true) }) rfl (fun K hK => ?_) (AllReadyIn.cons (o := { dst := some 19, op := Op.load 3 (Operand.tmp 2), type := 3, pos := "way.go:23", after := #[{ on := 8, ground := Ground.guard }], guard := some (8, true) }) rfl (fun K hK => ?_) AllReadyIn.nil))
     · skip
       refine opIn_call (f := 102) (args := #[.agg Z.toArray]) (by rfl) (by simpa [go_sem, resolve, invoke, execOp] using enters_of Tryz.func102 (by kernel_rfl) rfl _ _) ((KN.out _).mono ?_)
       rintro e W2 ⟨rfl, hb2⟩
       refine ⟨_, rfl, hK _ _ ?_⟩
       clear hK K
       try simp only [Act.put, List.setIfInBounds_toArray, List.set_cons_zero, List.set_cons_succ]
       refine wpAnyIn_ready (rs := [11]) (by kernel_rfl) (by simp) ?_
       refine (AllReadyIn.cons (o := { dst := some 19, op := Op.load 3 (Operand.tmp 2), type := 3, pos := "way.go:23", after := #[{ on := 8, ground := Ground.guard }], guard := some (8, true) }) rfl (fun K hK => ?_) AllReadyIn.nil)
       refine opIn_val (v := .int .i64 t) (by rfl) ?_ (hK _ _ ?_)
       · have c5 : W2.cell? ⟨g5, 0, none⟩ = some (.int .i64 t) := by rw [cell_of_row _ _ _ _ _ _ ((hb2.block _ (hlt r5)).trans r5)]; rfl
         go_simp
       clear hK K
       try simp only [Act.put, List.setIfInBounds_toArray, List.set_cons_zero, List.set_cons_succ]
       refine wpAnyIn_take (i := 12) (oi := { dst := some 20, op := Op.binOp BinOp.gtr 3 (Operand.tmp 18) (Operand.tmp 19) 3, type := 4, pos := "way.go:23", after := #[{ on := 10, ground := Ground.data }, { on := 11, ground := Ground.data }, { on := 8, ground := Ground.guard }], guard := some (8, true) }) (v := .bool (decide (t < I))) rfl rfl (by kernel_rfl) (by kernel_rfl) (by kernel_rfl) (fun _ _ _ h => h) ⟨Or.inl ⟨by rfl, by intro w; go_simp⟩, by intro w; rfl⟩ ?_
       try simp only [Act.put, List.setIfInBounds_toArray, List.set_cons_zero, List.set_cons_succ]
       refine wpAnyIn_take (i := 13) (oi := { dst := some 21, op := Op.pick (Operand.tmp 16) (Operand.tmp 20) (Operand.const (Value.bool false)), type := 4, pos := "way.go:23", after := #[{ on := 8, ground := Ground.data }, { on := 12, ground := Ground.data }], guard := none }) (v := .bool (decide (t < I))) rfl rfl (by kernel_rfl) (by kernel_rfl) (by kernel_rfl) (fun _ _ _ h => h) ⟨Or.inl ⟨by rfl, by intro w; go_simp⟩, by intro w; rfl⟩ ?_
       try simp only [Act.put, List.setIfInBounds_toArray, List.set_cons_zero, List.set_cons_succ]
       refine wpAnyIn_done (by kernel_rfl) (NoPanic.normal ?_) _
       exact HH1.out W1 W2 hR1 hb2 _ _ _ _ _ _ _ _ _ _ _ _ _
     · skip
       refine opIn_val (v := .int .i64 t) (by rfl) ?_ (hK _ _ ?_)
       · have c5 : W1.cell? ⟨g5, 0, none⟩ = some (.int .i64 t) := by rw [cell_of_row _ _ _ _ _ _ r5]; rfl
         go_simp
       clear hK K
       try simp only [Act.put, List.setIfInBounds_toArray, List.set_cons_zero, List.set_cons_succ]
       refine wpAnyIn_ready (rs := [10]) (by kernel_rfl) (by simp) ?_
       refine (AllReadyIn.cons (o := { dst := some 18, op := Op.call { callee := Callee.value (Operand.func 102), args := #[Operand.tmp 17], argTypes := #[91] }, type := 3, pos := "way.go:23", after := #[{ on := 9, ground := Ground.data }, { on := 8, ground := Ground.chain }, { on := 8, ground := Ground.guard }], guard := some (8, true) }) rfl (fun K hK => ?_) AllReadyIn.nil)
       refine opIn_call (f := 102) (args := #[.agg Z.toArray]) (by rfl) (by simpa [go_sem, resolve, invoke, execOp] using enters_of Tryz.func102 (by kernel_rfl) rfl _ _) ((KN.out _).mono ?_)
       rintro e W2 ⟨rfl, hb2⟩
       refine ⟨_, rfl, hK _ _ ?_⟩
       clear hK K
       try simp only [Act.put, List.setIfInBounds_toArray, List.set_cons_zero, List.set_cons_succ]
       refine wpAnyIn_take (i := 12) (oi := { dst := some 20, op := Op.binOp BinOp.gtr 3 (Operand.tmp 18) (Operand.tmp 19) 3, type := 4, pos := "way.go:23", after := #[{ on := 10, ground := Ground.data }, { on := 11, ground := Ground.data }, { on := 8, ground := Ground.guard }], guard := some (8, true) }) (v := .bool (decide (t < I))) rfl rfl (by kernel_rfl) (by kernel_rfl) (by kernel_rfl) (fun _ _ _ h => h) ⟨Or.inl ⟨by rfl, by intro w; go_simp⟩, by intro w; rfl⟩ ?_
       try simp only [Act.put, List.setIfInBounds_toArray, List.set_cons_zero, List.set_cons_succ]
       refine wpAnyIn_take (i := 13) (oi := { dst := some 21, op := Op.pick (Operand.tmp 16) (Operand.tmp 20) (Operand.const (Value.bool false)), type := 4, pos := "way.go:23", after := #[{ on := 8, ground := Ground.data }, { on := 12, ground := Ground.data }], guard := none }) (v := .bool (decide (t < I))) rfl rfl (by kernel_rfl) (by kernel_rfl) (by kernel_rfl) (fun _ _ _ h => h) ⟨Or.inl ⟨by rfl, by intro w; go_simp⟩, by intro w; rfl⟩ ?_
       try simp only [Act.put, List.setIfInBounds_toArray, List.set_cons_zero, List.set_cons_succ]
       refine wpAnyIn_done (by kernel_rfl) (NoPanic.normal ?_) _
       exact HH1.out W1 W2 hR1 hb2 _ _ _ _ _ _ _ _ _ _ _ _ _
   · skip
     refine opIn_val (v := .int .i64 t) (by rfl) ?_ (hK _ _ ?_)
     · have c5 : W1.cell? ⟨g5, 0, none⟩ = some (.int .i64 t) := by rw [cell_of_row _ _ _ _ _ _ r5]; rfl
       go_simp
     clear hK K
     try simp only [Act.put, List.setIfInBounds_toArray, List.set_cons_zero, List.set_cons_succ]
     refine wpAnyIn_ready (rs := [9]) (by kernel_rfl) (by simp) ?_
     refine (AllReadyIn.cons (o := { dst := some 17, op := Op.load 91 (Operand.tmp 5), type := 91, pos := "way.go:23", after := #[{ on := 8, ground := Ground.guard }], guard := some (8, true) }) rfl (fun K hK => ?_) AllReadyIn.nil)
     refine opIn_val (v := .agg Z.toArray) (by rfl) (exec_load_row 91 _ rfl G rfl 91 Z.toArray _ rg Tryz.underlying91 rfl HS.out) (hK _ _ ?_)
     clear hK K
     try simp only [Act.put, List.setIfInBounds_toArray, List.set_cons_zero, List.set_cons_succ]
     refine wpAnyIn_ready (rs := [10]) (by kernel_rfl) (by simp) ?_
     refine (AllReadyIn.cons (o := { dst := some 18, op := Op.call { callee := Callee.value (Operand.func 102), args := #[Operand.tmp 17], argTypes := #[91] }, type := 3, pos := "way.go:23", after := #[{ on := 9, ground := Ground.data }, { on := 8, ground := Ground.chain }, { on := 8, ground := Ground.guard }], guard := some (8, true) }) rfl (fun K hK => ?_) AllReadyIn.nil)
     refine opIn_call (f := 102) (args := #[.agg Z.toArray]) (by rfl) (by simpa [go_sem, resolve, invoke, execOp] using enters_of Tryz.func102 (by kernel_rfl) rfl _ _) ((KN.out _).mono ?_)
     rintro e W2 ⟨rfl, hb2⟩
     refine ⟨_, rfl, hK _ _ ?_⟩
     clear hK K
     try simp only [Act.put, List.setIfInBounds_toArray, List.set_cons_zero, List.set_cons_succ]
     refine wpAnyIn_take (i := 12) (oi := { dst := some 20, op := Op.binOp BinOp.gtr 3 (Operand.tmp 18) (Operand.tmp 19) 3, type := 4, pos := "way.go:23", after := #[{ on := 10, ground := Ground.data }, { on := 11, ground := Ground.data }, { on := 8, ground := Ground.guard }], guard := some (8, true) }) (v := .bool (decide (t < I))) rfl rfl (by kernel_rfl) (by kernel_rfl) (by kernel_rfl) (fun _ _ _ h => h) ⟨Or.inl ⟨by rfl, by intro w; go_simp⟩, by intro w; rfl⟩ ?_
     try simp only [Act.put, List.setIfInBounds_toArray, List.set_cons_zero, List.set_cons_succ]
     refine wpAnyIn_take (i := 13) (oi := { dst := some 21, op := Op.pick (Operand.tmp 16) (Operand.tmp 20) (Operand.const (Value.bool false)), type := 4, pos := "way.go:23", after := #[{ on := 8, ground := Ground.data }, { on := 12, ground := Ground.data }], guard := none }) (v := .bool (decide (t < I))) rfl rfl (by kernel_rfl) (by kernel_rfl) (by kernel_rfl) (fun _ _ _ h => h) ⟨Or.inl ⟨by rfl, by intro w; go_simp⟩, by intro w; rfl⟩ ?_
     try simp only [Act.put, List.setIfInBounds_toArray, List.set_cons_zero, List.set_cons_succ]
     refine wpAnyIn_done (by kernel_rfl) (NoPanic.normal ?_) _
     exact HH1.out W1 W2 hR1 hb2 _ _ _ _ _ _ _ _ _ _ _ _ _
 · refine ⟨_, rfl, hK _ _ ?_⟩
   clear hK K
   try simp only [Act.put, List.setIfInBounds_toArray, List.set_cons_zero, List.set_cons_succ]
   refine wpAnyIn_take (i := 4) (oi := { dst := some 12, op := Op.move (Operand.tmp 11), type := 4, pos := "way.go:23", after := #[{ on := 3, ground := Ground.data }, { on := 3, ground := Ground.chain }], guard := none }) (v := .bool false) rfl rfl (by kernel_rfl) (by kernel_rfl) (by kernel_rfl) (fun _ _ _ h => h) ⟨Or.inl ⟨by rfl, by intro w; go_simp⟩, by intro w; rfl⟩ ?_
   try simp only [Act.put, List.setIfInBounds_toArray, List.set_cons_zero, List.set_cons_succ]
   refine wpAnyIn_take (i := 5) (oi := { dst := some 13, op := Op.move (Operand.tmp 6), type := 35, pos := "way.go:23", after := #[{ on := 4, ground := Ground.guard }], guard := some (4, true) }) (v := undef) rfl rfl (by kernel_rfl) (by kernel_rfl) (by kernel_rfl) (fun _ _ _ h => h) ⟨Or.inr ⟨by rfl, rfl⟩, by intro w; rfl⟩ ?_
   try simp only [Act.put, List.setIfInBounds_toArray, List.set_cons_zero, List.set_cons_succ]
   refine wpAnyIn_take (i := 6) (oi := { dst := some 14, op := Op.binOp BinOp.eql 35 (Operand.tmp 13) (Operand.const (Value.int IntKind.i64 0)) 35, type := 4, pos := "way.go:23", after := #[{ on := 5, ground := Ground.data }, { on := 4, ground := Ground.guard }], guard := some (4, true) }) (v := undef) rfl rfl (by kernel_rfl) (by kernel_rfl) (by kernel_rfl) (fun _ _ _ h => h) ⟨Or.inr ⟨by rfl, rfl⟩, by intro w; rfl⟩ ?_
   try simp only [Act.put, List.setIfInBounds_toArray, List.set_cons_zero, List.set_cons_succ]
   refine wpAnyIn_take (i := 7) (oi := { dst := some 15, op := Op.pick (Operand.tmp 12) (Operand.tmp 14) (Operand.const (Value.bool false)), type := 4, pos := "way.go:23", after := #[{ on := 4, ground := Ground.data }, { on := 6, ground := Ground.data }], guard := none }) (v := .bool false) rfl rfl (by kernel_rfl) (by kernel_rfl) (by kernel_rfl) (fun _ _ _ h => h) ⟨Or.inl ⟨by rfl, by intro w; go_simp⟩, by intro w; rfl⟩ ?_
   try simp only [Act.put, List.setIfInBounds_toArray, List.set_cons_zero, List.set_cons_succ]
   refine wpAnyIn_take (i := 8) (oi := { dst := some 16, op := Op.move (Operand.tmp 15), type := 4, pos := "way.go:23", after := #[{ on := 7, ground := Ground.data }, { on := 4, ground := Ground.chain }], guard := none }) (v := .bool false) rfl rfl (by kernel_rfl) (by kernel_rfl) (by kernel_rfl) (fun _ _ _ h => h) ⟨Or.inl ⟨by rfl, by intro w; go_simp⟩, by intro w; rfl⟩ ?_
   try simp only [Act.put, List.setIfInBounds_toArray, List.set_cons_zero, List.set_cons_succ]
   refine wpAnyIn_take (i := 9) (oi := { dst := some 17, op := Op.load 91 (Operand.tmp 5), type := 91, pos := "way.go:23", after := #[{ on := 8, ground := Ground.guard }], guard := some (8, true) }) (v := undef) rfl rfl (by kernel_rfl) (by kernel_rfl) (by kernel_rfl) (fun _ _ _ h => h) ⟨Or.inr ⟨by rfl, rfl⟩, by intro w; rfl⟩ ?_
   try simp only [Act.put, List.setIfInBounds_toArray, List.set_cons_zero, List.set_cons_succ]
   refine wpAnyIn_take (i := 11) (oi := { dst := some 19, op := Op.load 3 (Operand.tmp 2), type := 3, pos := "way.go:23", after := #[{ on := 8, ground := Ground.guard }], guard := some (8, true) }) (v := undef) rfl rfl (by kernel_rfl) (by kernel_rfl) (by kernel_rfl) (fun _ _ _ h => h) ⟨Or.inr ⟨by rfl, rfl⟩, by intro w; rfl⟩ ?_
   try simp only [Act.put, List.setIfInBounds_toArray, List.set_cons_zero, List.set_cons_succ]
   refine wpAnyIn_ready (rs := [10]) (by kernel_rfl) (by simp) ?_
   refine (AllReadyIn.cons (o := { dst := some 18, op := Op.call { callee := Callee.value (Operand.func 102), args := #[Operand.tmp 17], argTypes := #[91] }, type := 3, pos := "way.go:23", after := #[{ on := 9, ground := Ground.data }, { on := 8, ground := Ground.chain }, { on := 8, ground := Ground.guard }], guard := some (8, true) }) rfl (fun K hK => ?_) AllReadyIn.nil)
   refine opIn_skip (by rfl) (hK _ _ ?_)
   clear hK K
   try simp only [Act.put, List.setIfInBounds_toArray, List.set_cons_zero, List.set_cons_succ]
   refine wpAnyIn_take (i := 12) (oi := { dst := some 20, op := Op.binOp BinOp.gtr 3 (Operand.tmp 18) (Operand.tmp 19) 3, type := 4, pos := "way.go:23", after := #[{ on := 10, ground := Ground.data }, { on := 11, ground := Ground.data }, { on := 8, ground := Ground.guard }], guard := some (8, true) }) (v := undef) rfl rfl (by kernel_rfl) (by kernel_rfl) (by kernel_rfl) (fun _ _ _ h => h) ⟨Or.inr ⟨by rfl, rfl⟩, by intro w; rfl⟩ ?_
   try simp only [Act.put, List.setIfInBounds_toArray, List.set_cons_zero, List.set_cons_succ]
   refine wpAnyIn_take (i := 13) (oi := { dst := some 21, op := Op.pick (Operand.tmp 16) (Operand.tmp 20) (Operand.const (Value.bool false)), type := 4, pos := "way.go:23", after := #[{ on := 8, ground := Ground.data }, { on := 12, ground := Ground.data }], guard := none }) (v := .bool false) rfl rfl (by kernel_rfl) (by kernel_rfl) (by kernel_rfl) (fun _ _ _ h => h) ⟨Or.inl ⟨by rfl, by intro w; go_simp⟩, by intro w; rfl⟩ ?_
   try simp only [Act.put, List.setIfInBounds_toArray, List.set_cons_zero, List.set_cons_succ]
   refine wpAnyIn_done (by kernel_rfl) (NoPanic.normal ?_) _
   exact HH0.out W1 hR1 _ _ _ _ _ _ _ _ _ _ _ _ _
theorem Lc.round {w0 w w1 : World} {base b : Nat} {S0 S : Sto} {P : List (Int × List Int)} {L : List (Nat × List Value × Nat)} (h : Lc w0 base S0 P b w S L) {B : List Nat} (f : Fr B w w1) (hB : ∀ k ∈ B, w0.heap.size <= k /\ k ∉ S.fp) (hL : ∀ x ∈ L, x.1 ∉ B) : Lc w0 base S0 P b w1 S L :=
 ⟨h.ls.keep (fun k q => f.block k (h.ls.sk.fpIn q).2 (fun z => (hB k z).2 q)) f.size,
  ⟨⟨f.os.trans h.sp.fr.os, f.tape.trans h.sp.fr.tape, f.output.trans h.sp.fr.output, Nat.le_trans h.sp.fr.size f.size, fun i hi hn => (f.block i (Nat.lt_of_lt_of_le hi h.sp.fr.size) (fun z => by have := (hB i z).1; omega)).trans (h.sp.fr.block i hi hn)⟩, h.sp.gr, h.sp.st, h.sp.p, h.sp.g, h.sp.s, h.sp.ep, h.sp.D⟩,
  fun x q => ⟨(f.block _ (hlt (h.rows x q).1) (hL x q)).trans (h.rows x q).1, (h.rows x q).2⟩⟩
theorem Lc.up {w0 w : World} {base b : Nat} {S0 S : Sto} {P : List (Int × List Int)} {L : List (Nat × List Value × Nat)} (h : Lc w0 base S0 P b w S L) (c : Nat) (hc : b <= c) : Lc w0 base S0 P c w S L := ⟨h.ls.more c hc, h.sp, h.rows⟩
def numW (G : Nat) (W : World) : Nat := match W.cell? ⟨G, 1, none⟩, W.cell? ⟨G, 2, none⟩ with
 | some (.int _ v), some (.int _ f) => (numR v f).toNat
 | _, _ => 0
theorem numW_row {W : World} {G : Nat} {q : Int} {r : Rc} (h : W.heap[G]? = some (.cells (spC q r).toArray 91 (0, 0))) : numW G W = (numR r.v r.f).toNat := by
 unfold numW
 rw [cell_of_row _ _ _ _ _ _ h, cell_of_row _ _ _ _ _ _ h]
 rfl
structure WySt (w0 : World) (base : Nat) (S0 : Sto) (P : List (Int × List Int)) (b : Nat) (G g3 g5 st : Nat) (t : Int) (B : List Nat) (J : List Wy -> World -> Prop) (Y : List Wy) (pre rest : List Wy) (q : Int) (r : Rc) (ev : Int) (W : World) (S : Sto) : Prop where
 sp : Y = pre ++ rest
 rs : RestY P t q r ev rest
 sd : ev = 0 -> Stands P q r
 j : J pre W
 lc : Lc w0 base S0 P (b + pre.length) W S [(G, spC q r, 91), (g5, [.int .i64 t], 3), (g3, [.pointer (some ⟨st, 0, none⟩)], 27)]
 st : S.st = st
 fb : ∀ k ∈ B, k < W.heap.size /\ k ∉ S.fp
theorem way_iter (n : Nat) (w0 : World) (base : Nat) (S0 : Sto) (P : List (Int × List Int)) (b : Nat) (W0 : World) (S : Sto) (g3 g4 g5 D : Nat) (own : List Nat) (q : Int) (r : Rc) (t : Int) (Y : List Wy)
   (h : Lc w0 base S0 P b W0 S [(g4, spC q r, 91), (g5, [.int .i64 t], 3), (g3, [.pointer (some ⟨S.st, 0, none⟩)], 27)]) (hb : b + Y.length <= 1000000000000000000) (hst : Stands P q r) (ht : 1 <= t) (hY : Way P t q r Y)
   (hB : ∀ k ∈ D :: (D + 1) :: own, k < W0.heap.size /\ k ∉ S.fp /\ w0.heap.size <= k /\ k ≠ g3 /\ k ≠ g5) :
   Iter Fence.wide n Tryz.prog 101 #[.pointer (some ⟨g4, 0, none⟩), .pointer (some ⟨g5, 0, none⟩), .pointer (some ⟨g3, 0, none⟩)] wyC own (fun xs => xs = Y) (fun pre => pre <+: Y) Y.length (fun W' => ∃ S', Lc w0 base S0 P (b + Y.length) W' S' [] /\ S'.st = S.st /\ ∀ k ∈ D :: (D + 1) :: own, k ∉ S'.fp) D W0 := by
 intro J Jx rJ rJx hyl h0
 refine callsIn_wide.2 ?_
 show Calls Tryz.prog 101 #[.func (.yield (D + 1)) #[] #[], .pointer (some ⟨g4, 0, none⟩), .pointer (some ⟨g5, 0, none⟩), .pointer (some ⟨g3, 0, none⟩)] W0 _
 generalize hBB : D :: (D + 1) :: own = B at *
 clear hBB
 generalize D + 1 = l at *
 have HL0 := hid (h.alloc (spC q r) 91)
 have hG4 : W0.heap[g4]? = some (.cells (spC q r).toArray 91 (0, 0)) := h.row List.mem_cons_self
 obtain ⟨G, hG⟩ : ∃ G, G = W0.heap.size := ⟨_, rfl⟩
 have hgl : G < (W0.alloc (.cells (spC q r).toArray 91)).heap.size := by rw [hG]; simp
 have hGB : ∀ k ∈ B, k ≠ G := fun k hk => by have := (hB k hk).1; omega
 have hGg : G ≠ g5 /\ G ≠ g3 := ⟨by have := h.lt (k := g5) (t := 3) (C := [.int .i64 t]) (by simp); omega, by have := h.lt (k := g3) (t := 27) (C := [.pointer (some ⟨S.st, 0, none⟩)]) (by simp); omega⟩
 obtain ⟨st, hstv⟩ : ∃ st, st = S.st := ⟨_, rfl⟩
 have START : Hid (WySt w0 base S0 P b G g3 g5 st t B J Y [] Y q r 0 (W0.alloc (.cells (spC q r).toArray 91)) S) := hid ⟨rfl, Or.inl ⟨rfl, hY⟩, fun _ => hst, rJ _ _ _ h0 (fun k hk => (below_new W0 (.cells (spC q r).toArray 91)).block k (hB k hk).1), by
   have := HL0.out.sub (L1 := [(W0.heap.size, spC q r, 91), (g5, [.int .i64 t], 3), (g3, [.pointer (some ⟨S.st, 0, none⟩)], 27)]) (fun x q => by simp at q ⊢; rcases q with e | e | e <;> simp [e])
   rw [hG, hstv]; exact this, hstv.symm, fun k hk => ⟨Nat.lt_of_lt_of_le (hB k hk).1 (below_new W0 (.cells (spC q r).toArray 91)).size, (hB k hk).2.1⟩⟩
 have HB := hid (show ∀ k ∈ B, w0.heap.size <= k /\ k ≠ g3 /\ k ≠ g5 /\ k ≠ G from fun k hk => ⟨(hB k hk).2.2.1, (hB k hk).2.2.2.1, (hB k hk).2.2.2.2, hGB k hk⟩)
 have HS4 := hid (show (Tryz.prog.info? 91).map (·.size) = some (spC q r).toArray.size by rw [Tryz.sizeSp, List.size_toArray, spC_len q hst.ok])
 have AS2 := hid allocSp
 have LC0 := hid (spC_len 0 rc0_ok)
 have LCq := hid (spC_len q hst.ok)
 have OCq := hid (spC_one q r)
 have HRJ := hid rJ
 have HRX := hid rJx
 have HYL := hid hyl
 have HGG := hid hGg
 have HG4 := hid hG4
 have HGv := hid hG
 have HSTV := hid hstv
 clear h hst hY hB rJ rJx hyl h0 HL0 hG4 hgl hGB hGg
 generalize hZ : spC q r = Z at *
 generalize spC 0 rc0 = Z0 at AS2 LC0
 clear hZ
 go_enter Tryz.func101, Tryz.ntmps101
 go_wp2_with (first
   | refine wpList_load_row_w (by rfl) 91 (.tmp 1) (by rfl) _ (by rfl) 91 _ _ _ HG4.out Tryz.underlying91 rfl HS4.out ?_
   | (refine wpList_new AS2.out LC0.out Tryz.sizeSp rfl rfl rfl _ _ rfl rfl Z rfl rfl LCq.out OCq.out ?_; refine Hid.out ?_))
 refine hid ?_
 rw [<- HGv.out]
 generalize W0.alloc (.cells Z.toArray 91) = W1 at *
 clear HGv HG4 HS4 LCq OCq AS2 LC0 hG hstv
 go_wp2
 go_loopw [6] (fun e W => ∃ (pre rest : List Wy) (q' : Int) (r' : Rc) (ev : Int) (S' : Sto), e = .int .i64 ev /\ WySt w0 base S0 P b G g3 g5 st t B J Y pre rest q' r' ev W S') (fun _ W => numW G W)
 case atStart => exact ⟨[], Y, q, r, 0, S, rfl, START.out⟩
 case round =>
   obtain ⟨pre, rest, q', r', ev, S', rfl, hw⟩ := hrel
   have HW := hid hw
   have hlen : pre.length < Y.length := by
     have := hw.sp
     rw [this, List.length_append]
     rcases hw.rs with ⟨_, z⟩ | ⟨_, _, _, z⟩
     · cases z <;> simp
     · rw [z]; simp
   have HLEN := hid hlen
   have hyl := HYL.out pre (q', r', ev) wr.drew (HRJ.out _ _ _ hw.j (fun _ _ => rfl)) hlen
   have hrow := hw.lc.row List.mem_cons_self
   have HNW := hid (numW_row hrow)
   have okr : RcOk r' := by
     rcases hw.rs with ⟨z, _⟩ | ⟨_, _, z, _⟩
     · exact (hw.sd z).ok
     · rw [z]; exact rc0_ok
   have rng : ∀ W', Fr B wr.drew W' -> Lc w0 base S0 P (b + pre.length) W' S' [(G, spC q' r', 91), (g5, [.int .i64 t], 3), (g3, [.pointer (some ⟨st, 0, none⟩)], 27)] := fun W' f => hw.lc.drew.round f (fun k hk => ⟨(HB.out k hk).1, (hw.fb k hk).2⟩) (fun x hx => by
     simp only [List.mem_cons, List.not_mem_nil, or_false] at hx
     rcases hx with rfl | rfl | rfl
     · exact fun z => (HB.out _ z).2.2.2 rfl
     · exact fun z => (HB.out _ z).2.2.1 rfl
     · exact fun z => (HB.out _ z).2.1 rfl)
   have RNG := hid rng
   have FBW : Hid (∀ W', Fr B wr.drew W' -> ∀ k ∈ B, k < W'.heap.size /\ k ∉ S'.fp) := hid (fun W' f k hk => ⟨Nat.lt_of_lt_of_le (hw.fb k hk).1 f.size, (hw.fb k hk).2⟩)
   have hpos := hw.lc.ls
   rcases hw.rs with ⟨e0, hway⟩ | ⟨e4, _, _, hrest⟩
   · subst e0
     have hsd := hw.sd rfl
     have HSD := hid hsd
     have HWAY := hid hway
     clear hpos rng hw hlen hway
     go_upto_region 1 with fail
     refine way_reg0 n l g4 g5 g3 G t q' r' okr _ _ _ _ _ _ _ _ _ _ _ _ _ _ _ _ _ _ _ _ _ _ _ wr _ hrow _ hyl ?_ ?_ hsd.right.1 ?_ ?_
     · rintro e W' ⟨_, ⟨z, _⟩ | ⟨z, _⟩⟩
       · exact Or.inl z
       · exact Or.inr z
     · rintro W' ⟨f, ⟨z, _⟩ | ⟨_, hj⟩⟩ z8 z9 z10 z11 z12 z13 z14 z15 z16 z17 z18 z19 z20
       · cases z
       have L9 := hid ((RNG.out W' f).sub (L1 := []) (fun x q => by cases q))
       have F9 := hid (FBW.out W' f)
       clear hyl hsd hrow okr
       go_wp2
       go_end0
       refine ⟨⟨_, rfl⟩, ⟨S', L9.out.up _ (by have := HLEN.out; omega), HW.out.st.trans HSTV.out, fun k hk => (F9.out k hk).2⟩, Or.inr ⟨pre ++ [(q', r', 0)], ?_, hj⟩⟩
       rw [HW.out.sp]
       cases HWAY.out with
       | stop _ => exact ⟨[], by simp⟩
       | bad _ _ => exact ⟨[(0, rc0, 4)], by simp⟩
       | @go _ _ _ l2 _ _ _ => exact ⟨l2, by simp⟩
     · rintro W' ⟨f, _⟩
       exact ⟨(RNG.out W' f).row List.mem_cons_self, (RNG.out W' f).row (List.mem_cons_of_mem _ List.mem_cons_self)⟩
     · rintro W' W2 ⟨f, ⟨_, hj⟩ | ⟨z, _⟩⟩ hb2 z8 z9 z10 z11 z12 z13 z14 z15 z16 z17 z18 z19 z20
       rotate_left
       · cases z
       have hL2 := (RNG.out W' f).call hb2
       have hF2 : ∀ k ∈ B, k < W2.heap.size /\ k ∉ S'.fp := fun k hk => ⟨Nat.lt_of_lt_of_le (FBW.out W' f k hk).1 hb2.size, (FBW.out W' f k hk).2⟩
       have hJ2 := HRJ.out _ _ _ hj (fun k hk => hb2.block k (FBW.out W' f k hk).1)
       clear hyl hsd hrow okr hj f hb2
       by_cases hc : t < numR r'.v r'.f
       · rw [decide_eq_true hc]
         have c3 := hL2.cell (k := g3) (C := [.pointer (some ⟨st, 0, none⟩)]) (t := 27) (j := 0) (by simp) rfl
         have c5 := hL2.cell (k := g5) (C := [.int .i64 t]) (t := 3) (j := 0) (by simp) rfl
         have R2 := hid (hL2.row List.mem_cons_self)
         have KF := hid (follow_any W2 base S' P (b + pre.length) hL2.ls (by have := HLEN.out; omega) q' r' HSD.out t ht hc)
         rw [HW.out.st] at KF
         have HSZ := hid (show (Tryz.prog.info? 91).map (·.size) = some (spC q' r').toArray.size by rw [Tryz.sizeSp, List.size_toArray, spC_len q' HSD.out.ok])
         have HL2 := hid hL2
         have HF2 := hid hF2
         have HJ2 := hid hJ2
         have HC := hid hc
         have LF : Hid ((folS P r' t).length = 39 /\ ∀ y ∈ folS P r' t, y.oneCell' = true) := hid (by
           unfold folS
           cases hx : followP P r' t with
           | none => exact ⟨spC_len 0 rc0_ok, spC_one 0 rc0⟩
           | some x => exact ⟨spC_len _ (followP_stands HSD.out ht hc hx).1.ok, spC_one _ _⟩)
         obtain ⟨FS, hFS⟩ : ∃ FS, FS = folS P r' t := ⟨_, rfl⟩
         obtain ⟨FE, hFE⟩ : ∃ FE, FE = folE P r' t := ⟨_, rfl⟩
         rw [<- hFS, <- hFE] at KF
         rw [<- hFS] at LF
         have HFS := hid hFS
         have HFE := hid hFE
         clear hL2 hF2 hJ2 hc hFS hFE
         generalize hZZ : spC q' r' = Z' at *
         have HZZ := hid hZZ
         clear hZZ
         go_wp2_with (first | refine wpList_load_row_w (by rfl) 91 (.tmp 5) (by rfl) _ (by rfl) 91 _ _ _ R2.out Tryz.underlying91 rfl HSZ.out ?_)
         refine KF.out.mono ?_
         rintro e W3 ⟨S3, rfl, hl3, hs3⟩
         have HL3 := hid (HL2.out.store hl3 hs3)
         have F3 : Hid (∀ k ∈ B, k < W3.heap.size /\ k ∉ S3.fp) := hid (fun k hk => ⟨Nat.lt_of_lt_of_le (HF2.out k hk).1 hs3.fr.size, fun z => (hs3.gr k z).elim (HF2.out k hk).2 (fun y => by have := (HF2.out k hk).1; omega)⟩)
         have J3 := hid (HRJ.out _ _ _ HJ2.out (fun k hk => hs3.fr.block k (HF2.out k hk).1 (HF2.out k hk).2))
         have ST3 := hid (hs3.st.trans HW.out.st)
         clear hl3 hs3 KF R2 c3 c5 HL2 HF2 HJ2
         have r3 := HL3.out.row List.mem_cons_self
         have SZ3 := hid (show (Tryz.prog.info? 91).map (·.size) = some FS.toArray.size by rw [Tryz.sizeSp, List.size_toArray, LF.out.1])
         have EQ3 := hid (show Z'.toArray.size = FS.toArray.size by rw [<- HZZ.out, List.size_toArray, List.size_toArray, LF.out.1, spC_len q' HSD.out.ok])
         have OO3 := hid (all_oneCell_toArray LF.out.2)
         go_wp2_with (first | (refine wpList_store_row (by rfl) 91 (.tmp 5) (.tmp 27) (by rfl) G FS.toArray (by rfl) (by rfl) 91 Z'.toArray (by exact r3) SZ3.out EQ3.out OO3.out ?_; refine Hid.out ?_))
         refine hid ?_
         have HL4 := hid (HL3.out.set List.mem_cons_self FS [(g5, [.int .i64 t], 3), (g3, [.pointer (some ⟨st, 0, none⟩)], 27)] (fun x hx => ⟨List.mem_cons_of_mem _ hx, by
           simp only [List.mem_cons, List.not_mem_nil, or_false] at hx
           rcases hx with rfl | rfl
           · exact fun z => HGG.out.1 z.symm
           · exact fun z => HGG.out.2 z.symm⟩))
         have F4 : Hid (∀ k ∈ B, k < (W3.setRow G FS.toArray).heap.size /\ k ∉ S3.fp) := hid (fun k hk => ⟨by simpa using (F3.out k hk).1, (F3.out k hk).2⟩)
         have J4 := hid (HRJ.out _ _ _ J3.out (fun k hk => setRow_other W3 G k FS.toArray (HB.out k hk).2.2.2))
         generalize W3.setRow G FS.toArray = W4 at *
         have NEW : Hid (∃ (rest2 : List Wy) (q2 : Int) (r2 : Rc), WySt w0 base S0 P b G g3 g5 st t B J Y (pre ++ [(q', r', 0)]) rest2 q2 r2 FE W4 S3 /\ numW G W4 < (numR r'.v r'.f).toNat) := hid (by
           have hf := HC.out
           have hn1 := (numR_bd HSD.out.right.1).1
           have key : ∀ (rest2 : List Wy) (q2 : Int) (r2 : Rc), rest = (q', r', 0) :: rest2 -> RestY P t q2 r2 FE rest2 -> (FE = 0 -> Stands P q2 r2) -> FS = spC q2 r2 -> WySt w0 base S0 P b G g3 g5 st t B J Y (pre ++ [(q', r', 0)]) rest2 q2 r2 FE W4 S3 := fun rest2 q2 r2 k1 k2 k3 k4 =>
             ⟨by rw [HW.out.sp, k1]; simp, k2, k3, J4.out, by rw [List.length_append, List.length_singleton, <- k4, <- Nat.add_assoc]; exact HL4.out, ST3.out, F4.out⟩
           cases hfo : followP P r' t with
           | none =>
             have e1 : FE = 4 := by rw [HFE.out]; unfold folE; rw [hfo]
             have e2 : FS = spC 0 rc0 := by rw [HFS.out]; unfold folS; rw [hfo]
             have e3 : rest = [(q', r', 0), (0, rc0, 4)] := by
               cases HWAY.out with
               | stop z => exact absurd hf z
               | bad _ _ => rfl
               | go _ z _ => rw [hfo] at z; cases z
             have k := key [(0, rc0, 4)] 0 rc0 e3 (Or.inr ⟨e1, rfl, rfl, rfl⟩) (fun z => by rw [e1] at z; cases z) e2
             exact ⟨_, _, _, k, by rw [numW_row (k.lc.row List.mem_cons_self)]; show (numR 0 0).toNat < _; rw [show numR 0 0 = 0 from rfl]; omega⟩
           | some x =>
             have e1 : FE = 0 := by rw [HFE.out]; unfold folE; rw [hfo]
             have e2 : FS = spC x.1 x.2 := by rw [HFS.out]; unfold folS; rw [hfo]
             obtain ⟨l2, e3, hw2⟩ : ∃ l2, rest = (q', r', 0) :: l2 /\ Way P t x.1 x.2 l2 := by
               cases HWAY.out with
               | stop z => exact absurd hf z
               | bad _ z => rw [hfo] at z; cases z
               | go _ z hl => rw [hfo] at z; cases z; exact ⟨_, rfl, hl⟩
             obtain ⟨s1, _, _, _, s5, s6⟩ := followP_stands HSD.out ht hf hfo
             have k := key l2 x.1 x.2 e3 (Or.inl ⟨e1, hw2⟩) (fun _ => s1) e2
             exact ⟨_, _, _, k, by rw [numW_row (k.lc.row List.mem_cons_self)]; omega⟩)
         clear HL3 HL4 F3 F4 J3 J4 r3
         go_wp2
         go_roundw
         case rel => obtain ⟨rest2, q2, r2, k, _⟩ := NEW.out; exact ⟨_, rest2, q2, r2, FE, S3, rfl, k⟩
         case measure => obtain ⟨rest2, q2, r2, _, k⟩ := NEW.out; rw [HNW.out]; exact k
       · rw [decide_eq_false hc]
         have L9 := hid (hL2.sub (L1 := []) (fun x q => by cases q))
         have F9 := hid hF2
         have J9 := hid hJ2
         have HC := hid hc
         clear hL2 hF2 hJ2 hc
         go_wp2
         go_end0
         refine ⟨⟨_, rfl⟩, ⟨S', L9.out.up _ (by have := HLEN.out; omega), HW.out.st.trans HSTV.out, fun k hk => (F9.out k hk).2⟩, Or.inl ?_⟩
         have e9 : Y = pre ++ [(q', r', 0)] := by
           rw [HW.out.sp]
           cases HWAY.out with
           | stop _ => rfl
           | bad z _ => exact absurd z (by have := HC.out; omega)
           | go z _ _ => exact absurd z (by have := HC.out; omega)
         rw [e9]; exact J9.out
   · subst e4
     have HREST := hid hrest
     clear hpos rng hw hlen hrest
     go_upto_region 1 with fail
     refine way_reg4 n l g4 g5 g3 G t q' r' okr _ _ _ _ _ _ _ _ _ _ _ _ _ _ _ _ _ _ _ _ _ _ _ wr _ hrow _ hyl ?_ ?_ ?_
     · rintro e W' ⟨_, ⟨z, _⟩ | ⟨z, _⟩⟩
       · exact Or.inl z
       · exact Or.inr z
     · rintro W' ⟨f, ⟨z, _⟩ | ⟨_, hj⟩⟩ z8 z9 z10 z11 z12 z13 z14 z15 z16 z17 z18 z19 z20
       · cases z
       have L9 := hid ((RNG.out W' f).sub (L1 := []) (fun x q => by cases q))
       have F9 := hid (FBW.out W' f)
       clear hyl hrow okr
       go_wp2
       go_end0
       refine ⟨⟨_, rfl⟩, ⟨S', L9.out.up _ (by have := HLEN.out; omega), HW.out.st.trans HSTV.out, fun k hk => (F9.out k hk).2⟩, Or.inr ⟨pre ++ [(q', r', 4)], ?_, hj⟩⟩
       rw [HW.out.sp, HREST.out]
       obtain ⟨z, _⟩ | ⟨_, z2, z3, _⟩ := HW.out.rs
       · cases z
       rw [z2, z3]
       exact ⟨[], by simp⟩
     · rintro W' ⟨f, ⟨_, hj⟩ | ⟨z, _⟩⟩ z8 z9 z10 z11 z12 z13 z14 z15 z16 z17 z18 z19 z20
       rotate_left
       · cases z
       have L9 := hid ((RNG.out W' f).sub (L1 := []) (fun x q => by cases q))
       have F9 := hid (FBW.out W' f)
       clear hyl hrow okr
       go_wp2
       go_end0
       refine ⟨⟨_, rfl⟩, ⟨S', L9.out.up _ (by have := HLEN.out; omega), HW.out.st.trans HSTV.out, fun k hk => (F9.out k hk).2⟩, Or.inl ?_⟩
       have e9 : Y = pre ++ [(q', r', 4)] := by
         rw [HW.out.sp, HREST.out]
         obtain ⟨z, _⟩ | ⟨_, z2, z3, _⟩ := HW.out.rs
         · cases z
         rw [z2, z3]
       rw [e9]; exact hj
end Go.Proofs.YtbnghhgeoodphaaGreatDoor
