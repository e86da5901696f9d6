import Derived.Test.YtjbfaalaogdniaaGreatDoorSb
import Derived.Test.YtjbfaalaogdniaaGreatDoorG9
namespace Go.Proofs.YtjbfaalaogdniaaGreatDoor
set_option linter.unusedVariables false
set_option linter.unusedSimpArgs false
open Go.RowKit
open Go.Proofs.YtjbfaalaogdniaaGreatDoor.Ca (Ct ct0 ctC argV AS)
attribute [local go_sem ↓] Go.wp_at_zero Go.wp_at_succ

def zD : List Int := padz [] 32
theorem zD_len : zD.length = 32 := rfl
/-- A value built, guarded or not. -/
theorem wpList_built {P : Program} {ops : Array Oper} {rest : List Oper} {o : Oper} {a : Act} {w : World} {Q : Exit → Act → World → Prop} (hw : Region.wanted o (yielded ops a.tmps) = true) (t : TypeId) (parts : Array (Nat × Operand)) (ho : o.op = .build t parts) (ps : List (Nat × Value)) (hp : (parts.toList.map fun (i, x) => (i, a.eval x)) = ps) (cs : Array Value) (hb : P.built t ps = some cs)
    (h : wpList P ops Q rest (a.put o.dst (.agg cs)) w) : wpList P ops Q (o :: rest) a w := by
  have e : P.built t (parts.map fun (i, x) => (i, a.eval x)).toList = some cs := by rw [Array.toList_map, hp]; exact hb
  exact BigFrame.wpList_want hw fun _ hK => wp_build t parts ho (by rw [e]; rfl) (by rw [e]; exact hK _ _ h)
/-- A row of bytes compared, at any depth. -/
theorem eqIn_ints {P : Program} {t e : TypeId} {kd : IntKind} {n : Nat} (ht : P.underlying t = some (.array n e)) (hu : P.underlying e = some (.int kd)) (hs : (P.info? e).map (·.size) = some 1) (k : IntKind) (d : Nat) (ax bs : List Int) (ha : ax.length = n) (hb : bs.length = n) (w : World) :
    (Op.equalIn (d + 1 + 1) t (.agg (ax.map (Value.int k)).toArray) (.agg (bs.map (Value.int k)).toArray)).run P w = .ok (decide (ax = bs)) w := by
  obtain ⟨i, hi⟩ := info_of_underlying hu
  have hc : P.cellsOf e = 1 := by simp [Program.cellsOf, hi] at hs ⊢; exact hs
  rw [run_equalIn_array w (d + 1) _ _ ht hi, hc, eqItems_ints hu d k ax bs w _ (fun j hj => by simp at hj; omega), all_range_eq ax bs n ha hb]
theorem part_row {P : Program} {e t : TypeId} {n : Nat} (hu : P.underlying t = some (.array n e)) {m : Nat} (hs : (P.info? t).map (·.size) = some m) (xs : Array Value) (o : Nat) (w : World) : (part t xs o).run P w = .ok (.agg (xs.extract o (o + m))) w := by
  have hagg : (isAgg t).run P w = .ok true w := by
    unfold isAgg
    rw [Sem.run_bind, run_underlying hu w]
    rfl
  obtain ⟨i, hi, rfl⟩ := Option.map_eq_some_iff.1 hs
  simp [part, Sem.run_bind, hagg, sizeOf, typeInfo, hi]
theorem eqFields_cons {P : Program} {d : Nat} {xs ys : Array Value} {f : Field} {fs : List Field} {w : World} {a b : Value} {r : Bool} (hn : f.name ≠ "_") (ha : (part f.type xs f.offset).run P w = .ok a w) (hb : (part f.type ys f.offset).run P w = .ok b w) (hr : (Op.equalIn d f.type a b).run P w = .ok r w) :
    (Op.eqFields d xs ys (f :: fs)).run P w = if r = true then (Op.eqFields d xs ys fs).run P w else .ok false w := by
  simp only [Op.eqFields, ne_eq, hn, not_false_eq_true, if_true, Sem.run_bind, ha, hb, hr, Result.andThen_ok]
  cases r <;> simp
theorem Tryz.sizeD : (Tryz.prog.info? 34).map (·.size) = some 32 := by kernel_rfl
theorem list32 {l : List Value} (h : l.length = 32) : ∃ x0 x1 x2 x3 x4 x5 x6 x7 x8 x9 x10 x11 x12 x13 x14 x15 x16 x17 x18 x19 x20 x21 x22 x23 x24 x25 x26 x27 x28 x29 x30 x31, l = [x0, x1, x2, x3, x4, x5, x6, x7, x8, x9, x10, x11, x12, x13, x14, x15, x16, x17, x18, x19, x20, x21, x22, x23, x24, x25, x26, x27, x28, x29, x30, x31] := by
  match l, h with
  | [x0, x1, x2, x3, x4, x5, x6, x7, x8, x9, x10, x11, x12, x13, x14, x15, x16, x17, x18, x19, x20, x21, x22, x23, x24, x25, x26, x27, x28, x29, x30, x31], _ => exact ⟨x0, x1, x2, x3, x4, x5, x6, x7, x8, x9, x10, x11, x12, x13, x14, x15, x16, x17, x18, x19, x20, x21, x22, x23, x24, x25, x26, x27, x28, x29, x30, x31, rfl⟩
/-- A block made and filled at once. -/
theorem wpList_new {P : Program} {t : TypeId} {Z : List Value} {m : Nat} (hz : ∀ (a : Act) (o : Oper) (w : World), o.op = .alloc t → (execOp a.eval o).run P w = .ok (.value (.pointer (some ⟨w.heap.size, 0, none⟩))) (w.alloc (.cells Z.toArray t))) (hZ : Z.length = m) (hi : (P.info? t).map (·.size) = some m)
    {ops : Array Oper} {rest : List Oper} {o1 o2 : Oper} {a : Act} {w : World} {Q : Exit → Act → World → Prop} (hg1 : o1.guard = none) (ho1 : o1.op = .alloc t) (hg2 : o2.guard = none) (x y : Operand) (ho2 : o2.op = .store t x y) (hd : o2.dst = none)
    (C : List Value) (hx : (a.put o1.dst (.pointer (some ⟨w.heap.size, 0, none⟩))).eval x = .pointer (some ⟨w.heap.size, 0, none⟩)) (hy : (a.put o1.dst (.pointer (some ⟨w.heap.size, 0, none⟩))).eval y = .agg C.toArray) (hC : C.length = m) (h1 : ∀ v ∈ C, v.oneCell' = true)
    (h : wpList P ops Q rest (a.put o1.dst (.pointer (some ⟨w.heap.size, 0, none⟩))) (w.alloc (.cells C.toArray t))) : wpList P ops Q (o1 :: o2 :: rest) a w := by
  refine wpList_plain hg1 fun K hK => ?_
  unfold Oper.wp
  rw [hz a o1 w ho1]
  refine hK _ _ ?_
  refine wpList_store_row hg2 t x y ho2 w.heap.size C.toArray hx hy t Z.toArray (hnew w _) (by rw [hi, List.size_toArray, hC]) (by rw [List.size_toArray, List.size_toArray, hZ, hC]) (all_oneCell_toArray h1) ?_
  rw [hd, setRow_alloc]
  exact h
structure Rc where
  v : Int
  f : Int
  p : Int
  s : Int
  r : Int
  c : Int
  sm : List Int
structure RcOk (x : Rc) : Prop where
  sm : x.sm.length = 32
def rcC (x : Rc) : List Value := [.int .i64 x.v, .int .i64 x.f, .int .i64 x.p, .int .i64 x.s, .int .i64 x.r, .int .i64 x.c] ++ ints .u8 x.sm
theorem rcC_len {x : Rc} (h : RcOk x) : (rcC x).length = 38 := by simp [rcC, ints_len, h.sm]
theorem rcC_one (x : Rc) : ∀ y ∈ rcC x, y.oneCell' = true := fun y hy => by
  simp only [rcC, List.mem_append, List.mem_cons, List.not_mem_nil, or_false] at hy
  rcases hy with (rfl | rfl | rfl | rfl | rfl | rfl) | hy
  · rfl
  · rfl
  · rfl
  · rfl
  · rfl
  · rfl
  · exact ints_one _ _ y hy
def rc0 : Rc := ⟨0, 0, 0, 0, 0, 0, zD⟩
theorem rc0_ok : RcOk rc0 := ⟨rfl⟩
theorem Tryz.sizeRc : (Tryz.prog.info? 36).map (·.size) = some 38 := by kernel_rfl
theorem Tryz.stoodRc : Tryz.prog.stoodInHeld 36 = false := by kernel_rfl
theorem Tryz.guardRc : Tryz.prog.eqGuardType Tryz.prog.depth 36 = false := by kernel_rfl
set_option maxRecDepth 100000 in
theorem Tryz.fieldsRc : ∃ a b c d e f g, (Tryz.prog.fieldsOf 36).toList = [a, b, c, d, e, f, g] ∧ (a.name ≠ "_" ∧ b.name ≠ "_" ∧ c.name ≠ "_" ∧ d.name ≠ "_" ∧ e.name ≠ "_" ∧ f.name ≠ "_" ∧ g.name ≠ "_") ∧ (a.type = 3 ∧ b.type = 3 ∧ c.type = 3 ∧ d.type = 3 ∧ e.type = 3 ∧ f.type = 3 ∧ g.type = 34) ∧ a.offset = 0 ∧ b.offset = 1 ∧ c.offset = 2 ∧ d.offset = 3 ∧ e.offset = 4 ∧ f.offset = 5 ∧ g.offset = 6 := by
  refine ⟨_, _, _, _, _, _, _, rfl, ⟨?_, ?_, ?_, ?_, ?_, ?_, ?_⟩, ⟨?_, ?_, ?_, ?_, ?_, ?_, ?_⟩, ?_, ?_, ?_, ?_, ?_, ?_, ?_⟩ <;> decide
theorem Tryz.undRc : Tryz.prog.underlying 36 = some (.struct (Tryz.prog.fieldsOf 36)) := by kernel_rfl
set_option maxRecDepth 100000 in
theorem eqRc (x : Rc) (h : RcOk x) (w : World) :
    (Op.equalIn 10000 36 (.agg (rcC x).toArray) (.agg (rcC x).toArray)).run Tryz.prog w = .ok true w := by
  rw [run_equalIn_struct w 9999 _ _ _ Tryz.undRc Tryz.stoodRc]
  obtain ⟨a, b, c, d, e, f, g, hf, ⟨na, nb, nc, nd, ne, nf, ng⟩, ⟨ta, tb, tc, td, te, tf, tg⟩, oa, ob, oc, od, oe, of, og⟩ := Tryz.fieldsRc
  rw [hf]
  have hu3 : Tryz.prog.underlying 3 = some (.int .i64) := by kernel_rfl
  have e3 : ((rcC x).toArray).extract 6 (6 + 32) = (x.sm.map (Value.int .u8)).toArray := by
    simp only [rcC, ints, List.extract_toArray]
    congr 1
    simp only [List.extract_eq_take_drop, List.cons_append, List.nil_append, List.drop_succ_cons, List.drop_zero]
    rw [List.take_of_length_le (by simp [h.sm])]
  have hd := fun xs o => part_row Tryz.underlying34 Tryz.sizeD xs o w
  have hq := eqIn_ints Tryz.underlying34 Tryz.underlying5 Tryz.size5 .u8 9997 x.sm x.sm h.sm h.sm w
  rw [decide_eq_true rfl] at hq
  have hi : ∀ z : Int, (Op.equalIn 9999 3 (.int .i64 z) (.int .i64 z)).run Tryz.prog w = .ok true w := fun z => by
    have := run_equalIn_int w 9998 3 .i64 .i64 z z hu3
    simpa using this
  rw [eqFields_cons na (by rw [ta, oa]; exact part_int hu3 _ _ (.int .i64 x.v) rfl w) (by rw [ta, oa]; exact part_int hu3 _ _ (.int .i64 x.v) rfl w) (by rw [ta]; exact hi _), if_pos rfl,
    eqFields_cons nb (by rw [tb, ob]; exact part_int hu3 _ _ (.int .i64 x.f) rfl w) (by rw [tb, ob]; exact part_int hu3 _ _ (.int .i64 x.f) rfl w) (by rw [tb]; exact hi _), if_pos rfl,
    eqFields_cons nc (by rw [tc, oc]; exact part_int hu3 _ _ (.int .i64 x.p) rfl w) (by rw [tc, oc]; exact part_int hu3 _ _ (.int .i64 x.p) rfl w) (by rw [tc]; exact hi _), if_pos rfl,
    eqFields_cons nd (by rw [td, od]; exact part_int hu3 _ _ (.int .i64 x.s) rfl w) (by rw [td, od]; exact part_int hu3 _ _ (.int .i64 x.s) rfl w) (by rw [td]; exact hi _), if_pos rfl,
    eqFields_cons ne (by rw [te, oe]; exact part_int hu3 _ _ (.int .i64 x.r) rfl w) (by rw [te, oe]; exact part_int hu3 _ _ (.int .i64 x.r) rfl w) (by rw [te]; exact hi _), if_pos rfl,
    eqFields_cons nf (by rw [tf, of]; exact part_int hu3 _ _ (.int .i64 x.c) rfl w) (by rw [tf, of]; exact part_int hu3 _ _ (.int .i64 x.c) rfl w) (by rw [tf]; exact hi _), if_pos rfl,
    eqFields_cons ng (by rw [tg, og]; exact (hd _ 6).trans (by rw [e3])) (by rw [tg, og]; exact (hd _ 6).trans (by rw [e3])) (by rw [tg]; exact hq), if_pos rfl]
  simp [Op.eqFields]
theorem built_rc0 : Tryz.prog.built 36 [] = some (rcC rc0).toArray := by kernel_rfl
theorem allocRc (a : Act) (o : Oper) (w : World) (ho : o.op = .alloc 36) : (execOp a.eval o).run Tryz.prog w = .ok (.value (.pointer (some ⟨w.heap.size, 0, none⟩))) (w.alloc (.cells (rcC rc0).toArray 36)) := by
  unfold execOp
  rw [ho]
  kernel_rfl
theorem resC3 {P : Program} {fn : Func} {p q r : Tmp} {ty : TypeId} (h : fn.results = #[.cell p ty, .tmp q, .tmp r]) (tmps : Array Value) (w : World) (g : Nat) (t : TypeId) (cs : Array Value) (fr : Nat × Nat) (d : TypeDesc)
    (hp : tmps.getD p undef = .pointer (some ⟨g, 0, none⟩)) (hg : w.heap[g]? = some (.cells cs t fr))
    (hu : P.underlying ty = some d) (hd : (match d with | .struct _ | .array _ _ => true | _ => false) = true) (hi : (P.info? ty).map (·.size) = some cs.size) :
    (results fn tmps).run P w = .ok (.tuple #[.agg cs, tmps.getD q undef, tmps.getD r undef]) w := by
  have hp' : tmps[p]?.getD undef = .pointer (some ⟨g, 0, none⟩) := by simpa using hp
  simp [results, h, hp', asAddr, run_loadVar_row w g t ty cs fr d hg hu hd hi]
theorem resT3 {fn : Func} {t u v : Tmp} (h : fn.results = #[.tmp t, .tmp u, .tmp v]) (tmps : Array Value) (P : Program) (w : World) :
    (results fn tmps).run P w = .ok (.tuple #[tmps.getD t undef, tmps.getD u undef, tmps.getD v undef]) w := by
  simp [results, h]
theorem SK.off {W wr : World} {base : Nat} {S : Sto} (h : SK W base S) (hf : Fr (S.g :: S.F) W wr) :
    wr.heap[S.st]? = W.heap[S.st]? ∧ (∀ k, S.sv.ownBlock = some k → wr.heap[k]? = W.heap[k]?) ∧ (∀ k ∈ S.lb, wr.heap[k]? = W.heap[k]?) ∧ (∀ k ∈ S.FC, wr.heap[k]? = W.heap[k]?) := by
  refine ⟨hf.block S.st h.lt_st ?_, fun k e => hf.block k (h.in_lt (by simp [e])).2 ?_, fun k e => hf.block k (h.in_lt (by simp [e])).2 ?_, fun k e => hf.block k (h.in_lt (by simp [e])).2 ?_⟩
  · intro q
    rcases List.mem_cons.1 q with z | z
    · exact h.st_apart.1 z
    · exact h.st_apart.2.1 z
  · intro q
    rcases List.mem_cons.1 q with z | z
    · exact (h.sv_apart e).1 z
    · exact (h.sv_apart e).2.2.1 z
  · intro q
    rcases List.mem_cons.1 q with z | z
    · exact h.g_apart.2.2 (z ▸ e)
    · exact h.a2 k z e
  · intro q
    rcases List.mem_cons.1 q with z | z
    · exact h.g_apart.2.1 (z ▸ e)
    · exact h.a1 k z e
/-- The disk has changed beneath, nothing was published. -/
theorem SK.disked {w w' : World} {base : Nat} {S : Sto} (h : SK w base S) {F' : List Nat} {D' : DS} (hD : DA w' base F' S.p D') (m : Nat) (hm : S.s.ma = m) (hf : FK w' S.g S.p S.s S.s.ma S.ep) (fr : Fr (S.g :: S.F) w w') (gr : Gr w S.F F') (hck : ∀ x ∈ S.a.clean, D'.readOf x.1.toNat = S.D.readOf x.1.toNat) :
    SK w' base { S with F := F', D := D', nx := m } := by
  obtain ⟨o1, o2, o3, o4⟩ := h.off fr
  have hold2 : ∀ k, (k = S.g ∨ k = S.st ∨ k ∈ S.F ∨ k ∈ S.FC ∨ S.sv.ownBlock = some k ∨ k ∈ S.lb) → base ≤ k ∧ k < w.heap.size := fun k q => h.in_lt q
  refine ⟨hD, ?_, ?_, o1.trans h.sk, ownsRow_heap h.so o2, fun k q => ⟨(h.lb k q).1, ?_⟩, h.cl, fun j hj => (h.cv j hj).to (fun k q => q) o3, fun x hx => ?_, h.hd, fun k hk q => ?_, fun k hk q => ?_, h.a3, h.bg, h.bs, h.bp⟩
  · show FK w' S.g S.p S.s (m : Int) S.ep
    rw [← hm]; exact hf
  · obtain ⟨mm, n, s, L, e, c, r⟩ := h.ca
    exact ⟨mm, n, s, L, e, c.of_heap fun k hk => o4 k (by rw [e]; exact hk), r⟩
  · obtain ⟨cs, hc⟩ := (h.lb k q).2
    exact ⟨cs, (o3 k q).trans hc⟩
  · obtain ⟨v, h1, h2, h3, h4⟩ := h.ck x hx
    exact ⟨v, h1.to (fun k q => q) o3, h2, h3, by show unpackF x.1 (D'.readOf x.1.toNat) = _; rw [hck x hx]; exact h4⟩
  · rcases gr k hk with z | z
    · exact h.a1 k z q
    · have := (hold2 k (by simp [q])).2; omega
  · rcases gr k hk with z | z
    · exact h.a2 k z q
    · have := (hold2 k (by simp [q])).2; omega
set_option maxRecDepth 100000 in
set_option maxHeartbeats 1000000 in
/-- Live, by the store's cells alone. -/
theorem oLive_min (w : World) (base : Nat) (F : List Nat) (st g p : Nat) (s : Sup) (nx ep : Int) (D : DS) (c0 : w.cell? ⟨st, 0, none⟩ = some (.pointer (some ⟨g, 0, none⟩))) (hf : FK w g p s nx ep) (hD : DA w base F p D) :
    Calls Tryz.prog 18 #[.pointer (some ⟨st, 0, none⟩)] w fun e w' => e = .returned (.int .i64 (liveF D ep)) ∧ Below w.heap.size w w' := by
  have HL := hid (Live_any w base F p D hD g s nx ep hf)
  clear hf hD
  generalize liveF D ep = c at *
  go_enter Tryz.func18, Tryz.ntmps18
  go_wp2_with fail
  refine HL.out.mono ?_
  rintro e w1 ⟨rfl, hb⟩
  go_wp2
  go_ret
  exact ⟨rfl, hb⟩
theorem built_rc2 (v f : Int) : Tryz.prog.built 36 [(0, .int .i64 v), (1, .int .i64 f)] = some (rcC ⟨v, f, 0, 0, 0, 0, zD⟩).toArray := by kernel_rfl
def sp0 : List Value := .int .i64 0 :: rcC rc0
theorem sp0_one : ∀ y ∈ sp0, y.oneCell' = true := fun y hy => by
  rcases List.mem_cons.1 hy with e | e
  · rw [e]; rfl
  · exact rcC_one _ y e
theorem Tryz.sizeSp : (Tryz.prog.info? 63).map (·.size) = some 39 := by kernel_rfl
theorem built_sp0 : Tryz.prog.built 63 [] = some sp0.toArray := by kernel_rfl
theorem allocSp (a : Act) (o : Oper) (w : World) (ho : o.op = .alloc 63) : (execOp a.eval o).run Tryz.prog w = .ok (.value (.pointer (some ⟨w.heap.size, 0, none⟩))) (w.alloc (.cells sp0.toArray 63)) := by
  unfold execOp
  rw [ho]
  kernel_rfl
theorem wpList_allocRc {w : World} {ops : Array Oper} {rest : List Oper} {o : Oper} {a : Act} {Q : Exit → Act → World → Prop} (hg : o.guard = none) (ho : o.op = .alloc 36)
    (h : wpList Tryz.prog ops Q rest (a.put o.dst (.pointer (some ⟨w.heap.size, 0, none⟩))) (w.alloc (.cells (rcC rc0).toArray 36))) : wpList Tryz.prog ops Q (o :: rest) a w := by
  refine wpList_plain hg fun K hK => ?_
  unfold Oper.wp
  rw [allocRc a o w ho]
  exact hK _ _ h
theorem wpList_allocSp {w : World} {ops : Array Oper} {rest : List Oper} {o : Oper} {a : Act} {Q : Exit → Act → World → Prop} (hg : o.guard = none) (ho : o.op = .alloc 63)
    (h : wpList Tryz.prog ops Q rest (a.put o.dst (.pointer (some ⟨w.heap.size, 0, none⟩))) (w.alloc (.cells sp0.toArray 63))) : wpList Tryz.prog ops Q (o :: rest) a w := by
  refine wpList_plain hg fun K hK => ?_
  unfold Oper.wp
  rw [allocSp a o w ho]
  exact hK _ _ h
/-- How a call that answers a number and touches nothing older is known. -/
def Tel (f : FuncId) (av : Array Value) (w : World) (c : Int) : Prop := ∀ w1, Below w.heap.size w w1 → Calls Tryz.prog f av w1 fun e w2 => e = .returned (.int .i64 c) ∧ Below w1.heap.size w1 w2
theorem Tel.later {f : FuncId} {av : Array Value} {w w1 : World} {c : Int} (h : Tel f av w c) (hb : Below w.heap.size w w1) : Tel f av w1 c := fun w2 h2 => h w2 (hb.trans (h2.mono hb.size))
set_option maxRecDepth 100000 in
set_option maxHeartbeats 2000000 in
theorem pageOrNone_any (w : World) (st : Nat) (nx q : Int) (NX : Tel 8 #[.pointer (some ⟨st, 0, none⟩)] w nx) :
    Calls Tryz.prog 41 #[.pointer (some ⟨st, 0, none⟩), .int .i64 q] w fun e w' => e = .returned (.bool (decide (q = 0 ∨ (2 ≤ q ∧ q < nx)))) ∧ Below w.heap.size w w' := by
  have HN := hid (NX w (Below.refl _ _))
  clear NX
  by_cases h0 : q = 0
  · subst h0
    rw [decide_eq_true (Or.inl rfl)]
    clear HN
    go_enter Tryz.func41, Tryz.ntmps41
    go_wp2
    go_ret
    exact ⟨rfl, Below.refl _ _⟩
  · have e0 : (q == 0) = false := by simpa using h0
    by_cases h1 : 2 ≤ q
    · have e1 : decide (q = 0 ∨ (2 ≤ q ∧ q < nx)) = decide (q < nx) := by simp [h0, h1]
      rw [e1]
      clear e1 h0
      go_enter Tryz.func41, Tryz.ntmps41
      go_wp2_with fail
      refine HN.out.mono ?_
      rintro e w1 ⟨rfl, hb⟩
      go_wp2
      go_ret
      exact ⟨rfl, hb⟩
    · have e1 : decide (q = 0 ∨ (2 ≤ q ∧ q < nx)) = false := by simp [h0, h1]
      rw [e1]
      clear e1 h0 HN
      go_enter Tryz.func41, Tryz.ntmps41
      go_wp2
      go_ret
      exact ⟨rfl, Below.refl _ _⟩
set_option maxRecDepth 100000 in
set_option maxHeartbeats 2000000 in
theorem ready_nil (w : World) (q : Int) : Tel 23 #[.pointer none, .int .i64 q] w 1 := fun w1 _ => by
  go_enter Tryz.func23, Tryz.ntmps23
  go_wp2
  go_ret
  exact ⟨rfl, Below.refl _ _⟩
set_option maxRecDepth 100000 in
set_option maxHeartbeats 2000000 in
theorem ready_dead (w : World) (st : Nat) (c q : Int) (hc : c ≠ 0) (LV : Tel 18 #[.pointer (some ⟨st, 0, none⟩)] w c) : Tel 23 #[.pointer (some ⟨st, 0, none⟩), .int .i64 q] w c := fun w1 hb1 => by
  have HL := hid (LV w1 hb1)
  have hc1 : (c != 0) = true := by simpa using hc
  clear LV hc hb1
  go_enter Tryz.func23, Tryz.ntmps23
  go_wp2_with fail
  refine HL.out.mono ?_
  rintro e w2 ⟨rfl, hb2⟩
  go_wp2
  go_ret
  exact ⟨rfl, hb2⟩
set_option maxRecDepth 100000 in
set_option maxHeartbeats 2000000 in
theorem ready_live (w : World) (st : Nat) (nx q : Int) (LV : Tel 18 #[.pointer (some ⟨st, 0, none⟩)] w 0) (NX : Tel 8 #[.pointer (some ⟨st, 0, none⟩)] w nx) : Tel 23 #[.pointer (some ⟨st, 0, none⟩), .int .i64 q] w (if q = 0 ∨ (2 ≤ q ∧ q < nx) then 0 else 41) := fun w1 hb1 => by
  have HL := hid (LV w1 hb1)
  have HP := hid (fun w2 (hb : Below w1.heap.size w1 w2) => pageOrNone_any w2 st nx q ((NX.later hb1).later hb))
  clear LV NX hb1
  by_cases h : q = 0 ∨ (2 ≤ q ∧ q < nx)
  · rw [if_pos h]
    rw [decide_eq_true h] at HP
    clear h
    go_enter Tryz.func23, Tryz.ntmps23
    go_wp2_with fail
    refine HL.out.mono ?_
    rintro e w2 ⟨rfl, hb2⟩
    have HB2 := hid hb2
    clear hb2
    go_wp2_with fail
    refine (HP.out w2 HB2.out).mono ?_
    rintro e w3 ⟨rfl, hb3⟩
    go_wp2
    go_ret
    exact ⟨rfl, HB2.out.trans (hb3.mono HB2.out.size)⟩
  · rw [if_neg h]
    rw [decide_eq_false h] at HP
    clear h
    go_enter Tryz.func23, Tryz.ntmps23
    go_wp2_with fail
    refine HL.out.mono ?_
    rintro e w2 ⟨rfl, hb2⟩
    have HB2 := hid hb2
    clear hb2
    go_wp2_with fail
    refine (HP.out w2 HB2.out).mono ?_
    rintro e w3 ⟨rfl, hb3⟩
    go_wp2
    go_ret
    exact ⟨rfl, HB2.out.trans (hb3.mono HB2.out.size)⟩
set_option maxRecDepth 100000 in
set_option maxHeartbeats 2000000 in
theorem iadd_bad (w : World) (v : Value) (q c : Int) (x : Rc) (hc : c ≠ 0) (RD : Tel 23 #[v, .int .i64 q] w c) : Calls Tryz.prog 16 #[v, .int .i64 q, .agg (rcC x).toArray] w fun e w' => e = .returned (.tuple #[.int .i64 0, .int .i64 c]) ∧ Below w.heap.size w w' := by
  have hc1 : (c != 0) = true := by simpa using hc
  generalize rcC x = C at *
  have hb0 := below_new w (.cells C.toArray 36)
  have HR := hid (RD _ hb0)
  have HB0 := hid hb0
  clear RD hc hb0
  go_enter Tryz.func16, Tryz.ntmps16
  go_wp2_with fail
  refine HR.out.mono ?_
  rintro e w2 ⟨rfl, hb2⟩
  go_wp2
  go_ret2
  exact ⟨rfl, HB0.out.trans (hb2.mono HB0.out.size)⟩
set_option maxRecDepth 100000 in
set_option maxHeartbeats 2000000 in
theorem ibounds_bad (w : World) (v : Value) (q c : Int) (hc : c ≠ 0) (RD : Tel 23 #[v, .int .i64 q] w c) : Calls Tryz.prog 17 #[v, .int .i64 q] w fun e w' => e = .returned (.tuple #[.int .i64 0, .int .i64 0, .int .i64 c]) ∧ Below w.heap.size w w' := by
  have hc1 : (c != 0) = true := by simpa using hc
  have HR := hid (RD w (Below.refl _ _))
  clear RD hc
  go_enter Tryz.func17, Tryz.ntmps17
  go_wp2_with fail
  refine HR.out.mono ?_
  rintro e w2 ⟨rfl, hb2⟩
  go_wp2
  exact bodyPost_ret (resT3 Tryz.results17 _ _ _) rfl ⟨rfl, hb2⟩
set_option maxRecDepth 100000 in
set_option maxHeartbeats 2000000 in
theorem ifind_bad (w : World) (v : Value) (q n c : Int) (hc : c ≠ 0) (RD : Tel 23 #[v, .int .i64 q] w c) : Calls Tryz.prog 9 #[v, .int .i64 q, .int .i64 n] w fun e w' => e = .returned (.tuple #[.agg (rcC rc0).toArray, .int .i64 0, .int .i64 c]) ∧ Below w.heap.size w w' := by
  have hc1 : (c != 0) = true := by simpa using hc
  have hb0 := below_new w (.cells (rcC rc0).toArray 36)
  have hr0 := hnew w (.cells (rcC rc0).toArray 36)
  have HR := hid (RD _ hb0)
  have HB0 := hid hb0
  have BR := hid built_rc0
  have hN := hid (show (Tryz.prog.info? 36).map (·.size) = some (rcC rc0).toArray.size by rw [Tryz.sizeRc, List.size_toArray, rcC_len rc0_ok])
  have hO := hid (all_oneCell_toArray (rcC_one rc0))
  have AL := hid (fun (w : World) (ops : Array Oper) (rest : List Oper) (o : Oper) (a : Act) (Q : Exit → Act → World → Prop) => @wpList_allocRc w ops rest o a Q)
  generalize (rcC rc0).toArray = C at *
  have HR0 := hid hr0
  clear RD hc hb0 hr0
  go_enter Tryz.func9, Tryz.ntmps9
  go_wp2_with (first | refine AL.out _ _ _ _ _ _ rfl rfl ?_)
  refine HR.out.mono ?_
  rintro e w2 ⟨rfl, hb2⟩
  have r2 := (hb2.block _ (hlt HR0.out)).trans HR0.out
  have hb3 := HB0.out.trans (hb2.mono HB0.out.size)
  have hb4 := below_setRow hb3 (Nat.le_refl _) C
  have r4 : (w2.setRow w.heap.size C).heap[w.heap.size]? = _ := setRow_heap w2 _ _ _ _ _ r2
  clear hb2 HR0 HB0 HR hb3
  go_wp2_with (first
    | refine wpList_built (by rfl) 36 _ rfl _ rfl _ BR.out ?_
    | refine wpList_store_row (by rfl) 36 (.tmp 6) (.tmp 17) (by rfl) w.heap.size C (by rfl) (by rfl) 36 C (by exact r2) hN.out rfl hO.out ?_)
  exact bodyPost_ret (v := .tuple #[.agg C, .int .i64 0, .int .i64 c]) (resC3 Tryz.results9 _ _ w.heap.size 36 _ _ _ rfl r4 Tryz.underlying36 rfl hN.out) rfl ⟨rfl, hb4⟩
end Go.Proofs.YtjbfaalaogdniaaGreatDoor
