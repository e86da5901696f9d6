import Derived.Test.YtenfklcgkfaajaaDk4
namespace Go.Proofs.Ytenfklcgkfaajaa
set_option linter.unusedVariables false
set_option linter.unusedSimpArgs false
open Go.RowKit
attribute [local go_sem ↓] Go.wp_at_zero Go.wp_at_succ

theorem run_storeVar_c {P : Program} (w : World) (b o : Nat) (ty : TypeId) (v : Value) (cs : List Value) (t : TypeId) (hrow : w.heap[b]? = some (.cells cs.toArray t (0, 0))) (hj : o < cs.length) (hi : (P.info? ty).map (·.size) = some 1) (hv : v.cells = #[v]) (h1 : v.oneCell' = true) :
    (storeVar ty ⟨b, o, none⟩ v).run P w = .ok () (w.setRow b (cs.set o v).toArray) := by
  have := run_storeCells_cells (P := P) b o [v] 0 w (fun j hj2 => by
      have hj3 : j = 0 := by simp only [List.length_singleton] at hj2; omega
      subst hj3
      rw [cell_of_row _ _ _ _ _ _ hrow, List.getElem?_toArray, List.getElem?_eq_getElem (by omega)]; rfl) (fun j _ => frozen_of_row _ _ _ _ _ hrow)
    (fun u hu => by rw [List.mem_singleton.1 hu]; exact h1)
  have e := setCells_row (vs := [v]) (o := o) hrow (by rw [List.length_singleton]; omega) (fun u hu => by rw [List.mem_singleton.1 hu]; exact h1)
  have e2 : cs.take o ++ [v] ++ cs.drop (o + [v].length) = cs.set o v := by
    rw [List.set_eq_take_append_cons_drop, if_pos hj, List.append_assoc]; rfl
  rw [e2] at e
  cases hq : P.info? ty with
  | none => simp [hq] at hi
  | some i =>
    have hs : i.size = 1 := by simpa [hq] using hi
    simp only [Nat.add_zero] at this
    simp [storeVar, sizeOf, typeInfo, hq, hv, hs, this, e]
theorem wpList_storeC {P : Program} {ops : Array Oper} {rest : List Oper} {op : Oper} {a : Act} {w : World} {Q : Exit → Act → World → Prop} (hgd : op.guard = none) (ty : TypeId) (x y : Operand) (ho : op.op = .store ty x y)
    (b o : Nat) (v : Value) (hx : a.eval x = .pointer (some ⟨b, o, none⟩)) (hy : a.eval y = v) (cs : List Value) (t : TypeId) (hrow : w.heap[b]? = some (.cells cs.toArray t (0, 0))) (hj : o < cs.length) (hi : (P.info? ty).map (·.size) = some 1) (hv : v.cells = #[v]) (h1 : v.oneCell' = true)
    (h : wpList P ops Q rest (a.put op.dst undef) (w.setRow b (cs.set o v).toArray)) : wpList P ops Q (op :: rest) a w :=
  wpList_plain hgd fun _ hK => by
    unfold Oper.wp execOp
    simp only [ho, hx, hy, Instr.storeAt, Instr.sureAddr, Sem.run_bind, Sem.run_pure, Result.andThen_ok, run_storeVar_c w b o ty v cs t hrow hj hi hv h1]
    exact hK _ _ h
theorem results_c3 {P : Program} {fn : Func} {p q r : Tmp} {ty : TypeId} (h : fn.results = #[.cell p ty, .tmp q, .tmp r]) (tmps : Array Value) (w : World) (g : Nat) (t : TypeId) (cs : Array Value) (fr : Nat × Nat) (d : TypeDesc)
    (hp : tmps.getD p undef = .pointer (some ⟨g, 0, none⟩)) (hg : w.heap[g]? = some (.cells cs t fr))
    (hu : P.underlying ty = some d) (hd : (match d with | .struct _ | .array _ _ => true | _ => false) = true) (hi : (P.info? ty).map (·.size) = some cs.size) :
    (results fn tmps).run P w = .ok (.tuple #[.agg cs, tmps.getD q undef, tmps.getD r undef]) w := by
  have hp' : tmps[p]?.getD undef = .pointer (some ⟨g, 0, none⟩) := by simpa using hp
  simp [results, h, hp', asAddr, run_loadVar_row w g t ty cs fr d hg hu hd hi]
theorem results_c2 {P : Program} {fn : Func} {p q : Tmp} {ty : TypeId} (h : fn.results = #[.cell p ty, .tmp q]) (tmps : Array Value) (w : World) (g : Nat) (t : TypeId) (cs : Array Value) (fr : Nat × Nat) (d : TypeDesc)
    (hp : tmps.getD p undef = .pointer (some ⟨g, 0, none⟩)) (hg : w.heap[g]? = some (.cells cs t fr))
    (hu : P.underlying ty = some d) (hd : (match d with | .struct _ | .array _ _ => true | _ => false) = true) (hi : (P.info? ty).map (·.size) = some cs.size) :
    (results fn tmps).run P w = .ok (.tuple #[.agg cs, tmps.getD q undef]) w := by
  have hp' : tmps[p]?.getD undef = .pointer (some ⟨g, 0, none⟩) := by simpa using hp
  simp [results, h, hp', asAddr, run_loadVar_row w g t ty cs fr d hg hu hd hi]

theorem setRow_keeps {w : World} {b : Nat} {cs ds : List Value} {t : TypeId} (h : w.heap[b]? = some (.cells cs.toArray t (0, 0))) : (w.setRow b ds.toArray).heap[b]? = some (.cells ds.toArray t (0, 0)) ∧ Keeps b w (w.setRow b ds.toArray) :=
  ⟨setRow_heap _ _ _ _ _ _ h, (Keeps.refl b w).setRow _⟩
/-- A store of one cell into a block that is known whole: the world behind it has a name of its own. -/
theorem wpList_storeW {P : Program} {ops : Array Oper} {rest : List Oper} {op : Oper} {a : Act} {w : World} {Q : Exit → Act → World → Prop} (hgd : op.guard = none) (ty : TypeId) (x y : Operand) (ho : op.op = .store ty x y)
    (b o : Nat) (v : Value) (hx : a.eval x = .pointer (some ⟨b, o, none⟩)) (hy : a.eval y = v) (cs : List Value) (t : TypeId) (hrow : w.heap[b]? = some (.cells cs.toArray t (0, 0))) (hj : o < cs.length) (hi : (P.info? ty).map (·.size) = some 1) (hv : v.cells = #[v]) (h1 : v.oneCell' = true)
    (h : ∀ w', w'.heap[b]? = some (.cells (cs.set o v).toArray t (0, 0)) → Keeps b w w' → wpList P ops Q rest (a.put op.dst undef) w') : wpList P ops Q (op :: rest) a w :=
  wpList_storeC hgd ty x y ho b o v hx hy cs t hrow hj hi hv h1 (h _ (setRow_keeps hrow).1 (setRow_keeps hrow).2)
theorem wpList_storeRowW {P : Program} {ops : Array Oper} {rest : List Oper} {o : Oper} {a : Act} {w : World} {Q : Exit → Act → World → Prop} (hgd : o.guard = none) (ty : TypeId) (x y : Operand) (ho : o.op = .store ty x y)
    (g : Nat) (cells : List Value) (hx : a.eval x = .pointer (some ⟨g, 0, none⟩)) (hy : a.eval y = .agg cells.toArray)
    (t : TypeId) (old : List Value) (hg : w.heap[g]? = some (.cells old.toArray t (0, 0))) (hi : (P.info? ty).map (·.size) = some cells.length)
    (hold : old.length = cells.length) (h1 : ∀ v ∈ cells, v.oneCell' = true)
    (h : ∀ w', w'.heap[g]? = some (.cells cells.toArray t (0, 0)) → Keeps g w w' → wpList P ops Q rest (a.put o.dst undef) w') : wpList P ops Q (o :: rest) a w :=
  wpList_store_row hgd ty x y ho g cells.toArray hx hy t old.toArray hg (by simpa using hi) (by simpa using hold) (by simpa using h1) (h _ (setRow_keeps hg).1 (setRow_keeps hg).2)
theorem Try.sizeInt : (Try.prog.info? 3).map (·.size) = some 1 := by kernel_rfl
theorem Try.sizeBy : (Try.prog.info? 22).map (·.size) = some 1 := by kernel_rfl
theorem Try.sizeRq : (Try.prog.info? 36).map (·.size) = some 7 := by kernel_rfl
theorem ne_ty {w : World} {a b : Nat} {cs ds : Array Value} {t u : TypeId} {fr gr : Nat × Nat} (h : w.heap[a]? = some (.cells cs t fr)) (k : w.heap[b]? = some (.cells ds u gr)) (hn : t ≠ u) : a ≠ b := by
  rintro rfl
  rw [h] at k
  simp only [Option.some.injEq, Obj.cells.injEq] at k
  exact hn k.2.1
theorem own_far {w w1 : World} {base r t : Nat} {v : Value} {zs : List Int} {cs : Array Value} {fr : Nat × Nat} (h : Own w base v zs) (hr : w.heap[r]? = some (.cells cs t fr)) (ht : t ≠ 5) (hk : Keeps r w w1) : Own w1 base v zs := by
  refine h.of_heap fun k hv => ?_
  rcases h.2 with ⟨rfl, _⟩ | ⟨g, cap, cur, rfl, hg, hh, _⟩
  · simp [Value.ownBlock] at hv
  · simp [Value.ownBlock] at hv
    subst hv
    exact hk.block _ (hlt hh) (ne_ty hh hr (fun e => ht e.symm))
theorem rqC_one {op ver oth lim : Int} {k h b : Value} (a1 : k.oneCell' = true) (a2 : h.oneCell' = true) (a3 : b.oneCell' = true) : ∀ v ∈ rqC op ver oth lim k h b, v.oneCell' = true := by
  intro v hv
  simp only [rqC, List.mem_cons, List.not_mem_nil, or_false] at hv
  rcases hv with rfl | rfl | rfl | rfl | rfl | rfl | rfl <;> first | rfl | assumption
/-- (*reader).request midway: the reader, the request that is made, its shape. -/
structure QS (w0 w wc : World) (g b r sb : Nat) (R : Rd) (s : Sh) (q : Rq) (kv hv bv : Value) : Prop where
  rk : RK w0 wc g b R
  row : wc.heap[r]? = some (.cells (rqC q.op q.ver q.oth q.lim kv hv bv).toArray 36 (0, 0))
  sh : wc.heap[sb]? = some (.cells (shC s).toArray 81 (0, 0))
  kp : Keeps g w wc
  hr : w.heap.size ≤ r
  hs : w.heap.size ≤ sb
  hg : g < w.heap.size
  ok : Own wc w.heap.size kv q.key
  oh : Own wc w.heap.size hv q.high
  ob : Own wc w.heap.size bv q.batch
theorem QS.call {w0 w wc w1 : World} {g b r sb : Nat} {R R1 : Rd} {s : Sh} {q : Rq} {kv hv bv : Value} (h : QS w0 w wc g b r sb R s q kv hv bv) (hk : RK w0 w1 g b R1) (k : Keeps g wc w1) : QS w0 w w1 g b r sb R1 s q kv hv bv :=
  ⟨hk, k.heap h.row (by have := h.hr; have := h.hg; omega), k.heap h.sh (by have := h.hs; have := h.hg; omega), h.kp.trans k, h.hr, h.hs, h.hg, h.ok.keeps k h.hg, h.oh.keeps k h.hg, h.ob.keeps k h.hg⟩
theorem QS.put {w0 w wc w1 : World} {g b r sb : Nat} {R : Rd} {s : Sh} {q : Rq} {kv hv bv : Value} (h : QS w0 w wc g b r sb R s q kv hv bv) (q' : Rq) (kv' hv' bv' : Value) (row : w1.heap[r]? = some (.cells (rqC q'.op q'.ver q'.oth q'.lim kv' hv' bv').toArray 36 (0, 0))) (k : Keeps r wc w1)
    (o1 : Own wc w.heap.size kv' q'.key) (o2 : Own wc w.heap.size hv' q'.high) (o3 : Own wc w.heap.size bv' q'.batch) : QS w0 w w1 g b r sb R s q' kv' hv' bv' := by
  have hne : g ≠ r := by have := h.hr; have := h.hg; omega
  refine ⟨?_, row, k.heap h.sh (ne_ty h.sh h.row (by decide)), ⟨k.os.trans h.kp.os, k.tape.trans h.kp.tape, k.output.trans h.kp.output, Nat.le_trans h.kp.size k.size, fun i hi hn => (k.block i (Nat.lt_of_lt_of_le hi h.kp.size) (by have := h.hr; omega)).trans (h.kp.block i hi hn)⟩, h.hr, h.hs, h.hg, own_far o1 h.row (by decide) k, own_far o2 h.row (by decide) k, own_far o3 h.row (by decide) k⟩
  obtain ⟨o, cap, h1, h2⟩ := h.rk.row
  refine ⟨?_, h.rk.new, o, cap, k.heap h1 hne, h2⟩
  have a := h.rk.bel
  have hb : w0.heap.size ≤ r := by have := h.hr; have := h.hg; have := h.rk.new; omega
  exact a.trans (k.below_g hb a.size)
theorem QS.shc {w0 w wc : World} {g b r sb : Nat} {R : Rd} {s : Sh} {q : Rq} {kv hv bv : Value} (h : QS w0 w wc g b r sb R s q kv hv bv) :
    wc.cell? ⟨sb, 0, none⟩ = some (.bool s.key) ∧ wc.cell? ⟨sb, 1, none⟩ = some (.bool s.high) ∧ wc.cell? ⟨sb, 2, none⟩ = some (.bool s.ver) ∧ wc.cell? ⟨sb, 3, none⟩ = some (.bool s.oth) ∧ wc.cell? ⟨sb, 4, none⟩ = some (.bool s.lim) ∧ wc.cell? ⟨sb, 5, none⟩ = some (.bool s.batch) := by
  refine ⟨?_, ?_, ?_, ?_, ?_, ?_⟩ <;> (rw [cell_of_row _ _ _ _ _ _ h.sh]; rfl)
theorem Own.cells {w : World} {base : Nat} {v : Value} {zs : List Int} (h : Own w base v zs) : v.cells = #[v] ∧ v.oneCell' = true := by
  rcases h.2 with ⟨rfl, _⟩ | ⟨g, cap, cur, rfl, _⟩ <;> exact ⟨rfl, rfl⟩

/-- Two lists that share no block. -/
def Dj (u v : Value) : Prop := ∀ k, u.ownBlock = some k → v.ownBlock ≠ some k
theorem Dj.nil (v : Value) : Dj (.slice none 0 0) v := fun k h => by simp [Value.ownBlock] at h
theorem Dj.nil' (v : Value) : Dj v (.slice none 0 0) := fun k _ h => by simp [Value.ownBlock] at h
theorem Dj.symm {u v : Value} (h : Dj u v) : Dj v u := fun k h1 h2 => h k h2 h1
/-- By their age. -/
theorem dj_age {w w1 : World} {b0 b1 : Nat} {u v : Value} {xs ys : List Int} (hu : Own w b0 u xs) (hv : Own w1 b1 v ys) (hb : w.heap.size ≤ b1) : Dj u v := fun k h1 h2 => by
  have := (hu.block k h1).2
  have := (hv.block k h2).1
  omega
def DjQ (k h b : Value) : Prop := Dj k h ∧ Dj k b ∧ Dj h b
set_option maxRecDepth 100000 in
set_option maxHeartbeats 4000000 in
theorem request_0 (w0 w : World) (g b : Nat) (raw : List Int) (hy : Bys raw) (hl : raw.length ≤ 140737488351232) (hK : RK w0 w g b ⟨raw, false⟩) (hs : shO (nmV ⟨raw, false⟩ 1) = ⟨false, false, false, false, false, false⟩) :
    Calls Try.prog 29 #[.pointer (some ⟨g, 0, none⟩)] w fun e w' => ∃ kv hv bv, e = .returned (.tuple #[.agg (rqC (rdQ raw).1.op (rdQ raw).1.ver (rdQ raw).1.oth (rdQ raw).1.lim kv hv bv).toArray, .bool (knO (rdQ raw).1.op)]) ∧ Own w' w.heap.size kv (rdQ raw).1.key ∧ Own w' w.heap.size hv (rdQ raw).1.high ∧ Own w' w.heap.size bv (rdQ raw).1.batch ∧ RK w0 w' g b (rdQ raw).2 ∧ Keeps g w w' ∧ DjQ kv hv bv := by
  have hg := hK.lt
  have hrow1 := hnew w (.cells (rqC 0 0 0 0 (.slice none 0 0) (.slice none 0 0) (.slice none 0 0)).toArray 36)
  have hb1 := (Below.refl w.heap.size w).alloc (Nat.le_refl _) (.cells (rqC 0 0 0 0 (.slice none 0 0) (.slice none 0 0) (.slice none 0 0)).toArray 36)
  have hK1 := hK.keep (hb1.mono hg)
  have hop := w64_bd (leN (tkV ⟨raw, false⟩ 1))
  have KN := hid (number_any w0 _ g b ⟨raw, false⟩ hy hK1 1 (by omega))
  have HQ := hid (show rdQ raw = rdQ raw from rfl)
  have HS := hid hs
  have hyr := tkS_bys (R := ⟨raw, false⟩) hy 1
  have hlb := hid (show (tkS ⟨raw, false⟩ 1).rest.length ≤ 140737488351232 by unfold tkS; split <;> simp <;> omega)
  unfold rdQ at HQ ⊢
  simp only [hs, ifV, ifN, ifS, if_true, if_false, Bool.false_eq_true]
  unfold nmV at *
  generalize w64 (leN (tkV ⟨raw, false⟩ 1)) = op at *
  clear hs HQ
  go_enter Try.func29, Try.ntmps29
  go_wp2_with fail
  refine KN.out.mono ?_
  generalize w.alloc (.cells (rqC 0 0 0 0 (.slice none 0 0) (.slice none 0 0) (.slice none 0 0)).toArray 36) = w1 at *
  rintro e w2 ⟨rfl, hK2, hk2⟩
  have hrow2 := hk2.heap hrow1 (by omega)
  go_wp2_with (first | (refine wpList_storeW rfl 3 _ _ rfl w.heap.size 0 _ rfl rfl _ 36 hrow2 (by simp [rqC]) Try.sizeInt rfl rfl ?_; intro w3 hrow3 hk3; refine Hid.out ?_))
  refine hid ?_
  have c3 : w3.cell? ⟨w.heap.size, 0, none⟩ = some (.int .i64 op) := by rw [cell_of_row _ _ _ _ _ _ hrow3]; rfl
  have kp2 : Keeps g w w2 := (Keeps.of_below hb1).trans hk2
  have hK3 : RK w0 w3 g b (tkS ⟨raw, false⟩ 1) := by
    obtain ⟨o, cap, h1, h2⟩ := hK2.row
    exact ⟨hK2.bel.trans (hk3.below_g (by have := hK2.new; omega) hK2.bel.size), hK2.new, o, cap, hk3.heap h1 (by omega), h2⟩
  have kp3 : Keeps g w w3 := ⟨hk3.os.trans kp2.os, hk3.tape.trans kp2.tape, hk3.output.trans kp2.output, Nat.le_trans kp2.size hk3.size, fun i hi hn => (hk3.block i (Nat.lt_of_lt_of_le hi kp2.size) (by omega)).trans (kp2.block i hi hn)⟩
  clear hrow2 hk2 hk3 kp2 hK1 hK2 hrow1 hb1 KN
  go_wp2_with fail
  refine (shapeOf_any w3 op hop.1 hop.2).mono ?_
  rintro e w4 ⟨rfl, hB4⟩
  rw [HS.out]
  have Q5 : QS w0 w (w4.alloc (.cells (shC ⟨false, false, false, false, false, false⟩).toArray 81)) g b w.heap.size w4.heap.size (tkS ⟨raw, false⟩ 1) ⟨false, false, false, false, false, false⟩ ⟨op, 0, 0, 0, [], [], []⟩ (.slice none 0 0) (.slice none 0 0) (.slice none 0 0) := by
    have hb5 := hB4.trans ((Below.refl w4.heap.size w4).alloc (Nat.le_refl _) (.cells (shC ⟨false, false, false, false, false, false⟩).toArray 81) |>.mono hB4.size)
    exact ⟨hK3.keep (hb5.mono hK3.lt), hbel hb5 hrow3 (hlt hrow3), hnew _ _, kp3.trans_b hb5, Nat.le_refl _, Nat.le_trans kp3.size hB4.size, hg, Own.nil _ _, Own.nil _ _, Own.nil _ _⟩
  have hK4 := hK3.keep (hB4.mono hK3.lt)
  obtain ⟨o4, cap4, hr4, hS4⟩ := hK4.row
  have c4 : w4.cell? ⟨g, 0, none⟩ = some (.slice (some ⟨b, o4, none⟩) (tkS ⟨raw, false⟩ 1).rest.length cap4) := by rw [cell_of_row _ _ _ _ _ _ hr4]; rfl
  have hg4 : g < w4.heap.size := hlt hr4
  have i4 : ((tkS ⟨raw, false⟩ 1).rest.length : Int) ≤ 140737488351232 := by have := hlb.out; omega
  clear hrow3 hK3 kp3 c3 hB4 hK4 hr4 hS4
  simp only [shC]
  have hrw := hid Q5.row
  go_wp2_with (first
    | (refine wpList_load_row rfl 36 _ rfl w.heap.size rfl 36 _ (0, 0) _ hrw.out Try.underlying36 rfl Try.sizeRq ?_)
    | (refine wpList_storeRowW rfl 36 _ _ rfl w.heap.size (rqC _ _ _ _ _ _ _) rfl rfl 36 _ hrw.out Try.sizeRq rfl (rqC_one Q5.ok.cells.2 Q5.oh.cells.2 Q5.ob.cells.2) ?_; intro wz hrowz hkz))
  have QZ := Q5.put ⟨op, 0, 0, 0, [], [], []⟩ (.slice none 0 0) (.slice none 0 0) (.slice none 0 0) hrowz hkz Q5.ok Q5.oh Q5.ob
  exact bodyPost_ret (results_c2 Try.results29 _ _ w.heap.size 36 _ (0, 0) _ rfl hrowz Try.underlying36 rfl Try.sizeRq) rfl ⟨_, _, _, rfl, QZ.ok, QZ.oh, QZ.ob, QZ.rk, QZ.kp, ⟨Dj.nil _, Dj.nil _, Dj.nil _⟩⟩

set_option maxRecDepth 100000 in
set_option maxHeartbeats 4000000 in
theorem request_1 (w0 w : World) (g b : Nat) (raw : List Int) (hy : Bys raw) (hl : raw.length ≤ 140737488351232) (hK : RK w0 w g b ⟨raw, false⟩) (hs : shO (nmV ⟨raw, false⟩ 1) = ⟨false, false, false, false, false, true⟩) :
    Calls Try.prog 29 #[.pointer (some ⟨g, 0, none⟩)] w fun e w' => ∃ kv hv bv, e = .returned (.tuple #[.agg (rqC (rdQ raw).1.op (rdQ raw).1.ver (rdQ raw).1.oth (rdQ raw).1.lim kv hv bv).toArray, .bool (knO (rdQ raw).1.op)]) ∧ Own w' w.heap.size kv (rdQ raw).1.key ∧ Own w' w.heap.size hv (rdQ raw).1.high ∧ Own w' w.heap.size bv (rdQ raw).1.batch ∧ RK w0 w' g b (rdQ raw).2 ∧ Keeps g w w' ∧ DjQ kv hv bv := by
  have hg := hK.lt
  have hrow1 := hnew w (.cells (rqC 0 0 0 0 (.slice none 0 0) (.slice none 0 0) (.slice none 0 0)).toArray 36)
  have hb1 := (Below.refl w.heap.size w).alloc (Nat.le_refl _) (.cells (rqC 0 0 0 0 (.slice none 0 0) (.slice none 0 0) (.slice none 0 0)).toArray 36)
  have hK1 := hK.keep (hb1.mono hg)
  have hop := w64_bd (leN (tkV ⟨raw, false⟩ 1))
  have KN := hid (number_any w0 _ g b ⟨raw, false⟩ hy hK1 1 (by omega))
  have HQ := hid (show rdQ raw = rdQ raw from rfl)
  have HS := hid hs
  have hyr := tkS_bys (R := ⟨raw, false⟩) hy 1
  have hlb := hid (show (tkS ⟨raw, false⟩ 1).rest.length ≤ 140737488351232 by unfold tkS; split <;> simp <;> omega)
  unfold rdQ at HQ ⊢
  simp only [hs, ifV, ifN, ifS, if_true, if_false, Bool.false_eq_true]
  unfold nmV at *
  generalize w64 (leN (tkV ⟨raw, false⟩ 1)) = op at *
  clear hs HQ
  go_enter Try.func29, Try.ntmps29
  go_wp2_with fail
  refine KN.out.mono ?_
  generalize w.alloc (.cells (rqC 0 0 0 0 (.slice none 0 0) (.slice none 0 0) (.slice none 0 0)).toArray 36) = w1 at *
  rintro e w2 ⟨rfl, hK2, hk2⟩
  have hrow2 := hk2.heap hrow1 (by omega)
  go_wp2_with (first | (refine wpList_storeW rfl 3 _ _ rfl w.heap.size 0 _ rfl rfl _ 36 hrow2 (by simp [rqC]) Try.sizeInt rfl rfl ?_; intro w3 hrow3 hk3; refine Hid.out ?_))
  refine hid ?_
  have c3 : w3.cell? ⟨w.heap.size, 0, none⟩ = some (.int .i64 op) := by rw [cell_of_row _ _ _ _ _ _ hrow3]; rfl
  have kp2 : Keeps g w w2 := (Keeps.of_below hb1).trans hk2
  have hK3 : RK w0 w3 g b (tkS ⟨raw, false⟩ 1) := by
    obtain ⟨o, cap, h1, h2⟩ := hK2.row
    exact ⟨hK2.bel.trans (hk3.below_g (by have := hK2.new; omega) hK2.bel.size), hK2.new, o, cap, hk3.heap h1 (by omega), h2⟩
  have kp3 : Keeps g w w3 := ⟨hk3.os.trans kp2.os, hk3.tape.trans kp2.tape, hk3.output.trans kp2.output, Nat.le_trans kp2.size hk3.size, fun i hi hn => (hk3.block i (Nat.lt_of_lt_of_le hi kp2.size) (by omega)).trans (kp2.block i hi hn)⟩
  clear hrow2 hk2 hk3 kp2 hK1 hK2 hrow1 hb1 KN
  go_wp2_with fail
  refine (shapeOf_any w3 op hop.1 hop.2).mono ?_
  rintro e w4 ⟨rfl, hB4⟩
  rw [HS.out]
  have Q5 : QS w0 w (w4.alloc (.cells (shC ⟨false, false, false, false, false, true⟩).toArray 81)) g b w.heap.size w4.heap.size (tkS ⟨raw, false⟩ 1) ⟨false, false, false, false, false, true⟩ ⟨op, 0, 0, 0, [], [], []⟩ (.slice none 0 0) (.slice none 0 0) (.slice none 0 0) := by
    have hb5 := hB4.trans ((Below.refl w4.heap.size w4).alloc (Nat.le_refl _) (.cells (shC ⟨false, false, false, false, false, true⟩).toArray 81) |>.mono hB4.size)
    exact ⟨hK3.keep (hb5.mono hK3.lt), hbel hb5 hrow3 (hlt hrow3), hnew _ _, kp3.trans_b hb5, Nat.le_refl _, Nat.le_trans kp3.size hB4.size, hg, Own.nil _ _, Own.nil _ _, Own.nil _ _⟩
  have hK4 := hK3.keep (hB4.mono hK3.lt)
  obtain ⟨o4, cap4, hr4, hS4⟩ := hK4.row
  have c4 : w4.cell? ⟨g, 0, none⟩ = some (.slice (some ⟨b, o4, none⟩) (tkS ⟨raw, false⟩ 1).rest.length cap4) := by rw [cell_of_row _ _ _ _ _ _ hr4]; rfl
  have hg4 : g < w4.heap.size := hlt hr4
  have i4 : ((tkS ⟨raw, false⟩ 1).rest.length : Int) ≤ 140737488351232 := by have := hlb.out; omega
  clear hrow3 hK3 kp3 c3 hB4 hK4 hr4 hS4
  have W5 := hid (show w4.alloc (.cells (shC ⟨false, false, false, false, false, true⟩).toArray 81) = w4.alloc (.cells #[.bool false, .bool false, .bool false, .bool false, .bool false, .bool true] 81) from rfl)
  rw [W5.out] at Q5
  simp only [shC]
  go_wp2_with fail
  clear W5
  generalize w4.alloc _ = w5 at *
  have KC6 := copied_any w0 w5 g b (tkS ⟨raw, false⟩ 1) Q5.rk (tkS ⟨raw, false⟩ 1).rest.length hlb.out
  have hyz6 := tkS_bys hyr (tkS ⟨raw, false⟩ 1).rest.length
  generalize hx6 : tkV (tkS ⟨raw, false⟩ 1) (tkS ⟨raw, false⟩ 1).rest.length = x6 at *
  generalize hR6 : tkS (tkS ⟨raw, false⟩ 1) (tkS ⟨raw, false⟩ 1).rest.length = R6 at *
  replace hx6 := hid hx6
  replace hR6 := hid hR6
  refine KC6.mono ?_
  clear KC6
  rintro e w6 ⟨v6, rfl, ho6, hK6, hk6⟩
  have Q6 := Q5.call hK6 hk6
  replace ho6 := own_lower ho6 Q5.kp.size
  clear hK6 hk6
  go_wp2_with (first | (refine wpList_storeW rfl 22 _ _ rfl w.heap.size 6 v6 rfl rfl _ 36 Q6.row (by simp [rqC]) Try.sizeBy ho6.cells.1 ho6.cells.2 ?_; intro w7 hrow7 hk7; refine Hid.out ?_))
  refine hid ?_
  have Q7 := Q6.put ⟨op, 0, 0, 0, [], [], x6⟩ (.slice none 0 0) (.slice none 0 0) v6 hrow7 hk7 Q6.ok Q6.oh ho6
  clear hrow7 hk7 Q5 Q6 ho6
  obtain ⟨sa7, sb7, sc7, sd7, se7, sf7⟩ := Q7.shc
  have hrw := hid Q7.row
  go_wp2_with (first
    | (refine wpList_load_row rfl 36 _ rfl w.heap.size rfl 36 _ (0, 0) _ hrw.out Try.underlying36 rfl Try.sizeRq ?_)
    | (refine wpList_storeRowW rfl 36 _ _ rfl w.heap.size (rqC _ _ _ _ _ _ _) rfl rfl 36 _ hrw.out Try.sizeRq rfl (rqC_one Q7.ok.cells.2 Q7.oh.cells.2 Q7.ob.cells.2) ?_; intro wz hrowz hkz))
  have QZ := Q7.put ⟨op, 0, 0, 0, [], [], x6⟩ (.slice none 0 0) (.slice none 0 0) v6 hrowz hkz Q7.ok Q7.oh Q7.ob
  obtain rfl := hx6.out
  obtain rfl := hR6.out
  exact bodyPost_ret (results_c2 Try.results29 _ _ w.heap.size 36 _ (0, 0) _ rfl hrowz Try.underlying36 rfl Try.sizeRq) rfl ⟨_, _, _, rfl, QZ.ok, QZ.oh, QZ.ob, QZ.rk, QZ.kp, ⟨Dj.nil _, Dj.nil _, Dj.nil _⟩⟩

set_option maxRecDepth 100000 in
set_option maxHeartbeats 4000000 in
theorem request_2 (w0 w : World) (g b : Nat) (raw : List Int) (hy : Bys raw) (hl : raw.length ≤ 140737488351232) (hK : RK w0 w g b ⟨raw, false⟩) (hs : shO (nmV ⟨raw, false⟩ 1) = ⟨true, false, true, false, false, false⟩) :
    Calls Try.prog 29 #[.pointer (some ⟨g, 0, none⟩)] w fun e w' => ∃ kv hv bv, e = .returned (.tuple #[.agg (rqC (rdQ raw).1.op (rdQ raw).1.ver (rdQ raw).1.oth (rdQ raw).1.lim kv hv bv).toArray, .bool (knO (rdQ raw).1.op)]) ∧ Own w' w.heap.size kv (rdQ raw).1.key ∧ Own w' w.heap.size hv (rdQ raw).1.high ∧ Own w' w.heap.size bv (rdQ raw).1.batch ∧ RK w0 w' g b (rdQ raw).2 ∧ Keeps g w w' ∧ DjQ kv hv bv := by
  have hg := hK.lt
  have hrow1 := hnew w (.cells (rqC 0 0 0 0 (.slice none 0 0) (.slice none 0 0) (.slice none 0 0)).toArray 36)
  have hb1 := (Below.refl w.heap.size w).alloc (Nat.le_refl _) (.cells (rqC 0 0 0 0 (.slice none 0 0) (.slice none 0 0) (.slice none 0 0)).toArray 36)
  have hK1 := hK.keep (hb1.mono hg)
  have hop := w64_bd (leN (tkV ⟨raw, false⟩ 1))
  have KN := hid (number_any w0 _ g b ⟨raw, false⟩ hy hK1 1 (by omega))
  have HQ := hid (show rdQ raw = rdQ raw from rfl)
  have HS := hid hs
  have hyr := tkS_bys (R := ⟨raw, false⟩) hy 1
  have hlb := hid (show (tkS ⟨raw, false⟩ 1).rest.length ≤ 140737488351232 by unfold tkS; split <;> simp <;> omega)
  unfold rdQ at HQ ⊢
  simp only [hs, ifV, ifN, ifS, if_true, if_false, Bool.false_eq_true]
  unfold nmV at *
  generalize w64 (leN (tkV ⟨raw, false⟩ 1)) = op at *
  clear hs HQ
  go_enter Try.func29, Try.ntmps29
  go_wp2_with fail
  refine KN.out.mono ?_
  generalize w.alloc (.cells (rqC 0 0 0 0 (.slice none 0 0) (.slice none 0 0) (.slice none 0 0)).toArray 36) = w1 at *
  rintro e w2 ⟨rfl, hK2, hk2⟩
  have hrow2 := hk2.heap hrow1 (by omega)
  go_wp2_with (first | (refine wpList_storeW rfl 3 _ _ rfl w.heap.size 0 _ rfl rfl _ 36 hrow2 (by simp [rqC]) Try.sizeInt rfl rfl ?_; intro w3 hrow3 hk3; refine Hid.out ?_))
  refine hid ?_
  have c3 : w3.cell? ⟨w.heap.size, 0, none⟩ = some (.int .i64 op) := by rw [cell_of_row _ _ _ _ _ _ hrow3]; rfl
  have kp2 : Keeps g w w2 := (Keeps.of_below hb1).trans hk2
  have hK3 : RK w0 w3 g b (tkS ⟨raw, false⟩ 1) := by
    obtain ⟨o, cap, h1, h2⟩ := hK2.row
    exact ⟨hK2.bel.trans (hk3.below_g (by have := hK2.new; omega) hK2.bel.size), hK2.new, o, cap, hk3.heap h1 (by omega), h2⟩
  have kp3 : Keeps g w w3 := ⟨hk3.os.trans kp2.os, hk3.tape.trans kp2.tape, hk3.output.trans kp2.output, Nat.le_trans kp2.size hk3.size, fun i hi hn => (hk3.block i (Nat.lt_of_lt_of_le hi kp2.size) (by omega)).trans (kp2.block i hi hn)⟩
  clear hrow2 hk2 hk3 kp2 hK1 hK2 hrow1 hb1 KN
  go_wp2_with fail
  refine (shapeOf_any w3 op hop.1 hop.2).mono ?_
  rintro e w4 ⟨rfl, hB4⟩
  rw [HS.out]
  have Q5 : QS w0 w (w4.alloc (.cells (shC ⟨true, false, true, false, false, false⟩).toArray 81)) g b w.heap.size w4.heap.size (tkS ⟨raw, false⟩ 1) ⟨true, false, true, false, false, false⟩ ⟨op, 0, 0, 0, [], [], []⟩ (.slice none 0 0) (.slice none 0 0) (.slice none 0 0) := by
    have hb5 := hB4.trans ((Below.refl w4.heap.size w4).alloc (Nat.le_refl _) (.cells (shC ⟨true, false, true, false, false, false⟩).toArray 81) |>.mono hB4.size)
    exact ⟨hK3.keep (hb5.mono hK3.lt), hbel hb5 hrow3 (hlt hrow3), hnew _ _, kp3.trans_b hb5, Nat.le_refl _, Nat.le_trans kp3.size hB4.size, hg, Own.nil _ _, Own.nil _ _, Own.nil _ _⟩
  have hK4 := hK3.keep (hB4.mono hK3.lt)
  obtain ⟨o4, cap4, hr4, hS4⟩ := hK4.row
  have c4 : w4.cell? ⟨g, 0, none⟩ = some (.slice (some ⟨b, o4, none⟩) (tkS ⟨raw, false⟩ 1).rest.length cap4) := by rw [cell_of_row _ _ _ _ _ _ hr4]; rfl
  have hg4 : g < w4.heap.size := hlt hr4
  have i4 : ((tkS ⟨raw, false⟩ 1).rest.length : Int) ≤ 140737488351232 := by have := hlb.out; omega
  clear hrow3 hK3 kp3 c3 hB4 hK4 hr4 hS4
  have W5 := hid (show w4.alloc (.cells (shC ⟨true, false, true, false, false, false⟩).toArray 81) = w4.alloc (.cells #[.bool true, .bool false, .bool true, .bool false, .bool false, .bool false] 81) from rfl)
  rw [W5.out] at Q5
  simp only [shC]
  go_wp2_with fail
  clear W5
  generalize w4.alloc _ = w5 at *
  have KC6 := copied_any w0 w5 g b (tkS ⟨raw, false⟩ 1) Q5.rk 32 (by omega)
  have hyz6 := tkS_bys hyr 32
  generalize hx6 : tkV (tkS ⟨raw, false⟩ 1) 32 = x6 at *
  generalize hR6 : tkS (tkS ⟨raw, false⟩ 1) 32 = R6 at *
  replace hx6 := hid hx6
  replace hR6 := hid hR6
  refine KC6.mono ?_
  clear KC6
  rintro e w6 ⟨v6, rfl, ho6, hK6, hk6⟩
  have Q6 := Q5.call hK6 hk6
  replace ho6 := own_lower ho6 Q5.kp.size
  clear hK6 hk6
  go_wp2_with (first | (refine wpList_storeW rfl 22 _ _ rfl w.heap.size 4 v6 rfl rfl _ 36 Q6.row (by simp [rqC]) Try.sizeBy ho6.cells.1 ho6.cells.2 ?_; intro w7 hrow7 hk7; refine Hid.out ?_))
  refine hid ?_
  have Q7 := Q6.put ⟨op, 0, 0, 0, x6, [], []⟩ v6 (.slice none 0 0) (.slice none 0 0) hrow7 hk7 ho6 Q6.oh Q6.ob
  clear hrow7 hk7 Q5 Q6 ho6
  obtain ⟨sa7, sb7, sc7, sd7, se7, sf7⟩ := Q7.shc
  go_wp2_with fail
  have KC8 := number_any w0 w7 g b R6 hyz6 Q7.rk 8 (by omega)
  have hyz8 := tkS_bys hyz6 8
  generalize hx8 : nmV R6 8 = x8 at *
  generalize hR8 : tkS R6 8 = R8 at *
  replace hx8 := hid hx8
  replace hR8 := hid hR8
  refine KC8.mono ?_
  clear KC8
  rintro e w8 ⟨rfl, hK8, hk8⟩
  have Q8 := Q7.call hK8 hk8
  clear hK8 hk8
  go_wp2_with (first | (refine wpList_storeW rfl 3 _ _ rfl w.heap.size 1 (.int .i64 x8) rfl rfl _ 36 Q8.row (by simp [rqC]) Try.sizeInt rfl rfl ?_; intro w9 hrow9 hk9; refine Hid.out ?_))
  refine hid ?_
  have Q9 := Q8.put ⟨op, x8, 0, 0, x6, [], []⟩ v6 (.slice none 0 0) (.slice none 0 0) hrow9 hk9 Q8.ok Q8.oh Q8.ob
  clear hrow9 hk9 Q7 Q8
  obtain ⟨sa9, sb9, sc9, sd9, se9, sf9⟩ := Q9.shc
  have hrw := hid Q9.row
  go_wp2_with (first
    | (refine wpList_load_row rfl 36 _ rfl w.heap.size rfl 36 _ (0, 0) _ hrw.out Try.underlying36 rfl Try.sizeRq ?_)
    | (refine wpList_storeRowW rfl 36 _ _ rfl w.heap.size (rqC _ _ _ _ _ _ _) rfl rfl 36 _ hrw.out Try.sizeRq rfl (rqC_one Q9.ok.cells.2 Q9.oh.cells.2 Q9.ob.cells.2) ?_; intro wz hrowz hkz))
  have QZ := Q9.put ⟨op, x8, 0, 0, x6, [], []⟩ v6 (.slice none 0 0) (.slice none 0 0) hrowz hkz Q9.ok Q9.oh Q9.ob
  obtain rfl := hx8.out
  obtain rfl := hR8.out
  obtain rfl := hx6.out
  obtain rfl := hR6.out
  exact bodyPost_ret (results_c2 Try.results29 _ _ w.heap.size 36 _ (0, 0) _ rfl hrowz Try.underlying36 rfl Try.sizeRq) rfl ⟨_, _, _, rfl, QZ.ok, QZ.oh, QZ.ob, QZ.rk, QZ.kp, ⟨Dj.nil' _, Dj.nil' _, Dj.nil _⟩⟩

set_option maxRecDepth 100000 in
set_option maxHeartbeats 4000000 in
theorem request_3 (w0 w : World) (g b : Nat) (raw : List Int) (hy : Bys raw) (hl : raw.length ≤ 140737488351232) (hK : RK w0 w g b ⟨raw, false⟩) (hs : shO (nmV ⟨raw, false⟩ 1) = ⟨false, false, true, false, false, false⟩) :
    Calls Try.prog 29 #[.pointer (some ⟨g, 0, none⟩)] w fun e w' => ∃ kv hv bv, e = .returned (.tuple #[.agg (rqC (rdQ raw).1.op (rdQ raw).1.ver (rdQ raw).1.oth (rdQ raw).1.lim kv hv bv).toArray, .bool (knO (rdQ raw).1.op)]) ∧ Own w' w.heap.size kv (rdQ raw).1.key ∧ Own w' w.heap.size hv (rdQ raw).1.high ∧ Own w' w.heap.size bv (rdQ raw).1.batch ∧ RK w0 w' g b (rdQ raw).2 ∧ Keeps g w w' ∧ DjQ kv hv bv := by
  have hg := hK.lt
  have hrow1 := hnew w (.cells (rqC 0 0 0 0 (.slice none 0 0) (.slice none 0 0) (.slice none 0 0)).toArray 36)
  have hb1 := (Below.refl w.heap.size w).alloc (Nat.le_refl _) (.cells (rqC 0 0 0 0 (.slice none 0 0) (.slice none 0 0) (.slice none 0 0)).toArray 36)
  have hK1 := hK.keep (hb1.mono hg)
  have hop := w64_bd (leN (tkV ⟨raw, false⟩ 1))
  have KN := hid (number_any w0 _ g b ⟨raw, false⟩ hy hK1 1 (by omega))
  have HQ := hid (show rdQ raw = rdQ raw from rfl)
  have HS := hid hs
  have hyr := tkS_bys (R := ⟨raw, false⟩) hy 1
  have hlb := hid (show (tkS ⟨raw, false⟩ 1).rest.length ≤ 140737488351232 by unfold tkS; split <;> simp <;> omega)
  unfold rdQ at HQ ⊢
  simp only [hs, ifV, ifN, ifS, if_true, if_false, Bool.false_eq_true]
  unfold nmV at *
  generalize w64 (leN (tkV ⟨raw, false⟩ 1)) = op at *
  clear hs HQ
  go_enter Try.func29, Try.ntmps29
  go_wp2_with fail
  refine KN.out.mono ?_
  generalize w.alloc (.cells (rqC 0 0 0 0 (.slice none 0 0) (.slice none 0 0) (.slice none 0 0)).toArray 36) = w1 at *
  rintro e w2 ⟨rfl, hK2, hk2⟩
  have hrow2 := hk2.heap hrow1 (by omega)
  go_wp2_with (first | (refine wpList_storeW rfl 3 _ _ rfl w.heap.size 0 _ rfl rfl _ 36 hrow2 (by simp [rqC]) Try.sizeInt rfl rfl ?_; intro w3 hrow3 hk3; refine Hid.out ?_))
  refine hid ?_
  have c3 : w3.cell? ⟨w.heap.size, 0, none⟩ = some (.int .i64 op) := by rw [cell_of_row _ _ _ _ _ _ hrow3]; rfl
  have kp2 : Keeps g w w2 := (Keeps.of_below hb1).trans hk2
  have hK3 : RK w0 w3 g b (tkS ⟨raw, false⟩ 1) := by
    obtain ⟨o, cap, h1, h2⟩ := hK2.row
    exact ⟨hK2.bel.trans (hk3.below_g (by have := hK2.new; omega) hK2.bel.size), hK2.new, o, cap, hk3.heap h1 (by omega), h2⟩
  have kp3 : Keeps g w w3 := ⟨hk3.os.trans kp2.os, hk3.tape.trans kp2.tape, hk3.output.trans kp2.output, Nat.le_trans kp2.size hk3.size, fun i hi hn => (hk3.block i (Nat.lt_of_lt_of_le hi kp2.size) (by omega)).trans (kp2.block i hi hn)⟩
  clear hrow2 hk2 hk3 kp2 hK1 hK2 hrow1 hb1 KN
  go_wp2_with fail
  refine (shapeOf_any w3 op hop.1 hop.2).mono ?_
  rintro e w4 ⟨rfl, hB4⟩
  rw [HS.out]
  have Q5 : QS w0 w (w4.alloc (.cells (shC ⟨false, false, true, false, false, false⟩).toArray 81)) g b w.heap.size w4.heap.size (tkS ⟨raw, false⟩ 1) ⟨false, false, true, false, false, false⟩ ⟨op, 0, 0, 0, [], [], []⟩ (.slice none 0 0) (.slice none 0 0) (.slice none 0 0) := by
    have hb5 := hB4.trans ((Below.refl w4.heap.size w4).alloc (Nat.le_refl _) (.cells (shC ⟨false, false, true, false, false, false⟩).toArray 81) |>.mono hB4.size)
    exact ⟨hK3.keep (hb5.mono hK3.lt), hbel hb5 hrow3 (hlt hrow3), hnew _ _, kp3.trans_b hb5, Nat.le_refl _, Nat.le_trans kp3.size hB4.size, hg, Own.nil _ _, Own.nil _ _, Own.nil _ _⟩
  have hK4 := hK3.keep (hB4.mono hK3.lt)
  obtain ⟨o4, cap4, hr4, hS4⟩ := hK4.row
  have c4 : w4.cell? ⟨g, 0, none⟩ = some (.slice (some ⟨b, o4, none⟩) (tkS ⟨raw, false⟩ 1).rest.length cap4) := by rw [cell_of_row _ _ _ _ _ _ hr4]; rfl
  have hg4 : g < w4.heap.size := hlt hr4
  have i4 : ((tkS ⟨raw, false⟩ 1).rest.length : Int) ≤ 140737488351232 := by have := hlb.out; omega
  clear hrow3 hK3 kp3 c3 hB4 hK4 hr4 hS4
  have W5 := hid (show w4.alloc (.cells (shC ⟨false, false, true, false, false, false⟩).toArray 81) = w4.alloc (.cells #[.bool false, .bool false, .bool true, .bool false, .bool false, .bool false] 81) from rfl)
  rw [W5.out] at Q5
  simp only [shC]
  go_wp2_with fail
  clear W5
  generalize w4.alloc _ = w5 at *
  have KC6 := number_any w0 w5 g b (tkS ⟨raw, false⟩ 1) hyr Q5.rk 8 (by omega)
  have hyz6 := tkS_bys hyr 8
  generalize hx6 : nmV (tkS ⟨raw, false⟩ 1) 8 = x6 at *
  generalize hR6 : tkS (tkS ⟨raw, false⟩ 1) 8 = R6 at *
  replace hx6 := hid hx6
  replace hR6 := hid hR6
  refine KC6.mono ?_
  clear KC6
  rintro e w6 ⟨rfl, hK6, hk6⟩
  have Q6 := Q5.call hK6 hk6
  clear hK6 hk6
  go_wp2_with (first | (refine wpList_storeW rfl 3 _ _ rfl w.heap.size 1 (.int .i64 x6) rfl rfl _ 36 Q6.row (by simp [rqC]) Try.sizeInt rfl rfl ?_; intro w7 hrow7 hk7; refine Hid.out ?_))
  refine hid ?_
  have Q7 := Q6.put ⟨op, x6, 0, 0, [], [], []⟩ (.slice none 0 0) (.slice none 0 0) (.slice none 0 0) hrow7 hk7 Q6.ok Q6.oh Q6.ob
  clear hrow7 hk7 Q5 Q6
  obtain ⟨sa7, sb7, sc7, sd7, se7, sf7⟩ := Q7.shc
  have hrw := hid Q7.row
  go_wp2_with (first
    | (refine wpList_load_row rfl 36 _ rfl w.heap.size rfl 36 _ (0, 0) _ hrw.out Try.underlying36 rfl Try.sizeRq ?_)
    | (refine wpList_storeRowW rfl 36 _ _ rfl w.heap.size (rqC _ _ _ _ _ _ _) rfl rfl 36 _ hrw.out Try.sizeRq rfl (rqC_one Q7.ok.cells.2 Q7.oh.cells.2 Q7.ob.cells.2) ?_; intro wz hrowz hkz))
  have QZ := Q7.put ⟨op, x6, 0, 0, [], [], []⟩ (.slice none 0 0) (.slice none 0 0) (.slice none 0 0) hrowz hkz Q7.ok Q7.oh Q7.ob
  obtain rfl := hx6.out
  obtain rfl := hR6.out
  exact bodyPost_ret (results_c2 Try.results29 _ _ w.heap.size 36 _ (0, 0) _ rfl hrowz Try.underlying36 rfl Try.sizeRq) rfl ⟨_, _, _, rfl, QZ.ok, QZ.oh, QZ.ob, QZ.rk, QZ.kp, ⟨Dj.nil _, Dj.nil _, Dj.nil _⟩⟩

set_option maxRecDepth 100000 in
set_option maxHeartbeats 4000000 in
theorem request_5 (w0 w : World) (g b : Nat) (raw : List Int) (hy : Bys raw) (hl : raw.length ≤ 140737488351232) (hK : RK w0 w g b ⟨raw, false⟩) (hs : shO (nmV ⟨raw, false⟩ 1) = ⟨true, true, true, false, false, false⟩) :
    Calls Try.prog 29 #[.pointer (some ⟨g, 0, none⟩)] w fun e w' => ∃ kv hv bv, e = .returned (.tuple #[.agg (rqC (rdQ raw).1.op (rdQ raw).1.ver (rdQ raw).1.oth (rdQ raw).1.lim kv hv bv).toArray, .bool (knO (rdQ raw).1.op)]) ∧ Own w' w.heap.size kv (rdQ raw).1.key ∧ Own w' w.heap.size hv (rdQ raw).1.high ∧ Own w' w.heap.size bv (rdQ raw).1.batch ∧ RK w0 w' g b (rdQ raw).2 ∧ Keeps g w w' ∧ DjQ kv hv bv := by
  have hg := hK.lt
  have hrow1 := hnew w (.cells (rqC 0 0 0 0 (.slice none 0 0) (.slice none 0 0) (.slice none 0 0)).toArray 36)
  have hb1 := (Below.refl w.heap.size w).alloc (Nat.le_refl _) (.cells (rqC 0 0 0 0 (.slice none 0 0) (.slice none 0 0) (.slice none 0 0)).toArray 36)
  have hK1 := hK.keep (hb1.mono hg)
  have hop := w64_bd (leN (tkV ⟨raw, false⟩ 1))
  have KN := hid (number_any w0 _ g b ⟨raw, false⟩ hy hK1 1 (by omega))
  have HQ := hid (show rdQ raw = rdQ raw from rfl)
  have HS := hid hs
  have hyr := tkS_bys (R := ⟨raw, false⟩) hy 1
  have hlb := hid (show (tkS ⟨raw, false⟩ 1).rest.length ≤ 140737488351232 by unfold tkS; split <;> simp <;> omega)
  unfold rdQ at HQ ⊢
  simp only [hs, ifV, ifN, ifS, if_true, if_false, Bool.false_eq_true]
  unfold nmV at *
  generalize w64 (leN (tkV ⟨raw, false⟩ 1)) = op at *
  clear hs HQ
  go_enter Try.func29, Try.ntmps29
  go_wp2_with fail
  refine KN.out.mono ?_
  generalize w.alloc (.cells (rqC 0 0 0 0 (.slice none 0 0) (.slice none 0 0) (.slice none 0 0)).toArray 36) = w1 at *
  rintro e w2 ⟨rfl, hK2, hk2⟩
  have hrow2 := hk2.heap hrow1 (by omega)
  go_wp2_with (first | (refine wpList_storeW rfl 3 _ _ rfl w.heap.size 0 _ rfl rfl _ 36 hrow2 (by simp [rqC]) Try.sizeInt rfl rfl ?_; intro w3 hrow3 hk3; refine Hid.out ?_))
  refine hid ?_
  have c3 : w3.cell? ⟨w.heap.size, 0, none⟩ = some (.int .i64 op) := by rw [cell_of_row _ _ _ _ _ _ hrow3]; rfl
  have kp2 : Keeps g w w2 := (Keeps.of_below hb1).trans hk2
  have hK3 : RK w0 w3 g b (tkS ⟨raw, false⟩ 1) := by
    obtain ⟨o, cap, h1, h2⟩ := hK2.row
    exact ⟨hK2.bel.trans (hk3.below_g (by have := hK2.new; omega) hK2.bel.size), hK2.new, o, cap, hk3.heap h1 (by omega), h2⟩
  have kp3 : Keeps g w w3 := ⟨hk3.os.trans kp2.os, hk3.tape.trans kp2.tape, hk3.output.trans kp2.output, Nat.le_trans kp2.size hk3.size, fun i hi hn => (hk3.block i (Nat.lt_of_lt_of_le hi kp2.size) (by omega)).trans (kp2.block i hi hn)⟩
  clear hrow2 hk2 hk3 kp2 hK1 hK2 hrow1 hb1 KN
  go_wp2_with fail
  refine (shapeOf_any w3 op hop.1 hop.2).mono ?_
  rintro e w4 ⟨rfl, hB4⟩
  rw [HS.out]
  have Q5 : QS w0 w (w4.alloc (.cells (shC ⟨true, true, true, false, false, false⟩).toArray 81)) g b w.heap.size w4.heap.size (tkS ⟨raw, false⟩ 1) ⟨true, true, true, false, false, false⟩ ⟨op, 0, 0, 0, [], [], []⟩ (.slice none 0 0) (.slice none 0 0) (.slice none 0 0) := by
    have hb5 := hB4.trans ((Below.refl w4.heap.size w4).alloc (Nat.le_refl _) (.cells (shC ⟨true, true, true, false, false, false⟩).toArray 81) |>.mono hB4.size)
    exact ⟨hK3.keep (hb5.mono hK3.lt), hbel hb5 hrow3 (hlt hrow3), hnew _ _, kp3.trans_b hb5, Nat.le_refl _, Nat.le_trans kp3.size hB4.size, hg, Own.nil _ _, Own.nil _ _, Own.nil _ _⟩
  have hK4 := hK3.keep (hB4.mono hK3.lt)
  obtain ⟨o4, cap4, hr4, hS4⟩ := hK4.row
  have c4 : w4.cell? ⟨g, 0, none⟩ = some (.slice (some ⟨b, o4, none⟩) (tkS ⟨raw, false⟩ 1).rest.length cap4) := by rw [cell_of_row _ _ _ _ _ _ hr4]; rfl
  have hg4 : g < w4.heap.size := hlt hr4
  have i4 : ((tkS ⟨raw, false⟩ 1).rest.length : Int) ≤ 140737488351232 := by have := hlb.out; omega
  clear hrow3 hK3 kp3 c3 hB4 hK4 hr4 hS4
  have W5 := hid (show w4.alloc (.cells (shC ⟨true, true, true, false, false, false⟩).toArray 81) = w4.alloc (.cells #[.bool true, .bool true, .bool true, .bool false, .bool false, .bool false] 81) from rfl)
  rw [W5.out] at Q5
  simp only [shC]
  go_wp2_with fail
  clear W5
  generalize w4.alloc _ = w5 at *
  have KC6 := copied_any w0 w5 g b (tkS ⟨raw, false⟩ 1) Q5.rk 32 (by omega)
  have hyz6 := tkS_bys hyr 32
  generalize hx6 : tkV (tkS ⟨raw, false⟩ 1) 32 = x6 at *
  generalize hR6 : tkS (tkS ⟨raw, false⟩ 1) 32 = R6 at *
  replace hx6 := hid hx6
  replace hR6 := hid hR6
  refine KC6.mono ?_
  clear KC6
  rintro e w6 ⟨v6, rfl, ho6, hK6, hk6⟩
  have Q6 := Q5.call hK6 hk6
  replace ho6 := own_lower ho6 Q5.kp.size
  clear hK6 hk6
  go_wp2_with (first | (refine wpList_storeW rfl 22 _ _ rfl w.heap.size 4 v6 rfl rfl _ 36 Q6.row (by simp [rqC]) Try.sizeBy ho6.cells.1 ho6.cells.2 ?_; intro w7 hrow7 hk7; refine Hid.out ?_))
  refine hid ?_
  have Q7 := Q6.put ⟨op, 0, 0, 0, x6, [], []⟩ v6 (.slice none 0 0) (.slice none 0 0) hrow7 hk7 ho6 Q6.oh Q6.ob
  clear hrow7 hk7 Q5 Q6 ho6
  obtain ⟨sa7, sb7, sc7, sd7, se7, sf7⟩ := Q7.shc
  go_wp2_with fail
  have KC8 := copied_any w0 w7 g b R6 Q7.rk 32 (by omega)
  have hyz8 := tkS_bys hyz6 32
  generalize hx8 : tkV R6 32 = x8 at *
  generalize hR8 : tkS R6 32 = R8 at *
  replace hx8 := hid hx8
  replace hR8 := hid hR8
  refine KC8.mono ?_
  clear KC8
  rintro e w8 ⟨v8, rfl, ho8, hK8, hk8⟩
  have DJ8 := hid (show Dj v6 v8 from dj_age Q7.ok ho8 (Nat.le_refl _))
  have Q8 := Q7.call hK8 hk8
  replace ho8 := own_lower ho8 Q7.kp.size
  clear hK8 hk8
  go_wp2_with (first | (refine wpList_storeW rfl 22 _ _ rfl w.heap.size 5 v8 rfl rfl _ 36 Q8.row (by simp [rqC]) Try.sizeBy ho8.cells.1 ho8.cells.2 ?_; intro w9 hrow9 hk9; refine Hid.out ?_))
  refine hid ?_
  have Q9 := Q8.put ⟨op, 0, 0, 0, x6, x8, []⟩ v6 v8 (.slice none 0 0) hrow9 hk9 Q8.ok ho8 Q8.ob
  clear hrow9 hk9 Q7 Q8 ho8
  obtain ⟨sa9, sb9, sc9, sd9, se9, sf9⟩ := Q9.shc
  go_wp2_with fail
  have KC10 := number_any w0 w9 g b R8 hyz8 Q9.rk 8 (by omega)
  have hyz10 := tkS_bys hyz8 8
  generalize hx10 : nmV R8 8 = x10 at *
  generalize hR10 : tkS R8 8 = R10 at *
  replace hx10 := hid hx10
  replace hR10 := hid hR10
  refine KC10.mono ?_
  clear KC10
  rintro e w10 ⟨rfl, hK10, hk10⟩
  have Q10 := Q9.call hK10 hk10
  clear hK10 hk10
  go_wp2_with (first | (refine wpList_storeW rfl 3 _ _ rfl w.heap.size 1 (.int .i64 x10) rfl rfl _ 36 Q10.row (by simp [rqC]) Try.sizeInt rfl rfl ?_; intro w11 hrow11 hk11; refine Hid.out ?_))
  refine hid ?_
  have Q11 := Q10.put ⟨op, x10, 0, 0, x6, x8, []⟩ v6 v8 (.slice none 0 0) hrow11 hk11 Q10.ok Q10.oh Q10.ob
  clear hrow11 hk11 Q9 Q10
  obtain ⟨sa11, sb11, sc11, sd11, se11, sf11⟩ := Q11.shc
  have hrw := hid Q11.row
  go_wp2_with (first
    | (refine wpList_load_row rfl 36 _ rfl w.heap.size rfl 36 _ (0, 0) _ hrw.out Try.underlying36 rfl Try.sizeRq ?_)
    | (refine wpList_storeRowW rfl 36 _ _ rfl w.heap.size (rqC _ _ _ _ _ _ _) rfl rfl 36 _ hrw.out Try.sizeRq rfl (rqC_one Q11.ok.cells.2 Q11.oh.cells.2 Q11.ob.cells.2) ?_; intro wz hrowz hkz))
  have QZ := Q11.put ⟨op, x10, 0, 0, x6, x8, []⟩ v6 v8 (.slice none 0 0) hrowz hkz Q11.ok Q11.oh Q11.ob
  obtain rfl := hx10.out
  obtain rfl := hR10.out
  obtain rfl := hx8.out
  obtain rfl := hR8.out
  obtain rfl := hx6.out
  obtain rfl := hR6.out
  exact bodyPost_ret (results_c2 Try.results29 _ _ w.heap.size 36 _ (0, 0) _ rfl hrowz Try.underlying36 rfl Try.sizeRq) rfl ⟨_, _, _, rfl, QZ.ok, QZ.oh, QZ.ob, QZ.rk, QZ.kp, ⟨DJ8.out, Dj.nil' _, Dj.nil' _⟩⟩

set_option maxRecDepth 100000 in
set_option maxHeartbeats 4000000 in
theorem request_6 (w0 w : World) (g b : Nat) (raw : List Int) (hy : Bys raw) (hl : raw.length ≤ 140737488351232) (hK : RK w0 w g b ⟨raw, false⟩) (hs : shO (nmV ⟨raw, false⟩ 1) = ⟨true, true, true, false, true, false⟩) :
    Calls Try.prog 29 #[.pointer (some ⟨g, 0, none⟩)] w fun e w' => ∃ kv hv bv, e = .returned (.tuple #[.agg (rqC (rdQ raw).1.op (rdQ raw).1.ver (rdQ raw).1.oth (rdQ raw).1.lim kv hv bv).toArray, .bool (knO (rdQ raw).1.op)]) ∧ Own w' w.heap.size kv (rdQ raw).1.key ∧ Own w' w.heap.size hv (rdQ raw).1.high ∧ Own w' w.heap.size bv (rdQ raw).1.batch ∧ RK w0 w' g b (rdQ raw).2 ∧ Keeps g w w' ∧ DjQ kv hv bv := by
  have hg := hK.lt
  have hrow1 := hnew w (.cells (rqC 0 0 0 0 (.slice none 0 0) (.slice none 0 0) (.slice none 0 0)).toArray 36)
  have hb1 := (Below.refl w.heap.size w).alloc (Nat.le_refl _) (.cells (rqC 0 0 0 0 (.slice none 0 0) (.slice none 0 0) (.slice none 0 0)).toArray 36)
  have hK1 := hK.keep (hb1.mono hg)
  have hop := w64_bd (leN (tkV ⟨raw, false⟩ 1))
  have KN := hid (number_any w0 _ g b ⟨raw, false⟩ hy hK1 1 (by omega))
  have HQ := hid (show rdQ raw = rdQ raw from rfl)
  have HS := hid hs
  have hyr := tkS_bys (R := ⟨raw, false⟩) hy 1
  have hlb := hid (show (tkS ⟨raw, false⟩ 1).rest.length ≤ 140737488351232 by unfold tkS; split <;> simp <;> omega)
  unfold rdQ at HQ ⊢
  simp only [hs, ifV, ifN, ifS, if_true, if_false, Bool.false_eq_true]
  unfold nmV at *
  generalize w64 (leN (tkV ⟨raw, false⟩ 1)) = op at *
  clear hs HQ
  go_enter Try.func29, Try.ntmps29
  go_wp2_with fail
  refine KN.out.mono ?_
  generalize w.alloc (.cells (rqC 0 0 0 0 (.slice none 0 0) (.slice none 0 0) (.slice none 0 0)).toArray 36) = w1 at *
  rintro e w2 ⟨rfl, hK2, hk2⟩
  have hrow2 := hk2.heap hrow1 (by omega)
  go_wp2_with (first | (refine wpList_storeW rfl 3 _ _ rfl w.heap.size 0 _ rfl rfl _ 36 hrow2 (by simp [rqC]) Try.sizeInt rfl rfl ?_; intro w3 hrow3 hk3; refine Hid.out ?_))
  refine hid ?_
  have c3 : w3.cell? ⟨w.heap.size, 0, none⟩ = some (.int .i64 op) := by rw [cell_of_row _ _ _ _ _ _ hrow3]; rfl
  have kp2 : Keeps g w w2 := (Keeps.of_below hb1).trans hk2
  have hK3 : RK w0 w3 g b (tkS ⟨raw, false⟩ 1) := by
    obtain ⟨o, cap, h1, h2⟩ := hK2.row
    exact ⟨hK2.bel.trans (hk3.below_g (by have := hK2.new; omega) hK2.bel.size), hK2.new, o, cap, hk3.heap h1 (by omega), h2⟩
  have kp3 : Keeps g w w3 := ⟨hk3.os.trans kp2.os, hk3.tape.trans kp2.tape, hk3.output.trans kp2.output, Nat.le_trans kp2.size hk3.size, fun i hi hn => (hk3.block i (Nat.lt_of_lt_of_le hi kp2.size) (by omega)).trans (kp2.block i hi hn)⟩
  clear hrow2 hk2 hk3 kp2 hK1 hK2 hrow1 hb1 KN
  go_wp2_with fail
  refine (shapeOf_any w3 op hop.1 hop.2).mono ?_
  rintro e w4 ⟨rfl, hB4⟩
  rw [HS.out]
  have Q5 : QS w0 w (w4.alloc (.cells (shC ⟨true, true, true, false, true, false⟩).toArray 81)) g b w.heap.size w4.heap.size (tkS ⟨raw, false⟩ 1) ⟨true, true, true, false, true, false⟩ ⟨op, 0, 0, 0, [], [], []⟩ (.slice none 0 0) (.slice none 0 0) (.slice none 0 0) := by
    have hb5 := hB4.trans ((Below.refl w4.heap.size w4).alloc (Nat.le_refl _) (.cells (shC ⟨true, true, true, false, true, false⟩).toArray 81) |>.mono hB4.size)
    exact ⟨hK3.keep (hb5.mono hK3.lt), hbel hb5 hrow3 (hlt hrow3), hnew _ _, kp3.trans_b hb5, Nat.le_refl _, Nat.le_trans kp3.size hB4.size, hg, Own.nil _ _, Own.nil _ _, Own.nil _ _⟩
  have hK4 := hK3.keep (hB4.mono hK3.lt)
  obtain ⟨o4, cap4, hr4, hS4⟩ := hK4.row
  have c4 : w4.cell? ⟨g, 0, none⟩ = some (.slice (some ⟨b, o4, none⟩) (tkS ⟨raw, false⟩ 1).rest.length cap4) := by rw [cell_of_row _ _ _ _ _ _ hr4]; rfl
  have hg4 : g < w4.heap.size := hlt hr4
  have i4 : ((tkS ⟨raw, false⟩ 1).rest.length : Int) ≤ 140737488351232 := by have := hlb.out; omega
  clear hrow3 hK3 kp3 c3 hB4 hK4 hr4 hS4
  have W5 := hid (show w4.alloc (.cells (shC ⟨true, true, true, false, true, false⟩).toArray 81) = w4.alloc (.cells #[.bool true, .bool true, .bool true, .bool false, .bool true, .bool false] 81) from rfl)
  rw [W5.out] at Q5
  simp only [shC]
  go_wp2_with fail
  clear W5
  generalize w4.alloc _ = w5 at *
  have KC6 := copied_any w0 w5 g b (tkS ⟨raw, false⟩ 1) Q5.rk 32 (by omega)
  have hyz6 := tkS_bys hyr 32
  generalize hx6 : tkV (tkS ⟨raw, false⟩ 1) 32 = x6 at *
  generalize hR6 : tkS (tkS ⟨raw, false⟩ 1) 32 = R6 at *
  replace hx6 := hid hx6
  replace hR6 := hid hR6
  refine KC6.mono ?_
  clear KC6
  rintro e w6 ⟨v6, rfl, ho6, hK6, hk6⟩
  have Q6 := Q5.call hK6 hk6
  replace ho6 := own_lower ho6 Q5.kp.size
  clear hK6 hk6
  go_wp2_with (first | (refine wpList_storeW rfl 22 _ _ rfl w.heap.size 4 v6 rfl rfl _ 36 Q6.row (by simp [rqC]) Try.sizeBy ho6.cells.1 ho6.cells.2 ?_; intro w7 hrow7 hk7; refine Hid.out ?_))
  refine hid ?_
  have Q7 := Q6.put ⟨op, 0, 0, 0, x6, [], []⟩ v6 (.slice none 0 0) (.slice none 0 0) hrow7 hk7 ho6 Q6.oh Q6.ob
  clear hrow7 hk7 Q5 Q6 ho6
  obtain ⟨sa7, sb7, sc7, sd7, se7, sf7⟩ := Q7.shc
  go_wp2_with fail
  have KC8 := copied_any w0 w7 g b R6 Q7.rk 32 (by omega)
  have hyz8 := tkS_bys hyz6 32
  generalize hx8 : tkV R6 32 = x8 at *
  generalize hR8 : tkS R6 32 = R8 at *
  replace hx8 := hid hx8
  replace hR8 := hid hR8
  refine KC8.mono ?_
  clear KC8
  rintro e w8 ⟨v8, rfl, ho8, hK8, hk8⟩
  have DJ8 := hid (show Dj v6 v8 from dj_age Q7.ok ho8 (Nat.le_refl _))
  have Q8 := Q7.call hK8 hk8
  replace ho8 := own_lower ho8 Q7.kp.size
  clear hK8 hk8
  go_wp2_with (first | (refine wpList_storeW rfl 22 _ _ rfl w.heap.size 5 v8 rfl rfl _ 36 Q8.row (by simp [rqC]) Try.sizeBy ho8.cells.1 ho8.cells.2 ?_; intro w9 hrow9 hk9; refine Hid.out ?_))
  refine hid ?_
  have Q9 := Q8.put ⟨op, 0, 0, 0, x6, x8, []⟩ v6 v8 (.slice none 0 0) hrow9 hk9 Q8.ok ho8 Q8.ob
  clear hrow9 hk9 Q7 Q8 ho8
  obtain ⟨sa9, sb9, sc9, sd9, se9, sf9⟩ := Q9.shc
  go_wp2_with fail
  have KC10 := number_any w0 w9 g b R8 hyz8 Q9.rk 8 (by omega)
  have hyz10 := tkS_bys hyz8 8
  generalize hx10 : nmV R8 8 = x10 at *
  generalize hR10 : tkS R8 8 = R10 at *
  replace hx10 := hid hx10
  replace hR10 := hid hR10
  refine KC10.mono ?_
  clear KC10
  rintro e w10 ⟨rfl, hK10, hk10⟩
  have Q10 := Q9.call hK10 hk10
  clear hK10 hk10
  go_wp2_with (first | (refine wpList_storeW rfl 3 _ _ rfl w.heap.size 1 (.int .i64 x10) rfl rfl _ 36 Q10.row (by simp [rqC]) Try.sizeInt rfl rfl ?_; intro w11 hrow11 hk11; refine Hid.out ?_))
  refine hid ?_
  have Q11 := Q10.put ⟨op, x10, 0, 0, x6, x8, []⟩ v6 v8 (.slice none 0 0) hrow11 hk11 Q10.ok Q10.oh Q10.ob
  clear hrow11 hk11 Q9 Q10
  obtain ⟨sa11, sb11, sc11, sd11, se11, sf11⟩ := Q11.shc
  go_wp2_with fail
  have KC12 := number_any w0 w11 g b R10 hyz10 Q11.rk 4 (by omega)
  have hyz12 := tkS_bys hyz10 4
  generalize hx12 : nmV R10 4 = x12 at *
  generalize hR12 : tkS R10 4 = R12 at *
  replace hx12 := hid hx12
  replace hR12 := hid hR12
  refine KC12.mono ?_
  clear KC12
  rintro e w12 ⟨rfl, hK12, hk12⟩
  have Q12 := Q11.call hK12 hk12
  clear hK12 hk12
  go_wp2_with (first | (refine wpList_storeW rfl 3 _ _ rfl w.heap.size 3 (.int .i64 x12) rfl rfl _ 36 Q12.row (by simp [rqC]) Try.sizeInt rfl rfl ?_; intro w13 hrow13 hk13; refine Hid.out ?_))
  refine hid ?_
  have Q13 := Q12.put ⟨op, x10, 0, x12, x6, x8, []⟩ v6 v8 (.slice none 0 0) hrow13 hk13 Q12.ok Q12.oh Q12.ob
  clear hrow13 hk13 Q11 Q12
  obtain ⟨sa13, sb13, sc13, sd13, se13, sf13⟩ := Q13.shc
  have hrw := hid Q13.row
  go_wp2_with (first
    | (refine wpList_load_row rfl 36 _ rfl w.heap.size rfl 36 _ (0, 0) _ hrw.out Try.underlying36 rfl Try.sizeRq ?_)
    | (refine wpList_storeRowW rfl 36 _ _ rfl w.heap.size (rqC _ _ _ _ _ _ _) rfl rfl 36 _ hrw.out Try.sizeRq rfl (rqC_one Q13.ok.cells.2 Q13.oh.cells.2 Q13.ob.cells.2) ?_; intro wz hrowz hkz))
  have QZ := Q13.put ⟨op, x10, 0, x12, x6, x8, []⟩ v6 v8 (.slice none 0 0) hrowz hkz Q13.ok Q13.oh Q13.ob
  obtain rfl := hx12.out
  obtain rfl := hR12.out
  obtain rfl := hx10.out
  obtain rfl := hR10.out
  obtain rfl := hx8.out
  obtain rfl := hR8.out
  obtain rfl := hx6.out
  obtain rfl := hR6.out
  exact bodyPost_ret (results_c2 Try.results29 _ _ w.heap.size 36 _ (0, 0) _ rfl hrowz Try.underlying36 rfl Try.sizeRq) rfl ⟨_, _, _, rfl, QZ.ok, QZ.oh, QZ.ob, QZ.rk, QZ.kp, ⟨DJ8.out, Dj.nil' _, Dj.nil' _⟩⟩

set_option maxRecDepth 100000 in
set_option maxHeartbeats 4000000 in
theorem request_7 (w0 w : World) (g b : Nat) (raw : List Int) (hy : Bys raw) (hl : raw.length ≤ 140737488351232) (hK : RK w0 w g b ⟨raw, false⟩) (hs : shO (nmV ⟨raw, false⟩ 1) = ⟨false, false, true, true, false, false⟩) :
    Calls Try.prog 29 #[.pointer (some ⟨g, 0, none⟩)] w fun e w' => ∃ kv hv bv, e = .returned (.tuple #[.agg (rqC (rdQ raw).1.op (rdQ raw).1.ver (rdQ raw).1.oth (rdQ raw).1.lim kv hv bv).toArray, .bool (knO (rdQ raw).1.op)]) ∧ Own w' w.heap.size kv (rdQ raw).1.key ∧ Own w' w.heap.size hv (rdQ raw).1.high ∧ Own w' w.heap.size bv (rdQ raw).1.batch ∧ RK w0 w' g b (rdQ raw).2 ∧ Keeps g w w' ∧ DjQ kv hv bv := by
  have hg := hK.lt
  have hrow1 := hnew w (.cells (rqC 0 0 0 0 (.slice none 0 0) (.slice none 0 0) (.slice none 0 0)).toArray 36)
  have hb1 := (Below.refl w.heap.size w).alloc (Nat.le_refl _) (.cells (rqC 0 0 0 0 (.slice none 0 0) (.slice none 0 0) (.slice none 0 0)).toArray 36)
  have hK1 := hK.keep (hb1.mono hg)
  have hop := w64_bd (leN (tkV ⟨raw, false⟩ 1))
  have KN := hid (number_any w0 _ g b ⟨raw, false⟩ hy hK1 1 (by omega))
  have HQ := hid (show rdQ raw = rdQ raw from rfl)
  have HS := hid hs
  have hyr := tkS_bys (R := ⟨raw, false⟩) hy 1
  have hlb := hid (show (tkS ⟨raw, false⟩ 1).rest.length ≤ 140737488351232 by unfold tkS; split <;> simp <;> omega)
  unfold rdQ at HQ ⊢
  simp only [hs, ifV, ifN, ifS, if_true, if_false, Bool.false_eq_true]
  unfold nmV at *
  generalize w64 (leN (tkV ⟨raw, false⟩ 1)) = op at *
  clear hs HQ
  go_enter Try.func29, Try.ntmps29
  go_wp2_with fail
  refine KN.out.mono ?_
  generalize w.alloc (.cells (rqC 0 0 0 0 (.slice none 0 0) (.slice none 0 0) (.slice none 0 0)).toArray 36) = w1 at *
  rintro e w2 ⟨rfl, hK2, hk2⟩
  have hrow2 := hk2.heap hrow1 (by omega)
  go_wp2_with (first | (refine wpList_storeW rfl 3 _ _ rfl w.heap.size 0 _ rfl rfl _ 36 hrow2 (by simp [rqC]) Try.sizeInt rfl rfl ?_; intro w3 hrow3 hk3; refine Hid.out ?_))
  refine hid ?_
  have c3 : w3.cell? ⟨w.heap.size, 0, none⟩ = some (.int .i64 op) := by rw [cell_of_row _ _ _ _ _ _ hrow3]; rfl
  have kp2 : Keeps g w w2 := (Keeps.of_below hb1).trans hk2
  have hK3 : RK w0 w3 g b (tkS ⟨raw, false⟩ 1) := by
    obtain ⟨o, cap, h1, h2⟩ := hK2.row
    exact ⟨hK2.bel.trans (hk3.below_g (by have := hK2.new; omega) hK2.bel.size), hK2.new, o, cap, hk3.heap h1 (by omega), h2⟩
  have kp3 : Keeps g w w3 := ⟨hk3.os.trans kp2.os, hk3.tape.trans kp2.tape, hk3.output.trans kp2.output, Nat.le_trans kp2.size hk3.size, fun i hi hn => (hk3.block i (Nat.lt_of_lt_of_le hi kp2.size) (by omega)).trans (kp2.block i hi hn)⟩
  clear hrow2 hk2 hk3 kp2 hK1 hK2 hrow1 hb1 KN
  go_wp2_with fail
  refine (shapeOf_any w3 op hop.1 hop.2).mono ?_
  rintro e w4 ⟨rfl, hB4⟩
  rw [HS.out]
  have Q5 : QS w0 w (w4.alloc (.cells (shC ⟨false, false, true, true, false, false⟩).toArray 81)) g b w.heap.size w4.heap.size (tkS ⟨raw, false⟩ 1) ⟨false, false, true, true, false, false⟩ ⟨op, 0, 0, 0, [], [], []⟩ (.slice none 0 0) (.slice none 0 0) (.slice none 0 0) := by
    have hb5 := hB4.trans ((Below.refl w4.heap.size w4).alloc (Nat.le_refl _) (.cells (shC ⟨false, false, true, true, false, false⟩).toArray 81) |>.mono hB4.size)
    exact ⟨hK3.keep (hb5.mono hK3.lt), hbel hb5 hrow3 (hlt hrow3), hnew _ _, kp3.trans_b hb5, Nat.le_refl _, Nat.le_trans kp3.size hB4.size, hg, Own.nil _ _, Own.nil _ _, Own.nil _ _⟩
  have hK4 := hK3.keep (hB4.mono hK3.lt)
  obtain ⟨o4, cap4, hr4, hS4⟩ := hK4.row
  have c4 : w4.cell? ⟨g, 0, none⟩ = some (.slice (some ⟨b, o4, none⟩) (tkS ⟨raw, false⟩ 1).rest.length cap4) := by rw [cell_of_row _ _ _ _ _ _ hr4]; rfl
  have hg4 : g < w4.heap.size := hlt hr4
  have i4 : ((tkS ⟨raw, false⟩ 1).rest.length : Int) ≤ 140737488351232 := by have := hlb.out; omega
  clear hrow3 hK3 kp3 c3 hB4 hK4 hr4 hS4
  have W5 := hid (show w4.alloc (.cells (shC ⟨false, false, true, true, false, false⟩).toArray 81) = w4.alloc (.cells #[.bool false, .bool false, .bool true, .bool true, .bool false, .bool false] 81) from rfl)
  rw [W5.out] at Q5
  simp only [shC]
  go_wp2_with fail
  clear W5
  generalize w4.alloc _ = w5 at *
  have KC6 := number_any w0 w5 g b (tkS ⟨raw, false⟩ 1) hyr Q5.rk 8 (by omega)
  have hyz6 := tkS_bys hyr 8
  generalize hx6 : nmV (tkS ⟨raw, false⟩ 1) 8 = x6 at *
  generalize hR6 : tkS (tkS ⟨raw, false⟩ 1) 8 = R6 at *
  replace hx6 := hid hx6
  replace hR6 := hid hR6
  refine KC6.mono ?_
  clear KC6
  rintro e w6 ⟨rfl, hK6, hk6⟩
  have Q6 := Q5.call hK6 hk6
  clear hK6 hk6
  go_wp2_with (first | (refine wpList_storeW rfl 3 _ _ rfl w.heap.size 1 (.int .i64 x6) rfl rfl _ 36 Q6.row (by simp [rqC]) Try.sizeInt rfl rfl ?_; intro w7 hrow7 hk7; refine Hid.out ?_))
  refine hid ?_
  have Q7 := Q6.put ⟨op, x6, 0, 0, [], [], []⟩ (.slice none 0 0) (.slice none 0 0) (.slice none 0 0) hrow7 hk7 Q6.ok Q6.oh Q6.ob
  clear hrow7 hk7 Q5 Q6
  obtain ⟨sa7, sb7, sc7, sd7, se7, sf7⟩ := Q7.shc
  go_wp2_with fail
  have KC8 := number_any w0 w7 g b R6 hyz6 Q7.rk 8 (by omega)
  have hyz8 := tkS_bys hyz6 8
  generalize hx8 : nmV R6 8 = x8 at *
  generalize hR8 : tkS R6 8 = R8 at *
  replace hx8 := hid hx8
  replace hR8 := hid hR8
  refine KC8.mono ?_
  clear KC8
  rintro e w8 ⟨rfl, hK8, hk8⟩
  have Q8 := Q7.call hK8 hk8
  clear hK8 hk8
  go_wp2_with (first | (refine wpList_storeW rfl 3 _ _ rfl w.heap.size 2 (.int .i64 x8) rfl rfl _ 36 Q8.row (by simp [rqC]) Try.sizeInt rfl rfl ?_; intro w9 hrow9 hk9; refine Hid.out ?_))
  refine hid ?_
  have Q9 := Q8.put ⟨op, x6, x8, 0, [], [], []⟩ (.slice none 0 0) (.slice none 0 0) (.slice none 0 0) hrow9 hk9 Q8.ok Q8.oh Q8.ob
  clear hrow9 hk9 Q7 Q8
  obtain ⟨sa9, sb9, sc9, sd9, se9, sf9⟩ := Q9.shc
  have hrw := hid Q9.row
  go_wp2_with (first
    | (refine wpList_load_row rfl 36 _ rfl w.heap.size rfl 36 _ (0, 0) _ hrw.out Try.underlying36 rfl Try.sizeRq ?_)
    | (refine wpList_storeRowW rfl 36 _ _ rfl w.heap.size (rqC _ _ _ _ _ _ _) rfl rfl 36 _ hrw.out Try.sizeRq rfl (rqC_one Q9.ok.cells.2 Q9.oh.cells.2 Q9.ob.cells.2) ?_; intro wz hrowz hkz))
  have QZ := Q9.put ⟨op, x6, x8, 0, [], [], []⟩ (.slice none 0 0) (.slice none 0 0) (.slice none 0 0) hrowz hkz Q9.ok Q9.oh Q9.ob
  obtain rfl := hx8.out
  obtain rfl := hR8.out
  obtain rfl := hx6.out
  obtain rfl := hR6.out
  exact bodyPost_ret (results_c2 Try.results29 _ _ w.heap.size 36 _ (0, 0) _ rfl hrowz Try.underlying36 rfl Try.sizeRq) rfl ⟨_, _, _, rfl, QZ.ok, QZ.oh, QZ.ob, QZ.rk, QZ.kp, ⟨Dj.nil _, Dj.nil _, Dj.nil _⟩⟩
end Go.Proofs.Ytenfklcgkfaajaa
