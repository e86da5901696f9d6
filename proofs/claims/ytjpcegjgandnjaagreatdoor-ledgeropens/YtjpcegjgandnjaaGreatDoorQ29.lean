import Derived.Test.YtjpcegjgandnjaaGreatDoorQ28
import Derived.Conc.MuLone
namespace Go.Proofs.YtjpcegjgandnjaaGreatDoor
set_option linter.unusedVariables false
set_option linter.unusedSimpArgs false
open Go.RowKit Go.MuLone
open Go.Proofs.YtjpcegjgandnjaaGreatDoor.Ca (Ct ct0 ctC argV AS)
attribute [local go_sem ↓] Go.wp_at_zero Go.wp_at_succ

theorem run_storeVar_c {P : Program} (w : World) (b o : Nat) (ty : TypeId) (v : Value) (cs : List Value) (t : TypeId) (hrow : w.heap[b]? = some (.cells cs.toArray t (0, 0))) (hj : o < cs.length) (hi : (P.info? ty).map (·.size) = some 1) (hv : v.cells = #[v]) (h1 : v.oneCell' = true) :
    (storeVar ty ⟨b, o, none⟩ v).run P w = .ok () (w.setRow b (cs.set o v).toArray) := by
  have := run_storeCells_cells (P := P) b o [v] 0 w (fun j hj2 => by
      have hj3 : j = 0 := by simp only [List.length_singleton] at hj2; omega
      subst hj3
      rw [cell_of_row _ _ _ _ _ _ hrow, List.getElem?_toArray, List.getElem?_eq_getElem (by omega)]; rfl) (fun j _ => frozen_of_row _ _ _ _ _ hrow)
    (fun u hu => by rw [List.mem_singleton.1 hu]; exact h1)
  have e := setCells_row (vs := [v]) (o := o) hrow (by rw [List.length_singleton]; omega) (fun u hu => by rw [List.mem_singleton.1 hu]; exact h1)
  have e2 : cs.take o ++ [v] ++ cs.drop (o + [v].length) = cs.set o v := by
    rw [List.set_eq_take_append_cons_drop, if_pos hj, List.append_assoc]; rfl
  rw [e2] at e
  cases hq : P.info? ty with
  | none => simp [hq] at hi
  | some i =>
    have hs : i.size = 1 := by simpa [hq] using hi
    simp only [Nat.add_zero] at this
    simp [storeVar, sizeOf, typeInfo, hq, hv, hs, this, e]
theorem setRow_keeps {w : World} {b : Nat} {cs ds : List Value} {t : TypeId} (h : w.heap[b]? = some (.cells cs.toArray t (0, 0))) : (w.setRow b ds.toArray).heap[b]? = some (.cells ds.toArray t (0, 0)) ∧ Keeps b w (w.setRow b ds.toArray) :=
  ⟨setRow_heap _ _ _ _ _ _ h, (Keeps.refl b w).setRow _⟩
theorem step_storeW {P : Program} {w : World} {ops : Array Oper} {op : Oper} {a : Act} {K : Act → World → Prop} {Q : Exit → Act → World → Prop} {E : Prop} (hw : Region.wanted op (yielded ops a.tmps) = true) (ty : TypeId) (x y : Operand) (ho : op.op = .store ty x y)
    (b o : Nat) (v : Value) (hx : a.eval x = .pointer (some ⟨b, o, none⟩)) (hy : a.eval y = v) (cs : List Value) (t : TypeId) (hrow : w.heap[b]? = some (.cells cs.toArray t (0, 0))) (hj : o < cs.length) (hi : (P.info? ty).map (·.size) = some 1) (hv : v.cells = #[v]) (h1 : v.oneCell' = true)
    (h : ∀ w', w'.heap[b]? = some (.cells (cs.set o v).toArray t (0, 0)) → Keeps b w w' → K (a.put op.dst undef) w') :
    if Region.wanted op (yielded ops a.tmps) = true then Oper.wp P op a w K Q else E := by
  rw [if_pos hw]
  unfold Oper.wp execOp
  simp only [ho, hx, hy, Instr.storeAt, Instr.sureAddr, Sem.run_bind, Sem.run_pure, Result.andThen_ok, run_storeVar_c w b o ty v cs t hrow hj hi hv h1]
  exact h _ (setRow_keeps hrow).1 (setRow_keeps hrow).2
theorem Keeps.cellK {g : Nat} {w w' : World} {k o : Nat} {v : Value} (h : Keeps g w w') (hne : k ≠ g) (c : w.cell? ⟨k, o, none⟩ = some v) : w'.cell? ⟨k, o, none⟩ = some v := by
  have hk : k < w.heap.size := block_lt_of_cell c
  rw [← c]; unfold World.cell?; rw [h.block k hk hne]
theorem Keeps.rngK {g : Nat} {w w' : World} {k o : Nat} {cs : List Value} (h : Keeps g w w') (hne : k ≠ g) (c : w.rangeAt k o cs) : w'.rangeAt k o cs := fun j v hv => h.cellK hne (c j v hv)
theorem step_storeRowW {P : Program} {w : World} {ops : Array Oper} {op : Oper} {a : Act} {K : Act → World → Prop} {Q : Exit → Act → World → Prop} {E : Prop} (hw : Region.wanted op (yielded ops a.tmps) = true) (ty : TypeId) (x y : Operand) (ho : op.op = .store ty x y)
    (g : Nat) (cells : List Value) (hx : a.eval x = .pointer (some ⟨g, 0, none⟩)) (hy : a.eval y = .agg cells.toArray) (t : TypeId) (cs : List Value) (hrow : w.heap[g]? = some (.cells cs.toArray t (0, 0))) (hi : (P.info? ty).map (·.size) = some cells.length) (hsz : cs.length = cells.length) (h1 : ∀ v ∈ cells, v.oneCell' = true)
    (h : ∀ w', w'.heap[g]? = some (.cells cells.toArray t (0, 0)) → Keeps g w w' → K (a.put op.dst undef) w') :
    if Region.wanted op (yielded ops a.tmps) = true then Oper.wp P op a w K Q else E := by
  rw [if_pos hw]
  have ht : w.there g 0 cells.toArray.size := fun j hj => by
    refine ⟨?_, frozen_of_row _ _ _ _ _ hrow⟩
    have hj2 : j < cs.length := by rw [hsz]; simpa using hj
    rw [Nat.zero_add, cell_of_row _ _ _ _ _ _ hrow]
    simp [hj2]
  refine wp_store_mid ty x y ho g 0 cells.toArray hx hy ht (by simpa using hi) (all_oneCell_toArray h1) ?_
  have e := setCells_row (o := 0) (vs := cells) hrow (by omega) h1
  rw [show cells.toArray.toList = cells from rfl, e]
  have e2 : cs.take 0 ++ cells ++ cs.drop (0 + cells.length) = cells := by
    rw [List.take_zero, List.nil_append, List.drop_eq_nil_of_le (by omega), List.append_nil]
  rw [e2]
  exact h _ (setRow_keeps hrow).1 (setRow_keeps hrow).2
theorem step_storeMidW {P : Program} {w : World} {ops : Array Oper} {op : Oper} {a : Act} {K : Act → World → Prop} {Q : Exit → Act → World → Prop} {E : Prop} (hw : Region.wanted op (yielded ops a.tmps) = true) (ty : TypeId) (x y : Operand) (ho : op.op = .store ty x y)
    (g o : Nat) (cells : List Value) (hx : a.eval x = .pointer (some ⟨g, o, none⟩)) (hy : a.eval y = .agg cells.toArray) (cs : List Value) (t : TypeId) (hrow : w.heap[g]? = some (.cells cs.toArray t (0, 0))) (hfit : o + cells.length ≤ cs.length) (hi : (P.info? ty).map (·.size) = some cells.length) (h1 : ∀ v ∈ cells, v.oneCell' = true)
    (h : ∀ w', w'.heap[g]? = some (.cells (cs.take o ++ cells ++ cs.drop (o + cells.length)).toArray t (0, 0)) → Keeps g w w' → K (a.put op.dst undef) w') :
    if Region.wanted op (yielded ops a.tmps) = true then Oper.wp P op a w K Q else E := by
  rw [if_pos hw]
  have ht : w.there g o cells.toArray.size := fun j hj => by
    have hj1 : j < cells.length := by simpa using hj
    refine ⟨?_, frozen_of_row _ _ _ _ _ hrow⟩
    have hj2 : o + j < cs.length := by omega
    rw [cell_of_row _ _ _ _ _ _ hrow]
    simp [hj2]
  refine wp_store_mid ty x y ho g o cells.toArray hx hy ht (by simpa using hi) (all_oneCell_toArray h1) ?_
  rw [show cells.toArray.toList = cells from rfl, setCells_row (o := o) (vs := cells) hrow hfit h1]
  exact h _ (setRow_keeps hrow).1 (setRow_keeps hrow).2
/-- What Info tells. -/
def inC (s : Sup) (r : Rc) (np : Int) : List Value := [.int .i64 s.wd, .int .i64 r.f, .int .i64 r.v, .int .i64 s.ma, .int .i64 np, .int .i64 r.c] ++ ints .u8 r.sm
def in0 : List Value := [.int .i64 0, .int .i64 0, .int .i64 0, .int .i64 0, .int .i64 0, .int .i64 0] ++ List.replicate 32 (.int .u8 0)
theorem in0_one : ∀ v ∈ in0, v.oneCell' = true := by intro v hv; simp [in0] at hv; rcases hv with rfl | rfl <;> rfl
theorem ints_oneL (l : List Int) : ∀ v ∈ ints .u8 l, v.oneCell' = true := by intro v hv; simp [ints] at hv; obtain ⟨x, _, rfl⟩ := hv; rfl
theorem inC_len (s : Sup) {r : Rc} (h : RcOk r) (np : Int) : (inC s r np).length = 38 := by unfold inC; rw [List.length_append, ints_len, h.sm]; rfl
theorem inC_one (s : Sup) (r : Rc) (np : Int) : ∀ v ∈ inC s r np, v.oneCell' = true := by
  intro v hv
  rcases List.mem_append.1 hv with q | q
  · simp at q; rcases q with rfl | rfl | rfl | rfl | rfl | rfl <;> rfl
  · exact ints_oneL _ v q
theorem Tryz.sizeIn : (Tryz.prog.info? 36).map (·.size) = some 38 := by kernel_rfl
theorem Tryz.size3 : (Tryz.prog.info? 3).map (·.size) = some 1 := by kernel_rfl
theorem allocIn (a : Act) (o : Oper) (w : World) (ho : o.op = .alloc 36) : (execOp a.eval o).run Tryz.prog w = .ok (.value (.pointer (some ⟨w.heap.size, 0, none⟩))) (w.alloc (.cells in0.toArray 36)) := by
  unfold execOp
  rw [ho]
  kernel_rfl
theorem wpList_allocA {P : Program} {t : TypeId} {C : Array Value} (hz : ∀ (a : Act) (o : Oper) (w : World), o.op = .alloc t → (execOp a.eval o).run P w = .ok (.value (.pointer (some ⟨w.heap.size, 0, none⟩))) (w.alloc (.cells C t))) {w : World} {ops : Array Oper} {rest : List Oper} {o : Oper} {a : Act} {Q : Exit → Act → World → Prop} (hg : o.guard = none) (ho : o.op = .alloc t)
    (h : wpList P ops Q rest (a.put o.dst (.pointer (some ⟨w.heap.size, 0, none⟩))) (w.alloc (.cells C t))) : wpList P ops Q (o :: rest) a w := by
  refine wpList_plain hg fun K hK => ?_
  unfold Oper.wp
  rw [hz a o w ho]
  exact hK _ _ h
/-- The lock of a ledger taken. -/
def ldL (st : Nat) (r : Rc) : List Value := [.int .i32 1, .int .u32 0, .pointer (some ⟨st, 0, none⟩)] ++ rcC r
theorem lock_row {w : World} {l st : Nat} {r : Rc} {t : TypeId} (h : w.heap[l]? = some (.cells (ldC st r).toArray t (0, 0))) : (w.setCell ⟨l, 0, none⟩ (.int .i32 1)).heap[l]? = some (.cells (ldL st r).toArray t (0, 0)) := by
  rw [heap_setCell_same w l 0 _ _ _ h]; rfl
theorem unlock_row {w : World} {l st : Nat} {r : Rc} {t : TypeId} (h : w.heap[l]? = some (.cells (ldL st r).toArray t (0, 0))) : (w.setCell ⟨l, 0, none⟩ (.int .i32 0)).heap[l]? = some (.cells (ldC st r).toArray t (0, 0)) := by
  rw [heap_setCell_same w l 0 _ _ _ h]; rfl
theorem keeps_setCell (w : World) (l o : Nat) (v : Value) : Keeps l w (w.setCell ⟨l, o, none⟩ v) :=
  ⟨rfl, rfl, rfl, by rw [World.size_setCell]; exact Nat.le_refl _, fun k _ hne => heap_setCell_other w ⟨l, o, none⟩ k v hne⟩
theorem Keeps.new {l g : Nat} {w a b : World} (h : Keeps l w a) (k : Keeps g a b) (hg : w.heap.size ≤ g) : Keeps l w b :=
  ⟨k.os.trans h.os, k.tape.trans h.tape, k.output.trans h.output, Nat.le_trans h.size k.size, fun i hi hne => (k.block i (Nat.lt_of_lt_of_le hi h.size) (by omega)).trans (h.block i hi hne)⟩
/-- A call that locks and lets go leaves all as it was. -/
theorem below_ld {w b : World} {l st : Nat} {r : Rc} (h : Keeps l w b) (hl : LD w l st r) (h2 : LD b l st r) : Below w.heap.size w b :=
  ⟨h.os, h.tape, h.output, h.size, fun k hk => by
    by_cases e : k = l
    · subst e; exact h2.trans hl.symm
    · exact h.block k hk e⟩
set_option maxRecDepth 100000 in
set_option maxHeartbeats 8000000 in
theorem info_any (w : World) (base : Nat) (S : Sto) (P : List (Int × List Int)) (b : Nat) (h : Ls w base S P b) (l : Nat) (r : Rc) (hr : RcOk r) (hl : LD w l S.st r) (hn : l ∉ S.fp) :
    Calls Tryz.prog 9 #[.pointer (some ⟨l, 0, none⟩)] w fun e w' => e = .returned (.tuple #[.agg (inC S.s r S.D.np).toArray, .nilIface]) ∧ Below w.heap.size w w' := by
  have hb1 := below_new w (.cells in0.toArray 36)
  have hr1 := hnew w (.cells in0.toArray 36)
  have hl1 : LD (w.alloc (.cells in0.toArray 36)) l S.st r := (hb1.block l (hlt hl)).trans hl
  have AI := hid (fun (w : World) (ops : Array Oper) (rest : List Oper) (o : Oper) (a : Act) (Q : Exit → Act → World → Prop) => @wpList_allocA Tryz.prog 36 in0.toArray allocIn w ops rest o a Q)
  have AS := hid (fun (w : World) (ops : Array Oper) (rest : List Oper) (o1 o2 : Oper) (a : Act) (Q : Exit → Act → World → Prop) => @wpList_new Tryz.prog 99 (supC sup0).toList 5 (by simpa using allocSu) rfl (by kernel_rfl) ops rest o1 o2 a w Q)
  have HLD := hid hl
  have h1 : Ls (w.alloc (.cells in0.toArray 36)) base S P b := h.below hb1
  have hlw : l < w.heap.size := hlt hl
  generalize hw1 : w.alloc (.cells in0.toArray 36) = w1 at *
  have hk2 := keeps_setCell w1 l 0 (.int .i32 1)
  have hl2 := lock_row hl1
  have C0 := hid (show w1.cell? ⟨l, 0, none⟩ = some (.int .i32 0) by rw [cell_of_row _ _ _ _ _ _ hl1]; rfl)
  have Z0 := hid (frozen_of_row _ _ 0 _ _ hl1)
  obtain ⟨w2, hw2⟩ : ∃ w2, w2 = w1.setCell ⟨l, 0, none⟩ (.int .i32 1) := ⟨_, rfl⟩
  rw [← hw2] at hk2 hl2
  have LK := hid ((lock_free Tryz.muLib ⟨l, 0, none⟩ w1 C0.out Z0.out).mono (fun e w' hh => (show e = .returned (.tuple #[]) ∧ w2 = w' from ⟨hh.1, hw2.trans hh.2.symm⟩)))
  clear hw2
  have h2 : Ls w2 base S P b := h1.keep (fun k q => hk2.block k (h1.sk.fpIn q).2 (fun e => hn (e ▸ q))) hk2.size
  have LV := hid (h2.live _ (Below.refl _ _))
  have SU := hid (fun w3 (hb : Below w2.heap.size w2 w3) => oSuper_any w3 base S (h2.sk.below hb))
  have PG := hid (fun w3 (hb : Keeps w.heap.size w2 w3) => oPages_any w3 base S (h2.sk.of_heap (fun k q => hb.block k (h2.sk.in_lt q).2 (fun e => by have := (h1.sk.in_lt q).2; have := (h.sk.in_lt q).2; omega)) hb.size))
  have HSK := hid h2.sk
  have HB1 := hid hb1
  have HK2 := hid hk2
  have R1 := hid (show w2.heap[w.heap.size]? = some (.cells in0.toArray 36 (0, 0)) from (hk2.heap (hw1 ▸ hr1) (by omega)))
  have HL2 := hid hl2
  have LSM := hid (show (ints .u8 r.sm).length = 32 by rw [ints_len, hr.sm])
  have NEL := hid (show l ≠ w.heap.size by omega)
  have HHL := hid hl
  obtain ⟨I, hI⟩ : ∃ I, I = inC S.s r S.D.np := ⟨_, rfl⟩
  rw [← hI]
  have HI := hid hI
  have IL := hid (show I.length = 38 by rw [hI]; exact inC_len _ hr _)
  have LC := hid (show supC S.s = ([.int .i64 S.s.wd, .int .i64 S.s.ge, .int .i64 S.s.ma, .int .i64 S.s.hd, .int .i64 S.s.pg] : List Value).toArray from rfl)
  have HW1 := hid hw1
  have hsz2 : w.heap.size < w2.heap.size := by
    have := hk2.size
    have := hb1.size
    have e1 : w1.heap.size = w.heap.size + 1 := by rw [← hw1]; simp
    omega
  have HSZ := hid hsz2
  clear h h1 h2 hl hl1 hl2 hb1 hk2 hr1 hn hI hr hw1 hsz2 hlw
  go_enter_defers Tryz.func9, Tryz.ntmps9
  go_wp2_with (first | (refine AI.out _ _ _ _ _ _ rfl rfl ?_; refine Hid.out ?_))
  refine hid ?_
  rw [HW1.out]
  generalize hB2 : w.heap.size = B2 at *
  have HB2E := hid hB2
  clear hB2
  go_wp2_with (go_at_call 26; refine LK.out.mono ?_; rintro e w' ⟨rfl, rfl⟩; refine Hid.out ?_)
  refine hid ?_
  have cl2 : w2.cell? ⟨l, 2, none⟩ = some (.pointer (some ⟨S.st, 0, none⟩)) := by rw [cell_of_row _ _ _ _ _ _ HL2.out]; rfl
  have CL2 := hid cl2
  obtain ⟨st, hst⟩ : ∃ st, st = S.st := ⟨_, rfl⟩
  rw [← hst] at LV SU PG CL2 cl2 HL2
  rw [← hst] at HHL
  clear hst
  go_wp2_with fail
  refine LV.out.mono ?_
  rintro e w3 ⟨rfl, hb3⟩
  have HB3 := hid hb3
  have CL2' := hid CL2.out
  replace cl2 : w3.cell? ⟨l, 2, none⟩ = some (.pointer (some ⟨st, 0, none⟩)) := by rw [← CL2.out]; exact hb3.cell (block_lt_of_cell CL2.out)
  clear hb3 LV
  go_wp2_with fail
  refine (SU.out w3 HB3.out).mono ?_
  rw [LC.out]
  rintro e w4 ⟨rfl, hb4⟩
  have HB4 := hid (HB3.out.trans (hb4.mono HB3.out.size))
  clear hb4 SU HB3 cl2
  go_wp2_with (first
    | (refine AS.out _ _ _ _ _ _ _ rfl rfl rfl _ _ rfl rfl _ rfl rfl rfl (by intro v hv; simp at hv; rcases hv with rfl | rfl | rfl | rfl | rfl <;> rfl) ?_; refine Hid.out ?_))
  refine hid ?_
  have B45 := below_new w4 (.cells ([.int .i64 S.s.wd, .int .i64 S.s.ge, .int .i64 S.s.ma, .int .i64 S.s.hd, .int .i64 S.s.pg] : List Value).toArray 99)
  have R5 := hnew w4 (.cells ([.int .i64 S.s.wd, .int .i64 S.s.ge, .int .i64 S.s.ma, .int .i64 S.s.hd, .int .i64 S.s.pg] : List Value).toArray 99)
  have NE5 := hid (show w4.heap.size ≠ B2 by have := HB4.out.size; have := HSZ.out; omega)
  have HB5 := hid (HB4.out.trans (B45.mono HB4.out.size))
  clear B45 HB4
  generalize w4.heap.size = B5 at *
  generalize w4.alloc (.cells ([.int .i64 S.s.wd, .int .i64 S.s.ge, .int .i64 S.s.ma, .int .i64 S.s.hd, .int .i64 S.s.pg] : List Value).toArray 99) = w5 at *
  have C50 := hid (show w5.cell? ⟨B5, 0, none⟩ = some (.int .i64 S.s.wd) by rw [cell_of_row _ _ _ _ _ _ R5]; rfl)
  have C52 := hid (show w5.cell? ⟨B5, 2, none⟩ = some (.int .i64 S.s.ma) by rw [cell_of_row _ _ _ _ _ _ R5]; rfl)
  clear R5
  have RL := (HB5.out.block _ (hlt HL2.out)).trans HL2.out
  have R2 := hid ((HB5.out.block _ (hlt R1.out)).trans R1.out)
  have CL2b := hid (show w5.cell? ⟨l, 2, none⟩ = some (.pointer (some ⟨st, 0, none⟩)) by rw [cell_of_row _ _ _ _ _ _ RL]; rfl)
  have CL3 := hid (show w5.cell? ⟨l, 3, none⟩ = some (.int .i64 r.v) by rw [cell_of_row _ _ _ _ _ _ RL]; rfl)
  have CL4 := hid (show w5.cell? ⟨l, 4, none⟩ = some (.int .i64 r.f) by rw [cell_of_row _ _ _ _ _ _ RL]; rfl)
  have CL8 := hid (show w5.cell? ⟨l, 8, none⟩ = some (.int .i64 r.c) by rw [cell_of_row _ _ _ _ _ _ RL]; rfl)
  have RG := hid (show w5.rangeAt l 9 (ints .u8 r.sm) from fun j v hv => by
    rw [cell_of_row _ _ _ _ _ _ RL]
    have := rcC_sm r j v hv
    rw [show 9 + j = (6 + j) + 1 + 1 + 1 by omega]
    show (Value.int .i32 1 :: Value.int .u32 0 :: Value.pointer (some ⟨st, 0, none⟩) :: rcC r).toArray[(6 + j) + 1 + 1 + 1]? = some v
    simpa using this)
  have HRL := hid RL
  clear RL CL2
  have KP := hid (fun w9 (hk : Keeps B2 w5 w9) => PG.out w9 ((Keeps.of_below HB5.out).trans hk))
  have HI2 := HI.out
  unfold inC at HI2
  replace HI := hid HI2
  clear HI2
  generalize S.s.wd = wd at *
  generalize S.s.ma = ma at *
  generalize S.D.np = np at *
  generalize r.sm = sm at *
  generalize r.v = rv at *
  generalize r.f = rf at *
  generalize r.c = rc at *
  go_wp2_with fail
  refine wp_region_noPanic ?_
  refine wp_region_held_drew (S := fun w' => Keeps B2 w5 w') (by kernel_rfl) (Keeps.refl _ _).drew (fun hHeld => ?_)
  refine wpAnyH_take (i := 0) (oi := { dst := some 28, op := Op.fieldAddr 99 (Operand.tmp 5) 0, type := 0, pos := "ledger.go:90", after := #[{ on := 29, ground := Ground.gcOnly Departure.literalInPlace }], guard := none }) (v := .pointer (some ⟨B5, 0, none⟩)) rfl (by kernel_rfl) (by kernel_rfl) (by kernel_rfl) (fun _ _ _ h => h) (Or.inl ⟨by rfl, by intro w hS; go_simp⟩) hHeld ?_
  try simp only [Act.put, List.setIfInBounds_toArray, List.set_cons_zero, List.set_cons_succ]
  refine wpAnyH_take (i := 2) (oi := { dst := some 30, op := Op.move (Operand.tmp 0), type := 22, pos := "ledger.go:90", after := #[{ on := 31, ground := Ground.gcOnly Departure.literalInPlace }], guard := none }) (v := .pointer (some ⟨l, 0, none⟩)) rfl (by kernel_rfl) (by kernel_rfl) (by kernel_rfl) (fun _ _ _ h => h) (Or.inl ⟨by rfl, by intro w hS; go_simp⟩) hHeld ?_
  try simp only [Act.put, List.setIfInBounds_toArray, List.set_cons_zero, List.set_cons_succ]
  refine wpAnyH_take (i := 7) (oi := { dst := some 35, op := Op.move (Operand.tmp 0), type := 22, pos := "ledger.go:90", after := #[{ on := 33, ground := Ground.gcOnly Departure.literalInPlace }], guard := none }) (v := .pointer (some ⟨l, 0, none⟩)) rfl (by kernel_rfl) (by kernel_rfl) (by kernel_rfl) (fun _ _ _ h => h) (Or.inl ⟨by rfl, by intro w hS; go_simp⟩) hHeld ?_
  try simp only [Act.put, List.setIfInBounds_toArray, List.set_cons_zero, List.set_cons_succ]
  refine wpAnyH_take (i := 12) (oi := { dst := some 40, op := Op.fieldAddr 99 (Operand.tmp 5) 2, type := 0, pos := "ledger.go:90", after := #[{ on := 35, ground := Ground.gcOnly Departure.literalInPlace }], guard := none }) (v := .pointer (some ⟨B5, 2, none⟩)) rfl (by kernel_rfl) (by kernel_rfl) (by kernel_rfl) (fun _ _ _ h => h) (Or.inl ⟨by rfl, by intro w hS; go_simp⟩) hHeld ?_
  try simp only [Act.put, List.setIfInBounds_toArray, List.set_cons_zero, List.set_cons_succ]
  refine wpAnyH_take (i := 14) (oi := { dst := some 42, op := Op.move (Operand.tmp 0), type := 22, pos := "ledger.go:90", after := #[], guard := none }) (v := .pointer (some ⟨l, 0, none⟩)) rfl (by kernel_rfl) (by kernel_rfl) (by kernel_rfl) (fun _ _ _ h => h) (Or.inl ⟨by rfl, by intro w hS; go_simp⟩) hHeld ?_
  try simp only [Act.put, List.setIfInBounds_toArray, List.set_cons_zero, List.set_cons_succ]
  refine wpAnyH_take (i := 19) (oi := { dst := some 47, op := Op.move (Operand.tmp 0), type := 22, pos := "ledger.go:90", after := #[{ on := 39, ground := Ground.gcOnly Departure.literalInPlace }], guard := none }) (v := .pointer (some ⟨l, 0, none⟩)) rfl (by kernel_rfl) (by kernel_rfl) (by kernel_rfl) (fun _ _ _ h => h) (Or.inl ⟨by rfl, by intro w hS; go_simp⟩) hHeld ?_
  try simp only [Act.put, List.setIfInBounds_toArray, List.set_cons_zero, List.set_cons_succ]
  refine wpAnyH_take (i := 24) (oi := { dst := some 52, op := Op.move (Operand.tmp 0), type := 22, pos := "ledger.go:90", after := #[{ on := 41, ground := Ground.gcOnly Departure.literalInPlace }], guard := none }) (v := .pointer (some ⟨l, 0, none⟩)) rfl (by kernel_rfl) (by kernel_rfl) (by kernel_rfl) (fun _ _ _ h => h) (Or.inl ⟨by rfl, by intro w hS; go_simp⟩) hHeld ?_
  try simp only [Act.put, List.setIfInBounds_toArray, List.set_cons_zero, List.set_cons_succ]
  refine wpAnyH_take (i := 1) (oi := { dst := some 29, op := Op.load 3 (Operand.tmp 28), type := 3, pos := "ledger.go:90", after := #[{ on := 0, ground := Ground.data }, { on := 29, ground := Ground.gcOnly Departure.literalInPlace }], guard := none }) (v := .int .i64 wd) rfl (by kernel_rfl) (by kernel_rfl) (by kernel_rfl) (fun _ _ _ h => h) (Or.inl ⟨by rfl, by intro w hS; have hc := (hS.cellK NE5.out C50.out); go_simp⟩) hHeld ?_
  try simp only [Act.put, List.setIfInBounds_toArray, List.set_cons_zero, List.set_cons_succ]
  refine wpAnyH_take (i := 3) (oi := { dst := some 31, op := Op.nilCheck (Operand.tmp 30), type := 0, pos := "ledger.go:90", after := #[{ on := 2, ground := Ground.data }, { on := 31, ground := Ground.gcOnly Departure.literalInPlace }], guard := none }) (v := .pointer (some ⟨l, 0, none⟩)) rfl (by kernel_rfl) (by kernel_rfl) (by kernel_rfl) (fun _ _ _ h => h) (Or.inl ⟨by rfl, by intro w hS; go_simp⟩) hHeld ?_
  try simp only [Act.put, List.setIfInBounds_toArray, List.set_cons_zero, List.set_cons_succ]
  refine wpAnyH_take (i := 8) (oi := { dst := some 36, op := Op.nilCheck (Operand.tmp 35), type := 0, pos := "ledger.go:90", after := #[{ on := 7, ground := Ground.data }, { on := 33, ground := Ground.gcOnly Departure.literalInPlace }], guard := none }) (v := .pointer (some ⟨l, 0, none⟩)) rfl (by kernel_rfl) (by kernel_rfl) (by kernel_rfl) (fun _ _ _ h => h) (Or.inl ⟨by rfl, by intro w hS; go_simp⟩) hHeld ?_
  try simp only [Act.put, List.setIfInBounds_toArray, List.set_cons_zero, List.set_cons_succ]
  refine wpAnyH_take (i := 13) (oi := { dst := some 41, op := Op.load 3 (Operand.tmp 40), type := 3, pos := "ledger.go:90", after := #[{ on := 12, ground := Ground.data }, { on := 35, ground := Ground.gcOnly Departure.literalInPlace }], guard := none }) (v := .int .i64 ma) rfl (by kernel_rfl) (by kernel_rfl) (by kernel_rfl) (fun _ _ _ h => h) (Or.inl ⟨by rfl, by intro w hS; have hc := (hS.cellK NE5.out C52.out); go_simp⟩) hHeld ?_
  try simp only [Act.put, List.setIfInBounds_toArray, List.set_cons_zero, List.set_cons_succ]
  refine wpAnyH_take (i := 15) (oi := { dst := some 43, op := Op.nilCheck (Operand.tmp 42), type := 0, pos := "ledger.go:90", after := #[{ on := 14, ground := Ground.data }], guard := none }) (v := .pointer (some ⟨l, 0, none⟩)) rfl (by kernel_rfl) (by kernel_rfl) (by kernel_rfl) (fun _ _ _ h => h) (Or.inl ⟨by rfl, by intro w hS; go_simp⟩) hHeld ?_
  try simp only [Act.put, List.setIfInBounds_toArray, List.set_cons_zero, List.set_cons_succ]
  refine wpAnyH_take (i := 20) (oi := { dst := some 48, op := Op.nilCheck (Operand.tmp 47), type := 0, pos := "ledger.go:90", after := #[{ on := 19, ground := Ground.data }, { on := 39, ground := Ground.gcOnly Departure.literalInPlace }], guard := none }) (v := .pointer (some ⟨l, 0, none⟩)) rfl (by kernel_rfl) (by kernel_rfl) (by kernel_rfl) (fun _ _ _ h => h) (Or.inl ⟨by rfl, by intro w hS; go_simp⟩) hHeld ?_
  try simp only [Act.put, List.setIfInBounds_toArray, List.set_cons_zero, List.set_cons_succ]
  refine wpAnyH_take (i := 25) (oi := { dst := some 53, op := Op.nilCheck (Operand.tmp 52), type := 0, pos := "ledger.go:90", after := #[{ on := 24, ground := Ground.data }, { on := 41, ground := Ground.gcOnly Departure.literalInPlace }], guard := none }) (v := .pointer (some ⟨l, 0, none⟩)) rfl (by kernel_rfl) (by kernel_rfl) (by kernel_rfl) (fun _ _ _ h => h) (Or.inl ⟨by rfl, by intro w hS; go_simp⟩) hHeld ?_
  try simp only [Act.put, List.setIfInBounds_toArray, List.set_cons_zero, List.set_cons_succ]
  refine wpAnyH_take (i := 4) (oi := { dst := some 32, op := Op.fieldAddr 96 (Operand.tmp 31) 2, type := 0, pos := "ledger.go:90", after := #[{ on := 3, ground := Ground.data }, { on := 31, ground := Ground.gcOnly Departure.literalInPlace }], guard := none }) (v := .pointer (some ⟨l, 3, none⟩)) rfl (by kernel_rfl) (by kernel_rfl) (by kernel_rfl) (fun _ _ _ h => h) (Or.inl ⟨by rfl, by intro w hS; go_simp⟩) hHeld ?_
  try simp only [Act.put, List.setIfInBounds_toArray, List.set_cons_zero, List.set_cons_succ]
  refine wpAnyH_take (i := 9) (oi := { dst := some 37, op := Op.fieldAddr 96 (Operand.tmp 36) 2, type := 0, pos := "ledger.go:90", after := #[{ on := 8, ground := Ground.data }, { on := 33, ground := Ground.gcOnly Departure.literalInPlace }], guard := none }) (v := .pointer (some ⟨l, 3, none⟩)) rfl (by kernel_rfl) (by kernel_rfl) (by kernel_rfl) (fun _ _ _ h => h) (Or.inl ⟨by rfl, by intro w hS; go_simp⟩) hHeld ?_
  try simp only [Act.put, List.setIfInBounds_toArray, List.set_cons_zero, List.set_cons_succ]
  refine wpAnyH_take (i := 16) (oi := { dst := some 44, op := Op.fieldAddr 96 (Operand.tmp 43) 1, type := 0, pos := "ledger.go:90", after := #[{ on := 15, ground := Ground.data }], guard := none }) (v := .pointer (some ⟨l, 2, none⟩)) rfl (by kernel_rfl) (by kernel_rfl) (by kernel_rfl) (fun _ _ _ h => h) (Or.inl ⟨by rfl, by intro w hS; go_simp⟩) hHeld ?_
  try simp only [Act.put, List.setIfInBounds_toArray, List.set_cons_zero, List.set_cons_succ]
  refine wpAnyH_take (i := 21) (oi := { dst := some 49, op := Op.fieldAddr 96 (Operand.tmp 48) 2, type := 0, pos := "ledger.go:90", after := #[{ on := 20, ground := Ground.data }, { on := 39, ground := Ground.gcOnly Departure.literalInPlace }], guard := none }) (v := .pointer (some ⟨l, 3, none⟩)) rfl (by kernel_rfl) (by kernel_rfl) (by kernel_rfl) (fun _ _ _ h => h) (Or.inl ⟨by rfl, by intro w hS; go_simp⟩) hHeld ?_
  try simp only [Act.put, List.setIfInBounds_toArray, List.set_cons_zero, List.set_cons_succ]
  refine wpAnyH_take (i := 26) (oi := { dst := some 54, op := Op.fieldAddr 96 (Operand.tmp 53) 2, type := 0, pos := "ledger.go:90", after := #[{ on := 25, ground := Ground.data }, { on := 41, ground := Ground.gcOnly Departure.literalInPlace }], guard := none }) (v := .pointer (some ⟨l, 3, none⟩)) rfl (by kernel_rfl) (by kernel_rfl) (by kernel_rfl) (fun _ _ _ h => h) (Or.inl ⟨by rfl, by intro w hS; go_simp⟩) hHeld ?_
  try simp only [Act.put, List.setIfInBounds_toArray, List.set_cons_zero, List.set_cons_succ]
  refine wpAnyH_take (i := 5) (oi := { dst := some 33, op := Op.fieldAddr 94 (Operand.tmp 32) 1, type := 0, pos := "ledger.go:90", after := #[{ on := 4, ground := Ground.data }, { on := 31, ground := Ground.gcOnly Departure.literalInPlace }], guard := none }) (v := .pointer (some ⟨l, 4, none⟩)) rfl (by kernel_rfl) (by kernel_rfl) (by kernel_rfl) (fun _ _ _ h => h) (Or.inl ⟨by rfl, by intro w hS; go_simp⟩) hHeld ?_
  try simp only [Act.put, List.setIfInBounds_toArray, List.set_cons_zero, List.set_cons_succ]
  refine wpAnyH_take (i := 10) (oi := { dst := some 38, op := Op.fieldAddr 94 (Operand.tmp 37) 0, type := 0, pos := "ledger.go:90", after := #[{ on := 9, ground := Ground.data }, { on := 33, ground := Ground.gcOnly Departure.literalInPlace }], guard := none }) (v := .pointer (some ⟨l, 3, none⟩)) rfl (by kernel_rfl) (by kernel_rfl) (by kernel_rfl) (fun _ _ _ h => h) (Or.inl ⟨by rfl, by intro w hS; go_simp⟩) hHeld ?_
  try simp only [Act.put, List.setIfInBounds_toArray, List.set_cons_zero, List.set_cons_succ]
  refine wpAnyH_take (i := 17) (oi := { dst := some 45, op := Op.load 92 (Operand.tmp 44), type := 92, pos := "ledger.go:90", after := #[{ on := 16, ground := Ground.data }], guard := none }) (v := .pointer (some ⟨st, 0, none⟩)) rfl (by kernel_rfl) (by kernel_rfl) (by kernel_rfl) (fun _ _ _ h => h) (Or.inl ⟨by rfl, by intro w hS; have hc := (hS.cellK NEL.out CL2b.out); go_simp⟩) hHeld ?_
  try simp only [Act.put, List.setIfInBounds_toArray, List.set_cons_zero, List.set_cons_succ]
  refine wpAnyH_take (i := 22) (oi := { dst := some 50, op := Op.fieldAddr 94 (Operand.tmp 49) 5, type := 0, pos := "ledger.go:90", after := #[{ on := 21, ground := Ground.data }, { on := 39, ground := Ground.gcOnly Departure.literalInPlace }], guard := none }) (v := .pointer (some ⟨l, 8, none⟩)) rfl (by kernel_rfl) (by kernel_rfl) (by kernel_rfl) (fun _ _ _ h => h) (Or.inl ⟨by rfl, by intro w hS; go_simp⟩) hHeld ?_
  try simp only [Act.put, List.setIfInBounds_toArray, List.set_cons_zero, List.set_cons_succ]
  refine wpAnyH_take (i := 27) (oi := { dst := some 55, op := Op.fieldAddr 94 (Operand.tmp 54) 6, type := 0, pos := "ledger.go:90", after := #[{ on := 26, ground := Ground.data }, { on := 41, ground := Ground.gcOnly Departure.literalInPlace }], guard := none }) (v := .pointer (some ⟨l, 9, none⟩)) rfl (by kernel_rfl) (by kernel_rfl) (by kernel_rfl) (fun _ _ _ h => h) (Or.inl ⟨by rfl, by intro w hS; go_simp⟩) hHeld ?_
  try simp only [Act.put, List.setIfInBounds_toArray, List.set_cons_zero, List.set_cons_succ]
  refine wpAnyH_take (i := 6) (oi := { dst := some 34, op := Op.load 3 (Operand.tmp 33), type := 3, pos := "ledger.go:90", after := #[{ on := 5, ground := Ground.data }, { on := 31, ground := Ground.gcOnly Departure.literalInPlace }], guard := none }) (v := .int .i64 rf) rfl (by kernel_rfl) (by kernel_rfl) (by kernel_rfl) (fun _ _ _ h => h) (Or.inl ⟨by rfl, by intro w hS; have hc := (hS.cellK NEL.out CL4.out); go_simp⟩) hHeld ?_
  try simp only [Act.put, List.setIfInBounds_toArray, List.set_cons_zero, List.set_cons_succ]
  refine wpAnyH_take (i := 11) (oi := { dst := some 39, op := Op.load 3 (Operand.tmp 38), type := 3, pos := "ledger.go:90", after := #[{ on := 10, ground := Ground.data }, { on := 33, ground := Ground.gcOnly Departure.literalInPlace }], guard := none }) (v := .int .i64 rv) rfl (by kernel_rfl) (by kernel_rfl) (by kernel_rfl) (fun _ _ _ h => h) (Or.inl ⟨by rfl, by intro w hS; have hc := (hS.cellK NEL.out CL3.out); go_simp⟩) hHeld ?_
  try simp only [Act.put, List.setIfInBounds_toArray, List.set_cons_zero, List.set_cons_succ]
  refine wpAnyH_take (i := 23) (oi := { dst := some 51, op := Op.load 3 (Operand.tmp 50), type := 3, pos := "ledger.go:90", after := #[{ on := 22, ground := Ground.data }, { on := 39, ground := Ground.gcOnly Departure.literalInPlace }], guard := none }) (v := .int .i64 rc) rfl (by kernel_rfl) (by kernel_rfl) (by kernel_rfl) (fun _ _ _ h => h) (Or.inl ⟨by rfl, by intro w hS; have hc := (hS.cellK NEL.out CL8.out); go_simp⟩) hHeld ?_
  try simp only [Act.put, List.setIfInBounds_toArray, List.set_cons_zero, List.set_cons_succ]
  refine wpAnyH_take (i := 28) (oi := { dst := some 56, op := Op.load 34 (Operand.tmp 55), type := 34, pos := "ledger.go:90", after := #[{ on := 27, ground := Ground.data }, { on := 41, ground := Ground.gcOnly Departure.literalInPlace }], guard := none }) (v := .agg (ints .u8 sm).toArray) rfl (by kernel_rfl) (by kernel_rfl) (by kernel_rfl) (fun _ _ _ h => h) (yieldsIf_load_mid (by rfl) 34 _ rfl l (9) rfl (ints .u8 sm) _ (fun w1 hS => hS.rngK NEL.out RG.out) Tryz.underlying34 rfl (by rw [LSM.out]; kernel_rfl)) hHeld ?_
  try simp only [Act.put, List.setIfInBounds_toArray, List.set_cons_zero, List.set_cons_succ]
  refine wpAnyH_ready (rs := [18]) (by kernel_rfl) (by simp) ?_
  refine (AllReadyH.cons (o := { dst := some 46, op := Op.call { callee := Callee.value (Operand.func 30), args := #[Operand.tmp 45], argTypes := #[92] }, type := 3, pos := "ledger.go:95", after := #[{ on := 17, ground := Ground.data }], guard := none }) rfl (fun K hK => ?_) AllReadyH.nil)
  go_simp
  go_at_call 30
  refine (KP.out _ (hHeld)).mono ?_
  rintro e w9 ⟨rfl, rfl⟩
  go_wp2_with fail
  refine hK.out _ _ (hHeld) (fun hHeld2 => ?_)
  clear hK K hHeld
  have hHeld := hHeld2
  clear hHeld2
  try simp only [Act.put, List.setIfInBounds_toArray, List.set_cons_zero, List.set_cons_succ]
  refine wpAnyH_ready (rs := [29]) (by kernel_rfl) (by simp) ?_
  refine (AllReadyH.cons (o := { dst := none, op := Op.store 36 (Operand.tmp 2) (Operand.const (Value.agg #[Value.int IntKind.i64 0, Value.int IntKind.i64 0, Value.int IntKind.i64 0, Value.int IntKind.i64 0, Value.int IntKind.i64 0, Value.int IntKind.i64 0, Value.int IntKind.u8 0, Value.int IntKind.u8 0, Value.int IntKind.u8 0, Value.int IntKind.u8 0, Value.int IntKind.u8 0, Value.int IntKind.u8 0, Value.int IntKind.u8 0, Value.int IntKind.u8 0, Value.int IntKind.u8 0, Value.int IntKind.u8 0, Value.int IntKind.u8 0, Value.int IntKind.u8 0, Value.int IntKind.u8 0, Value.int IntKind.u8 0, Value.int IntKind.u8 0, Value.int IntKind.u8 0, Value.int IntKind.u8 0, Value.int IntKind.u8 0, Value.int IntKind.u8 0, Value.int IntKind.u8 0, Value.int IntKind.u8 0, Value.int IntKind.u8 0, Value.int IntKind.u8 0, Value.int IntKind.u8 0, Value.int IntKind.u8 0, Value.int IntKind.u8 0, Value.int IntKind.u8 0, Value.int IntKind.u8 0, Value.int IntKind.u8 0, Value.int IntKind.u8 0, Value.int IntKind.u8 0, Value.int IntKind.u8 0])), type := 0, pos := "ledger.go:90", after := #[{ on := 18, ground := Ground.chain }, { on := 0, ground := Ground.textOnly Departure.literalInPlace }, { on := 1, ground := Ground.textOnly Departure.literalInPlace }, { on := 2, ground := Ground.textOnly Departure.literalInPlace }, { on := 3, ground := Ground.textOnly Departure.literalInPlace }, { on := 4, ground := Ground.textOnly Departure.literalInPlace }, { on := 5, ground := Ground.textOnly Departure.literalInPlace }, { on := 6, ground := Ground.textOnly Departure.literalInPlace }, { on := 7, ground := Ground.textOnly Departure.literalInPlace }, { on := 8, ground := Ground.textOnly Departure.literalInPlace }, { on := 9, ground := Ground.textOnly Departure.literalInPlace }, { on := 10, ground := Ground.textOnly Departure.literalInPlace }, { on := 11, ground := Ground.textOnly Departure.literalInPlace }, { on := 12, ground := Ground.textOnly Departure.literalInPlace }, { on := 13, ground := Ground.textOnly Departure.literalInPlace }, { on := 14, ground := Ground.textOnly Departure.literalInPlace }, { on := 15, ground := Ground.textOnly Departure.literalInPlace }, { on := 16, ground := Ground.textOnly Departure.literalInPlace }, { on := 17, ground := Ground.textOnly Departure.literalInPlace }, { on := 18, ground := Ground.textOnly Departure.literalInPlace }, { on := 19, ground := Ground.textOnly Departure.literalInPlace }, { on := 20, ground := Ground.textOnly Departure.literalInPlace }, { on := 21, ground := Ground.textOnly Departure.literalInPlace }, { on := 22, ground := Ground.textOnly Departure.literalInPlace }, { on := 23, ground := Ground.textOnly Departure.literalInPlace }, { on := 24, ground := Ground.textOnly Departure.literalInPlace }, { on := 25, ground := Ground.textOnly Departure.literalInPlace }, { on := 26, ground := Ground.textOnly Departure.literalInPlace }, { on := 27, ground := Ground.textOnly Departure.literalInPlace }, { on := 28, ground := Ground.textOnly Departure.literalInPlace }], guard := none }) rfl (fun K hK => ?_) AllReadyH.nil)
  refine step_storeRowW (by rfl) 36 _ _ rfl B2 in0 rfl rfl 36 in0 (R2.out) Tryz.sizeIn rfl in0_one ?_
  intro w10 hr10 hk10
  refine hK.out _ _ (hHeld.trans hk10) (fun hHeld2 => ?_)
  clear hK K hHeld
  have hHeld := hHeld2
  clear hHeld2
  try simp only [Act.put, List.setIfInBounds_toArray, List.set_cons_zero, List.set_cons_succ]
  refine wpAnyH_take (i := 30) (oi := { dst := some 57, op := Op.fieldAddr 36 (Operand.tmp 2) 0, type := 0, pos := "ledger.go:90", after := #[{ on := 0, ground := Ground.phase }, { on := 1, ground := Ground.phase }, { on := 2, ground := Ground.textOnly Departure.literalInPlace }, { on := 3, ground := Ground.textOnly Departure.literalInPlace }, { on := 4, ground := Ground.textOnly Departure.literalInPlace }, { on := 5, ground := Ground.textOnly Departure.literalInPlace }, { on := 6, ground := Ground.textOnly Departure.literalInPlace }, { on := 7, ground := Ground.textOnly Departure.literalInPlace }, { on := 8, ground := Ground.textOnly Departure.literalInPlace }, { on := 9, ground := Ground.textOnly Departure.literalInPlace }, { on := 10, ground := Ground.textOnly Departure.literalInPlace }, { on := 11, ground := Ground.textOnly Departure.literalInPlace }, { on := 12, ground := Ground.textOnly Departure.literalInPlace }, { on := 13, ground := Ground.textOnly Departure.literalInPlace }, { on := 14, ground := Ground.textOnly Departure.literalInPlace }, { on := 15, ground := Ground.textOnly Departure.literalInPlace }, { on := 16, ground := Ground.textOnly Departure.literalInPlace }, { on := 17, ground := Ground.textOnly Departure.literalInPlace }, { on := 18, ground := Ground.textOnly Departure.literalInPlace }, { on := 19, ground := Ground.textOnly Departure.literalInPlace }, { on := 20, ground := Ground.textOnly Departure.literalInPlace }, { on := 21, ground := Ground.textOnly Departure.literalInPlace }, { on := 22, ground := Ground.textOnly Departure.literalInPlace }, { on := 23, ground := Ground.textOnly Departure.literalInPlace }, { on := 24, ground := Ground.textOnly Departure.literalInPlace }, { on := 25, ground := Ground.textOnly Departure.literalInPlace }, { on := 26, ground := Ground.textOnly Departure.literalInPlace }, { on := 27, ground := Ground.textOnly Departure.literalInPlace }, { on := 28, ground := Ground.textOnly Departure.literalInPlace }, { on := 29, ground := Ground.phase }], guard := none }) (v := .pointer (some ⟨B2, 0, none⟩)) rfl (by kernel_rfl) (by kernel_rfl) (by kernel_rfl) (fun _ _ _ h => h) (Or.inl ⟨by rfl, by intro w hS; go_simp⟩) hHeld ?_
  try simp only [Act.put, List.setIfInBounds_toArray, List.set_cons_zero, List.set_cons_succ]
  refine wpAnyH_ready (rs := [31]) (by kernel_rfl) (by simp) ?_
  refine (AllReadyH.cons (o := { dst := none, op := Op.store 3 (Operand.tmp 57) (Operand.tmp 29), type := 0, pos := "ledger.go:90", after := #[{ on := 30, ground := Ground.data }, { on := 1, ground := Ground.data }, { on := 29, ground := Ground.chain }, { on := 0, ground := Ground.phase }, { on := 1, ground := Ground.phase }, { on := 2, ground := Ground.textOnly Departure.literalInPlace }, { on := 3, ground := Ground.textOnly Departure.literalInPlace }, { on := 4, ground := Ground.textOnly Departure.literalInPlace }, { on := 5, ground := Ground.textOnly Departure.literalInPlace }, { on := 6, ground := Ground.textOnly Departure.literalInPlace }, { on := 7, ground := Ground.textOnly Departure.literalInPlace }, { on := 8, ground := Ground.textOnly Departure.literalInPlace }, { on := 9, ground := Ground.textOnly Departure.literalInPlace }, { on := 10, ground := Ground.textOnly Departure.literalInPlace }, { on := 11, ground := Ground.textOnly Departure.literalInPlace }, { on := 12, ground := Ground.textOnly Departure.literalInPlace }, { on := 13, ground := Ground.textOnly Departure.literalInPlace }, { on := 14, ground := Ground.textOnly Departure.literalInPlace }, { on := 15, ground := Ground.textOnly Departure.literalInPlace }, { on := 16, ground := Ground.textOnly Departure.literalInPlace }, { on := 17, ground := Ground.textOnly Departure.literalInPlace }, { on := 18, ground := Ground.textOnly Departure.literalInPlace }, { on := 19, ground := Ground.textOnly Departure.literalInPlace }, { on := 20, ground := Ground.textOnly Departure.literalInPlace }, { on := 21, ground := Ground.textOnly Departure.literalInPlace }, { on := 22, ground := Ground.textOnly Departure.literalInPlace }, { on := 23, ground := Ground.textOnly Departure.literalInPlace }, { on := 24, ground := Ground.textOnly Departure.literalInPlace }, { on := 25, ground := Ground.textOnly Departure.literalInPlace }, { on := 26, ground := Ground.textOnly Departure.literalInPlace }, { on := 27, ground := Ground.textOnly Departure.literalInPlace }, { on := 28, ground := Ground.textOnly Departure.literalInPlace }, { on := 29, ground := Ground.phase }], guard := none }) rfl (fun K hK => ?_) AllReadyH.nil)
  refine step_storeW (by rfl) 3 _ _ rfl B2 0 (.int .i64 wd) rfl rfl in0 36 hr10 (by simp [in0]) Tryz.size3 rfl rfl ?_
  intro w11 hr11 hk11
  refine hK.out _ _ (hHeld.trans hk11) (fun hHeld2 => ?_)
  clear hK K hHeld
  have hHeld := hHeld2
  clear hHeld2
  try simp only [Act.put, List.setIfInBounds_toArray, List.set_cons_zero, List.set_cons_succ]
  refine wpAnyH_take (i := 32) (oi := { dst := some 58, op := Op.fieldAddr 36 (Operand.tmp 2) 1, type := 0, pos := "ledger.go:90", after := #[{ on := 0, ground := Ground.phase }, { on := 1, ground := Ground.phase }, { on := 2, ground := Ground.phase }, { on := 3, ground := Ground.phase }, { on := 4, ground := Ground.phase }, { on := 5, ground := Ground.phase }, { on := 6, ground := Ground.phase }, { on := 7, ground := Ground.textOnly Departure.literalInPlace }, { on := 8, ground := Ground.textOnly Departure.literalInPlace }, { on := 9, ground := Ground.textOnly Departure.literalInPlace }, { on := 10, ground := Ground.textOnly Departure.literalInPlace }, { on := 11, ground := Ground.textOnly Departure.literalInPlace }, { on := 12, ground := Ground.textOnly Departure.literalInPlace }, { on := 13, ground := Ground.textOnly Departure.literalInPlace }, { on := 14, ground := Ground.textOnly Departure.literalInPlace }, { on := 15, ground := Ground.textOnly Departure.literalInPlace }, { on := 16, ground := Ground.textOnly Departure.literalInPlace }, { on := 17, ground := Ground.textOnly Departure.literalInPlace }, { on := 18, ground := Ground.textOnly Departure.literalInPlace }, { on := 19, ground := Ground.textOnly Departure.literalInPlace }, { on := 20, ground := Ground.textOnly Departure.literalInPlace }, { on := 21, ground := Ground.textOnly Departure.literalInPlace }, { on := 22, ground := Ground.textOnly Departure.literalInPlace }, { on := 23, ground := Ground.textOnly Departure.literalInPlace }, { on := 24, ground := Ground.textOnly Departure.literalInPlace }, { on := 25, ground := Ground.textOnly Departure.literalInPlace }, { on := 26, ground := Ground.textOnly Departure.literalInPlace }, { on := 27, ground := Ground.textOnly Departure.literalInPlace }, { on := 28, ground := Ground.textOnly Departure.literalInPlace }, { on := 29, ground := Ground.phase }, { on := 30, ground := Ground.phase }, { on := 31, ground := Ground.phase }], guard := none }) (v := .pointer (some ⟨B2, 1, none⟩)) rfl (by kernel_rfl) (by kernel_rfl) (by kernel_rfl) (fun _ _ _ h => h) (Or.inl ⟨by rfl, by intro w hS; go_simp⟩) hHeld ?_
  try simp only [Act.put, List.setIfInBounds_toArray, List.set_cons_zero, List.set_cons_succ]
  refine wpAnyH_ready (rs := [33]) (by kernel_rfl) (by simp) ?_
  refine (AllReadyH.cons (o := { dst := none, op := Op.store 3 (Operand.tmp 58) (Operand.tmp 34), type := 0, pos := "ledger.go:90", after := #[{ on := 32, ground := Ground.data }, { on := 6, ground := Ground.data }, { on := 31, ground := Ground.chain }, { on := 0, ground := Ground.phase }, { on := 1, ground := Ground.phase }, { on := 2, ground := Ground.phase }, { on := 3, ground := Ground.phase }, { on := 4, ground := Ground.phase }, { on := 5, ground := Ground.phase }, { on := 6, ground := Ground.phase }, { on := 7, ground := Ground.textOnly Departure.literalInPlace }, { on := 8, ground := Ground.textOnly Departure.literalInPlace }, { on := 9, ground := Ground.textOnly Departure.literalInPlace }, { on := 10, ground := Ground.textOnly Departure.literalInPlace }, { on := 11, ground := Ground.textOnly Departure.literalInPlace }, { on := 12, ground := Ground.textOnly Departure.literalInPlace }, { on := 13, ground := Ground.textOnly Departure.literalInPlace }, { on := 14, ground := Ground.textOnly Departure.literalInPlace }, { on := 15, ground := Ground.textOnly Departure.literalInPlace }, { on := 16, ground := Ground.textOnly Departure.literalInPlace }, { on := 17, ground := Ground.textOnly Departure.literalInPlace }, { on := 18, ground := Ground.textOnly Departure.literalInPlace }, { on := 19, ground := Ground.textOnly Departure.literalInPlace }, { on := 20, ground := Ground.textOnly Departure.literalInPlace }, { on := 21, ground := Ground.textOnly Departure.literalInPlace }, { on := 22, ground := Ground.textOnly Departure.literalInPlace }, { on := 23, ground := Ground.textOnly Departure.literalInPlace }, { on := 24, ground := Ground.textOnly Departure.literalInPlace }, { on := 25, ground := Ground.textOnly Departure.literalInPlace }, { on := 26, ground := Ground.textOnly Departure.literalInPlace }, { on := 27, ground := Ground.textOnly Departure.literalInPlace }, { on := 28, ground := Ground.textOnly Departure.literalInPlace }, { on := 29, ground := Ground.phase }, { on := 30, ground := Ground.phase }, { on := 31, ground := Ground.phase }], guard := none }) rfl (fun K hK => ?_) AllReadyH.nil)
  refine step_storeW (by rfl) 3 _ _ rfl B2 1 (.int .i64 rf) rfl rfl _ 36 hr11 (by simp [in0]) Tryz.size3 rfl rfl ?_
  intro w12 hr12 hk12
  refine hK.out _ _ (hHeld.trans hk12) (fun hHeld2 => ?_)
  clear hK K hHeld
  have hHeld := hHeld2
  clear hHeld2
  try simp only [Act.put, List.setIfInBounds_toArray, List.set_cons_zero, List.set_cons_succ]
  refine wpAnyH_take (i := 34) (oi := { dst := some 59, op := Op.fieldAddr 36 (Operand.tmp 2) 2, type := 0, pos := "ledger.go:90", after := #[{ on := 0, ground := Ground.phase }, { on := 1, ground := Ground.phase }, { on := 2, ground := Ground.phase }, { on := 3, ground := Ground.phase }, { on := 4, ground := Ground.phase }, { on := 5, ground := Ground.phase }, { on := 6, ground := Ground.phase }, { on := 7, ground := Ground.phase }, { on := 8, ground := Ground.phase }, { on := 9, ground := Ground.phase }, { on := 10, ground := Ground.phase }, { on := 11, ground := Ground.phase }, { on := 12, ground := Ground.textOnly Departure.literalInPlace }, { on := 13, ground := Ground.textOnly Departure.literalInPlace }, { on := 14, ground := Ground.textOnly Departure.literalInPlace }, { on := 15, ground := Ground.textOnly Departure.literalInPlace }, { on := 16, ground := Ground.textOnly Departure.literalInPlace }, { on := 17, ground := Ground.textOnly Departure.literalInPlace }, { on := 18, ground := Ground.textOnly Departure.literalInPlace }, { on := 19, ground := Ground.textOnly Departure.literalInPlace }, { on := 20, ground := Ground.textOnly Departure.literalInPlace }, { on := 21, ground := Ground.textOnly Departure.literalInPlace }, { on := 22, ground := Ground.textOnly Departure.literalInPlace }, { on := 23, ground := Ground.textOnly Departure.literalInPlace }, { on := 24, ground := Ground.textOnly Departure.literalInPlace }, { on := 25, ground := Ground.textOnly Departure.literalInPlace }, { on := 26, ground := Ground.textOnly Departure.literalInPlace }, { on := 27, ground := Ground.textOnly Departure.literalInPlace }, { on := 28, ground := Ground.textOnly Departure.literalInPlace }, { on := 29, ground := Ground.phase }, { on := 30, ground := Ground.phase }, { on := 31, ground := Ground.phase }, { on := 32, ground := Ground.phase }, { on := 33, ground := Ground.phase }], guard := none }) (v := .pointer (some ⟨B2, 2, none⟩)) rfl (by kernel_rfl) (by kernel_rfl) (by kernel_rfl) (fun _ _ _ h => h) (Or.inl ⟨by rfl, by intro w hS; go_simp⟩) hHeld ?_
  try simp only [Act.put, List.setIfInBounds_toArray, List.set_cons_zero, List.set_cons_succ]
  refine wpAnyH_ready (rs := [35]) (by kernel_rfl) (by simp) ?_
  refine (AllReadyH.cons (o := { dst := none, op := Op.store 3 (Operand.tmp 59) (Operand.tmp 39), type := 0, pos := "ledger.go:90", after := #[{ on := 34, ground := Ground.data }, { on := 11, ground := Ground.data }, { on := 33, ground := Ground.chain }, { on := 0, ground := Ground.phase }, { on := 1, ground := Ground.phase }, { on := 2, ground := Ground.phase }, { on := 3, ground := Ground.phase }, { on := 4, ground := Ground.phase }, { on := 5, ground := Ground.phase }, { on := 6, ground := Ground.phase }, { on := 7, ground := Ground.phase }, { on := 8, ground := Ground.phase }, { on := 9, ground := Ground.phase }, { on := 10, ground := Ground.phase }, { on := 11, ground := Ground.phase }, { on := 12, ground := Ground.textOnly Departure.literalInPlace }, { on := 13, ground := Ground.textOnly Departure.literalInPlace }, { on := 14, ground := Ground.textOnly Departure.literalInPlace }, { on := 15, ground := Ground.textOnly Departure.literalInPlace }, { on := 16, ground := Ground.textOnly Departure.literalInPlace }, { on := 17, ground := Ground.textOnly Departure.literalInPlace }, { on := 18, ground := Ground.textOnly Departure.literalInPlace }, { on := 19, ground := Ground.textOnly Departure.literalInPlace }, { on := 20, ground := Ground.textOnly Departure.literalInPlace }, { on := 21, ground := Ground.textOnly Departure.literalInPlace }, { on := 22, ground := Ground.textOnly Departure.literalInPlace }, { on := 23, ground := Ground.textOnly Departure.literalInPlace }, { on := 24, ground := Ground.textOnly Departure.literalInPlace }, { on := 25, ground := Ground.textOnly Departure.literalInPlace }, { on := 26, ground := Ground.textOnly Departure.literalInPlace }, { on := 27, ground := Ground.textOnly Departure.literalInPlace }, { on := 28, ground := Ground.textOnly Departure.literalInPlace }, { on := 29, ground := Ground.phase }, { on := 30, ground := Ground.phase }, { on := 31, ground := Ground.phase }, { on := 32, ground := Ground.phase }, { on := 33, ground := Ground.phase }], guard := none }) rfl (fun K hK => ?_) AllReadyH.nil)
  refine step_storeW (by rfl) 3 _ _ rfl B2 2 (.int .i64 rv) rfl rfl _ 36 hr12 (by simp [in0]) Tryz.size3 rfl rfl ?_
  intro w13 hr13 hk13
  refine hK.out _ _ (hHeld.trans hk13) (fun hHeld2 => ?_)
  clear hK K hHeld
  have hHeld := hHeld2
  clear hHeld2
  try simp only [Act.put, List.setIfInBounds_toArray, List.set_cons_zero, List.set_cons_succ]
  refine wpAnyH_take (i := 36) (oi := { dst := some 60, op := Op.fieldAddr 36 (Operand.tmp 2) 3, type := 0, pos := "ledger.go:90", after := #[{ on := 0, ground := Ground.phase }, { on := 1, ground := Ground.phase }, { on := 2, ground := Ground.phase }, { on := 3, ground := Ground.phase }, { on := 4, ground := Ground.phase }, { on := 5, ground := Ground.phase }, { on := 6, ground := Ground.phase }, { on := 7, ground := Ground.phase }, { on := 8, ground := Ground.phase }, { on := 9, ground := Ground.phase }, { on := 10, ground := Ground.phase }, { on := 11, ground := Ground.phase }, { on := 12, ground := Ground.phase }, { on := 13, ground := Ground.phase }, { on := 14, ground := Ground.textOnly Departure.literalInPlace }, { on := 15, ground := Ground.textOnly Departure.literalInPlace }, { on := 16, ground := Ground.textOnly Departure.literalInPlace }, { on := 17, ground := Ground.textOnly Departure.literalInPlace }, { on := 18, ground := Ground.textOnly Departure.literalInPlace }, { on := 19, ground := Ground.textOnly Departure.literalInPlace }, { on := 20, ground := Ground.textOnly Departure.literalInPlace }, { on := 21, ground := Ground.textOnly Departure.literalInPlace }, { on := 22, ground := Ground.textOnly Departure.literalInPlace }, { on := 23, ground := Ground.textOnly Departure.literalInPlace }, { on := 24, ground := Ground.textOnly Departure.literalInPlace }, { on := 25, ground := Ground.textOnly Departure.literalInPlace }, { on := 26, ground := Ground.textOnly Departure.literalInPlace }, { on := 27, ground := Ground.textOnly Departure.literalInPlace }, { on := 28, ground := Ground.textOnly Departure.literalInPlace }, { on := 29, ground := Ground.phase }, { on := 30, ground := Ground.phase }, { on := 31, ground := Ground.phase }, { on := 32, ground := Ground.phase }, { on := 33, ground := Ground.phase }, { on := 34, ground := Ground.phase }, { on := 35, ground := Ground.phase }], guard := none }) (v := .pointer (some ⟨B2, 3, none⟩)) rfl (by kernel_rfl) (by kernel_rfl) (by kernel_rfl) (fun _ _ _ h => h) (Or.inl ⟨by rfl, by intro w hS; go_simp⟩) hHeld ?_
  try simp only [Act.put, List.setIfInBounds_toArray, List.set_cons_zero, List.set_cons_succ]
  refine wpAnyH_ready (rs := [37]) (by kernel_rfl) (by simp) ?_
  refine (AllReadyH.cons (o := { dst := none, op := Op.store 3 (Operand.tmp 60) (Operand.tmp 41), type := 0, pos := "ledger.go:90", after := #[{ on := 36, ground := Ground.data }, { on := 13, ground := Ground.data }, { on := 35, ground := Ground.chain }, { on := 0, ground := Ground.phase }, { on := 1, ground := Ground.phase }, { on := 2, ground := Ground.phase }, { on := 3, ground := Ground.phase }, { on := 4, ground := Ground.phase }, { on := 5, ground := Ground.phase }, { on := 6, ground := Ground.phase }, { on := 7, ground := Ground.phase }, { on := 8, ground := Ground.phase }, { on := 9, ground := Ground.phase }, { on := 10, ground := Ground.phase }, { on := 11, ground := Ground.phase }, { on := 12, ground := Ground.phase }, { on := 13, ground := Ground.phase }, { on := 14, ground := Ground.textOnly Departure.literalInPlace }, { on := 15, ground := Ground.textOnly Departure.literalInPlace }, { on := 16, ground := Ground.textOnly Departure.literalInPlace }, { on := 17, ground := Ground.textOnly Departure.literalInPlace }, { on := 18, ground := Ground.textOnly Departure.literalInPlace }, { on := 19, ground := Ground.textOnly Departure.literalInPlace }, { on := 20, ground := Ground.textOnly Departure.literalInPlace }, { on := 21, ground := Ground.textOnly Departure.literalInPlace }, { on := 22, ground := Ground.textOnly Departure.literalInPlace }, { on := 23, ground := Ground.textOnly Departure.literalInPlace }, { on := 24, ground := Ground.textOnly Departure.literalInPlace }, { on := 25, ground := Ground.textOnly Departure.literalInPlace }, { on := 26, ground := Ground.textOnly Departure.literalInPlace }, { on := 27, ground := Ground.textOnly Departure.literalInPlace }, { on := 28, ground := Ground.textOnly Departure.literalInPlace }, { on := 29, ground := Ground.phase }, { on := 30, ground := Ground.phase }, { on := 31, ground := Ground.phase }, { on := 32, ground := Ground.phase }, { on := 33, ground := Ground.phase }, { on := 34, ground := Ground.phase }, { on := 35, ground := Ground.phase }], guard := none }) rfl (fun K hK => ?_) AllReadyH.nil)
  refine step_storeW (by rfl) 3 _ _ rfl B2 3 (.int .i64 ma) rfl rfl _ 36 hr13 (by simp [in0]) Tryz.size3 rfl rfl ?_
  intro w14 hr14 hk14
  refine hK.out _ _ (hHeld.trans hk14) (fun hHeld2 => ?_)
  clear hK K hHeld
  have hHeld := hHeld2
  clear hHeld2
  try simp only [Act.put, List.setIfInBounds_toArray, List.set_cons_zero, List.set_cons_succ]
  refine wpAnyH_take (i := 38) (oi := { dst := some 61, op := Op.fieldAddr 36 (Operand.tmp 2) 4, type := 0, pos := "ledger.go:90", after := #[{ on := 0, ground := Ground.phase }, { on := 1, ground := Ground.phase }, { on := 2, ground := Ground.phase }, { on := 3, ground := Ground.phase }, { on := 4, ground := Ground.phase }, { on := 5, ground := Ground.phase }, { on := 6, ground := Ground.phase }, { on := 7, ground := Ground.phase }, { on := 8, ground := Ground.phase }, { on := 9, ground := Ground.phase }, { on := 10, ground := Ground.phase }, { on := 11, ground := Ground.phase }, { on := 12, ground := Ground.phase }, { on := 13, ground := Ground.phase }, { on := 14, ground := Ground.phase }, { on := 15, ground := Ground.phase }, { on := 16, ground := Ground.phase }, { on := 17, ground := Ground.phase }, { on := 18, ground := Ground.phase }, { on := 19, ground := Ground.textOnly Departure.literalInPlace }, { on := 20, ground := Ground.textOnly Departure.literalInPlace }, { on := 21, ground := Ground.textOnly Departure.literalInPlace }, { on := 22, ground := Ground.textOnly Departure.literalInPlace }, { on := 23, ground := Ground.textOnly Departure.literalInPlace }, { on := 24, ground := Ground.textOnly Departure.literalInPlace }, { on := 25, ground := Ground.textOnly Departure.literalInPlace }, { on := 26, ground := Ground.textOnly Departure.literalInPlace }, { on := 27, ground := Ground.textOnly Departure.literalInPlace }, { on := 28, ground := Ground.textOnly Departure.literalInPlace }, { on := 29, ground := Ground.phase }, { on := 30, ground := Ground.phase }, { on := 31, ground := Ground.phase }, { on := 32, ground := Ground.phase }, { on := 33, ground := Ground.phase }, { on := 34, ground := Ground.phase }, { on := 35, ground := Ground.phase }, { on := 36, ground := Ground.phase }, { on := 37, ground := Ground.phase }], guard := none }) (v := .pointer (some ⟨B2, 4, none⟩)) rfl (by kernel_rfl) (by kernel_rfl) (by kernel_rfl) (fun _ _ _ h => h) (Or.inl ⟨by rfl, by intro w hS; go_simp⟩) hHeld ?_
  try simp only [Act.put, List.setIfInBounds_toArray, List.set_cons_zero, List.set_cons_succ]
  refine wpAnyH_ready (rs := [39]) (by kernel_rfl) (by simp) ?_
  refine (AllReadyH.cons (o := { dst := none, op := Op.store 3 (Operand.tmp 61) (Operand.tmp 46), type := 0, pos := "ledger.go:90", after := #[{ on := 38, ground := Ground.data }, { on := 18, ground := Ground.data }, { on := 37, ground := Ground.chain }, { on := 0, ground := Ground.phase }, { on := 1, ground := Ground.phase }, { on := 2, ground := Ground.phase }, { on := 3, ground := Ground.phase }, { on := 4, ground := Ground.phase }, { on := 5, ground := Ground.phase }, { on := 6, ground := Ground.phase }, { on := 7, ground := Ground.phase }, { on := 8, ground := Ground.phase }, { on := 9, ground := Ground.phase }, { on := 10, ground := Ground.phase }, { on := 11, ground := Ground.phase }, { on := 12, ground := Ground.phase }, { on := 13, ground := Ground.phase }, { on := 14, ground := Ground.phase }, { on := 15, ground := Ground.phase }, { on := 16, ground := Ground.phase }, { on := 17, ground := Ground.phase }, { on := 18, ground := Ground.phase }, { on := 19, ground := Ground.textOnly Departure.literalInPlace }, { on := 20, ground := Ground.textOnly Departure.literalInPlace }, { on := 21, ground := Ground.textOnly Departure.literalInPlace }, { on := 22, ground := Ground.textOnly Departure.literalInPlace }, { on := 23, ground := Ground.textOnly Departure.literalInPlace }, { on := 24, ground := Ground.textOnly Departure.literalInPlace }, { on := 25, ground := Ground.textOnly Departure.literalInPlace }, { on := 26, ground := Ground.textOnly Departure.literalInPlace }, { on := 27, ground := Ground.textOnly Departure.literalInPlace }, { on := 28, ground := Ground.textOnly Departure.literalInPlace }, { on := 29, ground := Ground.phase }, { on := 30, ground := Ground.phase }, { on := 31, ground := Ground.phase }, { on := 32, ground := Ground.phase }, { on := 33, ground := Ground.phase }, { on := 34, ground := Ground.phase }, { on := 35, ground := Ground.phase }, { on := 36, ground := Ground.phase }, { on := 37, ground := Ground.phase }], guard := none }) rfl (fun K hK => ?_) AllReadyH.nil)
  refine step_storeW (by rfl) 3 _ _ rfl B2 4 (.int .i64 np) rfl rfl _ 36 hr14 (by simp [in0]) Tryz.size3 rfl rfl ?_
  intro w15 hr15 hk15
  refine hK.out _ _ (hHeld.trans hk15) (fun hHeld2 => ?_)
  clear hK K hHeld
  have hHeld := hHeld2
  clear hHeld2
  try simp only [Act.put, List.setIfInBounds_toArray, List.set_cons_zero, List.set_cons_succ]
  refine wpAnyH_take (i := 40) (oi := { dst := some 62, op := Op.fieldAddr 36 (Operand.tmp 2) 5, type := 0, pos := "ledger.go:90", after := #[{ on := 0, ground := Ground.phase }, { on := 1, ground := Ground.phase }, { on := 2, ground := Ground.phase }, { on := 3, ground := Ground.phase }, { on := 4, ground := Ground.phase }, { on := 5, ground := Ground.phase }, { on := 6, ground := Ground.phase }, { on := 7, ground := Ground.phase }, { on := 8, ground := Ground.phase }, { on := 9, ground := Ground.phase }, { on := 10, ground := Ground.phase }, { on := 11, ground := Ground.phase }, { on := 12, ground := Ground.phase }, { on := 13, ground := Ground.phase }, { on := 14, ground := Ground.phase }, { on := 15, ground := Ground.phase }, { on := 16, ground := Ground.phase }, { on := 17, ground := Ground.phase }, { on := 18, ground := Ground.phase }, { on := 19, ground := Ground.phase }, { on := 20, ground := Ground.phase }, { on := 21, ground := Ground.phase }, { on := 22, ground := Ground.phase }, { on := 23, ground := Ground.phase }, { on := 24, ground := Ground.textOnly Departure.literalInPlace }, { on := 25, ground := Ground.textOnly Departure.literalInPlace }, { on := 26, ground := Ground.textOnly Departure.literalInPlace }, { on := 27, ground := Ground.textOnly Departure.literalInPlace }, { on := 28, ground := Ground.textOnly Departure.literalInPlace }, { on := 29, ground := Ground.phase }, { on := 30, ground := Ground.phase }, { on := 31, ground := Ground.phase }, { on := 32, ground := Ground.phase }, { on := 33, ground := Ground.phase }, { on := 34, ground := Ground.phase }, { on := 35, ground := Ground.phase }, { on := 36, ground := Ground.phase }, { on := 37, ground := Ground.phase }, { on := 38, ground := Ground.phase }, { on := 39, ground := Ground.phase }], guard := none }) (v := .pointer (some ⟨B2, 5, none⟩)) rfl (by kernel_rfl) (by kernel_rfl) (by kernel_rfl) (fun _ _ _ h => h) (Or.inl ⟨by rfl, by intro w hS; go_simp⟩) hHeld ?_
  try simp only [Act.put, List.setIfInBounds_toArray, List.set_cons_zero, List.set_cons_succ]
  refine wpAnyH_ready (rs := [41]) (by kernel_rfl) (by simp) ?_
  refine (AllReadyH.cons (o := { dst := none, op := Op.store 3 (Operand.tmp 62) (Operand.tmp 51), type := 0, pos := "ledger.go:90", after := #[{ on := 40, ground := Ground.data }, { on := 23, ground := Ground.data }, { on := 39, ground := Ground.chain }, { on := 0, ground := Ground.phase }, { on := 1, ground := Ground.phase }, { on := 2, ground := Ground.phase }, { on := 3, ground := Ground.phase }, { on := 4, ground := Ground.phase }, { on := 5, ground := Ground.phase }, { on := 6, ground := Ground.phase }, { on := 7, ground := Ground.phase }, { on := 8, ground := Ground.phase }, { on := 9, ground := Ground.phase }, { on := 10, ground := Ground.phase }, { on := 11, ground := Ground.phase }, { on := 12, ground := Ground.phase }, { on := 13, ground := Ground.phase }, { on := 14, ground := Ground.phase }, { on := 15, ground := Ground.phase }, { on := 16, ground := Ground.phase }, { on := 17, ground := Ground.phase }, { on := 18, ground := Ground.phase }, { on := 19, ground := Ground.phase }, { on := 20, ground := Ground.phase }, { on := 21, ground := Ground.phase }, { on := 22, ground := Ground.phase }, { on := 23, ground := Ground.phase }, { on := 24, ground := Ground.textOnly Departure.literalInPlace }, { on := 25, ground := Ground.textOnly Departure.literalInPlace }, { on := 26, ground := Ground.textOnly Departure.literalInPlace }, { on := 27, ground := Ground.textOnly Departure.literalInPlace }, { on := 28, ground := Ground.textOnly Departure.literalInPlace }, { on := 29, ground := Ground.phase }, { on := 30, ground := Ground.phase }, { on := 31, ground := Ground.phase }, { on := 32, ground := Ground.phase }, { on := 33, ground := Ground.phase }, { on := 34, ground := Ground.phase }, { on := 35, ground := Ground.phase }, { on := 36, ground := Ground.phase }, { on := 37, ground := Ground.phase }, { on := 38, ground := Ground.phase }, { on := 39, ground := Ground.phase }], guard := none }) rfl (fun K hK => ?_) AllReadyH.nil)
  refine step_storeW (by rfl) 3 _ _ rfl B2 5 (.int .i64 rc) rfl rfl _ 36 hr15 (by simp [in0]) Tryz.size3 rfl rfl ?_
  intro w16 hr16 hk16
  refine hK.out _ _ (hHeld.trans hk16) (fun hHeld2 => ?_)
  clear hK K hHeld
  have hHeld := hHeld2
  clear hHeld2
  try simp only [Act.put, List.setIfInBounds_toArray, List.set_cons_zero, List.set_cons_succ]
  refine wpAnyH_take (i := 42) (oi := { dst := some 63, op := Op.fieldAddr 36 (Operand.tmp 2) 6, type := 0, pos := "ledger.go:90", after := #[{ on := 0, ground := Ground.phase }, { on := 1, ground := Ground.phase }, { on := 2, ground := Ground.phase }, { on := 3, ground := Ground.phase }, { on := 4, ground := Ground.phase }, { on := 5, ground := Ground.phase }, { on := 6, ground := Ground.phase }, { on := 7, ground := Ground.phase }, { on := 8, ground := Ground.phase }, { on := 9, ground := Ground.phase }, { on := 10, ground := Ground.phase }, { on := 11, ground := Ground.phase }, { on := 12, ground := Ground.phase }, { on := 13, ground := Ground.phase }, { on := 14, ground := Ground.phase }, { on := 15, ground := Ground.phase }, { on := 16, ground := Ground.phase }, { on := 17, ground := Ground.phase }, { on := 18, ground := Ground.phase }, { on := 19, ground := Ground.phase }, { on := 20, ground := Ground.phase }, { on := 21, ground := Ground.phase }, { on := 22, ground := Ground.phase }, { on := 23, ground := Ground.phase }, { on := 24, ground := Ground.phase }, { on := 25, ground := Ground.phase }, { on := 26, ground := Ground.phase }, { on := 27, ground := Ground.phase }, { on := 28, ground := Ground.phase }, { on := 29, ground := Ground.phase }, { on := 30, ground := Ground.phase }, { on := 31, ground := Ground.phase }, { on := 32, ground := Ground.phase }, { on := 33, ground := Ground.phase }, { on := 34, ground := Ground.phase }, { on := 35, ground := Ground.phase }, { on := 36, ground := Ground.phase }, { on := 37, ground := Ground.phase }, { on := 38, ground := Ground.phase }, { on := 39, ground := Ground.phase }, { on := 40, ground := Ground.phase }, { on := 41, ground := Ground.phase }], guard := none }) (v := .pointer (some ⟨B2, 6, none⟩)) rfl (by kernel_rfl) (by kernel_rfl) (by kernel_rfl) (fun _ _ _ h => h) (Or.inl ⟨by rfl, by intro w hS; go_simp⟩) hHeld ?_
  try simp only [Act.put, List.setIfInBounds_toArray, List.set_cons_zero, List.set_cons_succ]
  refine wpAnyH_ready (rs := [43]) (by kernel_rfl) (by simp) ?_
  refine (AllReadyH.cons (o := { dst := none, op := Op.store 34 (Operand.tmp 63) (Operand.tmp 56), type := 0, pos := "ledger.go:90", after := #[{ on := 42, ground := Ground.data }, { on := 28, ground := Ground.data }, { on := 41, ground := Ground.chain }, { on := 0, ground := Ground.phase }, { on := 1, ground := Ground.phase }, { on := 2, ground := Ground.phase }, { on := 3, ground := Ground.phase }, { on := 4, ground := Ground.phase }, { on := 5, ground := Ground.phase }, { on := 6, ground := Ground.phase }, { on := 7, ground := Ground.phase }, { on := 8, ground := Ground.phase }, { on := 9, ground := Ground.phase }, { on := 10, ground := Ground.phase }, { on := 11, ground := Ground.phase }, { on := 12, ground := Ground.phase }, { on := 13, ground := Ground.phase }, { on := 14, ground := Ground.phase }, { on := 15, ground := Ground.phase }, { on := 16, ground := Ground.phase }, { on := 17, ground := Ground.phase }, { on := 18, ground := Ground.phase }, { on := 19, ground := Ground.phase }, { on := 20, ground := Ground.phase }, { on := 21, ground := Ground.phase }, { on := 22, ground := Ground.phase }, { on := 23, ground := Ground.phase }, { on := 24, ground := Ground.phase }, { on := 25, ground := Ground.phase }, { on := 26, ground := Ground.phase }, { on := 27, ground := Ground.phase }, { on := 28, ground := Ground.phase }, { on := 29, ground := Ground.phase }, { on := 30, ground := Ground.phase }, { on := 31, ground := Ground.phase }, { on := 32, ground := Ground.phase }, { on := 33, ground := Ground.phase }, { on := 34, ground := Ground.phase }, { on := 35, ground := Ground.phase }, { on := 36, ground := Ground.phase }, { on := 37, ground := Ground.phase }, { on := 38, ground := Ground.phase }, { on := 39, ground := Ground.phase }, { on := 40, ground := Ground.phase }, { on := 41, ground := Ground.phase }], guard := none }) rfl (fun K hK => ?_) AllReadyH.nil)
  refine step_storeMidW (by rfl) 34 _ _ rfl B2 6 (ints .u8 sm) rfl rfl _ 36 hr16 (by rw [LSM.out]; simp [in0]) (by rw [LSM.out]; kernel_rfl) (ints_oneL sm) ?_
  intro w17 hr17 hk17
  refine hK.out _ _ (hHeld.trans hk17) (fun hHeld2 => ?_)
  clear hK K hHeld
  have hHeld := hHeld2
  clear hHeld2
  try simp only [Act.put, List.setIfInBounds_toArray, List.set_cons_zero, List.set_cons_succ]
  refine wpAnyH_take (i := 44) (oi := { dst := some 3, op := Op.assign (Operand.const Value.nilIface), type := 24, pos := "ledger.go:90", after := #[{ on := 43, ground := Ground.chain }, { on := 0, ground := Ground.phase }, { on := 1, ground := Ground.phase }, { on := 2, ground := Ground.phase }, { on := 3, ground := Ground.phase }, { on := 4, ground := Ground.phase }, { on := 5, ground := Ground.phase }, { on := 6, ground := Ground.phase }, { on := 7, ground := Ground.phase }, { on := 8, ground := Ground.phase }, { on := 9, ground := Ground.phase }, { on := 10, ground := Ground.phase }, { on := 11, ground := Ground.phase }, { on := 12, ground := Ground.phase }, { on := 13, ground := Ground.phase }, { on := 14, ground := Ground.phase }, { on := 15, ground := Ground.phase }, { on := 16, ground := Ground.phase }, { on := 17, ground := Ground.phase }, { on := 18, ground := Ground.phase }, { on := 19, ground := Ground.phase }, { on := 20, ground := Ground.phase }, { on := 21, ground := Ground.phase }, { on := 22, ground := Ground.phase }, { on := 23, ground := Ground.phase }, { on := 24, ground := Ground.phase }, { on := 25, ground := Ground.phase }, { on := 26, ground := Ground.phase }, { on := 27, ground := Ground.phase }, { on := 28, ground := Ground.phase }, { on := 29, ground := Ground.phase }, { on := 30, ground := Ground.phase }, { on := 31, ground := Ground.phase }, { on := 32, ground := Ground.phase }, { on := 33, ground := Ground.phase }, { on := 34, ground := Ground.phase }, { on := 35, ground := Ground.phase }, { on := 36, ground := Ground.phase }, { on := 37, ground := Ground.phase }, { on := 38, ground := Ground.phase }, { on := 39, ground := Ground.phase }, { on := 40, ground := Ground.phase }, { on := 41, ground := Ground.phase }, { on := 42, ground := Ground.phase }, { on := 43, ground := Ground.phase }], guard := none }) (v := .nilIface) rfl (by kernel_rfl) (by kernel_rfl) (by kernel_rfl) (fun _ _ _ h => h) (Or.inl ⟨by rfl, by intro w hS; go_simp⟩) hHeld ?_
  try simp only [Act.put, List.setIfInBounds_toArray, List.set_cons_zero, List.set_cons_succ]
  refine wpAnyH_done (by kernel_rfl) ?_ _
  refine NoPanic.normal ?_
  have KL := hid (((Keeps.of_below (show Below w.heap.size w w1 by rw [HB2E.out]; exact HB1.out)).trans HK2.out).trans (Keeps.of_below HB5.out) |>.new hHeld (by have := HB2E.out; omega))
  have RLL := hid (hHeld.heap HRL.out NEL.out)
  have RI := hid hr17
  clear hHeld hr10 hr11 hr12 hr13 hr14 hr15 hr16 hr17 hk10 hk11 hk12 hk13 hk14 hk15 hk16 hk17
  clear PG KP
  go_wp2
  refine leaves_cons (f := 27) (args := #[.pointer (some ⟨l, 0, none⟩)]) (by simp) (by simp [go_sem]) ?_
  refine (unlock_deferred Tryz.muLib ⟨l, 0, none⟩ .returning w17 (by rw [cell_of_row _ _ _ _ _ _ RLL.out]; rfl) (frozen_of_row _ _ 0 _ _ RLL.out)).mono ?_
  rintro e u' w18 ⟨rfl, rfl, rfl⟩
  have kU := keeps_setCell w17 l 0 (.int .i32 0)
  have rI := kU.heap RI.out (fun e => NEL.out e.symm)
  have eI : (((((((in0.set 0 (.int .i64 wd)).set 1 (.int .i64 rf)).set 2 (.int .i64 rv)).set 3 (.int .i64 ma)).set 4 (.int .i64 np)).set 5 (.int .i64 rc)).take 6 ++ ints .u8 sm ++ (((((((in0.set 0 (.int .i64 wd)).set 1 (.int .i64 rf)).set 2 (.int .i64 rv)).set 3 (.int .i64 ma)).set 4 (.int .i64 np)).set 5 (.int .i64 rc)).drop (6 + (ints .u8 sm).length))) = I := by rw [LSM.out, HI.out]; simp [in0]
  rw [eI] at rI
  refine ⟨_, results_c2i Tryz.results9 _ _ B2 36 _ _ _ rfl rI Tryz.underlying36 rfl (by rw [List.size_toArray, IL.out]; exact Tryz.sizeIn), rfl, ?_⟩
  exact below_ld (KL.out.trans kU) HHL.out (unlock_row RLL.out)
end Go.Proofs.YtjpcegjgandnjaaGreatDoor
