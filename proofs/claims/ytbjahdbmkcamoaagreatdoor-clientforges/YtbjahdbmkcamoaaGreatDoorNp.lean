import Derived.Test.YtbjahdbmkcamoaaGreatDoorClK
import Derived.Laws.BytesArg
namespace Go.Proofs.YtbjahdbmkcamoaaGreatDoor
set_option linter.unusedVariables false
set_option linter.unusedSimpArgs false
open Go.RowKit
attribute [local go_sem ↓] Go.wp_at_zero Go.wp_at_succ

def OwnK (w : World) (base : Nat) (v : Value) (vs : List Value) : Prop := w.ownsRow base 30 1 v vs.length vs
theorem OwnK.nil (w : World) (base : Nat) : OwnK w base (.slice none 0 0) [] := ⟨rfl, Or.inl ⟨rfl, rfl⟩⟩
theorem OwnK.heap {w : World} {base : Nat} {v : Value} {vs : List Value} (h : OwnK w base v vs) : ∀ k, v.ownBlock = some k → base ≤ k ∧ k < w.heap.size ∧ ∃ cs, w.heap[k]? = some (.cells cs 30 (0, 0)) := by
  intro k hk
  rcases h.2 with ⟨rfl, _⟩ | ⟨g, cap, cur, rfl, hg, hh, _⟩
  · simp [Value.ownBlock] at hk
  · simp [Value.ownBlock] at hk; subst hk; exact ⟨hg, hlt hh, cur, hh⟩
theorem OwnK.of_heap {w w1 : World} {base : Nat} {v : Value} {vs : List Value} (h : OwnK w base v vs) (hk : ∀ k, v.ownBlock = some k → w1.heap[k]? = w.heap[k]?) : OwnK w1 base v vs := by
  refine ⟨h.1, ?_⟩
  rcases h.2 with h2 | ⟨g, cap, cur, rfl, hg, hh, r⟩
  · exact Or.inl h2
  · exact Or.inr ⟨g, cap, cur, rfl, hg, (hk g rfl).trans hh, r⟩
/-- Where the elements lie. -/
theorem OwnK.at {w : World} {base : Nat} {v : Value} {vs : List Value} (h : OwnK w base v vs) : ∃ sp cap b, v = .slice sp vs.length cap ∧ vs.length ≤ cap ∧ cap ≤ maxLen ∧ (0 < vs.length → sp = some ⟨b, 0, none⟩) ∧ ∀ j, j < vs.length → w.cell? ⟨b, j, none⟩ = some (vs.getD j undef) := by
  obtain ⟨h1, ⟨rfl, hn⟩ | ⟨g, cap, cur, rfl, hg, hh, hc, hm, hs, ht⟩⟩ := h
  · exact ⟨none, 0, 0, by rw [hn], by omega, by simp [maxLen], fun h => by omega, fun j hj => by omega⟩
  · refine ⟨some ⟨g, 0, none⟩, cap, g, rfl, hc, hm, fun _ => rfl, fun j hj => ?_⟩
    rw [cell_of_row _ _ _ _ _ _ hh]
    have e : vs[j]? = cur.toList[j]? := by
      rw [← ht, List.getElem?_take, if_pos (by omega)]
    rw [List.getD_eq_getElem?_getD, e]
    have hj2 : j < cur.toList.length := by simp; omega
    rw [List.getElem?_eq_getElem hj2]
    simp
theorem Tryz.infoKm : (Tryz.prog.info? 30).map (fun i => (i.zero, i.size, i.bytes)) = some (some (.slice none 0 0), 1, 24) := by kernel_rfl
theorem Tryz.infoK : ∃ i, Tryz.prog.info? 30 = some i ∧ i.zero = some (.slice none 0 0) ∧ i.size = 1 ∧ i.bytes = 24 := by
  have h := Tryz.infoKm
  cases hq : Tryz.prog.info? 30 with
  | none => rw [hq] at h; cases h
  | some i =>
    rw [hq] at h
    simp only [Option.map_some, Option.some.injEq, Prod.mk.injEq] at h
    exact ⟨i, rfl, h.1, h.2.1, h.2.2⟩
theorem step_pushKp {w : World} {ops : Array Oper} {o : Oper} {a : Act} {K : Act → World → Prop} {Q : Exit → Act → World → Prop} {E : Prop} (hgd : o.guard = none) (s x : Operand)
    (ho : o.op = .call { callee := .builtin .append, args := #[s, x], argTypes := #[70, 70] })
    (base : Nat) (v : Value) (vs : List Value) (y : Value) (hs : a.eval s = v) (hown : OwnK w base v vs) (b : Nat) (hbl : w.cell? ⟨b, 0, none⟩ = some y) (hx : a.eval x = .slice (some ⟨b, 0, none⟩) 1 1) (h1 : y.oneCell' = true)
    (hlen : vs.length + 1 ≤ 1000000000000) (hbase : base ≤ w.heap.size)
    (h : ∀ v' w', OwnK w' base v' (vs ++ [y]) → Below base w w' → (∀ k, k < w.heap.size → v.ownBlock ≠ some k → w'.heap[k]? = w.heap[k]?) → (v'.ownBlock = v.ownBlock ∨ ∃ k, v'.ownBlock = some k ∧ w.heap.size ≤ k) → K (a.put o.dst v') w') :
    if Region.wanted o (yielded ops a.tmps) = true then Oper.wp Tryz.prog o a w K Q else E := by
  have hw : Region.wanted o (yielded ops a.tmps) = true := by simp [Region.wanted, hgd]
  rw [if_pos hw]
  obtain ⟨i5, hi5, hz5, hs5, hy5⟩ := Tryz.infoK
  obtain ⟨v', w', hr, q1, q2, _, q4⟩ := run_append_own_at (P := Tryz.prog) w base 70 o.type 30 i5 (.slice none 0 0) 1 24 Tryz.underlying70 hi5 hz5 hs5 hy5 rfl Nat.one_pos v vs.length vs hown ⟨b, 0, none⟩ 1 1 [y] (by simp) (by
    intro j u hu
    have hj : j = 0 := by have := (List.getElem?_eq_some_iff.1 hu).1; simpa using this
    subst hj
    rw [Addr.add_mid, hbl]; simpa using hu) (by simpa using h1) (by unfold maxLen; omega) (by omega) hbase
  unfold Oper.wp execOp
  simp only [ho, resolve, invoke, builtin, Sem.run_bind, Sem.run_pure, Result.andThen_ok, List.map_toArray, List.map_cons, List.map_nil, hs, hx, hr]
  refine h v' w' (by unfold OwnK; rw [List.length_append]; exact q1) (grown_keeps q2 (fun k hk => (hown.heap k hk).1) hbase) (fun k hk hne => q2.block k hk (fun e => hne e.symm)) ?_
  rcases q4 with e | e
  · exact Or.inl e
  · exact Or.inr ⟨_, e, Nat.le_refl _⟩
theorem sideT_eq (k : Int) (ks : List Int) (h : Nat) (d n : List Int) : branchT (kept k) (sideL ks h d n) (sideR ks h d n) = sideT k ks h d n := by
  unfold sideT sideL sideR; split <;> rfl
def bl (v : Value) : List Nat := v.ownBlock.toList
theorem mem_bl {v : Value} {k : Nat} : k ∈ bl v ↔ v.ownBlock = some k := by unfold bl; rw [Option.mem_toList]
theorem Own.bl_lt {w : World} {base : Nat} {v : Value} {zs : List Int} (h : Own w base v zs) {k : Nat} (hk : k ∈ bl v) : base ≤ k ∧ k < w.heap.size := h.block k (mem_bl.1 hk)
/-- What the function of texts knows: the check, the list of the texts so far. -/
structure ITx (w0 : World) (pb tb cb : Nat) (TX : Nat → List Int) (j : Nat) (v : Value) (vs : List Value) (F : List Nat) (w : World) : Prop where
  eF : F = pb :: tb :: (bl v ++ vs.flatMap bl)
  ne : pb ≠ tb
  p0 : w0.heap.size ≤ pb
  t0 : w0.heap.size ≤ tb
  pp : w.heap[pb]? = some (.cells #[.pointer (some ⟨cb, 0, none⟩)] 60 (0, 0))
  tt : w.heap[tb]? = some (.cells #[v] 70 (0, 0))
  own : OwnK w w0.heap.size v vs
  len : vs.length = 1 + min j 256
  txt : ∀ i, i < vs.length → Own w w0.heap.size (vs.getD i undef) (TX i)
theorem mem_flat {vs : List Value} {k : Nat} (h : k ∈ vs.flatMap bl) : ∃ i, i < vs.length ∧ k ∈ bl (vs.getD i undef) := by
  obtain ⟨x, hx, hk⟩ := List.mem_flatMap.1 h
  obtain ⟨i, hi, rfl⟩ := List.mem_iff_getElem.1 hx
  exact ⟨i, hi, by rw [List.getD_eq_getElem?_getD, List.getElem?_eq_getElem hi]; exact hk⟩
theorem flat_mem {vs : List Value} {k i : Nat} (hi : i < vs.length) (hk : k ∈ bl (vs.getD i undef)) : k ∈ vs.flatMap bl := by
  rw [List.getD_eq_getElem?_getD, List.getElem?_eq_getElem hi] at hk
  exact List.mem_flatMap.2 ⟨_, List.getElem_mem hi, hk⟩
theorem ITx.bnd {w0 w : World} {pb tb cb : Nat} {TX : Nat → List Int} {j : Nat} {v : Value} {vs : List Value} {F : List Nat} (h : ITx w0 pb tb cb TX j v vs F w) : ∀ k ∈ F, w0.heap.size ≤ k ∧ k < w.heap.size := fun k hk => by
  rw [h.eF] at hk
  simp only [List.mem_cons, List.mem_append] at hk
  rcases hk with rfl | rfl | hk | hk
  · exact ⟨h.p0, hlt h.pp⟩
  · exact ⟨h.t0, hlt h.tt⟩
  · obtain ⟨h1, h2, _⟩ := h.own.heap k (mem_bl.1 hk); exact ⟨h1, h2⟩
  · obtain ⟨i, hi, hk⟩ := mem_flat hk
    exact (h.txt i hi).bl_lt hk
theorem ITx.stay {w0 w w1 : World} {pb tb cb : Nat} {TX : Nat → List Int} {j : Nat} {v : Value} {vs : List Value} {F : List Nat} (h : ITx w0 pb tb cb TX j v vs F w) (hk : ∀ k ∈ F, w1.heap[k]? = w.heap[k]?) : ITx w0 pb tb cb TX j v vs F w1 := by
  have hF := h.eF
  refine ⟨hF, h.ne, h.p0, h.t0, (hk _ (by rw [hF]; simp)).trans h.pp, (hk _ (by rw [hF]; simp)).trans h.tt, h.own.of_heap (fun k e => hk k (by rw [hF]; simp [mem_bl.2 e])), h.len, fun i hi => (h.txt i hi).of_heap (fun k e => hk k (by rw [hF]; simp only [List.mem_cons, List.mem_append]; exact Or.inr (Or.inr (Or.inr (flat_mem hi (mem_bl.2 e))))))⟩
theorem getD_snocV (L : List Value) (x : Value) (i : Nat) : (L ++ [x]).getD i undef = if i = L.length then x else L.getD i undef := by
  rw [List.getD_eq_getElem?_getD, List.getD_eq_getElem?_getD]
  by_cases h : i < L.length
  · rw [List.getElem?_append_left h, if_neg (by omega)]
  · rw [List.getElem?_append_right (by omega)]
    by_cases e : i = L.length
    · subst e; simp
    · rw [if_neg e, List.getElem?_eq_none (by simp; omega), List.getElem?_eq_none (by omega)]
/-- One text more. -/
theorem ITx.snoc {w0 w wB wC : World} {pb tb cb : Nat} {TX : Nat → List Int} {h : Nat} {v v' x : Value} {vs : List Value} {F : List Nat} (hI : ITx w0 pb tb cb TX h v vs F w) (hh : h < 256) (hw0 : w0.heap.size ≤ w.heap.size) (hB : Below w.heap.size w wB)
    (hx : Own wB w.heap.size x (TX (h + 1))) (q1 : OwnK wC w0.heap.size v' (vs ++ [x])) (q3 : ∀ k, k < wB.heap.size → v.ownBlock ≠ some k → wC.heap[k]? = wB.heap[k]?) (q4 : v'.ownBlock = v.ownBlock ∨ ∃ k, v'.ownBlock = some k ∧ w.heap.size ≤ k) (q5 : Below 0 wB wC) :
    (∃ F', ITx w0 pb tb cb TX (h + 1) v' (vs ++ [x]) F' (wC.setRow tb #[v']) ∧ FrC F w (wC.setRow tb #[v']) ∧ ∀ k ∈ F', k ∈ F ∨ w.heap.size ≤ k) ∧ wC.heap[tb]? = some (.cells #[v] 70 (0, 0)) := by
  have hvb := hI.own.heap
  have tB := hbel hB hI.tt (hlt hI.tt)
  have pB := hbel hB hI.pp (hlt hI.pp)
  have nT : v.ownBlock ≠ some tb := fun e => by obtain ⟨_, _, cs, hc⟩ := hvb tb e; exact ne_tyC hc hI.tt (by decide) rfl
  have nP : v.ownBlock ≠ some pb := fun e => by obtain ⟨_, _, cs, hc⟩ := hvb pb e; exact ne_tyC hc hI.pp (by decide) rfl
  have tC := (q3 tb (hlt tB) nT).trans tB
  have pC := (q3 pb (hlt pB) nP).trans pB
  have txC : ∀ i, i < vs.length → Own (wC.setRow tb #[v']) w0.heap.size (vs.getD i undef) (TX i) := fun i hi => (hI.txt i hi).of_heap fun k e => by
    obtain ⟨_, cur, hc⟩ := ownsRow_block (hI.txt i hi) k e
    have n1 : k ≠ tb := ne_tyC hc hI.tt (by decide)
    have n2 : v.ownBlock ≠ some k := fun e2 => by obtain ⟨_, _, cs, hc2⟩ := hvb k e2; exact ne_tyC hc hc2 (by decide) rfl
    have hkB := hbel hB hc (hlt hc)
    rw [setRow_other _ tb k _ n1, q3 k (hlt hkB) n2, hkB, hc]
  have hxC : Own (wC.setRow tb #[v']) w0.heap.size x (TX (h + 1)) := own_lower (hx.of_heap fun k e => by
    obtain ⟨hk, cur, hc⟩ := ownsRow_block hx k e
    have n1 : k ≠ tb := ne_tyC hc tB (by decide)
    have n2 : v.ownBlock ≠ some k := fun e2 => by have := (hvb k e2).2.1; omega
    rw [setRow_other _ tb k _ n1, q3 k (hlt hc) n2]) hw0
  have hlen := hI.len
  refine ⟨⟨_, ⟨rfl, hI.ne, hI.p0, hI.t0, (setRow_other _ tb pb _ hI.ne).trans pC, setRow_heap _ _ _ _ _ _ tC, q1.of_heap (fun k e => setRow_other _ tb k _ (fun e2 => by
      subst e2
      obtain ⟨_, _, cs, hc⟩ := q1.heap k e
      exact ne_tyC hc tC (by decide) rfl)), by rw [List.length_append, hlen, List.length_singleton]; omega, fun i hi => ?_⟩, ?_, fun k hk => ?_⟩, tC⟩
  · rw [getD_snocV]
    by_cases e : i = vs.length
    · subst e
      rw [if_pos rfl, hlen, show 1 + min h 256 = h + 1 by omega]
      exact hxC
    · rw [if_neg e]
      exact txC i (by simp at hi; omega)
  · have f1 : FrC F w wC := ⟨(hB.mono (Nat.zero_le _)).trans q5, fun k hk hn => by
      rw [q3 k (Nat.lt_of_lt_of_le hk hB.size) (fun e => hn (by rw [hI.eF]; simp [mem_bl.2 e])), hB.block k hk]⟩
    exact f1.setF tb (by rw [hI.eF]; simp) _
  · simp only [List.mem_cons, List.mem_append, List.flatMap_append] at hk
    rcases hk with rfl | rfl | hk | hk | hk
    · exact Or.inl (by rw [hI.eF]; simp)
    · exact Or.inl (by rw [hI.eF]; simp)
    · rcases q4 with e | ⟨k', e, hk'⟩
      · exact Or.inl (by rw [hI.eF]; simp only [List.mem_cons, List.mem_append]; exact Or.inr (Or.inr (Or.inl (mem_bl.2 (e ▸ mem_bl.1 hk)))))
      · have := mem_bl.1 hk; rw [e] at this; cases this; exact Or.inr hk'
    · exact Or.inl (by rw [hI.eF]; simp only [List.mem_cons, List.mem_append]; exact Or.inr (Or.inr (Or.inr hk)))
    · simp only [List.flatMap_cons, List.flatMap_nil, List.append_nil] at hk
      exact Or.inr (hx.bl_lt hk).1
theorem ent_texts1 : ∀ (args : Array Value) (w : World), (callFunc 47 args).run Tryz.prog w = .ok (.enter 47 args) w := enters_of Tryz.func47 (by kernel_rfl) rfl
theorem kept_nat' (n : Nat) (h : n ≤ 32) : kept (n : Int) = n := kept_nat n h
set_option maxRecDepth 100000 in
set_option maxHeartbeats 4000000 in
theorem footText_any (w : World) (cb : Nat) (P : CkP) (n : Nat) (root ks : List Int) (p : Pf) (NB : List (List Int)) (h : CkV w cb P n root ks p NB) :
    Calls Tryz.prog 44 #[.pointer (some ⟨cb, 0, none⟩)] w fun en w' => ∃ v, en = .returned v ∧ Own w' w.heap.size v (footT ks p.f p.vs) ∧ Below w.heap.size w w' := by
  have hcb := h.cbl
  have ck := h.key
  have cf := h.f
  have cv := h.v
  have hv := h.vl
  have hk := h.hk
  have LK := hid (show (Tryz.prog.info? 24).map (·.size) = some (ints .u8 ks).length by rw [Tryz.sizeKy, ints_len, hk])
  cases hf : p.f with
  | true =>
    rw [hf] at cf
    have KL := hid (fun w1 (hS1 : Src w1 P.s1 P.c1 p.vs) => leafText_any w1 ks p.vs hk P.s1 P.c1 hS1 h.nil (by omega))
    have HD := hid (show leafT ks p.vs = footT ks true p.vs from rfl)
    rw [HD.out] at KL
    have HV := hid h.val
    generalize footT ks true p.vs = D at *
    generalize hM : p.vs.length = m at *
    have HM := hid hM
    generalize P.s1 = s1 at *
    generalize P.c1 = c1 at *
    clear h hM hv HD hf
    go_enter Tryz.func44, Tryz.ntmps44
    go_wp2_with fail
    refine wp_region_noPanic ?_
    refine wp_region_held_drew (S := (fun w' => Below w.heap.size w w')) (by kernel_rfl) (Below.refl _ _).drew (fun hHeld => ?_)
    refine wpAnyH_take (i := 0) (oi := { dst := some 8, op := Op.move (Operand.tmp 0), type := 60, pos := "path.go:53", after := #[], guard := none }) (v := .pointer (some ⟨cb, 0, none⟩)) rfl (by kernel_rfl) (by kernel_rfl) (by kernel_rfl) (fun _ _ _ h => h) (Or.inl ⟨by rfl, by intro w hS; go_simp⟩) hHeld ?_
    try simp only [Act.put, List.setIfInBounds_toArray, List.set_cons_zero, List.set_cons_succ]
    refine wpAnyH_take (i := 4) (oi := { dst := some 12, op := Op.move (Operand.tmp 0), type := 60, pos := "path.go:53", after := #[], guard := none }) (v := .pointer (some ⟨cb, 0, none⟩)) rfl (by kernel_rfl) (by kernel_rfl) (by kernel_rfl) (fun _ _ _ h => h) (Or.inl ⟨by rfl, by intro w hS; go_simp⟩) hHeld ?_
    try simp only [Act.put, List.setIfInBounds_toArray, List.set_cons_zero, List.set_cons_succ]
    refine wpAnyH_take (i := 1) (oi := { dst := some 9, op := Op.nilCheck (Operand.tmp 8), type := 0, pos := "path.go:53", after := #[{ on := 0, ground := Ground.data }], guard := none }) (v := .pointer (some ⟨cb, 0, none⟩)) rfl (by kernel_rfl) (by kernel_rfl) (by kernel_rfl) (fun _ _ _ h => h) (Or.inl ⟨by rfl, by intro w hS; go_simp⟩) hHeld ?_
    try simp only [Act.put, List.setIfInBounds_toArray, List.set_cons_zero, List.set_cons_succ]
    refine wpAnyH_take (i := 5) (oi := { dst := some 13, op := Op.nilCheck (Operand.tmp 12), type := 0, pos := "path.go:53", after := #[{ on := 4, ground := Ground.data }], guard := none }) (v := .pointer (some ⟨cb, 0, none⟩)) rfl (by kernel_rfl) (by kernel_rfl) (by kernel_rfl) (fun _ _ _ h => h) (Or.inl ⟨by rfl, by intro w hS; go_simp⟩) hHeld ?_
    try simp only [Act.put, List.setIfInBounds_toArray, List.set_cons_zero, List.set_cons_succ]
    refine wpAnyH_take (i := 2) (oi := { dst := some 10, op := Op.fieldAddr 64 (Operand.tmp 9) 1, type := 0, pos := "path.go:53", after := #[{ on := 1, ground := Ground.data }], guard := none }) (v := .pointer (some ⟨cb, 34, none⟩)) rfl (by kernel_rfl) (by kernel_rfl) (by kernel_rfl) (fun _ _ _ h => h) (Or.inl ⟨by rfl, by intro w hS; go_simp⟩) hHeld ?_
    try simp only [Act.put, List.setIfInBounds_toArray, List.set_cons_zero, List.set_cons_succ]
    refine wpAnyH_take (i := 6) (oi := { dst := some 14, op := Op.fieldAddr 64 (Operand.tmp 13) 3, type := 0, pos := "path.go:53", after := #[{ on := 5, ground := Ground.data }], guard := none }) (v := .pointer (some ⟨cb, 67, none⟩)) rfl (by kernel_rfl) (by kernel_rfl) (by kernel_rfl) (fun _ _ _ h => h) (Or.inl ⟨by rfl, by intro w hS; go_simp⟩) hHeld ?_
    try simp only [Act.put, List.setIfInBounds_toArray, List.set_cons_zero, List.set_cons_succ]
    refine wpAnyH_take (i := 3) (oi := { dst := some 11, op := Op.load 24 (Operand.tmp 10), type := 24, pos := "path.go:53", after := #[{ on := 2, ground := Ground.data }], guard := none }) (v := .agg (ints .u8 ks).toArray) rfl (by kernel_rfl) (by kernel_rfl) (by kernel_rfl) (fun _ _ _ h => h) (yieldsIf_load_mid (by rfl) 24 _ rfl cb (34) rfl (ints .u8 ks) _ (fun w hS => rng_below ck hS hcb) Tryz.underlying24 rfl LK.out) hHeld ?_
    try simp only [Act.put, List.setIfInBounds_toArray, List.set_cons_zero, List.set_cons_succ]
    refine wpAnyH_take (i := 7) (oi := { dst := some 15, op := Op.fieldAddr 52 (Operand.tmp 14) 1, type := 0, pos := "path.go:53", after := #[{ on := 6, ground := Ground.data }], guard := none }) (v := .pointer (some ⟨cb, 68, none⟩)) rfl (by kernel_rfl) (by kernel_rfl) (by kernel_rfl) (fun _ _ _ h => h) (Or.inl ⟨by rfl, by intro w hS; go_simp⟩) hHeld ?_
    try simp only [Act.put, List.setIfInBounds_toArray, List.set_cons_zero, List.set_cons_succ]
    refine wpAnyH_take (i := 8) (oi := { dst := some 16, op := Op.load 30 (Operand.tmp 15), type := 30, pos := "path.go:53", after := #[{ on := 7, ground := Ground.data }], guard := none }) (v := .slice s1 m c1) rfl (by kernel_rfl) (by kernel_rfl) (by kernel_rfl) (fun _ _ _ h => h) (Or.inl ⟨by rfl, by intro w hS; have hc := (hS.cell (p := ⟨cb, 68, none⟩) hcb).trans cv; go_simp⟩) hHeld ?_
    try simp only [Act.put, List.setIfInBounds_toArray, List.set_cons_zero, List.set_cons_succ]
    refine wpAnyH_ready (rs := [9]) (by kernel_rfl) (by simp) ?_
    refine (AllReadyH.cons (o := { dst := some 17, op := Op.call { callee := Callee.value (Operand.func 73), args := #[Operand.tmp 11, Operand.tmp 16], argTypes := #[24, 30] }, type := 30, pos := "path.go:53", after := #[{ on := 3, ground := Ground.data }, { on := 8, ground := Ground.data }], guard := none }) rfl (fun K hK => ?_) AllReadyH.nil)
    go_simp
    go_at_call 73
    refine (KL.out _ (HV.out.below hHeld (Nat.le_refl _))).mono ?_
    rintro e w4 ⟨v4, rfl, hO4, hb4⟩
    go_wp2_with fail
    refine hK.out _ _ (hHeld.trans (hb4.mono hHeld.size)) (fun hHeld2 => ?_)
    clear hK K hHeld
    have hHeld := hHeld2
    clear hHeld2
    try simp only [Act.put, List.setIfInBounds_toArray, List.set_cons_zero, List.set_cons_succ]
    refine wpAnyH_take (i := 10) (oi := { dst := some 2, op := Op.assign (Operand.tmp 17), type := 30, pos := "path.go:53", after := #[{ on := 9, ground := Ground.data }, { on := 9, ground := Ground.chain }, { on := 0, ground := Ground.phase }, { on := 1, ground := Ground.phase }, { on := 2, ground := Ground.phase }, { on := 3, ground := Ground.phase }, { on := 4, ground := Ground.phase }, { on := 5, ground := Ground.phase }, { on := 6, ground := Ground.phase }, { on := 7, ground := Ground.phase }, { on := 8, ground := Ground.phase }, { on := 9, ground := Ground.phase }], guard := none }) (v := v4) rfl (by kernel_rfl) (by kernel_rfl) (by kernel_rfl) (fun _ _ _ h => h) (Or.inl ⟨by rfl, by intro w hS; go_simp⟩) hHeld ?_
    try simp only [Act.put, List.setIfInBounds_toArray, List.set_cons_zero, List.set_cons_succ]
    refine wpAnyH_done (by kernel_rfl) ?_ _
    refine NoPanic.normal ?_
    go_wp2_with fail
    go_ret
    exact ⟨_, rfl, hO4, hHeld⟩
  | false =>
    rw [hf] at cf
    have HD := hid (show footT ks false p.vs = [2] from rfl)
    rw [HD.out]
    have hO : Own (w.alloc (.cells #[.int .u8 2] 5)) w.heap.size (.slice (some ⟨w.heap.size, 0, none⟩) 1 1) [2] := ⟨rfl, Or.inr ⟨w.heap.size, 1, #[.int .u8 2], rfl, Nat.le_refl _, hnew w _, by simp, by simp [maxLen], rfl, rfl⟩⟩
    have hbs : ∀ w1 : World, (Instr.buildSlice 30 1 #[(0, .int .u8 2)]).run Tryz.prog w1 = .ok (.slice (some ⟨w1.heap.size, 0, none⟩) 1 1) (w1.alloc (.cells #[.int .u8 2] 5)) := fun w1 => by kernel_rfl
    clear h hv hf HD ck cv LK
    go_enter Tryz.func44, Tryz.ntmps44
    go_wp2
    go_ret
    exact ⟨_, rfl, hO, (Below.refl _ _).alloc (Nat.le_refl _) _⟩
set_option maxRecDepth 100000 in
set_option maxHeartbeats 4000000 in
theorem texts1_any (w0 w : World) (cb : Nat) (P : CkP) (n : Nat) (root ks : List Int) (p : Pf) (NB : List (List Int)) (hV : CkV w0 cb P n root ks p NB) (hB0 : Below w0.heap.size w0 w) (pb tb : Nat) (PT TX : Nat → List Int) (hP : ∀ h, (PT h).length = 32) (hT : ∀ h, h < 256 → TX (h + 1) = sideT n ks h (PT h) (NB.getD h []))
    (h : Nat) (hh : h ≤ 256) (v : Value) (vs : List Value) (F : List Nat) (hI : ITx w0 pb tb cb TX h v vs F w) :
    Calls Tryz.prog 47 #[.int .i64 (h : Nat), .agg (ints .u8 (PT h)).toArray, .pointer (some ⟨pb, 0, none⟩), .pointer (some ⟨tb, 0, none⟩)] w fun e w2 => e = .returned (.tuple #[]) ∧ ∃ v' vs' F', ITx w0 pb tb cb TX (h + 1) v' vs' F' w2 ∧ FrC F w w2 ∧ ∀ k ∈ F', k ∈ F ∨ w.heap.size ≤ k := by
  have hb1 : Below w.heap.size w (w.alloc (.cells (ints .u8 (PT h)).toArray 28)) := (Below.refl _ _).alloc (Nat.le_refl _) _
  have i2 : (h : Int) ≤ 256 := by omega
  by_cases he : h = 256
  · subst he
    have hI1 := hI.stay (fun k hk => hb1.block k (hI.bnd k hk).2)
    have hI2 : ITx w0 pb tb cb TX (256 + 1) v vs F (w.alloc (.cells (ints .u8 (PT 256)).toArray 28)) := ⟨hI1.eF, hI1.ne, hI1.p0, hI1.t0, hI1.pp, hI1.tt, hI1.own, by rw [hI1.len]; omega, hI1.txt⟩
    have HI := hid hI2
    have FR : FrC F w (w.alloc (.cells (ints .u8 (PT 256)).toArray 28)) := FrC.of_below hb1
    rw [show (((256 : Nat)) : Int) = 256 from rfl]
    clear hI hI1 hI2
    generalize PT 256 = D at *
    go_enter Tryz.func47, Tryz.ntmps47
    go_wp2
    exact bodyPost_ret (v := .tuple #[]) (results_none (by rfl) _ _ _) rfl ⟨rfl, v, vs, F, HI.out, FR, fun k q => Or.inl q⟩
  · have hlt' : h < 256 := by omega
    have i3 : ¬ ((h : Int) = 256) := by omega
    have i4 : ((h : Int) == 256) = false := by simpa using i3
    have i5 : (h : Int) < 256 := by omega
    have hTX := hT h hlt'
    have hVw := hV.below hB0
    have hnl := (hVw.nb h hlt').2.2
    have hPl := hP h
    have r1 := hnew w (.cells (ints .u8 (PT h)).toArray 28)
    have LD := hid (show (Tryz.prog.info? 28).map (·.size) = some (ints .u8 (PT h)).toArray.size by rw [Tryz.sizeD, ints_size, hPl])
    have p1 := hbel hb1 hI.pp (hlt hI.pp)
    have t1 := hbel hb1 hI.tt (hlt hI.tt)
    have cp1 : (w.alloc (.cells (ints .u8 (PT h)).toArray 28)).cell? ⟨pb, 0, none⟩ = some (.pointer (some ⟨cb, 0, none⟩)) := by rw [cell_of_row _ _ _ _ _ _ p1]; rfl
    have KS := hid (sides_any _ cb P n root ks p NB (hVw.below hb1) h hlt' (PT h) hPl)
    have AD := hid allocDg
    have HSN := hid (fun wB wC x v' a1 a2 a3 a4 a5 a6 => ITx.snoc (wB := wB) (wC := wC) (x := x) (v' := v') hI hlt' hB0.size a1 a2 a3 a4 a5 a6)
    have HOK := hid hI.own
    have hvl : vs.length + 1 ≤ 1000000000000 := by rw [hI.len]; omega
    have hvb := hid hI.own.heap
    obtain ⟨hll, hrl⟩ := side_len (ks := ks) (h := h) hPl hnl
    rw [← sideT_eq] at hTX
    generalize hSLe : sideL ks h (PT h) (NB.getD h []) = SL at *
    generalize hSRe : sideR ks h (PT h) (NB.getD h []) = SR at *
    have KB := hid (fun w1 => branchText_any w1 n SL SR hll hrl)
    rw [← hTX] at KB
    generalize TX (h + 1) = TN at *
    obtain ⟨sv, nv, cv, rfl⟩ : ∃ s n c, v = .slice s n c := by
      obtain ⟨s, c, b, e, _⟩ := hI.own.at; exact ⟨s, _, c, e⟩
    have LZ := hid (show (ints .u8 zB).toArray.size = 32 from rfl)
    have LL := hid (show (ints .u8 SL).toArray.size = 32 by rw [ints_size, hll])
    have LR := hid (show (ints .u8 SR).toArray.size = 32 by rw [ints_size, hrl])
    have LL2 := hid (show (Tryz.prog.info? 28).map (·.size) = some (ints .u8 SL).toArray.size by rw [Tryz.sizeD, LL.out])
    have LR2 := hid (show (Tryz.prog.info? 28).map (·.size) = some (ints .u8 SR).toArray.size by rw [Tryz.sizeD, LR.out])
    have LL3 := hid (show (Tryz.prog.info? 28).map (·.size) = some (ints .u8 SL).length by rw [Tryz.sizeD, ints_len, hll])
    have LR3 := hid (show (Tryz.prog.info? 28).map (·.size) = some (ints .u8 SR).length by rw [Tryz.sizeD, ints_len, hrl])
    have ht0 := hI.t0
    have hne0 := hI.ne
    have hpt : pb < w.heap.size ∧ tb < w.heap.size := ⟨hlt hI.pp, hlt hI.tt⟩
    clear hI hTX hT hSLe hSRe
    go_enter Tryz.func47, Tryz.ntmps47
    go_wp2_with (first
      | refine wpList_load_row rfl 28 _ rfl _ rfl 28 _ _ _ r1 Tryz.underlying28 rfl LD.out ?_
      | (refine KS.out.mono ?_; rintro e w3 ⟨rfl, hb3⟩; refine Hid.out ?_))
    refine hid ?_
    have hB3 : Below w.heap.size w w3 := hb1.trans (hb3.mono hb1.size)
    have p3 := hbel hb3 p1 (hlt p1)
    have t3 := hbel hb3 t1 (hlt t1)
    clear KS hb3 r1 p1 t1 cp1 hb1
    have q0 := hold (o := .cells (ints .u8 zB).toArray 28) (hnew w3 (.cells (ints .u8 zB).toArray 28))
    have q1 := hnew (w3.alloc (.cells (ints .u8 zB).toArray 28)) (.cells (ints .u8 zB).toArray 28)
    rw [show (w3.alloc (.cells (ints .u8 zB).toArray 28)).heap.size = w3.heap.size + 1 by simp] at q1
    have hb4 : Below w3.heap.size w3 ((w3.alloc (.cells (ints .u8 zB).toArray 28)).alloc (.cells (ints .u8 zB).toArray 28)) := ((Below.refl _ _).alloc (Nat.le_refl _) _).alloc (by simp) _
    have q2 := setRow_heap _ _ _ (ints .u8 SL).toArray _ _ q0
    have q3 := (setRow_other _ w3.heap.size (w3.heap.size + 1) (ints .u8 SL).toArray (by omega)).trans q1
    have hb5 := below_setRow hb4 (Nat.le_refl _) (ints .u8 SL).toArray
    have q4 := (setRow_other _ (w3.heap.size + 1) w3.heap.size (ints .u8 SR).toArray (by omega)).trans q2
    have q5 := setRow_heap _ _ _ (ints .u8 SR).toArray _ _ q3
    have hb6 := below_setRow hb5 (show w3.heap.size ≤ w3.heap.size + 1 by omega) (ints .u8 SR).toArray
    go_wp2_with (first
      | refine wpList_allocV AD.out rfl rfl ?_
      | (refine wpList_store_row rfl 28 _ _ rfl w3.heap.size (ints .u8 SL).toArray rfl rfl 28 _ q0 LL2.out (by rw [LL.out, LZ.out]) (all_oneCell_toArray (ints_one _ _)) ?_; refine Hid.out ?_))
    refine hid ?_
    refine wpList_store_row rfl 28 _ _ rfl (w3.heap.size + 1) (ints .u8 SR).toArray rfl rfl 28 _ q3 LR2.out (by rw [LR.out, LZ.out]) (all_oneCell_toArray (ints_one _ _)) ?_
    have hB7 := hB3.trans (hb6.mono hB3.size)
    have p7 := hbel hb6 p3 (hlt p3)
    have t7 := hbel hb6 t3 (hlt t3)
    have hE3 : w.heap.size ≤ w3.heap.size := hB3.size
    clear hb4 hb5 hb6 q0 q1 q2 q3 p3 t3 hB3
    generalize ((((w3.alloc (.cells (ints .u8 zB).toArray 28)).alloc (.cells (ints .u8 zB).toArray 28)).setRow w3.heap.size (ints .u8 SL).toArray).setRow (w3.heap.size + 1) (ints .u8 SR).toArray) = w7 at *
    generalize w3.heap.size = E at *
    go_wp2_with fail
    refine wp_region_noPanic ?_
    refine wp_region_held_drew (S := (fun w' => Below w0.heap.size w0 w' ∧ w'.heap[pb]? = some (.cells #[.pointer (some ⟨cb, 0, none⟩)] 60 (0, 0)) ∧ w'.heap[E]? = some (.cells (ints .u8 SL).toArray 28 (0, 0)) ∧ w'.heap[E + 1]? = some (.cells (ints .u8 SR).toArray 28 (0, 0)))) (by kernel_rfl) ⟨(hB0.trans (hB7.mono hB0.size)).drew, p7, q4, q5⟩ (fun hHeld => ?_)
    refine wpAnyH_take (i := 1) (oi := { dst := some 18, op := Op.load 60 (Operand.tmp 2), type := 60, pos := "path.go:66", after := #[], guard := none }) (v := .pointer (some ⟨cb, 0, none⟩)) rfl (by kernel_rfl) (by kernel_rfl) (by kernel_rfl) (fun _ _ _ h => h) (Or.inl ⟨by rfl, by intro w hS; have hc := cell_ck (C := [.pointer (some ⟨cb, 0, none⟩)]) (j := 0) (v := .pointer (some ⟨cb, 0, none⟩)) hS.2.1 rfl; go_simp⟩) hHeld ?_
    try simp only [Act.put, List.setIfInBounds_toArray, List.set_cons_zero, List.set_cons_succ]
    refine wpAnyH_take (i := 6) (oi := { dst := some 23, op := Op.load 28 (Operand.tmp 6), type := 28, pos := "path.go:66", after := #[], guard := none }) (v := .agg (ints .u8 SL).toArray) rfl (by kernel_rfl) (by kernel_rfl) (by kernel_rfl) (fun _ _ _ h => h) (yieldsIf_load_mid (by rfl) 28 _ rfl E (0) rfl (ints .u8 SL) _ (fun w hS => rng hS.2.2.1) Tryz.underlying28 rfl LL3.out) hHeld ?_
    try simp only [Act.put, List.setIfInBounds_toArray, List.set_cons_zero, List.set_cons_succ]
    refine wpAnyH_take (i := 7) (oi := { dst := some 24, op := Op.load 28 (Operand.tmp 7), type := 28, pos := "path.go:66", after := #[], guard := none }) (v := .agg (ints .u8 SR).toArray) rfl (by kernel_rfl) (by kernel_rfl) (by kernel_rfl) (fun _ _ _ h => h) (yieldsIf_load_mid (by rfl) 28 _ rfl (E + 1) (0) rfl (ints .u8 SR) _ (fun w hS => rng hS.2.2.2) Tryz.underlying28 rfl LR3.out) hHeld ?_
    try simp only [Act.put, List.setIfInBounds_toArray, List.set_cons_zero, List.set_cons_succ]
    refine wpAnyH_take (i := 2) (oi := { dst := some 19, op := Op.nilCheck (Operand.tmp 18), type := 0, pos := "path.go:66", after := #[{ on := 1, ground := Ground.data }], guard := none }) (v := .pointer (some ⟨cb, 0, none⟩)) rfl (by kernel_rfl) (by kernel_rfl) (by kernel_rfl) (fun _ _ _ h => h) (Or.inl ⟨by rfl, by intro w hS; go_simp⟩) hHeld ?_
    try simp only [Act.put, List.setIfInBounds_toArray, List.set_cons_zero, List.set_cons_succ]
    refine wpAnyH_take (i := 3) (oi := { dst := some 20, op := Op.fieldAddr 64 (Operand.tmp 19) 0, type := 0, pos := "path.go:66", after := #[{ on := 2, ground := Ground.data }], guard := none }) (v := .pointer (some ⟨cb, 0, none⟩)) rfl (by kernel_rfl) (by kernel_rfl) (by kernel_rfl) (fun _ _ _ h => h) (Or.inl ⟨by rfl, by intro w hS; go_simp⟩) hHeld ?_
    try simp only [Act.put, List.setIfInBounds_toArray, List.set_cons_zero, List.set_cons_succ]
    refine wpAnyH_take (i := 4) (oi := { dst := some 21, op := Op.fieldAddr 57 (Operand.tmp 20) 0, type := 0, pos := "path.go:66", after := #[{ on := 3, ground := Ground.data }], guard := none }) (v := .pointer (some ⟨cb, 0, none⟩)) rfl (by kernel_rfl) (by kernel_rfl) (by kernel_rfl) (fun _ _ _ h => h) (Or.inl ⟨by rfl, by intro w hS; go_simp⟩) hHeld ?_
    try simp only [Act.put, List.setIfInBounds_toArray, List.set_cons_zero, List.set_cons_succ]
    refine wpAnyH_take (i := 5) (oi := { dst := some 22, op := Op.load 3 (Operand.tmp 21), type := 3, pos := "path.go:66", after := #[{ on := 4, ground := Ground.data }], guard := none }) (v := .int .i64 n) rfl (by kernel_rfl) (by kernel_rfl) (by kernel_rfl) (fun _ _ _ h => h) (Or.inl ⟨by rfl, by intro w hS; have hc := (hV.below hS.1).c0; go_simp⟩) hHeld ?_
    try simp only [Act.put, List.setIfInBounds_toArray, List.set_cons_zero, List.set_cons_succ]
    refine wpAnyH_ready (rs := [0, 8]) (by kernel_rfl) (by simp) ?_
    refine (AllReadyH.cons (o := { dst := some 17, op := Op.load 70 (Operand.tmp 3), type := 70, pos := "path.go:66", after := #[], guard := none }) rfl (fun K hK => ?_) (AllReadyH.cons (o := { dst := some 25, op := Op.call { callee := Callee.value (Operand.func 49), args := #[Operand.tmp 22, Operand.tmp 23, Operand.tmp 24], argTypes := #[3, 28, 28] }, type := 30, pos := "path.go:66", after := #[{ on := 5, ground := Ground.data }, { on := 6, ground := Ground.data }, { on := 7, ground := Ground.data }], guard := none }) rfl (fun K hK => ?_) AllReadyH.nil))
    · skip
      have cT := show World.cell? _ ⟨tb, 0, none⟩ = some (.slice sv nv cv) by rw [cell_of_row _ _ _ _ _ _ (show w7.drew.heap[tb]? = _ from t7)]; rfl
      go_simp
      refine hK.out _ _ (hHeld) (fun hHeld2 => ?_)
      clear hK K hHeld
      have hHeld := hHeld2
      clear hHeld2
      clear cT
      try simp only [Act.put, List.setIfInBounds_toArray, List.set_cons_zero, List.set_cons_succ]
      refine wpAnyH_ready (rs := [8]) (by kernel_rfl) (by simp) ?_
      refine (AllReadyH.cons (o := { dst := some 25, op := Op.call { callee := Callee.value (Operand.func 49), args := #[Operand.tmp 22, Operand.tmp 23, Operand.tmp 24], argTypes := #[3, 28, 28] }, type := 30, pos := "path.go:66", after := #[{ on := 5, ground := Ground.data }, { on := 6, ground := Ground.data }, { on := 7, ground := Ground.data }], guard := none }) rfl (fun K hK => ?_) AllReadyH.nil)
      go_simp
      go_at_call 49
      refine (KB.out _).mono ?_
      rintro e w8 ⟨v8, rfl, hO8, hb8⟩
      obtain ⟨s8, c8, rfl, hS8, hn8⟩ := hO8.form
      have t8 := hbel hb8 (show w7.drew.heap[tb]? = _ from t7) (hlt t7)
      go_wp2_with fail
      refine hK.out _ _ (⟨hHeld.1.trans (hb8.mono hHeld.1.size), hbel hb8 hHeld.2.1 (hlt hHeld.2.1), hbel hb8 hHeld.2.2.1 (hlt hHeld.2.2.1), hbel hb8 hHeld.2.2.2 (hlt hHeld.2.2.2)⟩) (fun hHeld2 => ?_)
      clear hK K hHeld
      have hHeld := hHeld2
      clear hHeld2
      try simp only [Act.put, List.setIfInBounds_toArray, List.set_cons_zero, List.set_cons_succ]
      refine wpAnyH_ready (rs := [9]) (by kernel_rfl) (by simp) ?_
      refine (AllReadyH.cons (o := { dst := some 26, op := Op.buildSlice 70 1 #[(0, Operand.tmp 25)], type := 70, pos := "path.go:66", after := #[{ on := 8, ground := Ground.data }], guard := none }) rfl (fun K hK => ?_) AllReadyH.nil)
      go_simp
      refine hK.out _ _ (⟨hHeld.1.alloc hHeld.1.size _, hold hHeld.2.1, hold hHeld.2.2.1, hold hHeld.2.2.2⟩) (fun hHeld2 => ?_)
      clear hK K hHeld
      have hHeld := hHeld2
      clear hHeld2
      have hb9 : Below w8.heap.size w8 (w8.alloc (.cells #[.slice s8 TN.length c8] 30)) := (Below.refl _ _).alloc (Nat.le_refl _) _
      have cN : (w8.alloc (.cells #[.slice s8 TN.length c8] 30)).cell? ⟨w8.heap.size, 0, none⟩ = some (.slice s8 TN.length c8) := by rw [cell_of_row _ _ _ _ _ _ (hnew w8 _)]; rfl
      try simp only [Act.put, List.setIfInBounds_toArray, List.set_cons_zero, List.set_cons_succ]
      refine wpAnyH_ready (rs := [10]) (by kernel_rfl) (by simp) ?_
      refine (AllReadyH.cons (o := { dst := some 27, op := Op.call { callee := Callee.builtin Builtin.append, args := #[Operand.tmp 17, Operand.tmp 26], argTypes := #[70, 70] }, type := 70, pos := "path.go:66", after := #[{ on := 0, ground := Ground.data }, { on := 9, ground := Ground.data }, { on := 8, ground := Ground.chain }], guard := none }) rfl (fun K hK => ?_) AllReadyH.nil)
      have hBx := hB7.drew.trans (hb8.mono hB7.size)
      have hBy := hBx.trans (hb9.mono hBx.size)
      have oK := HOK.out.of_heap (fun k e => hBy.block k (hvb.out k e).2.1)
      refine step_pushKp rfl (.tmp 17) (.tmp 26) rfl w0.heap.size (.slice sv nv cv) vs (.slice s8 TN.length c8) rfl oK w8.heap.size cN rfl rfl hvl (Nat.le_trans hB0.size hBy.size) ?_
      intro v' wC z1 z2 z3 z4
      obtain ⟨zz, tC⟩ := HSN.out _ wC _ _ hBy (own_lower (hO8.below hb9 (Nat.le_refl _)) hB7.size) z1 z3 (z4.imp id (fun ⟨k, e1, e2⟩ => ⟨k, e1, Nat.le_trans hBy.size e2⟩)) (z2.mono (Nat.zero_le _))
      refine hK.out _ _ (⟨hHeld.1.trans z2, (z3 pb (hlt hHeld.2.1) (fun e => by obtain ⟨_, _, cs, hc⟩ := oK.heap pb e; exact ne_tyC hc hHeld.2.1 (by decide) rfl)).trans hHeld.2.1, (z3 E (hlt hHeld.2.2.1) (fun e => by have := (hvb.out E e).2.1; omega)).trans hHeld.2.2.1, (z3 (E + 1) (hlt hHeld.2.2.2) (fun e => by have := (hvb.out (E + 1) e).2.1; omega)).trans hHeld.2.2.2⟩) (fun hHeld2 => ?_)
      clear hK K hHeld
      have hHeld := hHeld2
      clear hHeld2
      try simp only [Act.put, List.setIfInBounds_toArray, List.set_cons_zero, List.set_cons_succ]
      refine wpAnyH_ready (rs := [11]) (by kernel_rfl) (by simp) ?_
      refine (AllReadyH.cons (o := { dst := none, op := Op.store 70 (Operand.tmp 3) (Operand.tmp 27), type := 0, pos := "path.go:66", after := #[{ on := 10, ground := Ground.data }, { on := 10, ground := Ground.chain }, { on := 0, ground := Ground.phase }, { on := 1, ground := Ground.phase }, { on := 2, ground := Ground.phase }, { on := 3, ground := Ground.phase }, { on := 4, ground := Ground.phase }, { on := 5, ground := Ground.phase }, { on := 6, ground := Ground.phase }, { on := 7, ground := Ground.phase }, { on := 8, ground := Ground.phase }, { on := 9, ground := Ground.phase }, { on := 10, ground := Ground.phase }], guard := none }) rfl (fun K hK => ?_) AllReadyH.nil)
      obtain ⟨sq, nq, cq, rfl⟩ : ∃ s n c, v' = .slice s n c := by obtain ⟨s, c, b, e, _⟩ := z1.at; exact ⟨s, _, c, e⟩
      rw [if_pos (by rfl)]
      refine wp_storeC 70 _ _ rfl tb 0 (.slice sq nq cq) rfl rfl [.slice sv nv cv] 70 tC (by simp) Tryz.sizeBB rfl rfl ?_
      refine hK.out _ _ (⟨below_setRow hHeld.1 ht0 _, (setRow_other _ _ _ _ hne0).trans hHeld.2.1, (setRow_other _ _ _ _ (by omega)).trans hHeld.2.2.1, (setRow_other _ _ _ _ (by omega)).trans hHeld.2.2.2⟩) (fun hHeld2 => ?_)
      clear hK K hHeld
      have hHeld := hHeld2
      clear hHeld2
      try simp only [Act.put, List.setIfInBounds_toArray, List.set_cons_zero, List.set_cons_succ]
      refine wpAnyH_done (by kernel_rfl) ?_ _
      refine NoPanic.normal ?_
      go_wp2_with fail
      go_end0
      obtain ⟨F9, zI, zF, zG⟩ := zz
      exact ⟨rfl, _, _, F9, zI, zF, zG⟩
    · skip
      go_simp
      go_at_call 49
      refine (KB.out _).mono ?_
      rintro e w8 ⟨v8, rfl, hO8, hb8⟩
      obtain ⟨s8, c8, rfl, hS8, hn8⟩ := hO8.form
      have t8 := hbel hb8 (show w7.drew.heap[tb]? = _ from t7) (hlt t7)
      go_wp2_with fail
      refine hK.out _ _ (⟨hHeld.1.trans (hb8.mono hHeld.1.size), hbel hb8 hHeld.2.1 (hlt hHeld.2.1), hbel hb8 hHeld.2.2.1 (hlt hHeld.2.2.1), hbel hb8 hHeld.2.2.2 (hlt hHeld.2.2.2)⟩) (fun hHeld2 => ?_)
      clear hK K hHeld
      have hHeld := hHeld2
      clear hHeld2
      try simp only [Act.put, List.setIfInBounds_toArray, List.set_cons_zero, List.set_cons_succ]
      refine wpAnyH_ready (rs := [0, 9]) (by kernel_rfl) (by simp) ?_
      refine (AllReadyH.cons (o := { dst := some 17, op := Op.load 70 (Operand.tmp 3), type := 70, pos := "path.go:66", after := #[], guard := none }) rfl (fun K hK => ?_) (AllReadyH.cons (o := { dst := some 26, op := Op.buildSlice 70 1 #[(0, Operand.tmp 25)], type := 70, pos := "path.go:66", after := #[{ on := 8, ground := Ground.data }], guard := none }) rfl (fun K hK => ?_) AllReadyH.nil))
      · skip
        have cT := show World.cell? _ ⟨tb, 0, none⟩ = some (.slice sv nv cv) by rw [cell_of_row _ _ _ _ _ _ t8]; rfl
        go_simp
        refine hK.out _ _ (hHeld) (fun hHeld2 => ?_)
        clear hK K hHeld
        have hHeld := hHeld2
        clear hHeld2
        clear cT
        try simp only [Act.put, List.setIfInBounds_toArray, List.set_cons_zero, List.set_cons_succ]
        refine wpAnyH_ready (rs := [9]) (by kernel_rfl) (by simp) ?_
        refine (AllReadyH.cons (o := { dst := some 26, op := Op.buildSlice 70 1 #[(0, Operand.tmp 25)], type := 70, pos := "path.go:66", after := #[{ on := 8, ground := Ground.data }], guard := none }) rfl (fun K hK => ?_) AllReadyH.nil)
        go_simp
        refine hK.out _ _ (⟨hHeld.1.alloc hHeld.1.size _, hold hHeld.2.1, hold hHeld.2.2.1, hold hHeld.2.2.2⟩) (fun hHeld2 => ?_)
        clear hK K hHeld
        have hHeld := hHeld2
        clear hHeld2
        have hb9 : Below w8.heap.size w8 (w8.alloc (.cells #[.slice s8 TN.length c8] 30)) := (Below.refl _ _).alloc (Nat.le_refl _) _
        have cN : (w8.alloc (.cells #[.slice s8 TN.length c8] 30)).cell? ⟨w8.heap.size, 0, none⟩ = some (.slice s8 TN.length c8) := by rw [cell_of_row _ _ _ _ _ _ (hnew w8 _)]; rfl
        try simp only [Act.put, List.setIfInBounds_toArray, List.set_cons_zero, List.set_cons_succ]
        refine wpAnyH_ready (rs := [10]) (by kernel_rfl) (by simp) ?_
        refine (AllReadyH.cons (o := { dst := some 27, op := Op.call { callee := Callee.builtin Builtin.append, args := #[Operand.tmp 17, Operand.tmp 26], argTypes := #[70, 70] }, type := 70, pos := "path.go:66", after := #[{ on := 0, ground := Ground.data }, { on := 9, ground := Ground.data }, { on := 8, ground := Ground.chain }], guard := none }) rfl (fun K hK => ?_) AllReadyH.nil)
        have hBx := hB7.drew.trans (hb8.mono hB7.size)
        have hBy := hBx.trans (hb9.mono hBx.size)
        have oK := HOK.out.of_heap (fun k e => hBy.block k (hvb.out k e).2.1)
        refine step_pushKp rfl (.tmp 17) (.tmp 26) rfl w0.heap.size (.slice sv nv cv) vs (.slice s8 TN.length c8) rfl oK w8.heap.size cN rfl rfl hvl (Nat.le_trans hB0.size hBy.size) ?_
        intro v' wC z1 z2 z3 z4
        obtain ⟨zz, tC⟩ := HSN.out _ wC _ _ hBy (own_lower (hO8.below hb9 (Nat.le_refl _)) hB7.size) z1 z3 (z4.imp id (fun ⟨k, e1, e2⟩ => ⟨k, e1, Nat.le_trans hBy.size e2⟩)) (z2.mono (Nat.zero_le _))
        refine hK.out _ _ (⟨hHeld.1.trans z2, (z3 pb (hlt hHeld.2.1) (fun e => by obtain ⟨_, _, cs, hc⟩ := oK.heap pb e; exact ne_tyC hc hHeld.2.1 (by decide) rfl)).trans hHeld.2.1, (z3 E (hlt hHeld.2.2.1) (fun e => by have := (hvb.out E e).2.1; omega)).trans hHeld.2.2.1, (z3 (E + 1) (hlt hHeld.2.2.2) (fun e => by have := (hvb.out (E + 1) e).2.1; omega)).trans hHeld.2.2.2⟩) (fun hHeld2 => ?_)
        clear hK K hHeld
        have hHeld := hHeld2
        clear hHeld2
        try simp only [Act.put, List.setIfInBounds_toArray, List.set_cons_zero, List.set_cons_succ]
        refine wpAnyH_ready (rs := [11]) (by kernel_rfl) (by simp) ?_
        refine (AllReadyH.cons (o := { dst := none, op := Op.store 70 (Operand.tmp 3) (Operand.tmp 27), type := 0, pos := "path.go:66", after := #[{ on := 10, ground := Ground.data }, { on := 10, ground := Ground.chain }, { on := 0, ground := Ground.phase }, { on := 1, ground := Ground.phase }, { on := 2, ground := Ground.phase }, { on := 3, ground := Ground.phase }, { on := 4, ground := Ground.phase }, { on := 5, ground := Ground.phase }, { on := 6, ground := Ground.phase }, { on := 7, ground := Ground.phase }, { on := 8, ground := Ground.phase }, { on := 9, ground := Ground.phase }, { on := 10, ground := Ground.phase }], guard := none }) rfl (fun K hK => ?_) AllReadyH.nil)
        obtain ⟨sq, nq, cq, rfl⟩ : ∃ s n c, v' = .slice s n c := by obtain ⟨s, c, b, e, _⟩ := z1.at; exact ⟨s, _, c, e⟩
        rw [if_pos (by rfl)]
        refine wp_storeC 70 _ _ rfl tb 0 (.slice sq nq cq) rfl rfl [.slice sv nv cv] 70 tC (by simp) Tryz.sizeBB rfl rfl ?_
        refine hK.out _ _ (⟨below_setRow hHeld.1 ht0 _, (setRow_other _ _ _ _ hne0).trans hHeld.2.1, (setRow_other _ _ _ _ (by omega)).trans hHeld.2.2.1, (setRow_other _ _ _ _ (by omega)).trans hHeld.2.2.2⟩) (fun hHeld2 => ?_)
        clear hK K hHeld
        have hHeld := hHeld2
        clear hHeld2
        try simp only [Act.put, List.setIfInBounds_toArray, List.set_cons_zero, List.set_cons_succ]
        refine wpAnyH_done (by kernel_rfl) ?_ _
        refine NoPanic.normal ?_
        go_wp2_with fail
        go_end0
        obtain ⟨F9, zI, zF, zG⟩ := zz
        exact ⟨rfl, _, _, F9, zI, zF, zG⟩
      · skip
        go_simp
        refine hK.out _ _ (⟨hHeld.1.alloc hHeld.1.size _, hold hHeld.2.1, hold hHeld.2.2.1, hold hHeld.2.2.2⟩) (fun hHeld2 => ?_)
        clear hK K hHeld
        have hHeld := hHeld2
        clear hHeld2
        have hb9 : Below w8.heap.size w8 (w8.alloc (.cells #[.slice s8 TN.length c8] 30)) := (Below.refl _ _).alloc (Nat.le_refl _) _
        have cN : (w8.alloc (.cells #[.slice s8 TN.length c8] 30)).cell? ⟨w8.heap.size, 0, none⟩ = some (.slice s8 TN.length c8) := by rw [cell_of_row _ _ _ _ _ _ (hnew w8 _)]; rfl
        try simp only [Act.put, List.setIfInBounds_toArray, List.set_cons_zero, List.set_cons_succ]
        refine wpAnyH_ready (rs := [0]) (by kernel_rfl) (by simp) ?_
        refine (AllReadyH.cons (o := { dst := some 17, op := Op.load 70 (Operand.tmp 3), type := 70, pos := "path.go:66", after := #[], guard := none }) rfl (fun K hK => ?_) AllReadyH.nil)
        have cT := show World.cell? _ ⟨tb, 0, none⟩ = some (.slice sv nv cv) by rw [cell_of_row _ _ _ _ _ _ (hold (o := .cells #[.slice s8 TN.length c8] 30) t8)]; rfl
        go_simp
        refine hK.out _ _ (hHeld) (fun hHeld2 => ?_)
        clear hK K hHeld
        have hHeld := hHeld2
        clear hHeld2
        clear cT
        try simp only [Act.put, List.setIfInBounds_toArray, List.set_cons_zero, List.set_cons_succ]
        refine wpAnyH_ready (rs := [10]) (by kernel_rfl) (by simp) ?_
        refine (AllReadyH.cons (o := { dst := some 27, op := Op.call { callee := Callee.builtin Builtin.append, args := #[Operand.tmp 17, Operand.tmp 26], argTypes := #[70, 70] }, type := 70, pos := "path.go:66", after := #[{ on := 0, ground := Ground.data }, { on := 9, ground := Ground.data }, { on := 8, ground := Ground.chain }], guard := none }) rfl (fun K hK => ?_) AllReadyH.nil)
        have hBx := hB7.drew.trans (hb8.mono hB7.size)
        have hBy := hBx.trans (hb9.mono hBx.size)
        have oK := HOK.out.of_heap (fun k e => hBy.block k (hvb.out k e).2.1)
        refine step_pushKp rfl (.tmp 17) (.tmp 26) rfl w0.heap.size (.slice sv nv cv) vs (.slice s8 TN.length c8) rfl oK w8.heap.size cN rfl rfl hvl (Nat.le_trans hB0.size hBy.size) ?_
        intro v' wC z1 z2 z3 z4
        obtain ⟨zz, tC⟩ := HSN.out _ wC _ _ hBy (own_lower (hO8.below hb9 (Nat.le_refl _)) hB7.size) z1 z3 (z4.imp id (fun ⟨k, e1, e2⟩ => ⟨k, e1, Nat.le_trans hBy.size e2⟩)) (z2.mono (Nat.zero_le _))
        refine hK.out _ _ (⟨hHeld.1.trans z2, (z3 pb (hlt hHeld.2.1) (fun e => by obtain ⟨_, _, cs, hc⟩ := oK.heap pb e; exact ne_tyC hc hHeld.2.1 (by decide) rfl)).trans hHeld.2.1, (z3 E (hlt hHeld.2.2.1) (fun e => by have := (hvb.out E e).2.1; omega)).trans hHeld.2.2.1, (z3 (E + 1) (hlt hHeld.2.2.2) (fun e => by have := (hvb.out (E + 1) e).2.1; omega)).trans hHeld.2.2.2⟩) (fun hHeld2 => ?_)
        clear hK K hHeld
        have hHeld := hHeld2
        clear hHeld2
        try simp only [Act.put, List.setIfInBounds_toArray, List.set_cons_zero, List.set_cons_succ]
        refine wpAnyH_ready (rs := [11]) (by kernel_rfl) (by simp) ?_
        refine (AllReadyH.cons (o := { dst := none, op := Op.store 70 (Operand.tmp 3) (Operand.tmp 27), type := 0, pos := "path.go:66", after := #[{ on := 10, ground := Ground.data }, { on := 10, ground := Ground.chain }, { on := 0, ground := Ground.phase }, { on := 1, ground := Ground.phase }, { on := 2, ground := Ground.phase }, { on := 3, ground := Ground.phase }, { on := 4, ground := Ground.phase }, { on := 5, ground := Ground.phase }, { on := 6, ground := Ground.phase }, { on := 7, ground := Ground.phase }, { on := 8, ground := Ground.phase }, { on := 9, ground := Ground.phase }, { on := 10, ground := Ground.phase }], guard := none }) rfl (fun K hK => ?_) AllReadyH.nil)
        obtain ⟨sq, nq, cq, rfl⟩ : ∃ s n c, v' = .slice s n c := by obtain ⟨s, c, b, e, _⟩ := z1.at; exact ⟨s, _, c, e⟩
        rw [if_pos (by rfl)]
        refine wp_storeC 70 _ _ rfl tb 0 (.slice sq nq cq) rfl rfl [.slice sv nv cv] 70 tC (by simp) Tryz.sizeBB rfl rfl ?_
        refine hK.out _ _ (⟨below_setRow hHeld.1 ht0 _, (setRow_other _ _ _ _ hne0).trans hHeld.2.1, (setRow_other _ _ _ _ (by omega)).trans hHeld.2.2.1, (setRow_other _ _ _ _ (by omega)).trans hHeld.2.2.2⟩) (fun hHeld2 => ?_)
        clear hK K hHeld
        have hHeld := hHeld2
        clear hHeld2
        try simp only [Act.put, List.setIfInBounds_toArray, List.set_cons_zero, List.set_cons_succ]
        refine wpAnyH_done (by kernel_rfl) ?_ _
        refine NoPanic.normal ?_
        go_wp2_with fail
        go_end0
        obtain ⟨F9, zI, zF, zG⟩ := zz
        exact ⟨rfl, _, _, F9, zI, zF, zG⟩
end Go.Proofs.YtbjahdbmkcamoaaGreatDoor
namespace Go.Proofs.YtbjahdbmkcamoaaGreatDoor
set_option linter.unusedVariables false
set_option linter.unusedSimpArgs false
open Go.RowKit
attribute [local go_sem ↓] Go.wp_at_zero Go.wp_at_succ

/-- The texts of a path. -/
def txN (n : Nat) (ks : List Int) (p : Pf) (NB : List (List Int)) : Nat → List Int
  | 0 => footT ks p.f p.vs
  | h + 1 => sideT n ks h (pth n ks (fun j => NB.getD j []) (footD n ks p.f p.vs) h) (NB.getD h [])
theorem txN_nears (n : Nat) (ks : List Int) (p : Pf) : ∀ h, h ≤ 256 → txN n ks p (nears n p) h = txtP n ks p h
  | 0, _ => rfl
  | h + 1, hh => by
    show sideT n ks h (pth n ks (fun j => (nears n p).getD j []) (footD n ks p.f p.vs) h) ((nears n p).getD h []) = sideT n ks h (pth n ks (nbr n p) (footD n ks p.f p.vs) h) (nbr n p h)
    rw [pth_nears _ _ _ _ _ (by omega), nears_get _ _ _ (by omega)]
theorem allocBB (a : Act) (o : Oper) (w : World) (ho : o.op = .alloc 70) : (execOp a.eval o).run Tryz.prog w = .ok (.value (.pointer (some ⟨w.heap.size, 0, none⟩))) (w.alloc (.cells [Value.slice none 0 0].toArray 70)) := by
  unfold execOp
  rw [ho]
  kernel_rfl
/-- A list of 257 texts that a call made. -/
def TxL (w : World) (base : Nat) (v : Value) (TX : Nat → List Int) : Prop := ∃ vs, OwnK w base v vs ∧ vs.length = 257 ∧ ∀ i, i < 257 → Own w base (vs.getD i undef) (TX i)
theorem TxL.below {w w1 : World} {base : Nat} {v : Value} {TX : Nat → List Int} (h : TxL w base v TX) (hb : Below w.heap.size w w1) : TxL w1 base v TX := by
  obtain ⟨vs, h1, h2, h3⟩ := h
  exact ⟨vs, h1.of_heap (fun k e => hb.block k (h1.heap k e).2.1), h2, fun i hi => (h3 i hi).below hb (Nat.le_refl _)⟩
theorem TxL.form {w : World} {base : Nat} {v : Value} {TX : Nat → List Int} (h : TxL w base v TX) : ∃ b c, v = .slice (some ⟨b, 0, none⟩) 257 c ∧ (c : Int) ≤ 9223372036854775807 ∧ ∀ i, i < 257 → ∃ s cc, w.cell? ⟨b, i, none⟩ = some (.slice s (TX i).length cc) ∧ Src w s cc (TX i) ∧ (s = none → cc = 0) := by
  obtain ⟨vs, h1, h2, h3⟩ := h
  obtain ⟨sp, cap, b, e, hc, hm, hs, hcell⟩ := h1.at
  rw [h2] at e hs hcell
  have := hs (by omega)
  subst this
  refine ⟨b, cap, e, by unfold maxLen at hm; omega, fun i hi => ?_⟩
  obtain ⟨s, cc, e2, hS, hn⟩ := (h3 i hi).form
  exact ⟨s, cc, by rw [hcell i hi, e2], hS, hn⟩
set_option maxRecDepth 100000 in
set_option maxHeartbeats 4000000 in
theorem texts_any (w : World) (hG : Glob w) (cb : Nat) (P : CkP) (n : Nat) (root ks : List Int) (p : Pf) (NB : List (List Int)) (hV : CkV w cb P n root ks p NB) :
    Calls Tryz.prog 25 #[.pointer (some ⟨cb, 0, none⟩)] w fun e w' => ∃ v, e = .returned v ∧ TxL w' w.heap.size v (txN n ks p NB) ∧ Below w.heap.size w w' := by
  have hb1 : Below w.heap.size w (w.alloc (.cells #[.pointer (some ⟨cb, 0, none⟩)] 60)) := (Below.refl _ _).alloc (Nat.le_refl _) _
  have r1 := hnew w (.cells #[.pointer (some ⟨cb, 0, none⟩)] 60)
  have c1 : (w.alloc (.cells #[.pointer (some ⟨cb, 0, none⟩)] 60)).cell? ⟨w.heap.size, 0, none⟩ = some (.pointer (some ⟨cb, 0, none⟩)) := by rw [cell_of_row _ _ _ _ _ _ r1]; rfl
  have KT := hid (footText_any _ cb P n root ks p NB (hV.below hb1))
  have AB := hid allocBB
  have hs1 : (w.alloc (.cells #[.pointer (some ⟨cb, 0, none⟩)] 60)).heap.size = w.heap.size + 1 := by simp
  rw [hs1, show footT ks p.f p.vs = txN n ks p NB 0 from rfl] at KT
  go_enter Tryz.func25, Tryz.ntmps25
  go_wp2_with (first | (refine KT.out.mono ?_; rintro e w2 ⟨x, rfl, hOx, hb2⟩; obtain ⟨sx, cx, rfl, hSx, hnx⟩ := hOx.form; refine Hid.out ?_))
  refine hid ?_
  have p2 := hbel hb2 r1 (by omega)
  have hB2 : Below w.heap.size w w2 := hb1.trans (hb2.mono (by omega))
  have hz2 := hb2.size
  clear KT c1 r1 hb1 hb2
  generalize hTl : (txN n ks p NB 0).length = L at *
  have g6 := hnew w2 (.cells #[.slice sx L cx] 30)
  have hb6 : Below w2.heap.size w2 (w2.alloc (.cells #[.slice sx L cx] 30)) := (Below.refl _ _).alloc (Nat.le_refl _) _
  have hs6 : (w2.alloc (.cells #[.slice sx L cx] 30)).heap.size = w2.heap.size + 1 := by simp
  have hb7 : Below w2.heap.size w2 ((w2.alloc (.cells #[.slice sx L cx] 30)).alloc (.cells [Value.slice (some ⟨w2.heap.size, 0, none⟩) 1 1].toArray 70)) := hb6.alloc (by rw [hs6]; omega) _
  have g7 := hold (o := .cells [Value.slice (some ⟨w2.heap.size, 0, none⟩) 1 1].toArray 70) g6
  have t7 := hnew (w2.alloc (.cells #[.slice sx L cx] 30)) (.cells [Value.slice (some ⟨w2.heap.size, 0, none⟩) 1 1].toArray 70)
  rw [hs6] at t7
  have bs : ∀ w1 : World, (Instr.buildSlice 70 1 #[(0, .slice sx L cx)]).run Tryz.prog w1 = .ok (.slice (some ⟨w1.heap.size, 0, none⟩) 1 1) (w1.alloc (.cells #[.slice sx L cx] 30)) := fun w1 => by kernel_rfl
  go_wp2_with (first | (refine wpList_new AB.out rfl Tryz.sizeBB rfl rfl rfl _ _ rfl rfl [Value.slice (some ⟨w2.heap.size, 0, none⟩) 1 1] rfl rfl rfl (by intro v hv; rw [List.mem_singleton.1 hv]; rfl) ?_; refine Hid.out ?_))
  refine hid ?_
  have hB7 : Below w.heap.size w _ := hB2.trans (hb7.mono hB2.size)
  have p7 := hbel hb7 p2 (hlt p2)
  have hO7 : Own _ w.heap.size (.slice sx L cx) (txN n ks p NB 0) := own_lower (hOx.below hb7 (Nat.le_refl _)) (by omega)
  clear g6 hb6 hb7 hB2 p2 hOx hSx hs6
  generalize (w2.alloc (.cells #[.slice sx L cx] 30)).alloc (.cells [Value.slice (some ⟨w2.heap.size, 0, none⟩) 1 1].toArray 70) = w7 at *
  generalize w2.heap.size = G at *
  have hI7 : ITx w w.heap.size (G + 1) cb (txN n ks p NB) 0 (.slice (some ⟨G, 0, none⟩) 1 1) [.slice sx L cx] (w.heap.size :: (G + 1) :: (bl (.slice (some ⟨G, 0, none⟩) 1 1) ++ [Value.slice sx L cx].flatMap bl)) w7 :=
    ⟨rfl, by omega, Nat.le_refl _, by omega, p7, t7, ⟨rfl, Or.inr ⟨G, 1, #[.slice sx L cx], rfl, by omega, g7, by simp, by simp [maxLen], rfl, rfl⟩⟩, rfl, fun i hi => by
      obtain rfl : i = 0 := by simpa using hi
      exact hO7⟩
  have HT := hid (fun h (hh : h < 256) => show txN n ks p NB (h + 1) = sideT n ks h (pth n ks (fun j => NB.getD j []) (footD n ks p.f p.vs) h) (NB.getD h []) from rfl)
  have KF := hid (fun w1 (hB1 : Below w.heap.size w w1) => foot_any w1 (hG.below hB1 hG.1) cb P n root ks p NB (hV.below hB1))
  have hdl := footD_len n ks p.f p.vs
  have hP := fun h => pth_len n ks (fun j => NB.getD j []) (footD n ks p.f p.vs) hdl h
  have KC := hid (fun w1 (hB : Below w.heap.size w w1) F0 (hI : ∃ v vs, ITx w w.heap.size (G + 1) cb (txN n ks p NB) 0 v vs F0 w1) =>
    climb_any w w1 hG cb P n root ks p NB hV hB (footD n ks p.f p.vs) hdl 47 (.pointer (some ⟨w.heap.size, 0, none⟩)) (.pointer (some ⟨G + 1, 0, none⟩)) (fun j F w2 => ∃ v vs, ITx w w.heap.size (G + 1) cb (txN n ks p NB) j v vs F w2) F0 ent_texts1
      (fun h F w2 ⟨v, vs, a⟩ => a.bnd) (fun h F w2 w3 ⟨v, vs, a⟩ hk _ => ⟨v, vs, a.stay hk⟩)
      (fun h F w2 hh ⟨v, vs, a⟩ hB2 => (texts1_any w w2 cb P n root ks p NB hV hB2 _ _ _ (txN n ks p NB) hP HT.out h hh v vs F a).mono (by
        rintro e w3 ⟨rfl, v', vs', F', b1, b2, b3⟩
        exact ⟨rfl, F', ⟨v', vs', b1⟩, b2, b3⟩)) hI)
  generalize footD n ks p.f p.vs = D at *
  generalize hTX : txN n ks p NB = TX at *
  have HTX := hid hTX
  clear hTX
  have LF := hI7.bnd
  have HI7 := hid hI7
  generalize w.heap.size :: (G + 1) :: (bl (.slice (some ⟨G, 0, none⟩) 1 1) ++ [Value.slice sx L cx].flatMap bl) = F0 at *
  clear hI7 hO7 t7 g7 HT bs
  go_wp2_with fail
  refine wp_region_noPanic ?_
  refine wp_region_held_drew (S := (fun w' => Below w.heap.size w w' ∧ w'.heap[w.heap.size]? = some (.cells #[.pointer (some ⟨cb, 0, none⟩)] 60 (0, 0)))) (by kernel_rfl) ⟨hB7.drew, p7⟩ (fun hHeld => ?_)
  refine wpAnyH_take (i := 0) (oi := { dst := some 7, op := Op.load 60 (Operand.tmp 1), type := 60, pos := "path.go:61", after := #[], guard := none }) (v := .pointer (some ⟨cb, 0, none⟩)) rfl (by kernel_rfl) (by kernel_rfl) (by kernel_rfl) (fun _ _ _ h => h) (Or.inl ⟨by rfl, by intro w hS; have hc := cell_ck (C := [.pointer (some ⟨cb, 0, none⟩)]) (j := 0) (v := .pointer (some ⟨cb, 0, none⟩)) hS.2 rfl; go_simp⟩) hHeld ?_
  try simp only [Act.put, List.setIfInBounds_toArray, List.set_cons_zero, List.set_cons_succ]
  refine wpAnyH_take (i := 1) (oi := { dst := some 8, op := Op.load 60 (Operand.tmp 1), type := 60, pos := "path.go:61", after := #[], guard := none }) (v := .pointer (some ⟨cb, 0, none⟩)) rfl (by kernel_rfl) (by kernel_rfl) (by kernel_rfl) (fun _ _ _ h => h) (Or.inl ⟨by rfl, by intro w hS; have hc := cell_ck (C := [.pointer (some ⟨cb, 0, none⟩)]) (j := 0) (v := .pointer (some ⟨cb, 0, none⟩)) hS.2 rfl; go_simp⟩) hHeld ?_
  try simp only [Act.put, List.setIfInBounds_toArray, List.set_cons_zero, List.set_cons_succ]
  refine wpAnyH_take (i := 3) (oi := { dst := some 10, op := Op.makeFunc (Fn.func 47) #[] #[Operand.tmp 1, Operand.tmp 3], type := 95, pos := "path.go:61", after := #[], guard := none }) (v := .func (.func 47) #[] #[.pointer (some ⟨w.heap.size, 0, none⟩), .pointer (some ⟨G + 1, 0, none⟩)]) rfl (by kernel_rfl) (by kernel_rfl) (by kernel_rfl) (fun _ _ _ h => h) (Or.inl ⟨by rfl, by intro w hS; go_simp⟩) hHeld ?_
  try simp only [Act.put, List.setIfInBounds_toArray, List.set_cons_zero, List.set_cons_succ]
  refine wpAnyH_ready (rs := [2]) (by kernel_rfl) (by simp) ?_
  refine (AllReadyH.cons (o := { dst := some 9, op := Op.call { callee := Callee.value (Operand.func 46), args := #[Operand.tmp 8], argTypes := #[60] }, type := 28, pos := "path.go:61", after := #[{ on := 1, ground := Ground.data }], guard := none }) rfl (fun K hK => ?_) AllReadyH.nil)
  go_simp
  go_at_call 46
  refine (KF.out _ hHeld.1).mono ?_
  rintro e w8 ⟨rfl, hb8⟩
  have hI8 := HI7.out.stay (w1 := w8) (fun k hk => hb8.block k (LF k hk).2)
  go_wp2_with fail
  refine hK.out _ _ (⟨hHeld.1.trans (hb8.mono hHeld.1.size), hbel hb8 hHeld.2 (hlt hHeld.2)⟩) (fun hHeld2 => ?_)
  clear hK K hHeld
  have hHeld := hHeld2
  clear hHeld2
  try simp only [Act.put, List.setIfInBounds_toArray, List.set_cons_zero, List.set_cons_succ]
  refine wpAnyH_ready (rs := [4]) (by kernel_rfl) (by simp) ?_
  refine (AllReadyH.cons (o := { dst := some 11, op := Op.call { callee := Callee.value (Operand.func 45), args := #[Operand.tmp 7, Operand.tmp 9, Operand.tmp 10], argTypes := #[60, 28, 95] }, type := 0, pos := "path.go:61", after := #[{ on := 0, ground := Ground.data }, { on := 2, ground := Ground.data }, { on := 3, ground := Ground.data }, { on := 2, ground := Ground.chain }], guard := none }) rfl (fun K hK => ?_) AllReadyH.nil)
  go_simp
  go_at_call 45
  refine (KC.out _ hHeld.1 F0 ⟨_, _, hI8⟩).mono ?_
  rintro e w9 ⟨rfl, F9, ⟨v9, vs9, hI9⟩, hF9, hG9⟩
  go_wp2_with fail
  refine hK.out _ _ (⟨FrC.below hHeld.1 hF9 (fun x hx => (LF x hx).1) hHeld.1.size, hI9.pp⟩) (fun hHeld2 => ?_)
  clear hK K hHeld
  have hHeld := hHeld2
  clear hHeld2
  try simp only [Act.put, List.setIfInBounds_toArray, List.set_cons_zero, List.set_cons_succ]
  refine wpAnyH_done (by kernel_rfl) ?_ _
  refine NoPanic.normal ?_
  have hB9 := hHeld.1
  have c9 : w9.cell? ⟨G + 1, 0, none⟩ = some v9 := by rw [cell_of_row _ _ _ _ _ _ hI9.tt]; rfl
  have hT9 : TxL w9 w.heap.size v9 TX := ⟨vs9, hI9.own, hI9.len, fun i hi => hI9.txt i (by rw [hI9.len]; omega)⟩
  obtain ⟨sv, nv, cv, rfl⟩ : ∃ s n c, v9 = .slice s n c := by obtain ⟨s, c, b, e, _⟩ := hI9.own.at; exact ⟨s, _, c, e⟩
  clear hI9 hI8 HI7 hHeld
  go_wp2
  go_ret
  exact ⟨.slice sv nv cv, rfl, (by rw [HTX.out]; exact hT9), hB9⟩
theorem results_tmp3 {fn : Func} {t u v : Tmp} (h : fn.results = #[.tmp t, .tmp u, .tmp v]) (tmps : Array Value) (P : Program) (w : World) :
    (results fn tmps).run P w = .ok (.tuple #[tmps.getD t undef, tmps.getD u undef, tmps.getD v undef]) w := by
  simp [results, h]
theorem lt_of_cell {w : World} {b o : Nat} {v : Value} (h : w.cell? ⟨b, o, none⟩ = some v) : b < w.heap.size := by
  unfold World.cell? at h
  simp only at h
  cases hq : w.heap[b]? with
  | none => rw [hq] at h; cases h
  | some x => exact hlt hq
theorem conv_str (w : World) (zs : List Int) (sp : Option Addr) (cap : Nat) (hS : Src w sp cap zs) : (convert 30 9 (.slice sp zs.length cap)).run Tryz.prog w = .ok (.string (strOfNums zs)) w := by
  have hu : Tryz.prog.underlying 9 = some .string := by kernel_rfl
  cases sp with
  | none =>
    have hz : zs = [] := by
      obtain ⟨_, _, b, o, _, h4, _⟩ := hS
      by_cases h : 0 < zs.length
      · cases h4 h
      · exact List.eq_nil_of_length_eq_zero (by omega)
    subst hz
    exact run_convert_bytes_nil w 30 5 Tryz.underlying30 Tryz.underlying5 _ _ 9 hu
  | some a =>
    obtain ⟨_, _, b, o, h3, h4, h5⟩ := hS
    by_cases h : 0 < zs.length
    · have e := h4 h
      simp only [Option.some.injEq] at e
      subst e
      exact run_convert_bytes_arg w 30 5 Tryz.underlying30 Tryz.underlying5 b o _ cap zs rfl (fun i hi => h5 i hi) 9 hu
    · have hz : zs = [] := List.eq_nil_of_length_eq_zero (by omega)
      subst hz
      have hl : (loadCells a ([] : List Int).length).run Tryz.prog w = .ok (([] : List Int).map (Value.int .u8)).toArray w := run_loadCells_list (P := Tryz.prog) w a [] (fun j v hj => by cases hj)
      rw [run_convert_bytes_string w 30 9 5 _ _ cap Tryz.underlying30 Tryz.underlying5 hu, run_bytesToString w _ _ cap [] hl]
      rfl
theorem str_eq {xs ys : List Int} (hx : Bys xs) (hy : Bys ys) : ((strOfNums xs).toList == (strOfNums ys).toList) = decide (xs = ys) := by
  have e1 : ∀ zs : List Int, (strOfNums zs).toList = zs.map fun n => UInt8.ofNat n.toNat := fun zs => by simp [strOfNums, ByteArray.toList_eq]
  rw [e1, e1]
  by_cases h : xs = ys
  · subst h; simp
  · rw [decide_eq_false h]
    refine beq_eq_false_iff_ne.2 fun e => h ?_
    have hl : xs.length = ys.length := by have := congrArg List.length e; simpa using this
    refine List.ext_getElem hl fun i h1 h2 => ?_
    have a := hx xs[i] (List.getElem_mem _)
    have b := hy ys[i] (List.getElem_mem _)
    have e2 := congrArg (fun l => l[i]?) e
    simp only [List.getElem?_map, List.getElem?_eq_getElem h1, List.getElem?_eq_getElem h2, Option.map_some, Option.some.injEq] at e2
    have e3 := congrArg UInt8.toNat e2
    simp only [UInt8.toNat_ofNat'] at e3
    omega
set_option maxRecDepth 100000 in
set_option maxHeartbeats 4000000 in
theorem equal_any (w : World) (xs ys : List Int) (hx : Bys xs) (hy : Bys ys) (sp tp : Option Addr) (cap dap : Nat) (hS : Src w sp cap xs) (hT : Src w tp dap ys) :
    Calls Tryz.prog 23 #[.slice sp xs.length cap, .slice tp ys.length dap] w fun e w' => e = .returned (.bool (decide (xs = ys))) ∧ w' = w := by
  have c1 := conv_str w xs sp cap hS
  have c2 := conv_str w ys tp dap hT
  rw [← str_eq hx hy]
  go_enter Tryz.func23, Tryz.ntmps23
  go_wp2
  go_ret
  exact ⟨rfl, rfl⟩
set_option maxRecDepth 100000 in
set_option maxHeartbeats 4000000 in
theorem highest_any (w : World) (b1 c1 b2 c2 : Nat) (X Y : Nat → List Int) (hX : ∀ i, i < 257 → Bys (X i)) (hY : ∀ i, i < 257 → Bys (Y i)) (hc1 : (c1 : Int) ≤ 9223372036854775807) (hc2 : (c2 : Int) ≤ 9223372036854775807)
    (h1 : ∀ i, i < 257 → ∃ s cc, w.cell? ⟨b1, i, none⟩ = some (.slice s (X i).length cc) ∧ Src w s cc (X i) ∧ (s = none → cc = 0)) (h2 : ∀ i, i < 257 → ∃ s cc, w.cell? ⟨b2, i, none⟩ = some (.slice s (Y i).length cc) ∧ Src w s cc (Y i) ∧ (s = none → cc = 0))
    (H : Nat) (hH : H ≤ 256) (hne : X H ≠ Y H) (heq : ∀ j, H < j → j ≤ 256 → X j = Y j) :
    Calls Tryz.prog 24 #[.slice (some ⟨b1, 0, none⟩) 257 c1, .slice (some ⟨b2, 0, none⟩) 257 c2] w fun e w' => ∃ s1 d1 s2 d2, e = .returned (.tuple #[.slice s1 (X H).length d1, .slice s2 (Y H).length d2, .bool true]) ∧ Src w' s1 d1 (X H) ∧ Src w' s2 d2 (Y H) ∧ Below w.heap.size w w' := by
  go_enter Tryz.func24, Tryz.ntmps24
  go_wp2_with fail
  go_loopw [7] (fun iv wr => ∃ j : Nat, H ≤ j ∧ j ≤ 256 ∧ iv = .int .i64 j ∧ Below w.heap.size w wr) (fun iv _ => (intOf iv).toNat)
  case atStart => exact ⟨256, hH, by omega, rfl, Below.refl _ _⟩
  case round =>
    obtain ⟨j, hj0, hj, rfl, hB⟩ := hrel
    have i1 : (j : Int) < 257 := by omega
    have i0 : (0 : Int) ≤ (j : Int) := by omega
    obtain ⟨s1, d1, e1, S1, n1⟩ := h1 j (by omega)
    obtain ⟨s2, d2, e2, S2, n2⟩ := h2 j (by omega)
    have hl1 : b1 < w.heap.size := lt_of_cell e1
    have hl2 : b2 < w.heap.size := lt_of_cell e2
    have KE := hid (fun w1 (a : Below w.heap.size w w1) => equal_any w1 (X j) (Y j) (hX j (by omega)) (hY j (by omega)) s1 s2 d1 d2 (S1.below a (Nat.le_refl _)) (S2.below a (Nat.le_refl _)))
    by_cases hq : X j = Y j
    · have hne2 : H ≠ j := fun e => by subst e; exact hne hq
      rw [decide_eq_true hq] at KE
      have jp : 1 ≤ j := by omega
      generalize (X j).length = L1 at *
      generalize (Y j).length = L2 at *
      clear hq
      go_wp2_with fail
      refine wp_region_noPanic ?_
      refine wp_region_held_drew (S := (fun w' => Below w.heap.size w w')) (by kernel_rfl) hB.drew (fun hHeld => ?_)
      refine wpAnyH_take (i := 0) (oi := { dst := some 12, op := Op.move (Operand.tmp 0), type := 70, pos := "path.go:74", after := #[], guard := none }) (v := .slice (some ⟨b1, 0, none⟩) 257 c1) rfl (by kernel_rfl) (by kernel_rfl) (by kernel_rfl) (fun _ _ _ h => h) (Or.inl ⟨by rfl, by intro w hS; go_simp⟩) hHeld ?_
      try simp only [Act.put, List.setIfInBounds_toArray, List.set_cons_zero, List.set_cons_succ]
      refine wpAnyH_take (i := 1) (oi := { dst := some 13, op := Op.move (Operand.tmp 7), type := 3, pos := "path.go:74", after := #[], guard := none }) (v := .int .i64 j) rfl (by kernel_rfl) (by kernel_rfl) (by kernel_rfl) (fun _ _ _ h => h) (Or.inl ⟨by rfl, by intro w hS; go_simp⟩) hHeld ?_
      try simp only [Act.put, List.setIfInBounds_toArray, List.set_cons_zero, List.set_cons_succ]
      refine wpAnyH_take (i := 4) (oi := { dst := some 16, op := Op.move (Operand.tmp 1), type := 70, pos := "path.go:74", after := #[], guard := none }) (v := .slice (some ⟨b2, 0, none⟩) 257 c2) rfl (by kernel_rfl) (by kernel_rfl) (by kernel_rfl) (fun _ _ _ h => h) (Or.inl ⟨by rfl, by intro w hS; go_simp⟩) hHeld ?_
      try simp only [Act.put, List.setIfInBounds_toArray, List.set_cons_zero, List.set_cons_succ]
      refine wpAnyH_take (i := 5) (oi := { dst := some 17, op := Op.move (Operand.tmp 7), type := 3, pos := "path.go:74", after := #[], guard := none }) (v := .int .i64 j) rfl (by kernel_rfl) (by kernel_rfl) (by kernel_rfl) (fun _ _ _ h => h) (Or.inl ⟨by rfl, by intro w hS; go_simp⟩) hHeld ?_
      try simp only [Act.put, List.setIfInBounds_toArray, List.set_cons_zero, List.set_cons_succ]
      refine wpAnyH_take (i := 2) (oi := { dst := some 14, op := Op.indexAddr 70 (Operand.tmp 12) (Operand.tmp 13), type := 0, pos := "path.go:74", after := #[{ on := 0, ground := Ground.data }, { on := 1, ground := Ground.data }], guard := none }) (v := .pointer (some ⟨b1, j, none⟩)) rfl (by kernel_rfl) (by kernel_rfl) (by kernel_rfl) (fun _ _ _ h => h) (Or.inl ⟨by rfl, by intro w hS; go_simp⟩) hHeld ?_
      try simp only [Act.put, List.setIfInBounds_toArray, List.set_cons_zero, List.set_cons_succ]
      refine wpAnyH_take (i := 6) (oi := { dst := some 18, op := Op.indexAddr 70 (Operand.tmp 16) (Operand.tmp 17), type := 0, pos := "path.go:74", after := #[{ on := 4, ground := Ground.data }, { on := 5, ground := Ground.data }], guard := none }) (v := .pointer (some ⟨b2, j, none⟩)) rfl (by kernel_rfl) (by kernel_rfl) (by kernel_rfl) (fun _ _ _ h => h) (Or.inl ⟨by rfl, by intro w hS; go_simp⟩) hHeld ?_
      try simp only [Act.put, List.setIfInBounds_toArray, List.set_cons_zero, List.set_cons_succ]
      refine wpAnyH_take (i := 3) (oi := { dst := some 15, op := Op.load 30 (Operand.tmp 14), type := 30, pos := "path.go:74", after := #[{ on := 2, ground := Ground.data }], guard := none }) (v := .slice s1 L1 d1) rfl (by kernel_rfl) (by kernel_rfl) (by kernel_rfl) (fun _ _ _ h => h) (Or.inl ⟨by rfl, by intro w hS; have hc := (hS.cell (p := ⟨b1, j, none⟩) hl1).trans e1; go_simp⟩) hHeld ?_
      try simp only [Act.put, List.setIfInBounds_toArray, List.set_cons_zero, List.set_cons_succ]
      refine wpAnyH_take (i := 7) (oi := { dst := some 19, op := Op.load 30 (Operand.tmp 18), type := 30, pos := "path.go:74", after := #[{ on := 6, ground := Ground.data }], guard := none }) (v := .slice s2 L2 d2) rfl (by kernel_rfl) (by kernel_rfl) (by kernel_rfl) (fun _ _ _ h => h) (Or.inl ⟨by rfl, by intro w hS; have hc := (hS.cell (p := ⟨b2, j, none⟩) hl2).trans e2; go_simp⟩) hHeld ?_
      try simp only [Act.put, List.setIfInBounds_toArray, List.set_cons_zero, List.set_cons_succ]
      refine wpAnyH_ready (rs := [8]) (by kernel_rfl) (by simp) ?_
      refine (AllReadyH.cons (o := { dst := some 20, op := Op.call { callee := Callee.value (Operand.func 23), args := #[Operand.tmp 15, Operand.tmp 19], argTypes := #[30, 30] }, type := 4, pos := "path.go:74", after := #[{ on := 3, ground := Ground.data }, { on := 7, ground := Ground.data }], guard := none }) rfl (fun K hK => ?_) AllReadyH.nil)
      go_simp
      go_at_call 23
      refine (KE.out _ hHeld).mono ?_
      rintro e w4 ⟨rfl, rfl⟩
      go_wp2_with fail
      refine hK.out _ _ (hHeld) (fun hHeld2 => ?_)
      clear hK K hHeld
      have hHeld := hHeld2
      clear hHeld2
      try simp only [Act.put, List.setIfInBounds_toArray, List.set_cons_zero, List.set_cons_succ]
      refine wpAnyH_take (i := 9) (oi := { dst := some 21, op := Op.unOp UnOp.not 4 (Operand.tmp 20), type := 4, pos := "path.go:74", after := #[{ on := 8, ground := Ground.data }], guard := none }) (v := .bool false) rfl (by kernel_rfl) (by kernel_rfl) (by kernel_rfl) (fun _ _ _ h => h) (Or.inl ⟨by rfl, by intro w hS; go_simp⟩) hHeld ?_
      try simp only [Act.put, List.setIfInBounds_toArray, List.set_cons_zero, List.set_cons_succ]
      refine wpAnyH_done (by kernel_rfl) ?_ _
      refine NoPanic.normal ?_
      have hBB := hHeld
      clear hHeld
      go_wp2_with fail
      go_roundw
      case rel => exact ⟨j - 1, by omega, by omega, by go_num, hBB⟩
      case measure => simp [intOf]; omega
    · have hjH : j = H := by
        by_cases e : j = H
        · exact e
        · exact absurd (heq j (by omega) hj) hq
      subst hjH
      rw [decide_eq_false hq] at KE
      have HS1 := hid S1
      have HS2 := hid S2
      generalize hL1 : (X j).length = L1 at *
      generalize hL2 : (Y j).length = L2 at *
      have HL1 := hid hL1
      have HL2 := hid hL2
      clear hq hne heq h1 h2 hX hY hL1 hL2 S1 S2
      go_wp2_with fail
      refine wp_region_noPanic ?_
      refine wp_region_held_drew (S := (fun w' => Below w.heap.size w w')) (by kernel_rfl) hB.drew (fun hHeld => ?_)
      refine wpAnyH_take (i := 0) (oi := { dst := some 12, op := Op.move (Operand.tmp 0), type := 70, pos := "path.go:74", after := #[], guard := none }) (v := .slice (some ⟨b1, 0, none⟩) 257 c1) rfl (by kernel_rfl) (by kernel_rfl) (by kernel_rfl) (fun _ _ _ h => h) (Or.inl ⟨by rfl, by intro w hS; go_simp⟩) hHeld ?_
      try simp only [Act.put, List.setIfInBounds_toArray, List.set_cons_zero, List.set_cons_succ]
      refine wpAnyH_take (i := 1) (oi := { dst := some 13, op := Op.move (Operand.tmp 7), type := 3, pos := "path.go:74", after := #[], guard := none }) (v := .int .i64 j) rfl (by kernel_rfl) (by kernel_rfl) (by kernel_rfl) (fun _ _ _ h => h) (Or.inl ⟨by rfl, by intro w hS; go_simp⟩) hHeld ?_
      try simp only [Act.put, List.setIfInBounds_toArray, List.set_cons_zero, List.set_cons_succ]
      refine wpAnyH_take (i := 4) (oi := { dst := some 16, op := Op.move (Operand.tmp 1), type := 70, pos := "path.go:74", after := #[], guard := none }) (v := .slice (some ⟨b2, 0, none⟩) 257 c2) rfl (by kernel_rfl) (by kernel_rfl) (by kernel_rfl) (fun _ _ _ h => h) (Or.inl ⟨by rfl, by intro w hS; go_simp⟩) hHeld ?_
      try simp only [Act.put, List.setIfInBounds_toArray, List.set_cons_zero, List.set_cons_succ]
      refine wpAnyH_take (i := 5) (oi := { dst := some 17, op := Op.move (Operand.tmp 7), type := 3, pos := "path.go:74", after := #[], guard := none }) (v := .int .i64 j) rfl (by kernel_rfl) (by kernel_rfl) (by kernel_rfl) (fun _ _ _ h => h) (Or.inl ⟨by rfl, by intro w hS; go_simp⟩) hHeld ?_
      try simp only [Act.put, List.setIfInBounds_toArray, List.set_cons_zero, List.set_cons_succ]
      refine wpAnyH_take (i := 2) (oi := { dst := some 14, op := Op.indexAddr 70 (Operand.tmp 12) (Operand.tmp 13), type := 0, pos := "path.go:74", after := #[{ on := 0, ground := Ground.data }, { on := 1, ground := Ground.data }], guard := none }) (v := .pointer (some ⟨b1, j, none⟩)) rfl (by kernel_rfl) (by kernel_rfl) (by kernel_rfl) (fun _ _ _ h => h) (Or.inl ⟨by rfl, by intro w hS; go_simp⟩) hHeld ?_
      try simp only [Act.put, List.setIfInBounds_toArray, List.set_cons_zero, List.set_cons_succ]
      refine wpAnyH_take (i := 6) (oi := { dst := some 18, op := Op.indexAddr 70 (Operand.tmp 16) (Operand.tmp 17), type := 0, pos := "path.go:74", after := #[{ on := 4, ground := Ground.data }, { on := 5, ground := Ground.data }], guard := none }) (v := .pointer (some ⟨b2, j, none⟩)) rfl (by kernel_rfl) (by kernel_rfl) (by kernel_rfl) (fun _ _ _ h => h) (Or.inl ⟨by rfl, by intro w hS; go_simp⟩) hHeld ?_
      try simp only [Act.put, List.setIfInBounds_toArray, List.set_cons_zero, List.set_cons_succ]
      refine wpAnyH_take (i := 3) (oi := { dst := some 15, op := Op.load 30 (Operand.tmp 14), type := 30, pos := "path.go:74", after := #[{ on := 2, ground := Ground.data }], guard := none }) (v := .slice s1 L1 d1) rfl (by kernel_rfl) (by kernel_rfl) (by kernel_rfl) (fun _ _ _ h => h) (Or.inl ⟨by rfl, by intro w hS; have hc := (hS.cell (p := ⟨b1, j, none⟩) hl1).trans e1; go_simp⟩) hHeld ?_
      try simp only [Act.put, List.setIfInBounds_toArray, List.set_cons_zero, List.set_cons_succ]
      refine wpAnyH_take (i := 7) (oi := { dst := some 19, op := Op.load 30 (Operand.tmp 18), type := 30, pos := "path.go:74", after := #[{ on := 6, ground := Ground.data }], guard := none }) (v := .slice s2 L2 d2) rfl (by kernel_rfl) (by kernel_rfl) (by kernel_rfl) (fun _ _ _ h => h) (Or.inl ⟨by rfl, by intro w hS; have hc := (hS.cell (p := ⟨b2, j, none⟩) hl2).trans e2; go_simp⟩) hHeld ?_
      try simp only [Act.put, List.setIfInBounds_toArray, List.set_cons_zero, List.set_cons_succ]
      refine wpAnyH_ready (rs := [8]) (by kernel_rfl) (by simp) ?_
      refine (AllReadyH.cons (o := { dst := some 20, op := Op.call { callee := Callee.value (Operand.func 23), args := #[Operand.tmp 15, Operand.tmp 19], argTypes := #[30, 30] }, type := 4, pos := "path.go:74", after := #[{ on := 3, ground := Ground.data }, { on := 7, ground := Ground.data }], guard := none }) rfl (fun K hK => ?_) AllReadyH.nil)
      go_simp
      go_at_call 23
      refine (KE.out _ hHeld).mono ?_
      rintro e w4 ⟨rfl, rfl⟩
      go_wp2_with fail
      refine hK.out _ _ (hHeld) (fun hHeld2 => ?_)
      clear hK K hHeld
      have hHeld := hHeld2
      clear hHeld2
      try simp only [Act.put, List.setIfInBounds_toArray, List.set_cons_zero, List.set_cons_succ]
      refine wpAnyH_take (i := 9) (oi := { dst := some 21, op := Op.unOp UnOp.not 4 (Operand.tmp 20), type := 4, pos := "path.go:74", after := #[{ on := 8, ground := Ground.data }], guard := none }) (v := .bool true) rfl (by kernel_rfl) (by kernel_rfl) (by kernel_rfl) (fun _ _ _ h => h) (Or.inl ⟨by rfl, by intro w hS; go_simp⟩) hHeld ?_
      try simp only [Act.put, List.setIfInBounds_toArray, List.set_cons_zero, List.set_cons_succ]
      refine wpAnyH_done (by kernel_rfl) ?_ _
      refine NoPanic.normal ?_
      have hBB := hHeld
      clear hHeld
      go_wp2_with fail
      refine wp_region_noPanic ?_
      refine wp_region_held_drew (S := (fun w' => Below w.heap.size w w')) (by kernel_rfl) hBB.drew (fun hHeld => ?_)
      refine wpAnyH_take (i := 0) (oi := { dst := some 22, op := Op.move (Operand.tmp 0), type := 70, pos := "path.go:75", after := #[], guard := none }) (v := .slice (some ⟨b1, 0, none⟩) 257 c1) rfl (by kernel_rfl) (by kernel_rfl) (by kernel_rfl) (fun _ _ _ h => h) (Or.inl ⟨by rfl, by intro w hS; go_simp⟩) hHeld ?_
      try simp only [Act.put, List.setIfInBounds_toArray, List.set_cons_zero, List.set_cons_succ]
      refine wpAnyH_take (i := 1) (oi := { dst := some 23, op := Op.move (Operand.tmp 7), type := 3, pos := "path.go:75", after := #[], guard := none }) (v := .int .i64 j) rfl (by kernel_rfl) (by kernel_rfl) (by kernel_rfl) (fun _ _ _ h => h) (Or.inl ⟨by rfl, by intro w hS; go_simp⟩) hHeld ?_
      try simp only [Act.put, List.setIfInBounds_toArray, List.set_cons_zero, List.set_cons_succ]
      refine wpAnyH_take (i := 4) (oi := { dst := some 26, op := Op.move (Operand.tmp 1), type := 70, pos := "path.go:75", after := #[{ on := 8, ground := Ground.gcOnly Departure.lateStores }], guard := none }) (v := .slice (some ⟨b2, 0, none⟩) 257 c2) rfl (by kernel_rfl) (by kernel_rfl) (by kernel_rfl) (fun _ _ _ h => h) (Or.inl ⟨by rfl, by intro w hS; go_simp⟩) hHeld ?_
      try simp only [Act.put, List.setIfInBounds_toArray, List.set_cons_zero, List.set_cons_succ]
      refine wpAnyH_take (i := 5) (oi := { dst := some 27, op := Op.move (Operand.tmp 7), type := 3, pos := "path.go:75", after := #[{ on := 8, ground := Ground.gcOnly Departure.lateStores }], guard := none }) (v := .int .i64 j) rfl (by kernel_rfl) (by kernel_rfl) (by kernel_rfl) (fun _ _ _ h => h) (Or.inl ⟨by rfl, by intro w hS; go_simp⟩) hHeld ?_
      try simp only [Act.put, List.setIfInBounds_toArray, List.set_cons_zero, List.set_cons_succ]
      refine wpAnyH_take (i := 2) (oi := { dst := some 24, op := Op.indexAddr 70 (Operand.tmp 22) (Operand.tmp 23), type := 0, pos := "path.go:75", after := #[{ on := 0, ground := Ground.data }, { on := 1, ground := Ground.data }], guard := none }) (v := .pointer (some ⟨b1, j, none⟩)) rfl (by kernel_rfl) (by kernel_rfl) (by kernel_rfl) (fun _ _ _ h => h) (Or.inl ⟨by rfl, by intro w hS; go_simp⟩) hHeld ?_
      try simp only [Act.put, List.setIfInBounds_toArray, List.set_cons_zero, List.set_cons_succ]
      refine wpAnyH_take (i := 6) (oi := { dst := some 28, op := Op.indexAddr 70 (Operand.tmp 26) (Operand.tmp 27), type := 0, pos := "path.go:75", after := #[{ on := 4, ground := Ground.data }, { on := 5, ground := Ground.data }, { on := 8, ground := Ground.gcOnly Departure.lateStores }], guard := none }) (v := .pointer (some ⟨b2, j, none⟩)) rfl (by kernel_rfl) (by kernel_rfl) (by kernel_rfl) (fun _ _ _ h => h) (Or.inl ⟨by rfl, by intro w hS; go_simp⟩) hHeld ?_
      try simp only [Act.put, List.setIfInBounds_toArray, List.set_cons_zero, List.set_cons_succ]
      refine wpAnyH_take (i := 3) (oi := { dst := some 25, op := Op.load 30 (Operand.tmp 24), type := 30, pos := "path.go:75", after := #[{ on := 2, ground := Ground.data }], guard := none }) (v := .slice s1 L1 d1) rfl (by kernel_rfl) (by kernel_rfl) (by kernel_rfl) (fun _ _ _ h => h) (Or.inl ⟨by rfl, by intro w hS; have hc := (hS.cell (p := ⟨b1, j, none⟩) hl1).trans e1; go_simp⟩) hHeld ?_
      try simp only [Act.put, List.setIfInBounds_toArray, List.set_cons_zero, List.set_cons_succ]
      refine wpAnyH_take (i := 7) (oi := { dst := some 29, op := Op.load 30 (Operand.tmp 28), type := 30, pos := "path.go:75", after := #[{ on := 6, ground := Ground.data }, { on := 8, ground := Ground.gcOnly Departure.lateStores }], guard := none }) (v := .slice s2 L2 d2) rfl (by kernel_rfl) (by kernel_rfl) (by kernel_rfl) (fun _ _ _ h => h) (Or.inl ⟨by rfl, by intro w hS; have hc := (hS.cell (p := ⟨b2, j, none⟩) hl2).trans e2; go_simp⟩) hHeld ?_
      try simp only [Act.put, List.setIfInBounds_toArray, List.set_cons_zero, List.set_cons_succ]
      refine wpAnyH_take (i := 8) (oi := { dst := some 4, op := Op.assign (Operand.tmp 25), type := 30, pos := "path.go:75", after := #[{ on := 3, ground := Ground.data }, { on := 0, ground := Ground.phase }, { on := 1, ground := Ground.phase }, { on := 2, ground := Ground.phase }, { on := 3, ground := Ground.phase }, { on := 4, ground := Ground.textOnly Departure.lateStores }, { on := 5, ground := Ground.textOnly Departure.lateStores }, { on := 6, ground := Ground.textOnly Departure.lateStores }, { on := 7, ground := Ground.textOnly Departure.lateStores }], guard := none }) (v := .slice s1 L1 d1) rfl (by kernel_rfl) (by kernel_rfl) (by kernel_rfl) (fun _ _ _ h => h) (Or.inl ⟨by rfl, by intro w hS; go_simp⟩) hHeld ?_
      try simp only [Act.put, List.setIfInBounds_toArray, List.set_cons_zero, List.set_cons_succ]
      refine wpAnyH_take (i := 9) (oi := { dst := some 5, op := Op.assign (Operand.tmp 29), type := 30, pos := "path.go:75", after := #[{ on := 7, ground := Ground.data }, { on := 8, ground := Ground.chain }, { on := 0, ground := Ground.phase }, { on := 1, ground := Ground.phase }, { on := 2, ground := Ground.phase }, { on := 3, ground := Ground.phase }, { on := 4, ground := Ground.phase }, { on := 5, ground := Ground.phase }, { on := 6, ground := Ground.phase }, { on := 7, ground := Ground.phase }, { on := 8, ground := Ground.phase }], guard := none }) (v := .slice s2 L2 d2) rfl (by kernel_rfl) (by kernel_rfl) (by kernel_rfl) (fun _ _ _ h => h) (Or.inl ⟨by rfl, by intro w hS; go_simp⟩) hHeld ?_
      try simp only [Act.put, List.setIfInBounds_toArray, List.set_cons_zero, List.set_cons_succ]
      refine wpAnyH_take (i := 10) (oi := { dst := some 6, op := Op.assign (Operand.const (Value.bool true)), type := 4, pos := "path.go:75", after := #[{ on := 9, ground := Ground.chain }, { on := 0, ground := Ground.phase }, { on := 1, ground := Ground.phase }, { on := 2, ground := Ground.phase }, { on := 3, ground := Ground.phase }, { on := 4, ground := Ground.phase }, { on := 5, ground := Ground.phase }, { on := 6, ground := Ground.phase }, { on := 7, ground := Ground.phase }, { on := 8, ground := Ground.phase }, { on := 9, ground := Ground.phase }], guard := none }) (v := .bool true) rfl (by kernel_rfl) (by kernel_rfl) (by kernel_rfl) (fun _ _ _ h => h) (Or.inl ⟨by rfl, by intro w hS; go_simp⟩) hHeld ?_
      try simp only [Act.put, List.setIfInBounds_toArray, List.set_cons_zero, List.set_cons_succ]
      refine wpAnyH_done (by kernel_rfl) ?_ _
      refine NoPanic.normal ?_
      go_wp2_with fail
      exact bodyPost_ret (results_tmp3 Tryz.results24 _ _ _) rfl ⟨s1, d1, s2, d2, by rw [HL1.out, HL2.out]; rfl, HS1.out.below hHeld (Nat.le_refl _), HS2.out.below hHeld (Nat.le_refl _), hHeld⟩
end Go.Proofs.YtbjahdbmkcamoaaGreatDoor
