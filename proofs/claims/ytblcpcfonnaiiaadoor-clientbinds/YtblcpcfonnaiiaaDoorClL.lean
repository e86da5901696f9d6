import Derived.Test.YtblcpcfonnaiiaaDoorClK
namespace Go.Proofs.YtblcpcfonnaiiaaDoor
set_option linter.unusedVariables false
set_option linter.unusedSimpArgs false
open Go.RowKit
attribute [local go_sem ↓] Go.wp_at_zero Go.wp_at_succ

def OwnK (w : World) (base : Nat) (v : Value) (vs : List Value) : Prop := w.ownsRow base 22 1 v vs.length vs
theorem OwnK.nil (w : World) (base : Nat) : OwnK w base (.slice none 0 0) [] := ⟨rfl, Or.inl ⟨rfl, rfl⟩⟩
theorem OwnK.heap {w : World} {base : Nat} {v : Value} {vs : List Value} (h : OwnK w base v vs) : ∀ k, v.ownBlock = some k → base ≤ k ∧ k < w.heap.size ∧ ∃ cs, w.heap[k]? = some (.cells cs 22 (0, 0)) := by
  intro k hk
  rcases h.2 with ⟨rfl, _⟩ | ⟨g, cap, cur, rfl, hg, hh, _⟩
  · simp [Value.ownBlock] at hk
  · simp [Value.ownBlock] at hk; subst hk; exact ⟨hg, hlt hh, cur, hh⟩
theorem OwnK.of_heap {w w1 : World} {base : Nat} {v : Value} {vs : List Value} (h : OwnK w base v vs) (hk : ∀ k, v.ownBlock = some k → w1.heap[k]? = w.heap[k]?) : OwnK w1 base v vs := by
  refine ⟨h.1, ?_⟩
  rcases h.2 with h2 | ⟨g, cap, cur, rfl, hg, hh, r⟩
  · exact Or.inl h2
  · exact Or.inr ⟨g, cap, cur, rfl, hg, (hk g rfl).trans hh, r⟩
/-- Where the elements lie. -/
theorem OwnK.at {w : World} {base : Nat} {v : Value} {vs : List Value} (h : OwnK w base v vs) : ∃ sp cap b, v = .slice sp vs.length cap ∧ vs.length ≤ cap ∧ cap ≤ maxLen ∧ (0 < vs.length → sp = some ⟨b, 0, none⟩) ∧ ∀ j, j < vs.length → w.cell? ⟨b, j, none⟩ = some (vs.getD j undef) := by
  obtain ⟨h1, ⟨rfl, hn⟩ | ⟨g, cap, cur, rfl, hg, hh, hc, hm, hs, ht⟩⟩ := h
  · exact ⟨none, 0, 0, by rw [hn], by omega, by simp [maxLen], fun h => by omega, fun j hj => by omega⟩
  · refine ⟨some ⟨g, 0, none⟩, cap, g, rfl, hc, hm, fun _ => rfl, fun j hj => ?_⟩
    rw [cell_of_row _ _ _ _ _ _ hh]
    have e : vs[j]? = cur.toList[j]? := by
      rw [← ht, List.getElem?_take, if_pos (by omega)]
    rw [List.getD_eq_getElem?_getD, e]
    have hj2 : j < cur.toList.length := by simp; omega
    rw [List.getElem?_eq_getElem hj2]
    simp
theorem Tryd.infoKm : (Tryd.prog.info? 22).map (fun i => (i.zero, i.size, i.bytes)) = some (some (.slice none 0 0), 1, 24) := by kernel_rfl
theorem Tryd.infoK : ∃ i, Tryd.prog.info? 22 = some i ∧ i.zero = some (.slice none 0 0) ∧ i.size = 1 ∧ i.bytes = 24 := by
  have h := Tryd.infoKm
  cases hq : Tryd.prog.info? 22 with
  | none => rw [hq] at h; cases h
  | some i =>
    rw [hq] at h
    simp only [Option.map_some, Option.some.injEq, Prod.mk.injEq] at h
    exact ⟨i, rfl, h.1, h.2.1, h.2.2⟩
theorem step_pushKp {w : World} {ops : Array Oper} {o : Oper} {a : Act} {K : Act → World → Prop} {Q : Exit → Act → World → Prop} {E : Prop} (hgd : o.guard = none) (s x : Operand)
    (ho : o.op = .call { callee := .builtin .append, args := #[s, x], argTypes := #[56, 56] })
    (base : Nat) (v : Value) (vs : List Value) (y : Value) (hs : a.eval s = v) (hown : OwnK w base v vs) (b : Nat) (hbl : w.cell? ⟨b, 0, none⟩ = some y) (hx : a.eval x = .slice (some ⟨b, 0, none⟩) 1 1) (h1 : y.oneCell' = true)
    (hlen : vs.length + 1 ≤ 1000000000000) (hbase : base ≤ w.heap.size)
    (h : ∀ v' w', OwnK w' base v' (vs ++ [y]) → Below base w w' → (∀ k, k < w.heap.size → v.ownBlock ≠ some k → w'.heap[k]? = w.heap[k]?) → (v'.ownBlock = v.ownBlock ∨ ∃ k, v'.ownBlock = some k ∧ w.heap.size ≤ k) → K (a.put o.dst v') w') :
    if Region.wanted o (yielded ops a.tmps) = true then Oper.wp Tryd.prog o a w K Q else E := by
  have hw : Region.wanted o (yielded ops a.tmps) = true := by simp [Region.wanted, hgd]
  rw [if_pos hw]
  obtain ⟨i5, hi5, hz5, hs5, hy5⟩ := Tryd.infoK
  obtain ⟨v', w', hr, q1, q2, _, q4⟩ := run_append_own_at (P := Tryd.prog) w base 56 o.type 22 i5 (.slice none 0 0) 1 24 Tryd.underlying56 hi5 hz5 hs5 hy5 rfl Nat.one_pos v vs.length vs hown ⟨b, 0, none⟩ 1 1 [y] (by simp) (by
    intro j u hu
    have hj : j = 0 := by have := (List.getElem?_eq_some_iff.1 hu).1; simpa using this
    subst hj
    rw [Addr.add_mid, hbl]; simpa using hu) (by simpa using h1) (by unfold maxLen; omega) (by omega) hbase
  unfold Oper.wp execOp
  simp only [ho, resolve, invoke, builtin, Sem.run_bind, Sem.run_pure, Result.andThen_ok, List.map_toArray, List.map_cons, List.map_nil, hs, hx, hr]
  refine h v' w' (by unfold OwnK; rw [List.length_append]; exact q1) (grown_keeps q2 (fun k hk => (hown.heap k hk).1) hbase) (fun k hk hne => q2.block k hk (fun e => hne e.symm)) ?_
  rcases q4 with e | e
  · exact Or.inl e
  · exact Or.inr ⟨_, e, Nat.le_refl _⟩
theorem sideT_eq (k : Int) (ks : List Int) (h : Nat) (d n : List Int) : branchT (kept k) (sideL ks h d n) (sideR ks h d n) = sideT k ks h d n := by
  unfold sideT sideL sideR; split <;> rfl
def bl (v : Value) : List Nat := v.ownBlock.toList
theorem mem_bl {v : Value} {k : Nat} : k ∈ bl v ↔ v.ownBlock = some k := by unfold bl; rw [Option.mem_toList]
theorem Own.bl_lt {w : World} {base : Nat} {v : Value} {zs : List Int} (h : Own w base v zs) {k : Nat} (hk : k ∈ bl v) : base ≤ k ∧ k < w.heap.size := h.block k (mem_bl.1 hk)
/-- What the function of texts knows: the check, the list of the texts so far. -/
structure ITx (w0 : World) (pb tb cb : Nat) (TX : Nat → List Int) (j : Nat) (v : Value) (vs : List Value) (F : List Nat) (w : World) : Prop where
  eF : F = pb :: tb :: (bl v ++ vs.flatMap bl)
  ne : pb ≠ tb
  p0 : w0.heap.size ≤ pb
  t0 : w0.heap.size ≤ tb
  pp : w.heap[pb]? = some (.cells #[.pointer (some ⟨cb, 0, none⟩)] 44 (0, 0))
  tt : w.heap[tb]? = some (.cells #[v] 56 (0, 0))
  own : OwnK w w0.heap.size v vs
  len : vs.length = 1 + min j 256
  txt : ∀ i, i < vs.length → Own w w0.heap.size (vs.getD i undef) (TX i)
theorem mem_flat {vs : List Value} {k : Nat} (h : k ∈ vs.flatMap bl) : ∃ i, i < vs.length ∧ k ∈ bl (vs.getD i undef) := by
  obtain ⟨x, hx, hk⟩ := List.mem_flatMap.1 h
  obtain ⟨i, hi, rfl⟩ := List.mem_iff_getElem.1 hx
  exact ⟨i, hi, by rw [List.getD_eq_getElem?_getD, List.getElem?_eq_getElem hi]; exact hk⟩
theorem flat_mem {vs : List Value} {k i : Nat} (hi : i < vs.length) (hk : k ∈ bl (vs.getD i undef)) : k ∈ vs.flatMap bl := by
  rw [List.getD_eq_getElem?_getD, List.getElem?_eq_getElem hi] at hk
  exact List.mem_flatMap.2 ⟨_, List.getElem_mem hi, hk⟩
theorem ITx.bnd {w0 w : World} {pb tb cb : Nat} {TX : Nat → List Int} {j : Nat} {v : Value} {vs : List Value} {F : List Nat} (h : ITx w0 pb tb cb TX j v vs F w) : ∀ k ∈ F, w0.heap.size ≤ k ∧ k < w.heap.size := fun k hk => by
  rw [h.eF] at hk
  simp only [List.mem_cons, List.mem_append] at hk
  rcases hk with rfl | rfl | hk | hk
  · exact ⟨h.p0, hlt h.pp⟩
  · exact ⟨h.t0, hlt h.tt⟩
  · obtain ⟨h1, h2, _⟩ := h.own.heap k (mem_bl.1 hk); exact ⟨h1, h2⟩
  · obtain ⟨i, hi, hk⟩ := mem_flat hk
    exact (h.txt i hi).bl_lt hk
theorem ITx.stay {w0 w w1 : World} {pb tb cb : Nat} {TX : Nat → List Int} {j : Nat} {v : Value} {vs : List Value} {F : List Nat} (h : ITx w0 pb tb cb TX j v vs F w) (hk : ∀ k ∈ F, w1.heap[k]? = w.heap[k]?) : ITx w0 pb tb cb TX j v vs F w1 := by
  have hF := h.eF
  refine ⟨hF, h.ne, h.p0, h.t0, (hk _ (by rw [hF]; simp)).trans h.pp, (hk _ (by rw [hF]; simp)).trans h.tt, h.own.of_heap (fun k e => hk k (by rw [hF]; simp [mem_bl.2 e])), h.len, fun i hi => (h.txt i hi).of_heap (fun k e => hk k (by rw [hF]; simp only [List.mem_cons, List.mem_append]; exact Or.inr (Or.inr (Or.inr (flat_mem hi (mem_bl.2 e))))))⟩
theorem getD_snocV (L : List Value) (x : Value) (i : Nat) : (L ++ [x]).getD i undef = if i = L.length then x else L.getD i undef := by
  rw [List.getD_eq_getElem?_getD, List.getD_eq_getElem?_getD]
  by_cases h : i < L.length
  · rw [List.getElem?_append_left h, if_neg (by omega)]
  · rw [List.getElem?_append_right (by omega)]
    by_cases e : i = L.length
    · subst e; simp
    · rw [if_neg e, List.getElem?_eq_none (by simp; omega), List.getElem?_eq_none (by omega)]
/-- One text more. -/
theorem ITx.snoc {w0 w wB wC : World} {pb tb cb : Nat} {TX : Nat → List Int} {h : Nat} {v v' x : Value} {vs : List Value} {F : List Nat} (hI : ITx w0 pb tb cb TX h v vs F w) (hh : h < 256) (hw0 : w0.heap.size ≤ w.heap.size) (hB : Below w.heap.size w wB)
    (hx : Own wB w.heap.size x (TX (h + 1))) (q1 : OwnK wC w0.heap.size v' (vs ++ [x])) (q3 : ∀ k, k < wB.heap.size → v.ownBlock ≠ some k → wC.heap[k]? = wB.heap[k]?) (q4 : v'.ownBlock = v.ownBlock ∨ ∃ k, v'.ownBlock = some k ∧ w.heap.size ≤ k) (q5 : Below 0 wB wC) :
    (∃ F', ITx w0 pb tb cb TX (h + 1) v' (vs ++ [x]) F' (wC.setRow tb #[v']) ∧ FrC F w (wC.setRow tb #[v']) ∧ ∀ k ∈ F', k ∈ F ∨ w.heap.size ≤ k) ∧ wC.heap[tb]? = some (.cells #[v] 56 (0, 0)) := by
  have hvb := hI.own.heap
  have tB := hbel hB hI.tt (hlt hI.tt)
  have pB := hbel hB hI.pp (hlt hI.pp)
  have nT : v.ownBlock ≠ some tb := fun e => by obtain ⟨_, _, cs, hc⟩ := hvb tb e; exact ne_tyC hc hI.tt (by decide) rfl
  have nP : v.ownBlock ≠ some pb := fun e => by obtain ⟨_, _, cs, hc⟩ := hvb pb e; exact ne_tyC hc hI.pp (by decide) rfl
  have tC := (q3 tb (hlt tB) nT).trans tB
  have pC := (q3 pb (hlt pB) nP).trans pB
  have txC : ∀ i, i < vs.length → Own (wC.setRow tb #[v']) w0.heap.size (vs.getD i undef) (TX i) := fun i hi => (hI.txt i hi).of_heap fun k e => by
    obtain ⟨_, cur, hc⟩ := ownsRow_block (hI.txt i hi) k e
    have n1 : k ≠ tb := ne_tyC hc hI.tt (by decide)
    have n2 : v.ownBlock ≠ some k := fun e2 => by obtain ⟨_, _, cs, hc2⟩ := hvb k e2; exact ne_tyC hc hc2 (by decide) rfl
    have hkB := hbel hB hc (hlt hc)
    rw [setRow_other _ tb k _ n1, q3 k (hlt hkB) n2, hkB, hc]
  have hxC : Own (wC.setRow tb #[v']) w0.heap.size x (TX (h + 1)) := own_lower (hx.of_heap fun k e => by
    obtain ⟨hk, cur, hc⟩ := ownsRow_block hx k e
    have n1 : k ≠ tb := ne_tyC hc tB (by decide)
    have n2 : v.ownBlock ≠ some k := fun e2 => by have := (hvb k e2).2.1; omega
    rw [setRow_other _ tb k _ n1, q3 k (hlt hc) n2]) hw0
  have hlen := hI.len
  refine ⟨⟨_, ⟨rfl, hI.ne, hI.p0, hI.t0, (setRow_other _ tb pb _ hI.ne).trans pC, setRow_heap _ _ _ _ _ _ tC, q1.of_heap (fun k e => setRow_other _ tb k _ (fun e2 => by
      subst e2
      obtain ⟨_, _, cs, hc⟩ := q1.heap k e
      exact ne_tyC hc tC (by decide) rfl)), by rw [List.length_append, hlen, List.length_singleton]; omega, fun i hi => ?_⟩, ?_, fun k hk => ?_⟩, tC⟩
  · rw [getD_snocV]
    by_cases e : i = vs.length
    · subst e
      rw [if_pos rfl, hlen, show 1 + min h 256 = h + 1 by omega]
      exact hxC
    · rw [if_neg e]
      exact txC i (by simp at hi; omega)
  · have f1 : FrC F w wC := ⟨(hB.mono (Nat.zero_le _)).trans q5, fun k hk hn => by
      rw [q3 k (Nat.lt_of_lt_of_le hk hB.size) (fun e => hn (by rw [hI.eF]; simp [mem_bl.2 e])), hB.block k hk]⟩
    exact f1.setF tb (by rw [hI.eF]; simp) _
  · simp only [List.mem_cons, List.mem_append, List.flatMap_append] at hk
    rcases hk with rfl | rfl | hk | hk | hk
    · exact Or.inl (by rw [hI.eF]; simp)
    · exact Or.inl (by rw [hI.eF]; simp)
    · rcases q4 with e | ⟨k', e, hk'⟩
      · exact Or.inl (by rw [hI.eF]; simp only [List.mem_cons, List.mem_append]; exact Or.inr (Or.inr (Or.inl (mem_bl.2 (e ▸ mem_bl.1 hk)))))
      · have := mem_bl.1 hk; rw [e] at this; cases this; exact Or.inr hk'
    · exact Or.inl (by rw [hI.eF]; simp only [List.mem_cons, List.mem_append]; exact Or.inr (Or.inr (Or.inr hk)))
    · simp only [List.flatMap_cons, List.flatMap_nil, List.append_nil] at hk
      exact Or.inr (hx.bl_lt hk).1
theorem ent_texts1 : ∀ (args : Array Value) (w : World), (callFunc 34 args).run Tryd.prog w = .ok (.enter 34 args) w := enters_of Tryd.func34 (by kernel_rfl) rfl
theorem kept_nat' (n : Nat) (h : n ≤ 32) : kept (n : Int) = n := kept_nat n h
set_option maxRecDepth 100000 in
set_option maxHeartbeats 4000000 in
theorem footText_any (w : World) (cb : Nat) (P : CkP) (n : Nat) (root ks : List Int) (p : Pf) (NB : List (List Int)) (h : CkV w cb P n root ks p NB) :
    Calls Tryd.prog 31 #[.pointer (some ⟨cb, 0, none⟩)] w fun en w' => ∃ v, en = .returned v ∧ Own w' w.heap.size v (footT ks p.f p.vs) ∧ Below w.heap.size w w' := by
  have hcb := h.cbl
  have ck := h.key
  have cf := h.f
  have cv := h.v
  have hv := h.vl
  have hk := h.hk
  have LK := hid (show (Tryd.prog.info? 31).map (·.size) = some (ints .u8 ks).length by rw [Tryd.sizeKy, ints_len, hk])
  cases hf : p.f with
  | true =>
    rw [hf] at cf
    have KL := hid (fun w1 (hS1 : Src w1 P.s1 P.c1 p.vs) => leafText_any w1 ks p.vs hk P.s1 P.c1 hS1 h.nil (by omega))
    have HD := hid (show leafT ks p.vs = footT ks true p.vs from rfl)
    rw [HD.out] at KL
    have HV := hid h.val
    generalize footT ks true p.vs = D at *
    generalize hM : p.vs.length = m at *
    have HM := hid hM
    generalize P.s1 = s1 at *
    generalize P.c1 = c1 at *
    clear h hM hv HD hf
    go_enter Tryd.func31, Tryd.ntmps31
    go_wp2_with fail
    refine wp_region_noPanic ?_
    refine wp_region_held_drew (S := (fun w' => Below w.heap.size w w')) (by kernel_rfl) (Below.refl _ _).drew (fun hHeld => ?_)
    refine wpAnyH_take (i := 0) (oi := { dst := some 8, op := Op.move (Operand.tmp 0), type := 44, pos := "path.go:53", after := #[], guard := none }) (v := .pointer (some ⟨cb, 0, none⟩)) rfl (by kernel_rfl) (by kernel_rfl) (by kernel_rfl) (fun _ _ _ h => h) (Or.inl ⟨by rfl, by intro w hS; go_simp⟩) hHeld ?_
    try simp only [Act.put, List.setIfInBounds_toArray, List.set_cons_zero, List.set_cons_succ]
    refine wpAnyH_take (i := 4) (oi := { dst := some 12, op := Op.move (Operand.tmp 0), type := 44, pos := "path.go:53", after := #[], guard := none }) (v := .pointer (some ⟨cb, 0, none⟩)) rfl (by kernel_rfl) (by kernel_rfl) (by kernel_rfl) (fun _ _ _ h => h) (Or.inl ⟨by rfl, by intro w hS; go_simp⟩) hHeld ?_
    try simp only [Act.put, List.setIfInBounds_toArray, List.set_cons_zero, List.set_cons_succ]
    refine wpAnyH_take (i := 1) (oi := { dst := some 9, op := Op.nilCheck (Operand.tmp 8), type := 0, pos := "path.go:53", after := #[{ on := 0, ground := Ground.data }], guard := none }) (v := .pointer (some ⟨cb, 0, none⟩)) rfl (by kernel_rfl) (by kernel_rfl) (by kernel_rfl) (fun _ _ _ h => h) (Or.inl ⟨by rfl, by intro w hS; go_simp⟩) hHeld ?_
    try simp only [Act.put, List.setIfInBounds_toArray, List.set_cons_zero, List.set_cons_succ]
    refine wpAnyH_take (i := 5) (oi := { dst := some 13, op := Op.nilCheck (Operand.tmp 12), type := 0, pos := "path.go:53", after := #[{ on := 4, ground := Ground.data }], guard := none }) (v := .pointer (some ⟨cb, 0, none⟩)) rfl (by kernel_rfl) (by kernel_rfl) (by kernel_rfl) (fun _ _ _ h => h) (Or.inl ⟨by rfl, by intro w hS; go_simp⟩) hHeld ?_
    try simp only [Act.put, List.setIfInBounds_toArray, List.set_cons_zero, List.set_cons_succ]
    refine wpAnyH_take (i := 2) (oi := { dst := some 10, op := Op.fieldAddr 50 (Operand.tmp 9) 1, type := 0, pos := "path.go:53", after := #[{ on := 1, ground := Ground.data }], guard := none }) (v := .pointer (some ⟨cb, 34, none⟩)) rfl (by kernel_rfl) (by kernel_rfl) (by kernel_rfl) (fun _ _ _ h => h) (Or.inl ⟨by rfl, by intro w hS; go_simp⟩) hHeld ?_
    try simp only [Act.put, List.setIfInBounds_toArray, List.set_cons_zero, List.set_cons_succ]
    refine wpAnyH_take (i := 6) (oi := { dst := some 14, op := Op.fieldAddr 50 (Operand.tmp 13) 3, type := 0, pos := "path.go:53", after := #[{ on := 5, ground := Ground.data }], guard := none }) (v := .pointer (some ⟨cb, 67, none⟩)) rfl (by kernel_rfl) (by kernel_rfl) (by kernel_rfl) (fun _ _ _ h => h) (Or.inl ⟨by rfl, by intro w hS; go_simp⟩) hHeld ?_
    try simp only [Act.put, List.setIfInBounds_toArray, List.set_cons_zero, List.set_cons_succ]
    refine wpAnyH_take (i := 3) (oi := { dst := some 11, op := Op.load 31 (Operand.tmp 10), type := 31, pos := "path.go:53", after := #[{ on := 2, ground := Ground.data }], guard := none }) (v := .agg (ints .u8 ks).toArray) rfl (by kernel_rfl) (by kernel_rfl) (by kernel_rfl) (fun _ _ _ h => h) (yieldsIf_load_mid (by rfl) 31 _ rfl cb (34) rfl (ints .u8 ks) _ (fun w hS => rng_below ck hS hcb) Tryd.underlying31 rfl LK.out) hHeld ?_
    try simp only [Act.put, List.setIfInBounds_toArray, List.set_cons_zero, List.set_cons_succ]
    refine wpAnyH_take (i := 7) (oi := { dst := some 15, op := Op.fieldAddr 48 (Operand.tmp 14) 1, type := 0, pos := "path.go:53", after := #[{ on := 6, ground := Ground.data }], guard := none }) (v := .pointer (some ⟨cb, 68, none⟩)) rfl (by kernel_rfl) (by kernel_rfl) (by kernel_rfl) (fun _ _ _ h => h) (Or.inl ⟨by rfl, by intro w hS; go_simp⟩) hHeld ?_
    try simp only [Act.put, List.setIfInBounds_toArray, List.set_cons_zero, List.set_cons_succ]
    refine wpAnyH_take (i := 8) (oi := { dst := some 16, op := Op.load 22 (Operand.tmp 15), type := 22, pos := "path.go:53", after := #[{ on := 7, ground := Ground.data }], guard := none }) (v := .slice s1 m c1) rfl (by kernel_rfl) (by kernel_rfl) (by kernel_rfl) (fun _ _ _ h => h) (Or.inl ⟨by rfl, by intro w hS; have hc := (hS.cell (p := ⟨cb, 68, none⟩) hcb).trans cv; go_simp⟩) hHeld ?_
    try simp only [Act.put, List.setIfInBounds_toArray, List.set_cons_zero, List.set_cons_succ]
    refine wpAnyH_ready (rs := [9]) (by kernel_rfl) (by simp) ?_
    refine (AllReadyH.cons (o := { dst := some 17, op := Op.call { callee := Callee.value (Operand.func 50), args := #[Operand.tmp 11, Operand.tmp 16], argTypes := #[31, 22] }, type := 22, pos := "path.go:53", after := #[{ on := 3, ground := Ground.data }, { on := 8, ground := Ground.data }], guard := none }) rfl (fun K hK => ?_) AllReadyH.nil)
    go_simp
    go_at_call 50
    refine (KL.out _ (HV.out.below hHeld (Nat.le_refl _))).mono ?_
    rintro e w4 ⟨v4, rfl, hO4, hb4⟩
    go_wp2_with fail
    refine hK.out _ _ (hHeld.trans (hb4.mono hHeld.size)) (fun hHeld2 => ?_)
    clear hK K hHeld
    have hHeld := hHeld2
    clear hHeld2
    try simp only [Act.put, List.setIfInBounds_toArray, List.set_cons_zero, List.set_cons_succ]
    refine wpAnyH_take (i := 10) (oi := { dst := some 2, op := Op.assign (Operand.tmp 17), type := 22, pos := "path.go:53", after := #[{ on := 9, ground := Ground.data }, { on := 9, ground := Ground.chain }, { on := 0, ground := Ground.phase }, { on := 1, ground := Ground.phase }, { on := 2, ground := Ground.phase }, { on := 3, ground := Ground.phase }, { on := 4, ground := Ground.phase }, { on := 5, ground := Ground.phase }, { on := 6, ground := Ground.phase }, { on := 7, ground := Ground.phase }, { on := 8, ground := Ground.phase }, { on := 9, ground := Ground.phase }], guard := none }) (v := v4) rfl (by kernel_rfl) (by kernel_rfl) (by kernel_rfl) (fun _ _ _ h => h) (Or.inl ⟨by rfl, by intro w hS; go_simp⟩) hHeld ?_
    try simp only [Act.put, List.setIfInBounds_toArray, List.set_cons_zero, List.set_cons_succ]
    refine wpAnyH_done (by kernel_rfl) ?_ _
    refine NoPanic.normal ?_
    go_wp2_with fail
    go_ret
    exact ⟨_, rfl, hO4, hHeld⟩
  | false =>
    rw [hf] at cf
    have HD := hid (show footT ks false p.vs = [2] from rfl)
    rw [HD.out]
    have hO : Own (w.alloc (.cells #[.int .u8 2] 5)) w.heap.size (.slice (some ⟨w.heap.size, 0, none⟩) 1 1) [2] := ⟨rfl, Or.inr ⟨w.heap.size, 1, #[.int .u8 2], rfl, Nat.le_refl _, hnew w _, by simp, by simp [maxLen], rfl, rfl⟩⟩
    have hbs : ∀ w1 : World, (Instr.buildSlice 22 1 #[(0, .int .u8 2)]).run Tryd.prog w1 = .ok (.slice (some ⟨w1.heap.size, 0, none⟩) 1 1) (w1.alloc (.cells #[.int .u8 2] 5)) := fun w1 => by kernel_rfl
    clear h hv hf HD ck cv LK
    go_enter Tryd.func31, Tryd.ntmps31
    go_wp2
    go_ret
    exact ⟨_, rfl, hO, (Below.refl _ _).alloc (Nat.le_refl _) _⟩
set_option maxRecDepth 100000 in
set_option maxHeartbeats 4000000 in
theorem texts1_any (w0 w : World) (cb : Nat) (P : CkP) (n : Nat) (root ks : List Int) (p : Pf) (NB : List (List Int)) (hV : CkV w0 cb P n root ks p NB) (hB0 : Below w0.heap.size w0 w) (pb tb : Nat) (PT TX : Nat → List Int) (hP : ∀ h, (PT h).length = 32) (hT : ∀ h, h < 256 → TX (h + 1) = sideT n ks h (PT h) (NB.getD h []))
    (h : Nat) (hh : h ≤ 256) (v : Value) (vs : List Value) (F : List Nat) (hI : ITx w0 pb tb cb TX h v vs F w) :
    Calls Tryd.prog 34 #[.int .i64 (h : Nat), .agg (ints .u8 (PT h)).toArray, .pointer (some ⟨pb, 0, none⟩), .pointer (some ⟨tb, 0, none⟩)] w fun e w2 => e = .returned (.tuple #[]) ∧ ∃ v' vs' F', ITx w0 pb tb cb TX (h + 1) v' vs' F' w2 ∧ FrC F w w2 ∧ ∀ k ∈ F', k ∈ F ∨ w.heap.size ≤ k := by
  have hb1 : Below w.heap.size w (w.alloc (.cells (ints .u8 (PT h)).toArray 29)) := (Below.refl _ _).alloc (Nat.le_refl _) _
  have i2 : (h : Int) ≤ 256 := by omega
  by_cases he : h = 256
  · subst he
    have hI1 := hI.stay (fun k hk => hb1.block k (hI.bnd k hk).2)
    have hI2 : ITx w0 pb tb cb TX (256 + 1) v vs F (w.alloc (.cells (ints .u8 (PT 256)).toArray 29)) := ⟨hI1.eF, hI1.ne, hI1.p0, hI1.t0, hI1.pp, hI1.tt, hI1.own, by rw [hI1.len]; omega, hI1.txt⟩
    have HI := hid hI2
    have FR : FrC F w (w.alloc (.cells (ints .u8 (PT 256)).toArray 29)) := FrC.of_below hb1
    rw [show (((256 : Nat)) : Int) = 256 from rfl]
    clear hI hI1 hI2
    generalize PT 256 = D at *
    go_enter Tryd.func34, Tryd.ntmps34
    go_wp2
    exact bodyPost_ret (v := .tuple #[]) (results_none (by rfl) _ _ _) rfl ⟨rfl, v, vs, F, HI.out, FR, fun k q => Or.inl q⟩
  · have hlt' : h < 256 := by omega
    have i3 : ¬ ((h : Int) = 256) := by omega
    have i4 : ((h : Int) == 256) = false := by simpa using i3
    have i5 : (h : Int) < 256 := by omega
    have hTX := hT h hlt'
    have hVw := hV.below hB0
    have hnl := (hVw.nb h hlt').2.2
    have hPl := hP h
    have r1 := hnew w (.cells (ints .u8 (PT h)).toArray 29)
    have LD := hid (show (Tryd.prog.info? 29).map (·.size) = some (ints .u8 (PT h)).toArray.size by rw [Tryd.sizeD, ints_size, hPl])
    have p1 := hbel hb1 hI.pp (hlt hI.pp)
    have t1 := hbel hb1 hI.tt (hlt hI.tt)
    have cp1 : (w.alloc (.cells (ints .u8 (PT h)).toArray 29)).cell? ⟨pb, 0, none⟩ = some (.pointer (some ⟨cb, 0, none⟩)) := by rw [cell_of_row _ _ _ _ _ _ p1]; rfl
    have KS := hid (sides_any _ cb P n root ks p NB (hVw.below hb1) h hlt' (PT h) hPl)
    have AD := hid allocDg
    have HSN := hid (fun wB wC x v' a1 a2 a3 a4 a5 a6 => ITx.snoc (wB := wB) (wC := wC) (x := x) (v' := v') hI hlt' hB0.size a1 a2 a3 a4 a5 a6)
    have HOK := hid hI.own
    have hvl : vs.length + 1 ≤ 1000000000000 := by rw [hI.len]; omega
    have hvb := hid hI.own.heap
    obtain ⟨hll, hrl⟩ := side_len (ks := ks) (h := h) hPl hnl
    rw [← sideT_eq] at hTX
    generalize hSLe : sideL ks h (PT h) (NB.getD h []) = SL at *
    generalize hSRe : sideR ks h (PT h) (NB.getD h []) = SR at *
    have KB := hid (fun w1 => branchText_any w1 n SL SR hll hrl)
    rw [← hTX] at KB
    generalize TX (h + 1) = TN at *
    obtain ⟨sv, nv, cv, rfl⟩ : ∃ s n c, v = .slice s n c := by
      obtain ⟨s, c, b, e, _⟩ := hI.own.at; exact ⟨s, _, c, e⟩
    have LZ := hid (show (ints .u8 zB).toArray.size = 32 from rfl)
    have LL := hid (show (ints .u8 SL).toArray.size = 32 by rw [ints_size, hll])
    have LR := hid (show (ints .u8 SR).toArray.size = 32 by rw [ints_size, hrl])
    have LL2 := hid (show (Tryd.prog.info? 29).map (·.size) = some (ints .u8 SL).toArray.size by rw [Tryd.sizeD, LL.out])
    have LR2 := hid (show (Tryd.prog.info? 29).map (·.size) = some (ints .u8 SR).toArray.size by rw [Tryd.sizeD, LR.out])
    have LL3 := hid (show (Tryd.prog.info? 29).map (·.size) = some (ints .u8 SL).length by rw [Tryd.sizeD, ints_len, hll])
    have LR3 := hid (show (Tryd.prog.info? 29).map (·.size) = some (ints .u8 SR).length by rw [Tryd.sizeD, ints_len, hrl])
    have ht0 := hI.t0
    have hne0 := hI.ne
    have hpt : pb < w.heap.size ∧ tb < w.heap.size := ⟨hlt hI.pp, hlt hI.tt⟩
    clear hI hTX hT hSLe hSRe
    go_enter Tryd.func34, Tryd.ntmps34
    go_wp2_with (first
      | refine wpList_load_row rfl 29 _ rfl _ rfl 29 _ _ _ r1 Tryd.underlying29 rfl LD.out ?_
      | (refine KS.out.mono ?_; rintro e w3 ⟨rfl, hb3⟩; refine Hid.out ?_))
    refine hid ?_
    have hB3 : Below w.heap.size w w3 := hb1.trans (hb3.mono hb1.size)
    have p3 := hbel hb3 p1 (hlt p1)
    have t3 := hbel hb3 t1 (hlt t1)
    clear KS hb3 r1 p1 t1 cp1 hb1
    have q0 := hold (o := .cells (ints .u8 zB).toArray 29) (hnew w3 (.cells (ints .u8 zB).toArray 29))
    have q1 := hnew (w3.alloc (.cells (ints .u8 zB).toArray 29)) (.cells (ints .u8 zB).toArray 29)
    rw [show (w3.alloc (.cells (ints .u8 zB).toArray 29)).heap.size = w3.heap.size + 1 by simp] at q1
    have hb4 : Below w3.heap.size w3 ((w3.alloc (.cells (ints .u8 zB).toArray 29)).alloc (.cells (ints .u8 zB).toArray 29)) := ((Below.refl _ _).alloc (Nat.le_refl _) _).alloc (by simp) _
    have q2 := setRow_heap _ _ _ (ints .u8 SL).toArray _ _ q0
    have q3 := (setRow_other _ w3.heap.size (w3.heap.size + 1) (ints .u8 SL).toArray (by omega)).trans q1
    have hb5 := below_setRow hb4 (Nat.le_refl _) (ints .u8 SL).toArray
    have q4 := (setRow_other _ (w3.heap.size + 1) w3.heap.size (ints .u8 SR).toArray (by omega)).trans q2
    have q5 := setRow_heap _ _ _ (ints .u8 SR).toArray _ _ q3
    have hb6 := below_setRow hb5 (show w3.heap.size ≤ w3.heap.size + 1 by omega) (ints .u8 SR).toArray
    go_wp2_with (first
      | refine wpList_allocV AD.out rfl rfl ?_
      | (refine wpList_store_row rfl 29 _ _ rfl w3.heap.size (ints .u8 SL).toArray rfl rfl 29 _ q0 LL2.out (by rw [LL.out, LZ.out]) (all_oneCell_toArray (ints_one _ _)) ?_; refine Hid.out ?_))
    refine hid ?_
    refine wpList_store_row rfl 29 _ _ rfl (w3.heap.size + 1) (ints .u8 SR).toArray rfl rfl 29 _ q3 LR2.out (by rw [LR.out, LZ.out]) (all_oneCell_toArray (ints_one _ _)) ?_
    have hB7 := hB3.trans (hb6.mono hB3.size)
    have p7 := hbel hb6 p3 (hlt p3)
    have t7 := hbel hb6 t3 (hlt t3)
    have hE3 : w.heap.size ≤ w3.heap.size := hB3.size
    clear hb4 hb5 hb6 q0 q1 q2 q3 p3 t3 hB3
    generalize ((((w3.alloc (.cells (ints .u8 zB).toArray 29)).alloc (.cells (ints .u8 zB).toArray 29)).setRow w3.heap.size (ints .u8 SL).toArray).setRow (w3.heap.size + 1) (ints .u8 SR).toArray) = w7 at *
    generalize w3.heap.size = E at *
    go_wp2_with fail
    refine wp_region_noPanic ?_
    refine wp_region_held_drew (S := (fun w' => Below w0.heap.size w0 w' ∧ w'.heap[pb]? = some (.cells #[.pointer (some ⟨cb, 0, none⟩)] 44 (0, 0)) ∧ w'.heap[E]? = some (.cells (ints .u8 SL).toArray 29 (0, 0)) ∧ w'.heap[E + 1]? = some (.cells (ints .u8 SR).toArray 29 (0, 0)))) (by kernel_rfl) ⟨(hB0.trans (hB7.mono hB0.size)).drew, p7, q4, q5⟩ (fun hHeld => ?_)
    refine wpAnyH_take (i := 1) (oi := { dst := some 18, op := Op.load 44 (Operand.tmp 2), type := 44, pos := "path.go:66", after := #[], guard := none }) (v := .pointer (some ⟨cb, 0, none⟩)) rfl (by kernel_rfl) (by kernel_rfl) (by kernel_rfl) (fun _ _ _ h => h) (Or.inl ⟨by rfl, by intro w hS; have hc := cell_ck (C := [.pointer (some ⟨cb, 0, none⟩)]) (j := 0) (v := .pointer (some ⟨cb, 0, none⟩)) hS.2.1 rfl; go_simp⟩) hHeld ?_
    try simp only [Act.put, List.setIfInBounds_toArray, List.set_cons_zero, List.set_cons_succ]
    refine wpAnyH_take (i := 6) (oi := { dst := some 23, op := Op.load 29 (Operand.tmp 6), type := 29, pos := "path.go:66", after := #[], guard := none }) (v := .agg (ints .u8 SL).toArray) rfl (by kernel_rfl) (by kernel_rfl) (by kernel_rfl) (fun _ _ _ h => h) (yieldsIf_load_mid (by rfl) 29 _ rfl E (0) rfl (ints .u8 SL) _ (fun w hS => rng hS.2.2.1) Tryd.underlying29 rfl LL3.out) hHeld ?_
    try simp only [Act.put, List.setIfInBounds_toArray, List.set_cons_zero, List.set_cons_succ]
    refine wpAnyH_take (i := 7) (oi := { dst := some 24, op := Op.load 29 (Operand.tmp 7), type := 29, pos := "path.go:66", after := #[], guard := none }) (v := .agg (ints .u8 SR).toArray) rfl (by kernel_rfl) (by kernel_rfl) (by kernel_rfl) (fun _ _ _ h => h) (yieldsIf_load_mid (by rfl) 29 _ rfl (E + 1) (0) rfl (ints .u8 SR) _ (fun w hS => rng hS.2.2.2) Tryd.underlying29 rfl LR3.out) hHeld ?_
    try simp only [Act.put, List.setIfInBounds_toArray, List.set_cons_zero, List.set_cons_succ]
    refine wpAnyH_take (i := 2) (oi := { dst := some 19, op := Op.nilCheck (Operand.tmp 18), type := 0, pos := "path.go:66", after := #[{ on := 1, ground := Ground.data }], guard := none }) (v := .pointer (some ⟨cb, 0, none⟩)) rfl (by kernel_rfl) (by kernel_rfl) (by kernel_rfl) (fun _ _ _ h => h) (Or.inl ⟨by rfl, by intro w hS; go_simp⟩) hHeld ?_
    try simp only [Act.put, List.setIfInBounds_toArray, List.set_cons_zero, List.set_cons_succ]
    refine wpAnyH_take (i := 3) (oi := { dst := some 20, op := Op.fieldAddr 50 (Operand.tmp 19) 0, type := 0, pos := "path.go:66", after := #[{ on := 2, ground := Ground.data }], guard := none }) (v := .pointer (some ⟨cb, 0, none⟩)) rfl (by kernel_rfl) (by kernel_rfl) (by kernel_rfl) (fun _ _ _ h => h) (Or.inl ⟨by rfl, by intro w hS; go_simp⟩) hHeld ?_
    try simp only [Act.put, List.setIfInBounds_toArray, List.set_cons_zero, List.set_cons_succ]
    refine wpAnyH_take (i := 4) (oi := { dst := some 21, op := Op.fieldAddr 41 (Operand.tmp 20) 0, type := 0, pos := "path.go:66", after := #[{ on := 3, ground := Ground.data }], guard := none }) (v := .pointer (some ⟨cb, 0, none⟩)) rfl (by kernel_rfl) (by kernel_rfl) (by kernel_rfl) (fun _ _ _ h => h) (Or.inl ⟨by rfl, by intro w hS; go_simp⟩) hHeld ?_
    try simp only [Act.put, List.setIfInBounds_toArray, List.set_cons_zero, List.set_cons_succ]
    refine wpAnyH_take (i := 5) (oi := { dst := some 22, op := Op.load 3 (Operand.tmp 21), type := 3, pos := "path.go:66", after := #[{ on := 4, ground := Ground.data }], guard := none }) (v := .int .i64 n) rfl (by kernel_rfl) (by kernel_rfl) (by kernel_rfl) (fun _ _ _ h => h) (Or.inl ⟨by rfl, by intro w hS; have hc := (hV.below hS.1).c0; go_simp⟩) hHeld ?_
    try simp only [Act.put, List.setIfInBounds_toArray, List.set_cons_zero, List.set_cons_succ]
    refine wpAnyH_ready (rs := [0, 8]) (by kernel_rfl) (by simp) ?_
    refine (AllReadyH.cons (o := { dst := some 17, op := Op.load 56 (Operand.tmp 3), type := 56, pos := "path.go:66", after := #[], guard := none }) rfl (fun K hK => ?_) (AllReadyH.cons (o := { dst := some 25, op := Op.call { callee := Callee.value (Operand.func 36), args := #[Operand.tmp 22, Operand.tmp 23, Operand.tmp 24], argTypes := #[3, 29, 29] }, type := 22, pos := "path.go:66", after := #[{ on := 5, ground := Ground.data }, { on := 6, ground := Ground.data }, { on := 7, ground := Ground.data }], guard := none }) rfl (fun K hK => ?_) AllReadyH.nil))
    · skip
      have cT := show World.cell? _ ⟨tb, 0, none⟩ = some (.slice sv nv cv) by rw [cell_of_row _ _ _ _ _ _ (show w7.drew.heap[tb]? = _ from t7)]; rfl
      go_simp
      refine hK.out _ _ (hHeld) (fun hHeld2 => ?_)
      clear hK K hHeld
      have hHeld := hHeld2
      clear hHeld2
      clear cT
      try simp only [Act.put, List.setIfInBounds_toArray, List.set_cons_zero, List.set_cons_succ]
      refine wpAnyH_ready (rs := [8]) (by kernel_rfl) (by simp) ?_
      refine (AllReadyH.cons (o := { dst := some 25, op := Op.call { callee := Callee.value (Operand.func 36), args := #[Operand.tmp 22, Operand.tmp 23, Operand.tmp 24], argTypes := #[3, 29, 29] }, type := 22, pos := "path.go:66", after := #[{ on := 5, ground := Ground.data }, { on := 6, ground := Ground.data }, { on := 7, ground := Ground.data }], guard := none }) rfl (fun K hK => ?_) AllReadyH.nil)
      go_simp
      go_at_call 36
      refine (KB.out _).mono ?_
      rintro e w8 ⟨v8, rfl, hO8, hb8⟩
      obtain ⟨s8, c8, rfl, hS8, hn8⟩ := hO8.form
      have t8 := hbel hb8 (show w7.drew.heap[tb]? = _ from t7) (hlt t7)
      go_wp2_with fail
      refine hK.out _ _ (⟨hHeld.1.trans (hb8.mono hHeld.1.size), hbel hb8 hHeld.2.1 (hlt hHeld.2.1), hbel hb8 hHeld.2.2.1 (hlt hHeld.2.2.1), hbel hb8 hHeld.2.2.2 (hlt hHeld.2.2.2)⟩) (fun hHeld2 => ?_)
      clear hK K hHeld
      have hHeld := hHeld2
      clear hHeld2
      try simp only [Act.put, List.setIfInBounds_toArray, List.set_cons_zero, List.set_cons_succ]
      refine wpAnyH_ready (rs := [9]) (by kernel_rfl) (by simp) ?_
      refine (AllReadyH.cons (o := { dst := some 26, op := Op.buildSlice 56 1 #[(0, Operand.tmp 25)], type := 56, pos := "path.go:66", after := #[{ on := 8, ground := Ground.data }], guard := none }) rfl (fun K hK => ?_) AllReadyH.nil)
      go_simp
      refine hK.out _ _ (⟨hHeld.1.alloc hHeld.1.size _, hold hHeld.2.1, hold hHeld.2.2.1, hold hHeld.2.2.2⟩) (fun hHeld2 => ?_)
      clear hK K hHeld
      have hHeld := hHeld2
      clear hHeld2
      have hb9 : Below w8.heap.size w8 (w8.alloc (.cells #[.slice s8 TN.length c8] 22)) := (Below.refl _ _).alloc (Nat.le_refl _) _
      have cN : (w8.alloc (.cells #[.slice s8 TN.length c8] 22)).cell? ⟨w8.heap.size, 0, none⟩ = some (.slice s8 TN.length c8) := by rw [cell_of_row _ _ _ _ _ _ (hnew w8 _)]; rfl
      try simp only [Act.put, List.setIfInBounds_toArray, List.set_cons_zero, List.set_cons_succ]
      refine wpAnyH_ready (rs := [10]) (by kernel_rfl) (by simp) ?_
      refine (AllReadyH.cons (o := { dst := some 27, op := Op.call { callee := Callee.builtin Builtin.append, args := #[Operand.tmp 17, Operand.tmp 26], argTypes := #[56, 56] }, type := 56, pos := "path.go:66", after := #[{ on := 0, ground := Ground.data }, { on := 9, ground := Ground.data }, { on := 8, ground := Ground.chain }], guard := none }) rfl (fun K hK => ?_) AllReadyH.nil)
      have hBx := hB7.drew.trans (hb8.mono hB7.size)
      have hBy := hBx.trans (hb9.mono hBx.size)
      have oK := HOK.out.of_heap (fun k e => hBy.block k (hvb.out k e).2.1)
      refine step_pushKp rfl (.tmp 17) (.tmp 26) rfl w0.heap.size (.slice sv nv cv) vs (.slice s8 TN.length c8) rfl oK w8.heap.size cN rfl rfl hvl (Nat.le_trans hB0.size hBy.size) ?_
      intro v' wC z1 z2 z3 z4
      obtain ⟨zz, tC⟩ := HSN.out _ wC _ _ hBy (own_lower (hO8.below hb9 (Nat.le_refl _)) hB7.size) z1 z3 (z4.imp id (fun ⟨k, e1, e2⟩ => ⟨k, e1, Nat.le_trans hBy.size e2⟩)) (z2.mono (Nat.zero_le _))
      refine hK.out _ _ (⟨hHeld.1.trans z2, (z3 pb (hlt hHeld.2.1) (fun e => by obtain ⟨_, _, cs, hc⟩ := oK.heap pb e; exact ne_tyC hc hHeld.2.1 (by decide) rfl)).trans hHeld.2.1, (z3 E (hlt hHeld.2.2.1) (fun e => by have := (hvb.out E e).2.1; omega)).trans hHeld.2.2.1, (z3 (E + 1) (hlt hHeld.2.2.2) (fun e => by have := (hvb.out (E + 1) e).2.1; omega)).trans hHeld.2.2.2⟩) (fun hHeld2 => ?_)
      clear hK K hHeld
      have hHeld := hHeld2
      clear hHeld2
      try simp only [Act.put, List.setIfInBounds_toArray, List.set_cons_zero, List.set_cons_succ]
      refine wpAnyH_ready (rs := [11]) (by kernel_rfl) (by simp) ?_
      refine (AllReadyH.cons (o := { dst := none, op := Op.store 56 (Operand.tmp 3) (Operand.tmp 27), type := 0, pos := "path.go:66", after := #[{ on := 10, ground := Ground.data }, { on := 10, ground := Ground.chain }, { on := 0, ground := Ground.phase }, { on := 1, ground := Ground.phase }, { on := 2, ground := Ground.phase }, { on := 3, ground := Ground.phase }, { on := 4, ground := Ground.phase }, { on := 5, ground := Ground.phase }, { on := 6, ground := Ground.phase }, { on := 7, ground := Ground.phase }, { on := 8, ground := Ground.phase }, { on := 9, ground := Ground.phase }, { on := 10, ground := Ground.phase }], guard := none }) rfl (fun K hK => ?_) AllReadyH.nil)
      obtain ⟨sq, nq, cq, rfl⟩ : ∃ s n c, v' = .slice s n c := by obtain ⟨s, c, b, e, _⟩ := z1.at; exact ⟨s, _, c, e⟩
      rw [if_pos (by rfl)]
      refine wp_storeC 56 _ _ rfl tb 0 (.slice sq nq cq) rfl rfl [.slice sv nv cv] 56 tC (by simp) Tryd.sizeBB rfl rfl ?_
      refine hK.out _ _ (⟨below_setRow hHeld.1 ht0 _, (setRow_other _ _ _ _ hne0).trans hHeld.2.1, (setRow_other _ _ _ _ (by omega)).trans hHeld.2.2.1, (setRow_other _ _ _ _ (by omega)).trans hHeld.2.2.2⟩) (fun hHeld2 => ?_)
      clear hK K hHeld
      have hHeld := hHeld2
      clear hHeld2
      try simp only [Act.put, List.setIfInBounds_toArray, List.set_cons_zero, List.set_cons_succ]
      refine wpAnyH_done (by kernel_rfl) ?_ _
      refine NoPanic.normal ?_
      go_wp2_with fail
      go_end0
      obtain ⟨F9, zI, zF, zG⟩ := zz
      exact ⟨rfl, _, _, F9, zI, zF, zG⟩
    · skip
      go_simp
      go_at_call 36
      refine (KB.out _).mono ?_
      rintro e w8 ⟨v8, rfl, hO8, hb8⟩
      obtain ⟨s8, c8, rfl, hS8, hn8⟩ := hO8.form
      have t8 := hbel hb8 (show w7.drew.heap[tb]? = _ from t7) (hlt t7)
      go_wp2_with fail
      refine hK.out _ _ (⟨hHeld.1.trans (hb8.mono hHeld.1.size), hbel hb8 hHeld.2.1 (hlt hHeld.2.1), hbel hb8 hHeld.2.2.1 (hlt hHeld.2.2.1), hbel hb8 hHeld.2.2.2 (hlt hHeld.2.2.2)⟩) (fun hHeld2 => ?_)
      clear hK K hHeld
      have hHeld := hHeld2
      clear hHeld2
      try simp only [Act.put, List.setIfInBounds_toArray, List.set_cons_zero, List.set_cons_succ]
      refine wpAnyH_ready (rs := [0, 9]) (by kernel_rfl) (by simp) ?_
      refine (AllReadyH.cons (o := { dst := some 17, op := Op.load 56 (Operand.tmp 3), type := 56, pos := "path.go:66", after := #[], guard := none }) rfl (fun K hK => ?_) (AllReadyH.cons (o := { dst := some 26, op := Op.buildSlice 56 1 #[(0, Operand.tmp 25)], type := 56, pos := "path.go:66", after := #[{ on := 8, ground := Ground.data }], guard := none }) rfl (fun K hK => ?_) AllReadyH.nil))
      · skip
        have cT := show World.cell? _ ⟨tb, 0, none⟩ = some (.slice sv nv cv) by rw [cell_of_row _ _ _ _ _ _ t8]; rfl
        go_simp
        refine hK.out _ _ (hHeld) (fun hHeld2 => ?_)
        clear hK K hHeld
        have hHeld := hHeld2
        clear hHeld2
        clear cT
        try simp only [Act.put, List.setIfInBounds_toArray, List.set_cons_zero, List.set_cons_succ]
        refine wpAnyH_ready (rs := [9]) (by kernel_rfl) (by simp) ?_
        refine (AllReadyH.cons (o := { dst := some 26, op := Op.buildSlice 56 1 #[(0, Operand.tmp 25)], type := 56, pos := "path.go:66", after := #[{ on := 8, ground := Ground.data }], guard := none }) rfl (fun K hK => ?_) AllReadyH.nil)
        go_simp
        refine hK.out _ _ (⟨hHeld.1.alloc hHeld.1.size _, hold hHeld.2.1, hold hHeld.2.2.1, hold hHeld.2.2.2⟩) (fun hHeld2 => ?_)
        clear hK K hHeld
        have hHeld := hHeld2
        clear hHeld2
        have hb9 : Below w8.heap.size w8 (w8.alloc (.cells #[.slice s8 TN.length c8] 22)) := (Below.refl _ _).alloc (Nat.le_refl _) _
        have cN : (w8.alloc (.cells #[.slice s8 TN.length c8] 22)).cell? ⟨w8.heap.size, 0, none⟩ = some (.slice s8 TN.length c8) := by rw [cell_of_row _ _ _ _ _ _ (hnew w8 _)]; rfl
        try simp only [Act.put, List.setIfInBounds_toArray, List.set_cons_zero, List.set_cons_succ]
        refine wpAnyH_ready (rs := [10]) (by kernel_rfl) (by simp) ?_
        refine (AllReadyH.cons (o := { dst := some 27, op := Op.call { callee := Callee.builtin Builtin.append, args := #[Operand.tmp 17, Operand.tmp 26], argTypes := #[56, 56] }, type := 56, pos := "path.go:66", after := #[{ on := 0, ground := Ground.data }, { on := 9, ground := Ground.data }, { on := 8, ground := Ground.chain }], guard := none }) rfl (fun K hK => ?_) AllReadyH.nil)
        have hBx := hB7.drew.trans (hb8.mono hB7.size)
        have hBy := hBx.trans (hb9.mono hBx.size)
        have oK := HOK.out.of_heap (fun k e => hBy.block k (hvb.out k e).2.1)
        refine step_pushKp rfl (.tmp 17) (.tmp 26) rfl w0.heap.size (.slice sv nv cv) vs (.slice s8 TN.length c8) rfl oK w8.heap.size cN rfl rfl hvl (Nat.le_trans hB0.size hBy.size) ?_
        intro v' wC z1 z2 z3 z4
        obtain ⟨zz, tC⟩ := HSN.out _ wC _ _ hBy (own_lower (hO8.below hb9 (Nat.le_refl _)) hB7.size) z1 z3 (z4.imp id (fun ⟨k, e1, e2⟩ => ⟨k, e1, Nat.le_trans hBy.size e2⟩)) (z2.mono (Nat.zero_le _))
        refine hK.out _ _ (⟨hHeld.1.trans z2, (z3 pb (hlt hHeld.2.1) (fun e => by obtain ⟨_, _, cs, hc⟩ := oK.heap pb e; exact ne_tyC hc hHeld.2.1 (by decide) rfl)).trans hHeld.2.1, (z3 E (hlt hHeld.2.2.1) (fun e => by have := (hvb.out E e).2.1; omega)).trans hHeld.2.2.1, (z3 (E + 1) (hlt hHeld.2.2.2) (fun e => by have := (hvb.out (E + 1) e).2.1; omega)).trans hHeld.2.2.2⟩) (fun hHeld2 => ?_)
        clear hK K hHeld
        have hHeld := hHeld2
        clear hHeld2
        try simp only [Act.put, List.setIfInBounds_toArray, List.set_cons_zero, List.set_cons_succ]
        refine wpAnyH_ready (rs := [11]) (by kernel_rfl) (by simp) ?_
        refine (AllReadyH.cons (o := { dst := none, op := Op.store 56 (Operand.tmp 3) (Operand.tmp 27), type := 0, pos := "path.go:66", after := #[{ on := 10, ground := Ground.data }, { on := 10, ground := Ground.chain }, { on := 0, ground := Ground.phase }, { on := 1, ground := Ground.phase }, { on := 2, ground := Ground.phase }, { on := 3, ground := Ground.phase }, { on := 4, ground := Ground.phase }, { on := 5, ground := Ground.phase }, { on := 6, ground := Ground.phase }, { on := 7, ground := Ground.phase }, { on := 8, ground := Ground.phase }, { on := 9, ground := Ground.phase }, { on := 10, ground := Ground.phase }], guard := none }) rfl (fun K hK => ?_) AllReadyH.nil)
        obtain ⟨sq, nq, cq, rfl⟩ : ∃ s n c, v' = .slice s n c := by obtain ⟨s, c, b, e, _⟩ := z1.at; exact ⟨s, _, c, e⟩
        rw [if_pos (by rfl)]
        refine wp_storeC 56 _ _ rfl tb 0 (.slice sq nq cq) rfl rfl [.slice sv nv cv] 56 tC (by simp) Tryd.sizeBB rfl rfl ?_
        refine hK.out _ _ (⟨below_setRow hHeld.1 ht0 _, (setRow_other _ _ _ _ hne0).trans hHeld.2.1, (setRow_other _ _ _ _ (by omega)).trans hHeld.2.2.1, (setRow_other _ _ _ _ (by omega)).trans hHeld.2.2.2⟩) (fun hHeld2 => ?_)
        clear hK K hHeld
        have hHeld := hHeld2
        clear hHeld2
        try simp only [Act.put, List.setIfInBounds_toArray, List.set_cons_zero, List.set_cons_succ]
        refine wpAnyH_done (by kernel_rfl) ?_ _
        refine NoPanic.normal ?_
        go_wp2_with fail
        go_end0
        obtain ⟨F9, zI, zF, zG⟩ := zz
        exact ⟨rfl, _, _, F9, zI, zF, zG⟩
      · skip
        go_simp
        refine hK.out _ _ (⟨hHeld.1.alloc hHeld.1.size _, hold hHeld.2.1, hold hHeld.2.2.1, hold hHeld.2.2.2⟩) (fun hHeld2 => ?_)
        clear hK K hHeld
        have hHeld := hHeld2
        clear hHeld2
        have hb9 : Below w8.heap.size w8 (w8.alloc (.cells #[.slice s8 TN.length c8] 22)) := (Below.refl _ _).alloc (Nat.le_refl _) _
        have cN : (w8.alloc (.cells #[.slice s8 TN.length c8] 22)).cell? ⟨w8.heap.size, 0, none⟩ = some (.slice s8 TN.length c8) := by rw [cell_of_row _ _ _ _ _ _ (hnew w8 _)]; rfl
        try simp only [Act.put, List.setIfInBounds_toArray, List.set_cons_zero, List.set_cons_succ]
        refine wpAnyH_ready (rs := [0]) (by kernel_rfl) (by simp) ?_
        refine (AllReadyH.cons (o := { dst := some 17, op := Op.load 56 (Operand.tmp 3), type := 56, pos := "path.go:66", after := #[], guard := none }) rfl (fun K hK => ?_) AllReadyH.nil)
        have cT := show World.cell? _ ⟨tb, 0, none⟩ = some (.slice sv nv cv) by rw [cell_of_row _ _ _ _ _ _ (hold (o := .cells #[.slice s8 TN.length c8] 22) t8)]; rfl
        go_simp
        refine hK.out _ _ (hHeld) (fun hHeld2 => ?_)
        clear hK K hHeld
        have hHeld := hHeld2
        clear hHeld2
        clear cT
        try simp only [Act.put, List.setIfInBounds_toArray, List.set_cons_zero, List.set_cons_succ]
        refine wpAnyH_ready (rs := [10]) (by kernel_rfl) (by simp) ?_
        refine (AllReadyH.cons (o := { dst := some 27, op := Op.call { callee := Callee.builtin Builtin.append, args := #[Operand.tmp 17, Operand.tmp 26], argTypes := #[56, 56] }, type := 56, pos := "path.go:66", after := #[{ on := 0, ground := Ground.data }, { on := 9, ground := Ground.data }, { on := 8, ground := Ground.chain }], guard := none }) rfl (fun K hK => ?_) AllReadyH.nil)
        have hBx := hB7.drew.trans (hb8.mono hB7.size)
        have hBy := hBx.trans (hb9.mono hBx.size)
        have oK := HOK.out.of_heap (fun k e => hBy.block k (hvb.out k e).2.1)
        refine step_pushKp rfl (.tmp 17) (.tmp 26) rfl w0.heap.size (.slice sv nv cv) vs (.slice s8 TN.length c8) rfl oK w8.heap.size cN rfl rfl hvl (Nat.le_trans hB0.size hBy.size) ?_
        intro v' wC z1 z2 z3 z4
        obtain ⟨zz, tC⟩ := HSN.out _ wC _ _ hBy (own_lower (hO8.below hb9 (Nat.le_refl _)) hB7.size) z1 z3 (z4.imp id (fun ⟨k, e1, e2⟩ => ⟨k, e1, Nat.le_trans hBy.size e2⟩)) (z2.mono (Nat.zero_le _))
        refine hK.out _ _ (⟨hHeld.1.trans z2, (z3 pb (hlt hHeld.2.1) (fun e => by obtain ⟨_, _, cs, hc⟩ := oK.heap pb e; exact ne_tyC hc hHeld.2.1 (by decide) rfl)).trans hHeld.2.1, (z3 E (hlt hHeld.2.2.1) (fun e => by have := (hvb.out E e).2.1; omega)).trans hHeld.2.2.1, (z3 (E + 1) (hlt hHeld.2.2.2) (fun e => by have := (hvb.out (E + 1) e).2.1; omega)).trans hHeld.2.2.2⟩) (fun hHeld2 => ?_)
        clear hK K hHeld
        have hHeld := hHeld2
        clear hHeld2
        try simp only [Act.put, List.setIfInBounds_toArray, List.set_cons_zero, List.set_cons_succ]
        refine wpAnyH_ready (rs := [11]) (by kernel_rfl) (by simp) ?_
        refine (AllReadyH.cons (o := { dst := none, op := Op.store 56 (Operand.tmp 3) (Operand.tmp 27), type := 0, pos := "path.go:66", after := #[{ on := 10, ground := Ground.data }, { on := 10, ground := Ground.chain }, { on := 0, ground := Ground.phase }, { on := 1, ground := Ground.phase }, { on := 2, ground := Ground.phase }, { on := 3, ground := Ground.phase }, { on := 4, ground := Ground.phase }, { on := 5, ground := Ground.phase }, { on := 6, ground := Ground.phase }, { on := 7, ground := Ground.phase }, { on := 8, ground := Ground.phase }, { on := 9, ground := Ground.phase }, { on := 10, ground := Ground.phase }], guard := none }) rfl (fun K hK => ?_) AllReadyH.nil)
        obtain ⟨sq, nq, cq, rfl⟩ : ∃ s n c, v' = .slice s n c := by obtain ⟨s, c, b, e, _⟩ := z1.at; exact ⟨s, _, c, e⟩
        rw [if_pos (by rfl)]
        refine wp_storeC 56 _ _ rfl tb 0 (.slice sq nq cq) rfl rfl [.slice sv nv cv] 56 tC (by simp) Tryd.sizeBB rfl rfl ?_
        refine hK.out _ _ (⟨below_setRow hHeld.1 ht0 _, (setRow_other _ _ _ _ hne0).trans hHeld.2.1, (setRow_other _ _ _ _ (by omega)).trans hHeld.2.2.1, (setRow_other _ _ _ _ (by omega)).trans hHeld.2.2.2⟩) (fun hHeld2 => ?_)
        clear hK K hHeld
        have hHeld := hHeld2
        clear hHeld2
        try simp only [Act.put, List.setIfInBounds_toArray, List.set_cons_zero, List.set_cons_succ]
        refine wpAnyH_done (by kernel_rfl) ?_ _
        refine NoPanic.normal ?_
        go_wp2_with fail
        go_end0
        obtain ⟨F9, zI, zF, zG⟩ := zz
        exact ⟨rfl, _, _, F9, zI, zF, zG⟩
end Go.Proofs.YtblcpcfonnaiiaaDoor
