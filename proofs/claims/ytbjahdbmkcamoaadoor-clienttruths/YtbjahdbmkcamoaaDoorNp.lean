import Derived.Test.YtbjahdbmkcamoaaDoorClK
import Derived.Laws.BytesArg
namespace Go.Proofs.YtbjahdbmkcamoaaDoor
set_option linter.unusedVariables false
set_option linter.unusedSimpArgs false
open Go.RowKit
attribute [local go_sem ↓] Go.wp_at_zero Go.wp_at_succ

def OwnK (w : World) (base : Nat) (v : Value) (vs : List Value) : Prop := w.ownsRow base 31 1 v vs.length vs
theorem OwnK.nil (w : World) (base : Nat) : OwnK w base (.slice none 0 0) [] := ⟨rfl, Or.inl ⟨rfl, rfl⟩⟩
theorem OwnK.heap {w : World} {base : Nat} {v : Value} {vs : List Value} (h : OwnK w base v vs) : ∀ k, v.ownBlock = some k → base ≤ k ∧ k < w.heap.size ∧ ∃ cs, w.heap[k]? = some (.cells cs 31 (0, 0)) := by
  intro k hk
  rcases h.2 with ⟨rfl, _⟩ | ⟨g, cap, cur, rfl, hg, hh, _⟩
  · simp [Value.ownBlock] at hk
  · simp [Value.ownBlock] at hk; subst hk; exact ⟨hg, hlt hh, cur, hh⟩
theorem OwnK.of_heap {w w1 : World} {base : Nat} {v : Value} {vs : List Value} (h : OwnK w base v vs) (hk : ∀ k, v.ownBlock = some k → w1.heap[k]? = w.heap[k]?) : OwnK w1 base v vs := by
  refine ⟨h.1, ?_⟩
  rcases h.2 with h2 | ⟨g, cap, cur, rfl, hg, hh, r⟩
  · exact Or.inl h2
  · exact Or.inr ⟨g, cap, cur, rfl, hg, (hk g rfl).trans hh, r⟩
/-- Where the elements lie. -/
theorem OwnK.at {w : World} {base : Nat} {v : Value} {vs : List Value} (h : OwnK w base v vs) : ∃ sp cap b, v = .slice sp vs.length cap ∧ vs.length ≤ cap ∧ cap ≤ maxLen ∧ (0 < vs.length → sp = some ⟨b, 0, none⟩) ∧ ∀ j, j < vs.length → w.cell? ⟨b, j, none⟩ = some (vs.getD j undef) := by
  obtain ⟨h1, ⟨rfl, hn⟩ | ⟨g, cap, cur, rfl, hg, hh, hc, hm, hs, ht⟩⟩ := h
  · exact ⟨none, 0, 0, by rw [hn], by omega, by simp [maxLen], fun h => by omega, fun j hj => by omega⟩
  · refine ⟨some ⟨g, 0, none⟩, cap, g, rfl, hc, hm, fun _ => rfl, fun j hj => ?_⟩
    rw [cell_of_row _ _ _ _ _ _ hh]
    have e : vs[j]? = cur.toList[j]? := by
      rw [← ht, List.getElem?_take, if_pos (by omega)]
    rw [List.getD_eq_getElem?_getD, e]
    have hj2 : j < cur.toList.length := by simp; omega
    rw [List.getElem?_eq_getElem hj2]
    simp
theorem Tryd.infoKm : (Tryd.prog.info? 31).map (fun i => (i.zero, i.size, i.bytes)) = some (some (.slice none 0 0), 1, 24) := by kernel_rfl
theorem Tryd.infoK : ∃ i, Tryd.prog.info? 31 = some i ∧ i.zero = some (.slice none 0 0) ∧ i.size = 1 ∧ i.bytes = 24 := by
  have h := Tryd.infoKm
  cases hq : Tryd.prog.info? 31 with
  | none => rw [hq] at h; cases h
  | some i =>
    rw [hq] at h
    simp only [Option.map_some, Option.some.injEq, Prod.mk.injEq] at h
    exact ⟨i, rfl, h.1, h.2.1, h.2.2⟩
theorem step_pushKp {w : World} {ops : Array Oper} {o : Oper} {a : Act} {K : Act → World → Prop} {Q : Exit → Act → World → Prop} {E : Prop} (hgd : o.guard = none) (s x : Operand)
    (ho : o.op = .call { callee := .builtin .append, args := #[s, x], argTypes := #[128, 128] })
    (base : Nat) (v : Value) (vs : List Value) (y : Value) (hs : a.eval s = v) (hown : OwnK w base v vs) (b : Nat) (hbl : w.cell? ⟨b, 0, none⟩ = some y) (hx : a.eval x = .slice (some ⟨b, 0, none⟩) 1 1) (h1 : y.oneCell' = true)
    (hlen : vs.length + 1 ≤ 1000000000000) (hbase : base ≤ w.heap.size)
    (h : ∀ v' w', OwnK w' base v' (vs ++ [y]) → Below base w w' → (∀ k, k < w.heap.size → v.ownBlock ≠ some k → w'.heap[k]? = w.heap[k]?) → (v'.ownBlock = v.ownBlock ∨ ∃ k, v'.ownBlock = some k ∧ w.heap.size ≤ k) → K (a.put o.dst v') w') :
    if Region.wanted o (yielded ops a.tmps) = true then Oper.wp Tryd.prog o a w K Q else E := by
  have hw : Region.wanted o (yielded ops a.tmps) = true := by simp [Region.wanted, hgd]
  rw [if_pos hw]
  obtain ⟨i5, hi5, hz5, hs5, hy5⟩ := Tryd.infoK
  obtain ⟨v', w', hr, q1, q2, _, q4⟩ := run_append_own_at (P := Tryd.prog) w base 128 o.type 31 i5 (.slice none 0 0) 1 24 Tryd.underlying128 hi5 hz5 hs5 hy5 rfl Nat.one_pos v vs.length vs hown ⟨b, 0, none⟩ 1 1 [y] (by simp) (by
    intro j u hu
    have hj : j = 0 := by have := (List.getElem?_eq_some_iff.1 hu).1; simpa using this
    subst hj
    rw [Addr.add_mid, hbl]; simpa using hu) (by simpa using h1) (by unfold maxLen; omega) (by omega) hbase
  unfold Oper.wp execOp
  simp only [ho, resolve, invoke, builtin, Sem.run_bind, Sem.run_pure, Result.andThen_ok, List.map_toArray, List.map_cons, List.map_nil, hs, hx, hr]
  refine h v' w' (by unfold OwnK; rw [List.length_append]; exact q1) (grown_keeps q2 (fun k hk => (hown.heap k hk).1) hbase) (fun k hk hne => q2.block k hk (fun e => hne e.symm)) ?_
  rcases q4 with e | e
  · exact Or.inl e
  · exact Or.inr ⟨_, e, Nat.le_refl _⟩
theorem sideT_eq (k : Int) (ks : List Int) (h : Nat) (d n : List Int) : branchT (kept k) (sideL ks h d n) (sideR ks h d n) = sideT k ks h d n := by
  unfold sideT sideL sideR; split <;> rfl
def bl (v : Value) : List Nat := v.ownBlock.toList
theorem mem_bl {v : Value} {k : Nat} : k ∈ bl v ↔ v.ownBlock = some k := by unfold bl; rw [Option.mem_toList]
theorem Own.bl_lt {w : World} {base : Nat} {v : Value} {zs : List Int} (h : Own w base v zs) {k : Nat} (hk : k ∈ bl v) : base ≤ k ∧ k < w.heap.size := h.block k (mem_bl.1 hk)
/-- What the function of texts knows: the check, the list of the texts so far. -/
structure ITx (w0 : World) (pb tb cb : Nat) (TX : Nat → List Int) (j : Nat) (v : Value) (vs : List Value) (F : List Nat) (w : World) : Prop where
  eF : F = pb :: tb :: (bl v ++ vs.flatMap bl)
  ne : pb ≠ tb
  p0 : w0.heap.size ≤ pb
  t0 : w0.heap.size ≤ tb
  pp : w.heap[pb]? = some (.cells #[.pointer (some ⟨cb, 0, none⟩)] 58 (0, 0))
  tt : w.heap[tb]? = some (.cells #[v] 128 (0, 0))
  own : OwnK w w0.heap.size v vs
  len : vs.length = 1 + min j 256
  txt : ∀ i, i < vs.length → Own w w0.heap.size (vs.getD i undef) (TX i)
theorem mem_flat {vs : List Value} {k : Nat} (h : k ∈ vs.flatMap bl) : ∃ i, i < vs.length ∧ k ∈ bl (vs.getD i undef) := by
  obtain ⟨x, hx, hk⟩ := List.mem_flatMap.1 h
  obtain ⟨i, hi, rfl⟩ := List.mem_iff_getElem.1 hx
  exact ⟨i, hi, by rw [List.getD_eq_getElem?_getD, List.getElem?_eq_getElem hi]; exact hk⟩
theorem flat_mem {vs : List Value} {k i : Nat} (hi : i < vs.length) (hk : k ∈ bl (vs.getD i undef)) : k ∈ vs.flatMap bl := by
  rw [List.getD_eq_getElem?_getD, List.getElem?_eq_getElem hi] at hk
  exact List.mem_flatMap.2 ⟨_, List.getElem_mem hi, hk⟩
theorem ITx.bnd {w0 w : World} {pb tb cb : Nat} {TX : Nat → List Int} {j : Nat} {v : Value} {vs : List Value} {F : List Nat} (h : ITx w0 pb tb cb TX j v vs F w) : ∀ k ∈ F, w0.heap.size ≤ k ∧ k < w.heap.size := fun k hk => by
  rw [h.eF] at hk
  simp only [List.mem_cons, List.mem_append] at hk
  rcases hk with rfl | rfl | hk | hk
  · exact ⟨h.p0, hlt h.pp⟩
  · exact ⟨h.t0, hlt h.tt⟩
  · obtain ⟨h1, h2, _⟩ := h.own.heap k (mem_bl.1 hk); exact ⟨h1, h2⟩
  · obtain ⟨i, hi, hk⟩ := mem_flat hk
    exact (h.txt i hi).bl_lt hk
theorem ITx.stay {w0 w w1 : World} {pb tb cb : Nat} {TX : Nat → List Int} {j : Nat} {v : Value} {vs : List Value} {F : List Nat} (h : ITx w0 pb tb cb TX j v vs F w) (hk : ∀ k ∈ F, w1.heap[k]? = w.heap[k]?) : ITx w0 pb tb cb TX j v vs F w1 := by
  have hF := h.eF
  refine ⟨hF, h.ne, h.p0, h.t0, (hk _ (by rw [hF]; simp)).trans h.pp, (hk _ (by rw [hF]; simp)).trans h.tt, h.own.of_heap (fun k e => hk k (by rw [hF]; simp [mem_bl.2 e])), h.len, fun i hi => (h.txt i hi).of_heap (fun k e => hk k (by rw [hF]; simp only [List.mem_cons, List.mem_append]; exact Or.inr (Or.inr (Or.inr (flat_mem hi (mem_bl.2 e))))))⟩
theorem getD_snocV (L : List Value) (x : Value) (i : Nat) : (L ++ [x]).getD i undef = if i = L.length then x else L.getD i undef := by
  rw [List.getD_eq_getElem?_getD, List.getD_eq_getElem?_getD]
  by_cases h : i < L.length
  · rw [List.getElem?_append_left h, if_neg (by omega)]
  · rw [List.getElem?_append_right (by omega)]
    by_cases e : i = L.length
    · subst e; simp
    · rw [if_neg e, List.getElem?_eq_none (by simp; omega), List.getElem?_eq_none (by omega)]
/-- One text more. -/
theorem ITx.snoc {w0 w wB wC : World} {pb tb cb : Nat} {TX : Nat → List Int} {h : Nat} {v v' x : Value} {vs : List Value} {F : List Nat} (hI : ITx w0 pb tb cb TX h v vs F w) (hh : h < 256) (hw0 : w0.heap.size ≤ w.heap.size) (hB : Below w.heap.size w wB)
    (hx : Own wB w.heap.size x (TX (h + 1))) (q1 : OwnK wC w0.heap.size v' (vs ++ [x])) (q3 : ∀ k, k < wB.heap.size → v.ownBlock ≠ some k → wC.heap[k]? = wB.heap[k]?) (q4 : v'.ownBlock = v.ownBlock ∨ ∃ k, v'.ownBlock = some k ∧ w.heap.size ≤ k) (q5 : Below 0 wB wC) :
    (∃ F', ITx w0 pb tb cb TX (h + 1) v' (vs ++ [x]) F' (wC.setRow tb #[v']) ∧ FrC F w (wC.setRow tb #[v']) ∧ ∀ k ∈ F', k ∈ F ∨ w.heap.size ≤ k) ∧ wC.heap[tb]? = some (.cells #[v] 128 (0, 0)) := by
  have hvb := hI.own.heap
  have tB := hbel hB hI.tt (hlt hI.tt)
  have pB := hbel hB hI.pp (hlt hI.pp)
  have nT : v.ownBlock ≠ some tb := fun e => by obtain ⟨_, _, cs, hc⟩ := hvb tb e; exact ne_tyC hc hI.tt (by decide) rfl
  have nP : v.ownBlock ≠ some pb := fun e => by obtain ⟨_, _, cs, hc⟩ := hvb pb e; exact ne_tyC hc hI.pp (by decide) rfl
  have tC := (q3 tb (hlt tB) nT).trans tB
  have pC := (q3 pb (hlt pB) nP).trans pB
  have txC : ∀ i, i < vs.length → Own (wC.setRow tb #[v']) w0.heap.size (vs.getD i undef) (TX i) := fun i hi => (hI.txt i hi).of_heap fun k e => by
    obtain ⟨_, cur, hc⟩ := ownsRow_block (hI.txt i hi) k e
    have n1 : k ≠ tb := ne_tyC hc hI.tt (by decide)
    have n2 : v.ownBlock ≠ some k := fun e2 => by obtain ⟨_, _, cs, hc2⟩ := hvb k e2; exact ne_tyC hc hc2 (by decide) rfl
    have hkB := hbel hB hc (hlt hc)
    rw [setRow_other _ tb k _ n1, q3 k (hlt hkB) n2, hkB, hc]
  have hxC : Own (wC.setRow tb #[v']) w0.heap.size x (TX (h + 1)) := own_lower (hx.of_heap fun k e => by
    obtain ⟨hk, cur, hc⟩ := ownsRow_block hx k e
    have n1 : k ≠ tb := ne_tyC hc tB (by decide)
    have n2 : v.ownBlock ≠ some k := fun e2 => by have := (hvb k e2).2.1; omega
    rw [setRow_other _ tb k _ n1, q3 k (hlt hc) n2]) hw0
  have hlen := hI.len
  refine ⟨⟨_, ⟨rfl, hI.ne, hI.p0, hI.t0, (setRow_other _ tb pb _ hI.ne).trans pC, setRow_heap _ _ _ _ _ _ tC, q1.of_heap (fun k e => setRow_other _ tb k _ (fun e2 => by
      subst e2
      obtain ⟨_, _, cs, hc⟩ := q1.heap k e
      exact ne_tyC hc tC (by decide) rfl)), by rw [List.length_append, hlen, List.length_singleton]; omega, fun i hi => ?_⟩, ?_, fun k hk => ?_⟩, tC⟩
  · rw [getD_snocV]
    by_cases e : i = vs.length
    · subst e
      rw [if_pos rfl, hlen, show 1 + min h 256 = h + 1 by omega]
      exact hxC
    · rw [if_neg e]
      exact txC i (by simp at hi; omega)
  · have f1 : FrC F w wC := ⟨(hB.mono (Nat.zero_le _)).trans q5, fun k hk hn => by
      rw [q3 k (Nat.lt_of_lt_of_le hk hB.size) (fun e => hn (by rw [hI.eF]; simp [mem_bl.2 e])), hB.block k hk]⟩
    exact f1.setF tb (by rw [hI.eF]; simp) _
  · simp only [List.mem_cons, List.mem_append, List.flatMap_append] at hk
    rcases hk with rfl | rfl | hk | hk | hk
    · exact Or.inl (by rw [hI.eF]; simp)
    · exact Or.inl (by rw [hI.eF]; simp)
    · rcases q4 with e | ⟨k', e, hk'⟩
      · exact Or.inl (by rw [hI.eF]; simp only [List.mem_cons, List.mem_append]; exact Or.inr (Or.inr (Or.inl (mem_bl.2 (e ▸ mem_bl.1 hk)))))
      · have := mem_bl.1 hk; rw [e] at this; cases this; exact Or.inr hk'
    · exact Or.inl (by rw [hI.eF]; simp only [List.mem_cons, List.mem_append]; exact Or.inr (Or.inr (Or.inr hk)))
    · simp only [List.flatMap_cons, List.flatMap_nil, List.append_nil] at hk
      exact Or.inr (hx.bl_lt hk).1
theorem kept_nat' (n : Nat) (h : n ≤ 32) : kept (n : Int) = n := kept_nat n h
end Go.Proofs.YtbjahdbmkcamoaaDoor
namespace Go.Proofs.YtbjahdbmkcamoaaDoor
set_option linter.unusedVariables false
set_option linter.unusedSimpArgs false
open Go.RowKit
attribute [local go_sem ↓] Go.wp_at_zero Go.wp_at_succ

/-- The texts of a path. -/
def txN (n : Nat) (ks : List Int) (p : Pf) (NB : List (List Int)) : Nat → List Int
  | 0 => footT ks p.f p.vs
  | h + 1 => sideT n ks h (pth n ks (fun j => NB.getD j []) (footD n ks p.f p.vs) h) (NB.getD h [])
theorem txN_nears (n : Nat) (ks : List Int) (p : Pf) : ∀ h, h ≤ 256 → txN n ks p (nears n p) h = txtP n ks p h
  | 0, _ => rfl
  | h + 1, hh => by
    show sideT n ks h (pth n ks (fun j => (nears n p).getD j []) (footD n ks p.f p.vs) h) ((nears n p).getD h []) = sideT n ks h (pth n ks (nbr n p) (footD n ks p.f p.vs) h) (nbr n p h)
    rw [pth_nears _ _ _ _ _ (by omega), nears_get _ _ _ (by omega)]
theorem allocBB (a : Act) (o : Oper) (w : World) (ho : o.op = .alloc 128) : (execOp a.eval o).run Tryd.prog w = .ok (.value (.pointer (some ⟨w.heap.size, 0, none⟩))) (w.alloc (.cells [Value.slice none 0 0].toArray 128)) := by
  unfold execOp
  rw [ho]
  kernel_rfl
/-- A list of 257 texts that a call made. -/
def TxL (w : World) (base : Nat) (v : Value) (TX : Nat → List Int) : Prop := ∃ vs, OwnK w base v vs ∧ vs.length = 257 ∧ ∀ i, i < 257 → Own w base (vs.getD i undef) (TX i)
theorem TxL.below {w w1 : World} {base : Nat} {v : Value} {TX : Nat → List Int} (h : TxL w base v TX) (hb : Below w.heap.size w w1) : TxL w1 base v TX := by
  obtain ⟨vs, h1, h2, h3⟩ := h
  exact ⟨vs, h1.of_heap (fun k e => hb.block k (h1.heap k e).2.1), h2, fun i hi => (h3 i hi).below hb (Nat.le_refl _)⟩
theorem TxL.form {w : World} {base : Nat} {v : Value} {TX : Nat → List Int} (h : TxL w base v TX) : ∃ b c, v = .slice (some ⟨b, 0, none⟩) 257 c ∧ (c : Int) ≤ 9223372036854775807 ∧ ∀ i, i < 257 → ∃ s cc, w.cell? ⟨b, i, none⟩ = some (.slice s (TX i).length cc) ∧ Src w s cc (TX i) ∧ (s = none → cc = 0) := by
  obtain ⟨vs, h1, h2, h3⟩ := h
  obtain ⟨sp, cap, b, e, hc, hm, hs, hcell⟩ := h1.at
  rw [h2] at e hs hcell
  have := hs (by omega)
  subst this
  refine ⟨b, cap, e, by unfold maxLen at hm; omega, fun i hi => ?_⟩
  obtain ⟨s, cc, e2, hS, hn⟩ := (h3 i hi).form
  exact ⟨s, cc, by rw [hcell i hi, e2], hS, hn⟩
theorem results_tmp3 {fn : Func} {t u v : Tmp} (h : fn.results = #[.tmp t, .tmp u, .tmp v]) (tmps : Array Value) (P : Program) (w : World) :
    (results fn tmps).run P w = .ok (.tuple #[tmps.getD t undef, tmps.getD u undef, tmps.getD v undef]) w := by
  simp [results, h]
theorem lt_of_cell {w : World} {b o : Nat} {v : Value} (h : w.cell? ⟨b, o, none⟩ = some v) : b < w.heap.size := by
  unfold World.cell? at h
  simp only at h
  cases hq : w.heap[b]? with
  | none => rw [hq] at h; cases h
  | some x => exact hlt hq
theorem conv_str (w : World) (zs : List Int) (sp : Option Addr) (cap : Nat) (hS : Src w sp cap zs) : (convert 31 9 (.slice sp zs.length cap)).run Tryd.prog w = .ok (.string (strOfNums zs)) w := by
  have hu : Tryd.prog.underlying 9 = some .string := by kernel_rfl
  cases sp with
  | none =>
    have hz : zs = [] := by
      obtain ⟨_, _, b, o, _, h4, _⟩ := hS
      by_cases h : 0 < zs.length
      · cases h4 h
      · exact List.eq_nil_of_length_eq_zero (by omega)
    subst hz
    exact run_convert_bytes_nil w 31 5 Tryd.underlying31 Tryd.underlying5 _ _ 9 hu
  | some a =>
    obtain ⟨_, _, b, o, h3, h4, h5⟩ := hS
    by_cases h : 0 < zs.length
    · have e := h4 h
      simp only [Option.some.injEq] at e
      subst e
      exact run_convert_bytes_arg w 31 5 Tryd.underlying31 Tryd.underlying5 b o _ cap zs rfl (fun i hi => h5 i hi) 9 hu
    · have hz : zs = [] := List.eq_nil_of_length_eq_zero (by omega)
      subst hz
      have hl : (loadCells a ([] : List Int).length).run Tryd.prog w = .ok (([] : List Int).map (Value.int .u8)).toArray w := run_loadCells_list (P := Tryd.prog) w a [] (fun j v hj => by cases hj)
      rw [run_convert_bytes_string w 31 9 5 _ _ cap Tryd.underlying31 Tryd.underlying5 hu, run_bytesToString w _ _ cap [] hl]
      rfl
theorem str_eq {xs ys : List Int} (hx : Bys xs) (hy : Bys ys) : ((strOfNums xs).toList == (strOfNums ys).toList) = decide (xs = ys) := by
  have e1 : ∀ zs : List Int, (strOfNums zs).toList = zs.map fun n => UInt8.ofNat n.toNat := fun zs => by simp [strOfNums, ByteArray.toList_eq]
  rw [e1, e1]
  by_cases h : xs = ys
  · subst h; simp
  · rw [decide_eq_false h]
    refine beq_eq_false_iff_ne.2 fun e => h ?_
    have hl : xs.length = ys.length := by have := congrArg List.length e; simpa using this
    refine List.ext_getElem hl fun i h1 h2 => ?_
    have a := hx xs[i] (List.getElem_mem _)
    have b := hy ys[i] (List.getElem_mem _)
    have e2 := congrArg (fun l => l[i]?) e
    simp only [List.getElem?_map, List.getElem?_eq_getElem h1, List.getElem?_eq_getElem h2, Option.map_some, Option.some.injEq] at e2
    have e3 := congrArg UInt8.toNat e2
    simp only [UInt8.toNat_ofNat'] at e3
    omega
end Go.Proofs.YtbjahdbmkcamoaaDoor
