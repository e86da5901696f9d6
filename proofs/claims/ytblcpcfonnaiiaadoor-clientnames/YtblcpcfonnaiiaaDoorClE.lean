import Derived.Test.YtblcpcfonnaiiaaDoorClD
namespace Go.Proofs.YtblcpcfonnaiiaaDoor
set_option linter.unusedVariables false
set_option linter.unusedSimpArgs false
open Go.RowKit
attribute [local go_sem ↓] Go.wp_at_zero Go.wp_at_succ

theorem and_one_nat8 : ∀ n, n < 256 → bits .and .u8 ((n : Nat) : Int) 1 = ((n % 2 : Nat) : Int) := by decide +kernel
theorem and_one8 {x : Int} (h0 : 0 ≤ x) (h1 : x < 256) : bits .and .u8 x 1 = x % 2 := by
  obtain ⟨n, rfl⟩ := Int.eq_ofNat_of_zero_le h0
  rw [and_one_nat8 n (by omega)]; simp
theorem run_storeVar_c {P : Program} (w : World) (b o : Nat) (ty : TypeId) (v : Value) (cs : List Value) (t : TypeId) (hrow : w.heap[b]? = some (.cells cs.toArray t (0, 0))) (hj : o < cs.length) (hi : (P.info? ty).map (·.size) = some 1) (hv : v.cells = #[v]) (h1 : v.oneCell' = true) :
    (storeVar ty ⟨b, o, none⟩ v).run P w = .ok () (w.setRow b (cs.set o v).toArray) := by
  have := run_storeCells_cells (P := P) b o [v] 0 w (fun j hj2 => by
      have hj3 : j = 0 := by simp only [List.length_singleton] at hj2; omega
      subst hj3
      rw [cell_of_row _ _ _ _ _ _ hrow, List.getElem?_toArray, List.getElem?_eq_getElem (by omega)]; rfl) (fun j _ => frozen_of_row _ _ _ _ _ hrow)
    (fun u hu => by rw [List.mem_singleton.1 hu]; exact h1)
  have e := setCells_row (vs := [v]) (o := o) hrow (by rw [List.length_singleton]; omega) (fun u hu => by rw [List.mem_singleton.1 hu]; exact h1)
  have e2 : cs.take o ++ [v] ++ cs.drop (o + [v].length) = cs.set o v := by
    rw [List.set_eq_take_append_cons_drop, if_pos hj, List.append_assoc]; rfl
  rw [e2] at e
  cases hq : P.info? ty with
  | none => simp [hq] at hi
  | some i =>
    have hs : i.size = 1 := by simpa [hq] using hi
    simp only [Nat.add_zero] at this
    simp [storeVar, sizeOf, typeInfo, hq, hv, hs, this, e]
theorem wpList_storeC {P : Program} {ops : Array Oper} {rest : List Oper} {op : Oper} {a : Act} {w : World} {Q : Exit → Act → World → Prop} (hgd : op.guard = none) (ty : TypeId) (x y : Operand) (ho : op.op = .store ty x y)
    (b o : Nat) (v : Value) (hx : a.eval x = .pointer (some ⟨b, o, none⟩)) (hy : a.eval y = v) (cs : List Value) (t : TypeId) (hrow : w.heap[b]? = some (.cells cs.toArray t (0, 0))) (hj : o < cs.length) (hi : (P.info? ty).map (·.size) = some 1) (hv : v.cells = #[v]) (h1 : v.oneCell' = true)
    (h : wpList P ops Q rest (a.put op.dst undef) (w.setRow b (cs.set o v).toArray)) : wpList P ops Q (op :: rest) a w :=
  wpList_plain hgd fun _ hK => by
    unfold Oper.wp execOp
    simp only [ho, hx, hy, Instr.storeAt, Instr.sureAddr, Sem.run_bind, Sem.run_pure, Result.andThen_ok, run_storeVar_c w b o ty v cs t hrow hj hi hv h1]
    exact hK _ _ h
theorem wp_storeC {P : Program} {op : Oper} {a : Act} {w : World} {K : Act → World → Prop} {Q : Exit → Act → World → Prop} (ty : TypeId) (x y : Operand) (ho : op.op = .store ty x y)
    (b o : Nat) (v : Value) (hx : a.eval x = .pointer (some ⟨b, o, none⟩)) (hy : a.eval y = v) (cs : List Value) (t : TypeId) (hrow : w.heap[b]? = some (.cells cs.toArray t (0, 0))) (hj : o < cs.length) (hi : (P.info? ty).map (·.size) = some 1) (hv : v.cells = #[v]) (h1 : v.oneCell' = true)
    (h : K (a.put op.dst undef) (w.setRow b (cs.set o v).toArray)) : op.wp P a w K Q := by
  unfold Oper.wp execOp
  simp only [ho, hx, hy, Instr.storeAt, Instr.sureAddr, Sem.run_bind, Sem.run_pure, Result.andThen_ok, run_storeVar_c w b o ty v cs t hrow hj hi hv h1]
  exact h
theorem Tryd.sizeDs : (Tryd.prog.info? 39).map (·.size) = some 1 := by kernel_rfl
theorem Tryd.sizeBB : (Tryd.prog.info? 56).map (·.size) = some 1 := by kernel_rfl
theorem kept_nat (n : Nat) (h : n ≤ 32) : kept (n : Int) = n := by unfold kept; omega
theorem ownD_empty (w : World) : OwnD (w.alloc (.cells #[] 29)) w.heap.size (.slice (some ⟨w.heap.size, 0, none⟩) 0 0) [] :=
  ⟨(fun d h => by cases h), rfl, Or.inr ⟨w.heap.size, 0, #[], rfl, Nat.le_refl _, hnew w _, Nat.le_refl _, by simp [maxLen], rfl, rfl⟩⟩
/-- append(own list of digests, others...). -/
theorem wpList_appD {w : World} {ops : Array Oper} {rest : List Oper} {o : Oper} {a : Act} {Q : Exit → Act → World → Prop} (hgd : o.guard = none) (s x : Operand)
    (ho : o.op = .call { callee := .builtin .append, args := #[s, x], argTypes := #[39, 39] })
    (base : Nat) (v : Value) (ss rs : List (List Int)) (hs : a.eval s = v) (hown : OwnD w base v ss) (g c : Nat) (hx : a.eval x = .slice (some ⟨g, 0, none⟩) rs.length c) (hr : ∀ d ∈ rs, d.length = 32) (hrow : w.heap[g]? = some (.cells (ints .u8 rs.flatten).toArray 29 (0, 0)))
    (hlen : ss.length + rs.length ≤ 4398046511104) (hbase : base ≤ w.heap.size)
    (h : ∀ v' w', OwnD w' base v' (ss ++ rs) → w.grownBy w' v.ownBlock → wpList Tryd.prog ops Q rest (a.put o.dst v') w') :
    wpList Tryd.prog ops Q (o :: rest) a w := by
  obtain ⟨i5, z, hi5, hz5, hc5, hs5, hy5⟩ := infoD
  refine wpList_append_own_at _ hgd s x 39 ho base 29 i5 z 32 32 Tryd.underlying39 hi5 hz5 hs5 hy5 hc5 (by decide) v ss.length _ hs hown.2 ⟨g, 0, none⟩ rs.length c (ints .u8 rs.flatten) hx (by rw [ints_len, flat_len32 rs hr]; omega) ?_ (ints_one _ _) (by unfold maxLen; omega) (by omega) hbase ?_
  · intro j u hu
    rw [Addr.add_mid, Nat.zero_add, cell_of_row _ _ _ _ _ _ hrow]
    simpa using hu
  · intro v' w' q1 q2 _ q4
    refine h v' w' ⟨fun x hx => ?_, ?_⟩ q2
    · rcases List.mem_append.1 hx with hx | hx
      · exact hown.1 x hx
      · exact hr x hx
    · rw [List.length_append, List.flatten_append, show ints .u8 (ss.flatten ++ rs.flatten) = ints .u8 ss.flatten ++ ints .u8 rs.flatten by simp [ints]]
      exact q1
set_option maxRecDepth 100000 in
set_option maxHeartbeats 4000000 in
theorem cloneD_any (w : World) (rs : List (List Int)) (hr : ∀ d ∈ rs, d.length = 32) (g c : Nat) (hrow : w.heap[g]? = some (.cells (ints .u8 rs.flatten).toArray 29 (0, 0))) (hlen : rs.length ≤ 4398046511104) :
    Calls Tryd.prog 44 #[.slice (some ⟨g, 0, none⟩) rs.length c] w fun e w' => ∃ v, e = .returned v ∧ OwnD w' w.heap.size v rs ∧ Below w.heap.size w w' := by
  have q22 : ∀ (w : World) (a : Option Addr) (n c n' c' : Nat), (binOp .eql 39 (.slice a n c) (.slice none n' c')).run Tryd.prog w = .ok (.bool a.isNone) w := fun w a n c n' c' => Lib.run_eql_slice_nil w _ _ a n c n' c' Tryd.underlying39
  have hE := ownD_empty w
  have hr1 := hold (o := .cells #[] 29) hrow
  have hb : ∀ w1 : World, (Instr.buildSlice 39 0 #[]).run Tryd.prog w1 = .ok (.slice (some ⟨w1.heap.size, 0, none⟩) 0 0) (w1.alloc (.cells #[] 29)) := fun w1 => by kernel_rfl
  have HR := hid hrow
  clear hrow
  go_enter Tryd.func44, Tryd.ntmps44
  go_wp2_with (first | (at_builtin; refine wpList_appD rfl (.tmp 5) (.tmp 6) rfl w.heap.size _ [] rs rfl hE g c rfl hr hr1 (by simpa using hlen) (by simp) ?_; intro v2 w2 hO2 hg2))
  go_ret
  exact ⟨_, rfl, hO2, ((Below.refl _ w).alloc (Nat.le_refl _) _).trans (grown_keeps hg2 (fun k e => (hE.block k e).1) (by simp))⟩
theorem take_mid (A vs : List Value) (o N : Nat) (h1 : o + vs.length ≤ N) (h2 : N ≤ A.length) : (A.take o ++ vs ++ A.drop (o + vs.length)).take N = (A.take N).take o ++ vs ++ (A.take N).drop (o + vs.length) := by
  have e1 : (A.take o).length = o := by rw [List.length_take]; omega
  rw [List.take_append, List.take_of_length_le (by rw [List.length_append, e1]; omega), List.length_append, e1, List.take_take, Nat.min_eq_left (by omega), List.drop_take, List.append_assoc]
/-- One digest of an own list written. -/
theorem OwnD.store {w : World} {base g n cap : Nat} {D : List (List Int)} (h : OwnD w base (.slice (some ⟨g, 0, none⟩) n cap) D) (j : Nat) (hj : j < D.length) (d : List Int) (hd : d.length = 32) :
    w.there g (j * 32) 32 ∧ OwnD (w.setCells g (j * 32) (ints .u8 d)) base (.slice (some ⟨g, 0, none⟩) n cap) (D.set j d) ∧ Keeps g w (w.setCells g (j * 32) (ints .u8 d)) ∧ base ≤ g := by
  obtain ⟨h0, h1, ⟨hv, _⟩ | ⟨g', cap', cur, hv, hg, hh, hc, hm, hs, ht⟩⟩ := h
  · cases hv
  · simp only [Value.slice.injEq, Option.some.injEq, Addr.mk.injEq] at hv
    obtain ⟨⟨rfl, -, -⟩, rfl, rfl⟩ := hv
    have hl := flat_len' h0
    have hcl : cur.toList.length = cap * 32 := by rw [Array.length_toList, hs]
    have hh' : w.heap[g]? = some (.cells cur.toList.toArray 29 (0, 0)) := by rw [hh]
    have hdl : (ints .u8 d).length = 32 := by rw [ints_len, hd]
    have e := setCells_row (vs := ints .u8 d) hh' (o := j * 32) (by rw [hdl, hcl]; omega) (ints_one _ _)
    refine ⟨fun i hi => ⟨by rw [cell_of_row _ _ _ _ _ _ hh', List.getElem?_toArray, List.getElem?_eq_getElem (by omega)]; rfl, frozen_of_row _ _ _ _ _ hh'⟩, ?_, by rw [e]; exact (Keeps.refl g w).setRow _, hg⟩
    rw [e]
    refine ⟨fun x hx => ?_, by rw [← flat_set D j d h0 hj hd]; simp only [List.length_append, List.length_take, List.length_drop, hl, hdl, List.length_set]; omega, Or.inr ⟨g, cap, (cur.toList.take (j * 32) ++ ints .u8 d ++ cur.toList.drop (j * 32 + (ints .u8 d).length)).toArray, by rw [List.length_set], hg, setRow_heap _ _ _ _ _ _ hh', by rw [List.length_set]; exact hc, hm, ?_, ?_⟩⟩
    · rcases List.mem_or_eq_of_mem_set hx with h3 | rfl
      · exact h0 x h3
      · exact hd
    · rw [List.size_toArray]; simp only [List.length_append, List.length_take, List.length_drop, hcl, hdl]; omega
    · rw [List.toList_toArray, List.length_set, take_mid _ _ _ _ (by rw [hdl]; omega) (by rw [hcl]; omega), ht, hdl, flat_set D j d h0 hj hd]
/-- A list of digests without its first. -/
theorem slD (w : World) (sp : Option Addr) (n cap : Nat) (hc : n + 1 ≤ cap) : (Instr.slice 39 (.slice sp (n + 1) cap) (some (.int .i64 1)) none none).run Tryd.prog w = .ok (.slice (if cap = 1 then sp else sp.map (·.add 32)) n (cap - 1)) w := by
  have hz : (sizeOf (Tryd.prog.elem 39)).run Tryd.prog w = .ok 32 w := by kernel_rfl
  rw [run_slice_l w 39 _ _ _ (by kernel_rfl) .i64 1 (by omega) (by omega), hz]
  rfl
theorem SrcD.tail {w : World} {sp : Option Addr} {cap : Nat} {d : List Int} {ss : List (List Int)} (h : SrcD w sp cap (d :: ss)) : SrcD w (if cap = 1 then sp else sp.map (·.add 32)) (cap - 1) ss := by
  obtain ⟨h1, h2, h0, b, o, h3, h4, h5⟩ := h
  rw [List.length_cons] at h1 h3 h4 h5
  refine ⟨by omega, by omega, fun x hx => h0 x (.tail _ hx), b, o + 32, fun hl => h3 (by omega), fun hl => ?_, fun j hj => ?_⟩
  · rw [if_neg (by omega), h4 (by omega)]; rfl
  · have := h5 (j + 1) (by omega)
    rwa [List.getD_cons_succ, show o + (j + 1) * 32 = o + 32 + j * 32 by omega] at this
/-! The neighbours, as far as they are known. -/
def besH (k : Int) (p : Pf) (h : Nat) : List (List Int) := (List.range 256).map fun j => if j < h then nbr k p j else emptyD k j
def nears (k : Int) (p : Pf) : List (List Int) := (List.range 256).map (nbr k p)
theorem besH_len (k : Int) (p : Pf) (h : Nat) : (besH k p h).length = 256 := by simp [besH]
theorem besH_zero (k : Int) (p : Pf) : besH k p 0 = emps k 256 := by
  unfold besH emps
  exact List.map_congr_left fun j _ => if_neg (Nat.not_lt_zero j)
theorem besH_full (k : Int) (p : Pf) : besH k p 256 = nears k p := by
  unfold besH nears
  exact List.map_congr_left fun j hj => if_pos (List.mem_range.1 hj)
theorem besH_set (k : Int) (p : Pf) (h : Nat) (hh : h < 256) : (besH k p h).set h (nbr k p h) = besH k p (h + 1) := by
  refine List.ext_getElem (by simp [besH]) fun i h1 h2 => ?_
  rw [List.getElem_set]
  simp only [besH, List.getElem_map, List.getElem_range]
  split
  · rename_i e; subst e; rw [if_pos (by omega)]
  · by_cases hi : i < h
    · rw [if_pos hi, if_pos (by omega)]
    · rw [if_neg hi, if_neg (by omega)]
theorem besH_same (k : Int) (p : Pf) (h : Nat) (hb : bitB p.bs h = 0) : besH k p (h + 1) = besH k p h := by
  unfold besH
  refine List.map_congr_left fun j _ => ?_
  by_cases e : j = h
  · subst e
    rw [if_pos (by omega), if_neg (by omega)]
    unfold nbr
    rw [if_neg (by omega)]
  · by_cases hj : j < h
    · rw [if_pos hj, if_pos (by omega)]
    · rw [if_neg hj, if_neg (by omega)]
theorem digE_s0 {k : Int} {p : Pf} {h : Nat} (h0 : digE k p h = 0) (hb : bitB p.bs h = 0) : digE k p (h + 1) = 0 := by
  simp only [digE]; rw [if_pos h0, if_neg (by omega)]
theorem digE_s1 {k : Int} {p : Pf} {h : Nat} (h0 : digE k p h = 0) (hb : bitB p.bs h = 1) (hf : fitB (kept k) (p.ss.getD (lft p.bs h) []) = false) : digE k p (h + 1) = 120 := by
  simp only [digE]; rw [if_pos h0, if_pos hb, if_neg (by rw [hf]; decide)]
theorem digE_s2 {k : Int} {p : Pf} {h : Nat} (h0 : digE k p h = 0) (hb : bitB p.bs h = 1) (hf : fitB (kept k) (p.ss.getD (lft p.bs h) []) = true) (he : p.ss.getD (lft p.bs h) [] = emptyD k h) : digE k p (h + 1) = 130 := by
  simp only [digE]; rw [if_pos h0, if_pos hb, if_pos hf, if_pos he]
theorem digE_s3 {k : Int} {p : Pf} {h : Nat} (h0 : digE k p h = 0) (hb : bitB p.bs h = 1) (hf : fitB (kept k) (p.ss.getD (lft p.bs h) []) = true) (he : p.ss.getD (lft p.bs h) [] ≠ emptyD k h) : digE k p (h + 1) = 0 := by
  simp only [digE]; rw [if_pos h0, if_pos hb, if_pos hf, if_neg he]
theorem digE_end {k : Int} {p : Pf} {h : Nat} {e : Int} (hh : h < 256) (he : e ≠ 0) (h1 : digE k p (h + 1) = e) : digE k p 256 = e := by
  have := digE_stays k p e he (256 - (h + 1)) (h + 1) h1
  rwa [show h + 1 + (256 - (h + 1)) = 256 by omega] at this
theorem lft_s0 {bs : List Int} {h : Nat} (hb : bitB bs h = 0) : lft bs (h + 1) = lft bs h := by show lft bs h + (bitB bs h).toNat = _; rw [hb]; rfl
theorem lft_s1 {bs : List Int} {h : Nat} (hb : bitB bs h = 1) : lft bs (h + 1) = lft bs h + 1 := by show lft bs h + (bitB bs h).toNat = _; rw [hb]; rfl
theorem shr8_bd {x : Int} (h0 : 0 ≤ x) (h1 : x < 256) (p : Nat) : 0 ≤ x / 2 ^ p ∧ x / 2 ^ p < 256 := by
  have hp : (0 : Int) < 2 ^ p := Int.pow_pos (by decide)
  refine ⟨Int.ediv_nonneg h0 (by omega), Int.lt_of_le_of_lt (Int.ediv_le_self _ h0) h1⟩
theorem rng_keeps {w w1 : World} {g b o : Nat} {cs : List Value} (h : w.rangeAt b o cs) (hk : Keeps g w w1) (hb : b < w.heap.size) (hne : b ≠ g) : w1.rangeAt b o cs := fun j v hv => by
  rw [World.cell?_of_block (w := w) (hk.block b hb hne)]; exact h j v hv
/-- A slice of digests that does not lie in block g. -/
def SrcX (g : Nat) (w : World) (sp : Option Addr) (cap : Nat) (ss : List (List Int)) : Prop := SrcD w sp cap ss ∧ ∀ b o, sp = some ⟨b, o, none⟩ → 0 < ss.length → b ≠ g
theorem SrcX.tail {g : Nat} {w : World} {sp : Option Addr} {cap : Nat} {d : List Int} {ss : List (List Int)} (h : SrcX g w sp cap (d :: ss)) : SrcX g w (if cap = 1 then sp else sp.map (·.add 32)) (cap - 1) ss := by
  refine ⟨h.1.tail, fun b o e hl => ?_⟩
  obtain ⟨h1, h2, h0, b', o', h3, h4, h5⟩ := h.1
  rw [List.length_cons] at h1 h4
  have e2 := h4 (by omega)
  rw [if_neg (by omega), e2] at e
  have e3 : (some (⟨b', o' + 32, none⟩ : Addr)) = some ⟨b, o, none⟩ := e
  simp only [Option.some.injEq, Addr.mk.injEq] at e3
  obtain ⟨rfl, -, -⟩ := e3
  exact h.2 _ _ e2 (by simp)
theorem SrcX.keeps {g : Nat} {w w1 : World} {sp : Option Addr} {cap : Nat} {ss : List (List Int)} (h : SrcX g w sp cap ss) (hk : Keeps g w w1) : SrcX g w1 sp cap ss := by
  refine ⟨?_, h.2⟩
  obtain ⟨h1, h2, h0, b, o, h3, h4, h5⟩ := h.1
  exact ⟨h1, h2, h0, b, o, fun hl => Nat.lt_of_lt_of_le (h3 hl) hk.size, h4, fun j hj => rng_keeps (h5 j hj) hk (h3 (by omega)) (h.2 b o (h4 (by omega)) (by omega))⟩
theorem SrcX.first {g : Nat} {w : World} {sp : Option Addr} {cap : Nat} {d : List Int} {ss : List (List Int)} (h : SrcX g w sp cap (d :: ss)) : ∃ b o, sp = some ⟨b, o, none⟩ ∧ b < w.heap.size ∧ b ≠ g ∧ w.rangeAt b o (ints .u8 d) := by
  obtain ⟨b, o, e, hb, hr⟩ := h.1.at (by simp)
  have := hr 0 (by simp)
  rw [Nat.zero_mul, Nat.add_zero] at this
  exact ⟨b, o, e, hb, h.2 b o e (by simp), this⟩
theorem ss_cut (ss : List (List Int)) (l : Nat) (h : l < ss.length) : ss.drop l = ss.getD l [] :: ss.drop (l + 1) := by
  rw [List.drop_eq_getElem_cons h, List.getD_eq_getElem?_getD, List.getElem?_eq_getElem h]; rfl
end Go.Proofs.YtblcpcfonnaiiaaDoor
