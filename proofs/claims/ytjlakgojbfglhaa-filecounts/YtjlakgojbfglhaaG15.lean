import Derived.Test.YtjlakgojbfglhaaG14
namespace Go.Proofs.Ytjlakgojbfglhaa
set_option linter.unusedVariables false
set_option linter.unusedSimpArgs false
open Go.RowKit
attribute [local go_sem ↓] Go.wp_at_zero Go.wp_at_succ

/-! The book of what was appended and published. -/
structure Bk where
  Ls : List (List Int)
  Ks : List Int
  mrk : Int
  gn : Int
  hd : Int
  im : Int
  ih : Int
def bcells (lv kv : Value) (B : Bk) : Array Value := #[lv, kv, .int .i64 B.mrk, .int .i64 B.gn, .int .i64 B.hd, .int .i64 B.im, .int .i64 B.ih]
/-- A book in memory: its blocks are all in G. -/
structure BI (w : World) (base : Nat) (G : List Nat) (gb : Nat) (lv kv : Value) (vs : List Value) (B : Bk) : Prop where
  cell : w.heap[gb]? = some (.cells (bcells lv kv B) 32 (0, 0))
  gb : gb ∈ G
  rl : w.ownsRow base 33 1 lv B.Ls.length vs
  gl : ∀ k, lv.ownBlock = some k → k ∈ G
  rk : w.ownsRow base 3 1 kv B.Ks.length (ints .i64 B.Ks)
  gk : ∀ k, kv.ownBlock = some k → k ∈ G
  len : vs.length = B.Ls.length
  own : ∀ i, i < B.Ls.length → Own w base (vs.getD i undef) (B.Ls.getD i [])
  gv : ∀ i, i < B.Ls.length → ∀ k, (vs.getD i undef).ownBlock = some k → k ∈ G
  lt : ∀ k ∈ G, base ≤ k ∧ k < w.heap.size
def BA (w : World) (base : Nat) (G : List Nat) (gb : Nat) (B : Bk) : Prop := ∃ lv kv vs, BI w base G gb lv kv vs B
theorem BI.of_heap {w w1 : World} {base : Nat} {G : List Nat} {gb : Nat} {lv kv : Value} {vs : List Value} {B : Bk} (h : BI w base G gb lv kv vs B) (hs : w.heap.size ≤ w1.heap.size) (hk : ∀ k ∈ G, w1.heap[k]? = w.heap[k]?) : BI w1 base G gb lv kv vs B :=
  ⟨(hk _ h.gb).trans h.cell, h.gb, ownsRow_heap h.rl (fun i e => hk i (h.gl i e)), h.gl, ownsRow_heap h.rk (fun i e => hk i (h.gk i e)), h.gk, h.len, fun i hi => ownsRow_heap (h.own i hi) (fun k e => hk k (h.gv i hi k e)), h.gv, fun k e => ⟨(h.lt k e).1, Nat.lt_of_lt_of_le (h.lt k e).2 hs⟩⟩
theorem BA.of_heap {w w1 : World} {base : Nat} {G : List Nat} {gb : Nat} {B : Bk} (h : BA w base G gb B) (hs : w.heap.size ≤ w1.heap.size) (hk : ∀ k ∈ G, w1.heap[k]? = w.heap[k]?) : BA w1 base G gb B := by
  obtain ⟨lv, kv, vs, h⟩ := h; exact ⟨lv, kv, vs, h.of_heap hs hk⟩
theorem BA.lt {w : World} {base : Nat} {G : List Nat} {gb : Nat} {B : Bk} (h : BA w base G gb B) : ∀ k ∈ G, base ≤ k ∧ k < w.heap.size := by
  obtain ⟨lv, kv, vs, h⟩ := h; exact h.lt
theorem BA.below {w w1 : World} {base : Nat} {G : List Nat} {gb : Nat} {B : Bk} (h : BA w base G gb B) (hb : Below w.heap.size w w1) : BA w1 base G gb B := h.of_heap hb.size fun k hk => hb.block k (h.lt k hk).2
theorem BA.other {w w1 : World} {base : Nat} {G F : List Nat} {gb : Nat} {B : Bk} (h : BA w base G gb B) (hf : Fr F w w1) (ha : Apart F G) : BA w1 base G gb B := h.of_heap hf.size fun k hk => hf.block k (h.lt k hk).2 (fun e => ha k e hk)
theorem DA.apart {w w1 : World} {base : Nat} {G F : List Nat} {p : Nat} {D : DS} (h : DA w base F p D) (hf : Fr G w w1) (ha : Apart F G) : DA w1 base F p D := h.of_heap fun k hk => hf.block k (h.lt k hk).2 (fun e => ha k hk e)
theorem cut_run (lp : Option Addr) (L m lc : Nat) (h : m ≤ lc) (hlc : lc ≤ maxLen) (hn : lp = none → lc = 0) (w : World) (t : TypeId) (ht : t = 29 ∨ t = 30) :
    (Instr.sliceAt t (.slice lp L lc) none (some (.int .i64 (m : Int))) none).run Try.prog w = .ok (.slice lp m lc) w := by
  have i1 : (m : Int) ≤ (lc : Int) := by omega
  have i2 : (lc : Int) ≤ 9223372036854775807 := by unfold maxLen at hlc; omega
  rcases ht with rfl | rfl
  all_goals
    cases lp with
    | none =>
      have e := hn rfl
      subst e
      obtain rfl : m = 0 := by omega
      go_simp
    | some a => go_simp
theorem yields_cut {ops : Array Oper} {S : World → Prop} {o : Oper} {a : Act} (hw : Region.wanted o (yielded ops a.tmps) = true) (t : TypeId) (ht : t = 29 ∨ t = 30) (x y : Operand) (ho : o.op = .slice t x none (some y) none)
    (lp : Option Addr) (L m lc : Nat) (hx : a.eval x = .slice lp L lc) (hy : a.eval y = .int .i64 (m : Int)) (h : m ≤ lc) (hlc : lc ≤ maxLen) (hn : lp = none → lc = 0) : YieldsIf Try.prog ops S o (.slice lp m lc) a :=
  .inl ⟨hw, fun w _ => by
    unfold execOp
    simp only [ho, hx, hy, Option.map_none, Option.map_some, Sem.run_bind, cut_run lp L m lc h hlc hn w t ht, Result.andThen_ok, Sem.run_pure]⟩
/-! Rows of one cell each: cut, and one more. -/
theorem ownsRow_cut {w : World} {base t n m : Nat} {lp : Option Addr} {lc : Nat} {cs : List Value} (h : w.ownsRow base t 1 (.slice lp n lc) n cs) (hm : m ≤ n) : w.ownsRow base t 1 (.slice lp m lc) m (cs.take m) := by
  obtain ⟨h1, h2⟩ := h
  refine ⟨by rw [List.length_take]; omega, ?_⟩
  rcases h2 with ⟨e, h0⟩ | ⟨g, cap, cur, e, hg, hh, hc, hmx, hs, ht⟩
  · cases e
    obtain rfl : m = 0 := by omega
    exact Or.inl ⟨rfl, rfl⟩
  · cases e
    refine Or.inr ⟨g, lc, cur, rfl, hg, hh, by omega, hmx, hs, ?_⟩
    rw [← ht, List.take_take, show min m (n * 1) = m by omega, Nat.mul_one]
theorem ownsRow_shape {w : World} {base t n : Nat} {v : Value} {cs : List Value} (h : w.ownsRow base t 1 v n cs) : ∃ lp lc, v = .slice lp n lc ∧ n ≤ lc ∧ lc ≤ maxLen ∧ (lp = none → lc = 0) := by
  rcases h.2 with ⟨rfl, rfl⟩ | ⟨g, cap, cur, rfl, hg, hh, hc, hmx, hs, ht⟩
  · exact ⟨none, 0, rfl, by omega, by simp [maxLen], fun _ => rfl⟩
  · exact ⟨_, cap, rfl, hc, hmx, fun e => by cases e⟩
theorem ownsRow_at {w : World} {base t n : Nat} {v : Value} {cs : List Value} (h : w.ownsRow base t 1 v n cs) (j : Nat) (hj : j < n) : ∃ g cap, v = .slice (some ⟨g, 0, none⟩) n cap ∧ w.cell? ⟨g, j, none⟩ = some (cs.getD j undef) ∧ v.ownBlock = some g ∧ n ≤ cap := by
  have hl := h.1
  rcases h.2 with ⟨_, h0⟩ | ⟨g, cap, cur, e, hg, hh, hc, hm, hs, ht⟩
  · omega
  · refine ⟨g, cap, e, ?_, by rw [e]; rfl, hc⟩
    rw [cell_of_row _ _ _ _ _ _ hh, List.getD_eq_getElem?_getD, List.getElem?_eq_getElem (by omega), Option.getD_some]
    have : cs[j]? = cur.toList[j]? := by rw [← ht, List.getElem?_take, if_pos (by omega)]
    rw [List.getElem?_eq_getElem (by omega)] at this
    rw [← Array.getElem?_toList, ← this]
theorem infoMB : (Try.prog.info? 33).map (fun i => (i.zero, i.size, i.bytes)) = some (some (.slice none 0 0), 1, 24) := by kernel_rfl
theorem infoB : ∃ i, Try.prog.info? 33 = some i ∧ i.zero = some (.slice none 0 0) ∧ i.size = 1 ∧ i.bytes = 24 := by
  have h := infoMB
  cases hq : Try.prog.info? 33 with
  | none => rw [hq] at h; cases h
  | some i =>
    rw [hq] at h
    simp only [Option.map_some, Option.some.injEq, Prod.mk.injEq] at h
    exact ⟨i, rfl, h.1, h.2.1, h.2.2⟩
theorem wp_pushB {w : World} {o : Oper} {a : Act} {K : Act → World → Prop} {Q : Exit → Act → World → Prop} (s x : Operand)
    (ho : o.op = .call { callee := .builtin .append, args := #[s, x], argTypes := #[29, 29] })
    (base : Nat) (v : Value) (n : Nat) (xs : List Value) (y : Value) (hs : a.eval s = v) (hown : w.ownsRow base 33 1 v n xs) (hx : a.eval x = .slice (some ⟨w.heap.size, 0, none⟩) 1 1) (h1 : y.oneCell' = true)
    (hlen : n + 1 ≤ 1000000) (hbase : base ≤ w.heap.size) (t : TypeId) (fr : Nat × Nat)
    (h : ∀ v' w', w'.ownsRow base 33 1 v' (n + 1) (xs ++ [y]) → (w.alloc (.cells #[y] t fr)).grownBy w' v.ownBlock → (v'.ownBlock = v.ownBlock ∨ v'.ownBlock = some (w.heap.size + 1)) → K (a.put o.dst v') w') :
    Oper.wp Try.prog o a (w.alloc (.cells #[y] t fr)) K Q := by
  obtain ⟨i5, hi5, hz5, hs5, hy5⟩ := infoB
  have hown' : (w.alloc (.cells #[y] t fr)).ownsRow base 33 1 v n xs := ownsRow_heap hown fun k hk => by
    obtain ⟨_, cur, hh⟩ := ownsRow_block hown k hk
    rw [hh]; exact hold hh
  obtain ⟨v', w', hr, q1, q2, _, q4⟩ := run_append_own_at (P := Try.prog) (w.alloc (.cells #[y] t fr)) base 29 o.type 33 i5 (.slice none 0 0) 1 24 Try.underlying29 hi5 hz5 hs5 hy5 rfl (by decide) v n _ hown' ⟨w.heap.size, 0, none⟩ 1 1 [y] rfl (by
    intro j u hu
    rw [Addr.add_mid, Nat.zero_add, cell_of_row _ _ _ _ _ _ (hnew w _)]
    simpa using hu) (by intro z hz; rw [List.mem_singleton.1 hz]; exact h1) (by unfold maxLen; omega) (by omega) (by simp; omega)
  unfold Oper.wp execOp
  simp only [ho, resolve, invoke, builtin, Sem.run_bind, Sem.run_pure, Result.andThen_ok, List.map_toArray, List.map_cons, List.map_nil, hs, hx, hr]
  refine h v' w' q1 q2 ?_
  rcases q4 with e | e
  · exact Or.inl e
  · exact Or.inr (by rw [e]; simp)
theorem step_pushB {w : World} {ops : Array Oper} {o : Oper} {a : Act} {K : Act → World → Prop} {Q : Exit → Act → World → Prop} {E : Prop} (hgd : o.guard = none) (s x : Operand)
    (ho : o.op = .call { callee := .builtin .append, args := #[s, x], argTypes := #[29, 29] })
    (base : Nat) (v : Value) (n : Nat) (xs : List Value) (y : Value) (hs : a.eval s = v) (hown : w.ownsRow base 33 1 v n xs) (hx : a.eval x = .slice (some ⟨w.heap.size, 0, none⟩) 1 1) (h1 : y.oneCell' = true)
    (hlen : n + 1 ≤ 1000000) (hbase : base ≤ w.heap.size) (t : TypeId) (fr : Nat × Nat)
    (h : ∀ v' w', w'.ownsRow base 33 1 v' (n + 1) (xs ++ [y]) → (w.alloc (.cells #[y] t fr)).grownBy w' v.ownBlock → (v'.ownBlock = v.ownBlock ∨ v'.ownBlock = some (w.heap.size + 1)) → K (a.put o.dst v') w') :
    if Region.wanted o (yielded ops a.tmps) = true then Oper.wp Try.prog o a (w.alloc (.cells #[y] t fr)) K Q else E := by
  have hw : Region.wanted o (yielded ops a.tmps) = true := by simp [Region.wanted, hgd]
  rw [if_pos hw]
  exact wp_pushB s x ho base v n xs y hs hown hx h1 hlen hbase t fr h
theorem wpList_pushB {w : World} {ops : Array Oper} {rest : List Oper} {o : Oper} {a : Act} {Q : Exit → Act → World → Prop} (hgd : o.guard = none) (s x : Operand)
    (ho : o.op = .call { callee := .builtin .append, args := #[s, x], argTypes := #[29, 29] })
    (base : Nat) (v : Value) (n : Nat) (xs : List Value) (y : Value) (hs : a.eval s = v) (hown : w.ownsRow base 33 1 v n xs) (hx : a.eval x = .slice (some ⟨w.heap.size, 0, none⟩) 1 1) (h1 : y.oneCell' = true)
    (hlen : n + 1 ≤ 1000000) (hbase : base ≤ w.heap.size) (t : TypeId) (fr : Nat × Nat)
    (h : ∀ v' w', w'.ownsRow base 33 1 v' (n + 1) (xs ++ [y]) → (w.alloc (.cells #[y] t fr)).grownBy w' v.ownBlock → (v'.ownBlock = v.ownBlock ∨ v'.ownBlock = some (w.heap.size + 1)) → wpList Try.prog ops Q rest (a.put o.dst v') w') :
    wpList Try.prog ops Q (o :: rest) a (w.alloc (.cells #[y] t fr)) :=
  wpList_plain hgd fun _ hK => wp_pushB s x ho base v n xs y hs hown hx h1 hlen hbase t fr (fun v' w' q1 q2 q3 => hK _ _ (h v' w' q1 q2 q3))
theorem infoMK : (Try.prog.info? 3).map (fun i => (i.zero, i.size, i.bytes)) = some (some (.int .i64 0), 1, 8) := by kernel_rfl
theorem infoK : ∃ i, Try.prog.info? 3 = some i ∧ i.zero = some (.int .i64 0) ∧ i.size = 1 ∧ i.bytes = 8 := by
  have h := infoMK
  cases hq : Try.prog.info? 3 with
  | none => rw [hq] at h; cases h
  | some i =>
    rw [hq] at h
    simp only [Option.map_some, Option.some.injEq, Prod.mk.injEq] at h
    exact ⟨i, rfl, h.1, h.2.1, h.2.2⟩
theorem wp_pushK {w : World} {o : Oper} {a : Act} {K : Act → World → Prop} {Q : Exit → Act → World → Prop} (s x : Operand)
    (ho : o.op = .call { callee := .builtin .append, args := #[s, x], argTypes := #[30, 30] })
    (base : Nat) (v : Value) (n : Nat) (xs : List Value) (y : Value) (hs : a.eval s = v) (hown : w.ownsRow base 3 1 v n xs) (hx : a.eval x = .slice (some ⟨w.heap.size, 0, none⟩) 1 1) (h1 : y.oneCell' = true)
    (hlen : n + 1 ≤ 1000000) (hbase : base ≤ w.heap.size) (t : TypeId) (fr : Nat × Nat)
    (h : ∀ v' w', w'.ownsRow base 3 1 v' (n + 1) (xs ++ [y]) → (w.alloc (.cells #[y] t fr)).grownBy w' v.ownBlock → (v'.ownBlock = v.ownBlock ∨ v'.ownBlock = some (w.heap.size + 1)) → K (a.put o.dst v') w') :
    Oper.wp Try.prog o a (w.alloc (.cells #[y] t fr)) K Q := by
  obtain ⟨i5, hi5, hz5, hs5, hy5⟩ := infoK
  have hown' : (w.alloc (.cells #[y] t fr)).ownsRow base 3 1 v n xs := ownsRow_heap hown fun k hk => by
    obtain ⟨_, cur, hh⟩ := ownsRow_block hown k hk
    rw [hh]; exact hold hh
  obtain ⟨v', w', hr, q1, q2, _, q4⟩ := run_append_own_at (P := Try.prog) (w.alloc (.cells #[y] t fr)) base 30 o.type 3 i5 (.int .i64 0) 1 8 Try.underlying30 hi5 hz5 hs5 hy5 rfl (by decide) v n _ hown' ⟨w.heap.size, 0, none⟩ 1 1 [y] rfl (by
    intro j u hu
    rw [Addr.add_mid, Nat.zero_add, cell_of_row _ _ _ _ _ _ (hnew w _)]
    simpa using hu) (by intro z hz; rw [List.mem_singleton.1 hz]; exact h1) (by unfold maxLen; omega) (by omega) (by simp; omega)
  unfold Oper.wp execOp
  simp only [ho, resolve, invoke, builtin, Sem.run_bind, Sem.run_pure, Result.andThen_ok, List.map_toArray, List.map_cons, List.map_nil, hs, hx, hr]
  refine h v' w' q1 q2 ?_
  rcases q4 with e | e
  · exact Or.inl e
  · exact Or.inr (by rw [e]; simp)
theorem step_pushK {w : World} {ops : Array Oper} {o : Oper} {a : Act} {K : Act → World → Prop} {Q : Exit → Act → World → Prop} {E : Prop} (hgd : o.guard = none) (s x : Operand)
    (ho : o.op = .call { callee := .builtin .append, args := #[s, x], argTypes := #[30, 30] })
    (base : Nat) (v : Value) (n : Nat) (xs : List Value) (y : Value) (hs : a.eval s = v) (hown : w.ownsRow base 3 1 v n xs) (hx : a.eval x = .slice (some ⟨w.heap.size, 0, none⟩) 1 1) (h1 : y.oneCell' = true)
    (hlen : n + 1 ≤ 1000000) (hbase : base ≤ w.heap.size) (t : TypeId) (fr : Nat × Nat)
    (h : ∀ v' w', w'.ownsRow base 3 1 v' (n + 1) (xs ++ [y]) → (w.alloc (.cells #[y] t fr)).grownBy w' v.ownBlock → (v'.ownBlock = v.ownBlock ∨ v'.ownBlock = some (w.heap.size + 1)) → K (a.put o.dst v') w') :
    if Region.wanted o (yielded ops a.tmps) = true then Oper.wp Try.prog o a (w.alloc (.cells #[y] t fr)) K Q else E := by
  have hw : Region.wanted o (yielded ops a.tmps) = true := by simp [Region.wanted, hgd]
  rw [if_pos hw]
  exact wp_pushK s x ho base v n xs y hs hown hx h1 hlen hbase t fr h
theorem wpList_pushK {w : World} {ops : Array Oper} {rest : List Oper} {o : Oper} {a : Act} {Q : Exit → Act → World → Prop} (hgd : o.guard = none) (s x : Operand)
    (ho : o.op = .call { callee := .builtin .append, args := #[s, x], argTypes := #[30, 30] })
    (base : Nat) (v : Value) (n : Nat) (xs : List Value) (y : Value) (hs : a.eval s = v) (hown : w.ownsRow base 3 1 v n xs) (hx : a.eval x = .slice (some ⟨w.heap.size, 0, none⟩) 1 1) (h1 : y.oneCell' = true)
    (hlen : n + 1 ≤ 1000000) (hbase : base ≤ w.heap.size) (t : TypeId) (fr : Nat × Nat)
    (h : ∀ v' w', w'.ownsRow base 3 1 v' (n + 1) (xs ++ [y]) → (w.alloc (.cells #[y] t fr)).grownBy w' v.ownBlock → (v'.ownBlock = v.ownBlock ∨ v'.ownBlock = some (w.heap.size + 1)) → wpList Try.prog ops Q rest (a.put o.dst v') w') :
    wpList Try.prog ops Q (o :: rest) a (w.alloc (.cells #[y] t fr)) :=
  wpList_plain hgd fun _ hK => wp_pushK s x ho base v n xs y hs hown hx h1 hlen hbase t fr (fun v' w' q1 q2 q3 => hK _ _ (h v' w' q1 q2 q3))
end Go.Proofs.Ytjlakgojbfglhaa
