import Derived.Test.YtpmjijadjblkeaaDoorVa
import Derived.WalkLawsBesides
namespace Go.Proofs.YtpmjijadjblkeaaDoor
set_option linter.unusedVariables false
set_option linter.unusedSimpArgs false
open Go.RowKit
attribute [local go_sem ↓] Go.wp_at_zero Go.wp_at_succ

/-- append(own list, x) in a drawn region. -/
theorem step_pushE {w : World} {ops : Array Oper} {o : Oper} {a : Act} {K : Act → World → Prop} {Q : Exit → Act → World → Prop} {E : Prop} (hgd : o.guard = none) (s x : Operand) (T e : TypeId) (i : TypeInfo) (z : Value) (bytes : Nat)
    (hT : Tryd.prog.underlying T = some (.slice e)) (hi : Tryd.prog.info? e = some i) (hz : i.zero = some z) (hsz : i.size = 1) (hby : i.bytes = bytes) (hzc : z.cells.size = 1) (hbb : bytes ≤ 24)
    (ho : o.op = .call { callee := .builtin .append, args := #[s, x], argTypes := #[T, T] })
    (base : Nat) (v : Value) (vs : List Value) (y : Value) (hs : a.eval s = v) (hown : OwnE e w base v vs) (hx : a.eval x = .slice (some ⟨w.heap.size, 0, none⟩) 1 1) (h1 : y.oneCell' = true)
    (hlen : vs.length + 1 ≤ 1000000000000) (hbase : base ≤ w.heap.size) (t : TypeId) (fr : Nat × Nat)
    (h : ∀ v' w', OwnE e w' base v' (vs ++ [y]) → Below base w w' → (∀ k, k < w.heap.size → v.ownBlock ≠ some k → w'.heap[k]? = w.heap[k]?) → K (a.put o.dst v') w') :
    if Region.wanted o (yielded ops a.tmps) = true then Oper.wp Tryd.prog o a (w.alloc (.cells #[y] t fr)) K Q else E := by
  have hw : Region.wanted o (yielded ops a.tmps) = true := by simp [Region.wanted, hgd]
  rw [if_pos hw]
  have hown' : OwnE e (w.alloc (.cells #[y] t fr)) base v vs := hown.of_heap fun k hk => by
    show (w.heap.push _)[k]? = _
    rw [Array.getElem?_push, if_neg (by have := (hown.heap k hk).2.1; omega)]
  obtain ⟨v', w', hr, q1, q2, _, q4⟩ := run_append_own_at (P := Tryd.prog) (w.alloc (.cells #[y] t fr)) base T o.type e i z 1 bytes hT hi hz hsz hby hzc Nat.one_pos v vs.length vs hown' ⟨w.heap.size, 0, none⟩ 1 1 [y] rfl (by
    intro j u hu
    rw [Addr.add_mid, Nat.zero_add, cell_of_row _ _ _ _ _ _ (hnew w _)]
    simpa using hu) (fun u hu => by rw [List.mem_singleton.1 hu]; exact h1) (by unfold maxLen; omega) (by
    have : (vs.length + 1) * bytes ≤ (vs.length + 1) * 24 := Nat.mul_le_mul_left _ hbb
    omega) (by simp; omega)
  unfold Oper.wp execOp
  simp only [ho, resolve, invoke, builtin, Sem.run_bind, Sem.run_pure, Result.andThen_ok, List.map_toArray, List.map_cons, List.map_nil, hs, hx, hr]
  have hB1 : Below base w (w.alloc (.cells #[y] t fr)) := (Below.refl _ _).alloc hbase _
  refine h v' w' (by unfold OwnE; rw [List.length_append]; exact q1) (hB1.trans (grown_keeps q2 (fun k hk => (hown.heap k hk).1) (by simp; omega))) (fun k hk hne => ?_)
  rw [q2.block k (by simp; omega) (fun e => hne e.symm)]
  show (w.heap.push _)[k]? = _
  rw [Array.getElem?_push, if_neg (by omega)]
/-- The hashers and their texts. -/
structure RSz (w : World) (base : Nat) (gs : List Nat) (TV : List Value) (ms : List (List Int)) : Prop where
  lg : gs.length = ms.length
  lt : TV.length = ms.length
  hs : ∀ i, i < ms.length → HsT w (gs.getD i 0) (ms.getD i []) ∧ base ≤ gs.getD i 0
  tx : ∀ i, i < ms.length → Own w base (TV.getD i undef) (ms.getD i [])
  dg : ∀ i j, i < j → j < ms.length → gs.getD i 0 ≠ gs.getD j 0
  dt : ∀ i j, i < j → j < ms.length → Dj (TV.getD i undef) (TV.getD j undef)
theorem Own.heap5 {w : World} {base : Nat} {v : Value} {zs : List Int} (h : Own w base v zs) : ∀ k, v.ownBlock = some k → base ≤ k ∧ k < w.heap.size ∧ ∃ cs, w.heap[k]? = some (.cells cs 5 (0, 0)) := by
  intro k hk
  rcases h.2 with ⟨rfl, _⟩ | ⟨g, cap, cur, rfl, hg, hh, _⟩
  · simp [Value.ownBlock] at hk
  · simp [Value.ownBlock] at hk; subst hk; exact ⟨hg, hlt hh, cur, hh⟩
theorem Own.of5 {w w1 : World} {base : Nat} {v : Value} {zs : List Int} (h : Own w base v zs) (hk : ∀ (q : Nat) (x : Array Value), w.heap[q]? = some (.cells x 5 (0, 0)) → w1.heap[q]? = w.heap[q]?) : Own w1 base v zs := by
  refine ⟨h.1, ?_⟩
  rcases h.2 with h2 | ⟨g, cap, cur, rfl, hg, hh, r⟩
  · exact Or.inl h2
  · exact Or.inr ⟨g, cap, cur, rfl, hg, (hk g cur hh).trans hh, r⟩
theorem Own.base0 {w : World} {base base' : Nat} {v : Value} {zs : List Int} (h : Own w base v zs) (hb : base' ≤ base) : Own w base' v zs := by
  obtain ⟨h1, h2 | ⟨g, cap, cur, rfl, hg, r⟩⟩ := h
  · exact ⟨h1, Or.inl h2⟩
  · exact ⟨h1, Or.inr ⟨g, cap, cur, rfl, Nat.le_trans hb hg, r⟩⟩
theorem RSz.of {w w1 : World} {base : Nat} {gs : List Nat} {TV : List Value} {ms : List (List Int)} (h : RSz w base gs TV ms) (hk : ∀ (q : Nat) (x : Array Value) (t : TypeId), w.heap[q]? = some (.cells x t (0, 0)) → (t = 55 ∨ t = 5) → w1.heap[q]? = w.heap[q]?) : RSz w1 base gs TV ms :=
  ⟨h.lg, h.lt, fun i hi => ⟨⟨(hk _ _ 55 (h.hs i hi).1.1 (Or.inl rfl)).trans (h.hs i hi).1.1, (h.hs i hi).1.2⟩, (h.hs i hi).2⟩, fun i hi => (h.tx i hi).of5 fun q x hx => hk q x 5 hx (Or.inr rfl), h.dg, h.dt⟩
theorem RSz.below {w w1 : World} {base : Nat} {gs : List Nat} {TV : List Value} {ms : List (List Int)} (h : RSz w base gs TV ms) (hb : Below w.heap.size w w1) : RSz w1 base gs TV ms := h.of fun q x t hx _ => hb.block q (hlt hx)
theorem gD_l {α : Type} (l : List α) (x d : α) (i : Nat) (h : i < l.length) : (l ++ [x]).getD i d = l.getD i d := by
  rw [List.getD_eq_getElem?_getD, List.getElem?_append_left h, ← List.getD_eq_getElem?_getD]
theorem gD_r {α : Type} (l : List α) (x d : α) (n : Nat) (h : l.length = n) : (l ++ [x]).getD n d = x := by
  subst h; rw [List.getD_eq_getElem?_getD, List.getElem?_append_right (Nat.le_refl _), Nat.sub_self]; rfl
theorem RSz.snoc {w : World} {base : Nat} {gs : List Nat} {TV : List Value} {ms : List (List Int)} (h : RSz w base gs TV ms) (g : Nat) (v : Value) (m : List Int) (hg : HsT w g m) (hgb : base ≤ g) (hv : Own w base v m) (hgn : ∀ i, i < ms.length → gs.getD i 0 ≠ g) (hvn : ∀ i, i < ms.length → Dj (TV.getD i undef) v) : RSz w base (gs ++ [g]) (TV ++ [v]) (ms ++ [m]) := by
  have hl : (ms ++ [m]).length = ms.length + 1 := by simp
  refine ⟨by simp [h.lg], by simp [h.lt], fun i hi => ?_, fun i hi => ?_, fun i j hij hj => ?_, fun i j hij hj => ?_⟩
  · by_cases e : i < ms.length
    · rw [gD_l _ _ _ _ (by rw [h.lg]; exact e), gD_l _ _ _ _ e]; exact h.hs i e
    · obtain rfl : i = ms.length := by omega
      rw [gD_r _ _ _ _ h.lg, gD_r _ _ _ _ rfl]; exact ⟨hg, hgb⟩
  · by_cases e : i < ms.length
    · rw [gD_l _ _ _ _ (by rw [h.lt]; exact e), gD_l _ _ _ _ e]; exact h.tx i e
    · obtain rfl : i = ms.length := by omega
      rw [gD_r _ _ _ _ h.lt, gD_r _ _ _ _ rfl]; exact hv
  · by_cases e : j < ms.length
    · rw [gD_l _ _ _ _ (by rw [h.lg]; omega), gD_l _ _ _ _ (by rw [h.lg]; exact e)]; exact h.dg i j hij e
    · obtain rfl : j = ms.length := by omega
      rw [gD_l _ _ _ _ (by rw [h.lg]; omega), gD_r _ _ _ _ h.lg]; exact hgn i hij
  · by_cases e : j < ms.length
    · rw [gD_l _ _ _ _ (by rw [h.lt]; omega), gD_l _ _ _ _ (by rw [h.lt]; exact e)]; exact h.dt i j hij e
    · obtain rfl : j = ms.length := by omega
      rw [gD_l _ _ _ _ (by rw [h.lt]; omega), gD_r _ _ _ _ h.lt]; exact hvn i hij
theorem RS.z {w : World} {base R : Nat} {hv tv : Value} {held : Int} {gs : List Nat} {TV : List Value} {ms : List (List Int)} (h : RS w base R hv tv held gs TV ms) : RSz w base gs TV ms := ⟨h.lg, h.lt, h.hs, h.tx, h.dg, h.dt⟩
theorem rk_set {w : World} {R : Nat} {a b c : Value} (h : w.heap[R]? = some (.cells #[a, b, c] 43 (0, 0))) (i : Nat) (x : Value) : (w.setCell ⟨R, i, none⟩ x).heap[R]? = some (.cells (#[a, b, c].setIfInBounds i x) 43 (0, 0)) := heap_setCell_same _ _ _ _ _ _ h
theorem OwnE.of {e : TypeId} {w w1 : World} {base : Nat} {v : Value} {vs : List Value} (h : OwnE e w base v vs) (hk : ∀ (q : Nat) (x : Array Value), w.heap[q]? = some (.cells x e (0, 0)) → w1.heap[q]? = w.heap[q]?) : OwnE e w1 base v vs := by
  refine ⟨h.1, ?_⟩
  rcases h.2 with h2 | ⟨g, cap, cur, rfl, hg, hh, r⟩
  · exact Or.inl h2
  · exact Or.inr ⟨g, cap, cur, rfl, hg, (hk g cur hh).trans hh, r⟩
theorem other_set {w : World} {R i : Nat} {y : Array Value} {x : Value} (hR : w.heap[R]? = some (.cells y 43 (0, 0))) (t : TypeId) (ht : t ≠ 43) : ∀ (q : Nat) (z : Array Value), w.heap[q]? = some (.cells z t (0, 0)) → (w.setCell ⟨R, i, none⟩ x).heap[q]? = w.heap[q]? := fun q z hz => heap_setCell_other _ _ _ _ (fun e => ne_of_type hz hR ht e)
/-- A text that lies in blocks of bytes. -/
def TxtB (w : World) (sp : Option Addr) (cap : Nat) (m : List Int) : Prop := ∀ w', (∀ (q : Nat) (x : Array Value), w.heap[q]? = some (.cells x 5 (0, 0)) → w'.heap[q]? = w.heap[q]?) → w.heap.size ≤ w'.heap.size → Src w' sp cap m
theorem joinA {w : World} {base R : Nat} {hv tv : Value} {held : Int} {gs : List Nat} {TV : List Value} {ms : List (List Int)} (h : RS w base R hv tv held gs TV ms) {g : Nat} {m : List Int} (hg : HsT w g m) {sp : Option Addr} {cap : Nat} (hS : TxtB w sp cap m) (x : Value) {v2 : Value} {w2 : World}
    (hO2 : OwnE 29 w2 base v2 (gs.map ptr ++ [ptr g])) (hB2 : Below base (w.setCell ⟨R, 2, none⟩ x) w2) (hK2 : ∀ k, k < (w.setCell ⟨R, 2, none⟩ x).heap.size → hv.ownBlock ≠ some k → w2.heap[k]? = (w.setCell ⟨R, 2, none⟩ x).heap[k]?) :
    ∃ s2 c2, v2 = .slice s2 (gs.length + 1) c2 ∧ w2.cell? ⟨R, 0, none⟩ = some hv ∧ w2.frozen? ⟨R, 0, none⟩ = false ∧ ∀ w3, w3 = w2.setCell ⟨R, 0, none⟩ v2 → w3.heap[R]? = some (.cells #[v2, tv, x] 43 (0, 0)) ∧ RSz w3 base gs TV ms ∧ OwnE 29 w3 base v2 (gs.map ptr ++ [ptr g]) ∧ OwnE 26 w3 base tv TV ∧ HsT w3 g m ∧ Src w3 sp cap m ∧ Below base w w3 := by
  have rk1 : (w.setCell ⟨R, 2, none⟩ x).heap[R]? = some (.cells #[hv, tv, x] 43 (0, 0)) := rk_set h.rk 2 x
  have hsz1 : (w.setCell ⟨R, 2, none⟩ x).heap.size = w.heap.size := by simp [World.setCell]
  have nb : ∀ {q : Nat} {y : Array Value} {t : TypeId}, (w.setCell ⟨R, 2, none⟩ x).heap[q]? = some (.cells y t (0, 0)) → t ≠ 29 → w2.heap[q]? = (w.setCell ⟨R, 2, none⟩ x).heap[q]? := fun {q y t} hy ht => hK2 q (hlt hy) (fun e => by
    have hoh : OwnE 29 (w.setCell ⟨R, 2, none⟩ x) base hv (gs.map ptr) := h.oh.of (other_set h.rk 29 (by decide))
    obtain ⟨_, _, z, hz⟩ := hoh.heap q e
    exact ne_of_type hy hz ht rfl)
  have rk2 : w2.heap[R]? = some (.cells #[hv, tv, x] 43 (0, 0)) := (nb rk1 (by decide)).trans rk1
  have tw : ∀ (t : TypeId), t ≠ 43 → t ≠ 29 → ∀ (q : Nat) (z : Array Value), w.heap[q]? = some (.cells z t (0, 0)) → (w2.setCell ⟨R, 0, none⟩ v2).heap[q]? = w.heap[q]? := fun t t1 t2 q z hz => by
    have a1 := other_set (i := 2) (x := x) h.rk t t1 q z hz
    have a2 := nb (a1.trans hz) t2
    rw [other_set rk2 t t1 q z (a2.trans (a1.trans hz)), a2, a1]
  obtain ⟨s2, c2, b2, hv2, _, _, _, _⟩ := hO2.at
  refine ⟨s2, c2, by rw [hv2]; simp, by rw [cell_of_row _ _ _ _ _ _ rk2]; rfl, frozen_of_row _ _ _ _ _ rk2, ?_⟩
  rintro w3 rfl
  refine ⟨rk_set rk2 0 v2, h.z.of fun q y t hy ht => ?_, hO2.of (other_set rk2 29 (by decide)), h.ot.of (tw 26 (by decide) (by decide)), ⟨(tw 55 (by decide) (by decide) g _ hg.1).trans hg.1, hg.2⟩, hS _ (tw 5 (by decide) (by decide)) ?_, ?_⟩
  · rcases ht with rfl | rfl
    · exact tw 55 (by decide) (by decide) q y hy
    · exact tw 5 (by decide) (by decide) q y hy
  · have := hB2.size; simp [World.setCell] at this ⊢; omega
  · exact (((Below.refl base w).setCell (by show base ≤ R; exact h.hb) x).trans hB2).setCell (by show base ≤ R; exact h.hb) v2
theorem joinB {w w3 : World} {base R : Nat} {v2 tv x : Value} {held : Int} {gs : List Nat} {TV : List Value} {ms : List (List Int)} {g : Nat} {m : List Int} (hx : x = .int .i64 held) (hR : base ≤ R) (rk : w3.heap[R]? = some (.cells #[v2, tv, x] 43 (0, 0))) (hz : RSz w3 base gs TV ms) (oh : OwnE 29 w3 base v2 (gs.map ptr ++ [ptr g])) (ot : OwnE 26 w3 base tv TV) (hg : HsT w3 g m) (hgb : base ≤ g) (hgn : ∀ i, i < ms.length → gs.getD i 0 ≠ g) (hB : Below base w w3) (hbs : base ≤ w3.heap.size)
    (w4 w5 : World) (v5 v4 : Value) (hb4 : Below w3.heap.size w3.drew w4) (hO4 : Own w4 w3.heap.size v4 m) (hO5 : OwnE 26 w5 base v5 (TV ++ [v4])) (hB5 : Below base w4 w5) (hK5 : ∀ k, k < w4.heap.size → tv.ownBlock ≠ some k → w5.heap[k]? = w4.heap[k]?) :
    w5.cell? ⟨R, 1, none⟩ = some tv ∧ w5.frozen? ⟨R, 1, none⟩ = false ∧ (RS (w5.setCell ⟨R, 1, none⟩ v5) base R v2 v5 held (gs ++ [g]) (TV ++ [v4]) (ms ++ [m]) ∧ Below base w (w5.setCell ⟨R, 1, none⟩ v5)) := by
  subst hx
  have t4 : ∀ {q : Nat} {y : Array Value} {t : TypeId}, w3.heap[q]? = some (.cells y t (0, 0)) → w4.heap[q]? = some (.cells y t (0, 0)) := fun {q y t} hy => (hb4.block q (hlt hy)).trans hy
  have ot4 : OwnE 26 w4 base tv TV := ot.of fun q y hy => hb4.block q (hlt hy)
  have t5 : ∀ {q : Nat} {y : Array Value} {t : TypeId}, t ≠ 26 → w4.heap[q]? = some (.cells y t (0, 0)) → w5.heap[q]? = some (.cells y t (0, 0)) := fun {q y t} ht hy => by
    rw [hK5 q (hlt hy) (fun e => by obtain ⟨_, _, z, hz⟩ := ot4.heap q e; exact ne_of_type hy hz ht rfl)]; exact hy
  have rk5 := t5 (by decide) (t4 rk)
  have t6 : ∀ {q : Nat} {y : Array Value} {t : TypeId}, t ≠ 26 → t ≠ 43 → w4.heap[q]? = some (.cells y t (0, 0)) → (w5.setCell ⟨R, 1, none⟩ v5).heap[q]? = some (.cells y t (0, 0)) := fun {q y t} h1 h2 hy => (other_set rk5 t h2 q y (t5 h1 hy)).trans (t5 h1 hy)
  have hb4' : Below base w3 w4 := (Below.refl base w3).drew.trans (hb4.mono hbs)
  refine ⟨by rw [cell_of_row _ _ _ _ _ _ rk5]; rfl, frozen_of_row _ _ _ _ _ rk5, ?_, ?_⟩
  · have hz4 : RSz w4 base gs TV ms := hz.of fun q y t hy _ => hb4.block q (hlt hy)
    have hz6 : RSz (w5.setCell ⟨R, 1, none⟩ v5) base gs TV ms := hz4.of fun q y t hy ht => by
      rcases ht with rfl | rfl
      · rw [hy]; exact t6 (by decide) (by decide) hy
      · rw [hy]; exact t6 (by decide) (by decide) hy
    have hv6 : Own (w5.setCell ⟨R, 1, none⟩ v5) base v4 m := (hO4.of5 fun q y hy => by rw [hy]; exact t6 (by decide) (by decide) hy).base0 hbs
    have hg6 : HsT (w5.setCell ⟨R, 1, none⟩ v5) g m := ⟨t6 (by decide) (by decide) (t4 hg.1), hg.2⟩
    have hzz := hz6.snoc g v4 m hg6 hgb hv6 hgn (fun i hi k k1 k2 => by
      have a1 := ((hz.tx i hi).heap5 k k1).2.1
      have a2 := (hO4.heap5 k k2).1
      omega)
    refine ⟨hR, rk_set rk5 1 v5, ?_, ?_, hzz.lg, hzz.lt, hzz.hs, hzz.tx, hzz.dg, hzz.dt⟩
    · rw [List.map_append]
      exact oh.of fun q y hy => by rw [hy]; exact t6 (by decide) (by decide) (t4 hy)
    · exact hO5.of fun q y hy => other_set rk5 26 (by decide) q y hy
  · exact (((hB.trans hb4').trans hB5).setCell (by show base ≤ R; exact hR) v5)
set_option maxRecDepth 100000 in
set_option maxHeartbeats 2000000 in
theorem joins_any (w : World) (base R : Nat) (hv tv : Value) (held : Int) (gs : List Nat) (TV : List Value) (ms : List (List Int)) (h : RS w base R hv tv held gs TV ms) (g : Nat) (m : List Int) (hg : HsT w g m) (hgb : base ≤ g) (hgn : ∀ i, i < ms.length → gs.getD i 0 ≠ g)
    (sp : Option Addr) (cap : Nat) (hS : TxtB w sp cap m) (hnil : sp = none → cap = 0) (hlen : m.length ≤ 140737488351232) (h0 : 0 ≤ held) (hh : held ≤ 1000000000000) (hn : ms.length ≤ 1000) :
    Calls Tryd.prog 19 #[.pointer (some ⟨R, 0, none⟩), .pointer (some ⟨g, 0, none⟩), .slice sp m.length cap] w fun e w' => e = .returned (.bool true) ∧ ∃ hv' tv' v, RS w' base R hv' tv' (held + m.length) (gs ++ [g]) (TV ++ [v]) (ms ++ [m]) ∧ Below base w w' := by
  have c2 : w.cell? ⟨R, 2, none⟩ = some (.int .i64 held) := by rw [cell_of_row _ _ _ _ _ _ h.rk]; rfl
  have fz2 : w.frozen? ⟨R, 2, none⟩ = false := frozen_of_row _ _ _ _ _ h.rk
  have i1 : (m.length : Int) ≤ 140737488351232 := by omega
  have rk1 : (w.setCell ⟨R, 2, none⟩ (.int .i64 (held + m.length))).heap[R]? = some (.cells #[hv, tv, .int .i64 (held + m.length)] 43 (0, 0)) := rk_set h.rk 2 _
  have c0 : (w.setCell ⟨R, 2, none⟩ (.int .i64 (held + m.length))).cell? ⟨R, 0, none⟩ = some hv := by rw [cell_of_row _ _ _ _ _ _ rk1]; rfl
  have oh1 : OwnE 29 (w.setCell ⟨R, 2, none⟩ (.int .i64 (held + m.length))) base hv (gs.map ptr) := h.oh.of (other_set h.rk 29 (by decide))
  have hs1 : base ≤ (w.setCell ⟨R, 2, none⟩ (.int .i64 (held + m.length))).heap.size := by have := hlt rk1; have := h.hb; omega
  obtain ⟨i29, hi29, hz29, hs29, hy29⟩ := Tryd.info29
  obtain ⟨i26, hi26, hz26, hs26, hy26⟩ := Tryd.info26
  have HI29 := hid hi29
  have HI := hid hi26
  have HLG := hid (show (gs.map ptr).length + 1 ≤ 1000000000000 by rw [List.length_map, h.lg]; omega)
  have HLT := hid (show TV.length + 1 ≤ 1000000000000 by rw [h.lt]; omega)
  have HJA := hid (fun (v2 : Value) (w2 : World) hO2 hB2 hK2 => joinA h hg hS (.int .i64 (held + m.length)) (v2 := v2) (w2 := w2) hO2 hB2 hK2)
  have HRB := hid h.hb
  obtain ⟨sh, ch, bh, hvv, _, _, _, _⟩ := id h.oh.at
  obtain ⟨st, ct, bt, tvv, _, _, _, _⟩ := id h.ot.at
  rw [List.length_map] at hvv
  subst hvv
  subst tvv
  clear hi29 hi26 h hg hS rk1
  go_enter Tryd.func19, Tryd.ntmps19
  go_wp2_with (first
    | (at_builtin; refine wpList_pushE rfl (.tmp 23) (.tmp 25) 41 29 i29 (.pointer none) 8 Tryd.underlying41 HI29.out hz29 hs29 hy29 rfl (by decide) rfl base _ (gs.map ptr) (ptr g) rfl oh1 (by rw [World.size_setCell]; rfl) rfl HLG.out hs1 _ _ ?_; intro v2 w2 hO2 hB2 hK2 hD2; obtain ⟨s2, c2', rfl, cR0, fR0, hJ⟩ := HJA.out v2 w2 hO2 hB2 hK2; replace hJ := hid hJ; clear hO2 hB2 hK2 hD2 c2 fz2 c0 oh1))
  obtain ⟨rk3, hz3, oh3, ot3, hg3, hS3, hB3⟩ := hJ.out _ rfl
  generalize hw3 : w2.setCell ⟨R, 0, none⟩ (.slice s2 (gs.length + 1) c2') = w3 at *
  clear hw3 hJ HJA cR0 fR0
  have hbs3 : base ≤ w3.heap.size := by have := hlt rk3; have := HRB.out; omega
  have c1 : w3.drew.cell? ⟨R, 1, none⟩ = some (.slice st TV.length ct) := by rw [cell_of_row w3.drew _ _ _ _ _ rk3]; rfl
  have HS3 := hid hS3
  have HC4 := hid (fun (w4 : World) (hb4 : Below w3.heap.size w3.drew w4) => show w4.cell? ⟨R, 1, none⟩ = some (.slice st TV.length ct) from (hb4.cell (p := ⟨R, 1, none⟩) (hlt rk3)).trans c1)
  have HZ4 := hid (fun (w4 : World) (hb4 : Below w3.heap.size w3.drew w4) => show w4.frozen? ⟨R, 1, none⟩ = false from frozen_of_row _ _ _ _ _ ((hb4.block R (hlt rk3)).trans rk3))
  have HT4 := hid (fun (w4 : World) (hb4 : Below w3.heap.size w3.drew w4) => show OwnE 26 w4 base (.slice st TV.length ct) TV from ot3.of fun q y hy => hb4.block q (hlt hy))
  have HB4 := hid (fun (w4 : World) (hb4 : Below w3.heap.size w3.drew w4) => show base ≤ w4.heap.size from Nat.le_trans hbs3 hb4.size)
  have HA4 := hid (fun (w4 : World) (hb4 : Below w3.heap.size w3.drew w4) (o : Obj) => show (w4.alloc o).cell? ⟨R, 1, none⟩ = some (.slice st TV.length ct) from (((Below.refl w4.heap.size w4).alloc (Nat.le_refl _) o).cell (p := ⟨R, 1, none⟩) (Nat.lt_of_lt_of_le (hlt rk3) hb4.size)).trans ((hb4.cell (p := ⟨R, 1, none⟩) (hlt rk3)).trans c1))
  have HP4 := hid (fun (w4 : World) (hb4 : Below w3.heap.size w3.drew w4) => show 0 < w4.heap.size from Nat.lt_of_lt_of_le (Nat.lt_of_le_of_lt (Nat.zero_le _) (hlt rk3)) hb4.size)
  have HFIN := hid (joinB (w := w) (held := held + m.length) rfl HRB.out rk3 hz3 oh3 ot3 hg3 hgb hgn hB3 hbs3)
  clear rk3 hz3 oh3 ot3 hg3 hS3 hB3 hbs3
  refine wp_region_noPanic ?_
  refine wp_region_held_drew (S := fun _ => True) (by kernel_rfl) trivial (fun hHeld => ?_)
  refine wpAnyH_take (i := 0) (oi := { dst := some 29, op := Op.move (Operand.tmp 0), type := 40, pos := "law.go:133", after := #[], guard := none }) (v := .pointer (some ⟨R, 0, none⟩)) rfl (by kernel_rfl) (by kernel_rfl) (by kernel_rfl) (fun _ _ _ h => h) (Or.inl ⟨by rfl, by intro w hS; go_simp⟩) hHeld ?_
  try simp only [Act.put, List.setIfInBounds_toArray, List.set_cons_zero, List.set_cons_succ]
  refine wpAnyH_take (i := 1) (oi := { dst := some 30, op := Op.move (Operand.tmp 0), type := 40, pos := "law.go:133", after := #[], guard := none }) (v := .pointer (some ⟨R, 0, none⟩)) rfl (by kernel_rfl) (by kernel_rfl) (by kernel_rfl) (fun _ _ _ h => h) (Or.inl ⟨by rfl, by intro w hS; go_simp⟩) hHeld ?_
  try simp only [Act.put, List.setIfInBounds_toArray, List.set_cons_zero, List.set_cons_succ]
  refine wpAnyH_take (i := 5) (oi := { dst := some 34, op := Op.move (Operand.tmp 2), type := 26, pos := "law.go:133", after := #[], guard := none }) (v := .slice sp m.length cap) rfl (by kernel_rfl) (by kernel_rfl) (by kernel_rfl) (fun _ _ _ h => h) (Or.inl ⟨by rfl, by intro w hS; go_simp⟩) hHeld ?_
  try simp only [Act.put, List.setIfInBounds_toArray, List.set_cons_zero, List.set_cons_succ]
  refine wpAnyH_take (i := 2) (oi := { dst := some 31, op := Op.nilCheck (Operand.tmp 30), type := 0, pos := "law.go:133", after := #[{ on := 1, ground := Ground.data }], guard := none }) (v := .pointer (some ⟨R, 0, none⟩)) rfl (by kernel_rfl) (by kernel_rfl) (by kernel_rfl) (fun _ _ _ h => h) (Or.inl ⟨by rfl, by intro w hS; go_simp⟩) hHeld ?_
  try simp only [Act.put, List.setIfInBounds_toArray, List.set_cons_zero, List.set_cons_succ]
  refine wpAnyH_take (i := 3) (oi := { dst := some 32, op := Op.fieldAddr 43 (Operand.tmp 31) 1, type := 0, pos := "law.go:133", after := #[{ on := 2, ground := Ground.data }], guard := none }) (v := .pointer (some ⟨R, 1, none⟩)) rfl (by kernel_rfl) (by kernel_rfl) (by kernel_rfl) (fun _ _ _ h => h) (Or.inl ⟨by rfl, by intro w hS; go_simp⟩) hHeld ?_
  try simp only [Act.put, List.setIfInBounds_toArray, List.set_cons_zero, List.set_cons_succ]
  refine wpAnyH_ready (rs := [4, 6]) (by kernel_rfl) (by simp) ?_
  refine (AllReadyH.cons (o := { dst := some 33, op := Op.load 28 (Operand.tmp 32), type := 28, pos := "law.go:133", after := #[{ on := 3, ground := Ground.data }], guard := none }) rfl (fun K hK => ?_) (AllReadyH.cons (o := { dst := some 35, op := Op.call { callee := Callee.value (Operand.func 14), args := #[Operand.tmp 34], argTypes := #[26] }, type := 26, pos := "law.go:133", after := #[{ on := 5, ground := Ground.data }], guard := none }) rfl (fun K hK => ?_) AllReadyH.nil))
  · skip
    go_simp
    refine hK.out _ _ (trivial) (fun hHeld2 => ?_)
    clear hK K hHeld
    have hHeld := hHeld2
    clear hHeld2
    try simp only [Act.put, List.setIfInBounds_toArray, List.set_cons_zero, List.set_cons_succ]
    refine wpAnyH_ready (rs := [6]) (by kernel_rfl) (by simp) ?_
    refine (AllReadyH.cons (o := { dst := some 35, op := Op.call { callee := Callee.value (Operand.func 14), args := #[Operand.tmp 34], argTypes := #[26] }, type := 26, pos := "law.go:133", after := #[{ on := 5, ground := Ground.data }], guard := none }) rfl (fun K hK => ?_) AllReadyH.nil)
    go_simp
    go_at_call 14
    refine (copiedW_any w3.drew m sp cap HS3.out hnil hlen).mono ?_
    rintro e w4 ⟨v4, rfl, hO4, hb4⟩
    obtain ⟨sp4, cap4, rfl, _, _⟩ := hO4.form (HP4.out w4 hb4)
    have c1 := HC4.out w4 hb4
    have fz := HZ4.out w4 hb4
    go_wp2_with fail
    refine hK.out _ _ (trivial) (fun hHeld2 => ?_)
    clear hK K hHeld
    have hHeld := hHeld2
    clear hHeld2
    try simp only [Act.put, List.setIfInBounds_toArray, List.set_cons_zero, List.set_cons_succ]
    refine wpAnyH_ready (rs := [7]) (by kernel_rfl) (by simp) ?_
    refine (AllReadyH.cons (o := { dst := some 36, op := Op.buildSlice 28 1 #[(0, Operand.tmp 35)], type := 28, pos := "law.go:133", after := #[{ on := 6, ground := Ground.data }], guard := none }) rfl (fun K hK => ?_) AllReadyH.nil)
    have c1a := HA4.out w4 hb4 (.cells #[.slice sp4 m.length cap4] 26)
    go_simp
    refine hK.out _ _ (trivial) (fun hHeld2 => ?_)
    clear hK K hHeld
    have hHeld := hHeld2
    clear hHeld2
    try simp only [Act.put, List.setIfInBounds_toArray, List.set_cons_zero, List.set_cons_succ]
    refine wpAnyH_ready (rs := [8]) (by kernel_rfl) (by simp) ?_
    refine (AllReadyH.cons (o := { dst := some 37, op := Op.call { callee := Callee.builtin Builtin.append, args := #[Operand.tmp 33, Operand.tmp 36], argTypes := #[28, 28] }, type := 28, pos := "law.go:133", after := #[{ on := 4, ground := Ground.data }, { on := 7, ground := Ground.data }, { on := 6, ground := Ground.chain }], guard := none }) rfl (fun K hK => ?_) AllReadyH.nil)
    refine step_pushE rfl (.tmp 33) (.tmp 36) 28 26 i26 (.slice none 0 0) 24 Tryd.underlying28 HI.out hz26 hs26 hy26 rfl (Nat.le_refl _) rfl base _ TV (.slice sp4 m.length cap4) rfl (HT4.out w4 hb4) rfl rfl HLT.out (HB4.out w4 hb4) _ _ ?_
    intro v5 w5 hO5 hB5 hK5
    obtain ⟨s5, c5, b5, hv5, _, _, hs5, _⟩ := id hO5.at
    obtain rfl := hs5 (by simp)
    rw [List.length_append] at hv5
    simp only [List.length_cons, List.length_nil, Nat.zero_add] at hv5
    have hF := HFIN.out w4 w5 v5 (.slice sp4 m.length cap4) hb4 hO4 hO5 hB5 hK5
    obtain ⟨c15, fz5, hF⟩ := hF
    have HF := hid hF
    clear hF
    subst hv5
    refine hK.out _ _ (trivial) (fun hHeld2 => ?_)
    clear hK K hHeld
    have hHeld := hHeld2
    clear hHeld2
    try simp only [Act.put, List.setIfInBounds_toArray, List.set_cons_zero, List.set_cons_succ]
    refine wpAnyH_take (i := 9) (oi := { dst := some 38, op := Op.nilCheck (Operand.tmp 29), type := 0, pos := "law.go:133", after := #[{ on := 0, ground := Ground.data }, { on := 0, ground := Ground.phase }, { on := 1, ground := Ground.phase }, { on := 2, ground := Ground.phase }, { on := 3, ground := Ground.phase }, { on := 4, ground := Ground.phase }, { on := 5, ground := Ground.phase }, { on := 6, ground := Ground.phase }, { on := 7, ground := Ground.phase }, { on := 8, ground := Ground.phase }], guard := none }) (v := .pointer (some ⟨R, 0, none⟩)) rfl (by kernel_rfl) (by kernel_rfl) (by kernel_rfl) (fun _ _ _ h => h) (Or.inl ⟨by rfl, by intro w hS; go_simp⟩) hHeld ?_
    try simp only [Act.put, List.setIfInBounds_toArray, List.set_cons_zero, List.set_cons_succ]
    refine wpAnyH_take (i := 10) (oi := { dst := some 39, op := Op.fieldAddr 43 (Operand.tmp 38) 1, type := 0, pos := "law.go:133", after := #[{ on := 9, ground := Ground.data }, { on := 0, ground := Ground.phase }, { on := 1, ground := Ground.phase }, { on := 2, ground := Ground.phase }, { on := 3, ground := Ground.phase }, { on := 4, ground := Ground.phase }, { on := 5, ground := Ground.phase }, { on := 6, ground := Ground.phase }, { on := 7, ground := Ground.phase }, { on := 8, ground := Ground.phase }], guard := none }) (v := .pointer (some ⟨R, 1, none⟩)) rfl (by kernel_rfl) (by kernel_rfl) (by kernel_rfl) (fun _ _ _ h => h) (Or.inl ⟨by rfl, by intro w hS; go_simp⟩) hHeld ?_
    try simp only [Act.put, List.setIfInBounds_toArray, List.set_cons_zero, List.set_cons_succ]
    refine wpAnyH_ready (rs := [11]) (by kernel_rfl) (by simp) ?_
    refine (AllReadyH.cons (o := { dst := none, op := Op.store 28 (Operand.tmp 39) (Operand.tmp 37), type := 0, pos := "law.go:133", after := #[{ on := 10, ground := Ground.data }, { on := 8, ground := Ground.data }, { on := 8, ground := Ground.chain }, { on := 0, ground := Ground.phase }, { on := 1, ground := Ground.phase }, { on := 2, ground := Ground.phase }, { on := 3, ground := Ground.phase }, { on := 4, ground := Ground.phase }, { on := 5, ground := Ground.phase }, { on := 6, ground := Ground.phase }, { on := 7, ground := Ground.phase }, { on := 8, ground := Ground.phase }], guard := none }) rfl (fun K hK => ?_) AllReadyH.nil)
    go_simp
    refine hK.out _ _ (trivial) (fun hHeld2 => ?_)
    clear hK K hHeld
    have hHeld := hHeld2
    clear hHeld2
    try simp only [Act.put, List.setIfInBounds_toArray, List.set_cons_zero, List.set_cons_succ]
    refine wpAnyH_done (by kernel_rfl) ?_ _
    refine NoPanic.normal ?_
    go_wp2
    go_ret
    obtain ⟨q1, q2⟩ := HF.out
    exact ⟨rfl, ⟨_, _, _, q1⟩, q2⟩
  · skip
    go_simp
    go_at_call 14
    refine (copiedW_any w3.drew m sp cap HS3.out hnil hlen).mono ?_
    rintro e w4 ⟨v4, rfl, hO4, hb4⟩
    obtain ⟨sp4, cap4, rfl, _, _⟩ := hO4.form (HP4.out w4 hb4)
    have c1 := HC4.out w4 hb4
    have fz := HZ4.out w4 hb4
    go_wp2_with fail
    refine hK.out _ _ (trivial) (fun hHeld2 => ?_)
    clear hK K hHeld
    have hHeld := hHeld2
    clear hHeld2
    try simp only [Act.put, List.setIfInBounds_toArray, List.set_cons_zero, List.set_cons_succ]
    refine wpAnyH_ready (rs := [4, 7]) (by kernel_rfl) (by simp) ?_
    refine (AllReadyH.cons (o := { dst := some 33, op := Op.load 28 (Operand.tmp 32), type := 28, pos := "law.go:133", after := #[{ on := 3, ground := Ground.data }], guard := none }) rfl (fun K hK => ?_) (AllReadyH.cons (o := { dst := some 36, op := Op.buildSlice 28 1 #[(0, Operand.tmp 35)], type := 28, pos := "law.go:133", after := #[{ on := 6, ground := Ground.data }], guard := none }) rfl (fun K hK => ?_) AllReadyH.nil))
    · skip
      go_simp
      refine hK.out _ _ (trivial) (fun hHeld2 => ?_)
      clear hK K hHeld
      have hHeld := hHeld2
      clear hHeld2
      try simp only [Act.put, List.setIfInBounds_toArray, List.set_cons_zero, List.set_cons_succ]
      refine wpAnyH_ready (rs := [7]) (by kernel_rfl) (by simp) ?_
      refine (AllReadyH.cons (o := { dst := some 36, op := Op.buildSlice 28 1 #[(0, Operand.tmp 35)], type := 28, pos := "law.go:133", after := #[{ on := 6, ground := Ground.data }], guard := none }) rfl (fun K hK => ?_) AllReadyH.nil)
      have c1a := HA4.out w4 hb4 (.cells #[.slice sp4 m.length cap4] 26)
      go_simp
      refine hK.out _ _ (trivial) (fun hHeld2 => ?_)
      clear hK K hHeld
      have hHeld := hHeld2
      clear hHeld2
      try simp only [Act.put, List.setIfInBounds_toArray, List.set_cons_zero, List.set_cons_succ]
      refine wpAnyH_ready (rs := [8]) (by kernel_rfl) (by simp) ?_
      refine (AllReadyH.cons (o := { dst := some 37, op := Op.call { callee := Callee.builtin Builtin.append, args := #[Operand.tmp 33, Operand.tmp 36], argTypes := #[28, 28] }, type := 28, pos := "law.go:133", after := #[{ on := 4, ground := Ground.data }, { on := 7, ground := Ground.data }, { on := 6, ground := Ground.chain }], guard := none }) rfl (fun K hK => ?_) AllReadyH.nil)
      refine step_pushE rfl (.tmp 33) (.tmp 36) 28 26 i26 (.slice none 0 0) 24 Tryd.underlying28 HI.out hz26 hs26 hy26 rfl (Nat.le_refl _) rfl base _ TV (.slice sp4 m.length cap4) rfl (HT4.out w4 hb4) rfl rfl HLT.out (HB4.out w4 hb4) _ _ ?_
      intro v5 w5 hO5 hB5 hK5
      obtain ⟨s5, c5, b5, hv5, _, _, hs5, _⟩ := id hO5.at
      obtain rfl := hs5 (by simp)
      rw [List.length_append] at hv5
      simp only [List.length_cons, List.length_nil, Nat.zero_add] at hv5
      have hF := HFIN.out w4 w5 v5 (.slice sp4 m.length cap4) hb4 hO4 hO5 hB5 hK5
      obtain ⟨c15, fz5, hF⟩ := hF
      have HF := hid hF
      clear hF
      subst hv5
      refine hK.out _ _ (trivial) (fun hHeld2 => ?_)
      clear hK K hHeld
      have hHeld := hHeld2
      clear hHeld2
      try simp only [Act.put, List.setIfInBounds_toArray, List.set_cons_zero, List.set_cons_succ]
      refine wpAnyH_take (i := 9) (oi := { dst := some 38, op := Op.nilCheck (Operand.tmp 29), type := 0, pos := "law.go:133", after := #[{ on := 0, ground := Ground.data }, { on := 0, ground := Ground.phase }, { on := 1, ground := Ground.phase }, { on := 2, ground := Ground.phase }, { on := 3, ground := Ground.phase }, { on := 4, ground := Ground.phase }, { on := 5, ground := Ground.phase }, { on := 6, ground := Ground.phase }, { on := 7, ground := Ground.phase }, { on := 8, ground := Ground.phase }], guard := none }) (v := .pointer (some ⟨R, 0, none⟩)) rfl (by kernel_rfl) (by kernel_rfl) (by kernel_rfl) (fun _ _ _ h => h) (Or.inl ⟨by rfl, by intro w hS; go_simp⟩) hHeld ?_
      try simp only [Act.put, List.setIfInBounds_toArray, List.set_cons_zero, List.set_cons_succ]
      refine wpAnyH_take (i := 10) (oi := { dst := some 39, op := Op.fieldAddr 43 (Operand.tmp 38) 1, type := 0, pos := "law.go:133", after := #[{ on := 9, ground := Ground.data }, { on := 0, ground := Ground.phase }, { on := 1, ground := Ground.phase }, { on := 2, ground := Ground.phase }, { on := 3, ground := Ground.phase }, { on := 4, ground := Ground.phase }, { on := 5, ground := Ground.phase }, { on := 6, ground := Ground.phase }, { on := 7, ground := Ground.phase }, { on := 8, ground := Ground.phase }], guard := none }) (v := .pointer (some ⟨R, 1, none⟩)) rfl (by kernel_rfl) (by kernel_rfl) (by kernel_rfl) (fun _ _ _ h => h) (Or.inl ⟨by rfl, by intro w hS; go_simp⟩) hHeld ?_
      try simp only [Act.put, List.setIfInBounds_toArray, List.set_cons_zero, List.set_cons_succ]
      refine wpAnyH_ready (rs := [11]) (by kernel_rfl) (by simp) ?_
      refine (AllReadyH.cons (o := { dst := none, op := Op.store 28 (Operand.tmp 39) (Operand.tmp 37), type := 0, pos := "law.go:133", after := #[{ on := 10, ground := Ground.data }, { on := 8, ground := Ground.data }, { on := 8, ground := Ground.chain }, { on := 0, ground := Ground.phase }, { on := 1, ground := Ground.phase }, { on := 2, ground := Ground.phase }, { on := 3, ground := Ground.phase }, { on := 4, ground := Ground.phase }, { on := 5, ground := Ground.phase }, { on := 6, ground := Ground.phase }, { on := 7, ground := Ground.phase }, { on := 8, ground := Ground.phase }], guard := none }) rfl (fun K hK => ?_) AllReadyH.nil)
      go_simp
      refine hK.out _ _ (trivial) (fun hHeld2 => ?_)
      clear hK K hHeld
      have hHeld := hHeld2
      clear hHeld2
      try simp only [Act.put, List.setIfInBounds_toArray, List.set_cons_zero, List.set_cons_succ]
      refine wpAnyH_done (by kernel_rfl) ?_ _
      refine NoPanic.normal ?_
      go_wp2
      go_ret
      obtain ⟨q1, q2⟩ := HF.out
      exact ⟨rfl, ⟨_, _, _, q1⟩, q2⟩
    · skip
      have c1a := HA4.out w4 hb4 (.cells #[.slice sp4 m.length cap4] 26)
      go_simp
      refine hK.out _ _ (trivial) (fun hHeld2 => ?_)
      clear hK K hHeld
      have hHeld := hHeld2
      clear hHeld2
      try simp only [Act.put, List.setIfInBounds_toArray, List.set_cons_zero, List.set_cons_succ]
      refine wpAnyH_ready (rs := [4]) (by kernel_rfl) (by simp) ?_
      refine (AllReadyH.cons (o := { dst := some 33, op := Op.load 28 (Operand.tmp 32), type := 28, pos := "law.go:133", after := #[{ on := 3, ground := Ground.data }], guard := none }) rfl (fun K hK => ?_) AllReadyH.nil)
      go_simp
      refine hK.out _ _ (trivial) (fun hHeld2 => ?_)
      clear hK K hHeld
      have hHeld := hHeld2
      clear hHeld2
      try simp only [Act.put, List.setIfInBounds_toArray, List.set_cons_zero, List.set_cons_succ]
      refine wpAnyH_ready (rs := [8]) (by kernel_rfl) (by simp) ?_
      refine (AllReadyH.cons (o := { dst := some 37, op := Op.call { callee := Callee.builtin Builtin.append, args := #[Operand.tmp 33, Operand.tmp 36], argTypes := #[28, 28] }, type := 28, pos := "law.go:133", after := #[{ on := 4, ground := Ground.data }, { on := 7, ground := Ground.data }, { on := 6, ground := Ground.chain }], guard := none }) rfl (fun K hK => ?_) AllReadyH.nil)
      refine step_pushE rfl (.tmp 33) (.tmp 36) 28 26 i26 (.slice none 0 0) 24 Tryd.underlying28 HI.out hz26 hs26 hy26 rfl (Nat.le_refl _) rfl base _ TV (.slice sp4 m.length cap4) rfl (HT4.out w4 hb4) rfl rfl HLT.out (HB4.out w4 hb4) _ _ ?_
      intro v5 w5 hO5 hB5 hK5
      obtain ⟨s5, c5, b5, hv5, _, _, hs5, _⟩ := id hO5.at
      obtain rfl := hs5 (by simp)
      rw [List.length_append] at hv5
      simp only [List.length_cons, List.length_nil, Nat.zero_add] at hv5
      have hF := HFIN.out w4 w5 v5 (.slice sp4 m.length cap4) hb4 hO4 hO5 hB5 hK5
      obtain ⟨c15, fz5, hF⟩ := hF
      have HF := hid hF
      clear hF
      subst hv5
      refine hK.out _ _ (trivial) (fun hHeld2 => ?_)
      clear hK K hHeld
      have hHeld := hHeld2
      clear hHeld2
      try simp only [Act.put, List.setIfInBounds_toArray, List.set_cons_zero, List.set_cons_succ]
      refine wpAnyH_take (i := 9) (oi := { dst := some 38, op := Op.nilCheck (Operand.tmp 29), type := 0, pos := "law.go:133", after := #[{ on := 0, ground := Ground.data }, { on := 0, ground := Ground.phase }, { on := 1, ground := Ground.phase }, { on := 2, ground := Ground.phase }, { on := 3, ground := Ground.phase }, { on := 4, ground := Ground.phase }, { on := 5, ground := Ground.phase }, { on := 6, ground := Ground.phase }, { on := 7, ground := Ground.phase }, { on := 8, ground := Ground.phase }], guard := none }) (v := .pointer (some ⟨R, 0, none⟩)) rfl (by kernel_rfl) (by kernel_rfl) (by kernel_rfl) (fun _ _ _ h => h) (Or.inl ⟨by rfl, by intro w hS; go_simp⟩) hHeld ?_
      try simp only [Act.put, List.setIfInBounds_toArray, List.set_cons_zero, List.set_cons_succ]
      refine wpAnyH_take (i := 10) (oi := { dst := some 39, op := Op.fieldAddr 43 (Operand.tmp 38) 1, type := 0, pos := "law.go:133", after := #[{ on := 9, ground := Ground.data }, { on := 0, ground := Ground.phase }, { on := 1, ground := Ground.phase }, { on := 2, ground := Ground.phase }, { on := 3, ground := Ground.phase }, { on := 4, ground := Ground.phase }, { on := 5, ground := Ground.phase }, { on := 6, ground := Ground.phase }, { on := 7, ground := Ground.phase }, { on := 8, ground := Ground.phase }], guard := none }) (v := .pointer (some ⟨R, 1, none⟩)) rfl (by kernel_rfl) (by kernel_rfl) (by kernel_rfl) (fun _ _ _ h => h) (Or.inl ⟨by rfl, by intro w hS; go_simp⟩) hHeld ?_
      try simp only [Act.put, List.setIfInBounds_toArray, List.set_cons_zero, List.set_cons_succ]
      refine wpAnyH_ready (rs := [11]) (by kernel_rfl) (by simp) ?_
      refine (AllReadyH.cons (o := { dst := none, op := Op.store 28 (Operand.tmp 39) (Operand.tmp 37), type := 0, pos := "law.go:133", after := #[{ on := 10, ground := Ground.data }, { on := 8, ground := Ground.data }, { on := 8, ground := Ground.chain }, { on := 0, ground := Ground.phase }, { on := 1, ground := Ground.phase }, { on := 2, ground := Ground.phase }, { on := 3, ground := Ground.phase }, { on := 4, ground := Ground.phase }, { on := 5, ground := Ground.phase }, { on := 6, ground := Ground.phase }, { on := 7, ground := Ground.phase }, { on := 8, ground := Ground.phase }], guard := none }) rfl (fun K hK => ?_) AllReadyH.nil)
      go_simp
      refine hK.out _ _ (trivial) (fun hHeld2 => ?_)
      clear hK K hHeld
      have hHeld := hHeld2
      clear hHeld2
      try simp only [Act.put, List.setIfInBounds_toArray, List.set_cons_zero, List.set_cons_succ]
      refine wpAnyH_done (by kernel_rfl) ?_ _
      refine NoPanic.normal ?_
      go_wp2
      go_ret
      obtain ⟨q1, q2⟩ := HF.out
      exact ⟨rfl, ⟨_, _, _, q1⟩, q2⟩
end Go.Proofs.YtpmjijadjblkeaaDoor
