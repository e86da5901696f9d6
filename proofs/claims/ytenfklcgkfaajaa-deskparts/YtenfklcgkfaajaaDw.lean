import Derived.Test.YtenfklcgkfaajaaDz
import Derived.Test.YtenfklcgkfaajaaDk12
namespace Go.Proofs.Ytenfklcgkfaajaa
set_option linter.unusedVariables false
set_option linter.unusedSimpArgs false
open Go.RowKit
attribute [local go_sem ↓] Go.wp_at_zero Go.wp_at_succ

/-- The document's Request midway: the request, boxed. -/
structure RY (w wc : World) (q : Rq) (k h b : Value) : Prop where
  rr : wc.heap[w.heap.size]? = some (.cells (rqC q.op q.ver q.oth q.lim k h b).toArray 36 (0, 0))
  bel : Below w.heap.size w wc
  sz : w.heap.size + 1 ≤ wc.heap.size
theorem RY.call {w wc w1 : World} {q : Rq} {k h b : Value} (l : RY w wc q k h b) (hb : Below (w.heap.size + 1) wc w1) : RY w w1 q k h b :=
  ⟨hbel hb l.rr (by omega), l.bel.trans (hb.mono (by omega)), Nat.le_trans l.sz hb.size⟩
theorem RY.rc {w wc : World} {q : Rq} {k h b : Value} (l : RY w wc q k h b) :
    wc.cell? ⟨w.heap.size, 0, none⟩ = some (.int .i64 q.op) ∧ wc.cell? ⟨w.heap.size, 1, none⟩ = some (.int .i64 q.ver) ∧ wc.cell? ⟨w.heap.size, 2, none⟩ = some (.int .i64 q.oth) ∧ wc.cell? ⟨w.heap.size, 3, none⟩ = some (.int .i64 q.lim) ∧ wc.cell? ⟨w.heap.size, 4, none⟩ = some k ∧ wc.cell? ⟨w.heap.size, 5, none⟩ = some h ∧ wc.cell? ⟨w.heap.size, 6, none⟩ = some b := by
  refine ⟨?_, ?_, ?_, ?_, ?_, ?_, ?_⟩ <;> (rw [cell_of_row _ _ _ _ _ _ l.rr]; rfl)
theorem own_one (w : World) (x : Int) : Own (w.alloc (.cells #[.int .u8 x] 5)) w.heap.size (.slice (some ⟨w.heap.size, 0, none⟩) 1 1) [x] :=
  ⟨rfl, Or.inr ⟨w.heap.size, 1, #[.int .u8 x], rfl, Nat.le_refl _, hnew w _, Nat.le_refl _, by simp [maxLen], rfl, rfl⟩⟩

end Go.Proofs.Ytenfklcgkfaajaa
namespace Go.Proofs.Ytenfklcgkfaajaa
set_option linter.unusedVariables false
set_option linter.unusedSimpArgs false
open Go.RowKit
attribute [local go_sem ↓] Go.wp_at_zero Go.wp_at_succ

theorem encP_no (q : Rq) (h : knO q.op = false ∨ fitB (shO q.op) q = false) : encP q = none := by
  unfold encP
  rcases h with h | h <;> rw [h] <;> simp
theorem encP_yes (q : Rq) (h : knO q.op = true) (h2 : fitB (shO q.op) q = true) : encP q = some (encB (shO q.op) q) := by
  unfold encP; rw [h, h2]; rfl
/-- append(own, src...), src nil or not. -/
theorem wpList_append_wide2 {w : World} {ops : Array Oper} {rest : List Oper} {o : Oper} {a : Act} {Q : Exit → Act → World → Prop} (hgd : o.guard = none) (s x : Operand)
    (ho : o.op = .call { callee := .builtin .append, args := #[s, x], argTypes := #[22, 22] })
    (base : Nat) (v : Value) (zs ys : List Int) (hs : a.eval s = v) (hown : Own w base v zs) (sp : Option Addr) (c : Nat) (hx : a.eval x = .slice sp ys.length c) (hnil : sp = none → c = 0) (hS : Src w sp c ys)
    (hlen : zs.length + ys.length ≤ 140737488355328) (hbase : base ≤ w.heap.size)
    (h : ∀ v' w', Own w' base v' (zs ++ ys) → w.grownBy w' v.ownBlock → (v'.ownBlock = v.ownBlock ∨ v'.ownBlock = some w.heap.size) → wpList Try.prog ops Q rest (a.put o.dst v') w') :
    wpList Try.prog ops Q (o :: rest) a w := by
  obtain ⟨i5, hi5, hz5, hs5, hy5⟩ := Try.info5
  cases sp with
  | none =>
    obtain rfl := hnil rfl
    obtain rfl : ys = [] := List.eq_nil_of_length_eq_zero (by have := hS.1; omega)
    refine wpList_append_own_none hgd s x 22 ho base 5 i5 1 Try.underlying22 hi5 v _ _ hs hown hx (h v w ?_ ⟨rfl, rfl, rfl, Nat.le_refl _, fun _ _ _ => rfl⟩ (Or.inl rfl))
    rw [List.append_nil]; exact hown
  | some ad =>
    refine wpList_append_own_at _ hgd s x 22 ho base 5 i5 (.int .u8 0) 1 1 Try.underlying22 hi5 hz5 hs5 hy5 rfl Nat.one_pos v zs.length (ints .u8 zs) hs hown ad ys.length c (ints .u8 ys) hx (by rw [ints_len]; omega) (src_news hS) (ints_one _ _) (by unfold maxLen; omega) (by omega) hbase ?_
    intro v' w' h1 h2 _ h4
    exact h v' w' (Own.mk_append h1) h2 h4

theorem own_blk {w : World} {base n cap k : Nat} {zs : List Int} (h : Own w base (.slice (some ⟨k, 0, none⟩) n cap) zs) : ∃ cs, w.heap[k]? = some (.cells cs 5 (0, 0)) ∧ cs.size = cap := by
  rcases h.2 with ⟨e, _⟩ | ⟨g, cap', cur, e, _, hh, _, _, hs, _⟩
  · cases e
  · cases e; exact ⟨cur, hh, by omega⟩
/-- A roomy copy: two bytes stand behind its end. -/
def Rmy (w : World) (k cap : Nat) (zs : List Int) : Prop := Src w (some ⟨k, 0, none⟩) cap (zs ++ [165, 90]) ∧ k < w.heap.size ∧ ∃ cs, w.heap[k]? = some (.cells cs 5 (0, 0)) ∧ cs.size = cap
theorem Rmy.src {w : World} {k cap : Nat} {zs : List Int} (h : Rmy w k cap zs) : Src w (some ⟨k, 0, none⟩) cap zs := by
  obtain ⟨h1, h2, b, o, h3, h4, h5⟩ := h.1
  rw [List.length_append] at h1 h3 h4 h5
  refine ⟨by omega, h2, b, o, fun _ => h3 (by simp), fun _ => h4 (by simp), fun j hj => ?_⟩
  rw [h5 j (by omega), List.getD_eq_getElem?_getD, List.getD_eq_getElem?_getD, List.getElem?_append_left hj]
theorem Rmy.below {w w1 : World} {B k cap : Nat} {zs : List Int} (h : Rmy w k cap zs) (hb : Below B w w1) (hk : w.heap.size ≤ B) : Rmy w1 k cap zs := ⟨h.1.below hb hk, Nat.lt_of_lt_of_le h.2.1 hb.size, by obtain ⟨cs, e, hs⟩ := h.2.2; exact ⟨cs, hbel hb e (by have := h.2.1; omega), hs⟩⟩
set_option maxRecDepth 100000 in
set_option maxHeartbeats 800000 in
theorem roomy_any (w : World) (zs : List Int) (sp : Option Addr) (cap : Nat) (hS : Src w sp cap zs) (hnil : sp = none → cap = 0) (hl : zs.length ≤ 140737488351232) :
    Calls Try.prog 6 #[.slice sp zs.length cap] w fun e w' => ∃ k c, e = .returned (.slice (some ⟨k, 0, none⟩) zs.length c) ∧ w.heap.size ≤ k ∧ Rmy w' k c zs ∧ Below w.heap.size w w' := by
  have hE := own_empty w
  have hb0 := (Below.refl w.heap.size w).alloc (Nat.le_refl _) (.cells #[] 5)
  have hS1 := hS.below hb0 (Nat.le_refl _)
  have KL := hid (show ([] : List Int).length + zs.length ≤ 140737488351232 by simp; omega)
  have KL2 := hid (show zs.length + ([165, 90] : List Int).length ≤ 140737488355328 by simp; omega)
  have i0 : (zs.length : Int) ≤ 140737488351232 := by omega
  go_enter Try.func6, Try.ntmps6
  go_wp2_with (first | (at_builtin; refine wpList_append_wide rfl (.tmp 4) (.tmp 5) rfl w.heap.size _ [] zs rfl hE sp cap rfl hnil hS1 KL.out (by simp) ?_; intro v1 w1 O1 hg1 hd1; refine Hid.out ?_))
  refine hid ?_
  have hB1 : Below w.heap.size w w1 := hb0.trans (grown_keeps hg1 (fun k e => (hE.block k e).1) (by simp))
  obtain ⟨k1, hk1⟩ : ∃ k, v1.ownBlock = some k := by
    rcases hd1 with e | e
    · exact ⟨w.heap.size, by rw [e]; rfl⟩
    · exact ⟨_, e⟩
  rw [List.nil_append] at O1
  have hb2 := (Below.refl w1.heap.size w1).alloc (Nat.le_refl _) (.cells (ints .u8 [165, 90]).toArray 5)
  have O2 := O1.below hb2 (Nat.le_refl _)
  have S2 := src_new w1 [165, 90] 5 (0, 0) (by simp [maxLen])
  have KZ := hid (show w.heap.size ≤ (w1.alloc (.cells (ints .u8 [165, 90]).toArray 5)).heap.size by have := hB1.size; simp; omega)
  clear hE hb0 hS1 KL hg1 hd1
  go_wp2_with (first | (at_builtin; refine wpList_append_wide2 rfl (.tmp 6) (.tmp 7) rfl w.heap.size v1 zs [165, 90] rfl O2 (some ⟨w1.heap.size, 0, none⟩) 2 rfl (fun h => by cases h) S2 KL2.out KZ.out ?_; intro v3 w3 O3 hg3 hd3; refine Hid.out ?_))
  refine hid ?_
  obtain ⟨k3, hk3⟩ : ∃ k, v3.ownBlock = some k := by
    rcases hd3 with e | e
    · exact ⟨k1, by rw [e]; exact hk1⟩
    · exact ⟨_, e⟩
  obtain ⟨cap3, rfl, S3⟩ := O3.form_some hk3
  have hB3 := hB1.trans ((hb2.mono hB1.size).trans (grown_keeps hg3 (fun k hk => (O2.block k hk).1) KZ.out))
  have hm := S3.2.1
  have hc := S3.1
  have hkb := O3.block k3 hk3
  unfold maxLen at hm
  rw [List.length_append] at hc ⊢
  simp only [List.length_cons, List.length_nil] at hc ⊢
  have HR := hid (show Rmy w3 k3 cap3 zs from ⟨S3, hkb.2, own_blk O3⟩)
  clear S3 O3 hg3 hd3 O2 S2 KZ hb2 O1 KL2 hS
  have i1 : (zs.length : Int) + 2 ≤ (cap3 : Int) := by omega
  have i2 : (cap3 : Int) ≤ 9223372036854775807 := by omega
  go_wp2
  go_ret
  exact ⟨k3, cap3, rfl, hkb.1, HR.out, hB3⟩
set_option maxRecDepth 100000 in
set_option maxHeartbeats 800000 in
theorem untouched_yes (w : World) (zs : List Int) (hy : Bys zs) (k c : Nat) (hR : Rmy w k c zs) (sp : Option Addr) (cap : Nat) (hS : Src w sp cap zs) :
    Calls Try.prog 11 #[.slice (some ⟨k, 0, none⟩) zs.length c, .slice sp zs.length cap] w fun e w' => e = .returned (.bool true) ∧ Below w.heap.size w w' := by
  have K1 := hid (same_self w zs hy _ rfl (some ⟨k, 0, none⟩) sp c cap hR.src hS)
  have hb2 := (Below.refl w.heap.size w).alloc (Nat.le_refl _) (.cells (ints .u8 [165, 90]).toArray 5)
  have S0 := src_rest hR.1 zs.length (by simp)
  rw [List.drop_left, Nat.zero_add] at S0
  have S1 := S0.below hb2 (Nat.le_refl _)
  have S2 := src_new w [165, 90] 5 (0, 0) (by simp [maxLen])
  have K2 := hid (same_self _ [165, 90] (fun x hx => by simp at hx; omega) 2 rfl _ _ _ _ S1 S2)
  have hm := hR.1.2.1
  have hc := hR.1.1
  unfold maxLen at hm
  rw [List.length_append] at hc
  simp only [List.length_cons, List.length_nil] at hc
  have HB := hid hb2
  clear S0 S1 S2 hb2 hR hS
  generalize zs.length = n at *
  have i1 : (n : Int) + 2 ≤ (c : Int) := by omega
  have i2 : (c : Int) ≤ 9223372036854775807 := by omega
  go_enter Try.func11, Try.ntmps11
  go_wp2_with fail
  refine K1.out.mono ?_
  rintro e w' ⟨rfl, hw'⟩
  obtain rfl := hw'.symm
  go_wp2_with fail
  refine K2.out.mono ?_
  rintro e w' ⟨rfl, hw'⟩
  obtain rfl := hw'.symm
  go_wp2
  go_ret
  exact ⟨rfl, HB.out⟩
end Go.Proofs.Ytenfklcgkfaajaa
