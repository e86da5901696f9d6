import Derived.Test.YtlhmhpkgdcdjkaaZr2
import Derived.Test.YtlhmhpkgdcdjkaaXi9
namespace Go.Proofs.Ytlhmhpkgdcdjkaa
set_option linter.unusedVariables false
set_option linter.unusedSimpArgs false
open Go.RowKit
attribute [local go_sem ↓] Go.wp_at_zero Go.wp_at_succ

/-! A text in memory: 37 cells. -/
def txC (d : Bool) (p : Pf) (v s r : Value) : List Value := [.bool d] ++ (pfC p v s ++ [r])
theorem txC_len {p : Pf} (ok : PfOk p) (d : Bool) (v s r : Value) : (txC d p v s r).length = 37 := by simp [txC, pfC_len ok]
theorem txC_d (d : Bool) (p : Pf) (v s r : Value) : (txC d p v s r)[0]? = some (.bool d) := rfl
theorem txC_p {p : Pf} (ok : PfOk p) (d : Bool) (v s r : Value) (j : Nat) (x : Value) (hx : (pfC p v s)[j]? = some x) : (txC d p v s r)[1 + j]? = some x := mid_at _ _ _ 1 j rfl x hx
theorem txC_r {p : Pf} (ok : PfOk p) (d : Bool) (v s r : Value) : (txC d p v s r)[36]? = some r := by
  have := mid_at ([.bool d] ++ pfC p v s) [r] [] 36 0 (by simp [pfC_len ok]) r rfl
  rw [List.append_nil, List.append_assoc] at this; exact this
theorem txC_one {p : Pf} (d : Bool) (a b c : Option Addr) (n1 c1 n2 c2 n3 c3 : Nat) : ∀ x ∈ txC d p (.slice a n1 c1) (.slice b n2 c2) (.slice c n3 c3), x.oneCell' = true := fun x hx => by
  simp only [txC, List.mem_append, List.mem_cons, List.not_mem_nil, or_false] at hx
  rcases hx with rfl | hx | rfl
  · rfl
  · exact pfC_one p _ _ rfl rfl x hx
  · rfl
theorem Try.sizeTx : (Try.prog.info? 52).map (·.size) = some 37 := by kernel_rfl
theorem allocTx (a : Act) (o : Oper) (w : World) (ho : o.op = .alloc 52) : (execOp a.eval o).run Try.prog w = .ok (.value (.pointer (some ⟨w.heap.size, 0, none⟩))) (w.alloc (.cells (txC false pf0 (.slice none 0 0) (.slice none 0 0) (.slice none 0 0)).toArray 52)) := by
  unfold execOp
  rw [ho]
  kernel_rfl
/-- What is known of a text that came in. -/
def TxIn (w : World) (cs : List Value) : Prop := ∃ (d : Bool) (p : Pf) (r : List Int) (s1 s2 s3 : Option Addr) (c1 c2 c3 : Nat), cs = txC d p (.slice s1 p.vs.length c1) (.slice s2 p.ss.length c2) (.slice s3 r.length c3) ∧ PfOk p ∧ PfY p ∧ Src w s1 c1 p.vs ∧ SrcD w s2 c2 p.ss ∧ p.vs.length ≤ 140737488351232 ∧ p.ss.length * 32 ≤ 140737488351232 ∧ Bys r ∧ Src w s3 c3 r ∧ r.length ≤ 140737488351232
theorem OwnD.srcN {w : World} {base : Nat} {s : Option Addr} {n c : Nat} {ss : List (List Int)} (h : OwnD w base (.slice s n c) ss) : SrcD w s c ss := by
  obtain ⟨sp, cap, e, S, _⟩ := h.form
  cases e; exact S
theorem Own.srcN {w : World} {base : Nat} {s : Option Addr} {n c : Nat} {zs : List Int} (h : Own w base (.slice s n c) zs) : Src w s c zs := by
  obtain ⟨sp, cap, e, S, _⟩ := h.form
  cases e; exact S
/-- A block among others written. -/
theorem BK.upd {w0 w : World} {L L' : List (Nat × List Value × Nat)} (h : BK w0 w L) {b t : Nat} {zs : List Value} (hm : (b, zs, t) ∈ L) (hb : w0.heap.size ≤ b) (ys : List Value) (hL : ∀ x ∈ L', x = (b, ys, t) ∨ (x ∈ L ∧ x.1 ≠ b)) : BK w0 (w.setRow b ys.toArray) L' := by
  refine ⟨below_setRow h.1 hb _, fun x hx => ?_⟩
  rcases hL x hx with rfl | ⟨h1, h2⟩
  · exact setRow_heap _ _ _ _ _ _ (h.row hm)
  · exact (setRow_other _ _ _ _ h2).trans (h.2 x h1)
theorem BK.updC {w0 w : World} {L L' : List (Nat × List Value × Nat)} (h : BK w0 w L) {b t : Nat} {zs : List Value} (hm : (b, zs, t) ∈ L) (hb : w0.heap.size ≤ b) (j : Nat) (v : Value) (hL : ∀ x ∈ L', x = (b, zs.set j v, t) ∨ (x ∈ L ∧ x.1 ≠ b)) : BK w0 (w.setCell ⟨b, j, none⟩ v) L' := by
  rw [setCell_eq_setRow w b _ _ _ _ _ (h.row hm)]
  have := h.upd hm hb (zs.set j v) hL
  rwa [← List.setIfInBounds_toArray] at this
theorem infoDz : ∃ i, Try.prog.info? 43 = some i ∧ i.zero = some (.agg (ints .u8 zB).toArray) ∧ i.size = 32 ∧ i.bytes = 32 := by
  have h : (Try.prog.info? 43).map (fun i => (i.zero, i.size, i.bytes)) = some (some (.agg (ints .u8 zB).toArray), 32, 32) := by kernel_rfl
  cases hq : Try.prog.info? 43 with
  | none => rw [hq] at h; cases h
  | some i =>
    rw [hq] at h
    simp only [Option.map_some, Option.some.injEq, Prod.mk.injEq] at h
    exact ⟨i, rfl, h.1, h.2.1, h.2.2⟩
theorem flat_zB (n : Nat) : (List.replicate n zB).flatten = List.replicate (n * 32) 0 := by
  unfold zB; rw [List.flatten_replicate_replicate]
theorem made_digs (n : Nat) : (madeCells (Value.agg (ints .u8 zB).toArray).cells (n * 32)).toList = ints .u8 (List.replicate n zB).flatten := by
  rw [flat_zB]
  have hz : (Value.agg (ints .u8 zB).toArray).cells = (List.replicate 32 (Value.int .u8 0)).toArray := rfl
  rw [hz]
  have hh : ∀ r, r < 32 → (List.replicate 32 (Value.int .u8 0))[r]? = some (.int .u8 0) := fun r hr => by rw [List.getElem?_replicate, if_pos hr]
  have hl : (List.replicate 32 (Value.int .u8 0)).length = 32 := List.length_replicate
  generalize List.replicate 32 (Value.int .u8 0) = l at *
  apply List.ext_getElem
  · simp [madeCells, ints]
  · intro i h1 h2
    have := hh (i % 32) (Nat.mod_lt _ (by decide))
    simp [madeCells, ints, hl, this]
theorem flat_set : ∀ (D : List (List Int)) (j : Nat) (d : List Int), (∀ x ∈ D, x.length = 32) → j < D.length → d.length = 32 → (ints .u8 D.flatten).take (j * 32) ++ ints .u8 d ++ (ints .u8 D.flatten).drop (j * 32 + 32) = ints .u8 (D.set j d).flatten
  | x :: D, 0, d, h, hj, hd => by
    have hx := h x (.head _)
    simp only [Nat.zero_mul, List.take_zero, List.nil_append, Nat.zero_add, List.set_cons_zero, List.flatten_cons, ints, List.map_append]
    rw [List.drop_append_of_le_length (by simp; omega), List.drop_of_length_le (by simp; omega), List.nil_append]
  | x :: D, j + 1, d, h, hj, hd => by
    have hx := h x (.head _)
    have ih := flat_set D j d (fun y hy => h y (.tail _ hy)) (by simpa using hj) hd
    have hl : (x.map (Value.int .u8)).length = 32 := by simp [hx]
    simp only [List.set_cons_succ, List.flatten_cons, ints, List.map_append] at ih ⊢
    rw [List.take_append, List.take_of_length_le (by rw [hl]; omega), hl, show (j + 1) * 32 - 32 = j * 32 by omega, List.drop_append, List.drop_of_length_le (by rw [hl]; omega), hl, show (j + 1) * 32 + 32 - 32 = j * 32 + 32 by omega, List.nil_append, List.append_assoc, List.append_assoc, ← List.append_assoc (List.take _ _), ih]
theorem flat_len' {D : List (List Int)} (h : ∀ d ∈ D, d.length = 32) : (ints .u8 D.flatten).length = 32 * D.length := by rw [ints_len, flat_len32 D h]
/-- A row of digests, as a slice reads it. -/
theorem srcD_row {w : World} {g : Nat} {D : List (List Int)} {fr : Nat × Nat} (h : w.heap[g]? = some (.cells (ints .u8 D.flatten).toArray 43 fr)) (h0 : ∀ d ∈ D, d.length = 32) (cap : Nat) (hc : D.length ≤ cap) (hm : cap ≤ maxLen) : SrcD w (some ⟨g, 0, none⟩) cap D := by
  refine ⟨hc, hm, h0, g, 0, fun _ => hlt h, fun _ => rfl, fun i hi j u hu => ?_⟩
  have hd : (D.getD i []).length = 32 := h0 _ (by rw [List.getD_eq_getElem?_getD, List.getElem?_eq_getElem hi]; exact List.getElem_mem _)
  have hj : j < 32 := by have := (List.getElem?_eq_some_iff.1 hu).1; rwa [ints_len, hd] at this
  have h3 := flat_get D i j h0 hi hj
  rw [Nat.zero_add, cell_of_row _ _ _ _ _ _ h, List.getElem?_toArray, h3, hu]
theorem xor_bd (x y : Int) : 0 ≤ bits .xor .u8 x y ∧ bits .xor .u8 x y < 256 := by have := bounds_u8 (wf_bits .xor .u8 x y); omega
theorem bys_set {zs : List Int} (h : Bys zs) (j : Nat) (x : Int) (hx : 0 ≤ x ∧ x < 256) : Bys (zs.set j x) := fun z hz => by
  rcases List.mem_or_eq_of_mem_set hz with h1 | rfl
  · exact h z h1
  · exact hx
theorem full_bys {zs : List Int} (h : Bys zs) : Bys (full zs) := by
  unfold full
  refine h.app ?_
  intro x hx
  unfold tailN at hx
  obtain ⟨i, hi, rfl⟩ := List.mem_map.1 hx
  have := List.mem_range.1 hi
  omega
/-- One bit of a row of digests turned: the same as a digest turned. -/
theorem flat_set1 (D : List (List Int)) (j : Nat) (x : Int) (h : ∀ d ∈ D, d.length = 32) (hj : j < D.length) : (ints .u8 D.flatten).set (j * 32 + 31) (.int .u8 x) = ints .u8 (D.set j ((D.getD j []).set 31 x)).flatten := by
  have hd : (D.getD j []).length = 32 := h _ (by rw [List.getD_eq_getElem?_getD, List.getElem?_eq_getElem hj]; exact List.getElem_mem _)
  rw [← flat_set D j ((D.getD j []).set 31 x) h hj (by rw [List.length_set, hd])]
  apply List.ext_getElem?
  intro i
  have hlen := flat_len' h
  have hle : j * 32 + 32 ≤ (ints .u8 D.flatten).length := by rw [hlen]; omega
  have tl : ((ints .u8 D.flatten).take (j * 32)).length = j * 32 := by rw [List.length_take]; omega
  have il : (ints .u8 ((D.getD j []).set 31 x)).length = 32 := by rw [ints_len, List.length_set, hd]
  rw [List.getElem?_set]
  by_cases h1 : i < j * 32
  · rw [if_neg (by omega), List.getElem?_append_left (by rw [List.length_append, tl, il]; omega), List.getElem?_append_left (by rw [tl]; omega), List.getElem?_take, if_pos h1]
  · by_cases h2 : i < j * 32 + 32
    · have e := flat_get D j (i - j * 32) h hj (by omega)
      rw [show j * 32 + (i - j * 32) = i by omega] at e
      rw [List.getElem?_append_left (by rw [List.length_append, tl, il]; omega), List.getElem?_append_right (by rw [tl]; omega), tl]
      by_cases h3 : i = j * 32 + 31
      · subst h3
        rw [if_pos rfl, if_pos (by omega), show j * 32 + 31 - j * 32 = 31 by omega, ints_get .u8 _ 31 (by rw [List.length_set, hd]; omega), List.getD_eq_getElem?_getD, List.getElem?_set, if_pos rfl, if_pos (by omega)]
        rfl
      · rw [if_neg (by omega), e]
        simp only [ints, List.getElem?_map, List.getElem?_set]
        rw [if_neg (by omega)]
    · rw [if_neg (by omega), List.getElem?_append_right (by rw [List.length_append, tl, il]; omega), List.getElem?_drop, List.length_append, tl, il]
      congr 1
      omega
end Go.Proofs.Ytlhmhpkgdcdjkaa
