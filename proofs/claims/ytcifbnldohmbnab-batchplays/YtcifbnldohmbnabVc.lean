import Derived.Test.YtcifbnldohmbnabVb
namespace Go.Proofs.Ytcifbnldohmbnab
set_option linter.unusedVariables false
set_option linter.unusedSimpArgs false
open Go.RowKit
attribute [local go_sem ↓] Go.wp_at_zero Go.wp_at_succ

theorem getD_take' {α : Type} (l : List α) (d : α) (n i : Nat) (h : i < n) : (l.take n).getD i d = l.getD i d := by
  rw [List.getD_eq_getElem?_getD, List.getElem?_take, if_pos h, ← List.getD_eq_getElem?_getD]
theorem getD_drop' {α : Type} (l : List α) (d : α) (n i : Nat) : (l.drop n).getD i d = l.getD (n + i) d := by
  rw [List.getD_eq_getElem?_getD, List.getElem?_drop, ← List.getD_eq_getElem?_getD]
theorem Chs.take {w : World} {sp : Option Addr} {cap : Nat} {cs : List Chg} {b o : Nat} {ms : List MC} (h : Chs w sp cap cs b o ms) (n : Nat) (hn : n ≤ cs.length) : Chs w sp cap (cs.take n) b o (ms.take n) := by
  have hl : (cs.take n).length = n := by rw [List.length_take]; omega
  have hm := h.says.1
  refine ⟨by have := h.le; omega, h.mx, h.nil, fun hp => h.pos (by omega), fun i hi => ?_, by rw [List.length_take, List.length_take, hm], fun i hi => ?_⟩
  · rw [getD_take' _ _ _ _ (by omega)]; exact h.rd i (by omega)
  · rw [getD_take' _ _ _ _ (by omega), getD_take' _ _ _ _ (by omega)]; exact h.says.2 i (by omega)
theorem Chs.drop {w : World} {b o cap : Nat} {cs : List Chg} {ms : List MC} (h : Chs w (some ⟨b, o, none⟩) cap cs b o ms) (n : Nat) (hn : n < cs.length) : Chs w (some ⟨b, o + n * 34, none⟩) (cap - n) (cs.drop n) b (o + n * 34) (ms.drop n) := by
  have hl : (cs.drop n).length = cs.length - n := List.length_drop
  have hm := h.says.1
  refine ⟨by have := h.le; omega, by have := h.mx; omega, (fun e => by cases e), fun hp => ⟨(h.pos (by omega)).1, rfl⟩, fun i hi => ?_, by rw [List.length_drop, List.length_drop, hm], fun i hi => ?_⟩
  · rw [getD_drop', show o + n * 34 + i * 34 = o + (n + i) * 34 by omega]; exact h.rd (n + i) (by omega)
  · rw [getD_drop', getD_drop']; exact h.says.2 (n + i) (by omega)
theorem wpList_cutFrom {w : World} {ops : Array Oper} {rest : List Oper} {op : Oper} {a : Act} {Q : Exit → Act → World → Prop} (hg : op.guard = none) (x l : Operand) (ho : op.op = .slice 28 x (some l) none none) (b o n cap i : Nat)
    (hx : a.eval x = .slice (some ⟨b, o, none⟩) n cap) (hl : a.eval l = .int .i64 i) (hi : (i : Int) ≤ (n : Int)) (hne : ¬ cap = i) (h : wpList Try.prog ops Q rest (a.put op.dst (.slice (some ⟨b, o + i * 34, none⟩) (n - i) (cap - i))) w) : wpList Try.prog ops Q (op :: rest) a w := by
  refine wpList_plain hg fun K hK => ?_
  unfold Oper.wp execOp
  rw [ho]
  simp only [hx, hl, Option.map_some, Option.map_none]
  go_simp
  exact hK _ _ h
theorem wpList_cutTo {w : World} {ops : Array Oper} {rest : List Oper} {op : Oper} {a : Act} {Q : Exit → Act → World → Prop} (hg : op.guard = none) (x u : Operand) (ho : op.op = .slice 28 x none (some u) none) (b o n cap j : Nat)
    (hx : a.eval x = .slice (some ⟨b, o, none⟩) n cap) (hu : a.eval u = .int .i64 j) (hj : (j : Int) ≤ (cap : Int)) (hc : ¬ cap = 0) (h : wpList Try.prog ops Q rest (a.put op.dst (.slice (some ⟨b, o, none⟩) j cap)) w) : wpList Try.prog ops Q (op :: rest) a w := by
  refine wpList_plain hg fun K hK => ?_
  unfold Oper.wp execOp
  rw [ho]
  simp only [hx, hu, Option.map_some, Option.map_none]
  have h0 : (0 : Int) ≤ (j : Int) := by omega
  go_simp
  exact hK _ _ h
theorem ok_take {cs : List Chg} (h : ∀ c ∈ cs, OkC c) (n : Nat) : ∀ c ∈ cs.take n, OkC c := fun c hc => h c (List.mem_of_mem_take hc)
theorem ok_drop {cs : List Chg} (h : ∀ c ∈ cs, OkC c) (n : Nat) : ∀ c ∈ cs.drop n, OkC c := fun c hc => h c (List.mem_of_mem_drop hc)
theorem le_merge {a b : List Chg} (ha : a.Pairwise LeC) (hb : b.Pairwise LeC) : (List.merge a b leB).Pairwise LeC := by
  have h := List.pairwise_merge (le := leB) (l₁ := a) (l₂ := b) (fun x y z h1 h2 => by rw [leB_iff] at *; exact cmpK_le_trans h1 h2) (fun x y => by
    have := cmpK_neg x.key y.key
    rw [Bool.or_eq_true, leB_iff, leB_iff]; unfold LeC; omega) (ha.imp fun h => (leB_iff _ _).2 h) (hb.imp fun h => (leB_iff _ _).2 h)
  exact h.imp fun h => (leB_iff _ _).1 h
/-- What sorted tells: the plain changes in order, of like keys in some order. -/
def RSpost (w : World) (cs : List Chg) (e : Ending) (w' : World) : Prop := ∃ v l, e = .returned v ∧ l.Perm (cs.map plainC) ∧ l.Pairwise LeC ∧ Mine w' w.heap.size v l ∧ Below w.heap.size w w'
end Go.Proofs.Ytcifbnldohmbnab
