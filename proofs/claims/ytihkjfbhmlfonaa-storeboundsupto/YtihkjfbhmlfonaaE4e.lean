import Derived.Test.YtihkjfbhmlfonaaMc6
namespace Go.Proofs.Ytihkjfbhmlfonaa
set_option linter.unusedVariables false
set_option linter.unusedSimpArgs false
open Go.RowKit
attribute [local go_sem ↓] Go.wp_at_zero Go.wp_at_succ

theorem ownsRow_form {w : World} {base t k n : Nat} {v : Value} {cs : List Value} (h : w.ownsRow base t k v n cs) : ∃ sp cap, v = .slice sp n cap := by
  rcases h.2 with ⟨rfl, rfl⟩ | ⟨g, cap, cur, rfl, _⟩
  · exact ⟨none, 0, rfl⟩
  · exact ⟨_, _, rfl⟩
/-- m[k] = v, as a step of a region that draws its order. -/
theorem step_mapUp {w : World} {ops : Array Oper} {o : Oper} {a : Act} {K : Act → World → Prop} {Q : Exit → Act → World → Prop} {E : Prop} (hgd : o.guard = none) (m x v : Operand) (hop : o.op = Op.mapUpdate 51 m x v)
    (b n : Nat) (M : DataW Unit) (hm : a.eval m = .map (some b)) (hown : w.ownsMap Try.prog 3 (plainElem Try.prog 3) b n M) (hn : n < maxLen) (q : Nat) (hx : a.eval x = .int .i64 q) (hq : q < 4096) (l : Nat) (hv : a.eval v = .int .i64 l) (hl : l ≤ 400000000000)
    (h : ∀ w', w'.ownsMap Try.prog 3 (plainElem Try.prog 3) b (n + 1) (M.put (.int .i64 (q : Nat)) (.lit (.int .i64 (l : Nat)))) → w.grownBy w' (some b) → K (a.put o.dst undef) w') :
    if Region.wanted o (yielded ops a.tmps) = true then Oper.wp Try.prog o a w K Q else E := by
  have hw : Region.wanted o (yielded ops a.tmps) = true := by simp [Region.wanted, hgd]
  rw [if_pos hw]
  obtain ⟨w', hrun, r1, r2⟩ := hown.update keyed3 Try.underlying51 hn (Maps.keyOf_int_mk Try.underlying3 (wfk q hq)) (plainElem_int Try.underlying3 (WalkArith.wf_i64 (n := (l : Int)) (by omega)))
  unfold Oper.wp
  simp [execOp, hop, hm, hx, hv, hrun, Result.andThen]
  exact h w' r1 r2
def DP.pushed (P : DP) (D : DS) (o : OW) (v : Value) : DP := { P with ov := v, M := P.M.put (.int .i64 (o.page : Nat)) (.lit (.int .i64 (D.ops.length : Nat))) }
def DS.pushed (D : DS) (o : OW) : DS := { D with ops := D.ops ++ [o] }
theorem DK.push {w2 w3 w4 : World} {base : Nat} {P : DP} {D : DS} (h : DK w2 base P D) (o : OW) (hp : o.page < 4096)
    (hm3 : w3.ownsMap Try.prog 3 (plainElem Try.prog 3) P.m (D.ops.length + 1) (P.M.put (.int .i64 (o.page : Nat)) (.lit (.int .i64 (D.ops.length : Nat))))) (hg3 : w2.grownBy w3 (some P.m)) (c : Obj) {v : Value}
    (hO4 : w4.ownsRow base 119 257 v (D.ops.length + 1) (D.ops.flatMap encW ++ encW o)) (hg4 : (w3.alloc c).grownBy w4 P.ov.ownBlock) (hd4 : v.ownBlock = P.ov.ownBlock ∨ v.ownBlock = some (w3.heap.size + 1)) :
    w4.cell? ⟨P.p, 5, none⟩ = some P.ov ∧ w4.frozen? ⟨P.p, 5, none⟩ = false ∧
      (w4.setCell ⟨P.p, 5, none⟩ v).cell? ⟨P.p, 5, none⟩ = some v ∧ (w4.setCell ⟨P.p, 5, none⟩ v).cell? ⟨P.p, 3, none⟩ = some (.int .i64 D.ops.length) ∧ (w4.setCell ⟨P.p, 5, none⟩ v).cell? ⟨P.p, 1, none⟩ = some (.int .i64 D.writes) ∧ (∀ k, (w4.setCell ⟨P.p, 5, none⟩ v).frozen? ⟨P.p, k, none⟩ = false) ∧
      DK ((w4.setCell ⟨P.p, 5, none⟩ v).setCell ⟨P.p, 3, none⟩ (.int .i64 (D.ops.length + 1 : Nat))) base (P.pushed D o v) (D.pushed o) ∧ Fr P.fp w2 ((w4.setCell ⟨P.p, 5, none⟩ v).setCell ⟨P.p, 3, none⟩ (.int .i64 (D.ops.length + 1 : Nat))) ∧ Gr w2 P.fp (P.pushed D o v).fp := by
  have a1 : ∀ i, i ≠ P.m → P.ov.ownBlock ≠ some i → i < w2.heap.size → w4.heap[i]? = w2.heap[i]? := fun i e1 e2 hi => by
    have h3 := hg3.block i hi (fun e => e1 (Option.some.inj e))
    have hi3 : i < w3.heap.size := Nat.lt_of_lt_of_le hi hg3.size
    rw [hg4.block i (by simp; omega) (fun e => e2 e.symm), ← h3]
    show (w3.heap.push _)[i]? = _
    rw [Array.getElem?_push, if_neg (by omega)]
  have hs4 : w2.heap.size ≤ w4.heap.size := by have := hg3.size; have := hg4.size; simp at this; omega
  have p4 : w4.heap[P.p]? = some (.cells (dcells P D) 53 (0, 0)) := (a1 _ h.pm h.po (hlt h.cell)).trans h.cell
  have p5 : (w4.setCell ⟨P.p, 5, none⟩ v).heap[P.p]? = some (.cells ((dcells P D).setIfInBounds 5 v) 53 (0, 0)) := heap_setCell_same _ _ _ _ _ _ p4
  have p5' : (w4.setCell ⟨P.p, 5, none⟩ v).heap[P.p]? = some (.cells ((dcells P D).setIfInBounds 5 v) 53 (0, 0)) := p5
  have far : ∀ i, i ≠ P.p → ((w4.setCell ⟨P.p, 5, none⟩ v).setCell ⟨P.p, 3, none⟩ (.int .i64 (D.ops.length + 1 : Nat))).heap[i]? = w4.heap[i]? := fun i e => by
    rw [heap_setCell_other _ _ i _ e]; exact heap_setCell_other w4 _ i _ e
  have vp : v.ownBlock ≠ some P.p := fun e => by
    obtain ⟨_, cur, hh⟩ := ownsRow_block hO4 _ e; exact ne_ty hh p4 (by decide) rfl
  refine ⟨by rw [cell_of_row _ _ _ _ _ _ p4]; rfl, frozen_of_row _ _ _ _ _ p4, by rw [cell_of_row _ _ _ _ _ _ p5']; rfl, by rw [cell_of_row _ _ _ _ _ _ p5']; rfl, by rw [cell_of_row _ _ _ _ _ _ p5']; rfl, fun k => frozen_of_row _ _ _ _ _ p5', ⟨?_, ?_, h.gl, h.gm, ?_, ?_, ?_, h.bp, h.bg, h.bm⟩, ⟨?_, ?_, ?_, ?_, ?_⟩, ?_⟩
  · refine (heap_setCell_same _ _ _ _ _ _ p5').trans ?_
    simp [dcells, DP.pushed, DS.pushed]
  · refine (far _ h.pg.symm).trans ((a1 _ h.gm' h.go (hlt h.im)).trans h.im)
  · have e1 : (D.pushed o).ops.length = D.ops.length + 1 := by simp [DS.pushed]
    have e2 : (D.pushed o).ops.flatMap encW = D.ops.flatMap encW ++ encW o := by simp [DS.pushed]
    rw [e1, e2]
    exact ownsRow_heap hO4 fun i e => far i (fun q => vp (q ▸ e))
  · have e1 : (D.pushed o).ops.length = D.ops.length + 1 := by simp [DS.pushed]
    rw [e1]
    refine ownsMap_heap hm3 ?_
    show _ = w3.heap[P.m]?
    refine (far _ h.pm.symm).trans ?_
    have hi3 := hm3.lt
    rw [hg4.block P.m (by simp; omega) (fun e => h.mo e.symm)]
    show (w3.heap.push _)[P.m]? = _
    rw [Array.getElem?_push, if_neg (by omega)]
  · exact h.new.snoc o hp
  · exact (hg4.os.trans hg3.os)
  · exact (hg4.tape.trans hg3.tape)
  · exact (hg4.output.trans hg3.output)
  · rw [World.size_setCell]; show w2.heap.size ≤ (w4.setCell ⟨P.p, 5, none⟩ v).heap.size; rw [World.size_setCell]; exact hs4
  · intro k hk hn
    have n1 : k ≠ P.p := fun e => hn ((P.mem k).2 (Or.inl e))
    have n2 : k ≠ P.m := fun e => hn ((P.mem k).2 (Or.inr (Or.inr (Or.inl e))))
    have n3 : P.ov.ownBlock ≠ some k := fun e => hn ((P.mem k).2 (Or.inr (Or.inr (Or.inr e))))
    exact (far k n1).trans (a1 k n2 n3 hk)
  · intro k hk
    rcases ((P.pushed D o v).mem k).1 hk with e | e | e | e
    · exact Or.inl ((P.mem k).2 (Or.inl e))
    · exact Or.inl ((P.mem k).2 (Or.inr (Or.inl e)))
    · exact Or.inl ((P.mem k).2 (Or.inr (Or.inr (Or.inl e))))
    · have e : v.ownBlock = some k := e
      rcases hd4 with q | q
      · exact Or.inl ((P.mem k).2 (Or.inr (Or.inr (Or.inr (q ▸ e)))))
      · rw [q] at e
        have := Option.some.inj e
        have := hg3.size
        exact Or.inr (by omega)
end Go.Proofs.Ytihkjfbhmlfonaa
