import Derived.Test.YtcndllcalnffoaaDoorMe6
namespace Go.Proofs.YtcndllcalnffoaaDoor
set_option linter.unusedVariables false
set_option linter.unusedSimpArgs false
open Go.RowKit
attribute [local go_sem ↓] Go.wp_at_zero Go.wp_at_succ


theorem yieldsIf_load_sup {ops : Array Oper} {S : World → Prop} {op : Oper} {a : Act} (hw : Region.wanted op (yielded ops a.tmps) = true) (x : Operand) (ho : op.op = .load 26 x)
    (b : Nat) (hx : a.eval x = .pointer (some ⟨b, 0, none⟩)) (s : Sup) (hS : ∀ w, S w → w.heap[b]? = some (.cells (supC s) 26 (0, 0))) : YieldsIf Tryd.prog ops S op (.agg (supC s)) a :=
  yieldsIf_load_mid hw 26 x ho b 0 hx (supL s) _ (fun w h => rng (hS w h)) Tryd.underlying26 rfl (by rw [size_super]; rfl)
theorem slice_steps (f0 f1 f2 f3 : Fn) (x0 x1 x2 x3 c0 c1 c2 c3 : Array Value) (w : World) :
    (Instr.buildSlice 109 4 #[(0, .func f0 x0 c0), (1, .func f1 x1 c1), (2, .func f2 x2 c2), (3, .func f3 x3 c3)]).run Tryd.prog w = .ok (.slice (some ⟨w.heap.size, 0, none⟩) 4 4) (w.alloc (.cells #[.func f0 x0 c0, .func f1 x1 c1, .func f2 x2 c2, .func f3 x3 c3] 107)) := by
  kernel_rfl
theorem step_steps {w : World} {ops : Array Oper} {o : Oper} {a : Act} {K : Act → World → Prop} {Q : Exit → Act → World → Prop} {E : Prop} (hw : Region.wanted o (yielded ops a.tmps) = true) (y0 y1 y2 y3 : Operand) (ho : o.op = .buildSlice 109 4 #[(0, y0), (1, y1), (2, y2), (3, y3)])
    (f0 f1 f2 f3 : Fn) (x0 x1 x2 x3 c0 c1 c2 c3 : Array Value) (h0 : a.eval y0 = .func f0 x0 c0) (h1 : a.eval y1 = .func f1 x1 c1) (h2 : a.eval y2 = .func f2 x2 c2) (h3 : a.eval y3 = .func f3 x3 c3) (h : K (a.put o.dst (.slice (some ⟨w.heap.size, 0, none⟩) 4 4)) (w.alloc (.cells #[.func f0 x0 c0, .func f1 x1 c1, .func f2 x2 c2, .func f3 x3 c3] 107))) :
    if Region.wanted o (yielded ops a.tmps) = true then Oper.wp Tryd.prog o a w K Q else E := by
  rw [if_pos hw]
  unfold Oper.wp execOp
  simp only [ho, List.map_toArray, List.map_cons, List.map_nil, h0, h1, h2, h3, Sem.run_bind, slice_steps, Result.andThen_ok, Sem.run_pure]
  exact h
/-- The superblocks of a Format. -/
def fS (n : Nat) (wd g : Int) : Sup := ⟨wd, g, 2, 0, n⟩
theorem fS_valid {n : Nat} {wd g : Int} (h3 : 3 ≤ n) (h4 : n ≤ 4096) (hw : 1 ≤ wd ∧ wd ≤ 32) (hg : 0 ≤ g ∧ g ≤ 1) : validS (fS n wd g) = true := by
  rw [validS_iff]; simp only [fS]; exact ⟨hw.1, hw.2, hg.1, by omega, by omega, by omega, by omega, by omega, Or.inl trivial⟩
end Go.Proofs.YtcndllcalnffoaaDoor
