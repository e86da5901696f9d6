import Derived.Test.YtbgjnihkiolmlaaE4c
import Derived.Great.BuildSlice
namespace Go.Proofs.Ytbgjnihkiolmlaa
set_option linter.unusedVariables false
set_option linter.unusedSimpArgs false
open Go.RowKit
attribute [local go_sem ↓] Go.wp_at_zero Go.wp_at_succ

theorem foldl_set : ∀ (ks : List Value) (n : Nat) (cur : List Value), n + ks.length = cur.length → (ks.zipIdx n).foldl (fun (cs : Array Value) (p : Value × Nat) => cs.setIfInBounds (0 + p.2) p.1) cur.toArray = (cur.take n ++ ks).toArray
  | [], n, cur, h => by simp at h; simp [List.take_of_length_le (Nat.le_of_eq h.symm)]
  | k :: ks, n, cur, h => by
    have h : n + (ks.length + 1) = cur.length := by simpa using h
    rw [List.zipIdx_cons, List.foldl_cons]
    show (ks.zipIdx (n + 1)).foldl _ (cur.toArray.setIfInBounds (0 + n) k) = _
    rw [Nat.zero_add, List.setIfInBounds_toArray, foldl_set ks (n + 1) (cur.set n k) (by simp; omega)]
    rw [List.take_succ_eq_append_getElem (by simp; omega), List.getElem_set_self, List.take_set_of_le (Nat.le_refl _), List.append_assoc]; rfl
theorem fill_one (size : Nat) (zs : Array Value) (ks : List Value) (h1 : ks.length = size) (h2 : zs.size = size) : Instr.fill (fun i => some (i * size, size)) zs [(0, Value.agg ks.toArray)] = some ks.toArray := by
  unfold Instr.fill
  have hc : (Value.agg ks.toArray).cells = ks.toArray := rfl
  simp only [hc, Nat.zero_mul, List.size_toArray, h1, h2, Nat.zero_add]
  rw [if_neg (by simp)]
  unfold Instr.fill
  have e := foldl_set ks 0 zs.toList (by simp [h1, h2])
  simp only [Nat.zero_add] at e
  simp only [List.take_zero, List.nil_append, Array.toArray_toList] at e
  rw [← Array.foldl_toList, Array.toList_zipIdx]
  exact congrArg some e
theorem infoWm : (Try.prog.info? 91).map (fun i => (i.zero.map fun z => z.cells.size, i.size, i.bytes)) = some (some 257, 257, 264) := by kernel_rfl
theorem infoW : ∃ i z, Try.prog.info? 91 = some i ∧ i.zero = some z ∧ z.cells.size = 257 ∧ i.size = 257 ∧ i.bytes = 264 := by
  have h := infoWm
  cases hq : Try.prog.info? 91 with
  | none => rw [hq] at h; cases h
  | some i =>
    rw [hq] at h
    simp only [Option.map_some, Option.some.injEq, Prod.mk.injEq] at h
    obtain ⟨h1, h2, h3⟩ := h
    cases hz : i.zero with
    | none => rw [hz] at h1; cases h1
    | some z =>
      rw [hz] at h1
      exact ⟨i, z, rfl, hz, by simpa using h1, h2, h3⟩
theorem slice_w (ks : List Value) (hk : ks.length = 257) (w : World) :
    (Instr.buildSlice 56 1 #[(0, .agg ks.toArray)]).run Try.prog w = .ok (.slice (some ⟨w.heap.size, 0, none⟩) 1 1) (w.alloc (.cells ks.toArray 91)) := by
  obtain ⟨i, z, hi, hz, hzc, hs, hb⟩ := infoW
  exact run_buildSlice w 56 91 1 _ ks.toArray i z Try.underlying56 hi hz (by rw [hs]; decide) (by rw [hs]; decide) (by rw [hs]; exact fill_one 257 _ ks hk (by simp))
theorem step_sliceW {w : World} {ops : Array Oper} {o : Oper} {a : Act} {K : Act → World → Prop} {Q : Exit → Act → World → Prop} {E : Prop} (hw : Region.wanted o (yielded ops a.tmps) = true) (x : Operand) (ho : o.op = .buildSlice 56 1 #[(0, x)])
    (ks : List Value) (hk : ks.length = 257) (hx : a.eval x = .agg ks.toArray) (h : K (a.put o.dst (.slice (some ⟨w.heap.size, 0, none⟩) 1 1)) (w.alloc (.cells ks.toArray 91))) :
    if Region.wanted o (yielded ops a.tmps) = true then Oper.wp Try.prog o a w K Q else E := by
  rw [if_pos hw]
  unfold Oper.wp execOp
  simp only [ho, List.map_toArray, List.map_cons, List.map_nil, hx, Sem.run_bind, slice_w ks hk w, Result.andThen_ok, Sem.run_pure]
  exact h
/-- append(own row of writes, one more), as a step of a region that draws its order. -/
theorem step_pushW {w : World} {ops : Array Oper} {o : Oper} {a : Act} {K : Act → World → Prop} {Q : Exit → Act → World → Prop} {E : Prop} (hgd : o.guard = none) (s x : Operand)
    (ho : o.op = .call { callee := .builtin .append, args := #[s, x], argTypes := #[56, 56] })
    (base : Nat) (v : Value) (n : Nat) (xs : List Value) (ks : List Value) (hs : a.eval s = v) (hown : w.ownsRow base 91 257 v n xs) (hx : a.eval x = .slice (some ⟨w.heap.size, 0, none⟩) 1 1) (hl : ks.length = 257) (h1 : ∀ y ∈ ks, y.oneCell' = true)
    (hlen : n + 1 ≤ 400000000001) (hbase : base ≤ w.heap.size) (t : TypeId) (fr : Nat × Nat)
    (h : ∀ v' w', w'.ownsRow base 91 257 v' (n + 1) (xs ++ ks) → (w.alloc (.cells ks.toArray t fr)).grownBy w' v.ownBlock → (v'.ownBlock = v.ownBlock ∨ v'.ownBlock = some (w.heap.size + 1)) → K (a.put o.dst v') w') :
    if Region.wanted o (yielded ops a.tmps) = true then Oper.wp Try.prog o a (w.alloc (.cells ks.toArray t fr)) K Q else E := by
  have hw : Region.wanted o (yielded ops a.tmps) = true := by simp [Region.wanted, hgd]
  rw [if_pos hw]
  obtain ⟨i5, z, hi5, hz5, hc5, hs5, hy5⟩ := infoW
  have hown' : (w.alloc (.cells ks.toArray t fr)).ownsRow base 91 257 v n xs := ownsRow_heap hown fun k hk => by
    obtain ⟨_, cur, hh⟩ := ownsRow_block hown k hk
    rw [hh]; exact hold hh
  obtain ⟨v', w', hr, q1, q2, _, q4⟩ := run_append_own_at (P := Try.prog) (w.alloc (.cells ks.toArray t fr)) base 56 o.type 91 i5 z 257 264 Try.underlying56 hi5 hz5 hs5 hy5 hc5 (by decide) v n _ hown' ⟨w.heap.size, 0, none⟩ 1 1 ks (by omega) (by
    intro j u hu
    rw [Addr.add_mid, Nat.zero_add, cell_of_row _ _ _ _ _ _ (hnew w _)]
    simpa using hu) h1 (by unfold maxLen; omega) (by omega) (by simp; omega)
  unfold Oper.wp execOp
  simp only [ho, resolve, invoke, builtin, Sem.run_bind, Sem.run_pure, Result.andThen_ok, List.map_toArray, List.map_cons, List.map_nil, hs, hx, hr]
  refine h v' w' q1 q2 ?_
  rcases q4 with e | e
  · exact Or.inl e
  · exact Or.inr (by rw [e]; simp)
/-! A write of zeros. -/
def zW (q : Int) : List Value := .int .i64 q :: ints .u8 (List.replicate 256 0)
theorem zW_len (q : Int) : (zW q).length = 257 := by rw [zW, List.length_cons, ints_len, List.length_replicate]
theorem zW_one (q : Int) : ∀ v ∈ zW q, v.oneCell' = true := by
  intro v hv
  rcases List.mem_cons.1 hv with rfl | h
  · rfl
  · exact ints_one _ _ v h
theorem run_buildW (q : Int) (w : World) : (Instr.build 91 #[(0, .int .i64 q)]).run Try.prog w = .ok (.agg (zW q).toArray) w := by kernel_rfl
theorem run_allocW (a : Act) (o : Oper) (ho : o.op = .alloc 91) (w : World) : (execOp a.eval o).run Try.prog w = .ok (.value (.pointer (some ⟨w.heap.size, 0, none⟩))) (w.alloc (.cells (zW 0).toArray 91)) := by
  unfold execOp
  rw [ho]
  kernel_rfl
theorem wpList_allocW {w : World} {ops : Array Oper} {rest : List Oper} {o : Oper} {a : Act} {Q : Exit → Act → World → Prop} (hg : o.guard = none) (ho : o.op = .alloc 91) (Z : List Value) (hZ : Z = zW 0)
    (h : wpList Try.prog ops Q rest (a.put o.dst (.pointer (some ⟨w.heap.size, 0, none⟩))) (w.alloc (.cells Z.toArray 91))) : wpList Try.prog ops Q (o :: rest) a w := by
  subst hZ
  refine wpList_plain hg fun K hK => ?_
  unfold Oper.wp
  rw [run_allocW a o ho w]
  exact hK _ _ h
theorem wpList_buildW {w : World} {ops : Array Oper} {rest : List Oper} {o : Oper} {a : Act} {Q : Exit → Act → World → Prop} (hg : o.guard = none) (x : Operand) (ho : o.op = .build 91 #[(0, x)]) (q : Int) (hx : a.eval x = .int .i64 q) (Z : List Value) (hZ : Z = zW q)
    (h : wpList Try.prog ops Q rest (a.put o.dst (.agg Z.toArray)) w) : wpList Try.prog ops Q (o :: rest) a w := by
  subst hZ
  refine wpList_plain hg fun K hK => ?_
  unfold Oper.wp execOp
  simp only [ho, List.map_toArray, List.map_cons, List.map_nil, hx, Sem.run_bind, run_buildW q w, Result.andThen_ok, Sem.run_pure]
  exact hK _ _ h
theorem sizeW : (Try.prog.info? 91).map (·.size) = some 257 := by kernel_rfl
end Go.Proofs.Ytbgjnihkiolmlaa
