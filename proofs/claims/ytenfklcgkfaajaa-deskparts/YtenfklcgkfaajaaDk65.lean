import Derived.Test.YtenfklcgkfaajaaDw
import Derived.Test.YtenfklcgkfaajaaDk41
import Derived.Test.YtenfklcgkfaajaaDk38
namespace Go.Proofs.Ytenfklcgkfaajaa
set_option linter.unusedVariables false
set_option linter.unusedSimpArgs false
open Go.RowKit
attribute [local go_sem ↓] Go.wp_at_zero Go.wp_at_succ

theorem src_blk {w w1 : World} {k cap : Nat} {zs : List Int} (h : Src w (some ⟨k, 0, none⟩) cap zs) (hh : w1.heap[k]? = w.heap[k]?) (hs : w.heap.size ≤ w1.heap.size) : Src w1 (some ⟨k, 0, none⟩) cap zs := by
  obtain ⟨h1, h2, b, o, h3, h4, h5⟩ := h
  refine ⟨h1, h2, b, o, fun hp => Nat.lt_of_lt_of_le (h3 hp) hs, h4, fun j hj => ?_⟩
  have e := h4 (by omega)
  cases e
  rw [← h5 j hj]
  unfold World.cell?
  simp only
  rw [hh]
theorem Rmy.blk {w w1 : World} {k cap : Nat} {zs : List Int} (h : Rmy w k cap zs) (hh : w1.heap[k]? = w.heap[k]?) (hs : w.heap.size ≤ w1.heap.size) : Rmy w1 k cap zs :=
  ⟨src_blk h.1 hh hs, Nat.lt_of_lt_of_le h.2.1 hs, by obtain ⟨cs, e, hs⟩ := h.2.2; exact ⟨cs, hh.trans e, hs⟩⟩
/-- A list of elements that the law made: its values are roomy copies. -/
structure ElR (c : Bool) (w : World) (base : Nat) (v : Value) (ms : List ME) (xs : List Cg) : Prop where
  own : OwnL c w base v ms
  len : ms.length = xs.length
  el : ∀ i, i < xs.length → (ms.getD i dM).key = (xs.getD i dX).key ∧ (xs.getD i dX).key.length = 32 ∧ (ms.getD i dM).del = (xs.getD i dX).del ∧ ∃ k cap, (ms.getD i dM).sv = .slice (some ⟨k, 0, none⟩) (xs.getD i dX).val.length cap ∧ base ≤ k ∧ Rmy w k cap (xs.getD i dX).val
theorem ElR.nil (c : Bool) (w : World) (base : Nat) : ElR c w base (.slice none 0 0) [] [] := ⟨OwnL.nil c w base, rfl, fun i hi => by simp at hi⟩
theorem ElR.of_heap {c : Bool} {w w1 : World} {base : Nat} {v : Value} {ms : List ME} {xs : List Cg} (h : ElR c w base v ms xs) (hs : w.heap.size ≤ w1.heap.size) (hk : ∀ k cs t, base ≤ k → w.heap[k]? = some (.cells cs t (0, 0)) → (t = 5 ∨ t = tyE c) → w1.heap[k]? = w.heap[k]?) : ElR c w1 base v ms xs :=
  ⟨h.own.of_heap fun k hv => by obtain ⟨a, _, cs, e⟩ := h.own.block k hv; exact hk k cs _ a e (Or.inr rfl), h.len, fun i hi => by
    obtain ⟨a1, a2, a3, k, cap, a4, a5, a6⟩ := h.el i hi
    obtain ⟨cs, e, _⟩ := a6.2.2
    exact ⟨a1, a2, a3, k, cap, a4, a5, a6.blk (hk k cs 5 a5 e (Or.inl rfl)) hs⟩⟩
theorem ElR.keeps {c : Bool} {w w1 : World} {base g : Nat} {v : Value} {ms : List ME} {xs : List Cg} (h : ElR c w base v ms xs) (hk : Keeps g w w1) (hg : g < base) : ElR c w1 base v ms xs :=
  h.of_heap hk.size fun k cs t hb e _ => hk.block k (hlt e) (by omega)
theorem ElR.below {c : Bool} {w w1 : World} {base B : Nat} {v : Value} {ms : List ME} {xs : List Cg} (h : ElR c w base v ms xs) (hb : Below B w w1) (hB : w.heap.size ≤ B) : ElR c w1 base v ms xs :=
  h.of_heap hb.size fun k cs t _ e _ => hb.block k (Nat.lt_of_lt_of_le (hlt e) hB)
theorem tyE_5 (c : Bool) : tyE c ≠ 5 := by cases c <;> decide
theorem tyE_ne : tyE false ≠ tyE true := by decide
/-- Another list's growth leaves it. -/
theorem ElR.other {c d : Bool} {w w1 : World} {base : Nat} {v v2 : Value} {ms ms2 : List ME} {xs : List Cg} (h : ElR c w base v ms xs) (ho : OwnL d w base v2 ms2) (hcd : tyE c ≠ tyE d) (hg : w.grownBy w1 v2.ownBlock) : ElR c w1 base v ms xs :=
  h.of_heap hg.size fun k cs t _ e ht => hg.block k (hlt e) fun e2 => by
    obtain ⟨_, _, ds, e3⟩ := ho.block k e2.symm
    rw [e3] at e
    cases e
    rcases ht with h | h
    · exact tyE_5 d h
    · exact hcd h.symm
theorem Rmy.other {d : Bool} {w w1 : World} {base k cap : Nat} {v2 : Value} {ms2 : List ME} {zs : List Int} (h : Rmy w k cap zs) (ho : OwnL d w base v2 ms2) (hg : w.grownBy w1 v2.ownBlock) : Rmy w1 k cap zs :=
  h.blk (hg.block k h.2.1 fun e2 => by
    obtain ⟨cs, e, _⟩ := h.2.2
    obtain ⟨_, _, ds, e3⟩ := ho.block k e2.symm
    have e4 := e3.symm.trans e
    simp only [Option.some.injEq, Obj.cells.injEq] at e4
    exact tyE_5 d e4.2.1) hg.size
/-- Its own growth by one element. -/
theorem ElR.snoc {c : Bool} {w w1 : World} {base : Nat} {v v' : Value} {ms : List ME} {xs : List Cg} {x : Cg} {k cap : Nat} (h : ElR c w base v ms xs) (ho : OwnL c w1 base v' (ms ++ [⟨x.key, x.del, .slice (some ⟨k, 0, none⟩) x.val.length cap⟩])) (hg : w.grownBy w1 v.ownBlock) (hk : x.key.length = 32) (hb : base ≤ k) (hR : Rmy w k cap x.val) : ElR c w1 base v' (ms ++ [⟨x.key, x.del, .slice (some ⟨k, 0, none⟩) x.val.length cap⟩]) (xs ++ [x]) := by
  refine ⟨ho, by simp [h.len], fun i hi => ?_⟩
  have hi' : i < xs.length + 1 := by simpa using hi
  by_cases he : i < xs.length
  · rw [gD_app_l _ _ _ _ he, gD_app_l _ _ _ _ (by rw [h.len]; exact he)]
    obtain ⟨a1, a2, a3, k', cap', a4, a5, a6⟩ := h.el i he
    exact ⟨a1, a2, a3, k', cap', a4, a5, a6.other h.own hg⟩
  · obtain rfl : i = xs.length := by omega
    rw [gD_app_r]
    rw [← h.len, gD_app_r]
    exact ⟨rfl, hk, rfl, k, cap, rfl, hb, hR.other h.own hg⟩
/-- As it lies in memory. -/
structure ElS (c : Bool) (w : World) (sp : Option Addr) (cap : Nat) (xs : List Cg) : Prop where
  nl : sp = none → cap = 0
  le : xs.length ≤ cap
  mx : cap ≤ maxLen
  el : ∃ b o, (0 < xs.length → sp = some ⟨b, o, none⟩ ∧ b < w.heap.size) ∧ ∀ k, k < xs.length → ∃ s p, w.rangeAt b (o + k * szE c) (elC c (xs.getD k dX).key (xs.getD k dX).del (.slice (some ⟨s, 0, none⟩) (xs.getD k dX).val.length p)) ∧ (xs.getD k dX).key.length = 32 ∧ Rmy w s p (xs.getD k dX).val
theorem ElS.inn {c : Bool} {w : World} {sp : Option Addr} {cap : Nat} {xs : List Cg} (h : ElS c w sp cap xs) : ElI c w sp cap xs := by
  obtain ⟨a1, a2, a3, b, o, h1, h2⟩ := h
  refine ⟨a1, a2, a3, b, o, h1, fun k hk => ?_⟩
  obtain ⟨s, p, r1, r2, r3⟩ := h2 k hk
  exact ⟨_, p, r1, r2, r3.src, fun e => by cases e⟩
theorem ElS.below {c : Bool} {w w1 : World} {sp : Option Addr} {cap : Nat} {xs : List Cg} (h : ElS c w sp cap xs) (hb : Below w.heap.size w w1) : ElS c w1 sp cap xs := by
  obtain ⟨a1, a2, a3, b, o, h1, h2⟩ := h
  refine ⟨a1, a2, a3, b, o, fun hp => ⟨(h1 hp).1, Nat.lt_of_lt_of_le (h1 hp).2 hb.size⟩, fun k hk => ?_⟩
  obtain ⟨s, p, r1, r2, r3⟩ := h2 k hk
  exact ⟨s, p, rng_below r1 hb (h1 (by omega)).2, r2, r3.below hb (Nat.le_refl _)⟩
theorem ElR.src {c : Bool} {w : World} {base : Nat} {v : Value} {ms : List ME} {xs : List Cg} (h : ElR c w base v ms xs) : ∃ sp cap, v = .slice sp xs.length cap ∧ ElS c w sp cap xs := by
  have hml : ∀ m ∈ ms, (enM c m).length = szE c := fun m hm => by
    obtain ⟨i, hi, e⟩ := List.mem_iff_getElem.1 hm
    obtain ⟨a1, a2, _, _⟩ := h.el i (by rw [← h.len]; exact hi)
    have e2 : ms.getD i dM = m := by rw [List.getD_eq_getElem?_getD, List.getElem?_eq_getElem hi, e]; rfl
    rw [e2] at a1
    exact elC_len (by rw [a1]; exact a2)
  have hs := h.len
  obtain ⟨h1, ⟨rfl, hn⟩ | ⟨g, cap, cur, rfl, hg, hh, hc, hm, hsz, ht⟩⟩ := h.own
  · have h0 : xs.length = 0 := by rw [← hs, hn]
    exact ⟨none, 0, by rw [h0], fun _ => rfl, by omega, by simp [maxLen], 0, 0, fun hp => by omega, fun k hk => by omega⟩
  · refine ⟨some ⟨g, 0, none⟩, cap, by rw [hs], (fun e => by cases e), by rw [← hs]; exact hc, hm, g, 0, fun _ => ⟨rfl, hlt hh⟩, fun k hk => ?_⟩
    obtain ⟨a1, a2, a3, s, p, a4, a5, a6⟩ := h.el k hk
    refine ⟨s, p, fun j v' hv => ?_, a2, a6⟩
    have hj : j < szE c := by have := (List.getElem?_eq_some_iff.1 hv).1; rwa [elC_len a2] at this
    have hk' : k < ms.length := by rw [hs]; exact hk
    have hb : k * szE c + j < ms.length * szE c := by
      have : (k + 1) * szE c ≤ ms.length * szE c := Nat.mul_le_mul_right _ hk'
      rw [Nat.add_mul] at this; omega
    have hfl := flat_get c ms hml k j hj
    rw [if_pos hk'] at hfl
    rw [Nat.zero_add, cell_of_row _ _ _ _ _ _ hh]
    have e : cur.toList[k * szE c + j]? = (ms.flatMap (enM c))[k * szE c + j]? := by rw [← ht, List.getElem?_take, if_pos hb]
    rw [← Array.getElem?_toList, e, hfl]
    unfold enM
    rw [a1, a3, a4]; exact hv
/-! Steps inside a drawn region. -/
theorem bld_e (l : List Value) (h : l.length = 32) (v : Value) (w : World) (sp : Option Addr) (n c : Nat) (hv : v = .slice sp n c) : (Instr.build 52 #[(0, .agg l.toArray), (1, v)]).run Try.prog w = .ok (.agg (l ++ [v]).toArray) w := by
  subst hv
  obtain ⟨x0, x1, x2, x3, x4, x5, x6, x7, x8, x9, x10, x11, x12, x13, x14, x15, x16, x17, x18, x19, x20, x21, x22, x23, x24, x25, x26, x27, x28, x29, x30, x31, rfl⟩ := list32 h
  kernel_rfl
theorem bld_c (l : List Value) (h : l.length = 32) (d : Bool) (w : World) (sp : Option Addr) (n c : Nat) : (Instr.build 54 #[(0, .agg l.toArray), (1, .bool d), (2, .slice sp n c)]).run Try.prog w = .ok (.agg (l ++ [Value.bool d, Value.slice sp n c]).toArray) w := by
  obtain ⟨x0, x1, x2, x3, x4, x5, x6, x7, x8, x9, x10, x11, x12, x13, x14, x15, x16, x17, x18, x19, x20, x21, x22, x23, x24, x25, x26, x27, x28, x29, x30, x31, rfl⟩ := list32 h
  kernel_rfl
theorem yields_e {ops : Array Oper} {S : World → Prop} {o : Oper} {a : Act} (hw : Region.wanted o (yielded ops a.tmps) = true) (x z : Operand) (ho : o.op = .build 52 #[(0, x), (1, z)])
    (k : List Int) (hk : k.length = 32) (d : Bool) (sp : Option Addr) (n c : Nat) (hx : a.eval x = .agg (ints .u8 k).toArray) (hz : a.eval z = .slice sp n c) :
    YieldsIf Try.prog ops S o (.agg (elC false k d (.slice sp n c)).toArray) a :=
  .inl ⟨hw, fun w _ => by
    unfold execOp
    simp only [ho, List.map_toArray, List.map_cons, List.map_nil, hx, hz, Sem.run_bind, bld_e (ints .u8 k) (by rw [ints_len, hk]) (.slice sp n c) w sp n c rfl, Result.andThen_ok, Sem.run_pure]
    rfl⟩
theorem yields_c {ops : Array Oper} {S : World → Prop} {o : Oper} {a : Act} (hw : Region.wanted o (yielded ops a.tmps) = true) (x y z : Operand) (ho : o.op = .build 54 #[(0, x), (1, y), (2, z)])
    (k : List Int) (hk : k.length = 32) (d : Bool) (sp : Option Addr) (n c : Nat) (hx : a.eval x = .agg (ints .u8 k).toArray) (hy : a.eval y = .bool d) (hz : a.eval z = .slice sp n c) :
    YieldsIf Try.prog ops S o (.agg (elC true k d (.slice sp n c)).toArray) a :=
  .inl ⟨hw, fun w _ => by
    unfold execOp
    simp only [ho, List.map_toArray, List.map_cons, List.map_nil, hx, hy, hz, Sem.run_bind, bld_c (ints .u8 k) (by rw [ints_len, hk]) d w sp n c, Result.andThen_ok, Sem.run_pure]
    rfl⟩
theorem step_sliceL (c : Bool) {w : World} {ops : Array Oper} {o : Oper} {a : Act} {K : Act → World → Prop} {Q : Exit → Act → World → Prop} {E : Prop} (hw : Region.wanted o (yielded ops a.tmps) = true) (x : Operand) (ho : o.op = .buildSlice (tyL c) 1 #[(0, x)])
    (ks : List Value) (hk : ks.length = szE c) (hx : a.eval x = .agg ks.toArray) (h : K (a.put o.dst (.slice (some ⟨w.heap.size, 0, none⟩) 1 1)) (w.alloc (.cells ks.toArray (tyE c)))) :
    if Region.wanted o (yielded ops a.tmps) = true then Oper.wp Try.prog o a w K Q else E := by
  rw [if_pos hw]
  unfold Oper.wp execOp
  simp only [ho, List.map_toArray, List.map_cons, List.map_nil, hx, Sem.run_bind, slice_el c ks hk w, Result.andThen_ok, Sem.run_pure]
  exact h
theorem step_pushL (c : Bool) {w : World} {ops : Array Oper} {o : Oper} {a : Act} {K : Act → World → Prop} {Q : Exit → Act → World → Prop} {E : Prop} (hgd : o.guard = none) (s x : Operand)
    (ho : o.op = .call { callee := .builtin .append, args := #[s, x], argTypes := #[tyL c, tyL c] })
    (base : Nat) (v : Value) (ms : List ME) (m : ME) (hs : a.eval s = v) (hown : OwnL c w base v ms) (hx : a.eval x = .slice (some ⟨w.heap.size, 0, none⟩) 1 1) (hl : (enM c m).length = szE c) (h1 : ∀ y ∈ enM c m, y.oneCell' = true)
    (hlen : (ms.length + 1) * (if c then 64 else 56) ≤ 140737488355328) (hbase : base ≤ w.heap.size) (t : TypeId) (fr : Nat × Nat)
    (h : ∀ v' w', OwnL c w' base v' (ms ++ [m]) → w.grownBy w' v.ownBlock → K (a.put o.dst v') w') :
    if Region.wanted o (yielded ops a.tmps) = true then Oper.wp Try.prog o a (w.alloc (.cells (enM c m).toArray t fr)) K Q else E := by
  have hw : Region.wanted o (yielded ops a.tmps) = true := by simp [Region.wanted, hgd]
  rw [if_pos hw]
  obtain ⟨i5, z, hi5, hz5, hc5, hs5, hy5⟩ := Try.infoE c
  have hown' : OwnL c (w.alloc (.cells (enM c m).toArray t fr)) base v ms := hown.of_heap fun k hk => by
    show (w.heap.push _)[k]? = _
    rw [Array.getElem?_push, if_neg (by have := (hown.block k hk).2.1; omega)]
  have hz0 : 0 < szE c := by unfold szE; cases c <;> simp
  have hle : ms.length + 1 ≤ 140737488355328 := by cases c <;> simp at hlen <;> omega
  obtain ⟨v', w', hr, q1, q2, _, q4⟩ := run_append_own_at (P := Try.prog) (w.alloc (.cells (enM c m).toArray t fr)) base (tyL c) o.type (tyE c) i5 z (szE c) (if c then 64 else 56) (Try.undL c) hi5 hz5 hs5 hy5 hc5 hz0 v ms.length _ hown' ⟨w.heap.size, 0, none⟩ 1 1 (enM c m) (by omega) (by
    intro j u hu
    rw [Addr.add_mid, Nat.zero_add, cell_of_row _ _ _ _ _ _ (hnew w _)]
    simpa using hu) h1 (by unfold maxLen; omega) (by cases c <;> simp at hlen ⊢ <;> omega) (by simp; omega)
  unfold Oper.wp execOp
  simp only [ho, resolve, invoke, builtin, Sem.run_bind, Sem.run_pure, Result.andThen_ok, List.map_toArray, List.map_cons, List.map_nil, hs, hx, hr]
  refine h v' w' (by unfold OwnL; rw [List.length_append, List.flatMap_append]; simpa using q1) ⟨q2.os, q2.tape, q2.output, ?_, fun k hk hne => ?_⟩
  · have := q2.size; simp at this; omega
  · rw [q2.block k (by simp; omega) hne]
    show (w.heap.push _)[k]? = _
    rw [Array.getElem?_push, if_neg (by omega)]
theorem step_storeW {P : Program} {w : World} {ops : Array Oper} {op : Oper} {a : Act} {K : Act → World → Prop} {Q : Exit → Act → World → Prop} {E : Prop} (hw : Region.wanted op (yielded ops a.tmps) = true) (ty : TypeId) (x y : Operand) (ho : op.op = .store ty x y)
    (b o : Nat) (v : Value) (hx : a.eval x = .pointer (some ⟨b, o, none⟩)) (hy : a.eval y = v) (cs : List Value) (t : TypeId) (hrow : w.heap[b]? = some (.cells cs.toArray t (0, 0))) (hj : o < cs.length) (hi : (P.info? ty).map (·.size) = some 1) (hv : v.cells = #[v]) (h1 : v.oneCell' = true)
    (h : ∀ w', w'.heap[b]? = some (.cells (cs.set o v).toArray t (0, 0)) → Keeps b w w' → K (a.put op.dst undef) w') :
    if Region.wanted op (yielded ops a.tmps) = true then Oper.wp P op a w K Q else E := by
  rw [if_pos hw]
  unfold Oper.wp execOp
  simp only [ho, hx, hy, Instr.storeAt, Instr.sureAddr, Sem.run_bind, Sem.run_pure, Result.andThen_ok, run_storeVar_c w b o ty v cs t hrow hj hi hv h1]
  exact h _ (setRow_keeps hrow).1 (setRow_keeps hrow).2
theorem step_loadC {P : Program} {w : World} {ops : Array Oper} {op : Oper} {a : Act} {K : Act → World → Prop} {Q : Exit → Act → World → Prop} {E : Prop} (hw : Region.wanted op (yielded ops a.tmps) = true) (ty : TypeId) (x : Operand) (ho : op.op = .load ty x) (ad : Addr) (v : Value) (hx : a.eval x = .pointer (some ad)) (hc : (loadVar ty ad).run P w = .ok v w) (h : K (a.put op.dst v) w) :
    if Region.wanted op (yielded ops a.tmps) = true then Oper.wp P op a w K Q else E := by
  rw [if_pos hw]
  unfold Oper.wp execOp
  simp only [ho, hx, Instr.loadAt, Instr.sureAddr, Sem.run_bind, Sem.run_pure, Result.andThen_ok, hc]
  exact h
end Go.Proofs.Ytenfklcgkfaajaa
