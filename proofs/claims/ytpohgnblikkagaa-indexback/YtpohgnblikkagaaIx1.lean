import Derived.Test.YtpohgnblikkagaaKpB
import Derived.Lib.LazyBuf
namespace Go.Proofs.Ytpohgnblikkagaa
set_option linter.unusedVariables false
set_option linter.unusedSimpArgs false
open Go.RowKit
attribute [local go_sem ↓] Go.wp_at_zero Go.wp_at_succ

def zD : List Int := padz [] 32
theorem zD_len : zD.length = 32 := rfl
def four (x : Int) : List Int := [x % 256, x / 256 % 256, x / 65536 % 256, x / 16777216 % 256]
theorem four_len (x : Int) : (four x).length = 4 := rfl
def numP (t : List Int) (i : Nat) : Int := t.getD i 0 + 256 * t.getD (i + 1) 0 + 65536 * t.getD (i + 2) 0 + 16777216 * t.getD (i + 3) 0
theorem numP_four (A B : List Int) (x : Int) (h0 : 0 ≤ x) (h1 : x < 4294967296) : numP (A ++ (four x ++ B)) A.length = x := by
  unfold numP
  have e : ∀ j, j < 4 → (A ++ (four x ++ B)).getD (A.length + j) 0 = (four x).getD j 0 := fun j hj => by
    rw [List.getD_eq_getElem?_getD, List.getElem?_append_right (by omega), show A.length + j - A.length = j by omega, List.getElem?_append_left (by rw [four_len]; exact hj), List.getD_eq_getElem?_getD]
  have a := e 0 (by decide)
  rw [Nat.add_zero] at a
  rw [a, e 1 (by decide), e 2 (by decide), e 3 (by decide)]
  simp only [four, List.getD_cons_zero, List.getD_cons_succ]
  omega
theorem four_numP (t : List Int) (hB : ∀ x ∈ t, 0 ≤ x ∧ x < 256) (i : Nat) (hi : i + 4 ≤ t.length) : four (numP t i) = (t.drop i).take 4 := by
  have g : ∀ j, j < t.length → 0 ≤ t.getD j 0 ∧ t.getD j 0 < 256 := fun j hj => hB _ (by rw [List.getD_eq_getElem?_getD, List.getElem?_eq_getElem hj]; exact List.getElem_mem _)
  have g0 := g i (by omega)
  have g1 := g (i + 1) (by omega)
  have g2 := g (i + 2) (by omega)
  have g3 := g (i + 3) (by omega)
  have e : (t.drop i).take 4 = [t.getD i 0, t.getD (i + 1) 0, t.getD (i + 2) 0, t.getD (i + 3) 0] := by
    apply List.ext_getElem?
    intro j
    by_cases hj : j < 4
    · rw [List.getElem?_take, if_pos hj, List.getElem?_drop]
      have q : ∀ m, i + m < t.length → t[i + m]? = some (t.getD (i + m) 0) := fun m hm => by rw [List.getD_eq_getElem?_getD, List.getElem?_eq_getElem hm]; rfl
      match j, hj with
      | 0, _ => exact q 0 (by omega)
      | 1, _ => exact q 1 (by omega)
      | 2, _ => exact q 2 (by omega)
      | 3, _ => exact q 3 (by omega)
    · rw [List.getElem?_eq_none (by simp; omega), List.getElem?_eq_none (by simp; omega)]
  rw [e]
  unfold four numP
  generalize t.getD i 0 = a at *
  generalize t.getD (i + 1) 0 = b at *
  generalize t.getD (i + 2) 0 = c at *
  generalize t.getD (i + 3) 0 = d at *
  simp only [List.cons.injEq, and_true]
  refine ⟨?_, ?_, ?_, ?_⟩ <;> omega
theorem or_nat (A x k : Nat) (hk : k ≤ 24) (hA : A < 2 ^ k) (hx : x < 256) : bits .or .i64 (A : Int) ((x * 2 ^ k : Nat) : Int) = ((A + x * 2 ^ k : Nat) : Int) := by
  have h24 : (2 : Nat) ^ k ≤ 2 ^ 24 := Nat.pow_le_pow_right (by decide) hk
  have hxp : x * 2 ^ k ≤ 255 * 2 ^ 24 := Nat.mul_le_mul (by omega) h24
  show IntKind.i64.wrap ((BitVec.ofInt 64 (A : Int) ||| BitVec.ofInt 64 ((x * 2 ^ k : Nat) : Int)).toNat : Int) = _
  have e1 : (BitVec.ofInt 64 (A : Int)).toNat = A := by rw [BitVec.toNat_ofInt]; omega
  have e2 : (BitVec.ofInt 64 ((x * 2 ^ k : Nat) : Int)).toNat = x * 2 ^ k := by rw [BitVec.toNat_ofInt]; omega
  rw [BitVec.toNat_or, e1, e2, Nat.or_comm, Nat.mul_comm x, ← Nat.two_pow_add_eq_or_of_lt hA, Nat.add_comm, IntKind.wrap_i64]
  rw [Nat.mul_comm] at hxp
  omega
theorem or4 (a b c d : Int) (ha : 0 ≤ a ∧ a < 256) (hb : 0 ≤ b ∧ b < 256) (hc : 0 ≤ c ∧ c < 256) (hd : 0 ≤ d ∧ d < 256) :
    bits .or .i64 (bits .or .i64 (bits .or .i64 a (b * 256)) (c * 65536)) (d * 16777216) = a + 256 * b + 65536 * c + 16777216 * d := by
  obtain ⟨a, rfl⟩ := Int.eq_ofNat_of_zero_le ha.1
  obtain ⟨b, rfl⟩ := Int.eq_ofNat_of_zero_le hb.1
  obtain ⟨c, rfl⟩ := Int.eq_ofNat_of_zero_le hc.1
  obtain ⟨d, rfl⟩ := Int.eq_ofNat_of_zero_le hd.1
  have h1 := or_nat a b 8 (by decide) (by omega) (by omega)
  have h2 := or_nat (a + b * 2 ^ 8) c 16 (by decide) (by omega) (by omega)
  have h3 := or_nat (a + b * 2 ^ 8 + c * 2 ^ 16) d 24 (by decide) (by omega) (by omega)
  rw [show ((b : Int) * 256) = ((b * 2 ^ 8 : Nat) : Int) by omega, h1, show ((c : Int) * 65536) = ((c * 2 ^ 16 : Nat) : Int) by omega, h2, show ((d : Int) * 16777216) = ((d * 2 ^ 24 : Nat) : Int) by omega, h3]
  omega
def Bys (zs : List Int) : Prop := ∀ x ∈ zs, 0 ≤ x ∧ x < 256
theorem Bys.at {zs : List Int} (h : Bys zs) (j : Nat) (hj : j < zs.length) : 0 ≤ zs.getD j 0 ∧ zs.getD j 0 < 256 := h _ (by rw [List.getD_eq_getElem?_getD, List.getElem?_eq_getElem hj]; exact List.getElem_mem _)
/-- A value built, guarded or not. -/
theorem wpList_built {P : Program} {ops : Array Oper} {rest : List Oper} {o : Oper} {a : Act} {w : World} {Q : Exit → Act → World → Prop} (hw : Region.wanted o (yielded ops a.tmps) = true) (t : TypeId) (parts : Array (Nat × Operand)) (ho : o.op = .build t parts) (ps : List (Nat × Value)) (hp : (parts.toList.map fun (i, x) => (i, a.eval x)) = ps) (cs : Array Value) (hb : P.built t ps = some cs)
    (h : wpList P ops Q rest (a.put o.dst (.agg cs)) w) : wpList P ops Q (o :: rest) a w := by
  have e : P.built t (parts.map fun (i, x) => (i, a.eval x)).toList = some cs := by rw [Array.toList_map, hp]; exact hb
  exact BigFrame.wpList_want hw fun _ hK => wp_build t parts ho (by rw [e]; rfl) (by rw [e]; exact hK _ _ h)
/-- A row of bytes compared, at any depth. -/
theorem eqIn_ints {P : Program} {t e : TypeId} {kd : IntKind} {n : Nat} (ht : P.underlying t = some (.array n e)) (hu : P.underlying e = some (.int kd)) (hs : (P.info? e).map (·.size) = some 1) (k : IntKind) (d : Nat) (ax bs : List Int) (ha : ax.length = n) (hb : bs.length = n) (w : World) :
    (Op.equalIn (d + 1 + 1) t (.agg (ax.map (Value.int k)).toArray) (.agg (bs.map (Value.int k)).toArray)).run P w = .ok (decide (ax = bs)) w := by
  obtain ⟨i, hi⟩ := info_of_underlying hu
  have hc : P.cellsOf e = 1 := by simp [Program.cellsOf, hi] at hs ⊢; exact hs
  rw [run_equalIn_array w (d + 1) _ _ ht hi, hc, eqItems_ints hu d k ax bs w _ (fun j hj => by simp at hj; omega), all_range_eq ax bs n ha hb]
theorem part_row {P : Program} {e t : TypeId} {n : Nat} (hu : P.underlying t = some (.array n e)) {m : Nat} (hs : (P.info? t).map (·.size) = some m) (xs : Array Value) (o : Nat) (w : World) : (part t xs o).run P w = .ok (.agg (xs.extract o (o + m))) w := by
  have hagg : (isAgg t).run P w = .ok true w := by
    unfold isAgg
    rw [Sem.run_bind, run_underlying hu w]
    rfl
  obtain ⟨i, hi, rfl⟩ := Option.map_eq_some_iff.1 hs
  simp [part, Sem.run_bind, hagg, sizeOf, typeInfo, hi]
theorem eqFields_cons {P : Program} {d : Nat} {xs ys : Array Value} {f : Field} {fs : List Field} {w : World} {a b : Value} {r : Bool} (hn : f.name ≠ "_") (ha : (part f.type xs f.offset).run P w = .ok a w) (hb : (part f.type ys f.offset).run P w = .ok b w) (hr : (Op.equalIn d f.type a b).run P w = .ok r w) :
    (Op.eqFields d xs ys (f :: fs)).run P w = if r = true then (Op.eqFields d xs ys fs).run P w else .ok false w := by
  simp only [Op.eqFields, ne_eq, hn, not_false_eq_true, if_true, Sem.run_bind, ha, hb, hr, Result.andThen_ok]
  cases r <;> simp
theorem Try.sizeD : (Try.prog.info? 23).map (·.size) = some 32 := by kernel_rfl
theorem list32 {l : List Value} (h : l.length = 32) : ∃ x0 x1 x2 x3 x4 x5 x6 x7 x8 x9 x10 x11 x12 x13 x14 x15 x16 x17 x18 x19 x20 x21 x22 x23 x24 x25 x26 x27 x28 x29 x30 x31, l = [x0, x1, x2, x3, x4, x5, x6, x7, x8, x9, x10, x11, x12, x13, x14, x15, x16, x17, x18, x19, x20, x21, x22, x23, x24, x25, x26, x27, x28, x29, x30, x31] := by
  match l, h with
  | [x0, x1, x2, x3, x4, x5, x6, x7, x8, x9, x10, x11, x12, x13, x14, x15, x16, x17, x18, x19, x20, x21, x22, x23, x24, x25, x26, x27, x28, x29, x30, x31], _ => exact ⟨x0, x1, x2, x3, x4, x5, x6, x7, x8, x9, x10, x11, x12, x13, x14, x15, x16, x17, x18, x19, x20, x21, x22, x23, x24, x25, x26, x27, x28, x29, x30, x31, rfl⟩
def BK (w0 w : World) (L : List (Nat × List Value × Nat)) : Prop := Below w0.heap.size w0 w ∧ ∀ x, x ∈ L → w.heap[x.1]? = some (.cells x.2.1.toArray x.2.2 (0, 0))
theorem BK.nil (w : World) : BK w w [] := ⟨Below.refl _ _, fun x h => by cases h⟩
theorem BK.row {w0 w : World} {L : List (Nat × List Value × Nat)} (h : BK w0 w L) {b t : Nat} {zs : List Value} (hm : (b, zs, t) ∈ L) : w.heap[b]? = some (.cells zs.toArray t (0, 0)) := h.2 _ hm
theorem BK.lt {w0 w : World} {L : List (Nat × List Value × Nat)} (h : BK w0 w L) {b t : Nat} {zs : List Value} (hm : (b, zs, t) ∈ L) : b < w.heap.size := hlt (h.row hm)
theorem BK.call {w0 w w' : World} {L : List (Nat × List Value × Nat)} (h : BK w0 w L) (hb : Below w.heap.size w w') : BK w0 w' L :=
  ⟨h.1.trans (hb.mono h.1.size), fun x hx => hbel hb (h.2 x hx) (hlt (h.2 x hx))⟩
theorem BK.alloc {w0 w : World} {L : List (Nat × List Value × Nat)} (h : BK w0 w L) (zs : List Value) (t : Nat) : BK w0 (w.alloc (.cells zs.toArray t)) ((w.heap.size, zs, t) :: L) := by
  refine ⟨h.1.alloc h.1.size _, fun x hx => ?_⟩
  rcases List.mem_cons.1 hx with rfl | hx
  · exact hnew w _
  · exact hold (h.2 x hx)
theorem BK.other {w0 w : World} {L : List (Nat × List Value × Nat)} (h : BK w0 w L) (o : Obj) : BK w0 (w.alloc o) L := ⟨h.1.alloc h.1.size _, fun x hx => hold (h.2 x hx)⟩
theorem BK.drew {w0 w : World} {L : List (Nat × List Value × Nat)} (h : BK w0 w L) : BK w0 w.drew L := ⟨h.1.drew, h.2⟩
theorem BK.set {w0 w : World} {L : List (Nat × List Value × Nat)} {b t : Nat} {zs : List Value} (h : BK w0 w ((b, zs, t) :: L)) (hb : w0.heap.size ≤ b) (hL : ∀ x, x ∈ L → x.1 ≠ b) (ys : List Value) : BK w0 (w.setRow b ys.toArray) ((b, ys, t) :: L) := by
  refine ⟨below_setRow h.1 hb _, fun x hx => ?_⟩
  rcases List.mem_cons.1 hx with rfl | hx
  · exact setRow_heap _ _ _ _ _ _ (h.2 _ (.head _))
  · exact (setRow_other _ _ _ _ (hL x hx)).trans (h.2 x (.tail _ hx))
theorem BK.cell {w0 w : World} {L : List (Nat × List Value × Nat)} (h : BK w0 w L) {b t : Nat} {zs : List Value} (hm : (b, zs, t) ∈ L) {j : Nat} {v : Value} (hv : zs[j]? = some v) : w.cell? ⟨b, j, none⟩ = some v := by
  rw [cell_of_row _ _ _ _ _ _ (h.row hm)]; simpa using hv
theorem BK.rng {w0 w : World} {L : List (Nat × List Value × Nat)} (h : BK w0 w L) {b t o : Nat} {zs ps : List Value} (hm : (b, zs, t) ∈ L) (hp : ∀ j v, ps[j]? = some v → zs[o + j]? = some v) : w.rangeAt b o ps := fun j v hv => h.cell hm (hp j v hv)
theorem mid_at (A B C : List Value) (m j : Nat) (hm : A.length = m) (v : Value) (hv : B[j]? = some v) : (A ++ (B ++ C))[m + j]? = some v := by
  have hj := (List.getElem?_eq_some_iff.1 hv).1
  rw [List.getElem?_append_right (by omega), show m + j - A.length = j by omega, List.getElem?_append_left hj]; exact hv
/-- A block made and filled at once. -/
theorem wpList_new {P : Program} {t : TypeId} {Z : List Value} {m : Nat} (hz : ∀ (a : Act) (o : Oper) (w : World), o.op = .alloc t → (execOp a.eval o).run P w = .ok (.value (.pointer (some ⟨w.heap.size, 0, none⟩))) (w.alloc (.cells Z.toArray t))) (hZ : Z.length = m) (hi : (P.info? t).map (·.size) = some m)
    {ops : Array Oper} {rest : List Oper} {o1 o2 : Oper} {a : Act} {w : World} {Q : Exit → Act → World → Prop} (hg1 : o1.guard = none) (ho1 : o1.op = .alloc t) (hg2 : o2.guard = none) (x y : Operand) (ho2 : o2.op = .store t x y) (hd : o2.dst = none)
    (C : List Value) (hx : (a.put o1.dst (.pointer (some ⟨w.heap.size, 0, none⟩))).eval x = .pointer (some ⟨w.heap.size, 0, none⟩)) (hy : (a.put o1.dst (.pointer (some ⟨w.heap.size, 0, none⟩))).eval y = .agg C.toArray) (hC : C.length = m) (h1 : ∀ v ∈ C, v.oneCell' = true)
    (h : wpList P ops Q rest (a.put o1.dst (.pointer (some ⟨w.heap.size, 0, none⟩))) (w.alloc (.cells C.toArray t))) : wpList P ops Q (o1 :: o2 :: rest) a w := by
  refine wpList_plain hg1 fun K hK => ?_
  unfold Oper.wp
  rw [hz a o1 w ho1]
  refine hK _ _ ?_
  refine wpList_store_row hg2 t x y ho2 w.heap.size C.toArray hx hy t Z.toArray (hnew w _) (by rw [hi, List.size_toArray, hC]) (by rw [List.size_toArray, List.size_toArray, hZ, hC]) (all_oneCell_toArray h1) ?_
  rw [hd, setRow_alloc]
  exact h
theorem results_c2 {P : Program} {fn : Func} {p q : Tmp} {ty : TypeId} (h : fn.results = #[.cell p ty, .tmp q]) (tmps : Array Value) (w : World) (g : Nat) (t : TypeId) (cs : Array Value) (fr : Nat × Nat) (d : TypeDesc)
    (hp : tmps.getD p undef = .pointer (some ⟨g, 0, none⟩)) (hg : w.heap[g]? = some (.cells cs t fr))
    (hu : P.underlying ty = some d) (hd : (match d with | .struct _ | .array _ _ => true | _ => false) = true) (hi : (P.info? ty).map (·.size) = some cs.size) :
    (results fn tmps).run P w = .ok (.tuple #[.agg cs, tmps.getD q undef]) w := by
  have hp' : tmps[p]?.getD undef = .pointer (some ⟨g, 0, none⟩) := by simpa using hp
  simp [results, h, hp', asAddr, run_loadVar_row w g t ty cs fr d hg hu hd hi]

/-! Records and their loads, without memory. -/
structure Rc where
  v : Int
  f : Int
  p : Int
  s : Int
  r : Int
  c : Int
  sm : List Int
structure RcOk (x : Rc) : Prop where
  sm : x.sm.length = 32
def rcC (x : Rc) : List Value := [.int .i64 x.v, .int .i64 x.f, .int .i64 x.p, .int .i64 x.s, .int .i64 x.r, .int .i64 x.c] ++ ints .u8 x.sm
theorem rcC_len {x : Rc} (h : RcOk x) : (rcC x).length = 38 := by simp [rcC, ints_len, h.sm]
theorem rcC_one (x : Rc) : ∀ y ∈ rcC x, y.oneCell' = true := fun y hy => by
  simp only [rcC, List.mem_append, List.mem_cons, List.not_mem_nil, or_false] at hy
  rcases hy with (rfl | rfl | rfl | rfl | rfl | rfl) | hy
  · rfl
  · rfl
  · rfl
  · rfl
  · rfl
  · rfl
  · exact ints_one _ _ y hy
def rc0 : Rc := ⟨0, 0, 0, 0, 0, 0, zD⟩
theorem rc0_ok : RcOk rc0 := ⟨rfl⟩
def far (i : Int) : Int := bits .and .i64 i (i - 1)
def numR (v f : Int) : Int := if f = 0 then v else v - f + 1
def VerR (x : Rc) : Prop := 0 ≤ x.f ∧ x.f ≤ x.v ∧ 1 ≤ x.v ∧ x.v ≤ 1073741824
def CntR (x : Rc) : Prop := (x.r = 0 ∧ x.c = 0) ∨ (x.r ≠ 0 ∧ 1 ≤ x.c ∧ x.c ≤ 4096)
def PgR (p : Int) : Prop := 2 ≤ p ∧ p < 4096
def LnkR (x : Rc) : Prop := (numR x.v x.f = 1 ∧ x.p = 0 ∧ x.s = 0) ∨ (numR x.v x.f ≠ 1 ∧ PgR x.p ∧ ((far (numR x.v x.f) = 0 ∧ x.s = 0) ∨ (far (numR x.v x.f) ≠ 0 ∧ ((far (numR x.v x.f) = numR x.v x.f - 1 ∧ x.s = x.p) ∨ (far (numR x.v x.f) ≠ numR x.v x.f - 1 ∧ 2 ≤ x.s ∧ x.s < x.p)))))
def RightR (x : Rc) : Prop := VerR x ∧ (x.r = 0 ∨ PgR x.r) ∧ CntR x ∧ LnkR x
instance (x : Rc) : Decidable (VerR x) := by unfold VerR; infer_instance
instance (x : Rc) : Decidable (CntR x) := by unfold CntR; infer_instance
instance (p : Int) : Decidable (PgR p) := by unfold PgR; infer_instance
instance (x : Rc) : Decidable (LnkR x) := by unfold LnkR; infer_instance
instance (x : Rc) : Decidable (RightR x) := by unfold RightR; infer_instance
def loadR (x : Rc) : List Int := four x.v ++ (four x.f ++ (four x.p ++ (four x.s ++ (four x.r ++ (four x.c ++ x.sm)))))
theorem loadR_len {x : Rc} (h : RcOk x) : (loadR x).length = 56 := by simp [loadR, four_len, h.sm]
def readR (t : List Int) : Rc := ⟨numP t 0, numP t 4, numP t 8, numP t 12, numP t 16, numP t 20, t.drop 24⟩
theorem readR_ok {t : List Int} (h : t.length = 56) : RcOk (readR t) := ⟨by simp [readR]; omega⟩
def decR (t : List Int) : Option Rc := if t.length = 56 ∧ RightR (readR t) then some (readR t) else none
def decRV (t : List Int) : Rc := (decR t).getD rc0
def decRE (t : List Int) : Int := if (decR t).isSome then 0 else 150
def encRL (x : Rc) : List Int := if RightR x then loadR x else []
def encRE (x : Rc) : Int := if RightR x then 0 else 150
theorem decR_right {t : List Int} {x : Rc} (h : decR t = some x) : RightR x ∧ RcOk x ∧ t.length = 56 ∧ x = readR t := by
  unfold decR at h
  split at h
  · rename_i c; cases h; exact ⟨c.2, readR_ok c.1, c.1, rfl⟩
  · cases h
theorem decRV_ok (t : List Int) : RcOk (decRV t) := by
  unfold decRV
  cases h : decR t with
  | none => exact rc0_ok
  | some n => exact (decR_right h).2.1
theorem right_bd {x : Rc} (h : RightR x) : (0 ≤ x.v ∧ x.v < 4294967296) ∧ (0 ≤ x.f ∧ x.f < 4294967296) ∧ (0 ≤ x.p ∧ x.p < 4294967296) ∧ (0 ≤ x.s ∧ x.s < 4294967296) ∧ (0 ≤ x.r ∧ x.r < 4294967296) ∧ (0 ≤ x.c ∧ x.c < 4294967296) := by
  obtain ⟨⟨h1, h2, h3, h4⟩, h5, h6, h7⟩ := h
  have hr : 0 ≤ x.r ∧ x.r < 4294967296 := by rcases h5 with h | h
                                             · omega
                                             · unfold PgR at h; omega
  have hc : 0 ≤ x.c ∧ x.c < 4294967296 := by rcases h6 with h | h <;> omega
  have hps : (0 ≤ x.p ∧ x.p < 4294967296) ∧ (0 ≤ x.s ∧ x.s < 4294967296) := by
    rcases h7 with h | ⟨_, h, h'⟩
    · omega
    · unfold PgR at h
      rcases h' with h' | ⟨_, h' | h'⟩ <;> omega
  exact ⟨⟨by omega, by omega⟩, ⟨by omega, by omega⟩, hps.1, hps.2, hr, hc⟩
/-- A right record comes back from its load. -/
theorem dec_loadR {x : Rc} (ok : RcOk x) (h : RightR x) : decR (loadR x) = some x := by
  obtain ⟨b1, b2, b3, b4, b5, b6⟩ := right_bd h
  have e : readR (loadR x) = x := by
    unfold readR loadR
    have e0 := numP_four [] (four x.f ++ (four x.p ++ (four x.s ++ (four x.r ++ (four x.c ++ x.sm))))) x.v b1.1 b1.2
    have e1 := numP_four (four x.v) (four x.p ++ (four x.s ++ (four x.r ++ (four x.c ++ x.sm)))) x.f b2.1 b2.2
    have e2 := numP_four (four x.v ++ four x.f) (four x.s ++ (four x.r ++ (four x.c ++ x.sm))) x.p b3.1 b3.2
    have e3 := numP_four (four x.v ++ (four x.f ++ four x.p)) (four x.r ++ (four x.c ++ x.sm)) x.s b4.1 b4.2
    have e4 := numP_four (four x.v ++ (four x.f ++ (four x.p ++ four x.s))) (four x.c ++ x.sm) x.r b5.1 b5.2
    have e5 := numP_four (four x.v ++ (four x.f ++ (four x.p ++ (four x.s ++ four x.r)))) x.sm x.c b6.1 b6.2
    have e6 : (four x.v ++ (four x.f ++ (four x.p ++ (four x.s ++ (four x.r ++ (four x.c ++ x.sm)))))).drop 24 = x.sm := by
      rw [show four x.v ++ (four x.f ++ (four x.p ++ (four x.s ++ (four x.r ++ (four x.c ++ x.sm))))) = (four x.v ++ (four x.f ++ (four x.p ++ (four x.s ++ (four x.r ++ four x.c))))) ++ x.sm by simp, List.drop_left' (by simp [four_len])]
    simp only [List.append_assoc, List.nil_append, List.length_append, four_len, List.length_nil] at e0 e1 e2 e3 e4 e5
    rw [e0, e1, e2, e3, e4, e5, e6]
  unfold decR
  rw [e, if_pos ⟨loadR_len ok, h⟩]
theorem cut4 (t : List Int) (i : Nat) (B : List Int) (h : t.drop (i + 4) = B) : (t.drop i).take 4 ++ B = t.drop i := by
  rw [← h, show i + 4 = i + 4 from rfl, ← List.drop_drop, List.take_append_drop]
/-- Bytes that are taken are those of the record that is told. -/
theorem load_decR {t : List Int} (hy : Bys t) {x : Rc} (h : decR t = some x) : loadR x = t := by
  obtain ⟨_, _, hl, rfl⟩ := decR_right h
  unfold loadR readR
  simp only
  rw [four_numP t hy 0 (by omega), four_numP t hy 4 (by omega), four_numP t hy 8 (by omega), four_numP t hy 12 (by omega), four_numP t hy 16 (by omega), four_numP t hy 20 (by omega)]
  rw [cut4 t 20 _ rfl, cut4 t 16 _ rfl, cut4 t 12 _ rfl, cut4 t 8 _ rfl, cut4 t 4 _ rfl, cut4 t 0 _ rfl, List.drop_zero]
theorem encRL_len {x : Rc} (ok : RcOk x) : (encRL x).length ≤ 56 := by
  unfold encRL; split
  · rw [loadR_len ok]; exact Nat.le_refl _
  · simp
/-- What the lowest digit taken away leaves. -/
theorem far_bd (i : Int) (h0 : 1 ≤ i) (h1 : i ≤ 1073741825) : 0 ≤ far i ∧ far i ≤ i - 1 := by
  obtain ⟨n, rfl⟩ := Int.eq_ofNat_of_zero_le (show 0 ≤ i by omega)
  unfold far
  show 0 ≤ IntKind.i64.wrap ((BitVec.ofInt 64 (n : Int) &&& BitVec.ofInt 64 ((n : Int) - 1)).toNat : Int) ∧ IntKind.i64.wrap ((BitVec.ofInt 64 (n : Int) &&& BitVec.ofInt 64 ((n : Int) - 1)).toNat : Int) ≤ _
  have e2 : (BitVec.ofInt 64 ((n : Int) - 1)).toNat = n - 1 := by rw [BitVec.toNat_ofInt]; omega
  have hle : (BitVec.ofInt 64 (n : Int)).toNat &&& (n - 1) ≤ n - 1 := Nat.and_le_right
  rw [BitVec.toNat_and, e2, IntKind.wrap_i64]
  omega
theorem numR_bd {x : Rc} (h : VerR x) : 1 ≤ numR x.v x.f ∧ numR x.v x.f ≤ 1073741825 := by
  unfold VerR at h; unfold numR; split <;> omega
/-- The law's own words of the same. -/
def RightL (x : Rc) : Prop := ¬ (x.f < 0 ∨ 1073741824 < x.f ∨ x.v < 1 ∨ 1073741824 < x.v ∨ x.v < x.f ∨ x.c < 0 ∨ 4096 < x.c)
theorem Try.sizeRc : (Try.prog.info? 25).map (·.size) = some 38 := by kernel_rfl
theorem Try.stoodRc : Try.prog.stoodInHeld 25 = false := by kernel_rfl
theorem Try.guardRc : Try.prog.eqGuardType Try.prog.depth 25 = false := by kernel_rfl
set_option maxRecDepth 100000 in
theorem Try.fieldsRc : ∃ a b c d e f g, (Try.prog.fieldsOf 25).toList = [a, b, c, d, e, f, g] ∧ (a.name ≠ "_" ∧ b.name ≠ "_" ∧ c.name ≠ "_" ∧ d.name ≠ "_" ∧ e.name ≠ "_" ∧ f.name ≠ "_" ∧ g.name ≠ "_") ∧ (a.type = 3 ∧ b.type = 3 ∧ c.type = 3 ∧ d.type = 3 ∧ e.type = 3 ∧ f.type = 3 ∧ g.type = 23) ∧ a.offset = 0 ∧ b.offset = 1 ∧ c.offset = 2 ∧ d.offset = 3 ∧ e.offset = 4 ∧ f.offset = 5 ∧ g.offset = 6 := by
  refine ⟨_, _, _, _, _, _, _, rfl, ⟨?_, ?_, ?_, ?_, ?_, ?_, ?_⟩, ⟨?_, ?_, ?_, ?_, ?_, ?_, ?_⟩, ?_, ?_, ?_, ?_, ?_, ?_, ?_⟩ <;> decide
theorem Try.undRc : Try.prog.underlying 25 = some (.struct (Try.prog.fieldsOf 25)) := by kernel_rfl
set_option maxRecDepth 100000 in
theorem eqRc (x : Rc) (h : RcOk x) (w : World) :
    (Op.equalIn 10000 25 (.agg (rcC x).toArray) (.agg (rcC x).toArray)).run Try.prog w = .ok true w := by
  rw [run_equalIn_struct w 9999 _ _ _ Try.undRc Try.stoodRc]
  obtain ⟨a, b, c, d, e, f, g, hf, ⟨na, nb, nc, nd, ne, nf, ng⟩, ⟨ta, tb, tc, td, te, tf, tg⟩, oa, ob, oc, od, oe, of, og⟩ := Try.fieldsRc
  rw [hf]
  have hu3 : Try.prog.underlying 3 = some (.int .i64) := by kernel_rfl
  have e3 : ((rcC x).toArray).extract 6 (6 + 32) = (x.sm.map (Value.int .u8)).toArray := by
    simp only [rcC, ints, List.extract_toArray]
    congr 1
    simp only [List.extract_eq_take_drop, List.cons_append, List.nil_append, List.drop_succ_cons, List.drop_zero]
    rw [List.take_of_length_le (by simp [h.sm])]
  have hd := fun xs o => part_row Try.underlying23 Try.sizeD xs o w
  have hq := eqIn_ints Try.underlying23 Try.underlying5 Try.size5 .u8 9997 x.sm x.sm h.sm h.sm w
  rw [decide_eq_true rfl] at hq
  have hi : ∀ z : Int, (Op.equalIn 9999 3 (.int .i64 z) (.int .i64 z)).run Try.prog w = .ok true w := fun z => by
    have := run_equalIn_int w 9998 3 .i64 .i64 z z hu3
    simpa using this
  rw [eqFields_cons na (by rw [ta, oa]; exact part_int hu3 _ _ (.int .i64 x.v) rfl w) (by rw [ta, oa]; exact part_int hu3 _ _ (.int .i64 x.v) rfl w) (by rw [ta]; exact hi _), if_pos rfl,
    eqFields_cons nb (by rw [tb, ob]; exact part_int hu3 _ _ (.int .i64 x.f) rfl w) (by rw [tb, ob]; exact part_int hu3 _ _ (.int .i64 x.f) rfl w) (by rw [tb]; exact hi _), if_pos rfl,
    eqFields_cons nc (by rw [tc, oc]; exact part_int hu3 _ _ (.int .i64 x.p) rfl w) (by rw [tc, oc]; exact part_int hu3 _ _ (.int .i64 x.p) rfl w) (by rw [tc]; exact hi _), if_pos rfl,
    eqFields_cons nd (by rw [td, od]; exact part_int hu3 _ _ (.int .i64 x.s) rfl w) (by rw [td, od]; exact part_int hu3 _ _ (.int .i64 x.s) rfl w) (by rw [td]; exact hi _), if_pos rfl,
    eqFields_cons ne (by rw [te, oe]; exact part_int hu3 _ _ (.int .i64 x.r) rfl w) (by rw [te, oe]; exact part_int hu3 _ _ (.int .i64 x.r) rfl w) (by rw [te]; exact hi _), if_pos rfl,
    eqFields_cons nf (by rw [tf, of]; exact part_int hu3 _ _ (.int .i64 x.c) rfl w) (by rw [tf, of]; exact part_int hu3 _ _ (.int .i64 x.c) rfl w) (by rw [tf]; exact hi _), if_pos rfl,
    eqFields_cons ng (by rw [tg, og]; exact (hd _ 6).trans (by rw [e3])) (by rw [tg, og]; exact (hd _ 6).trans (by rw [e3])) (by rw [tg]; exact hq), if_pos rfl]
  simp [Op.eqFields]
theorem built_rc' (v f p s r c : Int) (l : List Value) (hl : l.length = 32) : Try.prog.built 25 [(0, .int .i64 v), (1, .int .i64 f), (2, .int .i64 p), (3, .int .i64 s), (4, .int .i64 r), (5, .int .i64 c), (6, .agg l.toArray)] = some ([Value.int .i64 v, .int .i64 f, .int .i64 p, .int .i64 s, .int .i64 r, .int .i64 c] ++ l).toArray := by
  obtain ⟨x0, x1, x2, x3, x4, x5, x6, x7, x8, x9, x10, x11, x12, x13, x14, x15, x16, x17, x18, x19, x20, x21, x22, x23, x24, x25, x26, x27, x28, x29, x30, x31, rfl⟩ := list32 hl
  kernel_rfl
theorem built_rc (x : Rc) (h : RcOk x) : Try.prog.built 25 [(0, .int .i64 x.v), (1, .int .i64 x.f), (2, .int .i64 x.p), (3, .int .i64 x.s), (4, .int .i64 x.r), (5, .int .i64 x.c), (6, .agg (ints .u8 x.sm).toArray)] = some (rcC x).toArray := built_rc' _ _ _ _ _ _ _ (by rw [ints_len, h.sm])
theorem built_rc0 : Try.prog.built 25 [] = some (rcC rc0).toArray := by kernel_rfl
theorem allocRc (a : Act) (o : Oper) (w : World) (ho : o.op = .alloc 25) : (execOp a.eval o).run Try.prog w = .ok (.value (.pointer (some ⟨w.heap.size, 0, none⟩))) (w.alloc (.cells (rcC rc0).toArray 25)) := by
  unfold execOp
  rw [ho]
  kernel_rfl
theorem rcC_sm (x : Rc) (j : Nat) (y : Value) (hy : (ints .u8 x.sm)[j]? = some y) : (rcC x)[6 + j]? = some y := by
  have := mid_at [.int .i64 x.v, .int .i64 x.f, .int .i64 x.p, .int .i64 x.s, .int .i64 x.r, .int .i64 x.c] (ints .u8 x.sm) [] 6 j rfl y hy
  rwa [List.append_nil] at this
end Go.Proofs.Ytpohgnblikkagaa
