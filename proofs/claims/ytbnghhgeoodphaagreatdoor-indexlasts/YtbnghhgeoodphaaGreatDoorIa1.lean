import Derived.Maps.RangeWalk
import Derived.Test.YtbnghhgeoodphaaGreatDoorSb
import Derived.Lib.LazyBuf
namespace Go.Proofs.YtbnghhgeoodphaaGreatDoor
set_option maxRecDepth 100000
set_option maxHeartbeats 40000000
set_option linter.unusedVariables false
set_option linter.unusedSimpArgs false
open Go.RowKit
attribute [local go_sem ↓] Go.wp_at_zero Go.wp_at_succ
def zD : List Int := padz [] 32
def four (x : Int) : List Int := [x % 256, x / 256 % 256, x / 65536 % 256, x / 16777216 % 256]
theorem four_len (x : Int) : (four x).length = 4 := rfl
def numP (t : List Int) (i : Nat) : Int := t.getD i 0 + 256 * t.getD (i + 1) 0 + 65536 * t.getD (i + 2) 0 + 16777216 * t.getD (i + 3) 0
theorem numP_four (A B : List Int) (x : Int) (h0 : 0 <= x) (h1 : x < 4294967296) : numP (A ++ (four x ++ B)) A.length = x := by
 unfold numP
 have e : ∀ j, j < 4 -> (A ++ (four x ++ B)).getD (A.length + j) 0 = (four x).getD j 0 := fun j hj => by
   rw [List.getD_eq_getElem?_getD, List.getElem?_append_right (by omega), show A.length + j - A.length = j by omega, List.getElem?_append_left (by rw [four_len]; exact hj), List.getD_eq_getElem?_getD]
 have a := e 0 (by decide)
 rw [Nat.add_zero] at a
 rw [a, e 1 (by decide), e 2 (by decide), e 3 (by decide)]
 simp only [four, List.getD_cons_zero, List.getD_cons_succ]
 omega
theorem or_nat (A x k : Nat) (hk : k <= 24) (hA : A < 2 ^ k) (hx : x < 256) : bits .or .i64 (A : Int) ((x * 2 ^ k : Nat) : Int) = ((A + x * 2 ^ k : Nat) : Int) := by
 have h24 : (2 : Nat) ^ k <= 2 ^ 24 := Nat.pow_le_pow_right (by decide) hk
 have hxp : x * 2 ^ k <= 255 * 2 ^ 24 := Nat.mul_le_mul (by omega) h24
 show IntKind.i64.wrap ((BitVec.ofInt 64 (A : Int) ||| BitVec.ofInt 64 ((x * 2 ^ k : Nat) : Int)).toNat : Int) = _
 have e1 : (BitVec.ofInt 64 (A : Int)).toNat = A := by rw [BitVec.toNat_ofInt]; omega
 have e2 : (BitVec.ofInt 64 ((x * 2 ^ k : Nat) : Int)).toNat = x * 2 ^ k := by rw [BitVec.toNat_ofInt]; omega
 rw [BitVec.toNat_or, e1, e2, Nat.or_comm, Nat.mul_comm x, <- Nat.two_pow_add_eq_or_of_lt hA, Nat.add_comm, IntKind.wrap_i64]
 rw [Nat.mul_comm] at hxp
 omega
theorem or4 (a b c d : Int) (ha : 0 <= a /\ a < 256) (hb : 0 <= b /\ b < 256) (hc : 0 <= c /\ c < 256) (hd : 0 <= d /\ d < 256) :
   bits .or .i64 (bits .or .i64 (bits .or .i64 a (b * 256)) (c * 65536)) (d * 16777216) = a + 256 * b + 65536 * c + 16777216 * d := by
 obtain ⟨a, rfl⟩ := Int.eq_ofNat_of_zero_le ha.1
 obtain ⟨b, rfl⟩ := Int.eq_ofNat_of_zero_le hb.1
 obtain ⟨c, rfl⟩ := Int.eq_ofNat_of_zero_le hc.1
 obtain ⟨d, rfl⟩ := Int.eq_ofNat_of_zero_le hd.1
 have h1 := or_nat a b 8 (by decide) (by omega) (by omega)
 have h2 := or_nat (a + b * 2 ^ 8) c 16 (by decide) (by omega) (by omega)
 have h3 := or_nat (a + b * 2 ^ 8 + c * 2 ^ 16) d 24 (by decide) (by omega) (by omega)
 rw [show ((b : Int) * 256) = ((b * 2 ^ 8 : Nat) : Int) by omega, h1, show ((c : Int) * 65536) = ((c * 2 ^ 16 : Nat) : Int) by omega, h2, show ((d : Int) * 16777216) = ((d * 2 ^ 24 : Nat) : Int) by omega, h3]
 omega
def Bys (zs : List Int) : Prop := ∀ x ∈ zs, 0 <= x /\ x < 256
theorem Bys.at {zs : List Int} (h : Bys zs) (j : Nat) (hj : j < zs.length) : 0 <= zs.getD j 0 /\ zs.getD j 0 < 256 := h _ (by rw [List.getD_eq_getElem?_getD, List.getElem?_eq_getElem hj]; exact List.getElem_mem _)
theorem wpList_built {P : Program} {ops : Array Oper} {rest : List Oper} {o : Oper} {a : Act} {w : World} {Q : Exit -> Act -> World -> Prop} (hw : Region.wanted o (yielded ops a.tmps) = true) (t : TypeId) (parts : Array (Nat × Operand)) (ho : o.op = .build t parts) (ps : List (Nat × Value)) (hp : (parts.toList.map fun (i, x) => (i, a.eval x)) = ps) (cs : Array Value) (hb : P.built t ps = some cs)
   (h : wpList P ops Q rest (a.put o.dst (.agg cs)) w) : wpList P ops Q (o :: rest) a w := by
 have e : P.built t (parts.map fun (i, x) => (i, a.eval x)).toList = some cs := by rw [Array.toList_map, hp]; exact hb
 exact BigFrame.wpList_want hw fun _ hK => wp_build t parts ho (by rw [e]; rfl) (by rw [e]; exact hK _ _ h)
theorem eqIn_ints {P : Program} {t e : TypeId} {kd : IntKind} {n : Nat} (ht : P.underlying t = some (.array n e)) (hu : P.underlying e = some (.int kd)) (hs : (P.info? e).map (·.size) = some 1) (k : IntKind) (d : Nat) (ax bs : List Int) (ha : ax.length = n) (hb : bs.length = n) (w : World) :
   (Op.equalIn (d + 1 + 1) t (.agg (ax.map (Value.int k)).toArray) (.agg (bs.map (Value.int k)).toArray)).run P w = .ok (decide (ax = bs)) w := by
 obtain ⟨i, hi⟩ := info_of_underlying hu
 have hc : P.cellsOf e = 1 := by simp [Program.cellsOf, hi] at hs ⊢; exact hs
 rw [run_equalIn_array w (d + 1) _ _ ht hi, hc, eqItems_ints hu d k ax bs w _ (fun j hj => by simp at hj; omega), all_range_eq ax bs n ha hb]
theorem part_row {P : Program} {e t : TypeId} {n : Nat} (hu : P.underlying t = some (.array n e)) {m : Nat} (hs : (P.info? t).map (·.size) = some m) (xs : Array Value) (o : Nat) (w : World) : (part t xs o).run P w = .ok (.agg (xs.extract o (o + m))) w := by
 have hagg : (isAgg t).run P w = .ok true w := by
   unfold isAgg
   rw [Sem.run_bind, run_underlying hu w]
   rfl
 obtain ⟨i, hi, rfl⟩ := Option.map_eq_some_iff.1 hs
 simp [part, Sem.run_bind, hagg, sizeOf, typeInfo, hi]
theorem eqFields_cons {P : Program} {d : Nat} {xs ys : Array Value} {f : Field} {fs : List Field} {w : World} {a b : Value} {r : Bool} (hn : f.name ≠ "_") (ha : (part f.type xs f.offset).run P w = .ok a w) (hb : (part f.type ys f.offset).run P w = .ok b w) (hr : (Op.equalIn d f.type a b).run P w = .ok r w) :
   (Op.eqFields d xs ys (f :: fs)).run P w = if r = true then (Op.eqFields d xs ys fs).run P w else .ok false w := by
 simp only [Op.eqFields, ne_eq, hn, not_false_eq_true, if_true, Sem.run_bind, ha, hb, hr, Result.andThen_ok]
 cases r <;> simp
theorem Tryz.sizeD : (Tryz.prog.info? 47).map (·.size) = some 32 := by kernel_rfl
theorem list32 {l : List Value} (h : l.length = 32) : ∃ x0 x1 x2 x3 x4 x5 x6 x7 x8 x9 x10 x11 x12 x13 x14 x15 x16 x17 x18 x19 x20 x21 x22 x23 x24 x25 x26 x27 x28 x29 x30 x31, l = [x0, x1, x2, x3, x4, x5, x6, x7, x8, x9, x10, x11, x12, x13, x14, x15, x16, x17, x18, x19, x20, x21, x22, x23, x24, x25, x26, x27, x28, x29, x30, x31] := by
 match l, h with
 | [x0, x1, x2, x3, x4, x5, x6, x7, x8, x9, x10, x11, x12, x13, x14, x15, x16, x17, x18, x19, x20, x21, x22, x23, x24, x25, x26, x27, x28, x29, x30, x31], _ => exact ⟨x0, x1, x2, x3, x4, x5, x6, x7, x8, x9, x10, x11, x12, x13, x14, x15, x16, x17, x18, x19, x20, x21, x22, x23, x24, x25, x26, x27, x28, x29, x30, x31, rfl⟩
def BK (w0 w : World) (L : List (Nat × List Value × Nat)) : Prop := Below w0.heap.size w0 w /\ ∀ x, x ∈ L -> w.heap[x.1]? = some (.cells x.2.1.toArray x.2.2 (0, 0))
theorem BK.nil (w : World) : BK w w [] := ⟨Below.refl _ _, fun x h => by cases h⟩
theorem BK.row {w0 w : World} {L : List (Nat × List Value × Nat)} (h : BK w0 w L) {b t : Nat} {zs : List Value} (hm : (b, zs, t) ∈ L) : w.heap[b]? = some (.cells zs.toArray t (0, 0)) := h.2 _ hm
theorem BK.lt {w0 w : World} {L : List (Nat × List Value × Nat)} (h : BK w0 w L) {b t : Nat} {zs : List Value} (hm : (b, zs, t) ∈ L) : b < w.heap.size := hlt (h.row hm)
theorem BK.call {w0 w w' : World} {L : List (Nat × List Value × Nat)} (h : BK w0 w L) (hb : Below w.heap.size w w') : BK w0 w' L :=
 ⟨h.1.trans (hb.mono h.1.size), fun x hx => hbel hb (h.2 x hx) (hlt (h.2 x hx))⟩
theorem BK.alloc {w0 w : World} {L : List (Nat × List Value × Nat)} (h : BK w0 w L) (zs : List Value) (t : Nat) : BK w0 (w.alloc (.cells zs.toArray t)) ((w.heap.size, zs, t) :: L) := by
 refine ⟨h.1.alloc h.1.size _, fun x hx => ?_⟩
 rcases List.mem_cons.1 hx with rfl | hx
 · exact hnew w _
 · exact hold (h.2 x hx)
theorem BK.other {w0 w : World} {L : List (Nat × List Value × Nat)} (h : BK w0 w L) (o : Obj) : BK w0 (w.alloc o) L := ⟨h.1.alloc h.1.size _, fun x hx => hold (h.2 x hx)⟩
theorem BK.drew {w0 w : World} {L : List (Nat × List Value × Nat)} (h : BK w0 w L) : BK w0 w.drew L := ⟨h.1.drew, h.2⟩
theorem BK.set {w0 w : World} {L : List (Nat × List Value × Nat)} {b t : Nat} {zs : List Value} (h : BK w0 w ((b, zs, t) :: L)) (hb : w0.heap.size <= b) (hL : ∀ x, x ∈ L -> x.1 ≠ b) (ys : List Value) : BK w0 (w.setRow b ys.toArray) ((b, ys, t) :: L) := by
 refine ⟨below_setRow h.1 hb _, fun x hx => ?_⟩
 rcases List.mem_cons.1 hx with rfl | hx
 · exact setRow_heap _ _ _ _ _ _ (h.2 _ (.head _))
 · exact (setRow_other _ _ _ _ (hL x hx)).trans (h.2 x (.tail _ hx))
theorem BK.cell {w0 w : World} {L : List (Nat × List Value × Nat)} (h : BK w0 w L) {b t : Nat} {zs : List Value} (hm : (b, zs, t) ∈ L) {j : Nat} {v : Value} (hv : zs[j]? = some v) : w.cell? ⟨b, j, none⟩ = some v := by
 rw [cell_of_row _ _ _ _ _ _ (h.row hm)]; simpa using hv
theorem BK.rng {w0 w : World} {L : List (Nat × List Value × Nat)} (h : BK w0 w L) {b t o : Nat} {zs ps : List Value} (hm : (b, zs, t) ∈ L) (hp : ∀ j v, ps[j]? = some v -> zs[o + j]? = some v) : w.rangeAt b o ps := fun j v hv => h.cell hm (hp j v hv)
theorem mid_at (A B C : List Value) (m j : Nat) (hm : A.length = m) (v : Value) (hv : B[j]? = some v) : (A ++ (B ++ C))[m + j]? = some v := by
 have hj := (List.getElem?_eq_some_iff.1 hv).1
 rw [List.getElem?_append_right (by omega), show m + j - A.length = j by omega, List.getElem?_append_left hj]; exact hv
theorem wpList_new {P : Program} {t : TypeId} {Z : List Value} {m : Nat} (hz : ∀ (a : Act) (o : Oper) (w : World), o.op = .alloc t -> (execOp a.eval o).run P w = .ok (.value (.pointer (some ⟨w.heap.size, 0, none⟩))) (w.alloc (.cells Z.toArray t))) (hZ : Z.length = m) (hi : (P.info? t).map (·.size) = some m)
   {ops : Array Oper} {rest : List Oper} {o1 o2 : Oper} {a : Act} {w : World} {Q : Exit -> Act -> World -> Prop} (hg1 : o1.guard = none) (ho1 : o1.op = .alloc t) (hg2 : o2.guard = none) (x y : Operand) (ho2 : o2.op = .store t x y) (hd : o2.dst = none)
   (C : List Value) (hx : (a.put o1.dst (.pointer (some ⟨w.heap.size, 0, none⟩))).eval x = .pointer (some ⟨w.heap.size, 0, none⟩)) (hy : (a.put o1.dst (.pointer (some ⟨w.heap.size, 0, none⟩))).eval y = .agg C.toArray) (hC : C.length = m) (h1 : ∀ v ∈ C, v.oneCell' = true)
   (h : wpList P ops Q rest (a.put o1.dst (.pointer (some ⟨w.heap.size, 0, none⟩))) (w.alloc (.cells C.toArray t))) : wpList P ops Q (o1 :: o2 :: rest) a w := by
 refine wpList_plain hg1 fun K hK => ?_
 unfold Oper.wp
 rw [hz a o1 w ho1]
 refine hK _ _ ?_
 refine wpList_store_row hg2 t x y ho2 w.heap.size C.toArray hx hy t Z.toArray (hnew w _) (by rw [hi, List.size_toArray, hC]) (by rw [List.size_toArray, List.size_toArray, hZ, hC]) (all_oneCell_toArray h1) ?_
 rw [hd, setRow_alloc]
 exact h
theorem results_c2i {P : Program} {fn : Func} {p q : Tmp} {ty : TypeId} (h : fn.results = #[.cell p ty, .tmp q]) (tmps : Array Value) (w : World) (g : Nat) (t : TypeId) (cs : Array Value) (fr : Nat × Nat) (d : TypeDesc)
   (hp : tmps.getD p undef = .pointer (some ⟨g, 0, none⟩)) (hg : w.heap[g]? = some (.cells cs t fr))
   (hu : P.underlying ty = some d) (hd : (match d with | .struct _ | .array _ _ => true | _ => false) = true) (hi : (P.info? ty).map (·.size) = some cs.size) :
   (results fn tmps).run P w = .ok (.tuple #[.agg cs, tmps.getD q undef]) w := by
 have hp' : tmps[p]?.getD undef = .pointer (some ⟨g, 0, none⟩) := by simpa using hp
 simp [results, h, hp', asAddr, run_loadVar_row w g t ty cs fr d hg hu hd hi]
structure Rc where
 v : Int
 f : Int
 p : Int
 s : Int
 r : Int
 c : Int
 sm : List Int
structure RcOk (x : Rc) : Prop where
 sm : x.sm.length = 32
def rcC (x : Rc) : List Value := [.int .i64 x.v, .int .i64 x.f, .int .i64 x.p, .int .i64 x.s, .int .i64 x.r, .int .i64 x.c] ++ ints .u8 x.sm
theorem rcC_len {x : Rc} (h : RcOk x) : (rcC x).length = 38 := by simp [rcC, ints_len, h.sm]
theorem rcC_one (x : Rc) : ∀ y ∈ rcC x, y.oneCell' = true := fun y hy => by
 simp only [rcC, List.mem_append, List.mem_cons, List.not_mem_nil, or_false] at hy
 rcases hy with (rfl | rfl | rfl | rfl | rfl | rfl) | hy
 · rfl
 · rfl
 · rfl
 · rfl
 · rfl
 · rfl
 · exact ints_one _ _ y hy
def rc0 : Rc := ⟨0, 0, 0, 0, 0, 0, zD⟩
theorem rc0_ok : RcOk rc0 := ⟨rfl⟩
def far (i : Int) : Int := bits .and .i64 i (i - 1)
def numR (v f : Int) : Int := if f = 0 then v else v - f + 1
def VerR (x : Rc) : Prop := 0 <= x.f /\ x.f <= x.v /\ 1 <= x.v /\ x.v <= 1073741824
def CntR (x : Rc) : Prop := (x.r = 0 /\ x.c = 0) \/ (x.r ≠ 0 /\ 1 <= x.c /\ x.c <= 4096)
def PgR (p : Int) : Prop := 2 <= p /\ p < 4096
def LnkR (x : Rc) : Prop := (numR x.v x.f = 1 /\ x.p = 0 /\ x.s = 0) \/ (numR x.v x.f ≠ 1 /\ PgR x.p /\ ((far (numR x.v x.f) = 0 /\ x.s = 0) \/ (far (numR x.v x.f) ≠ 0 /\ ((far (numR x.v x.f) = numR x.v x.f - 1 /\ x.s = x.p) \/ (far (numR x.v x.f) ≠ numR x.v x.f - 1 /\ 2 <= x.s /\ x.s < x.p)))))
def RightR (x : Rc) : Prop := VerR x /\ (x.r = 0 \/ PgR x.r) /\ CntR x /\ LnkR x
instance (x : Rc) : Decidable (VerR x) := by unfold VerR; infer_instance
instance (x : Rc) : Decidable (CntR x) := by unfold CntR; infer_instance
instance (p : Int) : Decidable (PgR p) := by unfold PgR; infer_instance
instance (x : Rc) : Decidable (LnkR x) := by unfold LnkR; infer_instance
instance (x : Rc) : Decidable (RightR x) := by unfold RightR; infer_instance
def loadR (x : Rc) : List Int := four x.v ++ (four x.f ++ (four x.p ++ (four x.s ++ (four x.r ++ (four x.c ++ x.sm)))))
theorem loadR_len {x : Rc} (h : RcOk x) : (loadR x).length = 56 := by simp [loadR, four_len, h.sm]
def readR (t : List Int) : Rc := ⟨numP t 0, numP t 4, numP t 8, numP t 12, numP t 16, numP t 20, t.drop 24⟩
theorem readR_ok {t : List Int} (h : t.length = 56) : RcOk (readR t) := ⟨by simp [readR]; omega⟩
def decR (t : List Int) : Option Rc := if t.length = 56 /\ RightR (readR t) then some (readR t) else none
def decRV (t : List Int) : Rc := (decR t).getD rc0
def decRE (t : List Int) : Int := if (decR t).isSome then 0 else 150
theorem decR_right {t : List Int} {x : Rc} (h : decR t = some x) : RightR x /\ RcOk x /\ t.length = 56 /\ x = readR t := by
 unfold decR at h
 split at h
 · rename_i c; cases h; exact ⟨c.2, readR_ok c.1, c.1, rfl⟩
 · cases h
theorem right_bd {x : Rc} (h : RightR x) : (0 <= x.v /\ x.v < 4294967296) /\ (0 <= x.f /\ x.f < 4294967296) /\ (0 <= x.p /\ x.p < 4294967296) /\ (0 <= x.s /\ x.s < 4294967296) /\ (0 <= x.r /\ x.r < 4294967296) /\ (0 <= x.c /\ x.c < 4294967296) := by
 obtain ⟨⟨h1, h2, h3, h4⟩, h5, h6, h7⟩ := h
 have hr : 0 <= x.r /\ x.r < 4294967296 := by
   rcases h5 with h | h
   · omega
   · unfold PgR at h; omega
 have hc : 0 <= x.c /\ x.c < 4294967296 := by rcases h6 with h | h <;> omega
 have hps : (0 <= x.p /\ x.p < 4294967296) /\ (0 <= x.s /\ x.s < 4294967296) := by
   rcases h7 with h | ⟨_, h, h'⟩
   · omega
   · unfold PgR at h
     rcases h' with h' | ⟨_, h' | h'⟩ <;> omega
 exact ⟨⟨by omega, by omega⟩, ⟨by omega, by omega⟩, hps.1, hps.2, hr, hc⟩
theorem dec_loadR {x : Rc} (ok : RcOk x) (h : RightR x) : decR (loadR x) = some x := by
 obtain ⟨b1, b2, b3, b4, b5, b6⟩ := right_bd h
 have e : readR (loadR x) = x := by
   unfold readR loadR
   have e0 := numP_four [] (four x.f ++ (four x.p ++ (four x.s ++ (four x.r ++ (four x.c ++ x.sm))))) x.v b1.1 b1.2
   have e1 := numP_four (four x.v) (four x.p ++ (four x.s ++ (four x.r ++ (four x.c ++ x.sm)))) x.f b2.1 b2.2
   have e2 := numP_four (four x.v ++ four x.f) (four x.s ++ (four x.r ++ (four x.c ++ x.sm))) x.p b3.1 b3.2
   have e3 := numP_four (four x.v ++ (four x.f ++ four x.p)) (four x.r ++ (four x.c ++ x.sm)) x.s b4.1 b4.2
   have e4 := numP_four (four x.v ++ (four x.f ++ (four x.p ++ four x.s))) (four x.c ++ x.sm) x.r b5.1 b5.2
   have e5 := numP_four (four x.v ++ (four x.f ++ (four x.p ++ (four x.s ++ four x.r)))) x.sm x.c b6.1 b6.2
   have e6 : (four x.v ++ (four x.f ++ (four x.p ++ (four x.s ++ (four x.r ++ (four x.c ++ x.sm)))))).drop 24 = x.sm := by
     rw [show four x.v ++ (four x.f ++ (four x.p ++ (four x.s ++ (four x.r ++ (four x.c ++ x.sm))))) = (four x.v ++ (four x.f ++ (four x.p ++ (four x.s ++ (four x.r ++ four x.c))))) ++ x.sm by simp, List.drop_left' (by simp [four_len])]
   simp only [List.append_assoc, List.nil_append, List.length_append, four_len, List.length_nil] at e0 e1 e2 e3 e4 e5
   rw [e0, e1, e2, e3, e4, e5, e6]
 unfold decR
 rw [e, if_pos ⟨loadR_len ok, h⟩]
theorem far_bd (i : Int) (h0 : 1 <= i) (h1 : i <= 1073741825) : 0 <= far i /\ far i <= i - 1 := by
 obtain ⟨n, rfl⟩ := Int.eq_ofNat_of_zero_le (show 0 <= i by omega)
 unfold far
 show 0 <= IntKind.i64.wrap ((BitVec.ofInt 64 (n : Int) &&& BitVec.ofInt 64 ((n : Int) - 1)).toNat : Int) /\ IntKind.i64.wrap ((BitVec.ofInt 64 (n : Int) &&& BitVec.ofInt 64 ((n : Int) - 1)).toNat : Int) <= _
 have e2 : (BitVec.ofInt 64 ((n : Int) - 1)).toNat = n - 1 := by rw [BitVec.toNat_ofInt]; omega
 have hle : (BitVec.ofInt 64 (n : Int)).toNat &&& (n - 1) <= n - 1 := Nat.and_le_right
 rw [BitVec.toNat_and, e2, IntKind.wrap_i64]
 omega
theorem numR_bd {x : Rc} (h : VerR x) : 1 <= numR x.v x.f /\ numR x.v x.f <= 1073741825 := by
 unfold VerR at h; unfold numR; split <;> omega
theorem Tryz.sizeRc : (Tryz.prog.info? 49).map (·.size) = some 38 := by kernel_rfl
theorem Tryz.stoodRc : Tryz.prog.stoodInHeld 49 = false := by kernel_rfl
theorem Tryz.guardRc : Tryz.prog.eqGuardType Tryz.prog.depth 49 = false := by kernel_rfl
theorem Tryz.fieldsRc : ∃ a b c d e f g, (Tryz.prog.fieldsOf 49).toList = [a, b, c, d, e, f, g] /\ (a.name ≠ "_" /\ b.name ≠ "_" /\ c.name ≠ "_" /\ d.name ≠ "_" /\ e.name ≠ "_" /\ f.name ≠ "_" /\ g.name ≠ "_") /\ (a.type = 3 /\ b.type = 3 /\ c.type = 3 /\ d.type = 3 /\ e.type = 3 /\ f.type = 3 /\ g.type = 47) /\ a.offset = 0 /\ b.offset = 1 /\ c.offset = 2 /\ d.offset = 3 /\ e.offset = 4 /\ f.offset = 5 /\ g.offset = 6 := by
 refine ⟨_, _, _, _, _, _, _, rfl, ⟨?_, ?_, ?_, ?_, ?_, ?_, ?_⟩, ⟨?_, ?_, ?_, ?_, ?_, ?_, ?_⟩, ?_, ?_, ?_, ?_, ?_, ?_, ?_⟩ <;> decide
theorem Tryz.undRc : Tryz.prog.underlying 49 = some (.struct (Tryz.prog.fieldsOf 49)) := by kernel_rfl
theorem eqRc (x : Rc) (h : RcOk x) (w : World) :
   (Op.equalIn 10000 49 (.agg (rcC x).toArray) (.agg (rcC x).toArray)).run Tryz.prog w = .ok true w := by
 rw [run_equalIn_struct w 9999 _ _ _ Tryz.undRc Tryz.stoodRc]
 obtain ⟨a, b, c, d, e, f, g, hf, ⟨na, nb, nc, nd, ne, nf, ng⟩, ⟨ta, tb, tc, td, te, tf, tg⟩, oa, ob, oc, od, oe, of, og⟩ := Tryz.fieldsRc
 rw [hf]
 have hu3 : Tryz.prog.underlying 3 = some (.int .i64) := by kernel_rfl
 have e3 : ((rcC x).toArray).extract 6 (6 + 32) = (x.sm.map (Value.int .u8)).toArray := by
   simp only [rcC, ints, List.extract_toArray]
   congr 1
   simp only [List.extract_eq_take_drop, List.cons_append, List.nil_append, List.drop_succ_cons, List.drop_zero]
   rw [List.take_of_length_le (by simp [h.sm])]
 have hd := fun xs o => part_row Tryz.underlying47 Tryz.sizeD xs o w
 have hq := eqIn_ints Tryz.underlying47 Tryz.underlying5 Tryz.size5 .u8 9997 x.sm x.sm h.sm h.sm w
 rw [decide_eq_true rfl] at hq
 have hi : ∀ z : Int, (Op.equalIn 9999 3 (.int .i64 z) (.int .i64 z)).run Tryz.prog w = .ok true w := fun z => by
   have := run_equalIn_int w 9998 3 .i64 .i64 z z hu3
   simpa using this
 rw [eqFields_cons na (by rw [ta, oa]; exact part_int hu3 _ _ (.int .i64 x.v) rfl w) (by rw [ta, oa]; exact part_int hu3 _ _ (.int .i64 x.v) rfl w) (by rw [ta]; exact hi _), if_pos rfl,
   eqFields_cons nb (by rw [tb, ob]; exact part_int hu3 _ _ (.int .i64 x.f) rfl w) (by rw [tb, ob]; exact part_int hu3 _ _ (.int .i64 x.f) rfl w) (by rw [tb]; exact hi _), if_pos rfl,
   eqFields_cons nc (by rw [tc, oc]; exact part_int hu3 _ _ (.int .i64 x.p) rfl w) (by rw [tc, oc]; exact part_int hu3 _ _ (.int .i64 x.p) rfl w) (by rw [tc]; exact hi _), if_pos rfl,
   eqFields_cons nd (by rw [td, od]; exact part_int hu3 _ _ (.int .i64 x.s) rfl w) (by rw [td, od]; exact part_int hu3 _ _ (.int .i64 x.s) rfl w) (by rw [td]; exact hi _), if_pos rfl,
   eqFields_cons ne (by rw [te, oe]; exact part_int hu3 _ _ (.int .i64 x.r) rfl w) (by rw [te, oe]; exact part_int hu3 _ _ (.int .i64 x.r) rfl w) (by rw [te]; exact hi _), if_pos rfl,
   eqFields_cons nf (by rw [tf, of]; exact part_int hu3 _ _ (.int .i64 x.c) rfl w) (by rw [tf, of]; exact part_int hu3 _ _ (.int .i64 x.c) rfl w) (by rw [tf]; exact hi _), if_pos rfl,
   eqFields_cons ng (by rw [tg, og]; exact (hd _ 6).trans (by rw [e3])) (by rw [tg, og]; exact (hd _ 6).trans (by rw [e3])) (by rw [tg]; exact hq), if_pos rfl]
 simp [Op.eqFields]
theorem built_rc' (v f p s r c : Int) (l : List Value) (hl : l.length = 32) : Tryz.prog.built 49 [(0, .int .i64 v), (1, .int .i64 f), (2, .int .i64 p), (3, .int .i64 s), (4, .int .i64 r), (5, .int .i64 c), (6, .agg l.toArray)] = some ([Value.int .i64 v, .int .i64 f, .int .i64 p, .int .i64 s, .int .i64 r, .int .i64 c] ++ l).toArray := by
 obtain ⟨x0, x1, x2, x3, x4, x5, x6, x7, x8, x9, x10, x11, x12, x13, x14, x15, x16, x17, x18, x19, x20, x21, x22, x23, x24, x25, x26, x27, x28, x29, x30, x31, rfl⟩ := list32 hl
 kernel_rfl
theorem built_rc (x : Rc) (h : RcOk x) : Tryz.prog.built 49 [(0, .int .i64 x.v), (1, .int .i64 x.f), (2, .int .i64 x.p), (3, .int .i64 x.s), (4, .int .i64 x.r), (5, .int .i64 x.c), (6, .agg (ints .u8 x.sm).toArray)] = some (rcC x).toArray := built_rc' _ _ _ _ _ _ _ (by rw [ints_len, h.sm])
theorem built_rc0 : Tryz.prog.built 49 [] = some (rcC rc0).toArray := by kernel_rfl
theorem allocRc (a : Act) (o : Oper) (w : World) (ho : o.op = .alloc 49) : (execOp a.eval o).run Tryz.prog w = .ok (.value (.pointer (some ⟨w.heap.size, 0, none⟩))) (w.alloc (.cells (rcC rc0).toArray 49)) := by
 unfold execOp
 rw [ho]
 kernel_rfl
theorem rcC_sm (x : Rc) (j : Nat) (y : Value) (hy : (ints .u8 x.sm)[j]? = some y) : (rcC x)[6 + j]? = some y := by
 have := mid_at [.int .i64 x.v, .int .i64 x.f, .int .i64 x.p, .int .i64 x.s, .int .i64 x.r, .int .i64 x.c] (ints .u8 x.sm) [] 6 j rfl y hy
 rwa [List.append_nil] at this
theorem mayBePage_any (w : World) (p : Int) : Calls Tryz.prog 106 #[.int .i64 p] w fun e w' => e = .returned (.bool (decide (PgR p))) /\ Below w.heap.size w w' := by
 by_cases h1 : 2 <= p
 · by_cases h2 : p < 4096
   · have HD := hid (decide_eq_true (show PgR p by unfold PgR; omega))
     generalize decide (PgR p) = D at *
     subst HD
     go_enter Tryz.func106, Tryz.ntmps106
     go_wp2
     go_ret
     exact ⟨rfl, Below.refl _ _⟩
   · have HD := hid (decide_eq_false (show ¬ PgR p by unfold PgR; omega))
     generalize decide (PgR p) = D at *
     subst HD
     go_enter Tryz.func106, Tryz.ntmps106
     go_wp2
     go_ret
     exact ⟨rfl, Below.refl _ _⟩
 · have HD := hid (decide_eq_false (show ¬ PgR p by unfold PgR; omega))
   generalize decide (PgR p) = D at *
   subst HD
   go_enter Tryz.func106, Tryz.ntmps106
   go_wp2
   go_ret
   exact ⟨rfl, Below.refl _ _⟩
theorem number_any (w : World) (v g : Int) (h1 : 0 <= g) (h2 : g <= v) (h3 : v <= 1073741824) : Calls Tryz.prog 40 #[.int .i64 v, .int .i64 g] w fun e w' => e = .returned (.int .i64 (numR v g)) /\ Below w.heap.size w w' := by
 unfold numR
 by_cases h0 : g = 0
 · subst h0
   rw [if_pos rfl]
   go_enter Tryz.func40, Tryz.ntmps40
   go_wp2
   go_ret
   exact ⟨rfl, Below.refl _ _⟩
 · rw [if_neg h0]
   go_enter Tryz.func40, Tryz.ntmps40
   go_wp2
   go_ret
   exact ⟨rfl, Below.refl _ _⟩
theorem skipped_any (w : World) (i : Int) (h1 : 1 <= i) (h2 : i <= 1073741825) : Calls Tryz.prog 104 #[.int .i64 i] w fun e w' => e = .returned (.int .i64 (far i)) /\ Below w.heap.size w w' := by
 have HF := hid (show far i = bits .and .i64 i (i - 1) from rfl)
 generalize far i = F at *
 go_enter Tryz.func104, Tryz.ntmps104
 go_wp2
 go_ret
 exact ⟨by rw [HF.out]; rfl, Below.refl _ _⟩
theorem cell_new (w : World) (cs : List Value) (t : TypeId) (j : Nat) (v : Value) (h : cs[j]? = some v) : (w.alloc (.cells cs.toArray t)).cell? ⟨w.heap.size, j, none⟩ = some v := by
 rw [cell_of_row _ _ _ _ _ _ (hnew w (.cells cs.toArray t))]; simpa using h
theorem versionFits_any (w : World) (x : Rc) (ok : RcOk x) : Calls Tryz.prog 105 #[.agg (rcC x).toArray] w fun e w' => e = .returned (.bool (decide (VerR x))) /\ Below w.heap.size w w' := by
 have c0 := cell_new w (rcC x) 49 0 (.int .i64 x.v) rfl
 have c1 := cell_new w (rcC x) 49 1 (.int .i64 x.f) rfl
 have c2 := cell_new w (rcC x) 49 2 (.int .i64 x.p) rfl
 have c3 := cell_new w (rcC x) 49 3 (.int .i64 x.s) rfl
 have c4 := cell_new w (rcC x) 49 4 (.int .i64 x.r) rfl
 have c5 := cell_new w (rcC x) 49 5 (.int .i64 x.c) rfl
 have r0 := hnew w (.cells (rcC x).toArray 49)
 have hB := (Below.refl w.heap.size w).alloc (Nat.le_refl _) (.cells (rcC x).toArray 49)
 have HS := hid (show (Tryz.prog.info? 49).map (·.size) = some (rcC x).toArray.size by rw [Tryz.sizeRc, List.size_toArray, rcC_len ok])
 by_cases h1 : 0 <= x.f
 · by_cases h2 : 1 <= x.f
   · by_cases h3 : x.f <= x.v
     · by_cases h4 : x.v <= 1073741824
       · have HD := hid (decide_eq_true (show VerR x by unfold VerR; omega))
         generalize decide (VerR x) = D at *
         subst HD
         generalize rcC x = C at *
         go_enter Tryz.func105, Tryz.ntmps105
         go_wp2
         go_ret
         refine ⟨?_, hB⟩
         exact congrArg (fun b => Ending.returned (Value.bool b)) (by first | rfl | (simp; done) | (simp; omega))
       · have HD := hid (decide_eq_false (show ¬ VerR x by unfold VerR; omega))
         generalize decide (VerR x) = D at *
         subst HD
         generalize rcC x = C at *
         go_enter Tryz.func105, Tryz.ntmps105
         go_wp2
         go_ret
         refine ⟨?_, hB⟩
         exact congrArg (fun b => Ending.returned (Value.bool b)) (by first | rfl | (simp; done) | (simp; omega))
     · have HD := hid (decide_eq_false (show ¬ VerR x by unfold VerR; omega))
       generalize decide (VerR x) = D at *
       subst HD
       generalize rcC x = C at *
       go_enter Tryz.func105, Tryz.ntmps105
       go_wp2
       go_ret
       refine ⟨?_, hB⟩
       exact congrArg (fun b => Ending.returned (Value.bool b)) (by first | rfl | (simp; done) | (simp; omega))
   · by_cases h3 : 1 <= x.v
     · by_cases h4 : x.v <= 1073741824
       · have HD := hid (decide_eq_true (show VerR x by unfold VerR; omega))
         generalize decide (VerR x) = D at *
         subst HD
         generalize rcC x = C at *
         go_enter Tryz.func105, Tryz.ntmps105
         go_wp2
         go_ret
         refine ⟨?_, hB⟩
         exact congrArg (fun b => Ending.returned (Value.bool b)) (by first | rfl | (simp; done) | (simp; omega))
       · have HD := hid (decide_eq_false (show ¬ VerR x by unfold VerR; omega))
         generalize decide (VerR x) = D at *
         subst HD
         generalize rcC x = C at *
         go_enter Tryz.func105, Tryz.ntmps105
         go_wp2
         go_ret
         refine ⟨?_, hB⟩
         exact congrArg (fun b => Ending.returned (Value.bool b)) (by first | rfl | (simp; done) | (simp; omega))
     · have HD := hid (decide_eq_false (show ¬ VerR x by unfold VerR; omega))
       generalize decide (VerR x) = D at *
       subst HD
       generalize rcC x = C at *
       go_enter Tryz.func105, Tryz.ntmps105
       go_wp2
       go_ret
       refine ⟨?_, hB⟩
       exact congrArg (fun b => Ending.returned (Value.bool b)) (by first | rfl | (simp; done) | (simp; omega))
 · have HD := hid (decide_eq_false (show ¬ VerR x by unfold VerR; omega))
   generalize decide (VerR x) = D at *
   subst HD
   generalize rcC x = C at *
   go_enter Tryz.func105, Tryz.ntmps105
   go_wp2
   go_ret
   refine ⟨?_, hB⟩
   exact congrArg (fun b => Ending.returned (Value.bool b)) (by first | rfl | (simp; done) | (simp; omega))
theorem countFits_any (w : World) (x : Rc) (ok : RcOk x) : Calls Tryz.prog 42 #[.agg (rcC x).toArray] w fun e w' => e = .returned (.bool (decide (CntR x))) /\ Below w.heap.size w w' := by
 have c0 := cell_new w (rcC x) 49 0 (.int .i64 x.v) rfl
 have c1 := cell_new w (rcC x) 49 1 (.int .i64 x.f) rfl
 have c2 := cell_new w (rcC x) 49 2 (.int .i64 x.p) rfl
 have c3 := cell_new w (rcC x) 49 3 (.int .i64 x.s) rfl
 have c4 := cell_new w (rcC x) 49 4 (.int .i64 x.r) rfl
 have c5 := cell_new w (rcC x) 49 5 (.int .i64 x.c) rfl
 have r0 := hnew w (.cells (rcC x).toArray 49)
 have hB := (Below.refl w.heap.size w).alloc (Nat.le_refl _) (.cells (rcC x).toArray 49)
 have HS := hid (show (Tryz.prog.info? 49).map (·.size) = some (rcC x).toArray.size by rw [Tryz.sizeRc, List.size_toArray, rcC_len ok])
 by_cases h1 : x.r = 0
 · by_cases h2 : x.c = 0
   · have HD := hid (decide_eq_true (show CntR x by unfold CntR; omega))
     generalize decide (CntR x) = D at *
     subst HD
     generalize rcC x = C at *
     go_enter Tryz.func42, Tryz.ntmps42
     go_wp2
     go_ret
     refine ⟨?_, hB⟩
     exact congrArg (fun b => Ending.returned (Value.bool b)) (by first | rfl | (simp; done) | (simp; omega))
   · have HD := hid (decide_eq_false (show ¬ CntR x by unfold CntR; omega))
     generalize decide (CntR x) = D at *
     subst HD
     generalize rcC x = C at *
     go_enter Tryz.func42, Tryz.ntmps42
     go_wp2
     go_ret
     refine ⟨?_, hB⟩
     exact congrArg (fun b => Ending.returned (Value.bool b)) (by first | rfl | (simp; done) | (simp; omega))
 · by_cases h2 : 1 <= x.c
   · by_cases h3 : x.c <= 4096
     · have HD := hid (decide_eq_true (show CntR x by unfold CntR; omega))
       generalize decide (CntR x) = D at *
       subst HD
       generalize rcC x = C at *
       go_enter Tryz.func42, Tryz.ntmps42
       go_wp2
       go_ret
       refine ⟨?_, hB⟩
       exact congrArg (fun b => Ending.returned (Value.bool b)) (by first | rfl | (simp; done) | (simp; omega))
     · have HD := hid (decide_eq_false (show ¬ CntR x by unfold CntR; omega))
       generalize decide (CntR x) = D at *
       subst HD
       generalize rcC x = C at *
       go_enter Tryz.func42, Tryz.ntmps42
       go_wp2
       go_ret
       refine ⟨?_, hB⟩
       exact congrArg (fun b => Ending.returned (Value.bool b)) (by first | rfl | (simp; done) | (simp; omega))
   · have HD := hid (decide_eq_false (show ¬ CntR x by unfold CntR; omega))
     generalize decide (CntR x) = D at *
     subst HD
     generalize rcC x = C at *
     go_enter Tryz.func42, Tryz.ntmps42
     go_wp2
     go_ret
     refine ⟨?_, hB⟩
     exact congrArg (fun b => Ending.returned (Value.bool b)) (by first | rfl | (simp; done) | (simp; omega))
theorem inumberOf_any (w : World) (x : Rc) (ok : RcOk x) (hv : VerR x) : Calls Tryz.prog 130 #[.agg (rcC x).toArray] w fun e w' => e = .returned (.int .i64 (numR x.v x.f)) /\ Below w.heap.size w w' := by
 have c0 := cell_new w (rcC x) 49 0 (.int .i64 x.v) rfl
 have c1 := cell_new w (rcC x) 49 1 (.int .i64 x.f) rfl
 have c2 := cell_new w (rcC x) 49 2 (.int .i64 x.p) rfl
 have c3 := cell_new w (rcC x) 49 3 (.int .i64 x.s) rfl
 have c4 := cell_new w (rcC x) 49 4 (.int .i64 x.r) rfl
 have c5 := cell_new w (rcC x) 49 5 (.int .i64 x.c) rfl
 have r0 := hnew w (.cells (rcC x).toArray 49)
 have hB := (Below.refl w.heap.size w).alloc (Nat.le_refl _) (.cells (rcC x).toArray 49)
 have HS := hid (show (Tryz.prog.info? 49).map (·.size) = some (rcC x).toArray.size by rw [Tryz.sizeRc, List.size_toArray, rcC_len ok])
 have KN := hid (fun w1 => number_any w1 x.v x.f hv.1 hv.2.1 hv.2.2.2)
 generalize rcC x = C at *
 generalize numR x.v x.f = I at *
 go_enter Tryz.func130, Tryz.ntmps130
 go_wp2_with fail
 refine (KN.out _).mono ?_
 rintro e w2 ⟨rfl, hb2⟩
 go_wp2
 go_ret
 exact ⟨rfl, hB.trans (hb2.mono hB.size)⟩
theorem linksFit_any (w : World) (x : Rc) (ok : RcOk x) (hv : VerR x) : Calls Tryz.prog 107 #[.agg (rcC x).toArray] w fun e w' => e = .returned (.bool (decide (LnkR x))) /\ Below w.heap.size w w' := by
 have c0 := cell_new w (rcC x) 49 0 (.int .i64 x.v) rfl
 have c1 := cell_new w (rcC x) 49 1 (.int .i64 x.f) rfl
 have c2 := cell_new w (rcC x) 49 2 (.int .i64 x.p) rfl
 have c3 := cell_new w (rcC x) 49 3 (.int .i64 x.s) rfl
 have c4 := cell_new w (rcC x) 49 4 (.int .i64 x.r) rfl
 have c5 := cell_new w (rcC x) 49 5 (.int .i64 x.c) rfl
 have r0 := hnew w (.cells (rcC x).toArray 49)
 have hB := (Below.refl w.heap.size w).alloc (Nat.le_refl _) (.cells (rcC x).toArray 49)
 have HS := hid (show (Tryz.prog.info? 49).map (·.size) = some (rcC x).toArray.size by rw [Tryz.sizeRc, List.size_toArray, rcC_len ok])
 have KN := hid (fun w1 => inumberOf_any w1 x ok hv)
 have hI := numR_bd hv
 have hF := far_bd _ hI.1 hI.2
 have KS := hid (fun w1 => skipped_any w1 (numR x.v x.f) hI.1 hI.2)
 have KP := hid (fun w1 => mayBePage_any w1 x.p)
 have HL := hid (show LnkR x ↔ _ from by unfold LnkR; exact Iff.rfl)
 generalize decide_eq : decide (LnkR x) = D at *
 generalize rcC x = C at *
 generalize numR x.v x.f = I at *
 generalize far I = F at *
 go_enter Tryz.func107, Tryz.ntmps107
 go_wp2_with (first | refine wpList_load_row rfl 49 _ rfl _ rfl 49 _ _ _ r0 Tryz.underlying49 rfl HS.out ?_)
 refine (KN.out _).mono ?_
 rintro e w2 ⟨rfl, hb2⟩
 have B2 := hB.trans (hb2.mono hB.size)
 have hz : w.heap.size < (w.alloc (.cells C.toArray 49)).heap.size := by simp
 have d2 := (hb2.cell (p := ⟨w.heap.size, 2, none⟩) hz).trans c2
 have d3 := (hb2.cell (p := ⟨w.heap.size, 3, none⟩) hz).trans c3
 have hz2 := Nat.lt_of_lt_of_le hz hb2.size
 clear c0 c1 c2 c3 c4 c5 r0
 by_cases h1 : I = 1
 · by_cases h2 : x.p = 0
   · by_cases h3 : x.s = 0
     · go_wp2
       go_ret
       refine ⟨?_, B2⟩
       rw [<- decide_eq, decide_eq_true (show LnkR x by rw [HL.out]; unfold PgR; omega)]
       exact congrArg (fun b => Ending.returned (Value.bool b)) (by first | rfl | (simp; done) | (simp; omega))
     · go_wp2
       go_ret
       refine ⟨?_, B2⟩
       rw [<- decide_eq, decide_eq_false (show ¬ LnkR x by rw [HL.out]; unfold PgR; omega)]
       exact congrArg (fun b => Ending.returned (Value.bool b)) (by first | rfl | (simp; done) | (simp; omega))
   · go_wp2
     go_ret
     refine ⟨?_, B2⟩
     rw [<- decide_eq, decide_eq_false (show ¬ LnkR x by rw [HL.out]; unfold PgR; omega)]
     exact congrArg (fun b => Ending.returned (Value.bool b)) (by first | rfl | (simp; done) | (simp; omega))
 · by_cases h2 : PgR x.p
   · rw [decide_eq_true h2] at KP
     go_wp2_with fail
     refine (KP.out _).mono ?_
     rintro e w3 ⟨rfl, hb3⟩
     have d2 := (hb3.cell (p := ⟨w.heap.size, 2, none⟩) hz2).trans d2
     have d3 := (hb3.cell (p := ⟨w.heap.size, 3, none⟩) hz2).trans d3
     have B3 := B2.trans (hb3.mono B2.size)
     have hz3 := Nat.lt_of_lt_of_le hz2 hb3.size
     go_wp2_with fail
     refine (KS.out _).mono ?_
     rintro e w4 ⟨rfl, hb4⟩
     have d2 := (hb4.cell (p := ⟨w.heap.size, 2, none⟩) hz3).trans d2
     have d3 := (hb4.cell (p := ⟨w.heap.size, 3, none⟩) hz3).trans d3
     have B4 := B3.trans (hb4.mono B3.size)
     have h2' := h2
     unfold PgR at h2'
     by_cases h3 : F = 0
     · by_cases h4 : x.s = 0
       · go_wp2
         go_ret
         refine ⟨?_, B4⟩
         rw [<- decide_eq, decide_eq_true (show LnkR x by rw [HL.out]; unfold PgR; omega)]
         exact congrArg (fun b => Ending.returned (Value.bool b)) (by first | rfl | (simp; done) | (simp; omega))
       · go_wp2
         go_ret
         refine ⟨?_, B4⟩
         rw [<- decide_eq, decide_eq_false (show ¬ LnkR x by rw [HL.out]; unfold PgR; omega)]
         exact congrArg (fun b => Ending.returned (Value.bool b)) (by first | rfl | (simp; done) | (simp; omega))
     · by_cases h4 : F = I - 1
       · by_cases h5 : x.s = x.p
         · go_wp2
           go_ret
           refine ⟨?_, B4⟩
           rw [<- decide_eq, decide_eq_true (show LnkR x by rw [HL.out]; unfold PgR; omega)]
           exact congrArg (fun b => Ending.returned (Value.bool b)) (by first | rfl | (simp; done) | (simp; omega))
         · go_wp2
           go_ret
           refine ⟨?_, B4⟩
           rw [<- decide_eq, decide_eq_false (show ¬ LnkR x by rw [HL.out]; unfold PgR; omega)]
           exact congrArg (fun b => Ending.returned (Value.bool b)) (by first | rfl | (simp; done) | (simp; omega))
       · by_cases h5 : 2 <= x.s
         · by_cases h6 : x.s < x.p
           · go_wp2
             go_ret
             refine ⟨?_, B4⟩
             rw [<- decide_eq, decide_eq_true (show LnkR x by rw [HL.out]; unfold PgR; omega)]
             exact congrArg (fun b => Ending.returned (Value.bool b)) (by first | rfl | (simp; done) | (simp; omega))
           · go_wp2
             go_ret
             refine ⟨?_, B4⟩
             rw [<- decide_eq, decide_eq_false (show ¬ LnkR x by rw [HL.out]; unfold PgR; omega)]
             exact congrArg (fun b => Ending.returned (Value.bool b)) (by first | rfl | (simp; done) | (simp; omega))
         · go_wp2
           go_ret
           refine ⟨?_, B4⟩
           rw [<- decide_eq, decide_eq_false (show ¬ LnkR x by rw [HL.out]; unfold PgR; omega)]
           exact congrArg (fun b => Ending.returned (Value.bool b)) (by first | rfl | (simp; done) | (simp; omega))
   · rw [decide_eq_false h2] at KP
     go_wp2_with fail
     refine (KP.out _).mono ?_
     rintro e w3 ⟨rfl, hb3⟩
     have B3 := B2.trans (hb3.mono B2.size)
     unfold PgR at h2
     go_wp2
     go_ret
     refine ⟨?_, B3⟩
     rw [<- decide_eq, decide_eq_false (show ¬ LnkR x by rw [HL.out]; unfold PgR; omega)]
     exact congrArg (fun b => Ending.returned (Value.bool b)) (by first | rfl | (simp; done) | (simp; omega))
theorem iright_any (w : World) (x : Rc) (ok : RcOk x) : Calls Tryz.prog 77 #[.agg (rcC x).toArray] w fun e w' => e = .returned (.bool (decide (RightR x))) /\ Below w.heap.size w w' := by
 have d0 := (BK.nil w).alloc (rcC x) 49
 have k0 := hid (show (rcC x)[0]? = some (.int .i64 x.v) from rfl)
 have k1 := hid (show (rcC x)[1]? = some (.int .i64 x.f) from rfl)
 have k2 := hid (show (rcC x)[2]? = some (.int .i64 x.p) from rfl)
 have k3 := hid (show (rcC x)[3]? = some (.int .i64 x.s) from rfl)
 have k4 := hid (show (rcC x)[4]? = some (.int .i64 x.r) from rfl)
 have k5 := hid (show (rcC x)[5]? = some (.int .i64 x.c) from rfl)
 have HS := hid (show (Tryz.prog.info? 49).map (·.size) = some (rcC x).toArray.size by rw [Tryz.sizeRc, List.size_toArray, rcC_len ok])
 have KV := hid (fun w1 => versionFits_any w1 x ok)
 have KP := hid (fun w1 => mayBePage_any w1 x.r)
 have KC := hid (fun w1 => countFits_any w1 x ok)
 have KL := hid (fun hv w1 => linksFit_any w1 x ok hv)
 have HR := hid (show RightR x ↔ (VerR x /\ (x.r = 0 \/ PgR x.r) /\ CntR x /\ LnkR x) from Iff.rfl)
 generalize hD : decide (RightR x) = D at *
 generalize rcC x = C at *
 go_enter Tryz.func77, Tryz.ntmps77
 have r0 := d0.row (.head _)
 go_wp2_with (first | refine wpList_load_row_w (by rfl) 49 _ (by rfl) _ (by rfl) 49 _ _ _ r0 Tryz.underlying49 rfl HS.out ?_)
 refine (KV.out _).mono ?_
 rintro e w1 ⟨rfl, hb⟩
 have d1 := d0.call hb
 clear hb r0
 by_cases hv : VerR x
 · simp only [decide_eq_true hv]
   have c4 := d1.cell (.head _) k4.out
   by_cases h0 : x.r = 0
   · have r0 := d1.row (.head _)
     go_wp2_with (first | refine wpList_load_row_w (by rfl) 49 _ (by rfl) _ (by rfl) 49 _ _ _ r0 Tryz.underlying49 rfl HS.out ?_)
     refine (KC.out _).mono ?_
     rintro e w3 ⟨rfl, hb⟩
     have d3 := d1.call hb
     clear hb r0
     by_cases hc : CntR x
     · simp only [decide_eq_true hc]
       have r0 := d3.row (.head _)
       have KL := hid (KL.out hv)
       go_wp2_with (first | refine wpList_load_row_w (by rfl) 49 _ (by rfl) _ (by rfl) 49 _ _ _ r0 Tryz.underlying49 rfl HS.out ?_)
       refine (KL.out _).mono ?_
       rintro e w4 ⟨rfl, hb⟩
       have d4 := d3.call hb
       clear hb r0
       by_cases hl : LnkR x
       · simp only [decide_eq_true hl]
         go_wp2
         go_ret
         refine ⟨?_, d4.1⟩
         rw [<- hD, decide_eq_true (show RightR x by rw [HR.out]; simp [*])]
         exact congrArg (fun b => Ending.returned (Value.bool b)) (by first | rfl | (simp; done) | (simp; omega))
       · simp only [decide_eq_false hl]
         go_wp2
         go_ret
         refine ⟨?_, d4.1⟩
         rw [<- hD, decide_eq_false (show ¬ RightR x by rw [HR.out]; simp [*])]
         exact congrArg (fun b => Ending.returned (Value.bool b)) (by first | rfl | (simp; done) | (simp; omega))
     · simp only [decide_eq_false hc]
       go_wp2
       go_ret
       refine ⟨?_, d3.1⟩
       rw [<- hD, decide_eq_false (show ¬ RightR x by rw [HR.out]; simp [*])]
       exact congrArg (fun b => Ending.returned (Value.bool b)) (by first | rfl | (simp; done) | (simp; omega))
   · go_wp2_with fail
     refine (KP.out _).mono ?_
     rintro e w2 ⟨rfl, hb⟩
     have d2 := d1.call hb
     clear hb
     clear c4
     by_cases hp : PgR x.r
     · simp only [decide_eq_true hp]
       have r0 := d2.row (.head _)
       go_wp2_with (first | refine wpList_load_row_w (by rfl) 49 _ (by rfl) _ (by rfl) 49 _ _ _ r0 Tryz.underlying49 rfl HS.out ?_)
       refine (KC.out _).mono ?_
       rintro e w3 ⟨rfl, hb⟩
       have d3 := d2.call hb
       clear hb r0
       by_cases hc : CntR x
       · simp only [decide_eq_true hc]
         have r0 := d3.row (.head _)
         have KL := hid (KL.out hv)
         go_wp2_with (first | refine wpList_load_row_w (by rfl) 49 _ (by rfl) _ (by rfl) 49 _ _ _ r0 Tryz.underlying49 rfl HS.out ?_)
         refine (KL.out _).mono ?_
         rintro e w4 ⟨rfl, hb⟩
         have d4 := d3.call hb
         clear hb r0
         by_cases hl : LnkR x
         · simp only [decide_eq_true hl]
           go_wp2
           go_ret
           refine ⟨?_, d4.1⟩
           rw [<- hD, decide_eq_true (show RightR x by rw [HR.out]; simp [*])]
           exact congrArg (fun b => Ending.returned (Value.bool b)) (by first | rfl | (simp; done) | (simp; omega))
         · simp only [decide_eq_false hl]
           go_wp2
           go_ret
           refine ⟨?_, d4.1⟩
           rw [<- hD, decide_eq_false (show ¬ RightR x by rw [HR.out]; simp [*])]
           exact congrArg (fun b => Ending.returned (Value.bool b)) (by first | rfl | (simp; done) | (simp; omega))
       · simp only [decide_eq_false hc]
         go_wp2
         go_ret
         refine ⟨?_, d3.1⟩
         rw [<- hD, decide_eq_false (show ¬ RightR x by rw [HR.out]; simp [*])]
         exact congrArg (fun b => Ending.returned (Value.bool b)) (by first | rfl | (simp; done) | (simp; omega))
     · simp only [decide_eq_false hp]
       go_wp2
       go_ret
       refine ⟨?_, d2.1⟩
       rw [<- hD, decide_eq_false (show ¬ RightR x by rw [HR.out]; simp [*])]
       exact congrArg (fun b => Ending.returned (Value.bool b)) (by first | rfl | (simp; done) | (simp; omega))
 · simp only [decide_eq_false hv]
   go_wp2
   go_ret
   refine ⟨?_, d1.1⟩
   rw [<- hD, decide_eq_false (show ¬ RightR x by rw [HR.out]; simp [*])]
   exact congrArg (fun b => Ending.returned (Value.bool b)) (by first | rfl | (simp; done) | (simp; omega))
theorem readNumber_any (w : World) (t : List Int) (hy : Bys t) (h4 : 4 <= t.length) (sp : Option Addr) (cap : Nat) (hS : Src w sp cap t) :
   Calls Tryz.prog 100 #[.slice sp t.length cap] w fun e w' => e = .returned (.int .i64 (numP t 0)) /\ Below w.heap.size w w' := by
 obtain ⟨hc, hm, b, o, hb, hsp, hsrc⟩ := hS
 obtain rfl := hsp (by omega)
 have c0 := hsrc 0 (by omega)
 have c1 := hsrc 1 (by omega)
 have c2 := hsrc 2 (by omega)
 have c3 := hsrc 3 (by omega)
 rw [Nat.add_zero] at c0
 have b0 := hy.at 0 (by omega)
 have b1 := hy.at 1 (by omega)
 have b2 := hy.at 2 (by omega)
 have b3 := hy.at 3 (by omega)
 have HE := hid (show numP t 0 = t.getD 0 0 + 256 * t.getD 1 0 + 65536 * t.getD 2 0 + 16777216 * t.getD 3 0 from rfl)
 generalize t.getD 0 0 = x0 at *
 generalize t.getD 1 0 = x1 at *
 generalize t.getD 2 0 = x2 at *
 generalize t.getD 3 0 = x3 at *
 have HO := hid (or4 x0 x1 x2 x3 b0 b1 b2 b3)
 have i4 : (4 : Int) <= (t.length : Int) := by omega
 generalize t.length = n at *
 go_enter Tryz.func100, Tryz.ntmps100
 go_wp2
 go_quiet (fail)
 go_wp2
 go_ret
 refine ⟨?_, below_drewN (Below.refl _ _) _⟩
 rw [HE.out, <- HO.out]
 rfl
theorem Src.taili {w : World} {b o cap : Nat} {r : List Int} (hS : Src w (some ⟨b, o, none⟩) cap r) (k : Nat) (h : k < r.length) : Src w (some ⟨b, o + k, none⟩) (cap - k) (r.drop k) := by
 obtain ⟨h1, h2, b', o', h3, h4, h5⟩ := hS
 have hl : (r.drop k).length = r.length - k := by simp
 have he := h4 (by omega)
 cases he
 refine ⟨by omega, by omega, b, o + k, fun _ => h3 (by omega), fun _ => rfl, fun j hj => ?_⟩
 have := h5 (k + j) (by omega)
 rw [Nat.add_assoc, this, List.getD_eq_getElem?_getD, List.getD_eq_getElem?_getD, List.getElem?_drop]
theorem numP_drop (t : List Int) (k : Nat) : numP (t.drop k) 0 = numP t k := by
 unfold numP
 simp only [List.getD_eq_getElem?_getD, List.getElem?_drop, Nat.zero_add, Nat.add_zero]
theorem wpList_allocVi {P : Program} {t : TypeId} {Z : List Value} (hz : ∀ (a : Act) (o : Oper) (w : World), o.op = .alloc t -> (execOp a.eval o).run P w = .ok (.value (.pointer (some ⟨w.heap.size, 0, none⟩))) (w.alloc (.cells Z.toArray t)))
   {ops : Array Oper} {rest : List Oper} {o : Oper} {a : Act} {w : World} {Q : Exit -> Act -> World -> Prop} (hg : o.guard = none) (ho : o.op = .alloc t)
   (h : wpList P ops Q rest (a.put o.dst (.pointer (some ⟨w.heap.size, 0, none⟩))) (w.alloc (.cells Z.toArray t))) : wpList P ops Q (o :: rest) a w := by
 refine wpList_plain hg fun K hK => ?_
 unfold Oper.wp
 rw [hz a o w ho]
 exact hK _ _ h
theorem yieldsIf_built {P : Program} {ops : Array Oper} {S : World -> Prop} {o : Oper} {a : Act} (hw : Region.wanted o (yielded ops a.tmps) = true) (t : TypeId) (parts : Array (Nat × Operand)) (ho : o.op = .build t parts) (ps : List (Nat × Value)) (hp : (parts.toList.map fun (i, x) => (i, a.eval x)) = ps) (cs : Array Value) (hb : P.built t ps = some cs) : YieldsIf P ops S o (.agg cs) a :=
 .inl ⟨hw, fun w _ => by
   have e : P.built t (parts.map fun (i, x) => (i, a.eval x)).toList = some cs := by rw [Array.toList_map, hp]; exact hb
   unfold execOp
   simp only [ho, Sem.run_bind, run_build w t _ cs e, Result.andThen_ok, Sem.run_pure]⟩
theorem bk_setn {w0 w : World} {b g t : Nat} {zs : List Int} {C : List Value} {u : Nat} (h : BK w0 w [(g, C, u), (b, ints .i64 zs, t)]) (hb : w0.heap.size <= b) (hne : g ≠ b) (j : Nat) (x : Int) : BK w0 (w.setCell ⟨b, j, none⟩ (.int .i64 x)) [(g, C, u), (b, ints .i64 (zs.set j x), t)] := by
 refine ⟨h.1.setCell (p := ⟨b, j, none⟩) hb _, fun y hy => ?_⟩
 rcases List.mem_cons.1 hy with rfl | hy
 · exact heap_set_far (h.row (.head _)) _ _ hne
 · rcases List.mem_cons.1 hy with rfl | hy
   · exact heap_set_ints (h.row (.tail _ (.head _))) j x
   · cases hy
theorem step_storeRowC {w : World} {ops : Array Oper} {o : Oper} {a : Act} {K : Act -> World -> Prop} {Q : Exit -> Act -> World -> Prop} {E : Prop} (hgd : o.guard = none) (ty : TypeId) (x y : Operand) (ho : o.op = .store ty x y)
   (g : Nat) (cells : Array Value) (hx : a.eval x = .pointer (some ⟨g, 0, none⟩)) (hy : a.eval y = .agg cells)
   (t : TypeId) (old : Array Value) (hg : w.heap[g]? = some (.cells old t (0, 0))) (hi : (Tryz.prog.info? ty).map (·.size) = some cells.size)
   (hold : old.size = cells.size) (h1 : cells.all (·.oneCell') = true) (h : K (a.put o.dst undef) (w.setRow g cells)) :
   if Region.wanted o (yielded ops a.tmps) = true then Oper.wp Tryz.prog o a w K Q else E := by
 have hw : Region.wanted o (yielded ops a.tmps) = true := by simp [Region.wanted, hgd]
 rw [if_pos hw]
 exact wp_store_row ty x y ho g cells hx hy t old hg hi hold h1 h
theorem step_allocV {P : Program} {t : TypeId} {Z : List Value} (hz : ∀ (a : Act) (o : Oper) (w : World), o.op = .alloc t -> (execOp a.eval o).run P w = .ok (.value (.pointer (some ⟨w.heap.size, 0, none⟩))) (w.alloc (.cells Z.toArray t)))
   {ops : Array Oper} {o : Oper} {a : Act} {w : World} {K : Act -> World -> Prop} {Q : Exit -> Act -> World -> Prop} {E : Prop} (hw : Region.wanted o (yielded ops a.tmps) = true) (ho : o.op = .alloc t)
   (h : K (a.put o.dst (.pointer (some ⟨w.heap.size, 0, none⟩))) (w.alloc (.cells Z.toArray t))) : if Region.wanted o (yielded ops a.tmps) = true then Oper.wp P o a w K Q else E := by
 rw [if_pos hw]
 unfold Oper.wp
 rw [hz a o w ho]
 exact h
def RN (t : List Int) (k : Nat) : List Int := [if 0 < k then numP t 0 else 0, if 1 < k then numP t 4 else 0, if 2 < k then numP t 8 else 0, if 3 < k then numP t 12 else 0, if 4 < k then numP t 16 else 0, if 5 < k then numP t 20 else 0]
theorem alloc6 (a : Act) (o : Oper) (w : World) (ho : o.op = .alloc 145) : (execOp a.eval o).run Tryz.prog w = .ok (.value (.pointer (some ⟨w.heap.size, 0, none⟩))) (w.alloc (.cells (ints .i64 [0, 0, 0, 0, 0, 0]).toArray 145)) := by
 unfold execOp
 rw [ho]
 kernel_rfl
def DecRP (w : World) (t : List Int) (e : Ending) (w' : World) : Prop := e = .returned (.tuple #[.agg (rcC (decRV t)).toArray, .int .i64 (decRE t)]) /\ Below w.heap.size w w'
theorem idecode_no (w : World) (t : List Int) (hl : t.length ≠ 56) (hm : t.length <= 9223372036854775807) (sp : Option Addr) (cap : Nat) :
   Calls Tryz.prog 74 #[.slice sp t.length cap] w (DecRP w t) := by
 have HP := hid (fun w' (h : Below w.heap.size w w') => show DecRP w t (.returned (.tuple #[.agg (rcC rc0).toArray, .int .i64 150])) w' from by
   have e : decR t = none := by unfold decR; rw [if_neg (by intro h; exact hl h.1)]
   unfold DecRP decRV decRE; rw [e]; exact ⟨rfl, h⟩)
 have d0 := (BK.nil w).alloc (rcC rc0) 49
 have AR := hid allocRc
 have BZ := hid built_rc0
 have L0 := hid (show (rcC rc0).length = 38 from rfl)
 have O0 := hid (rcC_one rc0)
 generalize DecRP w t = P at *
 have i1 : ¬ ((t.length : Int) = 56) := by omega
 have i2 : (t.length : Int) <= 9223372036854775807 := by omega
 generalize t.length = n at *
 generalize rcC rc0 = C0 at *
 have r0 := d0.row (.head _)
 have d1 := d0.set (Nat.le_refl _) (by intro x hx; cases hx) C0
 go_enter Tryz.func74, Tryz.ntmps74
 go_wp2_with (first
   | refine wpList_allocVi AR.out rfl rfl ?_
   | refine wpList_built (by rfl) 49 _ rfl _ rfl _ BZ.out ?_
   | refine wpList_store_row rfl 49 _ _ (by rfl) w.heap.size C0.toArray (by rfl) (by rfl) 49 _ r0 (by rw [Tryz.sizeRc, List.size_toArray, L0.out]) (by rfl) (all_oneCell_toArray O0.out) ?_)
 exact bodyPost_ret (v := .tuple #[.agg C0.toArray, .int .i64 150]) (results_c2i Tryz.results74 _ _ w.heap.size 49 _ _ _ rfl (d1.row (.head _)) Tryz.underlying49 rfl (by rw [Tryz.sizeRc, List.size_toArray, L0.out])) rfl (HP.out _ d1.1)
theorem idecode_yes (w : World) (t : List Int) (hy : Bys t) (hl : t.length = 56) (sp : Option Addr) (cap : Nat) (hS : Src w sp cap t) :
   Calls Tryz.prog 74 #[.slice sp 56 cap] w (DecRP w t) := by
 obtain ⟨b, o, rfl, hb⟩ : ∃ b o, sp = some ⟨b, o, none⟩ /\ b < w.heap.size := by obtain ⟨_, _, b, o, h3, h4, _⟩ := hS; exact ⟨b, o, h4 (by omega), h3 (by omega)⟩
 have hcap : 56 <= cap := by have := hS.1; omega
 have ic : (56 : Int) <= (cap : Int) := by omega
 have ok := readR_ok hl
 have HP := hid (fun w' (h : Below w.heap.size w w') => show DecRP w t (.returned (.tuple #[.agg (rcC (if RightR (readR t) then readR t else rc0)).toArray, .int .i64 (if RightR (readR t) then 0 else 150)])) w' from by
   have e : decR t = if RightR (readR t) then some (readR t) else none := by unfold decR; simp [hl]
   unfold DecRP decRV decRE; rw [e]; refine ⟨?_, h⟩
   by_cases h : RightR (readR t) <;> simp [h])
 have KR := hid (fun w1 => iright_any w1 (readR t) ok)
 have d0 := ((BK.nil w).alloc (rcC rc0) 49).alloc (ints .i64 (RN t 0)) 145
 have hz : (w.alloc (.cells (rcC rc0).toArray 49)).heap.size = w.heap.size + 1 := by simp
 rw [hz] at d0
 replace d0 : BK w _ [(w.heap.size, rcC rc0, 49), (w.heap.size + 1, ints .i64 (RN t 0), 145)] := ⟨d0.1, fun x hx => d0.2 x (by simp only [List.mem_cons, List.not_mem_nil, or_false] at hx ⊢; exact hx.symm)⟩
 have AR := hid allocRc
 have A6 := hid alloc6
 have BZ := hid built_rc0
 have K0 := hid (fun w1 (h : Src w1 (some ⟨b, o + 0, none⟩) (cap - 0) (t.drop 0)) => readNumber_any w1 (t.drop 0) (fun x hx => hy x (List.mem_of_mem_drop hx)) (by simp; omega) (some ⟨b, o + 0, none⟩) (cap - 0) h)
 rw [numP_drop, show (t.drop 0).length = 56 by simp; omega] at K0
 have S0 := hid (hS.taili 0 (by omega))
 have K1 := hid (fun w1 (h : Src w1 (some ⟨b, o + 4, none⟩) (cap - 4) (t.drop 4)) => readNumber_any w1 (t.drop 4) (fun x hx => hy x (List.mem_of_mem_drop hx)) (by simp; omega) (some ⟨b, o + 4, none⟩) (cap - 4) h)
 rw [numP_drop, show (t.drop 4).length = 52 by simp; omega] at K1
 have S1 := hid (hS.taili 4 (by omega))
 have K2 := hid (fun w1 (h : Src w1 (some ⟨b, o + 8, none⟩) (cap - 8) (t.drop 8)) => readNumber_any w1 (t.drop 8) (fun x hx => hy x (List.mem_of_mem_drop hx)) (by simp; omega) (some ⟨b, o + 8, none⟩) (cap - 8) h)
 rw [numP_drop, show (t.drop 8).length = 48 by simp; omega] at K2
 have S2 := hid (hS.taili 8 (by omega))
 have K3 := hid (fun w1 (h : Src w1 (some ⟨b, o + 12, none⟩) (cap - 12) (t.drop 12)) => readNumber_any w1 (t.drop 12) (fun x hx => hy x (List.mem_of_mem_drop hx)) (by simp; omega) (some ⟨b, o + 12, none⟩) (cap - 12) h)
 rw [numP_drop, show (t.drop 12).length = 44 by simp; omega] at K3
 have S3 := hid (hS.taili 12 (by omega))
 have K4 := hid (fun w1 (h : Src w1 (some ⟨b, o + 16, none⟩) (cap - 16) (t.drop 16)) => readNumber_any w1 (t.drop 16) (fun x hx => hy x (List.mem_of_mem_drop hx)) (by simp; omega) (some ⟨b, o + 16, none⟩) (cap - 16) h)
 rw [numP_drop, show (t.drop 16).length = 40 by simp; omega] at K4
 have S4 := hid (hS.taili 16 (by omega))
 have K5 := hid (fun w1 (h : Src w1 (some ⟨b, o + 20, none⟩) (cap - 20) (t.drop 20)) => readNumber_any w1 (t.drop 20) (fun x hx => hy x (List.mem_of_mem_drop hx)) (by simp; omega) (some ⟨b, o + 20, none⟩) (cap - 20) h)
 rw [numP_drop, show (t.drop 20).length = 36 by simp; omega] at K5
 have S5 := hid (hS.taili 20 (by omega))
 have r24 : w.rangeAt b (o + 24) (ints .u8 (t.drop 24)) := fun j v hv => by
   have hj := (List.getElem?_eq_some_iff.1 hv).1
   rw [ints_len] at hj
   rw [ints_get .u8 _ j hj] at hv
   obtain ⟨_, _, b', o', _, h4, h5⟩ := hS
   have he := h4 (by omega)
   cases he
   have hj2 : j < 32 := by simp at hj; omega
   have := h5 (24 + j) (by omega)
   rw [Nat.add_assoc, this, <- hv, List.getD_eq_getElem?_getD, List.getD_eq_getElem?_getD, List.getElem?_drop]
 have BR := hid (built_rc (readR t) ok)
 have LS := hid (show (Tryz.prog.info? 47).map (·.size) = some (ints .u8 (t.drop 24)).length by rw [Tryz.sizeD, ints_len]; exact congrArg some ok.sm.symm)
 have L0 := hid (show (rcC rc0).length = 38 from rfl)
 have O0 := hid (rcC_one rc0)
 have LR := hid (rcC_len ok)
 have OR := hid (rcC_one (readR t))
 have Z6 := hid (show RN t 0 = [0, 0, 0, 0, 0, 0] from rfl)
 have R6 := hid (show RN t 6 = [numP t 0, numP t 4, numP t 8, numP t 12, numP t 16, numP t 20] from rfl)
 have R1b := hid (show RN t 1 = (RN t 0).set 0 (numP t 0) from rfl)
 have R2b := hid (show RN t 2 = (RN t 1).set 1 (numP t 4) from rfl)
 have R3b := hid (show RN t 3 = (RN t 2).set 2 (numP t 8) from rfl)
 have R4b := hid (show RN t 4 = (RN t 3).set 3 (numP t 12) from rfl)
 have R5b := hid (show RN t 5 = (RN t 4).set 4 (numP t 16) from rfl)
 have R6b := hid (show RN t 6 = (RN t 5).set 5 (numP t 20) from rfl)
 have hA : ∀ w, (Instr.arrayAt 47 (.slice (some ⟨b, o + 24, none⟩) 32 (cap - 24))).run Tryz.prog w = .ok (.pointer (some ⟨b, o + 24, none⟩)) w := fun w => run_arrayAt w 47 5 32 (some ⟨b, o + 24, none⟩) 32 (cap - 24) Tryz.underlying47 (Nat.le_refl _)
 have HX := hid (show decide (RightR (readR t)) = true \/ decide (RightR (readR t)) = false by cases decide (RightR (readR t)) <;> simp)
 have HT := hid (fun (h : decide (RightR (readR t)) = true) => (show (if RightR (readR t) then readR t else rc0) = readR t /\ (if RightR (readR t) then (0 : Int) else 150) = 0 from ⟨if_pos (of_decide_eq_true h), if_pos (of_decide_eq_true h)⟩))
 have HN := hid (fun (h : decide (RightR (readR t)) = false) => (show (if RightR (readR t) then readR t else rc0) = rc0 /\ (if RightR (readR t) then (0 : Int) else 150) = 150 from ⟨if_neg (of_decide_eq_false h), if_neg (of_decide_eq_false h)⟩))
 generalize DecRP w t = P at *
 generalize decide (RightR (readR t)) = DR at *
 generalize (if RightR (readR t) then readR t else rc0) = X at *
 generalize (if RightR (readR t) then (0 : Int) else 150) = E at *
 have HCR := hid (show X = readR t -> rcC X = rcC (readR t) from fun h => by rw [h])
 have HC0 := hid (show X = rc0 -> rcC X = rcC rc0 from fun h => by rw [h])
 simp only [show (readR t).v = numP t 0 from rfl, show (readR t).f = numP t 4 from rfl, show (readR t).p = numP t 8 from rfl, show (readR t).s = numP t 12 from rfl, show (readR t).r = numP t 16 from rfl, show (readR t).c = numP t 20 from rfl, show (readR t).sm = t.drop 24 from rfl] at BR
 generalize rcC (readR t) = CR at *
 generalize rcC rc0 = C0 at *
 generalize readR t = RR at *
 generalize t.drop 24 = DL at *
 go_enter Tryz.func74, Tryz.ntmps74
 rw [Z6.out] at d0
 go_wp2_with (first
   | refine wpList_allocVi AR.out rfl rfl ?_
   | refine wpList_allocVi A6.out rfl rfl ?_)
 rw [<- Z6.out] at d0
 go_loopw [11, 5] (fun i j wr => ∃ k : Nat, k <= 6 /\ i = .int .i64 k /\ BK w wr [(w.heap.size, C0, 49), (w.heap.size + 1, ints .i64 (RN t k), 145)]) (fun i _ _ => 6 - (intOf i).toNat)
 case atStart => exact ⟨0, by omega, rfl, d0⟩
 case round =>
   clear d0
   obtain ⟨k, hk, rfl, dr⟩ := hrel
   by_cases hlt : k < 6
   · match k, hlt with
     | 0, _ =>
       go_wp2_with fail
       refine (K0.out _ (S0.out.below dr.1 (Nat.le_refl _))).mono ?_
       rintro e w2 ⟨rfl, hb2⟩
       have d2 := dr.call hb2
       have cx := d2.cell (.tail _ (.head _)) (j := 0) (v := .int .i64 0) rfl
       have fx : w2.frozen? ⟨w.heap.size + 1, 0, none⟩ = false := frozen_of_row _ _ _ _ _ (d2.row (.tail _ (.head _)))
       have d3 := bk_setn d2 (by omega) (by omega) 0 (numP t 0)
       go_wp2
       go_roundw
       case rel => exact ⟨1, by omega, by go_num, d3⟩
       case measure => simp [intOf]
     | 1, _ =>
       go_wp2_with fail
       refine (K1.out _ (S1.out.below dr.1 (Nat.le_refl _))).mono ?_
       rintro e w2 ⟨rfl, hb2⟩
       have d2 := dr.call hb2
       have cx := d2.cell (.tail _ (.head _)) (j := 1) (v := .int .i64 0) rfl
       have fx : w2.frozen? ⟨w.heap.size + 1, 1, none⟩ = false := frozen_of_row _ _ _ _ _ (d2.row (.tail _ (.head _)))
       have d3 := bk_setn d2 (by omega) (by omega) 1 (numP t 4)
       go_wp2
       go_roundw
       case rel => exact ⟨2, by omega, by go_num, d3⟩
       case measure => simp [intOf]
     | 2, _ =>
       go_wp2_with fail
       refine (K2.out _ (S2.out.below dr.1 (Nat.le_refl _))).mono ?_
       rintro e w2 ⟨rfl, hb2⟩
       have d2 := dr.call hb2
       have cx := d2.cell (.tail _ (.head _)) (j := 2) (v := .int .i64 0) rfl
       have fx : w2.frozen? ⟨w.heap.size + 1, 2, none⟩ = false := frozen_of_row _ _ _ _ _ (d2.row (.tail _ (.head _)))
       have d3 := bk_setn d2 (by omega) (by omega) 2 (numP t 8)
       go_wp2
       go_roundw
       case rel => exact ⟨3, by omega, by go_num, d3⟩
       case measure => simp [intOf]
     | 3, _ =>
       go_wp2_with fail
       refine (K3.out _ (S3.out.below dr.1 (Nat.le_refl _))).mono ?_
       rintro e w2 ⟨rfl, hb2⟩
       have d2 := dr.call hb2
       have cx := d2.cell (.tail _ (.head _)) (j := 3) (v := .int .i64 0) rfl
       have fx : w2.frozen? ⟨w.heap.size + 1, 3, none⟩ = false := frozen_of_row _ _ _ _ _ (d2.row (.tail _ (.head _)))
       have d3 := bk_setn d2 (by omega) (by omega) 3 (numP t 12)
       go_wp2
       go_roundw
       case rel => exact ⟨4, by omega, by go_num, d3⟩
       case measure => simp [intOf]
     | 4, _ =>
       go_wp2_with fail
       refine (K4.out _ (S4.out.below dr.1 (Nat.le_refl _))).mono ?_
       rintro e w2 ⟨rfl, hb2⟩
       have d2 := dr.call hb2
       have cx := d2.cell (.tail _ (.head _)) (j := 4) (v := .int .i64 0) rfl
       have fx : w2.frozen? ⟨w.heap.size + 1, 4, none⟩ = false := frozen_of_row _ _ _ _ _ (d2.row (.tail _ (.head _)))
       have d3 := bk_setn d2 (by omega) (by omega) 4 (numP t 16)
       go_wp2
       go_roundw
       case rel => exact ⟨5, by omega, by go_num, d3⟩
       case measure => simp [intOf]
     | 5, _ =>
       go_wp2_with fail
       refine (K5.out _ (S5.out.below dr.1 (Nat.le_refl _))).mono ?_
       rintro e w2 ⟨rfl, hb2⟩
       have d2 := dr.call hb2
       have cx := d2.cell (.tail _ (.head _)) (j := 5) (v := .int .i64 0) rfl
       have fx : w2.frozen? ⟨w.heap.size + 1, 5, none⟩ = false := frozen_of_row _ _ _ _ _ (d2.row (.tail _ (.head _)))
       have d3 := bk_setn d2 (by omega) (by omega) 5 (numP t 20)
       go_wp2
       go_roundw
       case rel => exact ⟨6, by omega, by go_num, d3⟩
       case measure => simp [intOf]
   · obtain rfl : k = 6 := by omega
     rw [R6.out] at dr
     generalize numP t 0 = n0 at *
     generalize numP t 4 = n1 at *
     generalize numP t 8 = n2 at *
     generalize numP t 12 = n3 at *
     generalize numP t 16 = n4 at *
     generalize numP t 20 = n5 at *
     go_wp2_with fail
     refine wp_region_noPanic ?_
     refine wp_region_held_drew (S := (fun w' => BK w w' [(w.heap.size, C0, 49), (w.heap.size + 1, ints .i64 [n0, n1, n2, n3, n4, n5], 145)])) (by kernel_rfl) dr.drew (fun hHeld => ?_)
     refine tkA 0 (.pointer (some ⟨w.heap.size + 1, 0, none⟩)) rfl hHeld ?_
     try go_frame
     refine tkA 2 (.pointer (some ⟨w.heap.size + 1, 1, none⟩)) rfl hHeld ?_
     try go_frame
     refine tkA 4 (.pointer (some ⟨w.heap.size + 1, 2, none⟩)) rfl hHeld ?_
     try go_frame
     refine tkA 6 (.pointer (some ⟨w.heap.size + 1, 3, none⟩)) rfl hHeld ?_
     try go_frame
     refine tkA 8 (.pointer (some ⟨w.heap.size + 1, 4, none⟩)) rfl hHeld ?_
     try go_frame
     refine tkA 10 (.pointer (some ⟨w.heap.size + 1, 5, none⟩)) rfl hHeld ?_
     try go_frame
     refine tkA 12 (.slice (some ⟨b, o, none⟩) 56 cap) rfl hHeld ?_
     try go_frame
     refine tqA 1 (.int .i64 n0) rfl (yA (by intro w hS; have hc := hS.cell (.tail _ (.head _)) (j := 0) (v := .int .i64 n0) rfl; go_simp)) hHeld ?_
     try go_frame
     refine tqA 3 (.int .i64 n1) rfl (yA (by intro w hS; have hc := hS.cell (.tail _ (.head _)) (j := 1) (v := .int .i64 n1) rfl; go_simp)) hHeld ?_
     try go_frame
     refine tqA 5 (.int .i64 n2) rfl (yA (by intro w hS; have hc := hS.cell (.tail _ (.head _)) (j := 2) (v := .int .i64 n2) rfl; go_simp)) hHeld ?_
     try go_frame
     refine tqA 7 (.int .i64 n3) rfl (yA (by intro w hS; have hc := hS.cell (.tail _ (.head _)) (j := 3) (v := .int .i64 n3) rfl; go_simp)) hHeld ?_
     try go_frame
     refine tqA 9 (.int .i64 n4) rfl (yA (by intro w hS; have hc := hS.cell (.tail _ (.head _)) (j := 4) (v := .int .i64 n4) rfl; go_simp)) hHeld ?_
     try go_frame
     refine tqA 11 (.int .i64 n5) rfl (yA (by intro w hS; have hc := hS.cell (.tail _ (.head _)) (j := 5) (v := .int .i64 n5) rfl; go_simp)) hHeld ?_
     try go_frame
     refine tqA 13 (.slice (some ⟨b, o + 24, none⟩) 32 (cap - 24)) rfl (yA (by intro w hS; have q : ¬ (((cap - 24 : Nat) : Int) < 32) := (by omega); go_simp; omega)) hHeld ?_
     try go_frame
     refine tkA 14 (.pointer (some ⟨b, o + 24, none⟩)) rfl hHeld ?_
     try go_frame
     refine tqA 15 (.agg (ints .u8 DL).toArray) rfl (yieldsIf_load_mid (by rfl) 47 _ rfl b (o + 24) rfl (ints .u8 DL) _ (fun w hS => rng_below r24 hS.1 hb) Tryz.underlying47 rfl LS.out) hHeld ?_
     try go_frame
     refine tqA 16 (.agg CR.toArray) rfl (yieldsIf_built (by rfl) 49 #[(0, Operand.tmp 23), (1, Operand.tmp 25), (2, Operand.tmp 27), (3, Operand.tmp 29), (4, Operand.tmp 31), (5, Operand.tmp 33), (6, Operand.tmp 37)] rfl _ rfl _ BR.out) hHeld ?_
     try go_frame
     refine rdA 17 rfl (fun K hK => ?_)
     refine step_allocV AR.out (by rfl) (by rfl) ?_
     have d8 := (hHeld.alloc C0 49)
     have hG : w.heap.size + 1 < wr.drew.heap.size := hHeld.lt (.tail _ (.head _))
     refine hK.out _ _ (hHeld.other _) (fun hHeld2 => ?_)
     clear hHeld2 hK K
     try go_frame
     have r8 := d8.row (.head _)
     have d9 := d8.set (by omega) (by intro x hx; simp only [List.mem_cons, List.not_mem_nil, or_false] at hx; exact hx.elim (fun h => by subst h; exact Nat.ne_of_lt (by omega)) (fun h => by subst h; exact Nat.ne_of_lt hG)) CR
     refine rdA 18 rfl (fun K hK => ?_)
     refine step_storeRowC rfl 49 (.tmp 6) (.tmp 38) rfl wr.drew.heap.size CR.toArray rfl rfl 49 C0.toArray r8 (by rw [Tryz.sizeRc, List.size_toArray, LR.out]) (by rw [List.size_toArray, List.size_toArray, L0.out, LR.out]) (all_oneCell_toArray OR.out) ?_
     refine hK.out _ _ (show BK w _ _ from ⟨d9.1, fun x hx => d9.2 x (.tail _ hx)⟩) (fun hHeld2 => ?_)
     clear hHeld2 hK K hHeld d8 r8
     try go_frame
     refine wdA ?_
     have r9 := d9.row (.head _)
     have SR := hid (show (Tryz.prog.info? 49).map (·.size) = some CR.toArray.size by rw [Tryz.sizeRc, List.size_toArray, LR.out])
     go_wp2_with (first | refine wpList_load_row_w (by rfl) 49 _ (by rfl) _ (by rfl) 49 _ _ _ r9 Tryz.underlying49 rfl SR.out ?_)
     refine (KR.out _).mono ?_
     rintro e w4 ⟨rfl, hb4⟩
     have d4 := d9.call hb4
     have r4 := d4.row (.head _)
     have q4 := d4.row (.tail _ (.head _))
     have e4 : BK w _ [(w.heap.size, C0, 49)] := ⟨d4.1, fun x hx => d4.2 x (by simp only [List.mem_cons, List.not_mem_nil, or_false] at hx; subst hx; exact .tail _ (.head _))⟩
     clear r9
     rcases HX.out with h | h
     · obtain ⟨hX, rfl⟩ := HT.out h
       subst h
       rw [HCR.out hX] at HP
       have e5 := e4.set (Nat.le_refl _) (by intro x hx; cases hx) CR
       go_wp2_with (first
         | refine wpList_load_row_w (by rfl) 49 _ (by rfl) wr.drew.heap.size (by rfl) 49 _ _ _ r4 Tryz.underlying49 rfl SR.out ?_
         | refine wpList_store_row rfl 49 _ _ (by rfl) w.heap.size CR.toArray (by rfl) (by rfl) 49 _ q4 (by rw [Tryz.sizeRc, List.size_toArray, LR.out]) (by rw [List.size_toArray, List.size_toArray, L0.out, LR.out]) (all_oneCell_toArray OR.out) ?_)
       exact bodyPost_ret (v := .tuple #[.agg CR.toArray, .int .i64 0]) (results_c2i Tryz.results74 _ _ w.heap.size 49 _ _ _ rfl (e5.row (.head _)) Tryz.underlying49 rfl (by rw [Tryz.sizeRc, List.size_toArray, LR.out])) rfl (HP.out _ e5.1)
     · obtain ⟨hX, rfl⟩ := HN.out h
       subst h
       rw [HC0.out hX] at HP
       have e5 := e4.set (Nat.le_refl _) (by intro x hx; cases hx) C0
       go_wp2_with (first
         | refine wpList_built (by rfl) 49 _ rfl _ rfl _ BZ.out ?_
         | refine wpList_store_row rfl 49 _ _ (by rfl) w.heap.size C0.toArray (by rfl) (by rfl) 49 _ q4 (by rw [Tryz.sizeRc, List.size_toArray, L0.out]) (by rfl) (all_oneCell_toArray O0.out) ?_)
       exact bodyPost_ret (v := .tuple #[.agg C0.toArray, .int .i64 150]) (results_c2i Tryz.results74 _ _ w.heap.size 49 _ _ _ rfl (e5.row (.head _)) Tryz.underlying49 rfl (by rw [Tryz.sizeRc, List.size_toArray, L0.out])) rfl (HP.out _ e5.1)
theorem idecode_any (w : World) (t : List Int) (hy : Bys t) (sp : Option Addr) (cap : Nat) (hS : Src w sp cap t) :
   Calls Tryz.prog 74 #[.slice sp t.length cap] w fun e w' => e = .returned (.tuple #[.agg (rcC (decRV t)).toArray, .int .i64 (decRE t)]) /\ Below w.heap.size w w' := by
 by_cases hl : t.length = 56
 · rw [hl]; exact idecode_yes w t hy hl sp cap hS
 · exact idecode_no w t hl (by have h1 := hS.1; have h2 := hS.2.1; unfold maxLen at h2; omega) sp cap
theorem src_newi (w : World) (ys : List Int) (t : TypeId) (fr : Nat × Nat) (hl : ys.length <= maxLen) : Src (w.alloc (.cells (ints .u8 ys).toArray t fr)) (some ⟨w.heap.size, 0, none⟩) ys.length ys :=
 ⟨Nat.le_refl _, hl, w.heap.size, 0, fun _ => by simp, fun _ => rfl, fun j hj => by rw [Nat.zero_add]; exact cell_ints (hnew w _) j hj⟩
theorem own_lower {w : World} {b0 b1 : Nat} {v : Value} {zs : List Int} (h : Own w b1 v zs) (hb : b0 <= b1) : Own w b0 v zs := by
 refine ⟨h.1, ?_⟩
 rcases h.2 with h2 | ⟨g, cap, cur, rfl, hg, r⟩
 · exact Or.inl h2
 · exact Or.inr ⟨g, cap, cur, rfl, by omega, r⟩
theorem src_rng {w : World} {g o : Nat} {zs : List Int} (h : w.rangeAt g o (ints .u8 zs)) (hg : g < w.heap.size) (cap : Nat) (hc : zs.length <= cap) (hm : cap <= maxLen) : Src w (some ⟨g, o, none⟩) cap zs :=
 ⟨hc, hm, g, o, fun _ => hg, fun _ => rfl, fun j hj => h j _ (ints_get .u8 zs j hj)⟩
theorem build6 (a b c d e f : Int) : Tryz.prog.built 145 [(0, .int .i64 a), (1, .int .i64 b), (2, .int .i64 c), (3, .int .i64 d), (4, .int .i64 e), (5, .int .i64 f)] = some (ints .i64 [a, b, c, d, e, f]).toArray := by kernel_rfl
theorem und6 : Tryz.prog.underlying 145 = some (.array 6 3) := by kernel_rfl
theorem index6_0 (a b c d e f : Int) (w : World) : (Instr.index 145 (.agg #[.int .i64 a, .int .i64 b, .int .i64 c, .int .i64 d, .int .i64 e, .int .i64 f]) (.int .i64 0)).run Tryz.prog w = .ok (.int .i64 a) w := by
 have hu3 : Tryz.prog.underlying 3 = some (.int .i64) := by kernel_rfl
 have hp := part_int hu3 #[.int .i64 a, .int .i64 b, .int .i64 c, .int .i64 d, .int .i64 e, .int .i64 f] 0 (.int .i64 a) rfl w
 have hs : (Tryz.prog.info? 3).map (·.size) = some 1 := by kernel_rfl
 obtain ⟨i, hi, hs⟩ := Option.map_eq_some_iff.1 hs
 unfold Instr.index
 simp [Sem.run_bind, run_underlying und6, sizeOf, typeInfo, hi, hs, asIntOf, hp]
theorem index6_1 (a b c d e f : Int) (w : World) : (Instr.index 145 (.agg #[.int .i64 a, .int .i64 b, .int .i64 c, .int .i64 d, .int .i64 e, .int .i64 f]) (.int .i64 1)).run Tryz.prog w = .ok (.int .i64 b) w := by
 have hu3 : Tryz.prog.underlying 3 = some (.int .i64) := by kernel_rfl
 have hp := part_int hu3 #[.int .i64 a, .int .i64 b, .int .i64 c, .int .i64 d, .int .i64 e, .int .i64 f] 1 (.int .i64 b) rfl w
 have hs : (Tryz.prog.info? 3).map (·.size) = some 1 := by kernel_rfl
 obtain ⟨i, hi, hs⟩ := Option.map_eq_some_iff.1 hs
 unfold Instr.index
 simp [Sem.run_bind, run_underlying und6, sizeOf, typeInfo, hi, hs, asIntOf, hp]
theorem index6_2 (a b c d e f : Int) (w : World) : (Instr.index 145 (.agg #[.int .i64 a, .int .i64 b, .int .i64 c, .int .i64 d, .int .i64 e, .int .i64 f]) (.int .i64 2)).run Tryz.prog w = .ok (.int .i64 c) w := by
 have hu3 : Tryz.prog.underlying 3 = some (.int .i64) := by kernel_rfl
 have hp := part_int hu3 #[.int .i64 a, .int .i64 b, .int .i64 c, .int .i64 d, .int .i64 e, .int .i64 f] 2 (.int .i64 c) rfl w
 have hs : (Tryz.prog.info? 3).map (·.size) = some 1 := by kernel_rfl
 obtain ⟨i, hi, hs⟩ := Option.map_eq_some_iff.1 hs
 unfold Instr.index
 simp [Sem.run_bind, run_underlying und6, sizeOf, typeInfo, hi, hs, asIntOf, hp]
theorem index6_3 (a b c d e f : Int) (w : World) : (Instr.index 145 (.agg #[.int .i64 a, .int .i64 b, .int .i64 c, .int .i64 d, .int .i64 e, .int .i64 f]) (.int .i64 3)).run Tryz.prog w = .ok (.int .i64 d) w := by
 have hu3 : Tryz.prog.underlying 3 = some (.int .i64) := by kernel_rfl
 have hp := part_int hu3 #[.int .i64 a, .int .i64 b, .int .i64 c, .int .i64 d, .int .i64 e, .int .i64 f] 3 (.int .i64 d) rfl w
 have hs : (Tryz.prog.info? 3).map (·.size) = some 1 := by kernel_rfl
 obtain ⟨i, hi, hs⟩ := Option.map_eq_some_iff.1 hs
 unfold Instr.index
 simp [Sem.run_bind, run_underlying und6, sizeOf, typeInfo, hi, hs, asIntOf, hp]
theorem index6_4 (a b c d e f : Int) (w : World) : (Instr.index 145 (.agg #[.int .i64 a, .int .i64 b, .int .i64 c, .int .i64 d, .int .i64 e, .int .i64 f]) (.int .i64 4)).run Tryz.prog w = .ok (.int .i64 e) w := by
 have hu3 : Tryz.prog.underlying 3 = some (.int .i64) := by kernel_rfl
 have hp := part_int hu3 #[.int .i64 a, .int .i64 b, .int .i64 c, .int .i64 d, .int .i64 e, .int .i64 f] 4 (.int .i64 e) rfl w
 have hs : (Tryz.prog.info? 3).map (·.size) = some 1 := by kernel_rfl
 obtain ⟨i, hi, hs⟩ := Option.map_eq_some_iff.1 hs
 unfold Instr.index
 simp [Sem.run_bind, run_underlying und6, sizeOf, typeInfo, hi, hs, asIntOf, hp]
theorem index6_5 (a b c d e f : Int) (w : World) : (Instr.index 145 (.agg #[.int .i64 a, .int .i64 b, .int .i64 c, .int .i64 d, .int .i64 e, .int .i64 f]) (.int .i64 5)).run Tryz.prog w = .ok (.int .i64 f) w := by
 have hu3 : Tryz.prog.underlying 3 = some (.int .i64) := by kernel_rfl
 have hp := part_int hu3 #[.int .i64 a, .int .i64 b, .int .i64 c, .int .i64 d, .int .i64 e, .int .i64 f] 5 (.int .i64 f) rfl w
 have hs : (Tryz.prog.info? 3).map (·.size) = some 1 := by kernel_rfl
 obtain ⟨i, hi, hs⟩ := Option.map_eq_some_iff.1 hs
 unfold Instr.index
 simp [Sem.run_bind, run_underlying und6, sizeOf, typeInfo, hi, hs, asIntOf, hp]
def encTo (ns : List Int) (k : Nat) : List Int := ((ns.take k).map four).flatten
theorem encTo_len (ns : List Int) : ∀ k, (encTo ns k).length <= 4 * k := by
 intro k
 unfold encTo
 have : ∀ l : List Int, ((l.map four).flatten).length = 4 * l.length := by
   intro l
   induction l with
   | nil => rfl
   | cons a l ih => simp only [List.map_cons, List.flatten_cons, List.length_append, four_len, ih, List.length_cons]; omega
 rw [this, List.length_take]
 omega
theorem iencode_yes (w : World) (x : Rc) (ok : RcOk x) (hr : RightR x) :
   Calls Tryz.prog 44 #[.agg (rcC x).toArray] w fun e w' => ∃ v, e = .returned (.tuple #[v, .int .i64 0]) /\ Own w' w.heap.size v (loadR x) /\ Below w.heap.size w w' := by
 have d0 := (BK.nil w).alloc (rcC x) 49
 have k0 := hid (show (rcC x)[0]? = some (.int .i64 x.v) from rfl)
 have k1 := hid (show (rcC x)[1]? = some (.int .i64 x.f) from rfl)
 have k2 := hid (show (rcC x)[2]? = some (.int .i64 x.p) from rfl)
 have k3 := hid (show (rcC x)[3]? = some (.int .i64 x.s) from rfl)
 have k4 := hid (show (rcC x)[4]? = some (.int .i64 x.r) from rfl)
 have k5 := hid (show (rcC x)[5]? = some (.int .i64 x.c) from rfl)
 have HS := hid (show (Tryz.prog.info? 49).map (·.size) = some (rcC x).toArray.size by rw [Tryz.sizeRc, List.size_toArray, rcC_len ok])
 have KR := hid (fun w1 => iright_any w1 x ok)
 rw [decide_eq_true hr] at KR
 have hbd := right_bd hr
 have KSM := hid (fun j y hy => rcC_sm x j y hy)
 have HSM := hid ok.sm
 have B6 := hid (build6 x.v x.f x.p x.s x.r x.c)
 have LE := hid (show encTo [x.v, x.f, x.p, x.s, x.r, x.c] 6 ++ x.sm = loadR x by simp [encTo, loadR])
 have E0 := hid (show encTo [x.v, x.f, x.p, x.s, x.r, x.c] 1 = encTo [x.v, x.f, x.p, x.s, x.r, x.c] 0 ++ four x.v by simp [encTo])
 have E1 := hid (show encTo [x.v, x.f, x.p, x.s, x.r, x.c] 2 = encTo [x.v, x.f, x.p, x.s, x.r, x.c] 1 ++ four x.f by simp [encTo])
 have E2 := hid (show encTo [x.v, x.f, x.p, x.s, x.r, x.c] 3 = encTo [x.v, x.f, x.p, x.s, x.r, x.c] 2 ++ four x.p by simp [encTo])
 have E3 := hid (show encTo [x.v, x.f, x.p, x.s, x.r, x.c] 4 = encTo [x.v, x.f, x.p, x.s, x.r, x.c] 3 ++ four x.s by simp [encTo])
 have E4 := hid (show encTo [x.v, x.f, x.p, x.s, x.r, x.c] 5 = encTo [x.v, x.f, x.p, x.s, x.r, x.c] 4 ++ four x.r by simp [encTo])
 have E5 := hid (show encTo [x.v, x.f, x.p, x.s, x.r, x.c] 6 = encTo [x.v, x.f, x.p, x.s, x.r, x.c] 5 ++ four x.c by simp [encTo])
 have EL := hid (encTo_len [x.v, x.f, x.p, x.s, x.r, x.c])
 obtain ⟨i5, hi5, hz5, hs5, hy5⟩ := Tryz.info5
 have K1 := hid (show i5.bytes * 56 <= 281474976710656 by rw [hy5]; omega)
 have HI := hid hi5
 clear hi5
 have EZ := hid (show encTo [x.v, x.f, x.p, x.s, x.r, x.c] 0 = [] from rfl)
 generalize rcC x = C at *
 generalize encTo [x.v, x.f, x.p, x.s, x.r, x.c] = ET at *
 generalize loadR x = LX at *
 obtain ⟨xv, xf, xp, xs, xr, xc, sm⟩ := x
 simp only at *
 have HBD := hid hbd
 clear hbd
 have r0 := d0.row (.head _)
 go_enter Tryz.func44, Tryz.ntmps44
 go_wp2_with (first | refine wpList_load_row_w (by rfl) 49 _ (by rfl) _ (by rfl) 49 _ _ _ r0 Tryz.underlying49 rfl HS.out ?_)
 refine (KR.out _).mono ?_
 rintro e w1 ⟨rfl, hb⟩
 have d1 := d0.call hb
 have hz1 := d1.lt (.head _)
 have c0 := d1.cell (.head _) k0.out
 have c1 := d1.cell (.head _) k1.out
 have c2 := d1.cell (.head _) k2.out
 have c3 := d1.cell (.head _) k3.out
 have c4 := d1.cell (.head _) k4.out
 have c5 := d1.cell (.head _) k5.out
 clear r0 d0 hb
 have K2 := hid (show 56 <= maxLen by simp [maxLen])
 go_wp2_with (first
   | (refine wpList_make_own _ rfl _ _ 58 rfl w1.heap.size 5 i5 (.int .u8 0) 1 Tryz.underlying58 HI.out hz5 hs5 .i64 .i64 _ 56 rfl rfl rfl K1.out K2.out (Nat.le_refl _) ?_; intro w2 hO2 hg2; refine Hid.out ?_))
 refine hid ?_
 have b2 := grown_keeps (B := w1.heap.size) hg2 (fun k hk => by cases hk) (Nat.le_refl _)
 have d2 := d1.call b2
 clear hg2 c0 c1 c2 c3 c4 c5
 have c0 := d2.cell (.head _) k0.out
 have c1 := d2.cell (.head _) k1.out
 have c2 := d2.cell (.head _) k2.out
 have c3 := d2.cell (.head _) k3.out
 have c4 := d2.cell (.head _) k4.out
 have c5 := d2.cell (.head _) k5.out
 go_wp2_with fail
 have hO2' : Own w2 w1.heap.size (.slice (some ⟨w1.heap.size, 0, none⟩) 0 56) (ET 0) := by rw [EZ.out]; exact hO2
 have hz2 := b2.size
 clear hO2 c0 c1 c2 c3 c4 c5
 generalize w1.heap.size = B at *
 generalize hV : Value.slice (some ⟨B, 0, none⟩) 0 56 = v0 at *
 clear hV
 go_loopw [4, 6, 24] (fun v _ i wr => ∃ k : Nat, k <= 6 /\ i = .int .i64 k /\ Own wr B v (ET k) /\ BK w wr [(w.heap.size, C, 49)] /\ B <= wr.heap.size) (fun _ _ i _ => 6 - (intOf i).toNat)
 case atStart => exact ⟨0, by omega, rfl, hO2', d2, hz2⟩
 case round =>
   clear d2 d1 b2 hO2' hz2
   obtain ⟨k, hk, rfl, hO, dr, hB⟩ := hrel
   by_cases hlt : k < 6
   · match k, hlt with
     | 0, _ =>
       have HQ := hid (src_newi wr [xv % 256, xv / 256 % 256, xv / 65536 % 256, xv / 16777216] 5 (0, 0) (by simp [maxLen]))
       have hl4 := EL.out 0
       have ix := index6_0 xv xf xp xs xr xc
       obtain ⟨h0, h1⟩ := HBD.out.1
       have hfour : [xv % 256, xv / 256 % 256, xv / 65536 % 256, xv / 16777216] = four xv := by simp only [four, List.cons.injEq, and_true, true_and]; omega
       have hfour := hid hfour
       go_wp2_with (first
         | (at_builtin; refine wpList_append_wide rfl (.tmp 27) (.tmp 39) rfl B _ (ET 0) [xv % 256, xv / 256 % 256, xv / 65536 % 256, xv / 16777216] rfl (own_pushes hO _) (some ⟨wr.heap.size, 0, none⟩) 4 rfl (fun h => by cases h) HQ.out (by simp; omega) (by simp; omega) ?_; intro v3 w3 hO3 hg3 hd3; refine Hid.out ?_))
       refine hid ?_
       have b3 := ((Below.refl B wr).alloc hB (.cells (ints .u8 [xv % 256, xv / 256 % 256, xv / 65536 % 256, xv / 16777216]).toArray 5)).trans (grown_keeps hg3 (fun k hk => (hO.block k hk).1) (by simp; omega))
       have d3 : BK w w3 [(w.heap.size, C, 49)] := ⟨dr.1.trans (b3.mono (by omega)), fun y hy => by
         simp only [List.mem_cons, List.not_mem_nil, or_false] at hy
         subst hy
         exact hbel b3 (dr.row (.head _)) hz1⟩
       have z3 : B <= w3.heap.size := Nat.le_trans hB b3.size
       clear hg3 hd3
       go_wp2
       go_roundw
       case rel => exact ⟨1, by omega, by go_num, (by rw [E0.out, <- hfour.out]; exact hO3), d3, z3⟩
       case measure => simp [intOf]
     | 1, _ =>
       have HQ := hid (src_newi wr [xf % 256, xf / 256 % 256, xf / 65536 % 256, xf / 16777216] 5 (0, 0) (by simp [maxLen]))
       have hl4 := EL.out 1
       have ix := index6_1 xv xf xp xs xr xc
       obtain ⟨h0, h1⟩ := HBD.out.2.1
       have hfour : [xf % 256, xf / 256 % 256, xf / 65536 % 256, xf / 16777216] = four xf := by simp only [four, List.cons.injEq, and_true, true_and]; omega
       have hfour := hid hfour
       go_wp2_with (first
         | (at_builtin; refine wpList_append_wide rfl (.tmp 27) (.tmp 39) rfl B _ (ET 1) [xf % 256, xf / 256 % 256, xf / 65536 % 256, xf / 16777216] rfl (own_pushes hO _) (some ⟨wr.heap.size, 0, none⟩) 4 rfl (fun h => by cases h) HQ.out (by simp; omega) (by simp; omega) ?_; intro v3 w3 hO3 hg3 hd3; refine Hid.out ?_))
       refine hid ?_
       have b3 := ((Below.refl B wr).alloc hB (.cells (ints .u8 [xf % 256, xf / 256 % 256, xf / 65536 % 256, xf / 16777216]).toArray 5)).trans (grown_keeps hg3 (fun k hk => (hO.block k hk).1) (by simp; omega))
       have d3 : BK w w3 [(w.heap.size, C, 49)] := ⟨dr.1.trans (b3.mono (by omega)), fun y hy => by
         simp only [List.mem_cons, List.not_mem_nil, or_false] at hy
         subst hy
         exact hbel b3 (dr.row (.head _)) hz1⟩
       have z3 : B <= w3.heap.size := Nat.le_trans hB b3.size
       clear hg3 hd3
       go_wp2
       go_roundw
       case rel => exact ⟨2, by omega, by go_num, (by rw [E1.out, <- hfour.out]; exact hO3), d3, z3⟩
       case measure => simp [intOf]
     | 2, _ =>
       have HQ := hid (src_newi wr [xp % 256, xp / 256 % 256, xp / 65536 % 256, xp / 16777216] 5 (0, 0) (by simp [maxLen]))
       have hl4 := EL.out 2
       have ix := index6_2 xv xf xp xs xr xc
       obtain ⟨h0, h1⟩ := HBD.out.2.2.1
       have hfour : [xp % 256, xp / 256 % 256, xp / 65536 % 256, xp / 16777216] = four xp := by simp only [four, List.cons.injEq, and_true, true_and]; omega
       have hfour := hid hfour
       go_wp2_with (first
         | (at_builtin; refine wpList_append_wide rfl (.tmp 27) (.tmp 39) rfl B _ (ET 2) [xp % 256, xp / 256 % 256, xp / 65536 % 256, xp / 16777216] rfl (own_pushes hO _) (some ⟨wr.heap.size, 0, none⟩) 4 rfl (fun h => by cases h) HQ.out (by simp; omega) (by simp; omega) ?_; intro v3 w3 hO3 hg3 hd3; refine Hid.out ?_))
       refine hid ?_
       have b3 := ((Below.refl B wr).alloc hB (.cells (ints .u8 [xp % 256, xp / 256 % 256, xp / 65536 % 256, xp / 16777216]).toArray 5)).trans (grown_keeps hg3 (fun k hk => (hO.block k hk).1) (by simp; omega))
       have d3 : BK w w3 [(w.heap.size, C, 49)] := ⟨dr.1.trans (b3.mono (by omega)), fun y hy => by
         simp only [List.mem_cons, List.not_mem_nil, or_false] at hy
         subst hy
         exact hbel b3 (dr.row (.head _)) hz1⟩
       have z3 : B <= w3.heap.size := Nat.le_trans hB b3.size
       clear hg3 hd3
       go_wp2
       go_roundw
       case rel => exact ⟨3, by omega, by go_num, (by rw [E2.out, <- hfour.out]; exact hO3), d3, z3⟩
       case measure => simp [intOf]
     | 3, _ =>
       have HQ := hid (src_newi wr [xs % 256, xs / 256 % 256, xs / 65536 % 256, xs / 16777216] 5 (0, 0) (by simp [maxLen]))
       have hl4 := EL.out 3
       have ix := index6_3 xv xf xp xs xr xc
       obtain ⟨h0, h1⟩ := HBD.out.2.2.2.1
       have hfour : [xs % 256, xs / 256 % 256, xs / 65536 % 256, xs / 16777216] = four xs := by simp only [four, List.cons.injEq, and_true, true_and]; omega
       have hfour := hid hfour
       go_wp2_with (first
         | (at_builtin; refine wpList_append_wide rfl (.tmp 27) (.tmp 39) rfl B _ (ET 3) [xs % 256, xs / 256 % 256, xs / 65536 % 256, xs / 16777216] rfl (own_pushes hO _) (some ⟨wr.heap.size, 0, none⟩) 4 rfl (fun h => by cases h) HQ.out (by simp; omega) (by simp; omega) ?_; intro v3 w3 hO3 hg3 hd3; refine Hid.out ?_))
       refine hid ?_
       have b3 := ((Below.refl B wr).alloc hB (.cells (ints .u8 [xs % 256, xs / 256 % 256, xs / 65536 % 256, xs / 16777216]).toArray 5)).trans (grown_keeps hg3 (fun k hk => (hO.block k hk).1) (by simp; omega))
       have d3 : BK w w3 [(w.heap.size, C, 49)] := ⟨dr.1.trans (b3.mono (by omega)), fun y hy => by
         simp only [List.mem_cons, List.not_mem_nil, or_false] at hy
         subst hy
         exact hbel b3 (dr.row (.head _)) hz1⟩
       have z3 : B <= w3.heap.size := Nat.le_trans hB b3.size
       clear hg3 hd3
       go_wp2
       go_roundw
       case rel => exact ⟨4, by omega, by go_num, (by rw [E3.out, <- hfour.out]; exact hO3), d3, z3⟩
       case measure => simp [intOf]
     | 4, _ =>
       have HQ := hid (src_newi wr [xr % 256, xr / 256 % 256, xr / 65536 % 256, xr / 16777216] 5 (0, 0) (by simp [maxLen]))
       have hl4 := EL.out 4
       have ix := index6_4 xv xf xp xs xr xc
       obtain ⟨h0, h1⟩ := HBD.out.2.2.2.2.1
       have hfour : [xr % 256, xr / 256 % 256, xr / 65536 % 256, xr / 16777216] = four xr := by simp only [four, List.cons.injEq, and_true, true_and]; omega
       have hfour := hid hfour
       go_wp2_with (first
         | (at_builtin; refine wpList_append_wide rfl (.tmp 27) (.tmp 39) rfl B _ (ET 4) [xr % 256, xr / 256 % 256, xr / 65536 % 256, xr / 16777216] rfl (own_pushes hO _) (some ⟨wr.heap.size, 0, none⟩) 4 rfl (fun h => by cases h) HQ.out (by simp; omega) (by simp; omega) ?_; intro v3 w3 hO3 hg3 hd3; refine Hid.out ?_))
       refine hid ?_
       have b3 := ((Below.refl B wr).alloc hB (.cells (ints .u8 [xr % 256, xr / 256 % 256, xr / 65536 % 256, xr / 16777216]).toArray 5)).trans (grown_keeps hg3 (fun k hk => (hO.block k hk).1) (by simp; omega))
       have d3 : BK w w3 [(w.heap.size, C, 49)] := ⟨dr.1.trans (b3.mono (by omega)), fun y hy => by
         simp only [List.mem_cons, List.not_mem_nil, or_false] at hy
         subst hy
         exact hbel b3 (dr.row (.head _)) hz1⟩
       have z3 : B <= w3.heap.size := Nat.le_trans hB b3.size
       clear hg3 hd3
       go_wp2
       go_roundw
       case rel => exact ⟨5, by omega, by go_num, (by rw [E4.out, <- hfour.out]; exact hO3), d3, z3⟩
       case measure => simp [intOf]
     | 5, _ =>
       have HQ := hid (src_newi wr [xc % 256, xc / 256 % 256, xc / 65536 % 256, xc / 16777216] 5 (0, 0) (by simp [maxLen]))
       have hl4 := EL.out 5
       have ix := index6_5 xv xf xp xs xr xc
       obtain ⟨h0, h1⟩ := HBD.out.2.2.2.2.2
       have hfour : [xc % 256, xc / 256 % 256, xc / 65536 % 256, xc / 16777216] = four xc := by simp only [four, List.cons.injEq, and_true, true_and]; omega
       have hfour := hid hfour
       go_wp2_with (first
         | (at_builtin; refine wpList_append_wide rfl (.tmp 27) (.tmp 39) rfl B _ (ET 5) [xc % 256, xc / 256 % 256, xc / 65536 % 256, xc / 16777216] rfl (own_pushes hO _) (some ⟨wr.heap.size, 0, none⟩) 4 rfl (fun h => by cases h) HQ.out (by simp; omega) (by simp; omega) ?_; intro v3 w3 hO3 hg3 hd3; refine Hid.out ?_))
       refine hid ?_
       have b3 := ((Below.refl B wr).alloc hB (.cells (ints .u8 [xc % 256, xc / 256 % 256, xc / 65536 % 256, xc / 16777216]).toArray 5)).trans (grown_keeps hg3 (fun k hk => (hO.block k hk).1) (by simp; omega))
       have d3 : BK w w3 [(w.heap.size, C, 49)] := ⟨dr.1.trans (b3.mono (by omega)), fun y hy => by
         simp only [List.mem_cons, List.not_mem_nil, or_false] at hy
         subst hy
         exact hbel b3 (dr.row (.head _)) hz1⟩
       have z3 : B <= w3.heap.size := Nat.le_trans hB b3.size
       clear hg3 hd3
       go_wp2
       go_roundw
       case rel => exact ⟨6, by omega, by go_num, (by rw [E5.out, <- hfour.out]; exact hO3), d3, z3⟩
       case measure => simp [intOf]
   · obtain rfl : k = 6 := by omega
     have hSm : Src wr (some ⟨w.heap.size, 6, none⟩) 32 sm := src_rng (dr.rng (.head _) KSM.out) (dr.lt (.head _)) 32 (by rw [HSM.out]; exact Nat.le_refl _) (by simp [maxLen])
     have hl6 := EL.out 6
     go_wp2_with (first
       | (at_builtin; refine wpList_append_wide rfl (.tmp 42) (.tmp 44) rfl B _ (ET 6) sm rfl hO (some ⟨w.heap.size, 6, none⟩) 32 (by rw [HSM.out]; rfl) (fun h => by cases h) hSm (by have := HSM.out; omega) hB ?_; intro v4 w4 hO4 hg4 hd4; refine Hid.out ?_))
     refine hid ?_
     have b4 := grown_keeps hg4 (fun k hk => (hO.block k hk).1) hB
     go_wp2
     refine bodyPost_ret (results_tmp2 Tryz.results44 _ _ _) rfl ?_
     rw [LE.out] at hO4
     exact ⟨_, rfl, own_lower hO4 (by omega), dr.1.trans (b4.mono (by omega))⟩
end Go.Proofs.YtbnghhgeoodphaaGreatDoor
