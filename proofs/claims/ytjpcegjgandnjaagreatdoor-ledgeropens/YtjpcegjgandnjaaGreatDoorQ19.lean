import Derived.Test.YtjpcegjgandnjaaGreatDoorQ18
import Derived.Test.YtjpcegjgandnjaaGreatDoorQ07
import Derived.RangeFuncNested
import Derived.RangeFuncBound
import Derived.RangeFuncCalls
import Derived.RangeFuncLeaves
import Derived.RangeFuncFrom
import Derived.ControlIn
import Derived.OwnWalkIn
import Derived.OrdersIn
import Derived.TacticsInMore
import Derived.LoopNIn
import Derived.LoopIn
import Derived.WalkKit
import Derived.Shelf.Abstract
import Derived.Shelf.RegionOpen
import Derived.Test.YtjpcegjgandnjaaGreatDoorQ17
import Derived.Defers
namespace Go.Proofs.YtjpcegjgandnjaaGreatDoor
set_option linter.unusedVariables false
set_option linter.unusedSimpArgs false
open Go.RowKit
attribute [local go_sem ↓] Go.wp_at_zero Go.wp_at_succ

set_option maxRecDepth 100000 in
set_option maxHeartbeats 400000 in
theorem readNumber_any (w : World) (t : List Int) (hy : Bys t) (h4 : 4 ≤ t.length) (sp : Option Addr) (cap : Nat) (hS : Src w sp cap t) :
    Calls Tryz.prog 161 #[.slice sp t.length cap] w fun e w' => e = .returned (.int .i64 (numP t 0)) ∧ Below w.heap.size w w' := by
  obtain ⟨hc, hm, b, o, hb, hsp, hsrc⟩ := hS
  obtain rfl := hsp (by omega)
  have c0 := hsrc 0 (by omega)
  have c1 := hsrc 1 (by omega)
  have c2 := hsrc 2 (by omega)
  have c3 := hsrc 3 (by omega)
  rw [Nat.add_zero] at c0
  have b0 := hy.at 0 (by omega)
  have b1 := hy.at 1 (by omega)
  have b2 := hy.at 2 (by omega)
  have b3 := hy.at 3 (by omega)
  have HE := hid (show numP t 0 = t.getD 0 0 + 256 * t.getD 1 0 + 65536 * t.getD 2 0 + 16777216 * t.getD 3 0 from rfl)
  generalize t.getD 0 0 = x0 at *
  generalize t.getD 1 0 = x1 at *
  generalize t.getD 2 0 = x2 at *
  generalize t.getD 3 0 = x3 at *
  have HO := hid (or4 x0 x1 x2 x3 b0 b1 b2 b3)
  have i4 : (4 : Int) ≤ (t.length : Int) := by omega
  generalize t.length = n at *
  go_enter Tryz.func161, Tryz.ntmps161
  go_wp2
  go_quiet (fail)
  go_wp2
  go_ret
  refine ⟨?_, below_drewN (Below.refl _ _) _⟩
  rw [HE.out, ← HO.out]
  rfl
theorem Src.taili {w : World} {b o cap : Nat} {r : List Int} (hS : Src w (some ⟨b, o, none⟩) cap r) (k : Nat) (h : k < r.length) : Src w (some ⟨b, o + k, none⟩) (cap - k) (r.drop k) := by
  obtain ⟨h1, h2, b', o', h3, h4, h5⟩ := hS
  have hl : (r.drop k).length = r.length - k := by simp
  have he := h4 (by omega)
  cases he
  refine ⟨by omega, by omega, b, o + k, fun _ => h3 (by omega), fun _ => rfl, fun j hj => ?_⟩
  have := h5 (k + j) (by omega)
  rw [Nat.add_assoc, this, List.getD_eq_getElem?_getD, List.getD_eq_getElem?_getD, List.getElem?_drop]
theorem numP_drop (t : List Int) (k : Nat) : numP (t.drop k) 0 = numP t k := by
  unfold numP
  simp only [List.getD_eq_getElem?_getD, List.getElem?_drop, Nat.zero_add, Nat.add_zero]
theorem wpList_allocVi {P : Program} {t : TypeId} {Z : List Value} (hz : ∀ (a : Act) (o : Oper) (w : World), o.op = .alloc t → (execOp a.eval o).run P w = .ok (.value (.pointer (some ⟨w.heap.size, 0, none⟩))) (w.alloc (.cells Z.toArray t)))
    {ops : Array Oper} {rest : List Oper} {o : Oper} {a : Act} {w : World} {Q : Exit → Act → World → Prop} (hg : o.guard = none) (ho : o.op = .alloc t)
    (h : wpList P ops Q rest (a.put o.dst (.pointer (some ⟨w.heap.size, 0, none⟩))) (w.alloc (.cells Z.toArray t))) : wpList P ops Q (o :: rest) a w := by
  refine wpList_plain hg fun K hK => ?_
  unfold Oper.wp
  rw [hz a o w ho]
  exact hK _ _ h
theorem yieldsIf_built {P : Program} {ops : Array Oper} {S : World → Prop} {o : Oper} {a : Act} (hw : Region.wanted o (yielded ops a.tmps) = true) (t : TypeId) (parts : Array (Nat × Operand)) (ho : o.op = .build t parts) (ps : List (Nat × Value)) (hp : (parts.toList.map fun (i, x) => (i, a.eval x)) = ps) (cs : Array Value) (hb : P.built t ps = some cs) : YieldsIf P ops S o (.agg cs) a :=
  .inl ⟨hw, fun w _ => by
    have e : P.built t (parts.map fun (i, x) => (i, a.eval x)).toList = some cs := by rw [Array.toList_map, hp]; exact hb
    unfold execOp
    simp only [ho, Sem.run_bind, run_build w t _ cs e, Result.andThen_ok, Sem.run_pure]⟩
theorem bk_setn {w0 w : World} {b g t : Nat} {zs : List Int} {C : List Value} {u : Nat} (h : BK w0 w [(g, C, u), (b, ints .i64 zs, t)]) (hb : w0.heap.size ≤ b) (hne : g ≠ b) (j : Nat) (x : Int) : BK w0 (w.setCell ⟨b, j, none⟩ (.int .i64 x)) [(g, C, u), (b, ints .i64 (zs.set j x), t)] := by
  refine ⟨h.1.setCell (p := ⟨b, j, none⟩) hb _, fun y hy => ?_⟩
  rcases List.mem_cons.1 hy with rfl | hy
  · exact heap_set_far (h.row (.head _)) _ _ hne
  · rcases List.mem_cons.1 hy with rfl | hy
    · exact heap_set_ints (h.row (.tail _ (.head _))) j x
    · cases hy
theorem step_storeRowC {w : World} {ops : Array Oper} {o : Oper} {a : Act} {K : Act → World → Prop} {Q : Exit → Act → World → Prop} {E : Prop} (hgd : o.guard = none) (ty : TypeId) (x y : Operand) (ho : o.op = .store ty x y)
    (g : Nat) (cells : Array Value) (hx : a.eval x = .pointer (some ⟨g, 0, none⟩)) (hy : a.eval y = .agg cells)
    (t : TypeId) (old : Array Value) (hg : w.heap[g]? = some (.cells old t (0, 0))) (hi : (Tryz.prog.info? ty).map (·.size) = some cells.size)
    (hold : old.size = cells.size) (h1 : cells.all (·.oneCell') = true) (h : K (a.put o.dst undef) (w.setRow g cells)) :
    if Region.wanted o (yielded ops a.tmps) = true then Oper.wp Tryz.prog o a w K Q else E := by
  have hw : Region.wanted o (yielded ops a.tmps) = true := by simp [Region.wanted, hgd]
  rw [if_pos hw]
  exact wp_store_row ty x y ho g cells hx hy t old hg hi hold h1 h
theorem step_allocV {P : Program} {t : TypeId} {Z : List Value} (hz : ∀ (a : Act) (o : Oper) (w : World), o.op = .alloc t → (execOp a.eval o).run P w = .ok (.value (.pointer (some ⟨w.heap.size, 0, none⟩))) (w.alloc (.cells Z.toArray t)))
    {ops : Array Oper} {o : Oper} {a : Act} {w : World} {K : Act → World → Prop} {Q : Exit → Act → World → Prop} {E : Prop} (hw : Region.wanted o (yielded ops a.tmps) = true) (ho : o.op = .alloc t)
    (h : K (a.put o.dst (.pointer (some ⟨w.heap.size, 0, none⟩))) (w.alloc (.cells Z.toArray t))) : if Region.wanted o (yielded ops a.tmps) = true then Oper.wp P o a w K Q else E := by
  rw [if_pos hw]
  unfold Oper.wp
  rw [hz a o w ho]
  exact h
def RN (t : List Int) (k : Nat) : List Int := [if 0 < k then numP t 0 else 0, if 1 < k then numP t 4 else 0, if 2 < k then numP t 8 else 0, if 3 < k then numP t 12 else 0, if 4 < k then numP t 16 else 0, if 5 < k then numP t 20 else 0]
theorem alloc6 (a : Act) (o : Oper) (w : World) (ho : o.op = .alloc 283) : (execOp a.eval o).run Tryz.prog w = .ok (.value (.pointer (some ⟨w.heap.size, 0, none⟩))) (w.alloc (.cells (ints .i64 [0, 0, 0, 0, 0, 0]).toArray 283)) := by
  unfold execOp
  rw [ho]
  kernel_rfl
def DecRP (w : World) (t : List Int) (e : Ending) (w' : World) : Prop := e = .returned (.tuple #[.agg (rcC (decRV t)).toArray, .int .i64 (decRE t)]) ∧ Below w.heap.size w w'
set_option maxRecDepth 100000 in
set_option maxHeartbeats 4000000 in
theorem idecode_no (w : World) (t : List Int) (hl : t.length ≠ 56) (hm : t.length ≤ 9223372036854775807) (sp : Option Addr) (cap : Nat) :
    Calls Tryz.prog 126 #[.slice sp t.length cap] w (DecRP w t) := by
  have HP := hid (fun w' (h : Below w.heap.size w w') => show DecRP w t (.returned (.tuple #[.agg (rcC rc0).toArray, .int .i64 150])) w' from by
    have e : decR t = none := by unfold decR; rw [if_neg (by intro h; exact hl h.1)]
    unfold DecRP decRV decRE; rw [e]; exact ⟨rfl, h⟩)
  have d0 := (BK.nil w).alloc (rcC rc0) 94
  have AR := hid allocRc
  have BZ := hid built_rc0
  have L0 := hid (show (rcC rc0).length = 38 from rfl)
  have O0 := hid (rcC_one rc0)
  generalize DecRP w t = P at *
  have i1 : ¬ ((t.length : Int) = 56) := by omega
  have i2 : (t.length : Int) ≤ 9223372036854775807 := by omega
  generalize t.length = n at *
  generalize rcC rc0 = C0 at *
  have r0 := d0.row (.head _)
  have d1 := d0.set (Nat.le_refl _) (by intro x hx; cases hx) C0
  go_enter Tryz.func126, Tryz.ntmps126
  go_wp2_with (first
    | refine wpList_allocVi AR.out rfl rfl ?_
    | refine wpList_built (by rfl) 94 _ rfl _ rfl _ BZ.out ?_
    | refine wpList_store_row rfl 94 _ _ (by rfl) w.heap.size C0.toArray (by rfl) (by rfl) 94 _ r0 (by rw [Tryz.sizeRc, List.size_toArray, L0.out]) (by rfl) (all_oneCell_toArray O0.out) ?_)
  exact bodyPost_ret (v := .tuple #[.agg C0.toArray, .int .i64 150]) (results_c2i Tryz.results126 _ _ w.heap.size 94 _ _ _ rfl (d1.row (.head _)) Tryz.underlying94 rfl (by rw [Tryz.sizeRc, List.size_toArray, L0.out])) rfl (HP.out _ d1.1)
set_option maxRecDepth 100000 in
set_option maxHeartbeats 4000000 in
theorem idecode_yes (w : World) (t : List Int) (hy : Bys t) (hl : t.length = 56) (sp : Option Addr) (cap : Nat) (hS : Src w sp cap t) :
    Calls Tryz.prog 126 #[.slice sp 56 cap] w (DecRP w t) := by
  obtain ⟨b, o, rfl, hb⟩ : ∃ b o, sp = some ⟨b, o, none⟩ ∧ b < w.heap.size := by obtain ⟨_, _, b, o, h3, h4, _⟩ := hS; exact ⟨b, o, h4 (by omega), h3 (by omega)⟩
  have hcap : 56 ≤ cap := by have := hS.1; omega
  have ic : (56 : Int) ≤ (cap : Int) := by omega
  have ok := readR_ok hl
  have HP := hid (fun w' (h : Below w.heap.size w w') => show DecRP w t (.returned (.tuple #[.agg (rcC (if RightR (readR t) then readR t else rc0)).toArray, .int .i64 (if RightR (readR t) then 0 else 150)])) w' from by
    have e : decR t = if RightR (readR t) then some (readR t) else none := by unfold decR; simp [hl]
    unfold DecRP decRV decRE; rw [e]; refine ⟨?_, h⟩
    by_cases h : RightR (readR t) <;> simp [h])
  have KR := hid (fun w1 => iright_any w1 (readR t) ok)
  have d0 := ((BK.nil w).alloc (rcC rc0) 94).alloc (ints .i64 (RN t 0)) 283
  have hz : (w.alloc (.cells (rcC rc0).toArray 94)).heap.size = w.heap.size + 1 := by simp
  rw [hz] at d0
  replace d0 : BK w _ [(w.heap.size, rcC rc0, 94), (w.heap.size + 1, ints .i64 (RN t 0), 283)] := ⟨d0.1, fun x hx => d0.2 x (by simp only [List.mem_cons, List.not_mem_nil, or_false] at hx ⊢; exact hx.symm)⟩
  have AR := hid allocRc
  have A6 := hid alloc6
  have BZ := hid built_rc0
  have K0 := hid (fun w1 (h : Src w1 (some ⟨b, o + 0, none⟩) (cap - 0) (t.drop 0)) => readNumber_any w1 (t.drop 0) (fun x hx => hy x (List.mem_of_mem_drop hx)) (by simp; omega) (some ⟨b, o + 0, none⟩) (cap - 0) h)
  rw [numP_drop, show (t.drop 0).length = 56 by simp; omega] at K0
  have S0 := hid (hS.taili 0 (by omega))
  have K1 := hid (fun w1 (h : Src w1 (some ⟨b, o + 4, none⟩) (cap - 4) (t.drop 4)) => readNumber_any w1 (t.drop 4) (fun x hx => hy x (List.mem_of_mem_drop hx)) (by simp; omega) (some ⟨b, o + 4, none⟩) (cap - 4) h)
  rw [numP_drop, show (t.drop 4).length = 52 by simp; omega] at K1
  have S1 := hid (hS.taili 4 (by omega))
  have K2 := hid (fun w1 (h : Src w1 (some ⟨b, o + 8, none⟩) (cap - 8) (t.drop 8)) => readNumber_any w1 (t.drop 8) (fun x hx => hy x (List.mem_of_mem_drop hx)) (by simp; omega) (some ⟨b, o + 8, none⟩) (cap - 8) h)
  rw [numP_drop, show (t.drop 8).length = 48 by simp; omega] at K2
  have S2 := hid (hS.taili 8 (by omega))
  have K3 := hid (fun w1 (h : Src w1 (some ⟨b, o + 12, none⟩) (cap - 12) (t.drop 12)) => readNumber_any w1 (t.drop 12) (fun x hx => hy x (List.mem_of_mem_drop hx)) (by simp; omega) (some ⟨b, o + 12, none⟩) (cap - 12) h)
  rw [numP_drop, show (t.drop 12).length = 44 by simp; omega] at K3
  have S3 := hid (hS.taili 12 (by omega))
  have K4 := hid (fun w1 (h : Src w1 (some ⟨b, o + 16, none⟩) (cap - 16) (t.drop 16)) => readNumber_any w1 (t.drop 16) (fun x hx => hy x (List.mem_of_mem_drop hx)) (by simp; omega) (some ⟨b, o + 16, none⟩) (cap - 16) h)
  rw [numP_drop, show (t.drop 16).length = 40 by simp; omega] at K4
  have S4 := hid (hS.taili 16 (by omega))
  have K5 := hid (fun w1 (h : Src w1 (some ⟨b, o + 20, none⟩) (cap - 20) (t.drop 20)) => readNumber_any w1 (t.drop 20) (fun x hx => hy x (List.mem_of_mem_drop hx)) (by simp; omega) (some ⟨b, o + 20, none⟩) (cap - 20) h)
  rw [numP_drop, show (t.drop 20).length = 36 by simp; omega] at K5
  have S5 := hid (hS.taili 20 (by omega))
  have r24 : w.rangeAt b (o + 24) (ints .u8 (t.drop 24)) := fun j v hv => by
    have hj := (List.getElem?_eq_some_iff.1 hv).1
    rw [ints_len] at hj
    rw [ints_get .u8 _ j hj] at hv
    obtain ⟨_, _, b', o', _, h4, h5⟩ := hS
    have he := h4 (by omega)
    cases he
    have hj2 : j < 32 := by simp at hj; omega
    have := h5 (24 + j) (by omega)
    rw [Nat.add_assoc, this, ← hv, List.getD_eq_getElem?_getD, List.getD_eq_getElem?_getD, List.getElem?_drop]
  have BR := hid (built_rc (readR t) ok)
  have LS := hid (show (Tryz.prog.info? 34).map (·.size) = some (ints .u8 (t.drop 24)).length by rw [Tryz.sizeD, ints_len]; exact congrArg some ok.sm.symm)
  have L0 := hid (show (rcC rc0).length = 38 from rfl)
  have O0 := hid (rcC_one rc0)
  have LR := hid (rcC_len ok)
  have OR := hid (rcC_one (readR t))
  have Z6 := hid (show RN t 0 = [0, 0, 0, 0, 0, 0] from rfl)
  have R6 := hid (show RN t 6 = [numP t 0, numP t 4, numP t 8, numP t 12, numP t 16, numP t 20] from rfl)
  have R1b := hid (show RN t 1 = (RN t 0).set 0 (numP t 0) from rfl)
  have R2b := hid (show RN t 2 = (RN t 1).set 1 (numP t 4) from rfl)
  have R3b := hid (show RN t 3 = (RN t 2).set 2 (numP t 8) from rfl)
  have R4b := hid (show RN t 4 = (RN t 3).set 3 (numP t 12) from rfl)
  have R5b := hid (show RN t 5 = (RN t 4).set 4 (numP t 16) from rfl)
  have R6b := hid (show RN t 6 = (RN t 5).set 5 (numP t 20) from rfl)
  have hA : ∀ w, (Instr.arrayAt 34 (.slice (some ⟨b, o + 24, none⟩) 32 (cap - 24))).run Tryz.prog w = .ok (.pointer (some ⟨b, o + 24, none⟩)) w := fun w => run_arrayAt w 34 5 32 (some ⟨b, o + 24, none⟩) 32 (cap - 24) Tryz.underlying34 (Nat.le_refl _)
  have HX := hid (show decide (RightR (readR t)) = true ∨ decide (RightR (readR t)) = false by cases decide (RightR (readR t)) <;> simp)
  have HT := hid (fun (h : decide (RightR (readR t)) = true) => (show (if RightR (readR t) then readR t else rc0) = readR t ∧ (if RightR (readR t) then (0 : Int) else 150) = 0 from ⟨if_pos (of_decide_eq_true h), if_pos (of_decide_eq_true h)⟩))
  have HN := hid (fun (h : decide (RightR (readR t)) = false) => (show (if RightR (readR t) then readR t else rc0) = rc0 ∧ (if RightR (readR t) then (0 : Int) else 150) = 150 from ⟨if_neg (of_decide_eq_false h), if_neg (of_decide_eq_false h)⟩))
  generalize DecRP w t = P at *
  generalize decide (RightR (readR t)) = DR at *
  generalize (if RightR (readR t) then readR t else rc0) = X at *
  generalize (if RightR (readR t) then (0 : Int) else 150) = E at *
  have HCR := hid (show X = readR t → rcC X = rcC (readR t) from fun h => by rw [h])
  have HC0 := hid (show X = rc0 → rcC X = rcC rc0 from fun h => by rw [h])
  simp only [show (readR t).v = numP t 0 from rfl, show (readR t).f = numP t 4 from rfl, show (readR t).p = numP t 8 from rfl, show (readR t).s = numP t 12 from rfl, show (readR t).r = numP t 16 from rfl, show (readR t).c = numP t 20 from rfl, show (readR t).sm = t.drop 24 from rfl] at BR
  generalize rcC (readR t) = CR at *
  generalize rcC rc0 = C0 at *
  generalize readR t = RR at *
  generalize t.drop 24 = DL at *
  go_enter Tryz.func126, Tryz.ntmps126
  rw [Z6.out] at d0
  go_wp2_with (first
    | refine wpList_allocVi AR.out rfl rfl ?_
    | refine wpList_allocVi A6.out rfl rfl ?_)
  rw [← Z6.out] at d0
  go_loopw [11, 5] (fun i j wr => ∃ k : Nat, k ≤ 6 ∧ i = .int .i64 k ∧ BK w wr [(w.heap.size, C0, 94), (w.heap.size + 1, ints .i64 (RN t k), 283)]) (fun i _ _ => 6 - (intOf i).toNat)
  case atStart => exact ⟨0, by omega, rfl, d0⟩
  case round =>
    clear d0
    obtain ⟨k, hk, rfl, dr⟩ := hrel
    by_cases hlt : k < 6
    · match k, hlt with
      | 0, _ =>
        go_wp2_with fail
        refine (K0.out _ (S0.out.below dr.1 (Nat.le_refl _))).mono ?_
        rintro e w2 ⟨rfl, hb2⟩
        have d2 := dr.call hb2
        have cx := d2.cell (.tail _ (.head _)) (j := 0) (v := .int .i64 0) rfl
        have fx : w2.frozen? ⟨w.heap.size + 1, 0, none⟩ = false := frozen_of_row _ _ _ _ _ (d2.row (.tail _ (.head _)))
        have d3 := bk_setn d2 (by omega) (by omega) 0 (numP t 0)
        go_wp2
        go_roundw
        case rel => exact ⟨1, by omega, by go_num, d3⟩
        case measure => simp [intOf]
      | 1, _ =>
        go_wp2_with fail
        refine (K1.out _ (S1.out.below dr.1 (Nat.le_refl _))).mono ?_
        rintro e w2 ⟨rfl, hb2⟩
        have d2 := dr.call hb2
        have cx := d2.cell (.tail _ (.head _)) (j := 1) (v := .int .i64 0) rfl
        have fx : w2.frozen? ⟨w.heap.size + 1, 1, none⟩ = false := frozen_of_row _ _ _ _ _ (d2.row (.tail _ (.head _)))
        have d3 := bk_setn d2 (by omega) (by omega) 1 (numP t 4)
        go_wp2
        go_roundw
        case rel => exact ⟨2, by omega, by go_num, d3⟩
        case measure => simp [intOf]
      | 2, _ =>
        go_wp2_with fail
        refine (K2.out _ (S2.out.below dr.1 (Nat.le_refl _))).mono ?_
        rintro e w2 ⟨rfl, hb2⟩
        have d2 := dr.call hb2
        have cx := d2.cell (.tail _ (.head _)) (j := 2) (v := .int .i64 0) rfl
        have fx : w2.frozen? ⟨w.heap.size + 1, 2, none⟩ = false := frozen_of_row _ _ _ _ _ (d2.row (.tail _ (.head _)))
        have d3 := bk_setn d2 (by omega) (by omega) 2 (numP t 8)
        go_wp2
        go_roundw
        case rel => exact ⟨3, by omega, by go_num, d3⟩
        case measure => simp [intOf]
      | 3, _ =>
        go_wp2_with fail
        refine (K3.out _ (S3.out.below dr.1 (Nat.le_refl _))).mono ?_
        rintro e w2 ⟨rfl, hb2⟩
        have d2 := dr.call hb2
        have cx := d2.cell (.tail _ (.head _)) (j := 3) (v := .int .i64 0) rfl
        have fx : w2.frozen? ⟨w.heap.size + 1, 3, none⟩ = false := frozen_of_row _ _ _ _ _ (d2.row (.tail _ (.head _)))
        have d3 := bk_setn d2 (by omega) (by omega) 3 (numP t 12)
        go_wp2
        go_roundw
        case rel => exact ⟨4, by omega, by go_num, d3⟩
        case measure => simp [intOf]
      | 4, _ =>
        go_wp2_with fail
        refine (K4.out _ (S4.out.below dr.1 (Nat.le_refl _))).mono ?_
        rintro e w2 ⟨rfl, hb2⟩
        have d2 := dr.call hb2
        have cx := d2.cell (.tail _ (.head _)) (j := 4) (v := .int .i64 0) rfl
        have fx : w2.frozen? ⟨w.heap.size + 1, 4, none⟩ = false := frozen_of_row _ _ _ _ _ (d2.row (.tail _ (.head _)))
        have d3 := bk_setn d2 (by omega) (by omega) 4 (numP t 16)
        go_wp2
        go_roundw
        case rel => exact ⟨5, by omega, by go_num, d3⟩
        case measure => simp [intOf]
      | 5, _ =>
        go_wp2_with fail
        refine (K5.out _ (S5.out.below dr.1 (Nat.le_refl _))).mono ?_
        rintro e w2 ⟨rfl, hb2⟩
        have d2 := dr.call hb2
        have cx := d2.cell (.tail _ (.head _)) (j := 5) (v := .int .i64 0) rfl
        have fx : w2.frozen? ⟨w.heap.size + 1, 5, none⟩ = false := frozen_of_row _ _ _ _ _ (d2.row (.tail _ (.head _)))
        have d3 := bk_setn d2 (by omega) (by omega) 5 (numP t 20)
        go_wp2
        go_roundw
        case rel => exact ⟨6, by omega, by go_num, d3⟩
        case measure => simp [intOf]
    · obtain rfl : k = 6 := by omega
      rw [R6.out] at dr
      generalize numP t 0 = n0 at *
      generalize numP t 4 = n1 at *
      generalize numP t 8 = n2 at *
      generalize numP t 12 = n3 at *
      generalize numP t 16 = n4 at *
      generalize numP t 20 = n5 at *
      go_wp2_with fail
      refine wp_region_noPanic ?_
      refine wp_region_held_drew (S := (fun w' => BK w w' [(w.heap.size, C0, 94), (w.heap.size + 1, ints .i64 [n0, n1, n2, n3, n4, n5], 283)])) (by kernel_rfl) dr.drew (fun hHeld => ?_)
      refine wpAnyH_take (i := 0) (oi := { dst := some 22, op := Op.indexAddr 283 (Operand.tmp 4) (Operand.const (Value.int IntKind.i64 0)), type := 0, pos := "record.go:36", after := #[], guard := none }) (v := .pointer (some ⟨w.heap.size + 1, 0, none⟩)) rfl (by kernel_rfl) (by kernel_rfl) (by kernel_rfl) (fun _ _ _ h => h) (Or.inl ⟨by rfl, by intro w hS; go_simp⟩) hHeld ?_
      try simp only [Act.put, List.setIfInBounds_toArray, List.set_cons_zero, List.set_cons_succ]
      refine wpAnyH_take (i := 2) (oi := { dst := some 24, op := Op.indexAddr 283 (Operand.tmp 4) (Operand.const (Value.int IntKind.i64 1)), type := 0, pos := "record.go:36", after := #[], guard := none }) (v := .pointer (some ⟨w.heap.size + 1, 1, none⟩)) rfl (by kernel_rfl) (by kernel_rfl) (by kernel_rfl) (fun _ _ _ h => h) (Or.inl ⟨by rfl, by intro w hS; go_simp⟩) hHeld ?_
      try simp only [Act.put, List.setIfInBounds_toArray, List.set_cons_zero, List.set_cons_succ]
      refine wpAnyH_take (i := 4) (oi := { dst := some 26, op := Op.indexAddr 283 (Operand.tmp 4) (Operand.const (Value.int IntKind.i64 2)), type := 0, pos := "record.go:36", after := #[], guard := none }) (v := .pointer (some ⟨w.heap.size + 1, 2, none⟩)) rfl (by kernel_rfl) (by kernel_rfl) (by kernel_rfl) (fun _ _ _ h => h) (Or.inl ⟨by rfl, by intro w hS; go_simp⟩) hHeld ?_
      try simp only [Act.put, List.setIfInBounds_toArray, List.set_cons_zero, List.set_cons_succ]
      refine wpAnyH_take (i := 6) (oi := { dst := some 28, op := Op.indexAddr 283 (Operand.tmp 4) (Operand.const (Value.int IntKind.i64 3)), type := 0, pos := "record.go:36", after := #[], guard := none }) (v := .pointer (some ⟨w.heap.size + 1, 3, none⟩)) rfl (by kernel_rfl) (by kernel_rfl) (by kernel_rfl) (fun _ _ _ h => h) (Or.inl ⟨by rfl, by intro w hS; go_simp⟩) hHeld ?_
      try simp only [Act.put, List.setIfInBounds_toArray, List.set_cons_zero, List.set_cons_succ]
      refine wpAnyH_take (i := 8) (oi := { dst := some 30, op := Op.indexAddr 283 (Operand.tmp 4) (Operand.const (Value.int IntKind.i64 4)), type := 0, pos := "record.go:36", after := #[], guard := none }) (v := .pointer (some ⟨w.heap.size + 1, 4, none⟩)) rfl (by kernel_rfl) (by kernel_rfl) (by kernel_rfl) (fun _ _ _ h => h) (Or.inl ⟨by rfl, by intro w hS; go_simp⟩) hHeld ?_
      try simp only [Act.put, List.setIfInBounds_toArray, List.set_cons_zero, List.set_cons_succ]
      refine wpAnyH_take (i := 10) (oi := { dst := some 32, op := Op.indexAddr 283 (Operand.tmp 4) (Operand.const (Value.int IntKind.i64 5)), type := 0, pos := "record.go:36", after := #[], guard := none }) (v := .pointer (some ⟨w.heap.size + 1, 5, none⟩)) rfl (by kernel_rfl) (by kernel_rfl) (by kernel_rfl) (fun _ _ _ h => h) (Or.inl ⟨by rfl, by intro w hS; go_simp⟩) hHeld ?_
      try simp only [Act.put, List.setIfInBounds_toArray, List.set_cons_zero, List.set_cons_succ]
      refine wpAnyH_take (i := 12) (oi := { dst := some 34, op := Op.move (Operand.tmp 0), type := 45, pos := "record.go:36", after := #[], guard := none }) (v := .slice (some ⟨b, o, none⟩) 56 cap) rfl (by kernel_rfl) (by kernel_rfl) (by kernel_rfl) (fun _ _ _ h => h) (Or.inl ⟨by rfl, by intro w hS; go_simp⟩) hHeld ?_
      try simp only [Act.put, List.setIfInBounds_toArray, List.set_cons_zero, List.set_cons_succ]
      refine wpAnyH_take (i := 1) (oi := { dst := some 23, op := Op.load 3 (Operand.tmp 22), type := 3, pos := "record.go:36", after := #[{ on := 0, ground := Ground.data }], guard := none }) (v := .int .i64 n0) rfl (by kernel_rfl) (by kernel_rfl) (by kernel_rfl) (fun _ _ _ h => h) (Or.inl ⟨by rfl, by intro w hS; have hc := hS.cell (.tail _ (.head _)) (j := 0) (v := .int .i64 n0) rfl; go_simp⟩) hHeld ?_
      try simp only [Act.put, List.setIfInBounds_toArray, List.set_cons_zero, List.set_cons_succ]
      refine wpAnyH_take (i := 3) (oi := { dst := some 25, op := Op.load 3 (Operand.tmp 24), type := 3, pos := "record.go:36", after := #[{ on := 2, ground := Ground.data }], guard := none }) (v := .int .i64 n1) rfl (by kernel_rfl) (by kernel_rfl) (by kernel_rfl) (fun _ _ _ h => h) (Or.inl ⟨by rfl, by intro w hS; have hc := hS.cell (.tail _ (.head _)) (j := 1) (v := .int .i64 n1) rfl; go_simp⟩) hHeld ?_
      try simp only [Act.put, List.setIfInBounds_toArray, List.set_cons_zero, List.set_cons_succ]
      refine wpAnyH_take (i := 5) (oi := { dst := some 27, op := Op.load 3 (Operand.tmp 26), type := 3, pos := "record.go:36", after := #[{ on := 4, ground := Ground.data }], guard := none }) (v := .int .i64 n2) rfl (by kernel_rfl) (by kernel_rfl) (by kernel_rfl) (fun _ _ _ h => h) (Or.inl ⟨by rfl, by intro w hS; have hc := hS.cell (.tail _ (.head _)) (j := 2) (v := .int .i64 n2) rfl; go_simp⟩) hHeld ?_
      try simp only [Act.put, List.setIfInBounds_toArray, List.set_cons_zero, List.set_cons_succ]
      refine wpAnyH_take (i := 7) (oi := { dst := some 29, op := Op.load 3 (Operand.tmp 28), type := 3, pos := "record.go:36", after := #[{ on := 6, ground := Ground.data }], guard := none }) (v := .int .i64 n3) rfl (by kernel_rfl) (by kernel_rfl) (by kernel_rfl) (fun _ _ _ h => h) (Or.inl ⟨by rfl, by intro w hS; have hc := hS.cell (.tail _ (.head _)) (j := 3) (v := .int .i64 n3) rfl; go_simp⟩) hHeld ?_
      try simp only [Act.put, List.setIfInBounds_toArray, List.set_cons_zero, List.set_cons_succ]
      refine wpAnyH_take (i := 9) (oi := { dst := some 31, op := Op.load 3 (Operand.tmp 30), type := 3, pos := "record.go:36", after := #[{ on := 8, ground := Ground.data }], guard := none }) (v := .int .i64 n4) rfl (by kernel_rfl) (by kernel_rfl) (by kernel_rfl) (fun _ _ _ h => h) (Or.inl ⟨by rfl, by intro w hS; have hc := hS.cell (.tail _ (.head _)) (j := 4) (v := .int .i64 n4) rfl; go_simp⟩) hHeld ?_
      try simp only [Act.put, List.setIfInBounds_toArray, List.set_cons_zero, List.set_cons_succ]
      refine wpAnyH_take (i := 11) (oi := { dst := some 33, op := Op.load 3 (Operand.tmp 32), type := 3, pos := "record.go:36", after := #[{ on := 10, ground := Ground.data }], guard := none }) (v := .int .i64 n5) rfl (by kernel_rfl) (by kernel_rfl) (by kernel_rfl) (fun _ _ _ h => h) (Or.inl ⟨by rfl, by intro w hS; have hc := hS.cell (.tail _ (.head _)) (j := 5) (v := .int .i64 n5) rfl; go_simp⟩) hHeld ?_
      try simp only [Act.put, List.setIfInBounds_toArray, List.set_cons_zero, List.set_cons_succ]
      refine wpAnyH_take (i := 13) (oi := { dst := some 35, op := Op.slice 45 (Operand.tmp 34) (some (Operand.const (Value.int IntKind.i64 24))) none none, type := 45, pos := "record.go:36", after := #[{ on := 12, ground := Ground.data }], guard := none }) (v := .slice (some ⟨b, o + 24, none⟩) 32 (cap - 24)) rfl (by kernel_rfl) (by kernel_rfl) (by kernel_rfl) (fun _ _ _ h => h) (Or.inl ⟨by rfl, by intro w hS; have q : ¬ (((cap - 24 : Nat) : Int) < 32) := (by omega); go_simp; omega⟩) hHeld ?_
      try simp only [Act.put, List.setIfInBounds_toArray, List.set_cons_zero, List.set_cons_succ]
      refine wpAnyH_take (i := 14) (oi := { dst := some 36, op := Op.sliceToArrayPointer 34 (Operand.tmp 35), type := 0, pos := "record.go:36", after := #[{ on := 13, ground := Ground.data }], guard := none }) (v := .pointer (some ⟨b, o + 24, none⟩)) rfl (by kernel_rfl) (by kernel_rfl) (by kernel_rfl) (fun _ _ _ h => h) (Or.inl ⟨by rfl, by intro w hS; go_simp⟩) hHeld ?_
      try simp only [Act.put, List.setIfInBounds_toArray, List.set_cons_zero, List.set_cons_succ]
      refine wpAnyH_take (i := 15) (oi := { dst := some 37, op := Op.load 34 (Operand.tmp 36), type := 34, pos := "record.go:36", after := #[{ on := 14, ground := Ground.data }], guard := none }) (v := .agg (ints .u8 DL).toArray) rfl (by kernel_rfl) (by kernel_rfl) (by kernel_rfl) (fun _ _ _ h => h) (yieldsIf_load_mid (by rfl) 34 _ rfl b (o + 24) rfl (ints .u8 DL) _ (fun w hS => rng_below r24 hS.1 hb) Tryz.underlying34 rfl LS.out) hHeld ?_
      try simp only [Act.put, List.setIfInBounds_toArray, List.set_cons_zero, List.set_cons_succ]
      refine wpAnyH_take (i := 16) (oi := { dst := some 38, op := Op.build 94 #[(0, Operand.tmp 23), (1, Operand.tmp 25), (2, Operand.tmp 27), (3, Operand.tmp 29), (4, Operand.tmp 31), (5, Operand.tmp 33), (6, Operand.tmp 37)], type := 94, pos := "record.go:36", after := #[{ on := 1, ground := Ground.data }, { on := 3, ground := Ground.data }, { on := 5, ground := Ground.data }, { on := 7, ground := Ground.data }, { on := 9, ground := Ground.data }, { on := 11, ground := Ground.data }, { on := 15, ground := Ground.data }], guard := none }) (v := .agg CR.toArray) rfl (by kernel_rfl) (by kernel_rfl) (by kernel_rfl) (fun _ _ _ h => h) (yieldsIf_built (by rfl) 94 #[(0, Operand.tmp 23), (1, Operand.tmp 25), (2, Operand.tmp 27), (3, Operand.tmp 29), (4, Operand.tmp 31), (5, Operand.tmp 33), (6, Operand.tmp 37)] rfl _ rfl _ BR.out) hHeld ?_
      try simp only [Act.put, List.setIfInBounds_toArray, List.set_cons_zero, List.set_cons_succ]
      refine wpAnyH_ready (rs := [17]) (by kernel_rfl) (by simp) ?_
      refine (AllReadyH.cons (o := { dst := some 6, op := Op.alloc 94, type := 0, pos := "record.go:36", after := #[], guard := none }) rfl (fun K hK => ?_) AllReadyH.nil)
      refine step_allocV AR.out (by rfl) (by rfl) ?_
      have d8 := (hHeld.alloc C0 94)
      have hG : w.heap.size + 1 < wr.drew.heap.size := hHeld.lt (.tail _ (.head _))
      refine hK.out _ _ (hHeld.other _) (fun hHeld2 => ?_)
      clear hHeld2 hK K
      try simp only [Act.put, List.setIfInBounds_toArray, List.set_cons_zero, List.set_cons_succ]
      have r8 := d8.row (.head _)
      have d9 := d8.set (by omega) (by intro x hx; simp only [List.mem_cons, List.not_mem_nil, or_false] at hx; exact hx.elim (fun h => by subst h; exact Nat.ne_of_lt (by omega)) (fun h => by subst h; exact Nat.ne_of_lt hG)) CR
      refine wpAnyH_ready (rs := [18]) (by kernel_rfl) (by simp) ?_
      refine (AllReadyH.cons (o := { dst := none, op := Op.store 94 (Operand.tmp 6) (Operand.tmp 38), type := 0, pos := "record.go:36", after := #[{ on := 17, ground := Ground.data }, { on := 16, ground := Ground.data }, { on := 0, ground := Ground.phase }, { on := 1, ground := Ground.phase }, { on := 2, ground := Ground.phase }, { on := 3, ground := Ground.phase }, { on := 4, ground := Ground.phase }, { on := 5, ground := Ground.phase }, { on := 6, ground := Ground.phase }, { on := 7, ground := Ground.phase }, { on := 8, ground := Ground.phase }, { on := 9, ground := Ground.phase }, { on := 10, ground := Ground.phase }, { on := 11, ground := Ground.phase }, { on := 12, ground := Ground.phase }, { on := 13, ground := Ground.phase }, { on := 14, ground := Ground.phase }, { on := 15, ground := Ground.phase }, { on := 16, ground := Ground.phase }, { on := 17, ground := Ground.phase }], guard := none }) rfl (fun K hK => ?_) AllReadyH.nil)
      refine step_storeRowC rfl 94 (.tmp 6) (.tmp 38) rfl wr.drew.heap.size CR.toArray rfl rfl 94 C0.toArray r8 (by rw [Tryz.sizeRc, List.size_toArray, LR.out]) (by rw [List.size_toArray, List.size_toArray, L0.out, LR.out]) (all_oneCell_toArray OR.out) ?_
      refine hK.out _ _ (show BK w _ _ from ⟨d9.1, fun x hx => d9.2 x (.tail _ hx)⟩) (fun hHeld2 => ?_)
      clear hHeld2 hK K hHeld d8 r8
      try simp only [Act.put, List.setIfInBounds_toArray, List.set_cons_zero, List.set_cons_succ]
      refine wpAnyH_done (by kernel_rfl) ?_ _
      refine NoPanic.normal ?_
      have r9 := d9.row (.head _)
      have SR := hid (show (Tryz.prog.info? 94).map (·.size) = some CR.toArray.size by rw [Tryz.sizeRc, List.size_toArray, LR.out])
      go_wp2_with (first | refine wpList_load_row_w (by rfl) 94 _ (by rfl) _ (by rfl) 94 _ _ _ r9 Tryz.underlying94 rfl SR.out ?_)
      refine (KR.out _).mono ?_
      rintro e w4 ⟨rfl, hb4⟩
      have d4 := d9.call hb4
      have r4 := d4.row (.head _)
      have q4 := d4.row (.tail _ (.head _))
      have e4 : BK w _ [(w.heap.size, C0, 94)] := ⟨d4.1, fun x hx => d4.2 x (by simp only [List.mem_cons, List.not_mem_nil, or_false] at hx; subst hx; exact .tail _ (.head _))⟩
      clear r9
      rcases HX.out with h | h
      · obtain ⟨hX, rfl⟩ := HT.out h
        subst h
        rw [HCR.out hX] at HP
        have e5 := e4.set (Nat.le_refl _) (by intro x hx; cases hx) CR
        go_wp2_with (first
          | refine wpList_load_row_w (by rfl) 94 _ (by rfl) wr.drew.heap.size (by rfl) 94 _ _ _ r4 Tryz.underlying94 rfl SR.out ?_
          | refine wpList_store_row rfl 94 _ _ (by rfl) w.heap.size CR.toArray (by rfl) (by rfl) 94 _ q4 (by rw [Tryz.sizeRc, List.size_toArray, LR.out]) (by rw [List.size_toArray, List.size_toArray, L0.out, LR.out]) (all_oneCell_toArray OR.out) ?_)
        exact bodyPost_ret (v := .tuple #[.agg CR.toArray, .int .i64 0]) (results_c2i Tryz.results126 _ _ w.heap.size 94 _ _ _ rfl (e5.row (.head _)) Tryz.underlying94 rfl (by rw [Tryz.sizeRc, List.size_toArray, LR.out])) rfl (HP.out _ e5.1)
      · obtain ⟨hX, rfl⟩ := HN.out h
        subst h
        rw [HC0.out hX] at HP
        have e5 := e4.set (Nat.le_refl _) (by intro x hx; cases hx) C0
        go_wp2_with (first
          | refine wpList_built (by rfl) 94 _ rfl _ rfl _ BZ.out ?_
          | refine wpList_store_row rfl 94 _ _ (by rfl) w.heap.size C0.toArray (by rfl) (by rfl) 94 _ q4 (by rw [Tryz.sizeRc, List.size_toArray, L0.out]) (by rfl) (all_oneCell_toArray O0.out) ?_)
        exact bodyPost_ret (v := .tuple #[.agg C0.toArray, .int .i64 150]) (results_c2i Tryz.results126 _ _ w.heap.size 94 _ _ _ rfl (e5.row (.head _)) Tryz.underlying94 rfl (by rw [Tryz.sizeRc, List.size_toArray, L0.out])) rfl (HP.out _ e5.1)
theorem idecode_any (w : World) (t : List Int) (hy : Bys t) (sp : Option Addr) (cap : Nat) (hS : Src w sp cap t) :
    Calls Tryz.prog 126 #[.slice sp t.length cap] w fun e w' => e = .returned (.tuple #[.agg (rcC (decRV t)).toArray, .int .i64 (decRE t)]) ∧ Below w.heap.size w w' := by
  by_cases hl : t.length = 56
  · rw [hl]; exact idecode_yes w t hy hl sp cap hS
  · exact idecode_no w t hl (by have h1 := hS.1; have h2 := hS.2.1; unfold maxLen at h2; omega) sp cap
end Go.Proofs.YtjpcegjgandnjaaGreatDoor
namespace Go.Proofs.YtjpcegjgandnjaaGreatDoor
set_option linter.unusedVariables false
set_option linter.unusedSimpArgs false
open Go.RowKit
attribute [local go_sem ↓] Go.wp_at_zero Go.wp_at_succ

end Go.Proofs.YtjpcegjgandnjaaGreatDoor
namespace Go.Proofs.YtjpcegjgandnjaaGreatDoor
set_option linter.unusedVariables false
set_option linter.unusedSimpArgs false
open Go.RowKit

theorem fr_put (l : Nat) (W : World) (o : Obj) : Fr [l] W (W.putObj l o) :=
  ⟨rfl, rfl, rfl, by simp [World.putObj], fun k _ hn => World.putObj_heap_other (fun e => hn (by simp [e]))⟩
theorem Fr.more {A : List Nat} {a b c : World} (h : Fr A a b) (k : Fr A b c) : Fr A a c := h.trans k (Gr.refl _ _)
end Go.Proofs.YtjpcegjgandnjaaGreatDoor
namespace Go.Proofs.YtjpcegjgandnjaaGreatDoor
set_option linter.unusedVariables false
set_option linter.unusedSimpArgs false
open Go.RowKit
open Go.Proofs.YtjpcegjgandnjaaGreatDoor.Ca (Ct ct0 ctC argV AS)
attribute [local go_sem ↓] Go.wp_at_zero Go.wp_at_succ

end Go.Proofs.YtjpcegjgandnjaaGreatDoor
namespace Go.Proofs.YtjpcegjgandnjaaGreatDoor
set_option linter.unusedVariables false
set_option linter.unusedSimpArgs false
open Go.RowKit
open Go.Proofs.YtjpcegjgandnjaaGreatDoor.Ca (Ct ct0 ctC argV AS)
attribute [local go_sem ↓] Go.wp_at_zero Go.wp_at_succ

/-- The disk behind the appends of pages from a number on. -/
def appD (D : DS) (m : Nat) : List (Int × List Int) → DS
  | [] => D
  | v :: r => appD (D.wr ⟨m, pageP v.1 m v.2⟩) (m + 1) r
theorem appD_snoc : ∀ (l : List (Int × List Int)) (D : DS) (m : Nat) (v : Int × List Int), appD D m (l ++ [v]) = (appD D m l).wr ⟨m + l.length, pageP v.1 (m + l.length : Nat) v.2⟩
  | [], D, m, v => by simp [appD]
  | x :: l, D, m, v => by
    simp only [List.cons_append, appD, appD_snoc l _ (m + 1) v, List.length_cons]
    rw [show m + 1 + l.length = m + (l.length + 1) by omega]
theorem take_snocV (l : List (Int × List Int)) (i : Nat) (h : i < l.length) : l.take (i + 1) = l.take i ++ [l.getD i (0, [])] := by
  rw [List.take_succ_eq_append_getElem h, List.getD_eq_getElem?_getD, List.getElem?_eq_getElem h]; rfl
/-- What stands when so many pages are appended. -/
structure PubI (W : World) (base : Nat) (S : Sto) (m : Nat) (i : Nat) (D' : DS) (F' : List Nat) (wr : World) : Prop where
  da : DA wr base F' S.p D'
  fk : FK wr S.g S.p S.s (m + i : Nat) S.ep
  fr : Fr (S.g :: S.F) W wr
  gr : Gr W S.F F'
  lv : liveF D' S.ep = 0
  eq : D' = appD S.D m (S.vs.take i)
  np : D'.np = S.D.np
  op : D'.ops.length = S.D.ops.length + i
  wc : D'.writes = S.D.writes + i
theorem live_of {D : DS} {ep : Int} (h1 : D.epoch = ep) (h2 : D.power = true) : liveF D ep = 0 := by
  unfold liveF
  simp [h1, h2]
theorem PubI.step {W wr w' : World} {base : Nat} {S : Sto} {m i : Nat} {D' : DS} {F' F2 : List Nat} (h : PubI W base S m i D' F' wr) (hW : SK W base S) (hi : i < S.vs.length) (ha : D'.armed ≠ 1) (ha0 : 0 ≤ D'.armed) (kd : Int) (zs : List Int) (hv : S.vs.getD i (0, []) = (kd, zs))
    (hd : DA w' base F2 S.p (D'.wr ⟨m + i, pageP kd (m + i : Nat) zs⟩)) (hf : FK w' S.g S.p S.s (m + i + 1 : Nat) S.ep) (fr : Fr (S.g :: F') wr w') (gr : Gr wr F' F2) : PubI W base S m (i + 1) (D'.wr ⟨m + i, pageP kd (m + i : Nat) zs⟩) F2 w' := by
  obtain ⟨e1, e2, e3, e4, e5, e6⟩ := wr_img D' ⟨m + i, pageP kd (m + i : Nat) zs⟩
  obtain ⟨l1, l2⟩ := live_0 h.lv
  have hp := (wr_arm D' ⟨m + i, pageP kd (m + i : Nat) zs⟩ ha0).2.1 ha
  have hl : (S.vs.take i).length = i := by rw [List.length_take]; omega
  refine ⟨hd, hf, h.fr.trans fr ?_, h.gr.trans gr h.fr.size, live_of (e3.trans l1) (hp.trans l2), ?_, ?_, ?_, ?_⟩
  · intro k hk
    rcases List.mem_cons.1 hk with e | e
    · exact Or.inl (e ▸ List.mem_cons_self ..)
    · exact (h.gr k e).imp (fun q => List.mem_cons_of_mem _ q) id
  · rw [take_snocV _ _ hi, appD_snoc, hv, hl, h.eq]
  · have : (D'.wr ⟨m + i, pageP kd (m + i : Nat) zs⟩).np = D'.np := by unfold DS.np; rw [e1]
    rw [this, h.np]
  · rw [e2, List.length_append, h.op]; rfl
  · rw [e5, h.wc]; push_cast; omega
theorem SK.off {W wr : World} {base : Nat} {S : Sto} (h : SK W base S) (hf : Fr (S.g :: S.F) W wr) :
    wr.heap[S.st]? = W.heap[S.st]? ∧ (∀ k, S.sv.ownBlock = some k → wr.heap[k]? = W.heap[k]?) ∧ (∀ k ∈ S.lb, wr.heap[k]? = W.heap[k]?) ∧ (∀ k ∈ S.FC, wr.heap[k]? = W.heap[k]?) := by
  refine ⟨hf.block S.st h.lt_st ?_, fun k e => hf.block k (h.in_lt (by simp [e])).2 ?_, fun k e => hf.block k (h.in_lt (by simp [e])).2 ?_, fun k e => hf.block k (h.in_lt (by simp [e])).2 ?_⟩
  · intro q
    rcases List.mem_cons.1 q with z | z
    · exact h.st_apart.1 z
    · exact h.st_apart.2.1 z
  · intro q
    rcases List.mem_cons.1 q with z | z
    · exact (h.sv_apart e).1 z
    · exact (h.sv_apart e).2.2.1 z
  · intro q
    rcases List.mem_cons.1 q with z | z
    · exact h.g_apart.2.2 (z ▸ e)
    · exact h.a2 k z e
  · intro q
    rcases List.mem_cons.1 q with z | z
    · exact h.g_apart.2.1 (z ▸ e)
    · exact h.a1 k z e
/-- A content of the list, where it lies. -/
theorem flat_ct : ∀ (l : List Ct) (i : Nat), i < l.length → ∀ j v, (ctC (l.getD i ct0))[j]? = some v → (l.flatMap ctC)[i * 2 + j]? = some v
  | [], i, h, j, v, hv => by simp at h
  | x :: l, 0, h, j, v, hv => by
    have hj : j < 2 := by
      have := (List.getElem?_eq_some_iff.1 hv).1
      simpa [ctC] using this
    rw [List.flatMap_cons, Nat.zero_mul, Nat.zero_add, List.getElem?_append_left (by simpa [ctC] using hj)]
    simpa using hv
  | x :: l, i + 1, h, j, v, hv => by
    have := flat_ct l i (by simpa using h) j v (by simpa using hv)
    rw [List.flatMap_cons, show (i + 1) * 2 + j = (i * 2 + j) + 2 by omega, List.getElem?_append_right (by simp [ctC])]
    simpa [ctC] using this
theorem SK.row {W : World} {base : Nat} {S : Sto} (h : SK W base S) (i : Nat) (hi : i < S.cts.length) : ∃ b cap, S.sv = .slice (some ⟨b, 0, none⟩) S.cts.length cap ∧ S.sv.ownBlock = some b ∧ W.rangeAt b (i * 2) (ctC (S.cts.getD i ct0)) := by
  have hc := h.so
  rcases hc.2 with ⟨_, h0⟩ | ⟨g, cap, cur, e, hg, hh, _⟩
  · have : S.cts.length = 0 := by first | exact h0 | omega
    omega
  · refine ⟨g, cap, e, by rw [e]; rfl, fun j v hv => ?_⟩
    have := hc.cells (g := g) (by rw [e]; rfl) (i * 2 + j) v (flat_ct _ i hi j v hv)
    rw [Addr.add_mid, Nat.zero_add] at this
    exact this
end Go.Proofs.YtjpcegjgandnjaaGreatDoor
namespace Go.Proofs.YtjpcegjgandnjaaGreatDoor
set_option linter.unusedVariables false
set_option linter.unusedSimpArgs false
open Go.RowKit
open Go.Proofs.YtjpcegjgandnjaaGreatDoor.Ca (Ct ct0 ctC argV AS)
attribute [local go_sem ↓] Go.wp_at_zero Go.wp_at_succ

theorem allocCt (a : Act) (o : Oper) (w : World) (ho : o.op = .alloc 166) : (execOp a.eval o).run Tryz.prog w = .ok (.value (.pointer (some ⟨w.heap.size, 0, none⟩))) (w.alloc (.cells (ctC ct0).toArray 166)) := by
  unfold execOp
  rw [ho]
  kernel_rfl
end Go.Proofs.YtjpcegjgandnjaaGreatDoor
namespace Go.Proofs.YtjpcegjgandnjaaGreatDoor
set_option linter.unusedVariables false
set_option linter.unusedSimpArgs false
open Go.RowKit
open Go.Proofs.YtjpcegjgandnjaaGreatDoor.Ca (Ct ct0 ctC argV AS)
attribute [local go_sem ↓] Go.wp_at_zero Go.wp_at_succ

/-- The disk has changed beneath, nothing was published. -/
theorem SK.disked {w w' : World} {base : Nat} {S : Sto} (h : SK w base S) {F' : List Nat} {D' : DS} (hD : DA w' base F' S.p D') (m : Nat) (hm : S.s.ma = m) (hf : FK w' S.g S.p S.s S.s.ma S.ep) (fr : Fr (S.g :: S.F) w w') (gr : Gr w S.F F') (hck : ∀ x ∈ S.a.clean, D'.readOf x.1.toNat = S.D.readOf x.1.toNat) :
    SK w' base { S with F := F', D := D', nx := m } := by
  obtain ⟨o1, o2, o3, o4⟩ := h.off fr
  have hold2 : ∀ k, (k = S.g ∨ k = S.st ∨ k ∈ S.F ∨ k ∈ S.FC ∨ S.sv.ownBlock = some k ∨ k ∈ S.lb) → base ≤ k ∧ k < w.heap.size := fun k q => h.in_lt q
  refine ⟨hD, ?_, ?_, o1.trans h.sk, ownsRow_heap h.so o2, fun k q => ⟨(h.lb k q).1, ?_⟩, h.cl, fun j hj => (h.cv j hj).to (fun k q => q) o3, fun x hx => ?_, h.hd, fun k hk q => ?_, fun k hk q => ?_, h.a3, h.bg, h.bs, h.bp⟩
  · show FK w' S.g S.p S.s (m : Int) S.ep
    rw [← hm]; exact hf
  · obtain ⟨mm, n, s, L, e, c, r⟩ := h.ca
    exact ⟨mm, n, s, L, e, c.of_heap fun k hk => o4 k (by rw [e]; exact hk), r⟩
  · obtain ⟨cs, hc⟩ := (h.lb k q).2
    exact ⟨cs, (o3 k q).trans hc⟩
  · obtain ⟨v, h1, h2, h3, h4⟩ := h.ck x hx
    exact ⟨v, h1.to (fun k q => q) o3, h2, h3, by show unpackF x.1 (D'.readOf x.1.toNat) = _; rw [hck x hx]; exact h4⟩
  · rcases gr k hk with z | z
    · exact h.a1 k z q
    · have := (hold2 k (by simp [q])).2; omega
  · rcases gr k hk with z | z
    · exact h.a2 k z q
    · have := (hold2 k (by simp [q])).2; omega
end Go.Proofs.YtjpcegjgandnjaaGreatDoor
namespace Go.Proofs.YtjpcegjgandnjaaGreatDoor
set_option linter.unusedVariables false
set_option linter.unusedSimpArgs false
open Go.RowKit
open Go.Proofs.YtjpcegjgandnjaaGreatDoor.Ca (Ct ct0 ctC argV AS)
attribute [local go_sem ↓] Go.wp_at_zero Go.wp_at_succ

end Go.Proofs.YtjpcegjgandnjaaGreatDoor
namespace Go.Proofs.YtjpcegjgandnjaaGreatDoor
set_option linter.unusedVariables false
set_option linter.unusedSimpArgs false
open Go.RowKit
open Go.Proofs.YtjpcegjgandnjaaGreatDoor.Ca (Ct ct0 ctC argV AS)
attribute [local go_sem ↓] Go.wp_at_zero Go.wp_at_succ

/-- A disk that was just laid. -/
structure Born (D : DS) (n : Nat) (wd : Int) : Prop where
  ok : DsOk D
  np : D.np = n
  ops : D.ops = []
  pw : D.power = true
  arm : D.armed = 0
  epoch : D.epoch = 0
  reads : D.reads = 2
  writes : D.writes = 2
  syncs : D.syncs = 2
  chs : chooseF (D.readOf 0) (D.readOf 1) = (fS n wd 1, 0)
end Go.Proofs.YtjpcegjgandnjaaGreatDoor
