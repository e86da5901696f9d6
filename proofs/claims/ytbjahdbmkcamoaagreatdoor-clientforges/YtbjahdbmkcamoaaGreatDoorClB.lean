import Derived.Test.YtbjahdbmkcamoaaGreatDoorClA
import Derived.Test.YtbjahdbmkcamoaaGreatDoorNf
namespace Go.Proofs.YtbjahdbmkcamoaaGreatDoor
set_option linter.unusedVariables false
set_option linter.unusedSimpArgs false
open Go.RowKit
attribute [local go_sem ↓] Go.wp_at_zero Go.wp_at_succ

theorem OwnD.srcN {w : World} {base : Nat} {s : Option Addr} {n c : Nat} {ss : List (List Int)} (h : OwnD w base (.slice s n c) ss) : SrcD w s c ss := by
  obtain ⟨sp, cap, e, S, _⟩ := h.form
  cases e; exact S
theorem Own.srcN {w : World} {base : Nat} {s : Option Addr} {n c : Nat} {zs : List Int} (h : Own w base (.slice s n c) zs) : Src w s c zs := by
  obtain ⟨sp, cap, e, S, _⟩ := h.form
  cases e; exact S
/-- A block among others written. -/
theorem BK.upd {w0 w : World} {L L' : List (Nat × List Value × Nat)} (h : BK w0 w L) {b t : Nat} {zs : List Value} (hm : (b, zs, t) ∈ L) (hb : w0.heap.size ≤ b) (ys : List Value) (hL : ∀ x ∈ L', x = (b, ys, t) ∨ (x ∈ L ∧ x.1 ≠ b)) : BK w0 (w.setRow b ys.toArray) L' := by
  refine ⟨below_setRow h.1 hb _, fun x hx => ?_⟩
  rcases hL x hx with rfl | ⟨h1, h2⟩
  · exact setRow_heap _ _ _ _ _ _ (h.row hm)
  · exact (setRow_other _ _ _ _ h2).trans (h.2 x h1)
theorem BK.updC {w0 w : World} {L L' : List (Nat × List Value × Nat)} (h : BK w0 w L) {b t : Nat} {zs : List Value} (hm : (b, zs, t) ∈ L) (hb : w0.heap.size ≤ b) (j : Nat) (v : Value) (hL : ∀ x ∈ L', x = (b, zs.set j v, t) ∨ (x ∈ L ∧ x.1 ≠ b)) : BK w0 (w.setCell ⟨b, j, none⟩ v) L' := by
  rw [setCell_eq_setRow w b _ _ _ _ _ (h.row hm)]
  have := h.upd hm hb (zs.set j v) hL
  rwa [← List.setIfInBounds_toArray] at this
theorem infoDz : ∃ i, Tryz.prog.info? 28 = some i ∧ i.zero = some (.agg (ints .u8 zB).toArray) ∧ i.size = 32 ∧ i.bytes = 32 := by
  have h : (Tryz.prog.info? 28).map (fun i => (i.zero, i.size, i.bytes)) = some (some (.agg (ints .u8 zB).toArray), 32, 32) := by kernel_rfl
  cases hq : Tryz.prog.info? 28 with
  | none => rw [hq] at h; cases h
  | some i =>
    rw [hq] at h
    simp only [Option.map_some, Option.some.injEq, Prod.mk.injEq] at h
    exact ⟨i, rfl, h.1, h.2.1, h.2.2⟩
theorem flat_zB (n : Nat) : (List.replicate n zB).flatten = List.replicate (n * 32) 0 := by
  unfold zB; rw [List.flatten_replicate_replicate]
theorem made_digs (n : Nat) : (madeCells (Value.agg (ints .u8 zB).toArray).cells (n * 32)).toList = ints .u8 (List.replicate n zB).flatten := by
  rw [flat_zB]
  have hz : (Value.agg (ints .u8 zB).toArray).cells = (List.replicate 32 (Value.int .u8 0)).toArray := rfl
  rw [hz]
  have hh : ∀ r, r < 32 → (List.replicate 32 (Value.int .u8 0))[r]? = some (.int .u8 0) := fun r hr => by rw [List.getElem?_replicate, if_pos hr]
  have hl : (List.replicate 32 (Value.int .u8 0)).length = 32 := List.length_replicate
  generalize List.replicate 32 (Value.int .u8 0) = l at *
  apply List.ext_getElem
  · simp [madeCells, ints]
  · intro i h1 h2
    have := hh (i % 32) (Nat.mod_lt _ (by decide))
    simp [madeCells, ints, hl, this]
theorem flat_set : ∀ (D : List (List Int)) (j : Nat) (d : List Int), (∀ x ∈ D, x.length = 32) → j < D.length → d.length = 32 → (ints .u8 D.flatten).take (j * 32) ++ ints .u8 d ++ (ints .u8 D.flatten).drop (j * 32 + 32) = ints .u8 (D.set j d).flatten
  | x :: D, 0, d, h, hj, hd => by
    have hx := h x (.head _)
    simp only [Nat.zero_mul, List.take_zero, List.nil_append, Nat.zero_add, List.set_cons_zero, List.flatten_cons, ints, List.map_append]
    rw [List.drop_append_of_le_length (by simp; omega), List.drop_of_length_le (by simp; omega), List.nil_append]
  | x :: D, j + 1, d, h, hj, hd => by
    have hx := h x (.head _)
    have ih := flat_set D j d (fun y hy => h y (.tail _ hy)) (by simpa using hj) hd
    have hl : (x.map (Value.int .u8)).length = 32 := by simp [hx]
    simp only [List.set_cons_succ, List.flatten_cons, ints, List.map_append] at ih ⊢
    rw [List.take_append, List.take_of_length_le (by rw [hl]; omega), hl, show (j + 1) * 32 - 32 = j * 32 by omega, List.drop_append, List.drop_of_length_le (by rw [hl]; omega), hl, show (j + 1) * 32 + 32 - 32 = j * 32 + 32 by omega, List.nil_append, List.append_assoc, List.append_assoc, ← List.append_assoc (List.take _ _), ih]
theorem flat_len' {D : List (List Int)} (h : ∀ d ∈ D, d.length = 32) : (ints .u8 D.flatten).length = 32 * D.length := by rw [ints_len, flat_len32 D h]
/-- A row of digests, as a slice reads it. -/
theorem srcD_row {w : World} {g : Nat} {D : List (List Int)} {fr : Nat × Nat} (h : w.heap[g]? = some (.cells (ints .u8 D.flatten).toArray 28 fr)) (h0 : ∀ d ∈ D, d.length = 32) (cap : Nat) (hc : D.length ≤ cap) (hm : cap ≤ maxLen) : SrcD w (some ⟨g, 0, none⟩) cap D := by
  refine ⟨hc, hm, h0, g, 0, fun _ => hlt h, fun _ => rfl, fun i hi j u hu => ?_⟩
  have hd : (D.getD i []).length = 32 := h0 _ (by rw [List.getD_eq_getElem?_getD, List.getElem?_eq_getElem hi]; exact List.getElem_mem _)
  have hj : j < 32 := by have := (List.getElem?_eq_some_iff.1 hu).1; rwa [ints_len, hd] at this
  have h3 := flat_get D i j h0 hi hj
  rw [Nat.zero_add, cell_of_row _ _ _ _ _ _ h, List.getElem?_toArray, h3, hu]
theorem made_rowD {w1 : World} {base g n : Nat} (h : w1.ownsRow base 28 32 (.slice (some ⟨g, 0, none⟩) n n) n (madeCells (Value.agg (ints .u8 zB).toArray).cells (n * 32)).toList) : w1.heap[g]? = some (.cells (ints .u8 (List.replicate n zB).flatten).toArray 28 (0, 0)) := by
  obtain ⟨h1, ⟨hv, _⟩ | ⟨g', cap, cur, hv, hg, hh, hc, hm, hs, ht⟩⟩ := h
  · cases hv
  · simp only [Value.slice.injEq, Option.some.injEq, Addr.mk.injEq] at hv
    obtain ⟨⟨rfl, _⟩, _, rfl⟩ := hv
    rw [made_digs] at ht
    rw [hh, ← ht, List.take_of_length_le (by simp [hs])]
theorem wpList_storeD {ops : Array Oper} {rest : List Oper} {op : Oper} {a : Act} {w : World} {Q : Exit → Act → World → Prop} (hgd : op.guard = none) (x y : Operand) (ho : op.op = .store 28 x y)
    (g j : Nat) (D : List (List Int)) (d : List Int) (hx : a.eval x = .pointer (some ⟨g, j * 32, none⟩)) (hy : a.eval y = .agg (ints .u8 d).toArray) (hrow : w.heap[g]? = some (.cells (ints .u8 D.flatten).toArray 28 (0, 0))) (hD : ∀ d ∈ D, d.length = 32) (hj : j < D.length) (hd : d.length = 32)
    (h : wpList Tryz.prog ops Q rest (a.put op.dst undef) (w.setRow g (ints .u8 (D.set j d).flatten).toArray)) : wpList Tryz.prog ops Q (op :: rest) a w := by
  have hl := flat_len' hD
  refine wpList_store_mid hgd 28 x y ho g (j * 32) (ints .u8 d).toArray hx hy ?_ (by rw [Tryz.sizeD, ints_size, hd]) (all_oneCell_toArray (ints_one _ _)) ?_
  · intro i hi
    rw [ints_size, hd] at hi
    refine ⟨?_, frozen_of_row _ _ _ _ _ hrow⟩
    rw [cell_of_row _ _ _ _ _ _ hrow, List.getElem?_toArray, List.getElem?_eq_getElem (by omega)]; rfl
  · rw [setCells_row hrow (by rw [ints_len, hd]; omega) (ints_one _ _), ints_len, hd, flat_set D j d hD hj hd]
    exact h
/-! The digests of the empty subtrees. -/
def emps (k : Int) (n : Nat) : List (List Int) := (List.range n).map (emptyD k)
theorem emps_len (k : Int) (n : Nat) : (emps k n).length = n := by simp [emps]
theorem emps_mem (k : Int) (n : Nat) : ∀ d ∈ emps k n, d.length = 32 := fun d hd => by
  obtain ⟨i, _, rfl⟩ := List.mem_map.1 hd; exact emptyD_len _ _
theorem emps_get (k : Int) (n h : Nat) (hh : h < n) : (emps k n).getD h [] = emptyD k h := by
  rw [List.getD_eq_getElem?_getD, emps, List.getElem?_map, List.getElem?_range hh]; rfl
def empH (k : Int) (j : Nat) : List (List Int) := emps k j ++ List.replicate (256 - j) zB
theorem empH_len (k : Int) (j : Nat) (hj : j ≤ 256) : (empH k j).length = 256 := by simp [empH, emps_len]; omega
theorem empH_mem (k : Int) (j : Nat) : ∀ d ∈ empH k j, d.length = 32 := fun d hd => by
  rcases List.mem_append.1 hd with h | h
  · exact emps_mem k j d h
  · rw [List.eq_of_mem_replicate h]; rfl
theorem empH_set (k : Int) (j : Nat) (hj : j < 256) : (empH k j).set j (emptyD k j) = empH k (j + 1) := by
  unfold empH
  rw [List.set_append_right _ _ (by rw [emps_len]; omega), emps_len, Nat.sub_self, show 256 - j = (256 - (j + 1)) + 1 by omega, List.replicate_succ, List.set_cons_zero]
  simp [emps, List.range_succ]
theorem empH_full (k : Int) : empH k 256 = emps k 256 := by
  show emps k 256 ++ List.replicate 0 zB = _
  rw [List.replicate_zero, List.append_nil]
theorem empH_zero (k : Int) : empH k 0 = List.replicate 256 zB := rfl
theorem own_rowD {w : World} {g base : Nat} {D : List (List Int)} (h : w.heap[g]? = some (.cells (ints .u8 D.flatten).toArray 28 (0, 0))) (h0 : ∀ d ∈ D, d.length = 32) (hg : base ≤ g) (hm : D.length ≤ maxLen) : OwnD w base (.slice (some ⟨g, 0, none⟩) D.length D.length) D := by
  refine ⟨h0, by rw [ints_len, flat_len32 D h0]; omega, Or.inr ⟨g, D.length, (ints .u8 D.flatten).toArray, rfl, hg, h, Nat.le_refl _, hm, by rw [ints_size, flat_len32 D h0]; omega, ?_⟩⟩
  rw [List.toList_toArray, List.take_of_length_le (by rw [ints_len, flat_len32 D h0]; omega)]
set_option maxRecDepth 100000 in
set_option maxHeartbeats 4000000 in
theorem empties_any (w : World) (hG : Glob w) (k : Int) :
    Calls Tryz.prog 38 #[.int .i64 k] w fun e w' => ∃ g, e = .returned (.slice (some ⟨g, 0, none⟩) 256 256) ∧ w.heap.size ≤ g ∧ w'.heap[g]? = some (.cells (ints .u8 (emps k 256).flatten).toArray 28 (0, 0)) ∧ Below (w.heap.size) w w' := by
  have hzl : zB.length = 32 := rfl
  obtain ⟨iD, HID, hzD, hsD, hyD⟩ := infoDz
  have HI := hid HID
  have HB2 := hid (show iD.bytes * 256 ≤ 281474976710656 by rw [hyD]; decide)
  clear HID
  have AD := hid allocDg
  go_enter Tryz.func38, Tryz.ntmps38
  go_wp2_with (refine wpList_make_full _ rfl _ _ 48 rfl w.heap.size 28 iD (.agg (ints .u8 zB).toArray) 32 Tryz.underlying48 HI.out hzD hsD .i64 .i64 _ _ 256 rfl rfl rfl rfl HB2.out (by simp [maxLen]) (Nat.le_refl _) ?_; intro w1 hO hg1; refine Hid.out ?_)
  refine hid ?_
  have r1 := made_rowD hO
  have hB1 := grown_keeps hg1 (fun k e => by cases e) (Nat.le_refl _)
  have hgl : w.heap.size < w1.heap.size := hlt r1
  clear hO hg1
  rw [← empH_zero k] at r1
  have hG1 := hG.below hB1 hG.1
  have KE := hid (empty_any w1 hG1 k 0)
  rw [show hgt 0 = 0 from rfl] at KE
  have LB := hid (show (ints .u8 zB).length = 32 from rfl)
  have LE := hid (show (ints .u8 (emptyD k 0)).length = 32 by rw [ints_len]; exact emptyD_len k 0)
  go_wp2_with (first
    | (refine KE.out.mono ?_; rintro e w2 ⟨rfl, hB2⟩)
    | (refine wpList_new AD.out LB.out Tryz.sizeD rfl rfl rfl _ _ rfl rfl (ints .u8 (emptyD k 0)) rfl rfl LE.out (ints_one _ _) ?_; refine Hid.out ?_))
  refine hid ?_
  have r2 := hold (o := .cells (ints .u8 (emptyD k 0)).toArray 28) (hbel hB2 r1 (hlt r1))
  have q2 := hnew w2 (.cells (ints .u8 (emptyD k 0)).toArray 28)
  have hB3 : Below (w.heap.size) w (w2.alloc (.cells (ints .u8 (emptyD k 0)).toArray 28)) := (hB1.trans (hB2.mono (by omega))).alloc (by have := hB2.size; omega) _
  have hGE : w.heap.size < w2.heap.size := Nat.lt_of_lt_of_le hgl hB2.size
  clear KE r1 hB1 hB2 hG1 LE
  generalize w2.alloc (.cells (ints .u8 (emptyD k 0)).toArray 28) = w3 at *
  generalize w2.heap.size = E at *
  go_wp2_with fail
  go_loopw [5, 11] (fun _ iv wr => ∃ j : Nat, j ≤ 256 ∧ iv = .int .i64 j ∧ wr.heap[w.heap.size]? = some (.cells (ints .u8 (empH k j).flatten).toArray 28 (0, 0)) ∧ wr.heap[E]? = some (.cells (ints .u8 (emptyD k j)).toArray 28 (0, 0)) ∧ Below (w.heap.size) w wr) (fun _ iv _ => 256 - (intOf iv).toNat)
  case atStart => exact ⟨0, by omega, rfl, r2, q2, hB3⟩
  case round =>
    clear r2 q2 hB3
    obtain ⟨j, hj, rfl, r, q, hB⟩ := hrel
    by_cases hlt' : j < 256
    · have i1 : (j : Int) < 256 := by omega
      have hGr := hG.below hB hG.1
      have hcl := emptyD_len k j
      have hcl2 := emptyD_len k (j + 1)
      have HS := hid (empH_set k j hlt')
      have HL := hid (empH_len k j hj)
      have HM := hid (empH_mem k j)
      have hwS : Below (w.heap.size) w (wr.setRow (w.heap.size) (ints .u8 (empH k (j + 1)).flatten).toArray) := below_setRow hB (Nat.le_refl _) _
      have rS : (wr.setRow (w.heap.size) (ints .u8 (empH k (j + 1)).flatten).toArray).heap[w.heap.size]? = some (.cells (ints .u8 (empH k (j + 1)).flatten).toArray 28 (0, 0)) := setRow_heap _ _ _ _ _ _ r
      have qS : (wr.setRow (w.heap.size) (ints .u8 (empH k (j + 1)).flatten).toArray).heap[E]? = some (.cells (ints .u8 (emptyD k j)).toArray 28 (0, 0)) := (setRow_other _ _ _ _ (by omega)).trans q
      have KB := hid (branch_to (wr.setRow (w.heap.size) (ints .u8 (empH k (j + 1)).flatten).toArray) (hG.below hwS hG.1) k (emptyD k j) (emptyD k j) (emptyD k (j + 1)) hcl hcl rfl)
      generalize hD2 : emptyD k (j + 1) = D2 at *
      have HD2 := hid hD2
      clear hD2
      generalize emptyD k j = D1 at *
      generalize hX2 : empH k (j + 1) = X2 at *
      have HX2 := hid hX2
      clear hX2
      generalize empH k j = X1 at *
      go_wp2_with (first
        | (refine wpList_storeD rfl _ _ rfl (w.heap.size) j X1 D1 rfl rfl r HM.out (by rw [HL.out]; omega) hcl ?_; rw [HS.out])
        | refine wpList_load_row rfl 28 _ rfl _ rfl 28 _ _ _ q Tryz.underlying28 rfl (by rw [ints_size, hcl]; rfl) ?_
        | refine wpList_load_row rfl 28 _ rfl _ rfl 28 _ _ _ qS Tryz.underlying28 rfl (by rw [ints_size, hcl]; rfl) ?_
        | (refine KB.out.mono ?_; rintro e w7 ⟨rfl, hB7⟩; refine Hid.out ?_))
      refine hid ?_
      have r7 := hbel hB7 rS (hlt rS)
      have q7 := hbel hB7 qS (hlt qS)
      have hB7' := hwS.trans (hB7.mono hwS.size)
      have ho := all_oneCell_toArray (ints_one .u8 D2)
      clear KB hB7 q r qS rS hwS
      go_wp2_with (first | refine wpList_store_row rfl 28 _ _ rfl _ _ rfl rfl 28 _ q7 (by rw [Tryz.size28, ints_size, hcl2]) (by rw [ints_size, ints_size, hcl2, hcl]) ho ?_)
      go_roundw
      case rel => exact ⟨j + 1, by omega, by go_num, (by rw [HX2.out]; exact (setRow_other _ _ _ _ (by omega)).trans r7), (by rw [HD2.out]; exact dig_set q7), below_setRow hB7' (by omega) _⟩
      case measure => simp [intOf]; omega
    · obtain rfl : j = 256 := by omega
      rw [empH_full] at r
      go_wp2
      go_ret
      exact ⟨_, rfl, Nat.le_refl _, r, hB⟩
end Go.Proofs.YtbjahdbmkcamoaaGreatDoor
