import Derived.Test.YtihkjfbhmlfonaaE4a
import Derived.Great.BuildSlice
namespace Go.Proofs.Ytihkjfbhmlfonaa
set_option linter.unusedVariables false
set_option linter.unusedSimpArgs false
open Go.RowKit
attribute [local go_sem ↓] Go.wp_at_zero Go.wp_at_succ

theorem DK.c0 {w : World} {base : Nat} {P : DP} {D : DS} (h : DK w base P D) : w.cell? ⟨P.p, 0, none⟩ = some (.int .i64 D.reads) := by rw [cell_of_row _ _ _ _ _ _ h.cell]; rfl
theorem DK.c1 {w : World} {base : Nat} {P : DP} {D : DS} (h : DK w base P D) : w.cell? ⟨P.p, 1, none⟩ = some (.int .i64 D.writes) := by rw [cell_of_row _ _ _ _ _ _ h.cell]; rfl
theorem DK.c2 {w : World} {base : Nat} {P : DP} {D : DS} (h : DK w base P D) : w.cell? ⟨P.p, 2, none⟩ = some (.int .i64 D.syncs) := by rw [cell_of_row _ _ _ _ _ _ h.cell]; rfl
theorem DK.c3 {w : World} {base : Nat} {P : DP} {D : DS} (h : DK w base P D) : w.cell? ⟨P.p, 3, none⟩ = some (.int .i64 D.ops.length) := by rw [cell_of_row _ _ _ _ _ _ h.cell]; rfl
theorem DK.c4 {w : World} {base : Nat} {P : DP} {D : DS} (h : DK w base P D) : w.cell? ⟨P.p, 4, none⟩ = some (.slice (some ⟨P.g, 0, none⟩) D.img.length P.gc) := by rw [cell_of_row _ _ _ _ _ _ h.cell]; rfl
theorem DK.c5 {w : World} {base : Nat} {P : DP} {D : DS} (h : DK w base P D) : w.cell? ⟨P.p, 5, none⟩ = some P.ov := by rw [cell_of_row _ _ _ _ _ _ h.cell]; rfl
theorem DK.c6 {w : World} {base : Nat} {P : DP} {D : DS} (h : DK w base P D) : w.cell? ⟨P.p, 6, none⟩ = some (.map (some P.m)) := by rw [cell_of_row _ _ _ _ _ _ h.cell]; rfl
theorem DK.c7 {w : World} {base : Nat} {P : DP} {D : DS} (h : DK w base P D) : w.cell? ⟨P.p, 7, none⟩ = some (.bool D.power) := by rw [cell_of_row _ _ _ _ _ _ h.cell]; rfl
theorem DK.c8 {w : World} {base : Nat} {P : DP} {D : DS} (h : DK w base P D) : w.cell? ⟨P.p, 8, none⟩ = some (.int .i64 D.armed) := by rw [cell_of_row _ _ _ _ _ _ h.cell]; rfl
theorem DK.c9 {w : World} {base : Nat} {P : DP} {D : DS} (h : DK w base P D) : w.cell? ⟨P.p, 9, none⟩ = some (.int .i64 D.epoch) := by rw [cell_of_row _ _ _ _ _ _ h.cell]; rfl
theorem DK.fz {w : World} {base : Nat} {P : DP} {D : DS} (h : DK w base P D) (k : Nat) : w.frozen? ⟨P.p, k, none⟩ = false := frozen_of_row _ _ _ _ _ h.cell
/-- A cell of the disk's own block is written. -/
theorem DK.put {w : World} {base : Nat} {P : DP} {D D' : DS} (h : DK w base P D) (k : Nat) (v : Value) (hc : (dcells P D).setIfInBounds k v = dcells P D') (hi : D'.img = D.img) (ho : D'.ops = D.ops) : DK (w.setCell ⟨P.p, k, none⟩ v) base P D' := by
  have hne : ∀ i, i ≠ P.p → (w.setCell ⟨P.p, k, none⟩ v).heap[i]? = w.heap[i]? := fun i hi => heap_setCell_other w _ i v hi
  refine ⟨?_, ?_, ?_, h.gm, ?_, ?_, ?_, h.bp, h.bg, h.bm⟩
  · rw [heap_setCell_same _ _ _ _ _ _ h.cell, ← hc]
  · rw [hne _ h.pg.symm, hi]; exact h.im
  · rw [hi]; exact h.gl
  · rw [ho]; exact ownsRow_heap h.opn fun i e => hne i (fun q => h.po (q ▸ e))
  · rw [ho]; exact ownsMap_heap h.mp (hne _ h.pm.symm)
  · rw [ho]; exact h.new
theorem DK.hp {w : World} {base : Nat} {P : DP} {D : DS} (h : DK w base P D) : P.p ∈ P.fp := (P.mem _).2 (Or.inl rfl)

set_option maxHeartbeats 400000 in
theorem possible_any (w : World) (n : Int) : Calls Try.prog 31 #[.int .i64 n] w fun e w' => e = .returned (.bool (decide (3 ≤ n ∧ n ≤ 4096))) ∧ w = w' := by
  by_cases h1 : 3 ≤ n
  · by_cases h2 : n ≤ 4096
    · have e : decide (3 ≤ n ∧ n ≤ 4096) = true := by simp [h1, h2]
      rw [e]
      clear e
      go_enter Try.func31, Try.ntmps31
      go_wp2
      go_ret
      exact ⟨rfl, rfl⟩
    · have e : decide (3 ≤ n ∧ n ≤ 4096) = false := by simp [h2]
      rw [e]
      clear e
      go_enter Try.func31, Try.ntmps31
      go_wp2
      go_ret
      exact ⟨rfl, rfl⟩
  · have e : decide (3 ≤ n ∧ n ≤ 4096) = false := by simp [h1]
    rw [e]
    clear e
    go_enter Try.func31, Try.ntmps31
    go_wp2
    go_ret
    exact ⟨rfl, rfl⟩

set_option maxHeartbeats 400000 in
theorem Pages_in (w : World) (base : Nat) (P : DP) (D : DS) (h : DK w base P D) (n : Nat) (hn : D.img.length = 256 * n) (h4 : n ≤ 4096) :
    Calls Try.prog 35 #[.pointer (some ⟨P.p, 0, none⟩)] w fun e w' => e = .returned (.int .i64 n) ∧ w = w' := by
  have c4 := h.c4
  have HN := hid hn
  have hq : ((D.img.length : Nat) : Int).tdiv 256 = (n : Int) := by rw [HN.out, Int.natCast_mul]; exact Int.mul_tdiv_cancel_left _ (by decide)
  have hb : ((D.img.length : Nat) : Int) ≤ 1048576 := by rw [HN.out]; omega
  clear hn
  go_enter Try.func35, Try.ntmps35
  go_wp2
  go_ret
  exact ⟨by go_num, rfl⟩
set_option maxHeartbeats 400000 in
theorem has_in (w : World) (base : Nat) (P : DP) (D : DS) (h : DK w base P D) (n : Nat) (hn : D.img.length = 256 * n) (h4 : n ≤ 4096) (q : Int) :
    Calls Try.prog 74 #[.pointer (some ⟨P.p, 0, none⟩), .int .i64 q] w fun e w' => e = .returned (.bool (decide (0 ≤ q ∧ q < n))) ∧ w = w' := by
  have hP := Pages_in w base P D h n hn h4
  have HP := hid hP
  clear hP hn
  by_cases h1 : 0 ≤ q
  · by_cases h2 : q < n
    · have e : decide (0 ≤ q ∧ q < n) = true := by simp [h1, h2]
      rw [e]
      clear e
      go_enter Try.func74, Try.ntmps74
      go_wp2_with (go_at_call 35; refine HP.out.mono ?_; rintro e w1 ⟨rfl, rfl⟩)
      go_ret
      exact ⟨rfl, rfl⟩
    · have e : decide (0 ≤ q ∧ q < n) = false := by simp [h2]
      rw [e]
      clear e
      go_enter Try.func74, Try.ntmps74
      go_wp2_with (go_at_call 35; refine HP.out.mono ?_; rintro e w1 ⟨rfl, rfl⟩)
      go_ret
      exact ⟨by show Ending.returned (Value.bool (decide (q < (n : Int)))) = _; rw [decide_eq_false (Int.not_lt.2 h2)], rfl⟩
  · have e : decide (0 ≤ q ∧ q < n) = false := by simp [h1]
    rw [e]
    clear e
    go_enter Try.func74, Try.ntmps74
    go_wp2_with (go_at_call 35; refine HP.out.mono ?_; rintro e w1 ⟨rfl, rfl⟩)
    go_ret
    exact ⟨rfl, rfl⟩
set_option maxHeartbeats 400000 in
theorem bytesOf_in (w : World) (base : Nat) (P : DP) (D : DS) (h : DK w base P D) (n : Nat) (hn : D.img.length = 256 * n) (h4 : n ≤ 4096) (q : Nat) (hq : q < n) :
    Calls Try.prog 60 #[.pointer (some ⟨P.p, 0, none⟩), .int .i64 q] w fun e w' => e = .returned (.slice (some ⟨P.g, q * 256, none⟩) 256 (P.gc - q * 256)) ∧ w = w' := by
  have c4 := h.c4
  have gl := h.gl
  have gm := h.gm
  unfold maxLen at gm
  have HN := hid hn
  have hb : ((D.img.length : Nat) : Int) ≤ 1048576 := by rw [HN.out]; omega
  have hb2 : q * 256 + 256 ≤ D.img.length := by rw [HN.out]; omega
  have i1 : (q : Int) < 4096 := by omega
  clear hn
  generalize D.img.length = L at *
  go_enter Try.func60, Try.ntmps60
  go_wp2
  go_ret
  exact ⟨by show Ending.returned (Value.slice _ ((q + 1) * 256 - q * 256) _) = _; rw [show (q + 1) * 256 - q * 256 = 256 by omega], rfl⟩
/-- The document's own limits on a list that is kept. -/
theorem own_empty (w : World) : Own (w.alloc (.cells #[] 5)) w.heap.size (.slice (some ⟨w.heap.size, 0, none⟩) 0 0) [] :=
  ⟨rfl, Or.inr ⟨w.heap.size, 0, #[], rfl, Nat.le_refl _, hnew w _, Nat.le_refl _, by simp [maxLen], rfl, rfl⟩⟩
set_option maxRecDepth 100000 in
set_option maxHeartbeats 400000 in
theorem Clone_any (w : World) (zs : List Int) (sp : Option Addr) (cap : Nat) (hS : Src w sp cap zs) (hnil : sp = none → cap = 0) (hlen : zs.length ≤ 140737488351232) :
    Calls Try.prog 75 #[.slice sp zs.length cap] w fun e w' => ∃ v, e = .returned v ∧ Own w' w.heap.size v zs ∧ Below w.heap.size w w' := by
  have q22 : ∀ (w : World) (a : Option Addr) (n c n' c' : Nat), (binOp .eql 36 (.slice a n c) (.slice none n' c')).run Try.prog w = .ok (.bool a.isNone) w := fun w a n c n' c' => Lib.run_eql_slice_nil w _ _ a n c n' c' Try.underlying36
  cases sp with
  | none =>
    obtain rfl := hnil rfl
    have hz : zs = [] := List.eq_nil_of_length_eq_zero (by have := hS.1; omega)
    subst hz
    go_enter Try.func75, Try.ntmps75
    go_wp2
    go_ret
    exact ⟨_, rfl, Own.nil _ _, Below.refl _ _⟩
  | some a =>
    have hE := own_empty w
    have hS1 := hS.below ((Below.refl w.heap.size w).alloc (Nat.le_refl _) (.cells #[] 5)) (Nat.le_refl _)
    go_enter Try.func75, Try.ntmps75
    go_wp2_with (first | (at_builtin; refine wpList_append_wide rfl (.tmp 5) (.tmp 6) rfl w.heap.size _ [] zs rfl hE (some a) cap rfl (fun h => by cases h) hS1 (by simp; omega) (by simp) ?_; intro v2 w2 hO2 hg2 hd2))
    go_ret
    refine ⟨_, rfl, hO2, ?_⟩
    exact ((Below.refl _ w).alloc (Nat.le_refl _) _).trans (grown_keeps hg2 (fun k e => (hE.block k e).1) (by simp))
/-- The synced bytes as a list that is read. -/
theorem DK.src {w : World} {base : Nat} {P : DP} {D : DS} (h : DK w base P D) (o l : Nat) (cap : Nat) (hl : o + l ≤ D.img.length) (hc : l ≤ cap) (hm : cap ≤ maxLen) : Src w (some ⟨P.g, o, none⟩) cap ((D.img.drop o).take l) := by
  have el : ((D.img.drop o).take l).length = l := by simp; omega
  refine ⟨by omega, hm, P.g, o, fun _ => hlt h.im, fun _ => rfl, fun j hj => ?_⟩
  rw [el] at hj
  rw [cell_of_row _ _ _ _ _ _ h.im, List.getElem?_toArray, List.getElem?_append_left (by rw [ints_len]; omega), ints_get _ _ _ (by omega)]
  simp [List.getElem?_take, hj]
set_option maxHeartbeats 400000 in
theorem Epoch_in (w : World) (base : Nat) (P : DP) (D : DS) (h : DK w base P D) :
    Calls Try.prog 62 #[.pointer (some ⟨P.p, 0, none⟩)] w fun e w' => e = .returned (.int .i64 D.epoch) ∧ w = w' := by
  have c := h.c9
  go_enter Try.func62, Try.ntmps62
  go_wp2
  go_ret
  exact ⟨rfl, rfl⟩
set_option maxHeartbeats 400000 in
theorem Power_in (w : World) (base : Nat) (P : DP) (D : DS) (h : DK w base P D) :
    Calls Try.prog 33 #[.pointer (some ⟨P.p, 0, none⟩)] w fun e w' => e = .returned (.bool D.power) ∧ w = w' := by
  have c := h.c7
  go_enter Try.func33, Try.ntmps33
  go_wp2
  go_ret
  exact ⟨rfl, rfl⟩
/-- Armed with a number. -/
def DS.arm (D : DS) (n : Int) : DS := if D.power then { D with armed := max n 0 } else D
/-- One act. -/
def DS.acted (D : DS) : DS := if D.armed = 0 then D else if D.armed = 1 then { D with armed := 0, power := false } else { D with armed := D.armed - 1 }
def DS.actE (D : DS) : Int := if D.armed = 1 then 2 else 0
set_option maxHeartbeats 400000 in
theorem act_in (w : World) (base : Nat) (P : DP) (D : DS) (h : DK w base P D) (ha : 0 ≤ D.armed ∧ D.armed ≤ 9223372036854775807) :
    Calls Try.prog 59 #[.pointer (some ⟨P.p, 0, none⟩)] w fun e w' => e = .returned (.int .i64 D.actE) ∧ DK w' base P D.acted ∧ Fr P.fp w w' := by
  have c7 := h.c7
  have c8 := h.c8
  have f8 := h.fz 8
  have f7 := h.fz 7
  by_cases h0 : D.armed = 0
  · have e1 : D.actE = 0 := by simp [DS.actE, h0]
    have e2 : D.acted = D := by simp [DS.acted, h0]
    rw [e1, e2]
    rw [h0] at c8
    clear h0 e1 e2
    go_enter Try.func59, Try.ntmps59
    go_wp2
    go_ret
    exact ⟨rfl, h, Fr.refl _ _⟩
  · have hq := h.put (D' := { D with armed := D.armed - 1 }) 8 (.int .i64 (D.armed - 1)) rfl rfl rfl
    have hf := (Fr.refl P.fp w).setCell h.hp 8 (.int .i64 (D.armed - 1))
    by_cases h1 : D.armed = 1
    · have e1 : D.actE = 2 := by simp [DS.actE, h1]
      have e2 : D.acted = { D with armed := 0, power := false } := by simp [DS.acted, h1]
      rw [e1, e2]
      rw [h1] at c8 hq hf
      have q8 := hq.c8
      have q7 := hq.c7
      have g7 := hq.fz 7
      have HQ := hid (hq.put (D' := { D with armed := 0, power := false }) 7 (.bool false) rfl rfl rfl)
      have HF := hid (hf.setCell h.hp 7 (.bool false))
      clear hq hf h1 e1 e2 h0 ha
      simp only at q8 q7
      rw [show (1 : Int) - 1 = 0 from rfl] at *
      go_enter Try.func59, Try.ntmps59
      go_wp2
      go_ret
      exact ⟨rfl, HQ.out, HF.out⟩
    · have e1 : D.actE = 0 := by simp [DS.actE, h1]
      have e2 : D.acted = { D with armed := D.armed - 1 } := by simp [DS.acted, h0, h1]
      rw [e1, e2]
      have q8 := hq.c8
      have HQ := hid hq
      have HF := hid hf
      clear hq hf e1 e2
      simp only at q8
      have i1 : 1 < D.armed := by omega
      generalize D.armed = a at *
      have i2 : (a == 0) = false := by simp; omega
      clear h0 h1
      go_enter Try.func59, Try.ntmps59
      go_wp2
      go_ret
      exact ⟨rfl, HQ.out, HF.out⟩
end Go.Proofs.Ytihkjfbhmlfonaa
namespace Go.Proofs.Ytihkjfbhmlfonaa
set_option linter.unusedVariables false
set_option linter.unusedSimpArgs false
open Go.RowKit
attribute [local go_sem ↓] Go.wp_at_zero Go.wp_at_succ

theorem keyed3 : Maps.Keyed Try.prog 3 := Maps.int_keyed Try.underlying3
/-- clear(m). -/
theorem wpList_clear_own {P : Program} {w : World} {ops : Array Oper} {rest : List Oper} {o : Oper} {a : Act} {Q : Exit → Act → World → Prop} (hg : o.guard = none) (m : Operand) (t : TypeId) (hop : o.op = Op.call { callee := Callee.builtin Builtin.clear, args := #[m], argTypes := #[t] })
    (k e : TypeId) (ht : P.underlying t = some (.map k e)) (R : Value → Option (DataW Unit × List MemPlace)) (b n : Nat) (D : DataW Unit) (hm : a.eval m = .map (some b)) (hown : w.ownsMap P k R b n D)
    (hK : ∀ w', w'.ownsMap P k R b 0 (.map []) → w.grownBy w' (some b) → wpList P ops Q rest (a.put o.dst (.tuple #[])) w') :
    wpList P ops Q (o :: rest) a w := by
  obtain ⟨es, clock, hb, F, _, _⟩ := hown
  refine wpList_plain hg fun K' hK' => ?_
  unfold Oper.wp
  simp [execOp, hop, resolve, invoke, builtin, hm, Builtin.clear_, run_underlying ht, MapKept.run_getObj_map hb, MapKept.run_setObj_map _ hb, Result.andThen]
  have hs := MapKept.heap_set (o' := .map #[] clock) hb
  exact hK' _ _ (hK _ ⟨#[], clock, hs.1, ⟨by simp, MapKept.stamped_empty clock, by simp⟩, Nat.le_refl _, rfl⟩ ⟨rfl, rfl, rfl, by simp, fun i _ hi => hs.2 i (fun e => hi (by rw [e]))⟩)
theorem ownsRow_none (w : World) (base t k : Nat) : w.ownsRow base t k (.slice none 0 0) 0 [] := ⟨by simp, Or.inl ⟨rfl, rfl⟩⟩
theorem DK.drop {w w2 : World} {base : Nat} {P : DP} {D : DS} (h : DK w base P D) (hm : w2.ownsMap (H := Unit) Try.prog 3 (plainElem Try.prog 3) P.m 0 (.map [])) (hg : (w.setCell ⟨P.p, 5, none⟩ (.slice none 0 0)).grownBy w2 (some P.m)) :
    w2.cell? ⟨P.p, 3, none⟩ = some (.int .i64 D.ops.length) ∧ w2.frozen? ⟨P.p, 3, none⟩ = false ∧ DK (w2.setCell ⟨P.p, 3, none⟩ (.int .i64 0)) base { P with ov := .slice none 0 0, M := .map [] } { D with ops := [] } ∧ Fr P.fp w (w2.setCell ⟨P.p, 3, none⟩ (.int .i64 0)) := by
  have h1 : (w.setCell ⟨P.p, 5, none⟩ (.slice none 0 0)).heap[P.p]? = some (.cells ((dcells P D).setIfInBounds 5 (.slice none 0 0)) 53 (0, 0)) := heap_setCell_same _ _ _ _ _ _ h.cell
  have h2 := (hg.block P.p (hlt h1) (fun e => h.pm (Option.some.inj e))).trans h1
  have hne : ∀ i, i ≠ P.p → i ≠ P.m → i < w.heap.size → (w2.setCell ⟨P.p, 3, none⟩ (.int .i64 0)).heap[i]? = w.heap[i]? := fun i a b c => by
    rw [heap_setCell_other w2 _ i _ a, hg.block i (by rw [World.size_setCell]; exact c) (fun e => b (Option.some.inj e)), heap_setCell_other w _ i _ a]
  refine ⟨by rw [cell_of_row _ _ _ _ _ _ h2]; rfl, frozen_of_row _ _ _ _ _ h2, ⟨?_, ?_, h.gl, h.gm, ownsRow_none _ _ _ _, ?_, NewM.nil, h.bp, h.bg, h.bm⟩, ⟨hg.os, hg.tape, hg.output, ?_, ?_⟩⟩
  · rw [heap_setCell_same _ _ _ _ _ _ h2]; rfl
  · rw [hne _ h.pg.symm h.gm' (hlt h.im)]; exact h.im
  · exact ownsMap_heap hm (heap_setCell_other w2 _ _ _ h.pm.symm)
  · rw [World.size_setCell]; have := hg.size; rwa [World.size_setCell] at this
  · intro k hk hn
    exact hne k (fun e => hn ((P.mem k).2 (Or.inl e))) (fun e => hn ((P.mem k).2 (Or.inr (Or.inr (Or.inl e))))) hk
set_option maxHeartbeats 400000 in
theorem dropOpen_in (w : World) (base : Nat) (P : DP) (D : DS) (h : DK w base P D) :
    Calls Try.prog 61 #[.pointer (some ⟨P.p, 0, none⟩)] w fun e w' => e = .returned (.tuple #[]) ∧ DK w' base { P with ov := .slice none 0 0, M := .map [] } { D with ops := [] } ∧ Fr P.fp w w' := by
  have c5 := h.c5
  have f5 := h.fz 5
  have c6 := h.c6
  have hm := h.mp.setCell (a := ⟨P.p, 5, none⟩) h.pm.symm (.slice none 0 0)
  have HD := hid (fun w2 a b => h.drop (w2 := w2) a b)
  have hmp : P.m ≠ P.p := h.pm.symm
  clear h
  obtain ⟨p, g, m, gc, ov, rs, M⟩ := P
  simp only at *
  go_enter Try.func61, Try.ntmps61
  go_wp2_with (refine wpList_clear_own rfl (.tmp 8) 51 rfl 3 3 Try.underlying51 _ m _ _ rfl hm ?_; intro w2 hm2 hg2; obtain ⟨c3, f3, hD, hF⟩ := HD.out w2 hm2 hg2; clear HD)
  go_end0
  exact ⟨rfl, hD, hF⟩
theorem results_c1 {P : Program} {fn : Func} {p : Tmp} {ty : TypeId} (h : fn.results = #[.cell p ty]) (tmps : Array Value) (w : World) (g : Nat) (t : TypeId) (cs : Array Value) (fr : Nat × Nat) (d : TypeDesc)
    (hp : tmps.getD p undef = .pointer (some ⟨g, 0, none⟩)) (hg : w.heap[g]? = some (.cells cs t fr))
    (hu : P.underlying ty = some d) (hd : (match d with | .struct _ | .array _ _ => true | _ => false) = true) (hi : (P.info? ty).map (·.size) = some cs.size) :
    (results fn tmps).run P w = .ok (.agg cs) w := by
  have hp' : tmps[p]?.getD undef = .pointer (some ⟨g, 0, none⟩) := by simpa using hp
  simp [results, h, hp', asAddr, run_loadVar_row w g t ty cs fr d hg hu hd hi]
set_option maxHeartbeats 400000 in
theorem Counts_in (w : World) (base : Nat) (P : DP) (D : DS) (h : DK w base P D) :
    Calls Try.prog 9 #[.pointer (some ⟨P.p, 0, none⟩)] w fun e w' => e = .returned (.agg #[.int .i64 D.reads, .int .i64 D.writes, .int .i64 D.syncs, .int .i64 D.ops.length]) ∧ Below w.heap.size w w' := by
  have c0 := h.c0
  have c1 := h.c1
  have c2 := h.c2
  have c3 := h.c3
  have hlp := hlt h.cell
  go_enter Try.func9, Try.ntmps9
  go_wp2
  refine bodyPost_ret (results_c1 Try.results9 _ _ w.heap.size 46 _ _ _ rfl (hnew w _) Try.underlying46 rfl (by kernel_rfl)) rfl ?_
  exact ⟨rfl, (Below.refl _ w).alloc (Nat.le_refl _) _⟩
theorem buildD (sp : Option Addr) (n c m : Nat) (w : World) :
    (Instr.build 53 #[(1, .slice sp n c), (3, .map (some m)), (4, .bool true)]).run Try.prog w = .ok (.agg #[.int .i64 0, .int .i64 0, .int .i64 0, .int .i64 0, .slice sp n c, .slice none 0 0, .map (some m), .bool true, .int .i64 0, .int .i64 0]) w := by kernel_rfl
/-- A new disk of an image. -/
def newD (img : List Int) : DS := ⟨img, [], true, 0, 0, 0, 0, 0⟩
theorem newD_ok {img : List Int} {n : Nat} (h1 : 3 ≤ n) (h2 : n ≤ 4096) (hi : img.length = 256 * n) (hb : Bts img) : DsOk (newD img) :=
  ⟨⟨n, h1, h2, hi, fun o ho => by cases ho⟩, hb, by simp [newD], by simp [newD], by simp [newD], by simp [newD], by simp [newD], by simp [newD]⟩
set_option maxHeartbeats 400000 in
theorem holding_any (w : World) (base g c : Nat) (img : List Int) (rest : List Value) (hI : w.heap[g]? = some (.cells (ints .u8 img ++ rest).toArray 5 (0, 0))) (hc : img.length ≤ c) (hm : c ≤ maxLen) (hg : base ≤ g) (hb : base ≤ w.heap.size) :
    Calls Try.prog 32 #[.slice (some ⟨g, 0, none⟩) img.length c] w fun e w' => e = .returned (.pointer (some ⟨w.heap.size + 1, 0, none⟩)) ∧ DK w' base ⟨w.heap.size + 1, g, w.heap.size, c, .slice none 0 0, rest, .map []⟩ (newD img) ∧ Below w.heap.size w w' := by
  have hmm := @run_makeMap Try.prog
  have hbd := buildD
  go_enter Try.func32, Try.ntmps32
  go_wp2
  go_ret
  have hB1 : Below w.heap.size w (w.alloc (.map #[] 0)) := (Below.refl _ w).alloc (Nat.le_refl _) _
  have hB2 : ∀ o, Below (w.alloc (.map #[] 0)).heap.size (w.alloc (.map #[] 0)) ((w.alloc (.map #[] 0)).alloc o) := fun o => (Below.refl _ _).alloc (Nat.le_refl _) o
  have hs : (w.alloc (.map #[] 0)).heap.size = w.heap.size + 1 := by simp
  refine ⟨rfl, ⟨?_, ?_, hc, hm, ownsRow_none _ _ _ _, ?_, NewM.nil, by show base ≤ w.heap.size + 1; omega, hg, hb⟩, hB1.alloc (by rw [hs]; omega) _⟩
  · show _ = some (Obj.cells #[_, _, _, _, _, _, _, _, _, _] _ _)
    have := hnew (w.alloc (.map #[] 0)) (.cells #[.int .i64 0, .int .i64 0, .int .i64 0, .int .i64 0, .slice (some ⟨g, 0, none⟩) img.length c, .slice none 0 0, .map (some w.heap.size), .bool true, .int .i64 0, .int .i64 0] 53)
    rw [hs] at this
    exact this
  · exact hold (hold hI)
  · exact ownsMap_heap (World.ownsMap_made w Try.prog 3 _) ((hB2 _).block w.heap.size (by rw [hs]; omega))
theorem hold_to (w : World) (base g c : Nat) (img : List Int) (hl : img.length = c) (hI : w.heap[g]? = some (.cells (ints .u8 img).toArray 5 (0, 0))) (hc : 0 ≤ c) (hm : c ≤ maxLen) (hg : base ≤ g) (hb : base ≤ w.heap.size) :
    Calls Try.prog 32 #[.slice (some ⟨g, 0, none⟩) c c] w fun e w' => e = .returned (.pointer (some ⟨w.heap.size + 1, 0, none⟩)) ∧ DK w' base ⟨w.heap.size + 1, g, w.heap.size, c, .slice none 0 0, [], .map []⟩ (newD img) ∧ Below w.heap.size w w' := by
  have := holding_any w base g c img [] (by rw [List.append_nil]; exact hI) (by omega) hm hg hb
  rw [hl] at this
  exact this
theorem bts_rep (n : Nat) : Bts (List.replicate n 0) := fun x hx => by simp at hx; omega
set_option maxRecDepth 100000 in
set_option maxHeartbeats 400000 in
theorem New_ok (w : World) (n : Nat) (h3 : 3 ≤ n) (h4 : n ≤ 4096) :
    Calls Try.prog 14 #[.int .i64 n] w fun e w' => ∃ p F, e = .returned (.tuple #[.pointer (some ⟨p, 0, none⟩), .int .i64 0]) ∧ DA w' w.heap.size F p (newD (List.replicate (256 * n) 0)) ∧ Below w.heap.size w w' := by
  have HP := hid (possible_any w n)
  have he : decide (3 ≤ (n : Int) ∧ (n : Int) ≤ 4096) = true := decide_eq_true ⟨by omega, by omega⟩
  have HE := hid he
  clear he
  obtain ⟨i5, hi5, hz5, hs5, hy5⟩ := Try.info5
  have HI := hid hi5
  have K1 := hid (show i5.bytes * (n * 256) ≤ 281474976710656 by rw [hy5]; omega)
  have K2 := hid (show n * 256 ≤ maxLen by unfold maxLen; omega)
  have i0 : (n : Int) ≤ 4096 := by omega
  clear hi5
  go_enter Try.func14, Try.ntmps14
  go_wp2_with (first
    | (go_at_call 31; refine HP.out.mono ?_; rintro e w0 ⟨rfl, rfl⟩; rw [HE.out])
    | (refine wpList_make_full _ rfl _ _ 36 rfl w.heap.size 5 i5 (.int .u8 0) 1 Try.underlying36 HI.out hz5 hs5 .i64 .i64 _ _ (n * 256) rfl rfl (by push_cast; rfl) (by push_cast; rfl) K1.out K2.out (Nat.le_refl _) ?_; intro w1 hO1 hg1; have hB1 := grown_keeps hg1 (fun k hk => by cases hk) (Nat.le_refl w.heap.size); have hr1 := made_row hO1; clear hg1 hO1)
    | (go_at_call 32; refine (hold_to w1 w.heap.size w.heap.size (n * 256) (padz [] (n * 256)) (by simp [padz]) hr1 (by omega) (by unfold maxLen; omega) (Nat.le_refl _) hB1.size).mono ?_; rintro e w2 ⟨rfl, hK, hB2⟩))
  go_ret2
  have hz : padz [] (n * 256) = List.replicate (256 * n) 0 := by simp [padz, Nat.mul_comm]
  rw [hz] at hK
  exact ⟨_, _, rfl, ⟨_, rfl, rfl, hK, newD_ok h3 h4 (by simp) (bts_rep _)⟩, hB1.trans (hB2.mono hB1.size)⟩
set_option maxHeartbeats 400000 in
theorem New_no (w : World) (n : Int) (h : n < 3 ∨ 4096 < n) :
    Calls Try.prog 14 #[.int .i64 n] w fun e w' => e = .returned (.tuple #[.pointer none, .int .i64 40]) ∧ w = w' := by
  have HP := hid (possible_any w n)
  have he : decide (3 ≤ (n : Int) ∧ (n : Int) ≤ 4096) = false := decide_eq_false (fun q => by omega)
  have HE := hid he
  clear he
  go_enter Try.func14, Try.ntmps14
  go_wp2_with (go_at_call 31; refine HP.out.mono ?_; rintro e w0 ⟨rfl, rfl⟩; rw [HE.out])
  go_ret2
  exact ⟨rfl, rfl⟩
end Go.Proofs.Ytihkjfbhmlfonaa
namespace Go.Proofs.Ytihkjfbhmlfonaa
set_option linter.unusedVariables false
set_option linter.unusedSimpArgs false
open Go.RowKit
attribute [local go_sem ↓] Go.wp_at_zero Go.wp_at_succ

theorem foldl_set : ∀ (ks : List Value) (n : Nat) (cur : List Value), n + ks.length = cur.length → (ks.zipIdx n).foldl (fun (cs : Array Value) (p : Value × Nat) => cs.setIfInBounds (0 + p.2) p.1) cur.toArray = (cur.take n ++ ks).toArray
  | [], n, cur, h => by simp at h; simp [List.take_of_length_le (Nat.le_of_eq h.symm)]
  | k :: ks, n, cur, h => by
    have h : n + (ks.length + 1) = cur.length := by simpa using h
    rw [List.zipIdx_cons, List.foldl_cons]
    show (ks.zipIdx (n + 1)).foldl _ (cur.toArray.setIfInBounds (0 + n) k) = _
    rw [Nat.zero_add, List.setIfInBounds_toArray, foldl_set ks (n + 1) (cur.set n k) (by simp; omega)]
    rw [List.take_succ_eq_append_getElem (by simp; omega), List.getElem_set_self, List.take_set_of_le (Nat.le_refl _), List.append_assoc]; rfl
theorem fill_one (size : Nat) (zs : Array Value) (ks : List Value) (h1 : ks.length = size) (h2 : zs.size = size) : Instr.fill (fun i => some (i * size, size)) zs [(0, Value.agg ks.toArray)] = some ks.toArray := by
  unfold Instr.fill
  have hc : (Value.agg ks.toArray).cells = ks.toArray := rfl
  simp only [hc, Nat.zero_mul, List.size_toArray, h1, h2, Nat.zero_add]
  rw [if_neg (by simp)]
  unfold Instr.fill
  have e := foldl_set ks 0 zs.toList (by simp [h1, h2])
  simp only [Nat.zero_add] at e
  simp only [List.take_zero, List.nil_append, Array.toArray_toList] at e
  rw [← Array.foldl_toList, Array.toList_zipIdx]
  exact congrArg some e
theorem infoWm : (Try.prog.info? 119).map (fun i => (i.zero.map fun z => z.cells.size, i.size, i.bytes)) = some (some 257, 257, 264) := by kernel_rfl
theorem infoW : ∃ i z, Try.prog.info? 119 = some i ∧ i.zero = some z ∧ z.cells.size = 257 ∧ i.size = 257 ∧ i.bytes = 264 := by
  have h := infoWm
  cases hq : Try.prog.info? 119 with
  | none => rw [hq] at h; cases h
  | some i =>
    rw [hq] at h
    simp only [Option.map_some, Option.some.injEq, Prod.mk.injEq] at h
    obtain ⟨h1, h2, h3⟩ := h
    cases hz : i.zero with
    | none => rw [hz] at h1; cases h1
    | some z =>
      rw [hz] at h1
      exact ⟨i, z, rfl, hz, by simpa using h1, h2, h3⟩
theorem slice_w (ks : List Value) (hk : ks.length = 257) (w : World) :
    (Instr.buildSlice 50 1 #[(0, .agg ks.toArray)]).run Try.prog w = .ok (.slice (some ⟨w.heap.size, 0, none⟩) 1 1) (w.alloc (.cells ks.toArray 119)) := by
  obtain ⟨i, z, hi, hz, hzc, hs, hb⟩ := infoW
  exact run_buildSlice w 50 119 1 _ ks.toArray i z Try.underlying50 hi hz (by rw [hs]; decide) (by rw [hs]; decide) (by rw [hs]; exact fill_one 257 _ ks hk (by simp))
theorem step_sliceW {w : World} {ops : Array Oper} {o : Oper} {a : Act} {K : Act → World → Prop} {Q : Exit → Act → World → Prop} {E : Prop} (hw : Region.wanted o (yielded ops a.tmps) = true) (x : Operand) (ho : o.op = .buildSlice 50 1 #[(0, x)])
    (ks : List Value) (hk : ks.length = 257) (hx : a.eval x = .agg ks.toArray) (h : K (a.put o.dst (.slice (some ⟨w.heap.size, 0, none⟩) 1 1)) (w.alloc (.cells ks.toArray 119))) :
    if Region.wanted o (yielded ops a.tmps) = true then Oper.wp Try.prog o a w K Q else E := by
  rw [if_pos hw]
  unfold Oper.wp execOp
  simp only [ho, List.map_toArray, List.map_cons, List.map_nil, hx, Sem.run_bind, slice_w ks hk w, Result.andThen_ok, Sem.run_pure]
  exact h
/-- append(own row of writes, one more), as a step of a region that draws its order. -/
theorem step_pushW {w : World} {ops : Array Oper} {o : Oper} {a : Act} {K : Act → World → Prop} {Q : Exit → Act → World → Prop} {E : Prop} (hgd : o.guard = none) (s x : Operand)
    (ho : o.op = .call { callee := .builtin .append, args := #[s, x], argTypes := #[50, 50] })
    (base : Nat) (v : Value) (n : Nat) (xs : List Value) (ks : List Value) (hs : a.eval s = v) (hown : w.ownsRow base 119 257 v n xs) (hx : a.eval x = .slice (some ⟨w.heap.size, 0, none⟩) 1 1) (hl : ks.length = 257) (h1 : ∀ y ∈ ks, y.oneCell' = true)
    (hlen : n + 1 ≤ 400000000001) (hbase : base ≤ w.heap.size) (t : TypeId) (fr : Nat × Nat)
    (h : ∀ v' w', w'.ownsRow base 119 257 v' (n + 1) (xs ++ ks) → (w.alloc (.cells ks.toArray t fr)).grownBy w' v.ownBlock → (v'.ownBlock = v.ownBlock ∨ v'.ownBlock = some (w.heap.size + 1)) → K (a.put o.dst v') w') :
    if Region.wanted o (yielded ops a.tmps) = true then Oper.wp Try.prog o a (w.alloc (.cells ks.toArray t fr)) K Q else E := by
  have hw : Region.wanted o (yielded ops a.tmps) = true := by simp [Region.wanted, hgd]
  rw [if_pos hw]
  obtain ⟨i5, z, hi5, hz5, hc5, hs5, hy5⟩ := infoW
  have hown' : (w.alloc (.cells ks.toArray t fr)).ownsRow base 119 257 v n xs := ownsRow_heap hown fun k hk => by
    obtain ⟨_, cur, hh⟩ := ownsRow_block hown k hk
    rw [hh]; exact hold hh
  obtain ⟨v', w', hr, q1, q2, _, q4⟩ := run_append_own_at (P := Try.prog) (w.alloc (.cells ks.toArray t fr)) base 50 o.type 119 i5 z 257 264 Try.underlying50 hi5 hz5 hs5 hy5 hc5 (by decide) v n _ hown' ⟨w.heap.size, 0, none⟩ 1 1 ks (by omega) (by
    intro j u hu
    rw [Addr.add_mid, Nat.zero_add, cell_of_row _ _ _ _ _ _ (hnew w _)]
    simpa using hu) h1 (by unfold maxLen; omega) (by omega) (by simp; omega)
  unfold Oper.wp execOp
  simp only [ho, resolve, invoke, builtin, Sem.run_bind, Sem.run_pure, Result.andThen_ok, List.map_toArray, List.map_cons, List.map_nil, hs, hx, hr]
  refine h v' w' q1 q2 ?_
  rcases q4 with e | e
  · exact Or.inl e
  · exact Or.inr (by rw [e]; simp)
/-! A write of zeros. -/
def zW (q : Int) : List Value := .int .i64 q :: ints .u8 (List.replicate 256 0)
theorem zW_len (q : Int) : (zW q).length = 257 := by rw [zW, List.length_cons, ints_len, List.length_replicate]
theorem zW_one (q : Int) : ∀ v ∈ zW q, v.oneCell' = true := by
  intro v hv
  rcases List.mem_cons.1 hv with rfl | h
  · rfl
  · exact ints_one _ _ v h
theorem run_buildW (q : Int) (w : World) : (Instr.build 119 #[(0, .int .i64 q)]).run Try.prog w = .ok (.agg (zW q).toArray) w := by kernel_rfl
theorem run_allocW (a : Act) (o : Oper) (ho : o.op = .alloc 119) (w : World) : (execOp a.eval o).run Try.prog w = .ok (.value (.pointer (some ⟨w.heap.size, 0, none⟩))) (w.alloc (.cells (zW 0).toArray 119)) := by
  unfold execOp
  rw [ho]
  kernel_rfl
theorem wpList_allocW {w : World} {ops : Array Oper} {rest : List Oper} {o : Oper} {a : Act} {Q : Exit → Act → World → Prop} (hg : o.guard = none) (ho : o.op = .alloc 119) (Z : List Value) (hZ : Z = zW 0)
    (h : wpList Try.prog ops Q rest (a.put o.dst (.pointer (some ⟨w.heap.size, 0, none⟩))) (w.alloc (.cells Z.toArray 119))) : wpList Try.prog ops Q (o :: rest) a w := by
  subst hZ
  refine wpList_plain hg fun K hK => ?_
  unfold Oper.wp
  rw [run_allocW a o ho w]
  exact hK _ _ h
theorem wpList_buildW {w : World} {ops : Array Oper} {rest : List Oper} {o : Oper} {a : Act} {Q : Exit → Act → World → Prop} (hg : o.guard = none) (x : Operand) (ho : o.op = .build 119 #[(0, x)]) (q : Int) (hx : a.eval x = .int .i64 q) (Z : List Value) (hZ : Z = zW q)
    (h : wpList Try.prog ops Q rest (a.put o.dst (.agg Z.toArray)) w) : wpList Try.prog ops Q (o :: rest) a w := by
  subst hZ
  refine wpList_plain hg fun K hK => ?_
  unfold Oper.wp execOp
  simp only [ho, List.map_toArray, List.map_cons, List.map_nil, hx, Sem.run_bind, run_buildW q w, Result.andThen_ok, Sem.run_pure]
  exact hK _ _ h
theorem sizeW : (Try.prog.info? 119).map (·.size) = some 257 := by kernel_rfl
end Go.Proofs.Ytihkjfbhmlfonaa
