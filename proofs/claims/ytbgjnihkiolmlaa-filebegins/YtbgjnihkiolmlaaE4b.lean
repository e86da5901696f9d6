import Derived.Test.YtbgjnihkiolmlaaE4a
namespace Go.Proofs.Ytbgjnihkiolmlaa
set_option linter.unusedVariables false
set_option linter.unusedSimpArgs false
open Go.RowKit
attribute [local go_sem ↓] Go.wp_at_zero Go.wp_at_succ

theorem DK.c0 {w : World} {base : Nat} {P : DP} {D : DS} (h : DK w base P D) : w.cell? ⟨P.p, 0, none⟩ = some (.int .i64 D.reads) := by rw [cell_of_row _ _ _ _ _ _ h.cell]; rfl
theorem DK.c1 {w : World} {base : Nat} {P : DP} {D : DS} (h : DK w base P D) : w.cell? ⟨P.p, 1, none⟩ = some (.int .i64 D.writes) := by rw [cell_of_row _ _ _ _ _ _ h.cell]; rfl
theorem DK.c2 {w : World} {base : Nat} {P : DP} {D : DS} (h : DK w base P D) : w.cell? ⟨P.p, 2, none⟩ = some (.int .i64 D.syncs) := by rw [cell_of_row _ _ _ _ _ _ h.cell]; rfl
theorem DK.c3 {w : World} {base : Nat} {P : DP} {D : DS} (h : DK w base P D) : w.cell? ⟨P.p, 3, none⟩ = some (.int .i64 D.ops.length) := by rw [cell_of_row _ _ _ _ _ _ h.cell]; rfl
theorem DK.c4 {w : World} {base : Nat} {P : DP} {D : DS} (h : DK w base P D) : w.cell? ⟨P.p, 4, none⟩ = some (.slice (some ⟨P.g, 0, none⟩) D.img.length P.gc) := by rw [cell_of_row _ _ _ _ _ _ h.cell]; rfl
theorem DK.c5 {w : World} {base : Nat} {P : DP} {D : DS} (h : DK w base P D) : w.cell? ⟨P.p, 5, none⟩ = some P.ov := by rw [cell_of_row _ _ _ _ _ _ h.cell]; rfl
theorem DK.c6 {w : World} {base : Nat} {P : DP} {D : DS} (h : DK w base P D) : w.cell? ⟨P.p, 6, none⟩ = some (.map (some P.m)) := by rw [cell_of_row _ _ _ _ _ _ h.cell]; rfl
theorem DK.c7 {w : World} {base : Nat} {P : DP} {D : DS} (h : DK w base P D) : w.cell? ⟨P.p, 7, none⟩ = some (.bool D.power) := by rw [cell_of_row _ _ _ _ _ _ h.cell]; rfl
theorem DK.c8 {w : World} {base : Nat} {P : DP} {D : DS} (h : DK w base P D) : w.cell? ⟨P.p, 8, none⟩ = some (.int .i64 D.armed) := by rw [cell_of_row _ _ _ _ _ _ h.cell]; rfl
theorem DK.c9 {w : World} {base : Nat} {P : DP} {D : DS} (h : DK w base P D) : w.cell? ⟨P.p, 9, none⟩ = some (.int .i64 D.epoch) := by rw [cell_of_row _ _ _ _ _ _ h.cell]; rfl
theorem DK.fz {w : World} {base : Nat} {P : DP} {D : DS} (h : DK w base P D) (k : Nat) : w.frozen? ⟨P.p, k, none⟩ = false := frozen_of_row _ _ _ _ _ h.cell
/-- A cell of the disk's own block is written. -/
theorem DK.put {w : World} {base : Nat} {P : DP} {D D' : DS} (h : DK w base P D) (k : Nat) (v : Value) (hc : (dcells P D).setIfInBounds k v = dcells P D') (hi : D'.img = D.img) (ho : D'.ops = D.ops) : DK (w.setCell ⟨P.p, k, none⟩ v) base P D' := by
  have hne : ∀ i, i ≠ P.p → (w.setCell ⟨P.p, k, none⟩ v).heap[i]? = w.heap[i]? := fun i hi => heap_setCell_other w _ i v hi
  refine ⟨?_, ?_, ?_, h.gm, ?_, ?_, ?_, h.bp, h.bg, h.bm⟩
  · rw [heap_setCell_same _ _ _ _ _ _ h.cell, ← hc]
  · rw [hne _ h.pg.symm, hi]; exact h.im
  · rw [hi]; exact h.gl
  · rw [ho]; exact ownsRow_heap h.opn fun i e => hne i (fun q => h.po (q ▸ e))
  · rw [ho]; exact ownsMap_heap h.mp (hne _ h.pm.symm)
  · rw [ho]; exact h.new
theorem DK.hp {w : World} {base : Nat} {P : DP} {D : DS} (h : DK w base P D) : P.p ∈ P.fp := (P.mem _).2 (Or.inl rfl)

set_option maxHeartbeats 400000 in
theorem possible_any (w : World) (n : Int) : Calls Try.prog 35 #[.int .i64 n] w fun e w' => e = .returned (.bool (decide (3 ≤ n ∧ n ≤ 4096))) ∧ w = w' := by
  by_cases h1 : 3 ≤ n
  · by_cases h2 : n ≤ 4096
    · have e : decide (3 ≤ n ∧ n ≤ 4096) = true := by simp [h1, h2]
      rw [e]
      clear e
      go_enter Try.func35, Try.ntmps35
      go_wp2
      go_ret
      exact ⟨rfl, rfl⟩
    · have e : decide (3 ≤ n ∧ n ≤ 4096) = false := by simp [h2]
      rw [e]
      clear e
      go_enter Try.func35, Try.ntmps35
      go_wp2
      go_ret
      exact ⟨rfl, rfl⟩
  · have e : decide (3 ≤ n ∧ n ≤ 4096) = false := by simp [h1]
    rw [e]
    clear e
    go_enter Try.func35, Try.ntmps35
    go_wp2
    go_ret
    exact ⟨rfl, rfl⟩

set_option maxHeartbeats 400000 in
theorem Pages_in (w : World) (base : Nat) (P : DP) (D : DS) (h : DK w base P D) (n : Nat) (hn : D.img.length = 256 * n) (h4 : n ≤ 4096) :
    Calls Try.prog 22 #[.pointer (some ⟨P.p, 0, none⟩)] w fun e w' => e = .returned (.int .i64 n) ∧ w = w' := by
  have c4 := h.c4
  have HN := hid hn
  have hq : ((D.img.length : Nat) : Int).tdiv 256 = (n : Int) := by rw [HN.out, Int.natCast_mul]; exact Int.mul_tdiv_cancel_left _ (by decide)
  have hb : ((D.img.length : Nat) : Int) ≤ 1048576 := by rw [HN.out]; omega
  clear hn
  go_enter Try.func22, Try.ntmps22
  go_wp2
  go_ret
  exact ⟨by go_num, rfl⟩
set_option maxHeartbeats 400000 in
theorem has_in (w : World) (base : Nat) (P : DP) (D : DS) (h : DK w base P D) (n : Nat) (hn : D.img.length = 256 * n) (h4 : n ≤ 4096) (q : Int) :
    Calls Try.prog 53 #[.pointer (some ⟨P.p, 0, none⟩), .int .i64 q] w fun e w' => e = .returned (.bool (decide (0 ≤ q ∧ q < n))) ∧ w = w' := by
  have hP := Pages_in w base P D h n hn h4
  have HP := hid hP
  clear hP hn
  by_cases h1 : 0 ≤ q
  · by_cases h2 : q < n
    · have e : decide (0 ≤ q ∧ q < n) = true := by simp [h1, h2]
      rw [e]
      clear e
      go_enter Try.func53, Try.ntmps53
      go_wp2_with (go_at_call 22; refine HP.out.mono ?_; rintro e w1 ⟨rfl, rfl⟩)
      go_ret
      exact ⟨rfl, rfl⟩
    · have e : decide (0 ≤ q ∧ q < n) = false := by simp [h2]
      rw [e]
      clear e
      go_enter Try.func53, Try.ntmps53
      go_wp2_with (go_at_call 22; refine HP.out.mono ?_; rintro e w1 ⟨rfl, rfl⟩)
      go_ret
      exact ⟨by show Ending.returned (Value.bool (decide (q < (n : Int)))) = _; rw [decide_eq_false (Int.not_lt.2 h2)], rfl⟩
  · have e : decide (0 ≤ q ∧ q < n) = false := by simp [h1]
    rw [e]
    clear e
    go_enter Try.func53, Try.ntmps53
    go_wp2_with (go_at_call 22; refine HP.out.mono ?_; rintro e w1 ⟨rfl, rfl⟩)
    go_ret
    exact ⟨rfl, rfl⟩
set_option maxHeartbeats 400000 in
theorem bytesOf_in (w : World) (base : Nat) (P : DP) (D : DS) (h : DK w base P D) (n : Nat) (hn : D.img.length = 256 * n) (h4 : n ≤ 4096) (q : Nat) (hq : q < n) :
    Calls Try.prog 54 #[.pointer (some ⟨P.p, 0, none⟩), .int .i64 q] w fun e w' => e = .returned (.slice (some ⟨P.g, q * 256, none⟩) 256 (P.gc - q * 256)) ∧ w = w' := by
  have c4 := h.c4
  have gl := h.gl
  have gm := h.gm
  unfold maxLen at gm
  have HN := hid hn
  have hb : ((D.img.length : Nat) : Int) ≤ 1048576 := by rw [HN.out]; omega
  have hb2 : q * 256 + 256 ≤ D.img.length := by rw [HN.out]; omega
  have i1 : (q : Int) < 4096 := by omega
  clear hn
  generalize D.img.length = L at *
  go_enter Try.func54, Try.ntmps54
  go_wp2
  go_ret
  exact ⟨by show Ending.returned (Value.slice _ ((q + 1) * 256 - q * 256) _) = _; rw [show (q + 1) * 256 - q * 256 = 256 by omega], rfl⟩
/-- The document's own limits on a list that is kept. -/
theorem own_empty (w : World) : Own (w.alloc (.cells #[] 5)) w.heap.size (.slice (some ⟨w.heap.size, 0, none⟩) 0 0) [] :=
  ⟨rfl, Or.inr ⟨w.heap.size, 0, #[], rfl, Nat.le_refl _, hnew w _, Nat.le_refl _, by simp [maxLen], rfl, rfl⟩⟩
set_option maxRecDepth 100000 in
set_option maxHeartbeats 400000 in
theorem Clone_any (w : World) (zs : List Int) (sp : Option Addr) (cap : Nat) (hS : Src w sp cap zs) (hnil : sp = none → cap = 0) (hlen : zs.length ≤ 140737488351232) :
    Calls Try.prog 55 #[.slice sp zs.length cap] w fun e w' => ∃ v, e = .returned v ∧ Own w' w.heap.size v zs ∧ Below w.heap.size w w' := by
  have q22 : ∀ (w : World) (a : Option Addr) (n c n' c' : Nat), (binOp .eql 22 (.slice a n c) (.slice none n' c')).run Try.prog w = .ok (.bool a.isNone) w := fun w a n c n' c' => Lib.run_eql_slice_nil w _ _ a n c n' c' Try.underlying22
  cases sp with
  | none =>
    obtain rfl := hnil rfl
    have hz : zs = [] := List.eq_nil_of_length_eq_zero (by have := hS.1; omega)
    subst hz
    go_enter Try.func55, Try.ntmps55
    go_wp2
    go_ret
    exact ⟨_, rfl, Own.nil _ _, Below.refl _ _⟩
  | some a =>
    have hE := own_empty w
    have hS1 := hS.below ((Below.refl w.heap.size w).alloc (Nat.le_refl _) (.cells #[] 5)) (Nat.le_refl _)
    go_enter Try.func55, Try.ntmps55
    go_wp2_with (first | (at_builtin; refine wpList_append_wide rfl (.tmp 5) (.tmp 6) rfl w.heap.size _ [] zs rfl hE (some a) cap rfl (fun h => by cases h) hS1 (by simp; omega) (by simp) ?_; intro v2 w2 hO2 hg2 hd2))
    go_ret
    refine ⟨_, rfl, hO2, ?_⟩
    exact ((Below.refl _ w).alloc (Nat.le_refl _) _).trans (grown_keeps hg2 (fun k e => (hE.block k e).1) (by simp))
/-- The synced bytes as a list that is read. -/
theorem DK.src {w : World} {base : Nat} {P : DP} {D : DS} (h : DK w base P D) (o l : Nat) (cap : Nat) (hl : o + l ≤ D.img.length) (hc : l ≤ cap) (hm : cap ≤ maxLen) : Src w (some ⟨P.g, o, none⟩) cap ((D.img.drop o).take l) := by
  have el : ((D.img.drop o).take l).length = l := by simp; omega
  refine ⟨by omega, hm, P.g, o, fun _ => hlt h.im, fun _ => rfl, fun j hj => ?_⟩
  rw [el] at hj
  rw [cell_of_row _ _ _ _ _ _ h.im, List.getElem?_toArray, List.getElem?_append_left (by rw [ints_len]; omega), ints_get _ _ _ (by omega)]
  simp [List.getElem?_take, hj]
set_option maxHeartbeats 400000 in
theorem Image_in (w : World) (base : Nat) (P : DP) (D : DS) (h : DK w base P D) (hs : D.img.length ≤ 1048576) :
    Calls Try.prog 31 #[.pointer (some ⟨P.p, 0, none⟩)] w fun e w' => ∃ v, e = .returned v ∧ Own w' w.heap.size v D.img ∧ Below w.heap.size w w' := by
  have c4 := h.c4
  have hS := h.src 0 D.img.length P.gc (by omega) h.gl h.gm
  rw [List.drop_zero, List.take_length] at hS
  have HC := hid (Clone_any w D.img _ _ hS (fun e => by cases e) (by omega))
  clear hS
  go_enter Try.func31, Try.ntmps31
  go_wp2_with (go_at_call 55; refine HC.out.mono ?_; rintro e w1 ⟨v, rfl, hO, hB⟩)
  go_ret
  exact ⟨_, rfl, hO, hB⟩
set_option maxHeartbeats 400000 in
theorem Epoch_in (w : World) (base : Nat) (P : DP) (D : DS) (h : DK w base P D) :
    Calls Try.prog 15 #[.pointer (some ⟨P.p, 0, none⟩)] w fun e w' => e = .returned (.int .i64 D.epoch) ∧ w = w' := by
  have c := h.c9
  go_enter Try.func15, Try.ntmps15
  go_wp2
  go_ret
  exact ⟨rfl, rfl⟩
set_option maxHeartbeats 400000 in
theorem Power_in (w : World) (base : Nat) (P : DP) (D : DS) (h : DK w base P D) :
    Calls Try.prog 37 #[.pointer (some ⟨P.p, 0, none⟩)] w fun e w' => e = .returned (.bool D.power) ∧ w = w' := by
  have c := h.c7
  go_enter Try.func37, Try.ntmps37
  go_wp2
  go_ret
  exact ⟨rfl, rfl⟩
/-- Armed with a number. -/
def DS.arm (D : DS) (n : Int) : DS := if D.power then { D with armed := max n 0 } else D
set_option maxHeartbeats 400000 in
theorem Arm_in (w : World) (base : Nat) (P : DP) (D : DS) (h : DK w base P D) (n : Int) :
    Calls Try.prog 12 #[.pointer (some ⟨P.p, 0, none⟩), .int .i64 n] w fun e w' => e = .returned (.tuple #[]) ∧ DK w' base P (D.arm n) ∧ Fr P.fp w w' := by
  have c7 := h.c7
  have c8 := h.c8
  have f8 := h.fz 8
  by_cases hp : D.power = true
  · have hd : D.arm n = { D with armed := max n 0 } := by simp [DS.arm, hp]
    have hpp := h.hp
    rw [hd]
    rw [hp] at c7
    clear hd
    by_cases hn : n < 0
    · rw [show max n 0 = 0 by omega]
      have HQ := hid (h.put (D' := { D with armed := 0 }) 8 (.int .i64 0) rfl rfl rfl)
      clear hp
      go_enter Try.func12, Try.ntmps12
      go_wp2
      go_end0
      exact ⟨rfl, HQ.out, (Fr.refl _ w).setCell hpp _ _⟩
    · rw [show max n 0 = n by omega]
      have HQ := hid (h.put (D' := { D with armed := n }) 8 (.int .i64 n) rfl rfl rfl)
      clear hp
      go_enter Try.func12, Try.ntmps12
      go_wp2
      go_end0
      exact ⟨rfl, HQ.out, (Fr.refl _ w).setCell hpp _ _⟩
  · have hd : D.arm n = D := by simp [DS.arm, hp]
    rw [hd]
    simp only [Bool.not_eq_true] at hp
    rw [hp] at c7
    go_enter Try.func12, Try.ntmps12
    go_wp2
    go_end0
    exact ⟨rfl, h, Fr.refl _ _⟩
/-- One act. -/
def DS.acted (D : DS) : DS := if D.armed = 0 then D else if D.armed = 1 then { D with armed := 0, power := false } else { D with armed := D.armed - 1 }
def DS.actE (D : DS) : Int := if D.armed = 1 then 2 else 0
set_option maxHeartbeats 400000 in
theorem act_in (w : World) (base : Nat) (P : DP) (D : DS) (h : DK w base P D) (ha : 0 ≤ D.armed ∧ D.armed ≤ 9223372036854775807) :
    Calls Try.prog 64 #[.pointer (some ⟨P.p, 0, none⟩)] w fun e w' => e = .returned (.int .i64 D.actE) ∧ DK w' base P D.acted ∧ Fr P.fp w w' := by
  have c7 := h.c7
  have c8 := h.c8
  have f8 := h.fz 8
  have f7 := h.fz 7
  by_cases h0 : D.armed = 0
  · have e1 : D.actE = 0 := by simp [DS.actE, h0]
    have e2 : D.acted = D := by simp [DS.acted, h0]
    rw [e1, e2]
    rw [h0] at c8
    clear h0 e1 e2
    go_enter Try.func64, Try.ntmps64
    go_wp2
    go_ret
    exact ⟨rfl, h, Fr.refl _ _⟩
  · have hq := h.put (D' := { D with armed := D.armed - 1 }) 8 (.int .i64 (D.armed - 1)) rfl rfl rfl
    have hf := (Fr.refl P.fp w).setCell h.hp 8 (.int .i64 (D.armed - 1))
    by_cases h1 : D.armed = 1
    · have e1 : D.actE = 2 := by simp [DS.actE, h1]
      have e2 : D.acted = { D with armed := 0, power := false } := by simp [DS.acted, h1]
      rw [e1, e2]
      rw [h1] at c8 hq hf
      have q8 := hq.c8
      have q7 := hq.c7
      have g7 := hq.fz 7
      have HQ := hid (hq.put (D' := { D with armed := 0, power := false }) 7 (.bool false) rfl rfl rfl)
      have HF := hid (hf.setCell h.hp 7 (.bool false))
      clear hq hf h1 e1 e2 h0 ha
      simp only at q8 q7
      rw [show (1 : Int) - 1 = 0 from rfl] at *
      go_enter Try.func64, Try.ntmps64
      go_wp2
      go_ret
      exact ⟨rfl, HQ.out, HF.out⟩
    · have e1 : D.actE = 0 := by simp [DS.actE, h1]
      have e2 : D.acted = { D with armed := D.armed - 1 } := by simp [DS.acted, h0, h1]
      rw [e1, e2]
      have q8 := hq.c8
      have HQ := hid hq
      have HF := hid hf
      clear hq hf e1 e2
      simp only at q8
      have i1 : 1 < D.armed := by omega
      generalize D.armed = a at *
      have i2 : (a == 0) = false := by simp; omega
      clear h0 h1
      go_enter Try.func64, Try.ntmps64
      go_wp2
      go_ret
      exact ⟨rfl, HQ.out, HF.out⟩
end Go.Proofs.Ytbgjnihkiolmlaa
