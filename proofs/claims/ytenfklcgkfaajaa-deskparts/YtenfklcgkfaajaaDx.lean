import Derived.Test.YtenfklcgkfaajaaDk26
import Derived.Test.YtenfklcgkfaajaaDk7
namespace Go.Proofs.Ytenfklcgkfaajaa
set_option linter.unusedVariables false
set_option linter.unusedSimpArgs false
open Go.RowKit
attribute [local go_sem ↓] Go.wp_at_zero Go.wp_at_succ

/-- The document's reader in memory; its bytes lie below the world w0. -/
structure LM (w0 w : World) (g : Nat) (sp : Option Addr) (cap : Nat) (bs : List Int) (L : Lk) : Prop where
  bel : Below w0.heap.size w0 w
  new : w0.heap.size ≤ g
  row : w.heap[g]? = some (.cells #[.slice sp bs.length cap, .int .i64 L.at_, .bool L.bad] 89 (0, 0))
  src : Src w0 sp cap bs
  pl : L.at_ ≤ bs.length
  bl : bs.length ≤ 140737488351234
theorem LM.lt {w0 w : World} {g : Nat} {sp : Option Addr} {cap : Nat} {bs : List Int} {L : Lk} (h : LM w0 w g sp cap bs L) : g < w.heap.size := hlt h.row
theorem LM.cells {w0 w : World} {g : Nat} {sp : Option Addr} {cap : Nat} {bs : List Int} {L : Lk} (h : LM w0 w g sp cap bs L) : w.cell? ⟨g, 0, none⟩ = some (.slice sp bs.length cap) ∧ w.cell? ⟨g, 1, none⟩ = some (.int .i64 L.at_) ∧ w.cell? ⟨g, 2, none⟩ = some (.bool L.bad) ∧ (∀ j, w.frozen? ⟨g, j, none⟩ = false) := by
  refine ⟨?_, ?_, ?_, fun j => frozen_of_row _ _ _ _ _ h.row⟩ <;> (rw [cell_of_row _ _ _ _ _ _ h.row]; rfl)
theorem LM.keep {w0 w w1 : World} {g : Nat} {sp : Option Addr} {cap : Nat} {bs : List Int} {L : Lk} (h : LM w0 w g sp cap bs L) (k : Below (g + 1) w w1) : LM w0 w1 g sp cap bs L :=
  ⟨h.bel.trans (k.mono (by have := h.new; omega)), h.new, hbel k h.row (by omega), h.src, h.pl, h.bl⟩
theorem LM.keep2 {w0 w w1 : World} {g r : Nat} {sp : Option Addr} {cap : Nat} {bs : List Int} {L : Lk} (h : LM w0 w g sp cap bs L) (k : Keeps r w w1) (hne : g ≠ r) (hr : w0.heap.size ≤ r) : LM w0 w1 g sp cap bs L :=
  ⟨h.bel.trans (k.below_g hr h.bel.size), h.new, k.heap h.row hne, h.src, h.pl, h.bl⟩
theorem heap_setL {w : World} {g t : Nat} {x y z v : Value} (h : w.heap[g]? = some (.cells #[x, y, z] t (0, 0))) : (w.setCell ⟨g, 1, none⟩ v).heap[g]? = some (.cells #[x, v, z] t (0, 0)) ∧ (w.setCell ⟨g, 2, none⟩ v).heap[g]? = some (.cells #[x, y, v] t (0, 0)) := by
  constructor <;> (rw [heap_setCell_same _ _ _ _ _ _ h]; rfl)
theorem LM.bad {w0 w : World} {g : Nat} {sp : Option Addr} {cap : Nat} {bs : List Int} {L : Lk} (h : LM w0 w g sp cap bs L) : LM w0 (w.setCell ⟨g, 2, none⟩ (.bool true)) g sp cap bs ⟨L.at_, true⟩ ∧ Keeps g w (w.setCell ⟨g, 2, none⟩ (.bool true)) :=
  ⟨⟨h.bel.setCell h.new _, h.new, (heap_setL h.row).2, h.src, h.pl, h.bl⟩, (Keeps.refl g w).setCell 2 _⟩
theorem LM.step {w0 w : World} {g : Nat} {sp : Option Addr} {cap : Nat} {bs : List Int} {L : Lk} (h : LM w0 w g sp cap bs L) (n : Nat) (x : Int) (hx : x = ((L.at_ + n : Nat) : Int)) (hb : L.bad = false) (hn : L.at_ + n ≤ bs.length) : LM w0 (w.setCell ⟨g, 1, none⟩ (.int .i64 x)) g sp cap bs ⟨L.at_ + n, false⟩ ∧ Keeps g w (w.setCell ⟨g, 1, none⟩ (.int .i64 x)) := by
  subst hx
  refine ⟨⟨h.bel.setCell h.new _, h.new, ?_, h.src, hn, h.bl⟩, (Keeps.refl g w).setCell 1 _⟩
  have := (heap_setL (v := .int .i64 ((L.at_ + n : Nat) : Int)) h.row).1
  rw [hb] at this
  exact this
theorem LM.drewN {w0 w : World} {g : Nat} {sp : Option Addr} {cap : Nat} {bs : List Int} {L : Lk} (h : LM w0 w g sp cap bs L) (n : Nat) : LM w0 (w.drewN n) g sp cap bs L := ⟨below_drewN h.bel n, h.new, h.row, h.src, h.pl, h.bl⟩
theorem Keeps.drewN {g : Nat} {a b : World} (h : Keeps g a b) (n : Nat) : Keeps g a (b.drewN n) := h.trans ⟨rfl, rfl, rfl, Nat.le_refl _, fun _ _ _ => rfl⟩
theorem below_keepsN (g : Nat) (w : World) (n : Nat) : Keeps g w (w.drewN n) := ⟨rfl, rfl, rfl, Nat.le_refl _, fun _ _ _ => rfl⟩
set_option maxRecDepth 100000 in
set_option maxHeartbeats 800000 in
theorem num_any (w0 w : World) (g : Nat) (sp : Option Addr) (cap : Nat) (bs : List Int) (hy : Bys bs) (L : Lk) (h : LM w0 w g sp cap bs L) (n : Nat) (hn : n ≤ 8) :
    Calls Try.prog 31 #[.pointer (some ⟨g, 0, none⟩), .int .i64 n] w fun e w' => e = .returned (.int .i64 (lkN bs L n)) ∧ LM w0 w' g sp cap bs (lkS bs L n) ∧ Keeps g w w' := by
  obtain ⟨c0, c1, c2, fz⟩ := h.cells
  have hm := h.src.2.1
  have hc := h.src.1
  have hp := h.pl
  have hbl := h.bl
  have i0 : (bs.length : Int) ≤ 140737488351234 := by omega
  have i1 : (L.at_ : Int) ≤ (bs.length : Int) := by omega
  have i2 : (n : Int) ≤ 8 := by omega
  have i3 : (cap : Int) ≤ 9223372036854775807 := by unfold maxLen at hm; omega
  have i4 : (bs.length : Int) ≤ (cap : Int) := by omega
  unfold lkN lkS
  cases hb : L.bad with
  | true =>
    rw [hb] at c2
    simp only [true_or, if_true]
    have H0 := hid (fun k => (h.drewN k).bad)
    clear hb
    go_enter Try.func31, Try.ntmps31
    go_wp2
    go_quiet (fail)
    go_wp2
    go_ret
    exact ⟨rfl, (H0.out _).1, (below_keepsN g w _).trans (H0.out _).2⟩
  | false =>
    rw [hb] at c2
    simp only [Bool.false_eq_true, false_or]
    by_cases hs : bs.length < L.at_ + n
    · simp only [if_pos hs]
      have i5 : (bs.length : Int) < (L.at_ : Int) + (n : Int) := by omega
      have H0 := hid (fun k => (h.drewN k).bad)
      clear hb hs
      generalize L.at_ = a at *
      go_enter Try.func31, Try.ntmps31
      go_wp2
      go_quiet (fail)
      go_wp2
      go_ret
      exact ⟨rfl, (H0.out _).1, (below_keepsN g w _).trans (H0.out _).2⟩
    · simp only [if_neg hs]
      have i5 : ¬ (bs.length : Int) < (L.at_ : Int) + (n : Int) := by omega
      have KH := hid (fun (wc : World) (hb : Below w0.heap.size w0 wc) => High_any wc bs hy sp cap (h.src.below hb (Nat.le_refl _)) L.at_ n hn (by omega))
      have H0 := hid (fun k => (h.drewN k).step n ((L.at_ : Int) + (n : Int)) (by push_cast; rfl) hb (by omega))
      have HB := hid (fun k => below_drewN h.bel k)
      clear hb hs
      go_enter Try.func31, Try.ntmps31
      go_wp2
      go_quiet (fail)
      go_wp2
      go_quiet ((go_at_call 34; exact (KH.out _ (HB.out _)).mono (fun e w' hh => ⟨hh.1, _, hh.2⟩)))
      go_wp2
      go_ret
      exact ⟨rfl, (H0.out _).1, (below_keepsN g w _).trans (H0.out _).2⟩
end Go.Proofs.Ytenfklcgkfaajaa
namespace Go.Proofs.Ytenfklcgkfaajaa
set_option linter.unusedVariables false
set_option linter.unusedSimpArgs false
open Go.RowKit
attribute [local go_sem ↓] Go.wp_at_zero Go.wp_at_succ

set_option maxRecDepth 100000 in
set_option maxHeartbeats 2000000 in
theorem some_any (w0 w : World) (g : Nat) (sp : Option Addr) (cap : Nat) (bs : List Int) (L : Lk) (h : LM w0 w g sp cap bs L) (n : Nat) (hn : n ≤ 140737488351234) :
    Calls Try.prog 53 #[.pointer (some ⟨g, 0, none⟩), .int .i64 n] w fun e w' => ∃ v, e = .returned v ∧ Own w' w.heap.size v (lkC bs L n) ∧ LM w0 w' g sp cap bs (lkS bs L n) ∧ Keeps g w w' := by
  obtain ⟨c0, c1, c2, fz⟩ := h.cells
  have hm := h.src.2.1
  have hc := h.src.1
  have hp := h.pl
  have hbl := h.bl
  have i0 : (bs.length : Int) ≤ 140737488351234 := by omega
  have i1 : (L.at_ : Int) ≤ (bs.length : Int) := by omega
  have i2 : (n : Int) ≤ 140737488351234 := by omega
  have i3 : (cap : Int) ≤ 9223372036854775807 := by unfold maxLen at hm; omega
  have i4 : (bs.length : Int) ≤ (cap : Int) := by omega
  unfold lkC lkS
  cases hb : L.bad with
  | true =>
    rw [hb] at c2
    simp only [true_or, if_true]
    have H0 := hid (fun k => (h.drewN k).bad)
    clear hb
    go_enter Try.func53, Try.ntmps53
    go_wp2
    go_quiet (fail)
    go_wp2
    go_ret
    exact ⟨_, rfl, Own.nil _ _, (H0.out _).1, (below_keepsN g w _).trans (H0.out _).2⟩
  | false =>
    rw [hb] at c2
    simp only [Bool.false_eq_true, false_or]
    by_cases hs : bs.length < L.at_ + n
    · simp only [if_pos hs]
      have i5 : (bs.length : Int) < (L.at_ : Int) + (n : Int) := by omega
      have H0 := hid (fun k => (h.drewN k).bad)
      clear hb hs
      generalize L.at_ = a at *
      go_enter Try.func53, Try.ntmps53
      go_wp2
      go_quiet (fail)
      go_wp2
      go_ret
      exact ⟨_, rfl, Own.nil _ _, (H0.out _).1, (below_keepsN g w _).trans (H0.out _).2⟩
    · simp only [if_neg hs]
      have i5 : ¬ (bs.length : Int) < (L.at_ : Int) + (n : Int) := by omega
      have hs2 : L.at_ + n ≤ bs.length := by omega
      have HB := hid hb
      have H2 := hid hs2
      have HS := hid h.src
      have D0 := hid (fun k => (show LM w0 (w.drewN k) g sp cap bs L ∧ Keeps g w (w.drewN k) from ⟨h.drewN k, below_keepsN g w k⟩))
      clear hb hs
      go_enter Try.func53, Try.ntmps53
      go_wp2
      go_quiet (fail)
      go_wp2
      have d1 := D0.out nq
      generalize w.drewN nq = w1 at *
      refine wp_region_noPanic ?_
      refine wp_region_held_drew (S := (fun w' => LM w0 w' g sp cap bs L ∧ Keeps g w w')) (by kernel_rfl) ⟨d1.1.drewN 1, d1.2.drewN 1⟩ (fun hHeld => ?_)
      refine wpAnyH_take (i := 0) (oi := { dst := some 27, op := Op.move (Operand.tmp 0), type := 87, pos := "ledgerref20.go:288", after := #[], guard := none }) (v := .pointer (some ⟨g, 0, none⟩)) rfl (by kernel_rfl) (by kernel_rfl) (by kernel_rfl) (fun _ _ _ h => h) (Or.inl ⟨by rfl, by intro w hS; go_simp⟩) hHeld ?_
      try simp only [Act.put, List.setIfInBounds_toArray, List.set_cons_zero, List.set_cons_succ]
      refine wpAnyH_take (i := 4) (oi := { dst := some 31, op := Op.move (Operand.tmp 0), type := 87, pos := "ledgerref20.go:288", after := #[], guard := none }) (v := .pointer (some ⟨g, 0, none⟩)) rfl (by kernel_rfl) (by kernel_rfl) (by kernel_rfl) (fun _ _ _ h => h) (Or.inl ⟨by rfl, by intro w hS; go_simp⟩) hHeld ?_
      try simp only [Act.put, List.setIfInBounds_toArray, List.set_cons_zero, List.set_cons_succ]
      refine wpAnyH_take (i := 8) (oi := { dst := some 35, op := Op.move (Operand.tmp 1), type := 3, pos := "ledgerref20.go:288", after := #[], guard := none }) (v := .int .i64 n) rfl (by kernel_rfl) (by kernel_rfl) (by kernel_rfl) (fun _ _ _ h => h) (Or.inl ⟨by rfl, by intro w hS; go_simp⟩) hHeld ?_
      try simp only [Act.put, List.setIfInBounds_toArray, List.set_cons_zero, List.set_cons_succ]
      refine wpAnyH_take (i := 1) (oi := { dst := some 28, op := Op.nilCheck (Operand.tmp 27), type := 0, pos := "ledgerref20.go:288", after := #[{ on := 0, ground := Ground.data }], guard := none }) (v := .pointer (some ⟨g, 0, none⟩)) rfl (by kernel_rfl) (by kernel_rfl) (by kernel_rfl) (fun _ _ _ h => h) (Or.inl ⟨by rfl, by intro w hS; go_simp⟩) hHeld ?_
      try simp only [Act.put, List.setIfInBounds_toArray, List.set_cons_zero, List.set_cons_succ]
      refine wpAnyH_take (i := 5) (oi := { dst := some 32, op := Op.nilCheck (Operand.tmp 31), type := 0, pos := "ledgerref20.go:288", after := #[{ on := 4, ground := Ground.data }], guard := none }) (v := .pointer (some ⟨g, 0, none⟩)) rfl (by kernel_rfl) (by kernel_rfl) (by kernel_rfl) (fun _ _ _ h => h) (Or.inl ⟨by rfl, by intro w hS; go_simp⟩) hHeld ?_
      try simp only [Act.put, List.setIfInBounds_toArray, List.set_cons_zero, List.set_cons_succ]
      refine wpAnyH_take (i := 2) (oi := { dst := some 29, op := Op.fieldAddr 89 (Operand.tmp 28) 0, type := 0, pos := "ledgerref20.go:288", after := #[{ on := 1, ground := Ground.data }], guard := none }) (v := .pointer (some ⟨g, 0, none⟩)) rfl (by kernel_rfl) (by kernel_rfl) (by kernel_rfl) (fun _ _ _ h => h) (Or.inl ⟨by rfl, by intro w hS; go_simp⟩) hHeld ?_
      try simp only [Act.put, List.setIfInBounds_toArray, List.set_cons_zero, List.set_cons_succ]
      refine wpAnyH_take (i := 6) (oi := { dst := some 33, op := Op.fieldAddr 89 (Operand.tmp 32) 1, type := 0, pos := "ledgerref20.go:288", after := #[{ on := 5, ground := Ground.data }], guard := none }) (v := .pointer (some ⟨g, 1, none⟩)) rfl (by kernel_rfl) (by kernel_rfl) (by kernel_rfl) (fun _ _ _ h => h) (Or.inl ⟨by rfl, by intro w hS; go_simp⟩) hHeld ?_
      try simp only [Act.put, List.setIfInBounds_toArray, List.set_cons_zero, List.set_cons_succ]
      refine wpAnyH_take (i := 3) (oi := { dst := some 30, op := Op.load 22 (Operand.tmp 29), type := 22, pos := "ledgerref20.go:288", after := #[{ on := 2, ground := Ground.data }], guard := none }) (v := .slice sp bs.length cap) rfl (by kernel_rfl) (by kernel_rfl) (by kernel_rfl) (fun _ _ _ h => h) (Or.inl ⟨by rfl, by intro w hS; have hc := hS.1.cells.1; go_simp⟩) hHeld ?_
      try simp only [Act.put, List.setIfInBounds_toArray, List.set_cons_zero, List.set_cons_succ]
      refine wpAnyH_take (i := 7) (oi := { dst := some 34, op := Op.load 3 (Operand.tmp 33), type := 3, pos := "ledgerref20.go:288", after := #[{ on := 6, ground := Ground.data }], guard := none }) (v := .int .i64 L.at_) rfl (by kernel_rfl) (by kernel_rfl) (by kernel_rfl) (fun _ _ _ h => h) (Or.inl ⟨by rfl, by intro w hS; have hc := hS.1.cells.2.1; go_simp⟩) hHeld ?_
      try simp only [Act.put, List.setIfInBounds_toArray, List.set_cons_zero, List.set_cons_succ]
      refine wpAnyH_ready (rs := [9]) (by kernel_rfl) (by simp) ?_
      refine (AllReadyH.cons (o := { dst := some 36, op := Op.call { callee := Callee.value (Operand.func 33), args := #[Operand.tmp 30, Operand.tmp 34, Operand.tmp 35], argTypes := #[22, 3, 3] }, type := 22, pos := "ledgerref20.go:288", after := #[{ on := 3, ground := Ground.data }, { on := 7, ground := Ground.data }, { on := 8, ground := Ground.data }], guard := none }) rfl (fun K hK => ?_) AllReadyH.nil)
      go_simp
      go_at_call 33
      refine (cut_to _ bs sp cap (HS.out.below hHeld.1.bel (Nat.le_refl _)) L.at_ n _ _ rfl rfl H2.out (by omega)).mono ?_
      rintro e w4 ⟨v4, rfl, O4, hb4⟩
      replace O4 := own_lower O4 hHeld.2.size
      have O5 := O4
      go_wp2_with fail
      refine hK.out _ _ (⟨hHeld.1.keep (hb4.mono hHeld.1.lt), hHeld.2.trans_b hb4⟩) (fun hHeld2 => ?_)
      clear hK K hHeld
      have hHeld := hHeld2
      clear hHeld2
      try simp only [Act.put, List.setIfInBounds_toArray, List.set_cons_zero, List.set_cons_succ]
      refine wpAnyH_take (i := 10) (oi := { dst := some 5, op := Op.assign (Operand.tmp 36), type := 22, pos := "ledgerref20.go:288", after := #[{ on := 9, ground := Ground.data }, { on := 9, ground := Ground.chain }, { on := 0, ground := Ground.phase }, { on := 1, ground := Ground.phase }, { on := 2, ground := Ground.phase }, { on := 3, ground := Ground.phase }, { on := 4, ground := Ground.phase }, { on := 5, ground := Ground.phase }, { on := 6, ground := Ground.phase }, { on := 7, ground := Ground.phase }, { on := 8, ground := Ground.phase }, { on := 9, ground := Ground.phase }], guard := none }) (v := v4) rfl (by kernel_rfl) (by kernel_rfl) (by kernel_rfl) (fun _ _ _ h => h) (Or.inl ⟨by rfl, by intro w hS; go_simp⟩) hHeld ?_
      try simp only [Act.put, List.setIfInBounds_toArray, List.set_cons_zero, List.set_cons_succ]
      refine wpAnyH_done (by kernel_rfl) ?_ _
      refine NoPanic.normal ?_
      obtain ⟨e0, e1, e2, ez⟩ := hHeld.1.cells
      have HX := hid (hHeld.1.step n ((L.at_ : Int) + (n : Int)) (by push_cast; rfl) HB.out H2.out)
      go_wp2
      go_ret
      exact ⟨_, rfl, own_far O5 hHeld.1.row (by decide) HX.out.2, HX.out.1, hHeld.2.trans HX.out.2⟩
theorem allocA32 (a : Act) (o : Oper) (w : World) (ho : o.op = .alloc 25) : (execOp a.eval o).run Try.prog w = .ok (.value (.pointer (some ⟨w.heap.size, 0, none⟩))) (w.alloc (.cells (ints .u8 z32).toArray 25)) := by
  unfold execOp
  rw [ho]
  kernel_rfl
theorem Try.sizeA32 : (Try.prog.info? 25).map (·.size) = some 32 := by kernel_rfl
theorem lkR_pad (bs : List Int) (L : Lk) : lkR bs L = padz (lkC bs L 32) 32 ∧ ((lkC bs L 32).length = 0 ∨ (lkC bs L 32).length = 32) := by
  unfold lkR lkC
  split
  · exact ⟨by simp [padz, z32], Or.inl rfl⟩
  · rename_i hc
    have hl : (cutL bs L.at_ 32).length = 32 := cutL_len bs L.at_ 32 (by
      rcases Nat.lt_or_ge bs.length (L.at_ + 32) with h | h
      · exact absurd (Or.inr h) hc
      · exact h)
    exact ⟨(padz_full _ _ hl).symm, Or.inr hl⟩
theorem lkR_len (bs : List Int) (L : Lk) : (lkR bs L).length = 32 := by
  obtain ⟨e, h⟩ := lkR_pad bs L
  rw [e, padz_len _ _ (by omega)]
set_option maxRecDepth 100000 in
set_option maxHeartbeats 2000000 in
theorem row_any (w0 w : World) (g : Nat) (sp : Option Addr) (cap : Nat) (bs : List Int) (L : Lk) (h : LM w0 w g sp cap bs L) :
    Calls Try.prog 52 #[.pointer (some ⟨g, 0, none⟩)] w fun e w' => e = .returned (.agg (ints .u8 (lkR bs L)).toArray) ∧ LM w0 w' g sp cap bs (lkS bs L 32) ∧ Keeps g w w' := by
  have hg := h.lt
  have hb1 := (Below.refl w.heap.size w).alloc (Nat.le_refl _) (.cells (ints .u8 z32).toArray 25)
  have hr1 := hnew w (.cells (ints .u8 z32).toArray 25)
  have h1 := h.keep (hb1.mono hg)
  have KS := hid (some_any w0 _ g sp cap bs L h1 32 (by omega))
  obtain ⟨eR, hlen⟩ := lkR_pad bs L
  rw [eR]
  generalize lkS bs L 32 = L1 at *
  generalize lkC bs L 32 = c at *
  clear eR h
  go_enter Try.func52, Try.ntmps52
  go_wp2_with (first | (refine wpList_allocV allocA32 rfl rfl ?_))
  refine KS.out.mono ?_
  clear KS
  generalize w.alloc (.cells (ints .u8 z32).toArray 25) = w1 at *
  rintro e w2 ⟨v2, rfl, O2, hM2, hk2⟩
  have hr2 := hk2.heap hr1 (by omega)
  have q2 : Keeps g w w2 := (Keeps.of_below hb1).trans hk2
  have hb3 := (Below.refl w2.heap.size w2).alloc (Nat.le_refl _) (.cells (ints .u8 z32).toArray 25)
  have hr3 := hnew w2 (.cells (ints .u8 z32).toArray 25)
  have O3 := O2.below hb3 (Nat.le_refl _)
  have M3 := hM2.keep (hb3.mono hM2.lt)
  have q3 := q2.trans_b hb3
  have a3 := hbel hb3 hr2 (hlt hr2)
  have hz2 := hlt hr2
  have hg2 := hM2.lt
  clear hb1 hr1 h1 hk2 hr2 O2 hM2 q2 hb3
  go_wp2_with (first | (refine wpList_allocV allocA32 rfl rfl ?_; refine Hid.out ?_))
  refine hid ?_
  generalize w2.alloc (.cells (ints .u8 z32).toArray 25) = w3 at *
  have hz3 : padz ([] : List Int) 32 = z32 := by simp [padz, z32]
  have P3 : w3.heap[w2.heap.size]? = some (.cells (ints .u8 (padz (c.take 0) 32)).toArray 25 (0, 0)) := by rw [List.take_zero, hz3]; exact hr3
  clear hr3 hz3
  obtain ⟨sv, cv, rfl, _, _⟩ := O3.form
  have i0 : (c.length : Int) ≤ 32 := by omega
  go_wp2
  go_loopw [5] (fun i wr => ∃ k : Nat, k ≤ c.length ∧ i = .int .i64 k ∧ wr.heap[w2.heap.size]? = some (.cells (ints .u8 (padz (c.take k) 32)).toArray 25 (0, 0)) ∧ Own wr w1.heap.size (.slice sv c.length cv) c ∧ LM w0 wr g sp cap bs L1 ∧ wr.heap[w.heap.size]? = some (.cells (ints .u8 z32).toArray 25 (0, 0)) ∧ Keeps g w wr) (fun i _ => c.length - (intOf i).toNat)
  case atStart => exact ⟨0, Nat.zero_le _, rfl, P3, O3, M3, a3, q3⟩
  case round =>
    clear P3 O3 M3 a3 q3
    obtain ⟨k, hk, rfl, hr, hO, hM, ha, hq⟩ := hrel
    by_cases hlt' : k < c.length
    · have htl : (c.take k).length = k := by rw [List.length_take]; omega
      have hps := padz_set (c.take k) 32 (c.getD k 0) (by omega)
      rw [htl, ← show c.take (k + 1) = c.take k ++ [c.getD k 0] by rw [List.take_succ_eq_append_getElem hlt', List.getD_eq_getElem?_getD, List.getElem?_eq_getElem hlt']; rfl] at hps
      have hcl := cell_ints hr k (by rw [padz_len _ _ (by omega)]; omega)
      have fz : wr.frozen? ⟨w2.heap.size, k, none⟩ = false := frozen_of_row _ _ _ _ _ hr
      have hq' := heap_set_ints hr k (c.getD k 0)
      rw [hps] at hq'
      have kk : Keeps w2.heap.size wr (wr.setCell ⟨w2.heap.size, k, none⟩ (.int .u8 (c.getD k 0))) := (Keeps.refl _ _).setCell k _
      have hO' := own_far hO hr (by decide) kk
      have hM' := hM.keep2 kk (by omega) (by have := hM.new; omega)
      have ha' := kk.heap ha (by omega)
      have q' : Keeps g w (wr.setCell ⟨w2.heap.size, k, none⟩ (.int .u8 (c.getD k 0))) := ⟨kk.os.trans hq.os, kk.tape.trans hq.tape, kk.output.trans hq.output, Nat.le_trans hq.size kk.size, fun i hi hn => (kk.block i (Nat.lt_of_lt_of_le hi hq.size) (by omega)).trans (hq.block i hi hn)⟩
      obtain ⟨s', c', es, hS, _⟩ := hO.form
      simp only [Value.slice.injEq, true_and] at es
      obtain ⟨rfl, rfl⟩ := es
      obtain ⟨_, _, b', o', _, hsp, hsrc⟩ := hS
      obtain rfl := hsp (by omega)
      have cc := hsrc k hlt'
      have i1 : (k : Int) < (c.length : Int) := by omega
      have i2 : (k : Int) < 32 := by omega
      have HH := hid (And.intro hq' (And.intro hO' (And.intro hM' (And.intro ha' q'))))
      clear hq' hO' hM' ha' q' hr hO hM ha hq hps htl hsrc hsp kk
      generalize c.getD k 0 = x at *
      generalize (padz (c.take k) 32).getD k 0 = y at *
      go_wp2
      go_roundw
      case rel => exact ⟨k + 1, by omega, by go_num, HH.out.1, HH.out.2.1, HH.out.2.2.1, HH.out.2.2.2.1, HH.out.2.2.2.2⟩
      case measure => simp [intOf]; omega
    · obtain rfl : k = c.length := by omega
      rw [List.take_length] at hr
      have HL := hid (show (padz c 32).length = 32 from padz_len _ _ (by omega))
      have R1 := hid hr
      have R2 := hid ha
      have S1 := hid (show (Try.prog.info? 25).map (·.size) = some (ints .u8 (padz c 32)).toArray.size by rw [ints_size, HL.out]; exact Try.sizeA32)
      have S2 := hid (show (Try.prog.info? 25).map (·.size) = some (ints .u8 (padz c 32)).length by rw [ints_len, HL.out]; exact Try.sizeA32)
      have S3 := hid (show (ints .u8 z32).length = (ints .u8 (padz c 32)).length by rw [ints_len, ints_len, HL.out, z32_len])
      clear hlt' hr ha hO
      go_wp2_with (first | (refine wpList_load_row rfl 25 _ rfl w2.heap.size rfl 25 _ (0, 0) _ R1.out Try.underlying25 rfl S1.out ?_) | (refine wpList_storeRowW rfl 25 _ _ rfl w.heap.size (ints .u8 (padz c 32)) rfl rfl 25 _ R2.out S2.out S3.out (ints_one _ _) ?_; intro wz hrz hkz))
      refine bodyPost_ret (results_c1 Try.results52 _ _ w.heap.size 25 _ (0, 0) _ rfl hrz Try.underlying25 rfl S1.out) rfl ⟨rfl, hM.keep2 hkz (by omega) (by have := hM.new; omega), ?_⟩
      exact ⟨hkz.os.trans hq.os, hkz.tape.trans hq.tape, hkz.output.trans hq.output, Nat.le_trans hq.size hkz.size, fun i hi hn => (hkz.block i (Nat.lt_of_lt_of_le hi hq.size) (by omega)).trans (hq.block i hi hn)⟩
end Go.Proofs.Ytenfklcgkfaajaa
namespace Go.Proofs.Ytenfklcgkfaajaa
set_option linter.unusedVariables false
set_option linter.unusedSimpArgs false
open Go.RowKit
attribute [local go_sem ↓] Go.wp_at_zero Go.wp_at_succ

set_option maxRecDepth 100000 in
set_option maxHeartbeats 800000 in
theorem yes_any (w0 w : World) (g : Nat) (sp : Option Addr) (cap : Nat) (bs : List Int) (hy : Bys bs) (L : Lk) (h : LM w0 w g sp cap bs L) :
    Calls Try.prog 50 #[.pointer (some ⟨g, 0, none⟩)] w fun e w' => e = .returned (.bool (lyV bs L)) ∧ LM w0 w' g sp cap bs (lyS bs L) ∧ Keeps g w w' := by
  have KN := hid (num_any w0 w g sp cap bs hy L h 1 (by omega))
  unfold lyV lyS
  generalize lkN bs L 1 = x at *
  generalize lkS bs L 1 = L1 at *
  clear h
  by_cases hx : 1 < x
  · simp only [if_pos hx]
    go_enter Try.func50, Try.ntmps50
    go_wp2_with fail
    refine KN.out.mono ?_
    rintro e w1 ⟨rfl, hM, hk⟩
    obtain ⟨c0, c1, c2, fz⟩ := hM.cells
    have HX := hid hM.bad
    clear KN
    go_wp2
    go_ret
    exact ⟨rfl, HX.out.1, hk.trans HX.out.2⟩
  · simp only [if_neg hx]
    go_enter Try.func50, Try.ntmps50
    go_wp2_with fail
    refine KN.out.mono ?_
    rintro e w1 ⟨rfl, hM, hk⟩
    clear KN
    go_wp2
    go_ret
    exact ⟨rfl, hM, hk⟩
theorem lkN_bd {bs : List Int} (hy : Bys bs) (L : Lk) (n : Nat) (hn : n ≤ 7) : 0 ≤ lkN bs L n ∧ lkN bs L n < 256 ^ n := by
  unfold lkN
  split
  · exact ⟨Int.le_refl _, by rw [← pw256]; exact Int.natCast_pos.2 (Nat.pow_pos (by omega))⟩
  · have := leN_small (cutL_bys hy L.at_ n) n (by unfold cutL; rw [List.length_take]; omega) hn
    unfold hiL; rw [this.2.2]; exact ⟨this.1, this.2.1⟩
set_option maxRecDepth 100000 in
set_option maxHeartbeats 800000 in
theorem count_any (w0 w : World) (g : Nat) (sp : Option Addr) (cap : Nat) (bs : List Int) (hy : Bys bs) (L : Lk) (h : LM w0 w g sp cap bs L) :
    Calls Try.prog 54 #[.pointer (some ⟨g, 0, none⟩)] w fun e w' => e = .returned (.int .i64 (lcV bs L)) ∧ LM w0 w' g sp cap bs (lcS bs L) ∧ Keeps g w w' := by
  have KN := hid (num_any w0 w g sp cap bs hy L h 4 (by omega))
  have hb := (lkN_bd hy L 4 (by omega)).1
  unfold lcV lcS
  generalize lkN bs L 4 = x at *
  generalize lkS bs L 4 = L1 at *
  clear h
  by_cases hx : 4096 < x
  · simp only [if_pos hx]
    go_enter Try.func54, Try.ntmps54
    go_wp2_with fail
    refine KN.out.mono ?_
    rintro e w1 ⟨rfl, hM, hk⟩
    obtain ⟨c0, c1, c2, fz⟩ := hM.cells
    have HX := hid hM.bad
    clear KN
    go_wp2
    go_ret
    exact ⟨rfl, HX.out.1, hk.trans HX.out.2⟩
  · simp only [if_neg hx]
    rw [Int.toNat_of_nonneg hb]
    go_enter Try.func54, Try.ntmps54
    go_wp2_with fail
    refine KN.out.mono ?_
    rintro e w1 ⟨rfl, hM, hk⟩
    clear KN
    go_wp2
    go_ret
    exact ⟨rfl, hM, hk⟩
set_option maxRecDepth 100000 in
set_option maxHeartbeats 800000 in
theorem lval_any (w0 w : World) (g : Nat) (sp : Option Addr) (cap : Nat) (bs : List Int) (hy : Bys bs) (L : Lk) (h : LM w0 w g sp cap bs L) :
    Calls Try.prog 51 #[.pointer (some ⟨g, 0, none⟩)] w fun e w' => ∃ v, e = .returned v ∧ Own w' w.heap.size v (lvV bs L) ∧ LM w0 w' g sp cap bs (lvS bs L) ∧ Keeps g w w' := by
  have KN := hid (num_any w0 w g sp cap bs hy L h 2 (by omega))
  have hb := (lkN_bd hy L 2 (by omega)).1
  unfold lvV lvS
  by_cases hx : 128 < lkN bs L 2
  · simp only [if_pos hx]
    generalize lkN bs L 2 = x at *
    generalize lkS bs L 2 = L1 at *
    go_enter Try.func51, Try.ntmps51
    go_wp2_with fail
    refine KN.out.mono ?_
    rintro e w1 ⟨rfl, hM, hk⟩
    obtain ⟨c0, c1, c2, fz⟩ := hM.cells
    have HX := hid hM.bad
    clear KN
    go_wp2
    go_ret
    exact ⟨_, rfl, Own.nil _ _, HX.out.1, hk.trans HX.out.2⟩
  · simp only [if_neg hx]
    have KS := hid (fun (w1 : World) (h1 : LM w0 w1 g sp cap bs (lkS bs L 2)) => some_any w0 w1 g sp cap bs (lkS bs L 2) h1 (lkN bs L 2).toNat (by omega))
    rw [Int.toNat_of_nonneg hb] at KS
    generalize lkN bs L 2 = x at *
    generalize lkS bs L 2 = L1 at *
    go_enter Try.func51, Try.ntmps51
    go_wp2_with fail
    refine KN.out.mono ?_
    rintro e w1 ⟨rfl, hM, hk⟩
    clear KN
    go_wp2_with fail
    refine (KS.out w1 hM).mono ?_
    rintro e w2 ⟨v2, rfl, O2, hM2, hk2⟩
    clear KS
    go_wp2
    go_ret
    exact ⟨_, rfl, own_lower O2 hk.size, hM2, hk.trans hk2⟩
end Go.Proofs.Ytenfklcgkfaajaa
