import Derived.Test.YthdjgpdgedhonaaDk26
namespace Go.Proofs.Ythdjgpdgedhonaa
set_option linter.unusedVariables false
set_option linter.unusedSimpArgs false
open Go.RowKit
attribute [local go_sem ↓] Go.wp_at_zero Go.wp_at_succ

/-- The document's reader in memory; its bytes lie below the world w0. -/
structure LM (w0 w : World) (g : Nat) (sp : Option Addr) (cap : Nat) (bs : List Int) (L : Lk) : Prop where
  bel : Below w0.heap.size w0 w
  new : w0.heap.size ≤ g
  row : w.heap[g]? = some (.cells #[.slice sp bs.length cap, .int .i64 L.at_, .bool L.bad] 75 (0, 0))
  src : Src w0 sp cap bs
  pl : L.at_ ≤ bs.length
  bl : bs.length ≤ 140737488351232
theorem LM.lt {w0 w : World} {g : Nat} {sp : Option Addr} {cap : Nat} {bs : List Int} {L : Lk} (h : LM w0 w g sp cap bs L) : g < w.heap.size := hlt h.row
theorem LM.cells {w0 w : World} {g : Nat} {sp : Option Addr} {cap : Nat} {bs : List Int} {L : Lk} (h : LM w0 w g sp cap bs L) : w.cell? ⟨g, 0, none⟩ = some (.slice sp bs.length cap) ∧ w.cell? ⟨g, 1, none⟩ = some (.int .i64 L.at_) ∧ w.cell? ⟨g, 2, none⟩ = some (.bool L.bad) ∧ (∀ j, w.frozen? ⟨g, j, none⟩ = false) := by
  refine ⟨?_, ?_, ?_, fun j => frozen_of_row _ _ _ _ _ h.row⟩ <;> (rw [cell_of_row _ _ _ _ _ _ h.row]; rfl)
theorem LM.keep {w0 w w1 : World} {g : Nat} {sp : Option Addr} {cap : Nat} {bs : List Int} {L : Lk} (h : LM w0 w g sp cap bs L) (k : Below (g + 1) w w1) : LM w0 w1 g sp cap bs L :=
  ⟨h.bel.trans (k.mono (by have := h.new; omega)), h.new, hbel k h.row (by omega), h.src, h.pl, h.bl⟩
theorem LM.keep2 {w0 w w1 : World} {g r : Nat} {sp : Option Addr} {cap : Nat} {bs : List Int} {L : Lk} (h : LM w0 w g sp cap bs L) (k : Keeps r w w1) (hne : g ≠ r) (hr : w0.heap.size ≤ r) : LM w0 w1 g sp cap bs L :=
  ⟨h.bel.trans (k.below_g hr h.bel.size), h.new, k.heap h.row hne, h.src, h.pl, h.bl⟩
theorem heap_setL {w : World} {g t : Nat} {x y z v : Value} (h : w.heap[g]? = some (.cells #[x, y, z] t (0, 0))) : (w.setCell ⟨g, 1, none⟩ v).heap[g]? = some (.cells #[x, v, z] t (0, 0)) ∧ (w.setCell ⟨g, 2, none⟩ v).heap[g]? = some (.cells #[x, y, v] t (0, 0)) := by
  constructor <;> (rw [heap_setCell_same _ _ _ _ _ _ h]; rfl)
theorem LM.bad {w0 w : World} {g : Nat} {sp : Option Addr} {cap : Nat} {bs : List Int} {L : Lk} (h : LM w0 w g sp cap bs L) : LM w0 (w.setCell ⟨g, 2, none⟩ (.bool true)) g sp cap bs ⟨L.at_, true⟩ ∧ Keeps g w (w.setCell ⟨g, 2, none⟩ (.bool true)) :=
  ⟨⟨h.bel.setCell h.new _, h.new, (heap_setL h.row).2, h.src, h.pl, h.bl⟩, (Keeps.refl g w).setCell 2 _⟩
theorem LM.step {w0 w : World} {g : Nat} {sp : Option Addr} {cap : Nat} {bs : List Int} {L : Lk} (h : LM w0 w g sp cap bs L) (n : Nat) (x : Int) (hx : x = ((L.at_ + n : Nat) : Int)) (hb : L.bad = false) (hn : L.at_ + n ≤ bs.length) : LM w0 (w.setCell ⟨g, 1, none⟩ (.int .i64 x)) g sp cap bs ⟨L.at_ + n, false⟩ ∧ Keeps g w (w.setCell ⟨g, 1, none⟩ (.int .i64 x)) := by
  subst hx
  refine ⟨⟨h.bel.setCell h.new _, h.new, ?_, h.src, hn, h.bl⟩, (Keeps.refl g w).setCell 1 _⟩
  have := (heap_setL (v := .int .i64 ((L.at_ + n : Nat) : Int)) h.row).1
  rw [hb] at this
  exact this
theorem LM.drewN {w0 w : World} {g : Nat} {sp : Option Addr} {cap : Nat} {bs : List Int} {L : Lk} (h : LM w0 w g sp cap bs L) (n : Nat) : LM w0 (w.drewN n) g sp cap bs L := ⟨below_drewN h.bel n, h.new, h.row, h.src, h.pl, h.bl⟩
theorem Keeps.drewN {g : Nat} {a b : World} (h : Keeps g a b) (n : Nat) : Keeps g a (b.drewN n) := h.trans ⟨rfl, rfl, rfl, Nat.le_refl _, fun _ _ _ => rfl⟩
theorem below_keepsN (g : Nat) (w : World) (n : Nat) : Keeps g w (w.drewN n) := ⟨rfl, rfl, rfl, Nat.le_refl _, fun _ _ _ => rfl⟩
set_option maxRecDepth 100000 in
set_option maxHeartbeats 800000 in
theorem num_any (w0 w : World) (g : Nat) (sp : Option Addr) (cap : Nat) (bs : List Int) (hy : Bys bs) (L : Lk) (h : LM w0 w g sp cap bs L) (n : Nat) (hn : n ≤ 8) :
    Calls Try.prog 32 #[.pointer (some ⟨g, 0, none⟩), .int .i64 n] w fun e w' => e = .returned (.int .i64 (lkN bs L n)) ∧ LM w0 w' g sp cap bs (lkS bs L n) ∧ Keeps g w w' := by
  obtain ⟨c0, c1, c2, fz⟩ := h.cells
  have hm := h.src.2.1
  have hc := h.src.1
  have hp := h.pl
  have hbl := h.bl
  have i0 : (bs.length : Int) ≤ 140737488351232 := by omega
  have i1 : (L.at_ : Int) ≤ (bs.length : Int) := by omega
  have i2 : (n : Int) ≤ 8 := by omega
  have i3 : (cap : Int) ≤ 9223372036854775807 := by unfold maxLen at hm; omega
  have i4 : (bs.length : Int) ≤ (cap : Int) := by omega
  unfold lkN lkS
  cases hb : L.bad with
  | true =>
    rw [hb] at c2
    simp only [true_or, if_true]
    have H0 := hid (fun k => (h.drewN k).bad)
    clear hb
    go_enter Try.func32, Try.ntmps32
    go_wp2
    go_quiet (fail)
    go_wp2
    go_ret
    exact ⟨rfl, (H0.out _).1, (below_keepsN g w _).trans (H0.out _).2⟩
  | false =>
    rw [hb] at c2
    simp only [Bool.false_eq_true, false_or]
    by_cases hs : bs.length < L.at_ + n
    · simp only [if_pos hs]
      have i5 : (bs.length : Int) < (L.at_ : Int) + (n : Int) := by omega
      have H0 := hid (fun k => (h.drewN k).bad)
      clear hb hs
      generalize L.at_ = a at *
      go_enter Try.func32, Try.ntmps32
      go_wp2
      go_quiet (fail)
      go_wp2
      go_ret
      exact ⟨rfl, (H0.out _).1, (below_keepsN g w _).trans (H0.out _).2⟩
    · simp only [if_neg hs]
      have i5 : ¬ (bs.length : Int) < (L.at_ : Int) + (n : Int) := by omega
      have KH := hid (fun (wc : World) (hb : Below w0.heap.size w0 wc) => High_any wc bs hy sp cap (h.src.below hb (Nat.le_refl _)) L.at_ n hn (by omega))
      have H0 := hid (fun k => (h.drewN k).step n ((L.at_ : Int) + (n : Int)) (by push_cast; rfl) hb (by omega))
      have HB := hid (fun k => below_drewN h.bel k)
      clear hb hs
      go_enter Try.func32, Try.ntmps32
      go_wp2
      go_quiet (fail)
      go_wp2
      go_quiet ((go_at_call 26; exact (KH.out _ (HB.out _)).mono (fun e w' hh => ⟨hh.1, _, hh.2⟩)))
      go_wp2
      go_ret
      exact ⟨rfl, (H0.out _).1, (below_keepsN g w _).trans (H0.out _).2⟩
end Go.Proofs.Ythdjgpdgedhonaa
