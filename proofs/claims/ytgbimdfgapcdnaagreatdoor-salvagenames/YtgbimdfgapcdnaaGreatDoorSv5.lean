import Derived.Test.YtgbimdfgapcdnaaGreatDoorSv4
import Derived.Test.YtgbimdfgapcdnaaGreatDoorNk
namespace Go.Proofs.YtgbimdfgapcdnaaGreatDoor
set_option linter.unusedVariables false
set_option linter.unusedSimpArgs false
open Go.RowKit
attribute [local go_sem ↓] Go.wp_at_zero Go.wp_at_succ

/-- An image in memory, with what lies behind it. -/
def IM (w : World) (g : Nat) (rest : List Value) (L : List Int) : Prop := w.heap[g]? = some (.cells (ints .u8 L ++ rest).toArray 5 (0, 0))
theorem IM.cell {w : World} {g : Nat} {rest : List Value} {L : List Int} (h : IM w g rest L) (j : Nat) (hj : j < L.length) : w.cell? ⟨g, j, none⟩ = some (.int .u8 (L.getD j 0)) := by
  rw [cell_of_row _ _ _ _ _ _ h, List.getElem?_toArray, List.getElem?_append_left (by rw [ints_len]; exact hj), ints_get _ _ _ hj]
theorem IM.froz {w : World} {g : Nat} {rest : List Value} {L : List Int} (h : IM w g rest L) (j : Nat) : w.frozen? ⟨g, j, none⟩ = false := frozen_of_row _ _ _ _ _ h
theorem IM.set {w : World} {g : Nat} {rest : List Value} {L : List Int} (h : IM w g rest L) (j : Nat) (hj : j < L.length) (x : Int) : IM (w.setCell ⟨g, j, none⟩ (.int .u8 x)) g rest (L.set j x) := by
  refine (heap_setCell_same _ _ _ _ _ _ h).trans ?_
  rw [List.setIfInBounds_toArray, List.set_append, if_pos (by rw [ints_len]; exact hj)]
  simp [ints, List.map_set]
theorem IM.src {w : World} {g : Nat} {rest : List Value} {L : List Int} (h : IM w g rest L) (o : Nat) (ho : o + 256 ≤ L.length) : Src w (some ⟨g, o, none⟩) 256 ((L.drop o).take 256) := by
  have hl : ((L.drop o).take 256).length = 256 := by simp; omega
  refine ⟨by omega, by simp [maxLen], g, o, fun _ => hlt h, fun _ => rfl, fun j hj => ?_⟩
  rw [hl] at hj
  rw [h.cell (o + j) (by omega), List.getD_eq_getElem?_getD, List.getD_eq_getElem?_getD, List.getElem?_take, if_pos hj, List.getElem?_drop]
theorem IM.below {w w1 : World} {g : Nat} {rest : List Value} {L : List Int} (h : IM w g rest L) (hB : Below w.heap.size w w1) : IM w1 g rest L := (hB.block g (hlt h)).trans h
set_option maxRecDepth 100000 in
set_option maxHeartbeats 1000000 in
theorem turn_sv (w : World) (g : Nat) (rest : List Value) (L : List Int) (hI : IM w g rest L) (c o : Nat) (hc : c < 512) (ho : o + 256 ≤ L.length) :
    Calls Tryz.prog 40 #[.slice (some ⟨g, o, none⟩) 256 256, .int .i64 c] w fun e w' => e = .returned (.tuple #[]) ∧ IM w' g rest (L.set (o + c / 8) (bits .xor .u8 (L.getD (o + c / 8) 0) (2 ^ (c % 8) % 256))) ∧ Keeps g w w' := by
  have hj : o + c / 8 < L.length := by omega
  have hcl := hI.cell _ hj
  have hfz := hI.froz (o + c / 8)
  have HR := hid (And.intro (hI.set _ hj (bits .xor .u8 (L.getD (o + c / 8) 0) (2 ^ (c % 8) % 256))) ((Keeps.refl g w).setCell (o + c / 8) (.int .u8 (bits .xor .u8 (L.getD (o + c / 8) 0) (2 ^ (c % 8) % 256)))))
  have i0 : (c : Int) < 512 := by omega
  have i1 : c / 8 < 256 := by omega
  have e1 : (c : Int) / 8 = ((c / 8 : Nat) : Int) := by omega
  have e2 : (c : Int) % 8 = ((c % 8 : Nat) : Int) := by omega
  generalize c / 8 = q at *
  generalize c % 8 = r at *
  generalize L.getD (o + q) 0 = y at *
  clear hc ho hj hI
  go_enter Tryz.func40, Tryz.ntmps40
  go_wp2
  go_region
  go_end0
  exact ⟨rfl, HR.out.1, HR.out.2.drew⟩
/-- A page of zeros with one bit turned. -/
def bitP (c : Nat) : List Int := (zz 256).set (c / 8) ((2 ^ (c % 8) : Nat) : Int)
theorem bitP_bad : ∀ c, c < 512 → (unSuperF (bitP c)).2 ≠ 0 := by
  have h : (List.range 512).all (fun c => (unSuperF (bitP c)).2 != 0) = true := by decide +kernel
  intro c hc
  have := List.all_eq_true.1 h c (List.mem_range.2 hc)
  simpa using this
theorem zz_bad : (unSuperF (zz 256)).2 ≠ 0 := by decide +kernel
theorem xor_on : ∀ r, r < 8 → bits .xor .u8 0 ((2 : Int) ^ r % 256) = ((2 ^ r : Nat) : Int) := by decide
theorem xor_off : ∀ r, r < 8 → bits .xor .u8 ((2 ^ r : Nat) : Int) ((2 : Int) ^ r % 256) = 0 := by decide
theorem bitP_byts (c : Nat) : Byts (bitP c) := by
  intro x hx
  rcases List.mem_or_eq_of_mem_set hx with q | q
  · have := List.eq_of_mem_replicate q; omega
  · have : (2 : Nat) ^ (c % 8) < 256 := Nat.lt_of_lt_of_le (Nat.pow_lt_pow_right (by decide) (Nat.mod_lt _ (by decide) : c % 8 < 8)) (by decide)
    generalize (2 : Nat) ^ (c % 8) = z at *
    omega
theorem zz_byts (n : Nat) : Byts (zz n) := fun x hx => by have := List.eq_of_mem_replicate hx; omega
set_option maxRecDepth 100000 in
set_option maxHeartbeats 1000000 in
theorem stands_no (w : World) (q g : Nat) (rest : List Value) (L P : List Int) (o : Nat) (hq : w.cell? ⟨q, 0, none⟩ = some (.slice (some ⟨g, o, none⟩) 256 256)) (hI : IM w g rest L) (ho : o + 256 ≤ L.length) (hP : (L.drop o).take 256 = P) (h8 : Byts P) (hb : (unSuperF P).2 ≠ 0) :
    Calls Tryz.prog 21 #[.pointer (some ⟨q, 0, none⟩)] w fun e w' => e = .returned (.bool false) ∧ Below w.heap.size w w' := by
  have hl : P.length = 256 := by rw [← hP]; simp; omega
  have HU := hid (by have := unSuper_any w P h8 (some ⟨g, o, none⟩) 256 (hP ▸ hI.src o ho); rw [hl] at this; exact this)
  have hb1 : ((unSuperF P).2 == 0) = false := by simpa using hb
  generalize (unSuperF P).2 = n at *
  generalize (unSuperF P).1 = s at *
  unfold supC at HU
  generalize s.wd = s1 at *
  generalize s.ge = s2 at *
  generalize s.ma = s3 at *
  generalize s.hd = s4 at *
  generalize s.pg = s5 at *
  clear hP hI hl
  go_enter Tryz.func21, Tryz.ntmps21
  go_wp2_with fail
  refine HU.out.mono ?_
  rintro e w1 ⟨rfl, hB⟩
  go_wp2
  go_ret
  exact ⟨rfl, hB.alloc hB.size _⟩
end Go.Proofs.YtgbimdfgapcdnaaGreatDoor
