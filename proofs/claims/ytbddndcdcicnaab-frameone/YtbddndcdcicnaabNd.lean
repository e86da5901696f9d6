import Derived.Test.YtbddndcdcicnaabNc
namespace Go.Proofs.Ytbddndcdcicnaab
set_option linter.unusedVariables false
set_option linter.unusedSimpArgs false
open Go.RowKit
attribute [local go_sem ↓] Go.wp_at_zero Go.wp_at_succ

/-- A part of a block is written over. -/
def laidAt (os : List Int) (o : Nat) (ys : List Int) : List Int := os.take o ++ ys ++ os.drop (o + ys.length)
theorem laidAt_len (os : List Int) (o : Nat) (ys : List Int) (h : o + ys.length ≤ os.length) : (laidAt os o ys).length = os.length := by simp [laidAt]; omega
theorem laidAt_snoc (os : List Int) (o : Nat) (ys : List Int) (y : Int) (h : o + ys.length < os.length) : (laidAt os o ys).set (o + ys.length) y = laidAt os o (ys ++ [y]) := by
  unfold laidAt
  rw [List.set_append_right _ _ (by simp; omega), show o + ys.length - (os.take o ++ ys).length = 0 by simp; omega, List.drop_eq_getElem_cons (by omega), List.set_cons_zero]
  simp [List.append_assoc, Nat.add_assoc]
set_option maxRecDepth 100000 in
set_option maxHeartbeats 400000 in
theorem lay_any (w : World) (g o n cap : Nat) (t : TypeId) (os : List Int) (v : Int) (hv : 0 ≤ v) (hv2 : v < 9223372036854775808) (hn : n ≤ 8) (hI : w.heap[g]? = some (.cells (ints .u8 os).toArray t (0, 0))) (hfit : o + n ≤ os.length) :
    Calls Try.prog 21 #[.slice (some ⟨g, o, none⟩) n cap, .int .i64 v] w fun e w' => e = .returned (.tuple #[]) ∧ w'.heap[g]? = some (.cells (ints .u8 (laidAt os o (num v n))).toArray t (0, 0)) ∧ Keeps g w w' := by
  have i0 : (n : Int) ≤ 8 := by omega
  go_enter Try.func21, Try.ntmps21
  go_wp2
  go_loopw [7] (fun i wr => ∃ m : Nat, m ≤ n ∧ i = .int .i64 m ∧ wr.heap[g]? = some (.cells (ints .u8 (laidAt os o (num v m))).toArray t (0, 0)) ∧ Keeps g w wr) (fun i _ => n - (intOf i).toNat)
  case atStart => exact ⟨0, by omega, rfl, by simpa [laidAt, num] using hI, Keeps.refl g w⟩
  case round =>
    clear hI
    obtain ⟨m, hm, rfl, hI, hK⟩ := hrel
    by_cases hlt : m < n
    · have i1 : (m : Int) < (n : Int) := by omega
      have hl : (num v m).length = m := num_len v m
      have hc := cell_ints hI (o + m) (by rw [laidAt_len _ _ _ (by omega)]; omega)
      have hfz : wr.frozen? ⟨g, o + m, none⟩ = false := frozen_of_row _ _ _ _ _ hI
      have HS := hid (show (laidAt os o (num v m)).set (o + m) (v / 2 ^ (8 * m) % 256) = laidAt os o (num v (m + 1)) by
        rw [num_snoc v hv m, ← laidAt_snoc _ _ _ _ (by omega), hl, Int.pow_mul]; rfl)
      replace hl := hid hl
      generalize (laidAt os o (num v m)).getD (o + m) 0 = z at *
      go_wp2
      go_roundw
      case rel => exact ⟨m + 1, by omega, by go_num, by rw [← HS.out]; exact heap_set_ints hI _ _, hK.setCell _ _⟩
      case measure => simp [intOf]; omega
    · obtain rfl : m = n := by omega
      clear hlt
      go_wp2
      go_end0
      exact ⟨rfl, hI, hK⟩
end Go.Proofs.Ytbddndcdcicnaab
