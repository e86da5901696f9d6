import Derived.Test.YtgbimdfgapcdnaaGreatDoorMa6
namespace Go.Proofs.YtgbimdfgapcdnaaGreatDoor
set_option linter.unusedVariables false
set_option linter.unusedSimpArgs false
open Go.RowKit
attribute [local go_sem ↓] Go.wp_at_zero Go.wp_at_succ

def zz (n : Nat) : List Int := List.replicate n 0
theorem zz_len (n : Nat) : (zz n).length = n := by simp [zz]
/-- What Pack answers, where it lies. -/
def New (w w' : World) (v : Value) (zs : List Int) : Prop := (v = .slice none 0 0 ∧ zs = []) ∨ zs ≠ [] ∧ ∃ g, v = .slice (some ⟨g, 0, none⟩) zs.length zs.length ∧ w.heap.size ≤ g ∧ w'.heap[g]? = some (.cells (ints .u8 zs).toArray 5 (0, 0))
theorem lay_head (k n : Int) : ((zz 252).set 0 k).set 1 n = [k, n] ++ zz 250 := by
  rw [show zz 252 = 0 :: 0 :: zz 250 from rfl]; rfl
theorem lay_num (k n : Int) (ys : List Int) (hy : ys.length = 4) : laidAt ([k, n] ++ zz 250) 2 ys = [k, n] ++ ys ++ zz 246 := by
  unfold laidAt
  rw [hy, show List.take 2 ([k, n] ++ zz 250) = [k, n] from rfl, show [k, n] ++ zz 250 = ([k, n] ++ zz 4) ++ zz 246 from rfl, List.drop_left' (show ([k, n] ++ zz 4).length = 2 + 4 from rfl)]
set_option maxRecDepth 10000 in
theorem lay_load (k n : Int) (ys l : List Int) (hy : ys.length = 4) (hl : l.length ≤ 246) : splice (ints .u8 ([k, n] ++ ys ++ zz 246)) 6 (ints .u8 l) = ints .u8 ([k, n] ++ ys ++ l ++ List.replicate (246 - l.length) 0) := by
  have e : ints .u8 ([k, n] ++ ys ++ zz 246) = ints .u8 ([k, n] ++ ys) ++ ints .u8 (zz 246) := by simp [ints]
  unfold splice
  rw [e, List.take_left' (by rw [ints_len]; simp [hy]), ints_len, ← List.drop_drop, List.drop_left' (by rw [ints_len]; simp [hy])]
  have e2 : (ints .u8 (zz 246)).drop l.length = ints .u8 (List.replicate (246 - l.length) 0) := by
    unfold ints zz
    rw [← List.map_drop, List.drop_replicate]
  rw [e2]
  simp only [ints, List.map_append, List.append_assoc]
theorem New.src {w w' : World} {v : Value} {zs : List Int} (h : New w w' v zs) (hm : zs.length ≤ maxLen) : ∃ sp cap, v = .slice sp zs.length cap ∧ Src w' sp cap zs := by
  rcases h with ⟨rfl, rfl⟩ | ⟨_, g, rfl, hg, hr⟩
  · exact ⟨none, 0, rfl, Src.nil _⟩
  · exact ⟨_, _, rfl, src_rowf hr _ (Nat.le_refl _) hm⟩
end Go.Proofs.YtgbimdfgapcdnaaGreatDoor
