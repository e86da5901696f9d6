import Derived.Test.YtbjahdbmkcamoaaGreatDoorVd9
namespace Go.Proofs.YtbjahdbmkcamoaaGreatDoor
set_option linter.unusedVariables false
set_option linter.unusedSimpArgs false
open Go.RowKit
attribute [local go_sem ↓] Go.wp_at_zero Go.wp_at_succ

/-- The bit i of a key. -/
def bitK (k : List Int) (i : Nat) : Int := k.getD (i / 8) 0 / 2 ^ (7 - i % 8) % 2
def Byts (zs : List Int) : Prop := ∀ x ∈ zs, 0 ≤ x ∧ x < 256
theorem Byts.get {zs : List Int} (h : Byts zs) (j : Nat) : 0 ≤ zs.getD j 0 ∧ zs.getD j 0 < 256 := by
  by_cases hj : j < zs.length
  · rw [List.getD_eq_getElem?_getD, List.getElem?_eq_getElem hj]; exact h _ (List.getElem_mem hj)
  · rw [List.getD_eq_getElem?_getD, List.getElem?_eq_none (by omega)]; simp
theorem and_one_nat : ∀ n, n < 256 → bits .and .i64 (wrap64 ((n : Nat) : Int)) 1 = ((n % 2 : Nat) : Int) := by decide +kernel
theorem and_one {x : Int} (h0 : 0 ≤ x) (h1 : x < 256) : bits .and .i64 (wrap64 x) 1 = x % 2 := by
  obtain ⟨n, rfl⟩ := Int.eq_ofNat_of_zero_le h0
  rw [and_one_nat n (by omega)]; rfl
theorem shr_bd {x : Int} (h0 : 0 ≤ x) (h1 : x < 256) (p : Nat) : 0 ≤ x / 2 ^ p ∧ x / 2 ^ p < 256 := by
  have hp : (0 : Int) < 2 ^ p := Int.pow_pos (by decide)
  refine ⟨Int.ediv_nonneg h0 (by omega), Int.lt_of_le_of_lt (Int.ediv_le_self _ h0) h1⟩
theorem bitK_01 (k : List Int) (i : Nat) : bitK k i = 0 ∨ bitK k i = 1 := by unfold bitK; omega
set_option maxRecDepth 100000 in
set_option maxHeartbeats 400000 in
theorem Bit_in (w : World) (k : List Int) (hk : k.length = 32) (hb : Byts k) (i : Nat) (hi : i < 256) :
    Calls Tryz.prog 75 #[.agg (ints .u8 k).toArray, .int .i64 i] w fun e w' => e = .returned (.int .i64 (bitK k i)) ∧ Below w.heap.size w w' := by
  have i1 : (i : Int) < 256 := by omega
  have hx := hb.get (i / 8)
  go_enter Tryz.func75, Tryz.ntmps75
  have c0 : (w.alloc (.cells (ints .u8 k).toArray 24)).cell? ⟨w.heap.size, i / 8, none⟩ = some (.int .u8 (k.getD (i / 8) 0)) := cell_ints (hnew w _) (i / 8) (by omega)
  go_wp2
  go_ret
  refine ⟨?_, (Below.refl _ _).alloc (Nat.le_refl _) _⟩
  simp only [List.getD_eq_getElem?_getD] at hx
  have hs := shr_bd hx.1 hx.2 (7 - i % 8)
  have := and_one hs.1 hs.2
  simp only [Array.getD]
  exact congrArg (fun z => Ending.returned (Value.int .i64 z)) (by rw [this]; simp [bitK])

/-- One step up: beside the empty subtree of its height. -/
def stepD (k : Int) (ks : List Int) (h : Nat) (d : List Int) : List Int := if bitK ks (255 - h) = 0 then branchD k d (emptyD k h) else branchD k (emptyD k h) d
/-- So many steps up from a height. -/
def climbTo (k : Int) (ks : List Int) (a : Nat) (d : List Int) : Nat → List Int
  | 0 => d
  | j + 1 => stepD k ks (a + j) (climbTo k ks a d j)
def climbD (k : Int) (ks : List Int) (a : Nat) (d : List Int) (c : Nat) : List Int := if c ≤ a then cutZ d (kept k) else climbTo k ks a d (c - a)
theorem stepD_len (k : Int) (ks : List Int) (h : Nat) (d : List Int) : (stepD k ks h d).length = 32 := by unfold stepD; split <;> exact branchD_len _ _ _
theorem climbTo_len (k : Int) (ks : List Int) (a : Nat) (d : List Int) (h : d.length = 32) : ∀ j, (climbTo k ks a d j).length = 32
  | 0 => h
  | j + 1 => stepD_len _ _ _ _
theorem climbD_len (k : Int) (ks : List Int) (a : Nat) (d : List Int) (c : Nat) (h : d.length = 32) : (climbD k ks a d c).length = 32 := by
  unfold climbD; split
  · exact cutZ_len _ _ h
  · exact climbTo_len _ _ _ _ h _
theorem empty_to (w : World) (hG : Glob w) (k h : Int) (D : List Int) (hD : emptyD k (hgt h) = D) :
    Calls Tryz.prog 67 #[.int .i64 k, .int .i64 h] w fun e w' => e = .returned (.agg (ints .u8 D).toArray) ∧ Below w.heap.size w w' := by
  rw [← hD]; exact empty_any w hG k h

end Go.Proofs.YtbjahdbmkcamoaaGreatDoor
