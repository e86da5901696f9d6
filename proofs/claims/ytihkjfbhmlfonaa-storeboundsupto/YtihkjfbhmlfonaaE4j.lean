import Derived.Test.YtihkjfbhmlfonaaE4i
namespace Go.Proofs.Ytihkjfbhmlfonaa
set_option linter.unusedVariables false
set_option linter.unusedSimpArgs false
open Go.RowKit
attribute [local go_sem ↓] Go.wp_at_zero Go.wp_at_succ

theorem and1_u32 (x : Nat) (hx : x < 4294967296) : bits .and .u32 ((x : Nat) : Int) 1 = ((x % 2 : Nat) : Int) := by
  have h1 : (BitVec.ofInt 32 (x : Int)).toNat = x := by
    rw [BitVec.ofInt_natCast, BitVec.toNat_ofNat]; exact Nat.mod_eq_of_lt (by omega)
  have h2 : (BitVec.ofInt 32 (1 : Int)).toNat = 1 := by decide
  show IntKind.u32.wrap ((BitVec.ofInt 32 (x : Int) &&& BitVec.ofInt 32 (1 : Int)).toNat : Int) = _
  rw [BitVec.toNat_and, h1, h2, IntKind.wrap_u32, Nat.and_one_is_mod]
  omega
theorem bit_u32 (f j : Nat) (hf : f < 4294967296) : (bits .and .u32 ((f : Int) / 2 ^ j) 1 == 1) = f.testBit j := by
  have e : ((f : Int) / 2 ^ j) = ((f / 2 ^ j : Nat) : Int) := by push_cast; rfl
  rw [e, and1_u32 _ (Nat.lt_of_le_of_lt (Nat.div_le_self _ _) hf), ← Nat.toNat_testBit]
  cases f.testBit j <;> rfl
theorem shl8 : ∀ k, k < 8 → IntKind.u8.wrap (2 ^ k) = ((2 ^ k : Nat) : Int) := by decide +kernel
/-- Bits of a page turned. -/
def flipTo (img : List Int) (q bit pat : Nat) : Nat → List Int
  | 0 => img
  | i + 1 => if pat.testBit i then (flipTo img q bit pat i).set (q * 256 + (bit + i) / 8) (bits .xor .u8 ((flipTo img q bit pat i).getD (q * 256 + (bit + i) / 8) 0) ((2 ^ ((bit + i) % 8) : Nat) : Int)) else flipTo img q bit pat i
theorem flipTo_len (img : List Int) (q bit pat : Nat) : ∀ i, (flipTo img q bit pat i).length = img.length
  | 0 => rfl
  | i + 1 => by
    unfold flipTo
    split
    · rw [List.length_set]; exact flipTo_len img q bit pat i
    · exact flipTo_len img q bit pat i
theorem DK.setByte {w : World} {base : Nat} {P : DP} {D : DS} (h : DK w base P D) (j : Nat) (x : Int) (hj : j < D.img.length) : DK (w.setCell ⟨P.g, j, none⟩ (.int .u8 x)) base P { D with img := D.img.set j x } := by
  have hne : ∀ i, i ≠ P.g → (w.setCell ⟨P.g, j, none⟩ (.int .u8 x)).heap[i]? = w.heap[i]? := fun i hi => heap_setCell_other w _ i _ hi
  refine ⟨?_, ?_, by show (D.img.set j x).length ≤ _; rw [List.length_set]; exact h.gl, h.gm, ?_, ownsMap_heap h.mp (hne _ h.gm'.symm), h.new, h.bp, h.bg, h.bm⟩
  · rw [hne _ h.pg, h.cell]
    simp [dcells]
  · rw [heap_setCell_same _ _ _ _ _ _ h.im]
    congr 2
    rw [List.setIfInBounds_toArray, List.set_append_left _ _ (by rw [ints_len]; exact hj)]
    simp [ints, List.map_set]
  · exact ownsRow_heap h.opn fun i e => hne i (fun q => h.go (q ▸ e))
theorem xor_u8 (a b : Nat) (ha : a < 256) (hb : b < 256) : bits .xor .u8 (a : Int) (b : Int) = ((a ^^^ b : Nat) : Int) := by
  have hx : a ^^^ b < 2 ^ 8 := Nat.xor_lt_two_pow (by omega) (by omega)
  have h1 : (BitVec.ofInt 8 (a : Int)).toNat = a := by
    rw [BitVec.ofInt_natCast, BitVec.toNat_ofNat]; exact Nat.mod_eq_of_lt (by omega)
  have h2 : (BitVec.ofInt 8 (b : Int)).toNat = b := by
    rw [BitVec.ofInt_natCast, BitVec.toNat_ofNat]; exact Nat.mod_eq_of_lt (by omega)
  show IntKind.u8.wrap ((BitVec.ofInt 8 (a : Int) ^^^ BitVec.ofInt 8 (b : Int)).toNat : Int) = _
  rw [BitVec.toNat_xor, h1, h2, IntKind.wrap_u8]
  omega
theorem xor_bts {x : Int} (hx : 0 ≤ x ∧ x < 256) (y : Nat) (hy : y < 256) : 0 ≤ bits .xor .u8 x (y : Int) ∧ bits .xor .u8 x (y : Int) < 256 := by
  obtain ⟨a, rfl⟩ := Int.eq_ofNat_of_zero_le hx.1
  rw [xor_u8 a y (by omega) hy]
  have : a ^^^ y < 2 ^ 8 := Nat.xor_lt_two_pow (by omega) (by omega)
  omega
theorem Bts.set {zs : List Int} (h : Bts zs) (j : Nat) {x : Int} (hx : 0 ≤ x ∧ x < 256) : Bts (zs.set j x) := fun y hy => by
  rcases List.mem_or_eq_of_mem_set hy with h1 | rfl
  · exact h y h1
  · exact hx
theorem flipTo_bts {img : List Int} (h : Bts img) (q bit pat : Nat) : ∀ i, Bts (flipTo img q bit pat i)
  | 0 => h
  | i + 1 => by
    have ih := flipTo_bts h q bit pat i
    unfold flipTo
    split
    · refine ih.set _ (xor_bts (ih.get _) _ ?_)
      exact Nat.lt_of_lt_of_le (Nat.pow_lt_pow_right (a := 2) (by decide) (Nat.mod_lt (bit + i) (show 0 < 8 by decide))) (by decide)
    · exact ih
end Go.Proofs.Ytihkjfbhmlfonaa
