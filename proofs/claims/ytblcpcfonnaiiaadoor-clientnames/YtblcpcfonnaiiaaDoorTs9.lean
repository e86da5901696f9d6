import Derived.Test.YtblcpcfonnaiiaaDoorVf9
namespace Go.Proofs.YtblcpcfonnaiiaaDoor
set_option linter.unusedVariables false
set_option linter.unusedSimpArgs false
open Go.RowKit

/-! The digest over natural numbers, to be reckoned by the kernel. -/
theorem bnd (a b : Nat) (ha : a < 4294967296) (hb : b < 4294967296) : bits .and .u32 (a : Int) (b : Int) = ((Nat.land a b : Nat) : Int) :=
  (bits_nat .u32 32 (by decide) (fun n h0 h1 => by rw [IntKind.wrap_u32]; omega) a b (by simpa using ha) (by simpa using hb)).1
theorem bor (a b : Nat) (ha : a < 4294967296) (hb : b < 4294967296) : bits .or .u32 (a : Int) (b : Int) = ((Nat.lor a b : Nat) : Int) :=
  (bits_nat .u32 32 (by decide) (fun n h0 h1 => by rw [IntKind.wrap_u32]; omega) a b (by simpa using ha) (by simpa using hb)).2
theorem bxr (a b : Nat) (ha : a < 4294967296) (hb : b < 4294967296) : bits .xor .u32 (a : Int) (b : Int) = ((Nat.xor a b : Nat) : Int) := by
  have hx : a ^^^ b < 2 ^ 32 := Nat.xor_lt_two_pow (by omega) (by omega)
  have h1 : (BitVec.ofInt 32 (a : Int)).toNat = a := by
    rw [BitVec.ofInt_natCast, BitVec.toNat_ofNat]; exact Nat.mod_eq_of_lt (by omega)
  have h2 : (BitVec.ofInt 32 (b : Int)).toNat = b := by
    rw [BitVec.ofInt_natCast, BitVec.toNat_ofNat]; exact Nat.mod_eq_of_lt (by omega)
  show IntKind.u32.wrap ((BitVec.ofInt 32 (a : Int) ^^^ BitVec.ofInt 32 (b : Int)).toNat : Int) = ((a ^^^ b : Nat) : Int)
  rw [BitVec.toNat_xor, h1, h2, IntKind.wrap_u32]
  omega
theorem ltx (a b : Nat) (ha : a < 4294967296) (hb : b < 4294967296) : Nat.xor a b < 4294967296 := by
  have : a ^^^ b < 2 ^ 32 := Nat.xor_lt_two_pow (by omega) (by omega)
  exact this
theorem ltn (a b : Nat) (hb : b < 4294967296) : Nat.land a b < 4294967296 := by
  have : a &&& b < 2 ^ 32 := Nat.and_lt_two_pow _ (by omega)
  exact this
def rrN (x n : Nat) : Nat := Nat.mod (Nat.shiftRight (Nat.mul x 4294967297) n) 4294967296
theorem rrN_lt (x n : Nat) : rrN x n < 4294967296 := Nat.mod_lt _ (by decide)
theorem ror_nat (x n : Nat) (hx : x < 4294967296) (hn : n = 2 ∨ n = 6 ∨ n = 7 ∨ n = 11 ∨ n = 13 ∨ n = 17 ∨ n = 18 ∨ n = 19 ∨ n = 22 ∨ n = 25) : ror (x : Int) n = ((rrN x n : Nat) : Int) := by
  have hw : ∀ m : Int, 0 ≤ m → m < 2 ^ 32 → IntKind.u32.wrap m = m := fun m h0 h1 => by rw [IntKind.wrap_u32]; omega
  have e : rrN x n = (x * 4294967297 / 2 ^ n) % 4294967296 := by
    show ((x * 4294967297) >>> n) % 4294967296 = _
    rw [Nat.shiftRight_eq_div_pow]
  rw [e]
  unfold ror
  rcases hn with rfl | rfl | rfl | rfl | rfl | rfl | rfl | rfl | rfl | rfl
  · rw [bits_join .u32 32 (by decide) hw 30 _ _ (by omega) (by omega) (by omega) (by omega) (by omega) (by omega), show x * 4294967297 / 2 ^ 2 = x * 1073741824 + x / 4 by omega]; omega
  · rw [bits_join .u32 32 (by decide) hw 26 _ _ (by omega) (by omega) (by omega) (by omega) (by omega) (by omega), show x * 4294967297 / 2 ^ 6 = x * 67108864 + x / 64 by omega]; omega
  · rw [bits_join .u32 32 (by decide) hw 25 _ _ (by omega) (by omega) (by omega) (by omega) (by omega) (by omega), show x * 4294967297 / 2 ^ 7 = x * 33554432 + x / 128 by omega]; omega
  · rw [bits_join .u32 32 (by decide) hw 21 _ _ (by omega) (by omega) (by omega) (by omega) (by omega) (by omega), show x * 4294967297 / 2 ^ 11 = x * 2097152 + x / 2048 by omega]; omega
  · rw [bits_join .u32 32 (by decide) hw 19 _ _ (by omega) (by omega) (by omega) (by omega) (by omega) (by omega), show x * 4294967297 / 2 ^ 13 = x * 524288 + x / 8192 by omega]; omega
  · rw [bits_join .u32 32 (by decide) hw 15 _ _ (by omega) (by omega) (by omega) (by omega) (by omega) (by omega), show x * 4294967297 / 2 ^ 17 = x * 32768 + x / 131072 by omega]; omega
  · rw [bits_join .u32 32 (by decide) hw 14 _ _ (by omega) (by omega) (by omega) (by omega) (by omega) (by omega), show x * 4294967297 / 2 ^ 18 = x * 16384 + x / 262144 by omega]; omega
  · rw [bits_join .u32 32 (by decide) hw 13 _ _ (by omega) (by omega) (by omega) (by omega) (by omega) (by omega), show x * 4294967297 / 2 ^ 19 = x * 8192 + x / 524288 by omega]; omega
  · rw [bits_join .u32 32 (by decide) hw 10 _ _ (by omega) (by omega) (by omega) (by omega) (by omega) (by omega), show x * 4294967297 / 2 ^ 22 = x * 1024 + x / 4194304 by omega]; omega
  · rw [bits_join .u32 32 (by decide) hw 7 _ _ (by omega) (by omega) (by omega) (by omega) (by omega) (by omega), show x * 4294967297 / 2 ^ 25 = x * 128 + x / 33554432 by omega]; omega
end Go.Proofs.YtblcpcfonnaiiaaDoor
