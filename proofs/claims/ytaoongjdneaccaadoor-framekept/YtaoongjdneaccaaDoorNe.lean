import Derived.Test.YtaoongjdneaccaaDoorNd
namespace Go.Proofs.YtaoongjdneaccaaDoor
set_option linter.unusedVariables false
set_option linter.unusedSimpArgs false
open Go.RowKit
attribute [local go_sem ↓] Go.wp_at_zero Go.wp_at_succ

theorem ofInt_wrap (a : Nat) (ha : a < 18446744073709551616) : (BitVec.ofInt 64 (IntKind.i64.wrap (a : Int))).toNat = a := by
  rw [BitVec.toNat_ofInt, IntKind.wrap_i64]
  omega
theorem or_lay (A x n : Nat) (hn : n ≤ 7) (hA : A < 256 ^ n) (hx : x < 256) : bits .or .i64 (IntKind.i64.wrap (A : Int)) (IntKind.i64.wrap ((x : Int) * 2 ^ (8 * n))) = IntKind.i64.wrap ((A + x * 256 ^ n : Nat) : Int) := by
  have hp : (256 : Nat) ^ n = 2 ^ (8 * n) := by rw [Nat.pow_mul]
  have h56 : (2 : Nat) ^ (8 * n) ≤ 2 ^ 56 := Nat.pow_le_pow_right (by decide) (by omega)
  rw [hp] at hA ⊢
  have hxp : x * 2 ^ (8 * n) ≤ 255 * 2 ^ 56 := Nat.mul_le_mul (by omega) h56
  have e : ((x : Int) * 2 ^ (8 * n)) = ((x * 2 ^ (8 * n) : Nat) : Int) := by simp
  rw [e]
  show IntKind.i64.wrap ((BitVec.ofInt 64 (IntKind.i64.wrap (A : Int)) ||| BitVec.ofInt 64 (IntKind.i64.wrap ((x * 2 ^ (8 * n) : Nat) : Int))).toNat : Int) = _
  rw [BitVec.toNat_or, ofInt_wrap A (by omega), ofInt_wrap _ (by omega), Nat.or_comm, Nat.mul_comm x, ← Nat.two_pow_add_eq_or_of_lt hA, Nat.add_comm]
set_option maxRecDepth 100000 in
set_option maxHeartbeats 400000 in
theorem read_any (w : World) (zs : List Int) (h8 : Byts zs) (hn : zs.length ≤ 8) (sp : Option Addr) (cap : Nat) (hS : Src w sp cap zs) :
    Calls Tryd.prog 32 #[.slice sp zs.length cap] w fun e w' => e = .returned (.int .i64 (IntKind.i64.wrap (le zs))) ∧ Below w.heap.size w w' := by
  obtain ⟨hc, hm, b, o, hb, hsp, hsrc⟩ := hS
  have i0 : (zs.length : Int) ≤ 8 := by omega
  go_enter Tryd.func32, Tryd.ntmps32
  go_wp2
  go_loopw [3, 8] (fun x i wr => ∃ n : Nat, n ≤ zs.length ∧ i = .int .i64 n ∧ x = .int .i64 (IntKind.i64.wrap (le (zs.take n))) ∧ Below w.heap.size w wr) (fun _ i _ => zs.length - (intOf i).toNat)
  case atStart => exact ⟨0, by omega, rfl, rfl, Below.refl _ _⟩
  case round =>
    obtain ⟨n, hnl, rfl, rfl, hB⟩ := hrel
    by_cases hlt : n < zs.length
    · have i1 : (n : Int) < (zs.length : Int) := by omega
      obtain rfl := hsp (by omega)
      have c0 := (hB.cell (p := ⟨b, o + n, none⟩) (hb (by omega))).trans (hsrc n hlt)
      have hbn : 0 ≤ zs.getD n 0 ∧ zs.getD n 0 < 256 := h8 _ (by rw [List.getD_eq_getElem?_getD, List.getElem?_eq_getElem hlt]; exact List.getElem_mem hlt)
      have hlt2 := le_lt (zs.take n) (h8.take n)
      have hl : (zs.take n).length = n := by rw [List.length_take]; omega
      have HT := hid (show le (zs.take (n + 1)) = le (zs.take n) + (zs.getD n 0).toNat * 256 ^ n by
        rw [List.take_succ_eq_append_getElem hlt, le_snoc, hl, List.getD_eq_getElem?_getD, List.getElem?_eq_getElem hlt]; rfl)
      rw [hl] at hlt2
      obtain ⟨x, hx⟩ := Int.eq_ofNat_of_zero_le hbn.1
      rw [hx] at c0 hbn HT
      rw [Int.toNat_natCast] at HT
      have HO := hid (or_lay (le (zs.take n)) x n (by omega) hlt2 (by omega))
      clear hx hlt2 hl
      generalize hA : le (zs.take n) = A at *
      generalize hy : IntKind.i64.wrap (A : Int) = y at *
      replace hy := hid hy
      replace hA := hid hA
      go_wp2
      go_roundw
      case rel => exact ⟨n + 1, by omega, by go_num, by rw [HT.out, ← HO.out, IntWalk.i64_left], hB⟩
      case measure => simp [intOf]; omega
    · obtain rfl : n = zs.length := by omega
      clear hlt
      rw [List.take_length]
      go_wp2
      go_ret
      exact ⟨rfl, hB⟩
end Go.Proofs.YtaoongjdneaccaaDoor
