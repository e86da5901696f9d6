import Derived.Test.YtihkjfbhmlfonaaMa
import Derived.Test.YtihkjfbhmlfonaaKt
import Derived.Laws.BitsLemmas
namespace Go.Proofs.Ytihkjfbhmlfonaa
set_option linter.unusedVariables false
set_option linter.unusedSimpArgs false
open Go.RowKit
attribute [local go_sem ↓] Go.wp_at_zero Go.wp_at_succ

theorem wraps_u32 : ∀ n : Int, 0 ≤ n → n < 2 ^ 32 → IntKind.u32.wrap n = n := fun n h h2 => by rw [IntKind.wrap_u32]; omega
theorem xor_u32 (a b : Nat) (ha : a < 4294967296) (hb : b < 4294967296) : bits .xor .u32 (a : Int) (b : Int) = ((a ^^^ b : Nat) : Int) := by
  have hx : a ^^^ b < 2 ^ 32 := Nat.xor_lt_two_pow (by omega) (by omega)
  have h1 : (BitVec.ofInt 32 (a : Int)).toNat = a := by
    rw [BitVec.ofInt_natCast, BitVec.toNat_ofNat]; exact Nat.mod_eq_of_lt (by omega)
  have h2 : (BitVec.ofInt 32 (b : Int)).toNat = b := by
    rw [BitVec.ofInt_natCast, BitVec.toNat_ofNat]; exact Nat.mod_eq_of_lt (by omega)
  show IntKind.u32.wrap ((BitVec.ofInt 32 (a : Int) ^^^ BitVec.ofInt 32 (b : Int)).toNat : Int) = _
  rw [BitVec.toNat_xor, h1, h2, IntKind.wrap_u32]
  omega
theorem and15_u32 (a : Nat) (ha : a < 4294967296) : bits .and .u32 (a : Int) 15 = ((a % 16 : Nat) : Int) := by
  have := bits_mask .u32 32 (by decide) wraps_u32 4 (by decide) (a : Int) (by omega) (by omega)
  simpa using this
theorem not_u32 (a : Nat) (ha : a < 4294967296) : bits .xor .u32 4294967295 (a : Int) = ((inv a : Nat) : Int) := xor_u32 ones a (by decide) ha
theorem shr4 (a : Nat) : (a : Int) / (16 : Int) = ((a >>> 4 : Nat) : Int) := by rw [Nat.shiftRight_eq_div_pow]; omega
/-- The table as it lies in memory. -/
def hI : List Int := hTab.map Int.ofNat
theorem hI_get (k : Nat) : hI.getD k 0 = ((hTab.getD k 0 : Nat) : Int) := by
  simp only [hI, List.getD_eq_getElem?_getD, List.getElem?_map]
  cases hTab[k]? <;> rfl

set_option maxRecDepth 100000 in
set_option maxHeartbeats 400000 in
theorem feed_any (w : World) (r : Nat) (hr : r < 4294967296) (zs : List Int) (hb8 : Byts zs) (sp : Option Addr) (cap : Nat) (hS : Src w sp cap zs) :
    Calls Try.prog 99 #[.int .u32 r, .slice sp zs.length cap] w fun e w' => e = .returned (.int .u32 (feed r zs)) ∧ Below w.heap.size w w' := by
  obtain ⟨hc, hm, b, o, hb, hsp, hsrc⟩ := hS
  unfold maxLen at hm
  have i0 : (zs.length : Int) ≤ 9223372036854775807 := by omega
  go_enter Try.func99, Try.ntmps99
  go_wp2
  go_loopw [0, 11] (fun x i wr => ∃ n : Nat, n ≤ zs.length ∧ i = .int .i64 n ∧ x = .int .u32 (feed r (zs.take n)) ∧ wr.heap[w.heap.size]? = some (Obj.cells (ints .u32 hI).toArray 151) ∧ Below w.heap.size w wr) (fun _ i _ => zs.length - (intOf i).toNat)
  case atStart => exact ⟨0, by omega, rfl, rfl, hnew w _, (Below.refl _ _).alloc (Nat.le_refl _) _⟩
  case round =>
    obtain ⟨n, hn, rfl, rfl, hh, hB⟩ := hrel
    by_cases hlt : n < zs.length
    · have i1 : (n : Int) < (zs.length : Int) := by omega
      obtain rfl := hsp (by omega)
      have c0 := (hB.cell (p := ⟨b, o + n, none⟩) (hb (by omega))).trans (hsrc n hlt)
      have hbn : 0 ≤ zs.getD n 0 ∧ zs.getD n 0 < 256 := hb8 _ (by rw [List.getD_eq_getElem?_getD, List.getElem?_eq_getElem hlt]; exact List.getElem_mem hlt)
      have hF := hid (show feed r (zs.take (n + 1)) = stepN 8 (feed r (zs.take n) ^^^ (zs.getD n 0).toNat) by
        rw [List.take_succ_eq_append_getElem hlt, feed_snoc, List.getD_eq_getElem?_getD, List.getElem?_eq_getElem hlt]; rfl)
      have hq := feed_lt (zs.take n) (fun x hx => hb8 x (List.mem_of_mem_take hx)) r hr
      generalize feed r (zs.take n) = q at *
      obtain ⟨x, hx⟩ := Int.eq_ofNat_of_zero_le hbn.1
      rw [hx] at c0 hF hbn
      have hx2 : x < 256 := by omega
      clear hx hbn
      obtain ⟨q1, hq1⟩ : ∃ q1, q1 = q ^^^ x := ⟨_, rfl⟩
      have lq1 : q1 < 4294967296 := by rw [hq1]; exact xor_lt hq (by omega)
      obtain ⟨k1, hk1⟩ : ∃ k1, k1 = q1 % 16 := ⟨_, rfl⟩
      obtain ⟨t1, ht1⟩ : ∃ t1, t1 = hTab.getD k1 0 := ⟨_, rfl⟩
      have lk1 : k1 < 16 := by omega
      have lt1 : t1 < 4294967296 := by rw [ht1]; exact hTab_lt k1 lk1
      obtain ⟨q2, hq2⟩ : ∃ q2, q2 = (q1 >>> 4) ^^^ t1 := ⟨_, rfl⟩
      have ls1 : q1 >>> 4 < 4294967296 := by rw [Nat.shiftRight_eq_div_pow]; omega
      have lq2 : q2 < 4294967296 := by rw [hq2]; exact xor_lt ls1 lt1
      obtain ⟨k2, hk2⟩ : ∃ k2, k2 = q2 % 16 := ⟨_, rfl⟩
      obtain ⟨t2, ht2⟩ : ∃ t2, t2 = hTab.getD k2 0 := ⟨_, rfl⟩
      have lk2 : k2 < 16 := by omega
      have lt2 : t2 < 4294967296 := by rw [ht2]; exact hTab_lt k2 lk2
      have ls2 : q2 >>> 4 < 4294967296 := by rw [Nat.shiftRight_eq_div_pow]; omega
      obtain ⟨q3, hq3⟩ : ∃ q3, q3 = (q2 >>> 4) ^^^ t2 := ⟨_, rfl⟩
      have e1 : bits .xor .u32 (q : Int) (x : Int) = (q1 : Int) := by rw [xor_u32 q x hq (by omega), hq1]
      have e2 : bits .and .u32 (q1 : Int) 15 = (k1 : Int) := by rw [and15_u32 q1 lq1, hk1]
      have e3 : bits .xor .u32 ((q1 : Int) / 16) (t1 : Int) = (q2 : Int) := by rw [shr4, xor_u32 _ _ ls1 lt1, hq2]
      have e4 : bits .and .u32 (q2 : Int) 15 = (k2 : Int) := by rw [and15_u32 q2 lq2, hk2]
      have e5 : bits .xor .u32 ((q2 : Int) / 16) (t2 : Int) = (q3 : Int) := by rw [shr4, xor_u32 _ _ ls2 lt2, hq3]
      have c1 : wr.cell? ⟨w.heap.size, k1, none⟩ = some (.int .u32 (t1 : Int)) := by rw [cell_ints hh k1 lk1, hI_get, ← ht1]
      have c2 : wr.cell? ⟨w.heap.size, k2, none⟩ = some (.int .u32 (t2 : Int)) := by rw [cell_ints hh k2 lk2, hI_get, ← ht2]
      have KQ := hid (show q3 = stepN 8 (q ^^^ x) by rw [hq3, ht2, hk2, half_step, hq2, ht1, hk1, half_step, ← stepN_add, hq1])
      clear hq1 hk1 ht1 hq2 hk2 ht2 hq3 ls1 ls2
      have l1 : (k1 : Int) < 16 := by omega
      have l2 : (k2 : Int) < 16 := by omega
      have l3 : (q1 : Int) < 4294967296 := by omega
      have l4 : (x : Int) < 256 := by omega
      go_wp2
      go_roundw
      case rel => exact ⟨n + 1, by omega, by go_num, by rw [hF.out, Int.toNat_natCast, ← KQ.out], hh, hB⟩
      case measure => simp [intOf]; omega
    · obtain rfl : n = zs.length := by omega
      clear hlt
      rw [List.take_length]
      go_wp2
      go_ret
      exact ⟨rfl, hB⟩
end Go.Proofs.Ytihkjfbhmlfonaa
