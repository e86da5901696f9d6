import Derived.Test.YtfcogkjmjpgncaaNc9
import Derived.Lib.LazyBuf
namespace Go.Proofs.Ytfcogkjmjpgncaa
set_option linter.unusedVariables false
set_option linter.unusedSimpArgs false
open Go.RowKit
attribute [local go_sem ↓] Go.wp_at_zero Go.wp_at_succ

theorem or_nat (A x k : Nat) (hk : k ≤ 24) (hA : A < 2 ^ k) (hx : x < 256) : bits .or .i64 (A : Int) ((x * 2 ^ k : Nat) : Int) = ((A + x * 2 ^ k : Nat) : Int) := by
  have h24 : (2 : Nat) ^ k ≤ 2 ^ 24 := Nat.pow_le_pow_right (by decide) hk
  have hxp : x * 2 ^ k ≤ 255 * 2 ^ 24 := Nat.mul_le_mul (by omega) h24
  show IntKind.i64.wrap ((BitVec.ofInt 64 (A : Int) ||| BitVec.ofInt 64 ((x * 2 ^ k : Nat) : Int)).toNat : Int) = _
  have e1 : (BitVec.ofInt 64 (A : Int)).toNat = A := by rw [BitVec.toNat_ofInt]; omega
  have e2 : (BitVec.ofInt 64 ((x * 2 ^ k : Nat) : Int)).toNat = x * 2 ^ k := by rw [BitVec.toNat_ofInt]; omega
  rw [BitVec.toNat_or, e1, e2, Nat.or_comm, Nat.mul_comm x, ← Nat.two_pow_add_eq_or_of_lt hA, Nat.add_comm, IntKind.wrap_i64]
  rw [Nat.mul_comm] at hxp
  omega
theorem or4 (a b c d : Int) (ha : 0 ≤ a ∧ a < 256) (hb : 0 ≤ b ∧ b < 256) (hc : 0 ≤ c ∧ c < 256) (hd : 0 ≤ d ∧ d < 256) :
    bits .or .i64 (bits .or .i64 (bits .or .i64 a (b * 256)) (c * 65536)) (d * 16777216) = a + 256 * b + 65536 * c + 16777216 * d := by
  obtain ⟨a, rfl⟩ := Int.eq_ofNat_of_zero_le ha.1
  obtain ⟨b, rfl⟩ := Int.eq_ofNat_of_zero_le hb.1
  obtain ⟨c, rfl⟩ := Int.eq_ofNat_of_zero_le hc.1
  obtain ⟨d, rfl⟩ := Int.eq_ofNat_of_zero_le hd.1
  have h1 := or_nat a b 8 (by decide) (by omega) (by omega)
  have h2 := or_nat (a + b * 2 ^ 8) c 16 (by decide) (by omega) (by omega)
  have h3 := or_nat (a + b * 2 ^ 8 + c * 2 ^ 16) d 24 (by decide) (by omega) (by omega)
  rw [show ((b : Int) * 256) = ((b * 2 ^ 8 : Nat) : Int) by omega, h1, show ((c : Int) * 65536) = ((c * 2 ^ 16 : Nat) : Int) by omega, h2, show ((d : Int) * 16777216) = ((d * 2 ^ 24 : Nat) : Int) by omega, h3]
  omega
def Bys (zs : List Int) : Prop := ∀ x ∈ zs, 0 ≤ x ∧ x < 256
theorem Bys.at {zs : List Int} (h : Bys zs) (j : Nat) (hj : j < zs.length) : 0 ≤ zs.getD j 0 ∧ zs.getD j 0 < 256 := h _ (by rw [List.getD_eq_getElem?_getD, List.getElem?_eq_getElem hj]; exact List.getElem_mem _)
set_option maxRecDepth 100000 in
set_option maxHeartbeats 400000 in
theorem readNumber_any (w : World) (t : List Int) (hy : Bys t) (h4 : 4 ≤ t.length) (sp : Option Addr) (cap : Nat) (hS : Src w sp cap t) :
    Calls Try.prog 27 #[.slice sp t.length cap] w fun e w' => e = .returned (.int .i64 (numP t 0)) ∧ Below w.heap.size w w' := by
  obtain ⟨hc, hm, b, o, hb, hsp, hsrc⟩ := hS
  obtain rfl := hsp (by omega)
  have c0 := hsrc 0 (by omega)
  have c1 := hsrc 1 (by omega)
  have c2 := hsrc 2 (by omega)
  have c3 := hsrc 3 (by omega)
  rw [Nat.add_zero] at c0
  have b0 := hy.at 0 (by omega)
  have b1 := hy.at 1 (by omega)
  have b2 := hy.at 2 (by omega)
  have b3 := hy.at 3 (by omega)
  have HE := hid (show numP t 0 = t.getD 0 0 + 256 * t.getD 1 0 + 65536 * t.getD 2 0 + 16777216 * t.getD 3 0 from rfl)
  generalize t.getD 0 0 = x0 at *
  generalize t.getD 1 0 = x1 at *
  generalize t.getD 2 0 = x2 at *
  generalize t.getD 3 0 = x3 at *
  have HO := hid (or4 x0 x1 x2 x3 b0 b1 b2 b3)
  have i4 : (4 : Int) ≤ (t.length : Int) := by omega
  generalize t.length = n at *
  go_enter Try.func27, Try.ntmps27
  go_wp2
  go_quiet (fail)
  go_wp2
  go_ret
  refine ⟨?_, below_drewN (Below.refl _ _) _⟩
  rw [HE.out, ← HO.out]
  rfl
theorem Try.guardC : Try.prog.eqGuardType Try.prog.depth 58 = false := by kernel_rfl
theorem cell_new (w : World) (cs : List Value) (t : TypeId) (j : Nat) (v : Value) (h : cs[j]? = some v) : (w.alloc (.cells cs.toArray t)).cell? ⟨w.heap.size, j, none⟩ = some v := by
  rw [cell_of_row _ _ _ _ _ _ (hnew w (.cells cs.toArray t))]; simpa using h
theorem leafC_v (k : List Int) (v : Value) (h : k.length = 32) : (leafC k v)[32]? = some v := by
  unfold leafC; rw [List.getElem?_append_right (by rw [ints_len]; omega), ints_len, h]; rfl
set_option maxRecDepth 100000 in
set_option maxHeartbeats 400000 in
theorem leafStands_any (w : World) (k : List Int) (hk : k.length = 32) (sp : Option Addr) (n cap : Nat) (hn : n ≤ 9223372036854775807) :
    Calls Try.prog 46 #[.agg (leafC k (.slice sp n cap)).toArray] w fun e w' => e = .returned (.bool (decide (n ≤ 128))) ∧ Below w.heap.size w w' := by
  have c0 := cell_new w (leafC k (.slice sp n cap)) 60 32 _ (leafC_v k _ hk)
  have hB := (Below.refl w.heap.size w).alloc (Nat.le_refl _) (.cells (leafC k (.slice sp n cap)).toArray 60)
  have i0 : (n : Int) ≤ 9223372036854775807 := by omega
  have HD := hid (show decide (n ≤ 128) = decide ((n : Int) ≤ 128) by rw [decide_eq_decide]; omega)
  go_enter Try.func46, Try.ntmps46
  go_wp2
  go_ret
  refine ⟨?_, hB⟩
  rw [HD.out]
  rfl
set_option maxRecDepth 100000 in
set_option maxHeartbeats 1000000 in
theorem childStands_any (w : World) (p c : Int) (s : List Int) (hs : s.length = 32) :
    Calls Try.prog 44 #[.agg (chC p c s).toArray] w fun e w' => e = .returned (.bool (decide (SideP p c s))) ∧ Below w.heap.size w w' := by
  have c0 := cell_new w (chC p c s) 58 0 (.int .i64 p) rfl
  have c1 := cell_new w (chC p c s) 58 1 (.int .i64 c) rfl
  have r0 := hnew w (.cells (chC p c s).toArray 58)
  have hB := (Below.refl w.heap.size w).alloc (Nat.le_refl _) (.cells (chC p c s).toArray 58)
  have HS := hid (show (Try.prog.info? 58).map (·.size) = some (chC p c s).toArray.size by rw [Try.sizeCh, List.size_toArray, chC_len p c s hs])
  by_cases h0 : p = 0
  · have HD := hid (show decide (SideP p c s) = decide (p = 0 ∧ c = 0 ∧ s = zD) by
      rw [decide_eq_decide]; unfold SideP; constructor
      · rintro (h | h)
        · exact h
        · omega
      · exact Or.inl)
    have qC := eqC p c 0 0 s zD hs rfl
    have gC := Try.guardC
    subst h0
    generalize decide (SideP 0 c s) = D at *
    generalize decide ((0 : Int) = 0 ∧ c = 0 ∧ s = zD) = E at *
    have bz := built_ch0
    generalize chC 0 c s = C at *
    generalize chC 0 0 zD = Z at *
    go_enter Try.func44, Try.ntmps44
    go_wp2_with (first
      | refine wpList_load_row rfl 58 _ rfl _ rfl 58 _ _ _ r0 Try.underlying58 rfl HS.out ?_
      | refine wpList_built (by rfl) 58 _ rfl [] rfl _ bz ?_)
    go_ret
    exact ⟨by rw [HD.out]; rfl, hB⟩
  · have HD := hid (show decide (SideP p c s) = decide (2 ≤ p ∧ p < 4096 ∧ 1 ≤ c ∧ c ≤ 4096) by
      rw [decide_eq_decide]; unfold SideP; constructor
      · rintro (h | h)
        · omega
        · exact h
      · exact Or.inr)
    generalize decide (SideP p c s) = D at *
    generalize chC p c s = C at *
    by_cases h1 : 2 ≤ p
    · by_cases h2 : p < 4096
      · by_cases h3 : 1 ≤ c
        · by_cases h4 : c ≤ 4096
          · rw [decide_eq_true (show 2 ≤ p ∧ p < 4096 ∧ 1 ≤ c ∧ c ≤ 4096 from ⟨h1, h2, h3, h4⟩)] at HD
            go_enter Try.func44, Try.ntmps44
            go_wp2
            go_ret
            exact ⟨by rw [HD.out]; rfl, hB⟩
          · rw [decide_eq_false (show ¬ (2 ≤ p ∧ p < 4096 ∧ 1 ≤ c ∧ c ≤ 4096) by omega)] at HD
            go_enter Try.func44, Try.ntmps44
            go_wp2
            go_ret
            exact ⟨by rw [HD.out]; rfl, hB⟩
        · rw [decide_eq_false (show ¬ (2 ≤ p ∧ p < 4096 ∧ 1 ≤ c ∧ c ≤ 4096) by omega)] at HD
          go_enter Try.func44, Try.ntmps44
          go_wp2
          go_ret
          exact ⟨by rw [HD.out]; rfl, hB⟩
      · rw [decide_eq_false (show ¬ (2 ≤ p ∧ p < 4096 ∧ 1 ≤ c ∧ c ≤ 4096) by omega)] at HD
        go_enter Try.func44, Try.ntmps44
        go_wp2
        go_ret
        exact ⟨by rw [HD.out]; rfl, hB⟩
    · rw [decide_eq_false (show ¬ (2 ≤ p ∧ p < 4096 ∧ 1 ≤ c ∧ c ≤ 4096) by omega)] at HD
      go_enter Try.func44, Try.ntmps44
      go_wp2
      go_ret
      exact ⟨by rw [HD.out]; rfl, hB⟩
end Go.Proofs.Ytfcogkjmjpgncaa
