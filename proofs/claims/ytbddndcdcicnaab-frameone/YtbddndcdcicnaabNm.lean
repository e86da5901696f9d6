import Derived.Test.YtbddndcdcicnaabNl
import Derived.Test.YtbddndcdcicnaabMd
namespace Go.Proofs.Ytbddndcdcicnaab
set_option linter.unusedVariables false
set_option linter.unusedSimpArgs false
open Go.RowKit
attribute [local go_sem ↓] Go.wp_at_zero Go.wp_at_succ

theorem and1_u32 (a : Nat) (ha : a < 4294967296) : bits .and .u32 (a : Int) 1 = ((a % 2 : Nat) : Int) := by
  have := bits_mask .u32 32 (by decide) wraps_u32 1 (by decide) (a : Int) (by omega) (by omega)
  simpa using this
theorem shrn (a m : Nat) : (a : Int) / (2 : Int) ^ m = ((a >>> m : Nat) : Int) := by rw [Nat.shiftRight_eq_div_pow]; simp
theorem bit_u32 (a m : Nat) (ha : a < 4294967296) : bits .and .u32 ((a : Int) / (2 : Int) ^ m) 1 = ((a >>> m % 2 : Nat) : Int) := by
  rw [shrn, and1_u32 _ (by rw [Nat.shiftRight_eq_div_pow]; exact Nat.lt_of_le_of_lt (Nat.div_le_self _ _) ha)]
/-- Bits of a pattern turned in the first B bytes. -/
def brstN (B : Nat) (S : List Int) (a : Int) (p : Nat) : Nat → List Int
  | 0 => S
  | i + 1 => if hits B a p i = true then turnB (brstN B S a p i) (a + (i : Int)).toNat else brstN B S a p i
theorem brstN_len (B : Nat) (S : List Int) (a : Int) (p : Nat) : ∀ m, (brstN B S a p m).length = S.length
  | 0 => rfl
  | m + 1 => by
    rw [brstN]; split
    · rw [turnB_len, brstN_len B S a p m]
    · exact brstN_len B S a p m
theorem brstN_byts (B : Nat) (S : List Int) (h : Byts S) (a : Int) (p : Nat) : ∀ m, Byts (brstN B S a p m)
  | 0 => h
  | m + 1 => by
    rw [brstN]; split
    · exact turnB_byts (brstN_byts B S h a p m) _
    · exact brstN_byts B S h a p m
theorem turnB_app (X Y : List Int) (k : Nat) (hk : k < 8 * X.length) : turnB (X ++ Y) k = turnB X k ++ Y := by
  have h : k / 8 < X.length := by omega
  unfold turnB
  rw [List.set_append_left _ _ h, List.getD_eq_getElem?_getD, List.getD_eq_getElem?_getD, List.getElem?_append_left h]
theorem brstN_app (X Y : List Int) (a : Int) (p : Nat) : ∀ m, brstN X.length (X ++ Y) a p m = brst X a p m ++ Y
  | 0 => rfl
  | m + 1 => by
    rw [brstN, brst, brstN_app X Y a p m]
    by_cases h : hits X.length a p m = true
    · rw [if_pos h, if_pos h, turnB_app _ _ _ (by
        rw [brst_len]; unfold hits at h; simp at h; omega)]
    · rw [if_neg h, if_neg h]
theorem brstN_all (S : List Int) (a : Int) (p : Nat) (m : Nat) : brstN S.length S a p m = brst S a p m := by
  have := brstN_app S [] a p m
  rwa [List.append_nil, List.append_nil] at this
def flN (B : Nat) (l : List Int) (k : Int) : List Int := if 0 ≤ k ∧ k < 8 * (B : Int) then turnB l k.toNat else l
theorem one_shr (i : Nat) : 1 >>> (i + 1) % 2 = 0 := by
  rw [Nat.shiftRight_eq_div_pow, Nat.div_eq_of_lt (Nat.one_lt_two_pow (by omega))]
theorem brstN_one (B : Nat) (S : List Int) (a : Int) : ∀ m, brstN B S a 1 (m + 1) = flN B S a
  | 0 => by
    rw [brstN, brstN]
    unfold hits flN
    by_cases h : 0 ≤ a ∧ a < 8 * (B : Int)
    · rw [if_pos h, if_pos (by simp; omega)]; simp
    · rw [if_neg h, if_neg (by simp; omega)]
  | m + 1 => by
    rw [brstN, if_neg (by unfold hits; rw [one_shr]; simp), brstN_one B S a m]
set_option maxRecDepth 100000 in
set_option maxHeartbeats 1000000 in
theorem turned_any (w : World) (S : List Int) (h8 : Byts S) (h4 : 0 < S.length) (hle : S.length ≤ 20000) (B : Nat) (hBS : B ≤ S.length) (sp : Option Addr) (cap : Nat) (hS : Src w sp cap S) (a : Int) (p : Nat) (hp : p < 4294967296) (hA : ∀ m : Nat, m < 32 → p >>> m % 2 = 1 → -9223372036854775808 ≤ a + (m : Int) ∧ a + (m : Int) ≤ 9223372036854775807) (N : Int) (hN : N = 8 * (B : Int)) :
    Calls Try.prog 10 #[.slice sp S.length cap, .int .i64 a, .int .u32 p, .int .i64 N] w fun e w' => ∃ g uc, e = .returned (.tuple #[.slice (some ⟨g, 0, none⟩) S.length uc, .int .i64 (cnt B a p 32)]) ∧ Src w' (some ⟨g, 0, none⟩) uc (brstN B S a p 32) ∧ Below w.heap.size w w' := by
  have i0 : (S.length : Int) ≤ 20000 := by omega
  have HN := hid hN
  clear hN
  replace hA := hid hA
  go_enter Try.func10, Try.ntmps10
  go_wp2_with fail
  refine (copied_any w S sp cap hS (by omega)).mono ?_
  rintro e w4 ⟨v, rfl, hO4, b4⟩
  obtain ⟨up, uc, g, rest, rfl, _, huc, hum, hgg, hot⟩ := hO4.ot
  obtain ⟨rfl, hI0⟩ := hot h4
  have hI4 : In w4 g rest S := hI0
  clear hO4 hot hI0
  go_wp2
  go_loopw [11, 12] (fun x i wr => ∃ m : Nat, m ≤ 32 ∧ i = .int .i64 m ∧ x = .int .i64 (cnt B a p m) ∧ In wr g rest (brstN B S a p m) ∧ Below w.heap.size w wr) (fun _ i _ => 32 - (intOf i).toNat)
  case atStart => exact ⟨0, by omega, rfl, rfl, hI4, b4⟩
  case round =>
    clear hI4 b4
    obtain ⟨m, hm, rfl, rfl, hI, hB⟩ := hrel
    by_cases hlt : m < 32
    · have i1 : (m : Int) < 32 := by omega
      have HB := hid (show brstN B S a p (m + 1) = if hits B a p m = true then turnB (brstN B S a p m) (a + (m : Int)).toNat else brstN B S a p m from rfl)
      have HC := hid (show cnt B a p (m + 1) = if hits B a p m = true then cnt B a p m + 1 else cnt B a p m from rfl)
      have hcl := cnt_le B a p m
      have hL := hid (brstN_len B S a p m)
      have hO8 := brstN_byts B S h8 a p m
      have hh : hits B a p m = ((p >>> m % 2 == 1) && (decide (0 ≤ a + (m : Int)) && decide (a + (m : Int) < 8 * (B : Int)))) := rfl
      have e1 := bit_u32 p m hp
      have hAm := hA.out m hlt
      generalize cnt B a p m = cn at *
      generalize brstN B S a p m = os at *
      have hcn : (cn : Int) ≤ 32 := by omega
      have hbt : p >>> m % 2 < 2 := m2 _
      generalize p >>> m % 2 = bt at *
      rcases (show bt = 1 ∨ bt = 0 by omega) with rfl | rfl
      · obtain ⟨q1, q2⟩ := hAm rfl
        by_cases hk0 : 0 ≤ a + (m : Int)
        · by_cases hk1 : a + (m : Int) < 8 * (B : Int)
          · have ht : hits B a p m = true := by rw [hh]; simp [hk0, hk1]
            rw [if_pos ht] at HB HC
            clear ht hh
            obtain ⟨K, hK⟩ := Int.eq_ofNat_of_zero_le hk0
            rw [hK] at hk1 HB
            rw [Int.toNat_natCast] at HB
            have hK' : a + (m : Int) = (K : Int) := hK
            have hKS : K < 8 * S.length := by omega
            have hKB : (K : Int) < N := by have := HN.out; omega
            have hi : K / 8 < os.length := by rw [hL.out]; omega
            have HT := hid (show turnB os K = os.set (K / 8) (((os.getD (K / 8) 0).toNat ^^^ 2 ^ (K % 8) : Nat) : Int) from rfl)
            rw [HT.out] at HB
            have hbq : 0 ≤ os.getD (K / 8) 0 ∧ os.getD (K / 8) 0 < 256 := by rw [List.getD_eq_getElem?_getD, List.getElem?_eq_getElem hi]; exact hO8 _ (List.getElem_mem hi)
            have c0 := hI.cell (K / 8) hi
            have f0 : wr.frozen? ⟨g, K / 8, none⟩ = false := frozen_of_row _ _ _ _ _ hI
            have hj8 : K % 8 < 8 := Nat.mod_lt _ (by decide)
            have e1' : (K : Int) / 8 = ((K / 8 : Nat) : Int) := by omega
            have e2 : (K : Int) % 8 = ((K % 8 : Nat) : Int) := by omega
            have hset := fun x => hI.set (K / 8) x hi
            have hq : K / 8 < S.length := by omega
            have hk2 : (K : Int) < 8 * (S.length : Int) := by omega
            have hk3 : (0 : Int) ≤ (K : Int) := by omega
            have hk4 : (K : Int) < 160000 := by omega
            clear HT
            generalize K / 8 = q at *
            generalize K % 8 = j at *
            have i3 : (q : Int) < (S.length : Int) := by omega
            obtain ⟨x, hx⟩ := Int.eq_ofNat_of_zero_le hbq.1
            rw [hx] at HB c0
            have hx2 : x < 256 := by omega
            clear hbq hx
            have hp8 : 2 ^ j < 256 := pow8_lt hj8
            have e3 : (2 : Int) ^ j = ((2 ^ j : Nat) : Int) := by push_cast; rfl
            have e5 : bits .xor .u8 (x : Int) ((2 : Int) ^ j) = ((x ^^^ 2 ^ j : Nat) : Int) := by rw [e3]; exact xor_u8 x (2 ^ j) hx2 hp8
            have e6 : (2 : Int) ^ j < 256 := by rw [e3]; omega
            have e7 : IntKind.u8.wrap ((2 : Int) ^ j) = (2 : Int) ^ j := by rw [IntKind.wrap_u8]; exact Int.emod_eq_of_lt (by rw [e3]; exact Int.natCast_nonneg _) e6
            have j1 : (j : Int) < 8 := by omega
            rw [Int.toNat_natCast] at HB
            generalize x ^^^ 2 ^ j = y at *
            rw [hK'] at q1 q2
            clear e3 hp8 hj8 hi hO8 hK hk0 hk1
            go_wp2
            go_roundw
            case rel => exact ⟨m + 1, by omega, by go_num, (by rw [HC.out]; go_num), (by rw [HB.out]; exact hset y), hB.setCell (by show w.heap.size ≤ g; omega) _⟩
            case measure => simp [intOf]; omega
          · have ht : ¬ hits B a p m = true := by rw [hh]; simp [hk1]
            have hk9 : ¬ (a + (m : Int) < N) := by have := HN.out; omega
            rw [if_neg ht] at HB HC
            clear ht hh
            go_wp2
            go_roundw
            case rel => exact ⟨m + 1, by omega, by go_num, (by rw [HC.out]), (by rw [HB.out]; exact hI), hB⟩
            case measure => simp [intOf]; omega
        · have ht : ¬ hits B a p m = true := by rw [hh]; simp [hk0]
          rw [if_neg ht] at HB HC
          clear ht hh
          go_wp2
          go_roundw
          case rel => exact ⟨m + 1, by omega, by go_num, (by rw [HC.out]), (by rw [HB.out]; exact hI), hB⟩
          case measure => simp [intOf]; omega
      · clear hAm
        have ht : ¬ hits B a p m = true := by rw [hh]; simp
        rw [if_neg ht] at HB HC
        clear ht hh
        go_wp2
        go_roundw
        case rel => exact ⟨m + 1, by omega, by go_num, (by rw [HC.out]), (by rw [HB.out]; exact hI), hB⟩
        case measure => simp [intOf]; omega
    · obtain rfl : m = 32 := by omega
      clear hlt
      have sF := hI.src uc (by rw [brstN_len]; exact huc) hum
      go_wp2
      refine bodyPost_ret (results_tmp2 rfl _ _ _) rfl ?_
      exact ⟨g, uc, rfl, sF, hB⟩

end Go.Proofs.Ytbddndcdcicnaab
