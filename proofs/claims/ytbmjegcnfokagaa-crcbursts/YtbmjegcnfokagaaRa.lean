import Derived.Test.YtbmjegcnfokagaaQa
import Derived.Test.YtbmjegcnfokagaaFc
import Derived.Test.YtbmjegcnfokagaaMd
namespace Go.Proofs.Ytbmjegcnfokagaa
set_option linter.unusedVariables false
set_option linter.unusedSimpArgs false
open Go.RowKit
attribute [local go_sem ↓] Go.wp_at_zero Go.wp_at_succ

set_option maxRecDepth 100000 in
set_option maxHeartbeats 1000000 in
theorem turned_any (w : World) (S : List Int) (h8 : Byts S) (h4 : 0 < S.length) (hle : S.length ≤ 20000) (sp : Option Addr) (cap : Nat) (hS : Src w sp cap S) (a : Int) (ha : -31 ≤ a) (ha2 : a < 8 * (S.length : Int)) (p : Nat) (hp : p < 4294967296) :
    Calls Try.prog 17 #[.slice sp S.length cap, .int .i64 a, .int .u32 p] w fun e w' => ∃ g uc, e = .returned (.tuple #[.slice (some ⟨g, 0, none⟩) S.length uc, .int .i64 (cnt S.length a p 32)]) ∧ Src w' (some ⟨g, 0, none⟩) uc (brst S a p 32) ∧ Below w.heap.size w w' := by
  have i0 : (S.length : Int) ≤ 20000 := by omega
  go_enter Try.func17, Try.ntmps17
  go_wp2_with fail
  refine (short_any w S sp cap hS (by omega) (S.length : Nat)).mono ?_
  rintro e w4 ⟨v, rfl, hO4, b4⟩
  rw [Int.toNat_natCast, List.take_length] at hO4
  obtain ⟨up, uc, g, rest, rfl, _, huc, hum, hgg, hot⟩ := hO4.ot
  obtain ⟨rfl, hI0⟩ := hot h4
  have hI4 : In w4 g rest S := hI0
  clear hO4 hot hI0
  go_wp2
  go_loopw [9, 10] (fun x i wr => ∃ m : Nat, m ≤ 32 ∧ i = .int .i64 m ∧ x = .int .i64 (cnt S.length a p m) ∧ In wr g rest (brst S a p m) ∧ Below w.heap.size w wr) (fun _ i _ => 32 - (intOf i).toNat)
  case atStart => exact ⟨0, by omega, rfl, rfl, hI4, b4⟩
  case round =>
    clear hI4 b4
    obtain ⟨m, hm, rfl, rfl, hI, hB⟩ := hrel
    by_cases hlt : m < 32
    · have i1 : (m : Int) < 32 := by omega
      have HB := hid (show brst S a p (m + 1) = if hits S.length a p m = true then turnB (brst S a p m) (a + (m : Int)).toNat else brst S a p m from rfl)
      have HC := hid (show cnt S.length a p (m + 1) = if hits S.length a p m = true then cnt S.length a p m + 1 else cnt S.length a p m from rfl)
      have hcl := cnt_le S.length a p m
      have hL := hid (brst_len S a p m)
      have hO8 := brst_byts S h8 a p m
      have hh : hits S.length a p m = ((p >>> m % 2 == 1) && (decide (0 ≤ a + (m : Int)) && decide (a + (m : Int) < 8 * (S.length : Int)))) := rfl
      have e1 := bit_u32 p m hp
      generalize cnt S.length a p m = cn at *
      generalize brst S a p m = os at *
      have hcn : (cn : Int) ≤ 32 := by omega
      have hbt : p >>> m % 2 < 2 := m2 _
      generalize p >>> m % 2 = bt at *
      rcases (show bt = 1 ∨ bt = 0 by omega) with rfl | rfl
      · by_cases hk0 : 0 ≤ a + (m : Int)
        · by_cases hk1 : a + (m : Int) < 8 * (S.length : Int)
          · have ht : hits S.length a p m = true := by rw [hh]; simp [hk0, hk1]
            rw [if_pos ht] at HB HC
            clear ht hh
            obtain ⟨K, hK⟩ := Int.eq_ofNat_of_zero_le hk0
            rw [hK] at hk1 HB
            rw [Int.toNat_natCast] at HB
            have hK' : a + (m : Int) = (K : Int) := hK
            have hKS : K < 8 * S.length := by omega
            have hi : K / 8 < os.length := by rw [hL.out]; omega
            have HT := hid (show turnB os K = os.set (K / 8) (((os.getD (K / 8) 0).toNat ^^^ 2 ^ (K % 8) : Nat) : Int) from rfl)
            rw [HT.out] at HB
            have hbq : 0 ≤ os.getD (K / 8) 0 ∧ os.getD (K / 8) 0 < 256 := by rw [List.getD_eq_getElem?_getD, List.getElem?_eq_getElem hi]; exact hO8 _ (List.getElem_mem hi)
            have c0 := hI.cell (K / 8) hi
            have f0 : wr.frozen? ⟨g, K / 8, none⟩ = false := frozen_of_row _ _ _ _ _ hI
            have hj8 : K % 8 < 8 := Nat.mod_lt _ (by decide)
            have e1' : (K : Int) / 8 = ((K / 8 : Nat) : Int) := by omega
            have e2 : (K : Int) % 8 = ((K % 8 : Nat) : Int) := by omega
            have hset := fun x => hI.set (K / 8) x hi
            have hq : K / 8 < S.length := by omega
            have hk2 : (K : Int) < 8 * (S.length : Int) := by omega
            have hk3 : (0 : Int) ≤ (K : Int) := by omega
            have hk4 : (K : Int) < 160000 := by omega
            clear HT
            generalize K / 8 = q at *
            generalize K % 8 = j at *
            have i3 : (q : Int) < (S.length : Int) := by omega
            obtain ⟨x, hx⟩ := Int.eq_ofNat_of_zero_le hbq.1
            rw [hx] at HB c0
            have hx2 : x < 256 := by omega
            clear hbq hx
            have hp8 : 2 ^ j < 256 := pow8_lt hj8
            have e3 : (2 : Int) ^ j = ((2 ^ j : Nat) : Int) := by push_cast; rfl
            have e5 : bits .xor .u8 (x : Int) ((2 : Int) ^ j) = ((x ^^^ 2 ^ j : Nat) : Int) := by rw [e3]; exact xor_u8 x (2 ^ j) hx2 hp8
            have e6 : (2 : Int) ^ j < 256 := by rw [e3]; omega
            have e7 : IntKind.u8.wrap ((2 : Int) ^ j) = (2 : Int) ^ j := by rw [IntKind.wrap_u8]; exact Int.emod_eq_of_lt (by rw [e3]; exact Int.natCast_nonneg _) e6
            have j1 : (j : Int) < 8 := by omega
            rw [Int.toNat_natCast] at HB
            generalize x ^^^ 2 ^ j = y at *
            clear e3 hp8 hj8 hi hO8 hK hk0 hk1
            go_wp2
            go_roundw
            case rel => exact ⟨m + 1, by omega, by go_num, (by rw [HC.out]; go_num), (by rw [HB.out]; exact hset y), hB.setCell (by show w.heap.size ≤ g; omega) _⟩
            case measure => simp [intOf]; omega
          · have ht : ¬ hits S.length a p m = true := by rw [hh]; simp [hk1]
            rw [if_neg ht] at HB HC
            clear ht hh
            go_wp2
            go_roundw
            case rel => exact ⟨m + 1, by omega, by go_num, (by rw [HC.out]), (by rw [HB.out]; exact hI), hB⟩
            case measure => simp [intOf]; omega
        · have ht : ¬ hits S.length a p m = true := by rw [hh]; simp [hk0]
          rw [if_neg ht] at HB HC
          clear ht hh
          go_wp2
          go_roundw
          case rel => exact ⟨m + 1, by omega, by go_num, (by rw [HC.out]), (by rw [HB.out]; exact hI), hB⟩
          case measure => simp [intOf]; omega
      · have ht : ¬ hits S.length a p m = true := by rw [hh]; simp
        rw [if_neg ht] at HB HC
        clear ht hh
        go_wp2
        go_roundw
        case rel => exact ⟨m + 1, by omega, by go_num, (by rw [HC.out]), (by rw [HB.out]; exact hI), hB⟩
        case measure => simp [intOf]; omega
    · obtain rfl : m = 32 := by omega
      clear hlt
      have sF := hI.src uc (by rw [brst_len]; exact huc) hum
      go_wp2
      refine bodyPost_ret (results_tmp2 rfl _ _ _) rfl ?_
      exact ⟨g, uc, rfl, sF, hB⟩

set_option maxRecDepth 100000 in
set_option maxHeartbeats 1000000 in
theorem bursts_any (w : World) (zs : List Int) (hb8 : Byts zs) (sp : Option Addr) (cap : Nat) (hS : Src w sp cap zs) (hlen : zs.length ≤ 140737488355000) (a : Int) (p : Nat) (hp : p < 4294967296) :
    Calls Try.prog 7 #[.slice sp zs.length cap, .int .i64 a, .int .u32 p] w fun e w' => e = .returned (.bool true) ∧ Below w.heap.size w w' := by
  go_enter Try.func7, Try.ntmps7
  go_wp2_with fail
  refine (short_any w zs sp cap hS hlen 19996).mono ?_
  rintro e w1 ⟨v, rfl, hO1, b1⟩
  have t8 := hb8.take 19996
  have tl : (zs.take 19996).length ≤ 19996 := by rw [List.length_take]; omega
  rw [show (19996 : Int).toNat = 19996 by decide] at hO1
  generalize zs.take 19996 = ts at *
  obtain ⟨tp, tc, rfl, hT, _⟩ := hO1.form
  clear hO1
  have i0 : (ts.length : Int) ≤ 19996 := by omega
  go_wp2_with fail
  refine (seal_any w1 ts t8 tp tc hT (by omega)).mono ?_
  rintro e w2 ⟨rfl, r2, b2⟩
  have B2 := b1.trans (b2.mono b1.size)
  have S8 := sealF_byts t8
  have SL := sealF_len ts
  have SC := seal_CR ts t8
  rw [← SL]
  replace SL := hid SL
  have h4 : 4 ≤ (sealF ts).length := by rw [SL.out]; omega
  have hle : (sealF ts).length ≤ 20000 := by rw [SL.out]; omega
  have eL : ((sealF ts).length : Int) = (ts.length : Int) + 4 := by rw [SL.out]; omega
  generalize sealF ts = S at *
  have s2 := src_rowf r2 S.length (Nat.le_refl _) (by unfold maxLen; omega)
  have eW : decide (feed ones S = CR) = true := decide_eq_true SC
  have ne : (((S.length : Nat) : Int) != (ts.length : Int) + 4) = false := by simpa using eL
  have j0 : (S.length : Int) ≤ 20000 := by omega
  have HSL := hid eL
  clear eL
  go_wp2_with fail
  refine (whole_L w2 S S8 h4 _ S.length s2).mono ?_
  rintro e w3 ⟨rfl, b3⟩
  rw [eW]
  have s3 := s2.below b3 (Nat.le_refl _)
  have B3 := B2.trans (b3.mono B2.size)
  generalize w1.heap.size = G at *
  clear r2 s2 b3 B2
  have fin : ∀ a' : Int, -31 ≤ a' → a' < 8 * (S.length : Int) → cnt S.length a' p 32 ≠ 0 → feed ones (brst S a' p 32) ≠ CR := fun a' h1 h2 h3 => burst_main S a' p h1 h2 SC h3
  have Hfin := hid fin
  clear fin
  by_cases hin : a < -31 ∨ 8 * (S.length : Int) ≤ a
  · have hfin := Hfin.out (8 * (ts.length : Int) - 16) (by omega) (by have := HSL.out; omega)
    by_cases hin1 : a < -31
    · clear hin
      go_wp2_with fail
      refine (turned_any w3 S S8 (by omega) hle _ _ s3 (8 * (ts.length : Int) - 16) (by omega) (by have := HSL.out; omega) p hp).mono ?_
      rintro e w5 ⟨g, uc, rfl, sF, b5⟩
      have B5 := B3.trans (b5.mono B3.size)
      have L8 := brst_byts S S8 (8 * (ts.length : Int) - 16) p 32
      have LL := brst_len S (8 * (ts.length : Int) - 16) p 32
      have Lc := cnt_le S.length (8 * (ts.length : Int) - 16) p 32
      generalize brst S (8 * (ts.length : Int) - 16) p 32 = L at *
      generalize cnt S.length (8 * (ts.length : Int) - 16) p 32 = cn at *
      have Lc' : (cn : Int) ≤ 32 := by omega
      by_cases hc : cn = 0
      · subst hc
        go_wp2
        go_ret
        exact ⟨rfl, B5⟩
      · have hc' : ¬ ((cn : Int) = 0) := by omega
        have hc2 : ((cn : Int) == 0) = false := by simpa using hc'
        have Fw := whole_L w5 L L8 (by omega) (some ⟨g, 0, none⟩) uc sF
        rw [LL, decide_eq_false (hfin hc)] at Fw
        go_wp2_with fail
        refine Fw.mono ?_
        rintro e w6 ⟨rfl, b6⟩
        have B6 := B5.trans (b6.mono B5.size)
        go_wp2
        go_ret
        exact ⟨rfl, B6⟩
    · have hin2 : 8 * (S.length : Int) ≤ a := by omega
      have hin3 : (-31 : Int) ≤ a := by omega
      clear hin
      go_wp2_with fail
      refine (turned_any w3 S S8 (by omega) hle _ _ s3 (8 * (ts.length : Int) - 16) (by omega) (by have := HSL.out; omega) p hp).mono ?_
      rintro e w5 ⟨g, uc, rfl, sF, b5⟩
      have B5 := B3.trans (b5.mono B3.size)
      have L8 := brst_byts S S8 (8 * (ts.length : Int) - 16) p 32
      have LL := brst_len S (8 * (ts.length : Int) - 16) p 32
      have Lc := cnt_le S.length (8 * (ts.length : Int) - 16) p 32
      generalize brst S (8 * (ts.length : Int) - 16) p 32 = L at *
      generalize cnt S.length (8 * (ts.length : Int) - 16) p 32 = cn at *
      have Lc' : (cn : Int) ≤ 32 := by omega
      by_cases hc : cn = 0
      · subst hc
        go_wp2
        go_ret
        exact ⟨rfl, B5⟩
      · have hc' : ¬ ((cn : Int) = 0) := by omega
        have hc2 : ((cn : Int) == 0) = false := by simpa using hc'
        have Fw := whole_L w5 L L8 (by omega) (some ⟨g, 0, none⟩) uc sF
        rw [LL, decide_eq_false (hfin hc)] at Fw
        go_wp2_with fail
        refine Fw.mono ?_
        rintro e w6 ⟨rfl, b6⟩
        have B6 := B5.trans (b6.mono B5.size)
        go_wp2
        go_ret
        exact ⟨rfl, B6⟩
  · have hin1 : ¬ a < -31 := by omega
    have hin2 : ¬ 8 * (S.length : Int) ≤ a := by omega
    have hin3 : (-31 : Int) ≤ a := by omega
    have hin4 : a < 8 * (S.length : Int) := by omega
    have hfin := Hfin.out a hin3 hin4
    clear hin
    go_wp2_with fail
    refine (turned_any w3 S S8 (by omega) hle _ _ s3 a (by omega) (by have := HSL.out; omega) p hp).mono ?_
    rintro e w5 ⟨g, uc, rfl, sF, b5⟩
    have B5 := B3.trans (b5.mono B3.size)
    have L8 := brst_byts S S8 a p 32
    have LL := brst_len S a p 32
    have Lc := cnt_le S.length a p 32
    generalize brst S a p 32 = L at *
    generalize cnt S.length a p 32 = cn at *
    have Lc' : (cn : Int) ≤ 32 := by omega
    by_cases hc : cn = 0
    · subst hc
      go_wp2
      go_ret
      exact ⟨rfl, B5⟩
    · have hc' : ¬ ((cn : Int) = 0) := by omega
      have hc2 : ((cn : Int) == 0) = false := by simpa using hc'
      have Fw := whole_L w5 L L8 (by omega) (some ⟨g, 0, none⟩) uc sF
      rw [LL, decide_eq_false (hfin hc)] at Fw
      go_wp2_with fail
      refine Fw.mono ?_
      rintro e w6 ⟨rfl, b6⟩
      have B6 := B5.trans (b6.mono B5.size)
      go_wp2
      go_ret
      exact ⟨rfl, B6⟩
end Go.Proofs.Ytbmjegcnfokagaa
