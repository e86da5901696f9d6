import Derived.Test.YtbmjegcnfokagaaQa
namespace Go.Proofs.Ytbmjegcnfokagaa
set_option linter.unusedVariables false
set_option linter.unusedSimpArgs false
open Go.RowKit
attribute [local go_sem ↓] Go.wp_at_zero Go.wp_at_succ

set_option maxRecDepth 100000 in
set_option maxHeartbeats 1000000 in
theorem few_any (w : World) (zs : List Int) (hb8 : Byts zs) (sp : Option Addr) (cap : Nat) (hS : Src w sp cap zs) (hlen : zs.length ≤ 140737488355000) (i : Int) (j : Int) (k : Int) (l : Int)
    (hmain : ∀ S : List Int, Byts S → 4 ≤ S.length → S.length ≤ 371 → feed ones S = CR → (flO (flO (flO (flO S i) j) k) l) ≠ S → feed ones (flO (flO (flO (flO S i) j) k) l) ≠ CR) :
    Calls Try.prog 8 #[.slice sp zs.length cap, .int .i64 i, .int .i64 j, .int .i64 k, .int .i64 l] w fun e w' => e = .returned (.bool true) ∧ Below w.heap.size w w' := by
  go_enter Try.func8, Try.ntmps8
  go_wp2_with fail
  refine (short_any w zs sp cap hS hlen 367).mono ?_
  rintro e w1 ⟨v, rfl, hO1, b1⟩
  have t8 := hb8.take 367
  have tl : (zs.take 367).length ≤ 367 := by rw [List.length_take]; omega
  rw [show (367 : Int).toNat = 367 by decide] at hO1
  generalize zs.take 367 = ts at *
  obtain ⟨tp, tc, rfl, hT, _⟩ := hO1.form
  clear hO1
  have i0 : (ts.length : Int) ≤ 367 := by omega
  go_wp2_with fail
  refine (seal_any w1 ts t8 tp tc hT (by omega)).mono ?_
  rintro e w2 ⟨rfl, r2, b2⟩
  have B2 := b1.trans (b2.mono b1.size)
  have hG := b1.size
  have S8 := sealF_byts t8
  have SL := sealF_len ts
  have SC := seal_CR ts t8
  have hM := hmain (sealF ts) S8 (by omega) (by omega) SC
  clear hmain
  rw [← SL]
  replace SL := hid SL
  have h4 : 4 ≤ (sealF ts).length := by rw [SL.out]; omega
  have hle : (sealF ts).length ≤ 371 := by rw [SL.out]; omega
  have eL : ((sealF ts).length : Int) = (ts.length : Int) + 4 := by rw [SL.out]; omega
  generalize sealF ts = S at *
  have s2 := src_rowf r2 S.length (Nat.le_refl _) (by unfold maxLen; omega)
  have eW : decide (feed ones S = CR) = true := decide_eq_true SC
  generalize w1.heap.size = G at *
  have ne : (((S.length : Nat) : Int) != (ts.length : Int) + 4) = false := by simpa using eL
  have HSL := hid eL
  clear eL
  go_wp2_with fail
  refine (whole_L w2 S S8 h4 (some ⟨G, 0, none⟩) S.length s2).mono ?_
  rintro e w3 ⟨rfl, b3⟩
  rw [eW]
  have r3 := hbel b3 r2 (hlt r2)
  have s3 := s2.below b3 (Nat.le_refl _)
  have B3 := B2.trans (b3.mono B2.size)
  have hG3 : G < w3.heap.size := hlt r3
  clear r2 s2 b3 B2 b1
  go_wp2_with fail
  refine (short_any w3 S (some ⟨G, 0, none⟩) S.length s3 (by omega) (S.length : Nat)).mono ?_
  rintro e w4 ⟨v, rfl, hO4, b4⟩
  rw [Int.toNat_natCast, List.take_length] at hO4
  have r4 := hbel b4 r3 (hlt r3)
  have B4 := B3.trans (b4.mono B3.size)
  obtain ⟨up, uc, g, rest, rfl, _, huc, hum, hgg, hot⟩ := hO4.ot
  obtain ⟨rfl, hI0⟩ := hot (by omega)
  have hI4 : In w4 g rest S := hI0
  have hne : G ≠ g := by omega
  have hwg : w.heap.size ≤ g := by omega
  clear hO4 hot hI0 r3 s3 b4 B3
  go_wp2_with fail
  have L0 : S.length = S.length := by rfl
  have F0 := flip_any w4 g rest S S8 uc hI4 (by rw [L0]; omega) i
  rw [L0] at F0
  refine F0.mono ?_
  rintro e w5 ⟨f0, rfl, hI5, k5⟩
  have r5 := k5.heap r4 hne
  have B5 := B4.trans (k5.below_g hwg B4.size)
  have S80 := flO_byts S8 i
  clear hI4 r4 B4 k5 F0 L0
  go_wp2_with fail
  have L1 : (flO S i).length = S.length := by rw [flO_len]
  have F1 := flip_any w5 g rest (flO S i) S80 uc hI5 (by rw [L1]; omega) j
  rw [L1] at F1
  refine F1.mono ?_
  rintro e w6 ⟨f1, rfl, hI6, k6⟩
  have r6 := k6.heap r5 hne
  have B6 := B5.trans (k6.below_g hwg B5.size)
  have S81 := flO_byts S80 j
  clear hI5 r5 B5 k6 F1 L1
  go_wp2_with fail
  have L2 : (flO (flO S i) j).length = S.length := by rw [flO_len, flO_len]
  have F2 := flip_any w6 g rest (flO (flO S i) j) S81 uc hI6 (by rw [L2]; omega) k
  rw [L2] at F2
  refine F2.mono ?_
  rintro e w7 ⟨f2, rfl, hI7, k7⟩
  have r7 := k7.heap r6 hne
  have B7 := B6.trans (k7.below_g hwg B6.size)
  have S82 := flO_byts S81 k
  clear hI6 r6 B6 k7 F2 L2
  go_wp2_with fail
  have L3 : (flO (flO (flO S i) j) k).length = S.length := by rw [flO_len, flO_len, flO_len]
  have F3 := flip_any w7 g rest (flO (flO (flO S i) j) k) S82 uc hI7 (by rw [L3]; omega) l
  rw [L3] at F3
  refine F3.mono ?_
  rintro e w8 ⟨f3, rfl, hI8, k8⟩
  have r8 := k8.heap r7 hne
  have B8 := B7.trans (k8.below_g hwg B7.size)
  have S83 := flO_byts S82 l
  clear hI7 r7 B7 k8 F3 L3
  have LF : (flO (flO (flO (flO S i) j) k) l).length = S.length := by rw [flO_len, flO_len, flO_len, flO_len]
  generalize (flO (flO (flO (flO S i) j) k) l) = F at *
  have sF := hI8.src uc (by omega) hum
  have sS := src_rowf r8 S.length (Nat.le_refl _) (by unfold maxLen; omega)
  have Fm := same_any w8 S F (some ⟨G, 0, none⟩) (some ⟨g, 0, none⟩) S.length uc sS sF
  rw [LF] at Fm
  go_wp2_with fail
  refine Fm.mono ?_
  rintro e wa ⟨rfl, ba⟩
  have Ba := B8.trans (ba.mono B8.size)
  have sFa := sF.below ba (Nat.le_refl _)
  clear Fm ba sF sS hI8 r8
  by_cases hE : S = F
  · rw [decide_eq_true hE]
    go_wp2
    go_ret
    exact ⟨rfl, Ba⟩
  · rw [decide_eq_false hE]
    have Fw := whole_L wa F S83 (by omega) (some ⟨g, 0, none⟩) uc sFa
    rw [LF, decide_eq_false (hM (fun h => hE h.symm))] at Fw
    go_wp2_with fail
    refine Fw.mono ?_
    rintro e wb ⟨rfl, bb⟩
    have Bb := Ba.trans (bb.mono Ba.size)
    go_wp2
    go_ret
    exact ⟨rfl, Bb⟩
end Go.Proofs.Ytbmjegcnfokagaa
