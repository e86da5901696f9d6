import Derived.Test.YtbddndcdcicnaaaNm
namespace Go.Proofs.Ytbddndcdcicnaaa
set_option linter.unusedVariables false
set_option linter.unusedSimpArgs false
open Go.RowKit
attribute [local go_sem ↓] Go.wp_at_zero Go.wp_at_succ

/-- Unpack of a page that Pack laid. -/
theorem unpack_to (w : World) (q k p : Int) (l : List Int) (hk : kindOk k = true) (hp : placeOk p = true) (hl : l.length ≤ 246) (h8 : Byts l) (sp : Option Addr) (cap : Nat) (hS : Src w sp cap (pageP k p l)) :
    Calls Try.prog 15 #[.int .i64 q, .slice sp 256 cap] w fun e w' => ∃ v, e = .returned (.tuple #[.int .i64 (if q = p then k else 0), v, .int .i64 (if q = p then 0 else 54)]) ∧ Own w' w.heap.size v (if q = p then l else []) ∧ Below w.heap.size w w' := by
  have hk' := (kindOk_iff k).1 hk
  have h := unpack_any w q (pageP k p l) (pageP_byts k p l (by omega) hl h8) sp cap hS
  rw [pageP_len k p l hl, unpack_page k p q l hk hp hl h8] at h
  by_cases e : q = p
  · simp only [if_pos e] at h ⊢; exact h
  · simp only [if_neg e] at h ⊢; exact h
set_option maxRecDepth 100000 in
set_option maxHeartbeats 1000000 in
theorem back_walk (w : World) (k p : Int) (zs : List Int) (h8 : Byts zs) (sp : Option Addr) (cap : Nat) (hS : Src w sp cap zs) (hlen : zs.length ≤ 140737488355000) (oth : Int) :
    Calls Try.prog 6 #[.int .i64 k, .int .i64 p, .slice sp zs.length cap, .int .i64 oth] w fun e w' => e = .returned (.bool true) ∧ Below w.heap.size w w' := by
  go_enter Try.func6, Try.ntmps6
  go_wp2_with fail
  refine (short_any w zs sp cap hS hlen 246 (by omega)).mono ?_
  rintro e w1 ⟨v, rfl, hO1, b1⟩
  obtain ⟨lp, lc, rfl, hl1, _⟩ := hO1.form
  have hl8 : Byts (zs.take 246) := h8.take 246
  have hll : (zs.take 246).length ≤ 246 := by rw [List.length_take]; omega
  generalize zs.take 246 = l at *
  clear hO1
  go_wp2_with fail
  refine (known_any w1).mono ?_
  rintro e w2 ⟨rfl, b2⟩
  have B2 := b1.trans (b2.mono b1.size)
  have hl2 := hl1.below b2 (Nat.le_refl _)
  clear b1 b2 hl1
  by_cases hkp : kindOk k = true ∧ placeOk p = true
  · obtain ⟨hk, hp⟩ := hkp
    obtain ⟨k1, k2⟩ := (kindOk_iff k).1 hk
    obtain ⟨p1, p2⟩ := (placeOk_iff p).1 hp
    have HK := hid hk
    have HP := hid hp
    have p3 : p ≤ 4095 := by omega
    clear hk hp
    go_wp2_with fail
    refine (copied_any w2 l lp lc hl2 (by omega)).mono ?_
    rintro e w3 ⟨v3, rfl, hO3, b3⟩
    obtain ⟨mp, mc, rfl, hm3, _⟩ := hO3.form
    have B3 := B2.trans (b3.mono B2.size)
    have hl3 := hl2.below b3 (Nat.le_refl _)
    clear hO3 b3 hl2 B2
    go_wp2_with fail
    refine (pack_ok w3 k p l hl8 HK.out HP.out hll mp mc hm3).mono ?_
    rintro e w4 ⟨g, rfl, hg, hr, b4⟩
    have B4 := B3.trans (b4.mono B3.size)
    have hl4 := hl3.below b4 (Nat.le_refl _)
    have hP4 := src_rowf hr 256 (by rw [pageP_len k p l hll]; exact Nat.le_refl _) (by decide)
    clear b4 hl3 B3 hr hm3
    have hu4 := unpack_to w4 p k p l HK.out HP.out hll hl8 _ _ hP4
    simp only [if_true] at hu4
    go_wp2_with fail
    refine hu4.mono ?_
    rintro e w5 ⟨v5, rfl, hO5, b5⟩
    obtain ⟨np, nc, rfl, hn5, _⟩ := hO5.form
    have B5 := B4.trans (b5.mono B4.size)
    have hl5 := hl4.below b5 (Nat.le_refl _)
    have hP5 := hP4.below b5 (Nat.le_refl _)
    clear b5 hl4 B4 hP4 hO5 hu4
    have hsm := same_any w5 l l lp np lc nc hl5 hn5
    rw [show decide (l = l) = true by simp] at hsm
    go_wp2_with fail
    refine hsm.mono ?_
    rintro e w6 ⟨rfl, b6⟩
    have B6 := B5.trans (b6.mono B5.size)
    have hP6 := hP5.below b6 (Nat.le_refl _)
    clear b6 B5 hP5 hsm hl5 hn5
    by_cases hop : oth = p
    · subst hop
      go_wp2
      go_ret
      exact ⟨rfl, B6⟩
    · have hu6 := unpack_to w6 oth k p l HK.out HP.out hll hl8 _ _ hP6
      simp only [if_neg hop] at hu6
      have hop2 : (oth == p) = false := by simpa using hop
      clear hop
      go_wp2_with fail
      refine hu6.mono ?_
      rintro e w7 ⟨v7, rfl, hO7, b7⟩
      obtain ⟨np, nc, rfl, _, _⟩ := hO7.form
      have B7 := B6.trans (b7.mono B6.size)
      clear b7 hu6 hO7
      go_wp2
      go_ret
      exact ⟨rfl, B7⟩
  · have hpb := pack_bad w2 k p l (fun h => hkp ⟨h.1, h.2.1⟩) (Nat.le_trans hl2.1 hl2.2.1) lp lc
    have hE : (packF k p l).2 ≠ 0 := by
      unfold packF
      cases h1 : kindOk k
      · simp
      · cases h2 : placeOk p
        · simp
        · exact absurd ⟨h1, h2⟩ hkp
    have hE2 : ((packF k p l).2 != 0) = true := by simpa using hE
    have hnr : k < 1 ∨ (1 ≤ k ∧ 3 < k) ∨ (1 ≤ k ∧ k ≤ 3 ∧ p < 2) ∨ (1 ≤ k ∧ k ≤ 3 ∧ 2 ≤ p ∧ 4095 < p) := by
      rw [kindOk_iff, placeOk_iff] at hkp; omega
    generalize (packF k p l).2 = E at *
    clear hE hkp
    rcases hnr with a1 | ⟨a1, a2⟩ | ⟨a1, a2, a3⟩ | ⟨a1, a2, a3, a4⟩
    all_goals
      go_wp2_with fail
      refine hpb.mono ?_
      rintro e w3 ⟨rfl, _, _, rfl⟩
      clear hpb
      go_wp2
      go_ret
      exact ⟨rfl, B2⟩
set_option maxRecDepth 100000 in
set_option maxHeartbeats 1000000 in
theorem only_walk (w : World) (p : Int) (zs : List Int) (h8 : Byts zs) (sp : Option Addr) (cap : Nat) (hS : Src w sp cap zs) (hlen : zs.length ≤ 140737488355000) :
    Calls Try.prog 4 #[.int .i64 p, .slice sp zs.length cap] w fun e w' => e = .returned (.bool true) ∧ Below w.heap.size w w' := by
  go_enter Try.func4, Try.ntmps4
  go_wp2_with fail
  refine (copied_any w zs sp cap hS hlen).mono ?_
  rintro e w1 ⟨v, rfl, hO1, b1⟩
  obtain ⟨lp, lc, rfl, hl1, _⟩ := hO1.form
  clear hO1
  go_wp2_with fail
  refine (known_any w1).mono ?_
  rintro e w2 ⟨rfl, b2⟩
  have B2 := b1.trans (b2.mono b1.size)
  have hl2 := hl1.below b2 (Nat.le_refl _)
  clear b1 b2 hl1
  go_wp2_with fail
  refine (copied_any w2 zs lp lc hl2 hlen).mono ?_
  rintro e w3 ⟨v3, rfl, hO3, b3⟩
  obtain ⟨mp, mc, rfl, hm3, _⟩ := hO3.form
  have B3 := B2.trans (b3.mono B2.size)
  have hl3 := hl2.below b3 (Nat.le_refl _)
  clear hO3 b3 hl2 B2
  have hu := unpack_any w3 p zs h8 mp mc hm3
  have HPU := hid (pack_unpack p zs h8)
  have HBAD := hid (unpack_bad p zs)
  have HU8 := hid (show Byts (unpackF p zs).2.1 by
    unfold unpackF
    repeat' split
    all_goals first | exact (h8.drop 6).take _ | exact fun x hx => by simp at hx)
  generalize unpackF p zs = U at *
  obtain ⟨k, l, E⟩ := U
  simp only at hu HPU HBAD HU8
  go_wp2_with fail
  refine hu.mono ?_
  rintro e w4 ⟨v4, rfl, hO4, b4⟩
  obtain ⟨np, nc, rfl, hn4, _⟩ := hO4.form
  have B4 := B3.trans (b4.mono B3.size)
  have hl4 := hl3.below b4 (Nat.le_refl _)
  clear hO4 b4 hl3 B3 hu hm3
  by_cases hE : E = 0
  · subst hE
    have HF := hid (HPU.out rfl)
    have hpk := pack_any w4 k p l HU8.out np nc hn4
    rw [HF.out] at hpk
    go_wp2_with fail
    refine hpk.mono ?_
    rintro e w5 ⟨v5, rfl, hN5, b5⟩
    obtain ⟨op, oc, rfl, ho5⟩ := hN5.src (by simp [maxLen]; omega)
    have B5 := B4.trans (b5.mono B4.size)
    have hl5 := hl4.below b5 (Nat.le_refl _)
    clear hpk b5 B4 hl4 hN5 hn4
    have hsm := same_any w5 zs zs op lp oc lc ho5 hl5
    rw [show decide (zs = zs) = true by simp] at hsm
    go_wp2_with fail
    refine hsm.mono ?_
    rintro e w6 ⟨rfl, b6⟩
    have B6 := B5.trans (b6.mono B5.size)
    clear hsm b6 B5
    go_wp2
    go_ret
    exact ⟨rfl, B6⟩
  · obtain ⟨rfl, rfl⟩ := HBAD.out hE
    have hE2 : (E != 0) = true := by simpa using hE
    clear hE
    go_wp2
    go_ret
    exact ⟨rfl, B4⟩
end Go.Proofs.Ytbddndcdcicnaaa
