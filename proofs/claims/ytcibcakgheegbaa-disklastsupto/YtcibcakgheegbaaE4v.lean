import Derived.Test.YtcibcakgheegbaaE4u
namespace Go.Proofs.Ytcibcakgheegbaa
set_option linter.unusedVariables false
set_option linter.unusedSimpArgs false
open Go.RowKit
attribute [local go_sem ↓] Go.wp_at_zero Go.wp_at_succ

set_option maxRecDepth 100000 in
set_option maxHeartbeats 2000000 in
theorem flips_neg (w : World) (n : Int) (hn0 : -9223372036854775808 ≤ n) (hn1 : n ≤ 9223372036854775807) (rs1 : List WR) (hr1 : ∀ r ∈ rs1, WrOk r) (sp1 : Option Addr) (cap1 : Nat) (W1 : Wrs w w.heap.size sp1 rs1) (hl1 : rs1.length ≤ 1048576) (pg0 : Int) (hpg : pg0 < 0) (bit0 : Int) (vp : Value) :
    Calls Try.prog 7 #[.int .i64 n, .slice sp1 rs1.length cap1, .int .i64 pg0, .int .i64 bit0, vp] w fun e w' => e = .returned (.bool true) ∧ Below w.heap.size w w' := by
  have q23 := nilp
  obtain ⟨k, hk⟩ : ∃ k, k = (n % 8).toNat + 3 := ⟨_, rfl⟩
  obtain ⟨Z, hZ⟩ : ∃ Z : List Int, Z = List.replicate (256 * k) 0 := ⟨_, rfl⟩
  have FR := hid (fun w => fresh_to w n hn0 hn1 k hk Z hZ)
  have hk3 : 3 ≤ k := by omega
  have hk4 : k ≤ 10 := by have := Int.emod_lt_of_pos n (show (0 : Int) < 8 by decide); omega
  have ik4 : (k : Int) ≤ 10 := by omega
  have HZ := hid hZ
  skip
  clear hZ hk
  have HL1 := hid (show (newD Z).ops.length + rs1.length ≤ 400000000000 by show 0 + rs1.length ≤ _; omega)
  have HL2 := hid (show (newD Z).writes + rs1.length ≤ 4000000000000000000 by show (0 : Int) + rs1.length ≤ _; omega)
  have T := TL.nil w w.heap.size (Nat.le_refl _)
  have T0 : w.heap.size ≤ w.heap.size := Nat.le_refl _
  have hB0 : Below w.heap.size w w := Below.refl _ _
  obtain ⟨B, hBB⟩ : ∃ B, B = w.heap.size := ⟨_, rfl⟩
  rw [← hBB] at W1 T hB0 ⊢
  replace T0 : B ≤ w.heap.size := by omega
  have HBB := hid hBB
  clear hBB
  have okN : DsOk (newD Z) := by rw [HZ.out]; exact newZ_ok hk3 (by omega)
  have npN : (newD Z).np = k := by rw [HZ.out]; exact emp_replicate k
  have okL := laid_ok okN hr1 HL1.out HL2.out
  have okX := sy0_ok okL (by show (0 : Int) < _; decide)
  have npX : ((newD Z).laid rs1).sy0.np = k := by rw [sy0_np okL, laid_np, npN]
  have HXL := hid (show ((newD Z).laid rs1).sy0.img.length = 256 * k by rw [okX.np.2.2.1, npX])
  have hlw : (((newD Z).laid rs1).sy0.img.length : Int) = 256 * (k : Int) := by rw [HXL.out]; omega
  have OKX := hid okX
  clear okN okL okX npN
  go_enter Try.func7, Try.ntmps7
  go_wp2_with fail
  refine (FR.out w).mono ?_
  rintro e w1 ⟨p1, Fp1, rfl, hD, hBx⟩
  have T := T.push hBx hD
  clear hD
  have hBy : Below B w w1 := hBx.mono T0
  have T0 : B ≤ w1.heap.size := Nat.le_trans T0 hBx.size
  have hB0 := hB0.trans hBy
  have W1 := W1.below hBy
  clear hBx hBy
  change TL B w1 [(p1, (newD Z))] [] at T
  go_wp2_with fail
  obtain ⟨F, hDA, hGF, hnx⟩ := T.at 0 (by simp)
  change DA w1 B F p1 (newD Z) at hDA
  change ∀ (w' : World) (D' : DS), Nx B F p1 w1 D' w' → TL B w' [(p1, D')] [] ∧ Below B w1 w' ∧ ∀ g ∈ [], w'.heap[g]? = w1.heap[g]? at hnx
  refine (lays_any w1 B F p1 (newD Z) hDA T0 rfl rfl rs1 hr1 sp1 cap1 W1 HL1.out HL2.out).mono ?_
  rintro e w2 ⟨rfl, hN⟩
  obtain ⟨T1, hBy, hKx⟩ := hnx _ _ hN
  clear hnx hDA hGF hN
  have hB0 := hB0.trans hBy
  have W1 := W1.below hBy
  have T0 : B ≤ w2.heap.size := T1.hb
  clear T hBy hKx
  have T := T1
  clear T1
  change TL B w2 [(p1, ((newD Z).laid rs1))] [] at T
  go_wp2_with fail
  obtain ⟨F, hDA, hGF, hnx⟩ := T.at 0 (by simp)
  change DA w2 B F p1 ((newD Z).laid rs1) at hDA
  change ∀ (w' : World) (D' : DS), Nx B F p1 w2 D' w' → TL B w' [(p1, D')] [] ∧ Below B w2 w' ∧ ∀ g ∈ [], w'.heap[g]? = w2.heap[g]? at hnx
  refine (Sync0_any w2 B F p1 ((newD Z).laid rs1) hDA rfl rfl (by show (0 : Int) < _; decide)).mono ?_
  rintro e w3 ⟨rfl, hN⟩
  obtain ⟨T1, hBy, hKx⟩ := hnx _ _ hN
  clear hnx hDA hGF hN
  have hB0 := hB0.trans hBy
  have W1 := W1.below hBy
  have T0 : B ≤ w3.heap.size := T1.hb
  clear T hBy hKx
  have T := T1
  clear T1
  change TL B w3 [(p1, ((newD Z).laid rs1).sy0)] [] at T
  go_wp2_with fail
  obtain ⟨F, hDA, hGF, hnx⟩ := T.at 0 (by simp)
  change DA w3 B F p1 ((newD Z).laid rs1).sy0 at hDA
  clear hnx
  refine (Pages_any w3 B F p1 _ hDA).mono ?_
  rintro e wx ⟨rfl, rfl⟩
  clear hDA hGF
  rw [npX]
  go_wp2_with fail
  obtain ⟨F, hDA, hGF, hnx⟩ := T.at 0 (by simp)
  change DA w3 B F p1 ((newD Z).laid rs1).sy0 at hDA
  clear hnx hGF
  refine (Image_any w3 B F p1 _ hDA).mono ?_
  rintro e w4 ⟨vw, rfl, hO, hBx⟩
  have hzz : 0 < (((newD Z).laid rs1).sy0.img).length := by rw [himl _ hDA.ok]; have := hDA.ok.np.1; omega
  obtain ⟨gvw, T1, LW, hgBvw⟩ := T.listb hBx hO hzz
  have hBy : Below B w3 w4 := hBx.mono T0
  have T0 : B ≤ w4.heap.size := T1.hb
  have hB0 := hB0.trans hBy
  have W1 := W1.below hBy
  clear T hBx hBy hO hzz
  have T := T1
  clear T1
  change TL B w4 [(p1, ((newD Z).laid rs1).sy0)] (gvw :: []) at T
  clear hDA
  obtain ⟨spw, capw, hvw, _, _⟩ := LW.form
  subst hvw
  go_wp2_with fail
  obtain ⟨F, hDA, hGF, hnx⟩ := T.at 0 (by simp)
  change DA w4 B F p1 ((newD Z).laid rs1).sy0 at hDA
  clear hnx
  refine (Flip_no w4 B F p1 _ hDA pg0 (Or.inl hpg) bit0 vp).mono ?_
  rintro e wx ⟨rfl, rfl⟩
  clear hDA hGF
  go_wp2_with fail
  obtain ⟨F, hDA, hGF, hnx⟩ := T.at 0 (by simp)
  change DA w4 B F p1 ((newD Z).laid rs1).sy0 at hDA
  clear hnx hGF
  refine (Image_any w4 B F p1 _ hDA).mono ?_
  rintro e w5 ⟨vn, rfl, hO, hBx⟩
  have hzz : 0 < (((newD Z).laid rs1).sy0.img).length := by rw [himl _ hDA.ok]; have := hDA.ok.np.1; omega
  obtain ⟨gvn, T1, LN, hgBvn⟩ := T.listb hBx hO hzz
  have hBy : Below B w4 w5 := hBx.mono T0
  have T0 : B ≤ w5.heap.size := T1.hb
  have hB0 := hB0.trans hBy
  have W1 := W1.below hBy
  have LW := LW.below hBx
  have LW := LW.mono gvn
  clear T hBx hBy hO hzz
  have T := T1
  clear T1
  change TL B w5 [(p1, ((newD Z).laid rs1).sy0)] (gvn :: (gvw :: [])) at T
  clear hDA
  obtain ⟨spn, capn, hvn, _, _⟩ := LN.form
  subst hvn
  go_wp2_with fail
  obtain ⟨s3, c3, hv3, hs3, _⟩ := LN.form
  simp only [Value.slice.injEq] at hv3
  obtain ⟨rfl, _, rfl⟩ := hv3
  obtain ⟨s4, c4, hv4, hs4, _⟩ := LW.form
  simp only [Value.slice.injEq] at hv4
  obtain ⟨rfl, _, rfl⟩ := hv4
  refine (same_to w5 ((newD Z).laid rs1).sy0.img ((newD Z).laid rs1).sy0.img _ _ _ _ hs3 hs4 _ _ (by first | rfl | (rw [HXL.out]; omega)) (by first | rfl | (rw [HXL.out]; omega))).mono ?_
  rintro e w6 ⟨rfl, hBx⟩
  have T := T.below hBx
  have hBy : Below B w5 w6 := hBx.mono T0
  have T0 : B ≤ w6.heap.size := T.hb
  have hB0 := hB0.trans hBy
  have W1 := W1.below hBy
  have LW := LW.below hBx
  have LN := LN.below hBx
  clear hBx hBy
  rw [decide_eq_true rfl]
  go_wp2_with fail
  go_ret
  exact ⟨rfl, hB0⟩
set_option maxRecDepth 100000 in
set_option maxHeartbeats 2000000 in
theorem flips_big (w : World) (n : Int) (hn0 : -9223372036854775808 ≤ n) (hn1 : n ≤ 9223372036854775807) (rs1 : List WR) (hr1 : ∀ r ∈ rs1, WrOk r) (sp1 : Option Addr) (cap1 : Nat) (W1 : Wrs w w.heap.size sp1 rs1) (hl1 : rs1.length ≤ 1048576) (pg0 : Int) (hpg : (((n % 8).toNat + 3 : Nat) : Int) ≤ pg0) (bit0 : Int) (vp : Value) :
    Calls Try.prog 7 #[.int .i64 n, .slice sp1 rs1.length cap1, .int .i64 pg0, .int .i64 bit0, vp] w fun e w' => e = .returned (.bool true) ∧ Below w.heap.size w w' := by
  have q23 := nilp
  obtain ⟨k, hk⟩ : ∃ k, k = (n % 8).toNat + 3 := ⟨_, rfl⟩
  obtain ⟨Z, hZ⟩ : ∃ Z : List Int, Z = List.replicate (256 * k) 0 := ⟨_, rfl⟩
  have FR := hid (fun w => fresh_to w n hn0 hn1 k hk Z hZ)
  have hk3 : 3 ≤ k := by omega
  have hk4 : k ≤ 10 := by have := Int.emod_lt_of_pos n (show (0 : Int) < 8 by decide); omega
  have ik4 : (k : Int) ≤ 10 := by omega
  have HZ := hid hZ
  rw [← hk] at hpg
  have hpg0 : ¬ pg0 < 0 := by omega
  clear hZ hk
  have HL1 := hid (show (newD Z).ops.length + rs1.length ≤ 400000000000 by show 0 + rs1.length ≤ _; omega)
  have HL2 := hid (show (newD Z).writes + rs1.length ≤ 4000000000000000000 by show (0 : Int) + rs1.length ≤ _; omega)
  have T := TL.nil w w.heap.size (Nat.le_refl _)
  have T0 : w.heap.size ≤ w.heap.size := Nat.le_refl _
  have hB0 : Below w.heap.size w w := Below.refl _ _
  obtain ⟨B, hBB⟩ : ∃ B, B = w.heap.size := ⟨_, rfl⟩
  rw [← hBB] at W1 T hB0 ⊢
  replace T0 : B ≤ w.heap.size := by omega
  have HBB := hid hBB
  clear hBB
  have okN : DsOk (newD Z) := by rw [HZ.out]; exact newZ_ok hk3 (by omega)
  have npN : (newD Z).np = k := by rw [HZ.out]; exact emp_replicate k
  have okL := laid_ok okN hr1 HL1.out HL2.out
  have okX := sy0_ok okL (by show (0 : Int) < _; decide)
  have npX : ((newD Z).laid rs1).sy0.np = k := by rw [sy0_np okL, laid_np, npN]
  have HXL := hid (show ((newD Z).laid rs1).sy0.img.length = 256 * k by rw [okX.np.2.2.1, npX])
  have hlw : (((newD Z).laid rs1).sy0.img.length : Int) = 256 * (k : Int) := by rw [HXL.out]; omega
  have OKX := hid okX
  clear okN okL okX npN
  go_enter Try.func7, Try.ntmps7
  go_wp2_with fail
  refine (FR.out w).mono ?_
  rintro e w1 ⟨p1, Fp1, rfl, hD, hBx⟩
  have T := T.push hBx hD
  clear hD
  have hBy : Below B w w1 := hBx.mono T0
  have T0 : B ≤ w1.heap.size := Nat.le_trans T0 hBx.size
  have hB0 := hB0.trans hBy
  have W1 := W1.below hBy
  clear hBx hBy
  change TL B w1 [(p1, (newD Z))] [] at T
  go_wp2_with fail
  obtain ⟨F, hDA, hGF, hnx⟩ := T.at 0 (by simp)
  change DA w1 B F p1 (newD Z) at hDA
  change ∀ (w' : World) (D' : DS), Nx B F p1 w1 D' w' → TL B w' [(p1, D')] [] ∧ Below B w1 w' ∧ ∀ g ∈ [], w'.heap[g]? = w1.heap[g]? at hnx
  refine (lays_any w1 B F p1 (newD Z) hDA T0 rfl rfl rs1 hr1 sp1 cap1 W1 HL1.out HL2.out).mono ?_
  rintro e w2 ⟨rfl, hN⟩
  obtain ⟨T1, hBy, hKx⟩ := hnx _ _ hN
  clear hnx hDA hGF hN
  have hB0 := hB0.trans hBy
  have W1 := W1.below hBy
  have T0 : B ≤ w2.heap.size := T1.hb
  clear T hBy hKx
  have T := T1
  clear T1
  change TL B w2 [(p1, ((newD Z).laid rs1))] [] at T
  go_wp2_with fail
  obtain ⟨F, hDA, hGF, hnx⟩ := T.at 0 (by simp)
  change DA w2 B F p1 ((newD Z).laid rs1) at hDA
  change ∀ (w' : World) (D' : DS), Nx B F p1 w2 D' w' → TL B w' [(p1, D')] [] ∧ Below B w2 w' ∧ ∀ g ∈ [], w'.heap[g]? = w2.heap[g]? at hnx
  refine (Sync0_any w2 B F p1 ((newD Z).laid rs1) hDA rfl rfl (by show (0 : Int) < _; decide)).mono ?_
  rintro e w3 ⟨rfl, hN⟩
  obtain ⟨T1, hBy, hKx⟩ := hnx _ _ hN
  clear hnx hDA hGF hN
  have hB0 := hB0.trans hBy
  have W1 := W1.below hBy
  have T0 : B ≤ w3.heap.size := T1.hb
  clear T hBy hKx
  have T := T1
  clear T1
  change TL B w3 [(p1, ((newD Z).laid rs1).sy0)] [] at T
  go_wp2_with fail
  obtain ⟨F, hDA, hGF, hnx⟩ := T.at 0 (by simp)
  change DA w3 B F p1 ((newD Z).laid rs1).sy0 at hDA
  clear hnx
  refine (Pages_any w3 B F p1 _ hDA).mono ?_
  rintro e wx ⟨rfl, rfl⟩
  clear hDA hGF
  rw [npX]
  go_wp2_with fail
  obtain ⟨F, hDA, hGF, hnx⟩ := T.at 0 (by simp)
  change DA w3 B F p1 ((newD Z).laid rs1).sy0 at hDA
  clear hnx hGF
  refine (Image_any w3 B F p1 _ hDA).mono ?_
  rintro e w4 ⟨vw, rfl, hO, hBx⟩
  have hzz : 0 < (((newD Z).laid rs1).sy0.img).length := by rw [himl _ hDA.ok]; have := hDA.ok.np.1; omega
  obtain ⟨gvw, T1, LW, hgBvw⟩ := T.listb hBx hO hzz
  have hBy : Below B w3 w4 := hBx.mono T0
  have T0 : B ≤ w4.heap.size := T1.hb
  have hB0 := hB0.trans hBy
  have W1 := W1.below hBy
  clear T hBx hBy hO hzz
  have T := T1
  clear T1
  change TL B w4 [(p1, ((newD Z).laid rs1).sy0)] (gvw :: []) at T
  clear hDA
  obtain ⟨spw, capw, hvw, _, _⟩ := LW.form
  subst hvw
  go_wp2_with fail
  obtain ⟨F, hDA, hGF, hnx⟩ := T.at 0 (by simp)
  change DA w4 B F p1 ((newD Z).laid rs1).sy0 at hDA
  clear hnx
  refine (Flip_no w4 B F p1 _ hDA pg0 (Or.inr (by rw [npX]; exact hpg)) bit0 vp).mono ?_
  rintro e wx ⟨rfl, rfl⟩
  clear hDA hGF
  go_wp2_with fail
  obtain ⟨F, hDA, hGF, hnx⟩ := T.at 0 (by simp)
  change DA w4 B F p1 ((newD Z).laid rs1).sy0 at hDA
  clear hnx hGF
  refine (Image_any w4 B F p1 _ hDA).mono ?_
  rintro e w5 ⟨vn, rfl, hO, hBx⟩
  have hzz : 0 < (((newD Z).laid rs1).sy0.img).length := by rw [himl _ hDA.ok]; have := hDA.ok.np.1; omega
  obtain ⟨gvn, T1, LN, hgBvn⟩ := T.listb hBx hO hzz
  have hBy : Below B w4 w5 := hBx.mono T0
  have T0 : B ≤ w5.heap.size := T1.hb
  have hB0 := hB0.trans hBy
  have W1 := W1.below hBy
  have LW := LW.below hBx
  have LW := LW.mono gvn
  clear T hBx hBy hO hzz
  have T := T1
  clear T1
  change TL B w5 [(p1, ((newD Z).laid rs1).sy0)] (gvn :: (gvw :: [])) at T
  clear hDA
  obtain ⟨spn, capn, hvn, _, _⟩ := LN.form
  subst hvn
  go_wp2_with fail
  obtain ⟨s3, c3, hv3, hs3, _⟩ := LN.form
  simp only [Value.slice.injEq] at hv3
  obtain ⟨rfl, _, rfl⟩ := hv3
  obtain ⟨s4, c4, hv4, hs4, _⟩ := LW.form
  simp only [Value.slice.injEq] at hv4
  obtain ⟨rfl, _, rfl⟩ := hv4
  refine (same_to w5 ((newD Z).laid rs1).sy0.img ((newD Z).laid rs1).sy0.img _ _ _ _ hs3 hs4 _ _ (by first | rfl | (rw [HXL.out]; omega)) (by first | rfl | (rw [HXL.out]; omega))).mono ?_
  rintro e w6 ⟨rfl, hBx⟩
  have T := T.below hBx
  have hBy : Below B w5 w6 := hBx.mono T0
  have T0 : B ≤ w6.heap.size := T.hb
  have hB0 := hB0.trans hBy
  have W1 := W1.below hBy
  have LW := LW.below hBx
  have LN := LN.below hBx
  clear hBx hBy
  rw [decide_eq_true rfl]
  go_wp2_with fail
  go_ret
  exact ⟨rfl, hB0⟩
set_option maxRecDepth 100000 in
set_option maxHeartbeats 2000000 in
theorem flips_bit (w : World) (n : Int) (hn0 : -9223372036854775808 ≤ n) (hn1 : n ≤ 9223372036854775807) (rs1 : List WR) (hr1 : ∀ r ∈ rs1, WrOk r) (sp1 : Option Addr) (cap1 : Nat) (W1 : Wrs w w.heap.size sp1 rs1) (hl1 : rs1.length ≤ 1048576) (pg0 : Int) (hpg0 : ¬ pg0 < 0) (hpg : pg0 < (((n % 8).toNat + 3 : Nat) : Int)) (bit0 : Int) (hb : bit0 < 0) (vp : Value) :
    Calls Try.prog 7 #[.int .i64 n, .slice sp1 rs1.length cap1, .int .i64 pg0, .int .i64 bit0, vp] w fun e w' => e = .returned (.bool true) ∧ Below w.heap.size w w' := by
  have q23 := nilp
  obtain ⟨k, hk⟩ : ∃ k, k = (n % 8).toNat + 3 := ⟨_, rfl⟩
  obtain ⟨Z, hZ⟩ : ∃ Z : List Int, Z = List.replicate (256 * k) 0 := ⟨_, rfl⟩
  have FR := hid (fun w => fresh_to w n hn0 hn1 k hk Z hZ)
  have hk3 : 3 ≤ k := by omega
  have hk4 : k ≤ 10 := by have := Int.emod_lt_of_pos n (show (0 : Int) < 8 by decide); omega
  have ik4 : (k : Int) ≤ 10 := by omega
  have HZ := hid hZ
  rw [← hk] at hpg
  clear hZ hk
  have HL1 := hid (show (newD Z).ops.length + rs1.length ≤ 400000000000 by show 0 + rs1.length ≤ _; omega)
  have HL2 := hid (show (newD Z).writes + rs1.length ≤ 4000000000000000000 by show (0 : Int) + rs1.length ≤ _; omega)
  have T := TL.nil w w.heap.size (Nat.le_refl _)
  have T0 : w.heap.size ≤ w.heap.size := Nat.le_refl _
  have hB0 : Below w.heap.size w w := Below.refl _ _
  obtain ⟨B, hBB⟩ : ∃ B, B = w.heap.size := ⟨_, rfl⟩
  rw [← hBB] at W1 T hB0 ⊢
  replace T0 : B ≤ w.heap.size := by omega
  have HBB := hid hBB
  clear hBB
  have okN : DsOk (newD Z) := by rw [HZ.out]; exact newZ_ok hk3 (by omega)
  have npN : (newD Z).np = k := by rw [HZ.out]; exact emp_replicate k
  have okL := laid_ok okN hr1 HL1.out HL2.out
  have okX := sy0_ok okL (by show (0 : Int) < _; decide)
  have npX : ((newD Z).laid rs1).sy0.np = k := by rw [sy0_np okL, laid_np, npN]
  have HXL := hid (show ((newD Z).laid rs1).sy0.img.length = 256 * k by rw [okX.np.2.2.1, npX])
  have hlw : (((newD Z).laid rs1).sy0.img.length : Int) = 256 * (k : Int) := by rw [HXL.out]; omega
  have OKX := hid okX
  clear okN okL okX npN
  go_enter Try.func7, Try.ntmps7
  go_wp2_with fail
  refine (FR.out w).mono ?_
  rintro e w1 ⟨p1, Fp1, rfl, hD, hBx⟩
  have T := T.push hBx hD
  clear hD
  have hBy : Below B w w1 := hBx.mono T0
  have T0 : B ≤ w1.heap.size := Nat.le_trans T0 hBx.size
  have hB0 := hB0.trans hBy
  have W1 := W1.below hBy
  clear hBx hBy
  change TL B w1 [(p1, (newD Z))] [] at T
  go_wp2_with fail
  obtain ⟨F, hDA, hGF, hnx⟩ := T.at 0 (by simp)
  change DA w1 B F p1 (newD Z) at hDA
  change ∀ (w' : World) (D' : DS), Nx B F p1 w1 D' w' → TL B w' [(p1, D')] [] ∧ Below B w1 w' ∧ ∀ g ∈ [], w'.heap[g]? = w1.heap[g]? at hnx
  refine (lays_any w1 B F p1 (newD Z) hDA T0 rfl rfl rs1 hr1 sp1 cap1 W1 HL1.out HL2.out).mono ?_
  rintro e w2 ⟨rfl, hN⟩
  obtain ⟨T1, hBy, hKx⟩ := hnx _ _ hN
  clear hnx hDA hGF hN
  have hB0 := hB0.trans hBy
  have W1 := W1.below hBy
  have T0 : B ≤ w2.heap.size := T1.hb
  clear T hBy hKx
  have T := T1
  clear T1
  change TL B w2 [(p1, ((newD Z).laid rs1))] [] at T
  go_wp2_with fail
  obtain ⟨F, hDA, hGF, hnx⟩ := T.at 0 (by simp)
  change DA w2 B F p1 ((newD Z).laid rs1) at hDA
  change ∀ (w' : World) (D' : DS), Nx B F p1 w2 D' w' → TL B w' [(p1, D')] [] ∧ Below B w2 w' ∧ ∀ g ∈ [], w'.heap[g]? = w2.heap[g]? at hnx
  refine (Sync0_any w2 B F p1 ((newD Z).laid rs1) hDA rfl rfl (by show (0 : Int) < _; decide)).mono ?_
  rintro e w3 ⟨rfl, hN⟩
  obtain ⟨T1, hBy, hKx⟩ := hnx _ _ hN
  clear hnx hDA hGF hN
  have hB0 := hB0.trans hBy
  have W1 := W1.below hBy
  have T0 : B ≤ w3.heap.size := T1.hb
  clear T hBy hKx
  have T := T1
  clear T1
  change TL B w3 [(p1, ((newD Z).laid rs1).sy0)] [] at T
  go_wp2_with fail
  obtain ⟨F, hDA, hGF, hnx⟩ := T.at 0 (by simp)
  change DA w3 B F p1 ((newD Z).laid rs1).sy0 at hDA
  clear hnx
  refine (Pages_any w3 B F p1 _ hDA).mono ?_
  rintro e wx ⟨rfl, rfl⟩
  clear hDA hGF
  rw [npX]
  go_wp2_with fail
  obtain ⟨F, hDA, hGF, hnx⟩ := T.at 0 (by simp)
  change DA w3 B F p1 ((newD Z).laid rs1).sy0 at hDA
  clear hnx hGF
  refine (Image_any w3 B F p1 _ hDA).mono ?_
  rintro e w4 ⟨vw, rfl, hO, hBx⟩
  have hzz : 0 < (((newD Z).laid rs1).sy0.img).length := by rw [himl _ hDA.ok]; have := hDA.ok.np.1; omega
  obtain ⟨gvw, T1, LW, hgBvw⟩ := T.listb hBx hO hzz
  have hBy : Below B w3 w4 := hBx.mono T0
  have T0 : B ≤ w4.heap.size := T1.hb
  have hB0 := hB0.trans hBy
  have W1 := W1.below hBy
  clear T hBx hBy hO hzz
  have T := T1
  clear T1
  change TL B w4 [(p1, ((newD Z).laid rs1).sy0)] (gvw :: []) at T
  clear hDA
  obtain ⟨spw, capw, hvw, _, _⟩ := LW.form
  subst hvw
  go_wp2_with fail
  obtain ⟨F, hDA, hGF, hnx⟩ := T.at 0 (by simp)
  change DA w4 B F p1 ((newD Z).laid rs1).sy0 at hDA
  clear hnx
  refine (Flip_out w4 B F p1 _ hDA pg0 ⟨by omega, by rw [npX]; exact hpg⟩ bit0 (Or.inl hb) vp).mono ?_
  rintro e wx ⟨rfl, rfl⟩
  clear hDA hGF
  go_wp2_with fail
  obtain ⟨F, hDA, hGF, hnx⟩ := T.at 0 (by simp)
  change DA w4 B F p1 ((newD Z).laid rs1).sy0 at hDA
  clear hnx hGF
  refine (Image_any w4 B F p1 _ hDA).mono ?_
  rintro e w5 ⟨vn, rfl, hO, hBx⟩
  have hzz : 0 < (((newD Z).laid rs1).sy0.img).length := by rw [himl _ hDA.ok]; have := hDA.ok.np.1; omega
  obtain ⟨gvn, T1, LN, hgBvn⟩ := T.listb hBx hO hzz
  have hBy : Below B w4 w5 := hBx.mono T0
  have T0 : B ≤ w5.heap.size := T1.hb
  have hB0 := hB0.trans hBy
  have W1 := W1.below hBy
  have LW := LW.below hBx
  have LW := LW.mono gvn
  clear T hBx hBy hO hzz
  have T := T1
  clear T1
  change TL B w5 [(p1, ((newD Z).laid rs1).sy0)] (gvn :: (gvw :: [])) at T
  clear hDA
  obtain ⟨spn, capn, hvn, _, _⟩ := LN.form
  subst hvn
  go_wp2_with fail
  obtain ⟨s3, c3, hv3, hs3, _⟩ := LN.form
  simp only [Value.slice.injEq] at hv3
  obtain ⟨rfl, _, rfl⟩ := hv3
  obtain ⟨s4, c4, hv4, hs4, _⟩ := LW.form
  simp only [Value.slice.injEq] at hv4
  obtain ⟨rfl, _, rfl⟩ := hv4
  refine (same_to w5 ((newD Z).laid rs1).sy0.img ((newD Z).laid rs1).sy0.img _ _ _ _ hs3 hs4 _ _ (by first | rfl | (rw [HXL.out]; omega)) (by first | rfl | (rw [HXL.out]; omega))).mono ?_
  rintro e w6 ⟨rfl, hBx⟩
  have T := T.below hBx
  have hBy : Below B w5 w6 := hBx.mono T0
  have T0 : B ≤ w6.heap.size := T.hb
  have hB0 := hB0.trans hBy
  have W1 := W1.below hBy
  have LW := LW.below hBx
  have LN := LN.below hBx
  clear hBx hBy
  rw [decide_eq_true rfl]
  go_wp2_with fail
  go_ret
  exact ⟨rfl, hB0⟩
set_option maxRecDepth 100000 in
set_option maxHeartbeats 2000000 in
theorem flips_out (w : World) (n : Int) (hn0 : -9223372036854775808 ≤ n) (hn1 : n ≤ 9223372036854775807) (rs1 : List WR) (hr1 : ∀ r ∈ rs1, WrOk r) (sp1 : Option Addr) (cap1 : Nat) (W1 : Wrs w w.heap.size sp1 rs1) (hl1 : rs1.length ≤ 1048576) (pg0 : Int) (hpg0 : ¬ pg0 < 0) (hpg : pg0 < (((n % 8).toNat + 3 : Nat) : Int)) (bit0 : Int) (hb : 2048 ≤ bit0) (vp : Value) :
    Calls Try.prog 7 #[.int .i64 n, .slice sp1 rs1.length cap1, .int .i64 pg0, .int .i64 bit0, vp] w fun e w' => e = .returned (.bool true) ∧ Below w.heap.size w w' := by
  have q23 := nilp
  obtain ⟨k, hk⟩ : ∃ k, k = (n % 8).toNat + 3 := ⟨_, rfl⟩
  obtain ⟨Z, hZ⟩ : ∃ Z : List Int, Z = List.replicate (256 * k) 0 := ⟨_, rfl⟩
  have FR := hid (fun w => fresh_to w n hn0 hn1 k hk Z hZ)
  have hk3 : 3 ≤ k := by omega
  have hk4 : k ≤ 10 := by have := Int.emod_lt_of_pos n (show (0 : Int) < 8 by decide); omega
  have ik4 : (k : Int) ≤ 10 := by omega
  have HZ := hid hZ
  rw [← hk] at hpg
  have hb0 : ¬ bit0 < 0 := by omega
  clear hZ hk
  have HL1 := hid (show (newD Z).ops.length + rs1.length ≤ 400000000000 by show 0 + rs1.length ≤ _; omega)
  have HL2 := hid (show (newD Z).writes + rs1.length ≤ 4000000000000000000 by show (0 : Int) + rs1.length ≤ _; omega)
  have T := TL.nil w w.heap.size (Nat.le_refl _)
  have T0 : w.heap.size ≤ w.heap.size := Nat.le_refl _
  have hB0 : Below w.heap.size w w := Below.refl _ _
  obtain ⟨B, hBB⟩ : ∃ B, B = w.heap.size := ⟨_, rfl⟩
  rw [← hBB] at W1 T hB0 ⊢
  replace T0 : B ≤ w.heap.size := by omega
  have HBB := hid hBB
  clear hBB
  have okN : DsOk (newD Z) := by rw [HZ.out]; exact newZ_ok hk3 (by omega)
  have npN : (newD Z).np = k := by rw [HZ.out]; exact emp_replicate k
  have okL := laid_ok okN hr1 HL1.out HL2.out
  have okX := sy0_ok okL (by show (0 : Int) < _; decide)
  have npX : ((newD Z).laid rs1).sy0.np = k := by rw [sy0_np okL, laid_np, npN]
  have HXL := hid (show ((newD Z).laid rs1).sy0.img.length = 256 * k by rw [okX.np.2.2.1, npX])
  have hlw : (((newD Z).laid rs1).sy0.img.length : Int) = 256 * (k : Int) := by rw [HXL.out]; omega
  have OKX := hid okX
  clear okN okL okX npN
  go_enter Try.func7, Try.ntmps7
  go_wp2_with fail
  refine (FR.out w).mono ?_
  rintro e w1 ⟨p1, Fp1, rfl, hD, hBx⟩
  have T := T.push hBx hD
  clear hD
  have hBy : Below B w w1 := hBx.mono T0
  have T0 : B ≤ w1.heap.size := Nat.le_trans T0 hBx.size
  have hB0 := hB0.trans hBy
  have W1 := W1.below hBy
  clear hBx hBy
  change TL B w1 [(p1, (newD Z))] [] at T
  go_wp2_with fail
  obtain ⟨F, hDA, hGF, hnx⟩ := T.at 0 (by simp)
  change DA w1 B F p1 (newD Z) at hDA
  change ∀ (w' : World) (D' : DS), Nx B F p1 w1 D' w' → TL B w' [(p1, D')] [] ∧ Below B w1 w' ∧ ∀ g ∈ [], w'.heap[g]? = w1.heap[g]? at hnx
  refine (lays_any w1 B F p1 (newD Z) hDA T0 rfl rfl rs1 hr1 sp1 cap1 W1 HL1.out HL2.out).mono ?_
  rintro e w2 ⟨rfl, hN⟩
  obtain ⟨T1, hBy, hKx⟩ := hnx _ _ hN
  clear hnx hDA hGF hN
  have hB0 := hB0.trans hBy
  have W1 := W1.below hBy
  have T0 : B ≤ w2.heap.size := T1.hb
  clear T hBy hKx
  have T := T1
  clear T1
  change TL B w2 [(p1, ((newD Z).laid rs1))] [] at T
  go_wp2_with fail
  obtain ⟨F, hDA, hGF, hnx⟩ := T.at 0 (by simp)
  change DA w2 B F p1 ((newD Z).laid rs1) at hDA
  change ∀ (w' : World) (D' : DS), Nx B F p1 w2 D' w' → TL B w' [(p1, D')] [] ∧ Below B w2 w' ∧ ∀ g ∈ [], w'.heap[g]? = w2.heap[g]? at hnx
  refine (Sync0_any w2 B F p1 ((newD Z).laid rs1) hDA rfl rfl (by show (0 : Int) < _; decide)).mono ?_
  rintro e w3 ⟨rfl, hN⟩
  obtain ⟨T1, hBy, hKx⟩ := hnx _ _ hN
  clear hnx hDA hGF hN
  have hB0 := hB0.trans hBy
  have W1 := W1.below hBy
  have T0 : B ≤ w3.heap.size := T1.hb
  clear T hBy hKx
  have T := T1
  clear T1
  change TL B w3 [(p1, ((newD Z).laid rs1).sy0)] [] at T
  go_wp2_with fail
  obtain ⟨F, hDA, hGF, hnx⟩ := T.at 0 (by simp)
  change DA w3 B F p1 ((newD Z).laid rs1).sy0 at hDA
  clear hnx
  refine (Pages_any w3 B F p1 _ hDA).mono ?_
  rintro e wx ⟨rfl, rfl⟩
  clear hDA hGF
  rw [npX]
  go_wp2_with fail
  obtain ⟨F, hDA, hGF, hnx⟩ := T.at 0 (by simp)
  change DA w3 B F p1 ((newD Z).laid rs1).sy0 at hDA
  clear hnx hGF
  refine (Image_any w3 B F p1 _ hDA).mono ?_
  rintro e w4 ⟨vw, rfl, hO, hBx⟩
  have hzz : 0 < (((newD Z).laid rs1).sy0.img).length := by rw [himl _ hDA.ok]; have := hDA.ok.np.1; omega
  obtain ⟨gvw, T1, LW, hgBvw⟩ := T.listb hBx hO hzz
  have hBy : Below B w3 w4 := hBx.mono T0
  have T0 : B ≤ w4.heap.size := T1.hb
  have hB0 := hB0.trans hBy
  have W1 := W1.below hBy
  clear T hBx hBy hO hzz
  have T := T1
  clear T1
  change TL B w4 [(p1, ((newD Z).laid rs1).sy0)] (gvw :: []) at T
  clear hDA
  obtain ⟨spw, capw, hvw, _, _⟩ := LW.form
  subst hvw
  go_wp2_with fail
  obtain ⟨F, hDA, hGF, hnx⟩ := T.at 0 (by simp)
  change DA w4 B F p1 ((newD Z).laid rs1).sy0 at hDA
  clear hnx
  refine (Flip_out w4 B F p1 _ hDA pg0 ⟨by omega, by rw [npX]; exact hpg⟩ bit0 (Or.inr hb) vp).mono ?_
  rintro e wx ⟨rfl, rfl⟩
  clear hDA hGF
  go_wp2_with fail
  obtain ⟨F, hDA, hGF, hnx⟩ := T.at 0 (by simp)
  change DA w4 B F p1 ((newD Z).laid rs1).sy0 at hDA
  clear hnx hGF
  refine (Image_any w4 B F p1 _ hDA).mono ?_
  rintro e w5 ⟨vn, rfl, hO, hBx⟩
  have hzz : 0 < (((newD Z).laid rs1).sy0.img).length := by rw [himl _ hDA.ok]; have := hDA.ok.np.1; omega
  obtain ⟨gvn, T1, LN, hgBvn⟩ := T.listb hBx hO hzz
  have hBy : Below B w4 w5 := hBx.mono T0
  have T0 : B ≤ w5.heap.size := T1.hb
  have hB0 := hB0.trans hBy
  have W1 := W1.below hBy
  have LW := LW.below hBx
  have LW := LW.mono gvn
  clear T hBx hBy hO hzz
  have T := T1
  clear T1
  change TL B w5 [(p1, ((newD Z).laid rs1).sy0)] (gvn :: (gvw :: [])) at T
  clear hDA
  obtain ⟨spn, capn, hvn, _, _⟩ := LN.form
  subst hvn
  go_wp2_with fail
  obtain ⟨s3, c3, hv3, hs3, _⟩ := LN.form
  simp only [Value.slice.injEq] at hv3
  obtain ⟨rfl, _, rfl⟩ := hv3
  obtain ⟨s4, c4, hv4, hs4, _⟩ := LW.form
  simp only [Value.slice.injEq] at hv4
  obtain ⟨rfl, _, rfl⟩ := hv4
  refine (same_to w5 ((newD Z).laid rs1).sy0.img ((newD Z).laid rs1).sy0.img _ _ _ _ hs3 hs4 _ _ (by first | rfl | (rw [HXL.out]; omega)) (by first | rfl | (rw [HXL.out]; omega))).mono ?_
  rintro e w6 ⟨rfl, hBx⟩
  have T := T.below hBx
  have hBy : Below B w5 w6 := hBx.mono T0
  have T0 : B ≤ w6.heap.size := T.hb
  have hB0 := hB0.trans hBy
  have W1 := W1.below hBy
  have LW := LW.below hBx
  have LN := LN.below hBx
  clear hBx hBy
  rw [decide_eq_true rfl]
  go_wp2_with fail
  go_ret
  exact ⟨rfl, hB0⟩
end Go.Proofs.Ytcibcakgheegbaa
