import Derived.Test.YtcibcakgheegbaaE4q
namespace Go.Proofs.Ytcibcakgheegbaa
set_option linter.unusedVariables false
set_option linter.unusedSimpArgs false
open Go.RowKit
attribute [local go_sem ↓] Go.wp_at_zero Go.wp_at_succ

theorem Sync0_any (w : World) (base : Nat) (F : List Nat) (p : Nat) (D : DS) (h : DA w base F p D) (hpw : D.power = true) (ha : D.armed = 0) (hsy : D.syncs < 4000000000000000000) :
    Calls Try.prog 11 #[.pointer (some ⟨p, 0, none⟩)] w fun e w' => e = .returned (.int .i64 0) ∧ Nx base F p w D.sy0 w' := by
  have e : D.synced = D.sy0 := by unfold DS.synced DS.sy0 DS.acted; rw [if_pos ha]
  rw [← e]
  exact Sync_any w base F p D h hpw (by omega) hsy
theorem fresh_to (w : World) (n : Int) (h0 : -9223372036854775808 ≤ n) (h1 : n ≤ 9223372036854775807) (k : Nat) (hk : k = (n % 8).toNat + 3) (Z : List Int) (hZ : Z = List.replicate (256 * k) 0) :
    Calls Try.prog 9 #[.int .i64 n] w fun e w' => ∃ p F, e = .returned (.pointer (some ⟨p, 0, none⟩)) ∧ DA w' w.heap.size F p (newD Z) ∧ Below w.heap.size w w' := by
  refine (fresh_any w n h0 h1).mono ?_
  rintro e w' ⟨p, F, kk, rfl, hkk, hD, hB⟩
  rw [← hk] at hkk
  rw [hkk, ← hZ] at hD
  exact ⟨p, F, rfl, hD, hB⟩
theorem TL.listw {base : Nat} {w w' : World} {ds : List (Nat × DS)} {G : List Nat} (h : TL base w ds G) (hB : Below w.heap.size w w') {v : Value} {zs : List Int} (hO : Own w' w.heap.size v zs) (hG : G ≠ []) : ∃ g, TL base w' ds (g :: G) ∧ Lst w' (g :: G) v zs := by
  rcases hO.2 with ⟨rfl, h0⟩ | ⟨g, cap, cur, rfl, q1, q2, r⟩
  · obtain ⟨g, G', rfl⟩ : ∃ g G', G = g :: G' := by cases G with | nil => exact absurd rfl hG | cons a b => exact ⟨a, b, rfl⟩
    have h2 := h.below hB
    refine ⟨g, ⟨h2.hb, ?_⟩, hO.base_le (Nat.zero_le _), fun k e => by simp [Value.ownBlock] at e⟩
    obtain ⟨Fs, e1, e2, e3, e4⟩ := h2.ex
    refine ⟨Fs, e1, e2, e3, fun k hk => e4 k ?_⟩
    rcases List.mem_cons.1 hk with rfl | hk
    · simp
    · exact hk
  · exact ⟨g, h.hold hB q1 (hlt q2), hO.base_le (Nat.zero_le _), fun k e => by simp [Value.ownBlock] at e; rw [← e]; simp⟩
theorem bts_15 (n : Nat) : Bts (List.replicate n 15) := fun x hx => by simp at hx; omega
theorem crash_to (w : World) (base : Nat) (F : List Nat) (p : Nat) (D : DS) (h : DA w base F p D) (hep : D.epoch < 4000000000000000000) (fs : List Int) (hfb : Bts fs) (sp : Option Addr) (fcap : Nat) {G : List Nat} {l : Nat} (hL : Lst w G (.slice sp l fcap) fs) (l' : Nat) (hl : fs.length = l') (hGF : ∀ g ∈ G, g ∉ F) :
    Calls Try.prog 13 #[.pointer (some ⟨p, 0, none⟩), .slice sp l' fcap] w fun e w' => e = .returned (.int .i64 D.ops.length) ∧ Nx base F p w (D.crashed fs) w' := by
  subst hl
  obtain ⟨s, c, hv, hS, _⟩ := hL.form
  simp only [Value.slice.injEq] at hv
  obtain ⟨rfl, _, rfl⟩ := hv
  exact Crash_any w base F p D h hep fs hfb sp fcap hS (fun a _ ha => hGF _ (hL.2 _ (by rw [ha]; rfl)))
theorem himl (D : DS) (h : DsOk D) : D.img.length = 256 * D.np := h.np.2.2.1
theorem nilp (w : World) (a : Addr) : (binOp .eql 23 (.pointer (some a)) (.pointer none)).run Try.prog w = .ok (.bool false) w := by kernel_rfl
set_option maxRecDepth 100000 in
set_option maxHeartbeats 2000000 in
theorem whole_walk (w : World) (n : Int) (hn0 : -9223372036854775808 ≤ n) (hn1 : n ≤ 9223372036854775807) (rs1 rs2 : List WR) (hr1 : ∀ r ∈ rs1, WrOk r) (hr2 : ∀ r ∈ rs2, WrOk r) (sp1 sp2 : Option Addr) (cap1 cap2 : Nat) (W1 : Wrs w w.heap.size sp1 rs1) (W2 : Wrs w w.heap.size sp2 rs2) (hl1 : rs1.length ≤ 1048576) (hl2 : rs2.length ≤ 1048576) :
    Calls Try.prog 3 #[.int .i64 n, .slice sp1 rs1.length cap1, .slice sp2 rs2.length cap2] w fun e w' => e = .returned (.bool true) ∧ Below w.heap.size w w' := by
  have q23 := nilp
  obtain ⟨k, hk⟩ : ∃ k, k = (n % 8).toNat + 3 := ⟨_, rfl⟩
  obtain ⟨Z, hZ⟩ : ∃ Z : List Int, Z = List.replicate (256 * k) 0 := ⟨_, rfl⟩
  have FR := hid (fun w => fresh_to w n hn0 hn1 k hk Z hZ)
  have hzl : Z.length = 256 * k := by rw [hZ]; simp
  have hk3 : 3 ≤ k := by omega
  have hk4 : k ≤ 10 := by have := Int.emod_lt_of_pos n (show (0 : Int) < 8 by decide); omega
  have HZ := hid hZ
  clear hZ hk
  have HL1 := hid (show (newD Z).ops.length + rs1.length ≤ 400000000000 by show 0 + rs1.length ≤ _; omega)
  have HL2 := hid (show (newD Z).writes + rs1.length ≤ 4000000000000000000 by show (0 : Int) + rs1.length ≤ _; omega)
  have HL3 := hid (show ((newD Z).laid rs1).sy0.ops.length + rs2.length ≤ 400000000000 by show 0 + rs2.length ≤ _; omega)
  have HL4 := hid (show ((newD Z).laid rs1).sy0.writes + rs2.length ≤ 4000000000000000000 by show (0 : Int) + rs1.length + rs2.length ≤ _; omega)
  have T := TL.nil w w.heap.size (Nat.le_refl _)
  have T0 : w.heap.size ≤ w.heap.size := Nat.le_refl _
  have hB0 : Below w.heap.size w w := Below.refl _ _
  obtain ⟨B, hBB⟩ : ∃ B, B = w.heap.size := ⟨_, rfl⟩
  rw [← hBB] at W1 W2 T hB0 ⊢
  replace T0 : B ≤ w.heap.size := by omega
  have HBB := hid hBB
  clear hBB
  have okN : DsOk (newD Z) := by rw [HZ.out]; exact newZ_ok hk3 (by omega)
  have npN : (newD Z).np = k := by rw [HZ.out]; exact emp_replicate k
  have okL := laid_ok okN hr1 HL1.out HL2.out
  have okX := sy0_ok okL (by show (0 : Int) < _; decide)
  have npX : ((newD Z).laid rs1).sy0.np = k := by rw [sy0_np okL, laid_np, npN]
  have okY := laid_ok okX hr2 HL3.out HL4.out
  have hyl : (((newD Z).laid rs1).sy0.laid rs2).ops.length = rs2.length := by simp [DS.laid, DS.sy0]
  have EQ1 := hid (show (((newD Z).laid rs1).sy0.laid rs2).sy0.img = ((((newD Z).laid rs1).sy0.laid rs2).crashed (List.replicate rs2.length 15)).img from whole_img okY _ (Nat.le_of_eq hyl))
  have EQ2 := hid (show ((((newD Z).laid rs1).sy0.laid rs2).crashed []).img = ((newD Z).laid rs1).sy0.img from none_img _)
  have hcp : ((((newD Z).laid rs1).sy0.laid rs2).crashed []).np = k := by rw [crashed_np okY, laid_np, npX]
  have hwl0 := hid (show (((newD Z).laid rs1).sy0.img.length : Int) = 256 * (k : Int) by rw [okX.np.2.2.1, npX]; omega)
  clear okN npN okL okX npX okY
  go_enter Try.func3, Try.ntmps3
  go_wp2_with fail
  refine (FR.out w).mono ?_
  rintro e w1 ⟨p1, Fp1, rfl, hD, hBx⟩
  have T := T.push hBx hD
  clear hD
  have hBy : Below B w w1 := hBx.mono T0
  have T0 : B ≤ w1.heap.size := Nat.le_trans T0 hBx.size
  have hB0 := hB0.trans hBy
  have W1 := W1.below hBy
  have W2 := W2.below hBy
  clear hBx hBy
  change TL B w1 [(p1, (newD Z))] [] at T
  go_wp2_with fail
  refine (FR.out w1).mono ?_
  rintro e w2 ⟨p2, Fp2, rfl, hD, hBx⟩
  have T := T.push hBx hD
  clear hD
  have hBy : Below B w1 w2 := hBx.mono T0
  have T0 : B ≤ w2.heap.size := Nat.le_trans T0 hBx.size
  have hB0 := hB0.trans hBy
  have W1 := W1.below hBy
  have W2 := W2.below hBy
  clear hBx hBy
  change TL B w2 [(p1, (newD Z)), (p2, (newD Z))] [] at T
  go_wp2_with fail
  refine (FR.out w2).mono ?_
  rintro e w3 ⟨p3, Fp3, rfl, hD, hBx⟩
  have T := T.push hBx hD
  clear hD
  have hBy : Below B w2 w3 := hBx.mono T0
  have T0 : B ≤ w3.heap.size := Nat.le_trans T0 hBx.size
  have hB0 := hB0.trans hBy
  have W1 := W1.below hBy
  have W2 := W2.below hBy
  clear hBx hBy
  change TL B w3 [(p1, (newD Z)), (p2, (newD Z)), (p3, (newD Z))] [] at T
  go_wp2_with fail
  obtain ⟨F, hDA, hGF, hnx⟩ := T.at 0 (by simp)
  change DA w3 B F p1 (newD Z) at hDA
  change ∀ (w' : World) (D' : DS), Nx B F p1 w3 D' w' → TL B w' [(p1, D'), (p2, (newD Z)), (p3, (newD Z))] [] ∧ Below B w3 w' ∧ ∀ g ∈ [], w'.heap[g]? = w3.heap[g]? at hnx
  refine (lays_any w3 B F p1 (newD Z) hDA T0 rfl rfl rs1 hr1 sp1 cap1 W1 HL1.out HL2.out).mono ?_
  rintro e w4 ⟨rfl, hN⟩
  obtain ⟨T1, hBy, hKx⟩ := hnx _ _ hN
  clear hnx hDA hGF hN
  have hB0 := hB0.trans hBy
  have W1 := W1.below hBy
  have W2 := W2.below hBy
  have T0 : B ≤ w4.heap.size := T1.hb
  clear T hBy hKx
  have T := T1
  clear T1
  change TL B w4 [(p1, ((newD Z).laid rs1)), (p2, (newD Z)), (p3, (newD Z))] [] at T
  go_wp2_with fail
  obtain ⟨F, hDA, hGF, hnx⟩ := T.at 1 (by simp)
  change DA w4 B F p2 (newD Z) at hDA
  change ∀ (w' : World) (D' : DS), Nx B F p2 w4 D' w' → TL B w' [(p1, ((newD Z).laid rs1)), (p2, D'), (p3, (newD Z))] [] ∧ Below B w4 w' ∧ ∀ g ∈ [], w'.heap[g]? = w4.heap[g]? at hnx
  refine (lays_any w4 B F p2 (newD Z) hDA T0 rfl rfl rs1 hr1 sp1 cap1 W1 HL1.out HL2.out).mono ?_
  rintro e w5 ⟨rfl, hN⟩
  obtain ⟨T1, hBy, hKx⟩ := hnx _ _ hN
  clear hnx hDA hGF hN
  have hB0 := hB0.trans hBy
  have W1 := W1.below hBy
  have W2 := W2.below hBy
  have T0 : B ≤ w5.heap.size := T1.hb
  clear T hBy hKx
  have T := T1
  clear T1
  change TL B w5 [(p1, ((newD Z).laid rs1)), (p2, ((newD Z).laid rs1)), (p3, (newD Z))] [] at T
  go_wp2_with fail
  obtain ⟨F, hDA, hGF, hnx⟩ := T.at 2 (by simp)
  change DA w5 B F p3 (newD Z) at hDA
  change ∀ (w' : World) (D' : DS), Nx B F p3 w5 D' w' → TL B w' [(p1, ((newD Z).laid rs1)), (p2, ((newD Z).laid rs1)), (p3, D')] [] ∧ Below B w5 w' ∧ ∀ g ∈ [], w'.heap[g]? = w5.heap[g]? at hnx
  refine (lays_any w5 B F p3 (newD Z) hDA T0 rfl rfl rs1 hr1 sp1 cap1 W1 HL1.out HL2.out).mono ?_
  rintro e w6 ⟨rfl, hN⟩
  obtain ⟨T1, hBy, hKx⟩ := hnx _ _ hN
  clear hnx hDA hGF hN
  have hB0 := hB0.trans hBy
  have W1 := W1.below hBy
  have W2 := W2.below hBy
  have T0 : B ≤ w6.heap.size := T1.hb
  clear T hBy hKx
  have T := T1
  clear T1
  change TL B w6 [(p1, ((newD Z).laid rs1)), (p2, ((newD Z).laid rs1)), (p3, ((newD Z).laid rs1))] [] at T
  go_wp2_with fail
  obtain ⟨F, hDA, hGF, hnx⟩ := T.at 0 (by simp)
  change DA w6 B F p1 ((newD Z).laid rs1) at hDA
  change ∀ (w' : World) (D' : DS), Nx B F p1 w6 D' w' → TL B w' [(p1, D'), (p2, ((newD Z).laid rs1)), (p3, ((newD Z).laid rs1))] [] ∧ Below B w6 w' ∧ ∀ g ∈ [], w'.heap[g]? = w6.heap[g]? at hnx
  refine (Sync0_any w6 B F p1 ((newD Z).laid rs1) hDA rfl rfl (by show (0 : Int) < _; decide)).mono ?_
  rintro e w7 ⟨rfl, hN⟩
  obtain ⟨T1, hBy, hKx⟩ := hnx _ _ hN
  clear hnx hDA hGF hN
  have hB0 := hB0.trans hBy
  have W1 := W1.below hBy
  have W2 := W2.below hBy
  have T0 : B ≤ w7.heap.size := T1.hb
  clear T hBy hKx
  have T := T1
  clear T1
  change TL B w7 [(p1, ((newD Z).laid rs1).sy0), (p2, ((newD Z).laid rs1)), (p3, ((newD Z).laid rs1))] [] at T
  go_wp2_with fail
  obtain ⟨F, hDA, hGF, hnx⟩ := T.at 1 (by simp)
  change DA w7 B F p2 ((newD Z).laid rs1) at hDA
  change ∀ (w' : World) (D' : DS), Nx B F p2 w7 D' w' → TL B w' [(p1, ((newD Z).laid rs1).sy0), (p2, D'), (p3, ((newD Z).laid rs1))] [] ∧ Below B w7 w' ∧ ∀ g ∈ [], w'.heap[g]? = w7.heap[g]? at hnx
  refine (Sync0_any w7 B F p2 ((newD Z).laid rs1) hDA rfl rfl (by show (0 : Int) < _; decide)).mono ?_
  rintro e w8 ⟨rfl, hN⟩
  obtain ⟨T1, hBy, hKx⟩ := hnx _ _ hN
  clear hnx hDA hGF hN
  have hB0 := hB0.trans hBy
  have W1 := W1.below hBy
  have W2 := W2.below hBy
  have T0 : B ≤ w8.heap.size := T1.hb
  clear T hBy hKx
  have T := T1
  clear T1
  change TL B w8 [(p1, ((newD Z).laid rs1).sy0), (p2, ((newD Z).laid rs1).sy0), (p3, ((newD Z).laid rs1))] [] at T
  go_wp2_with fail
  obtain ⟨F, hDA, hGF, hnx⟩ := T.at 2 (by simp)
  change DA w8 B F p3 ((newD Z).laid rs1) at hDA
  change ∀ (w' : World) (D' : DS), Nx B F p3 w8 D' w' → TL B w' [(p1, ((newD Z).laid rs1).sy0), (p2, ((newD Z).laid rs1).sy0), (p3, D')] [] ∧ Below B w8 w' ∧ ∀ g ∈ [], w'.heap[g]? = w8.heap[g]? at hnx
  refine (Sync0_any w8 B F p3 ((newD Z).laid rs1) hDA rfl rfl (by show (0 : Int) < _; decide)).mono ?_
  rintro e w9 ⟨rfl, hN⟩
  obtain ⟨T1, hBy, hKx⟩ := hnx _ _ hN
  clear hnx hDA hGF hN
  have hB0 := hB0.trans hBy
  have W1 := W1.below hBy
  have W2 := W2.below hBy
  have T0 : B ≤ w9.heap.size := T1.hb
  clear T hBy hKx
  have T := T1
  clear T1
  change TL B w9 [(p1, ((newD Z).laid rs1).sy0), (p2, ((newD Z).laid rs1).sy0), (p3, ((newD Z).laid rs1).sy0)] [] at T
  go_wp2_with fail
  obtain ⟨F, hDA, hGF, hnx⟩ := T.at 2 (by simp)
  change DA w9 B F p3 ((newD Z).laid rs1).sy0 at hDA
  clear hnx hGF
  refine (Image_any w9 B F p3 _ hDA).mono ?_
  rintro e w10 ⟨vw, rfl, hO, hBx⟩
  have hzz : 0 < ((((newD Z).laid rs1).sy0).img).length := by rw [himl _ hDA.ok]; have := hDA.ok.np.1; omega
  obtain ⟨gvw, T1, LW, hgBvw⟩ := T.listb hBx hO hzz
  have hBy : Below B w9 w10 := hBx.mono T0
  have T0 : B ≤ w10.heap.size := T1.hb
  have hB0 := hB0.trans hBy
  have W1 := W1.below hBy
  have W2 := W2.below hBy
  clear T hBx hBy hO hzz
  have T := T1
  clear T1
  change TL B w10 [(p1, ((newD Z).laid rs1).sy0), (p2, ((newD Z).laid rs1).sy0), (p3, ((newD Z).laid rs1).sy0)] (gvw :: []) at T
  clear hDA
  go_wp2_with fail
  obtain ⟨F, hDA, hGF, hnx⟩ := T.at 0 (by simp)
  change DA w10 B F p1 ((newD Z).laid rs1).sy0 at hDA
  change ∀ (w' : World) (D' : DS), Nx B F p1 w10 D' w' → TL B w' [(p1, D'), (p2, ((newD Z).laid rs1).sy0), (p3, ((newD Z).laid rs1).sy0)] (gvw :: []) ∧ Below B w10 w' ∧ ∀ g ∈ (gvw :: []), w'.heap[g]? = w10.heap[g]? at hnx
  refine (lays_any w10 B F p1 ((newD Z).laid rs1).sy0 hDA T0 rfl rfl rs2 hr2 sp2 cap2 W2 HL3.out HL4.out).mono ?_
  rintro e w11 ⟨rfl, hN⟩
  obtain ⟨T1, hBy, hKx⟩ := hnx _ _ hN
  clear hnx hDA hGF hN
  have hB0 := hB0.trans hBy
  have W1 := W1.below hBy
  have W2 := W2.below hBy
  have LW := LW.keep hKx
  have T0 : B ≤ w11.heap.size := T1.hb
  clear T hBy hKx
  have T := T1
  clear T1
  change TL B w11 [(p1, ((((newD Z).laid rs1).sy0).laid rs2)), (p2, ((newD Z).laid rs1).sy0), (p3, ((newD Z).laid rs1).sy0)] (gvw :: []) at T
  go_wp2_with fail
  obtain ⟨F, hDA, hGF, hnx⟩ := T.at 1 (by simp)
  change DA w11 B F p2 ((newD Z).laid rs1).sy0 at hDA
  change ∀ (w' : World) (D' : DS), Nx B F p2 w11 D' w' → TL B w' [(p1, ((((newD Z).laid rs1).sy0).laid rs2)), (p2, D'), (p3, ((newD Z).laid rs1).sy0)] (gvw :: []) ∧ Below B w11 w' ∧ ∀ g ∈ (gvw :: []), w'.heap[g]? = w11.heap[g]? at hnx
  refine (lays_any w11 B F p2 ((newD Z).laid rs1).sy0 hDA T0 rfl rfl rs2 hr2 sp2 cap2 W2 HL3.out HL4.out).mono ?_
  rintro e w12 ⟨rfl, hN⟩
  obtain ⟨T1, hBy, hKx⟩ := hnx _ _ hN
  clear hnx hDA hGF hN
  have hB0 := hB0.trans hBy
  have W1 := W1.below hBy
  have W2 := W2.below hBy
  have LW := LW.keep hKx
  have T0 : B ≤ w12.heap.size := T1.hb
  clear T hBy hKx
  have T := T1
  clear T1
  change TL B w12 [(p1, ((((newD Z).laid rs1).sy0).laid rs2)), (p2, ((((newD Z).laid rs1).sy0).laid rs2)), (p3, ((newD Z).laid rs1).sy0)] (gvw :: []) at T
  go_wp2_with fail
  obtain ⟨F, hDA, hGF, hnx⟩ := T.at 2 (by simp)
  change DA w12 B F p3 ((newD Z).laid rs1).sy0 at hDA
  change ∀ (w' : World) (D' : DS), Nx B F p3 w12 D' w' → TL B w' [(p1, ((((newD Z).laid rs1).sy0).laid rs2)), (p2, ((((newD Z).laid rs1).sy0).laid rs2)), (p3, D')] (gvw :: []) ∧ Below B w12 w' ∧ ∀ g ∈ (gvw :: []), w'.heap[g]? = w12.heap[g]? at hnx
  refine (lays_any w12 B F p3 ((newD Z).laid rs1).sy0 hDA T0 rfl rfl rs2 hr2 sp2 cap2 W2 HL3.out HL4.out).mono ?_
  rintro e w13 ⟨rfl, hN⟩
  obtain ⟨T1, hBy, hKx⟩ := hnx _ _ hN
  clear hnx hDA hGF hN
  have hB0 := hB0.trans hBy
  have W1 := W1.below hBy
  have W2 := W2.below hBy
  have LW := LW.keep hKx
  have T0 : B ≤ w13.heap.size := T1.hb
  clear T hBy hKx
  have T := T1
  clear T1
  change TL B w13 [(p1, ((((newD Z).laid rs1).sy0).laid rs2)), (p2, ((((newD Z).laid rs1).sy0).laid rs2)), (p3, ((((newD Z).laid rs1).sy0).laid rs2))] (gvw :: []) at T
  go_wp2_with fail
  obtain ⟨F, hDA, hGF, hnx⟩ := T.at 0 (by simp)
  change DA w13 B F p1 ((((newD Z).laid rs1).sy0).laid rs2) at hDA
  change ∀ (w' : World) (D' : DS), Nx B F p1 w13 D' w' → TL B w' [(p1, D'), (p2, ((((newD Z).laid rs1).sy0).laid rs2)), (p3, ((((newD Z).laid rs1).sy0).laid rs2))] (gvw :: []) ∧ Below B w13 w' ∧ ∀ g ∈ (gvw :: []), w'.heap[g]? = w13.heap[g]? at hnx
  refine (Sync0_any w13 B F p1 ((((newD Z).laid rs1).sy0).laid rs2) hDA rfl rfl (by show (1 : Int) < _; decide)).mono ?_
  rintro e w14 ⟨rfl, hN⟩
  obtain ⟨T1, hBy, hKx⟩ := hnx _ _ hN
  clear hnx hDA hGF hN
  have hB0 := hB0.trans hBy
  have W1 := W1.below hBy
  have W2 := W2.below hBy
  have LW := LW.keep hKx
  have T0 : B ≤ w14.heap.size := T1.hb
  clear T hBy hKx
  have T := T1
  clear T1
  change TL B w14 [(p1, ((((newD Z).laid rs1).sy0).laid rs2).sy0), (p2, ((((newD Z).laid rs1).sy0).laid rs2)), (p3, ((((newD Z).laid rs1).sy0).laid rs2))] (gvw :: []) at T
  go_wp2_with fail
  have TL0 := T
  clear T
  have HB0 := hid hB0
  have HW := hid LW
  clear hB0 LW W1 W2
  go_loopw [11, 12] (fun v iv wr => ∃ i : Nat, i ≤ rs2.length ∧ iv = .int .i64 i ∧ Own wr w14.heap.size v (List.replicate i 15) ∧ Below w14.heap.size w14 wr) (fun _ iv _ => rs2.length - (intOf iv).toNat)
  case atStart => exact ⟨0, by omega, rfl, Own.nil _ _, Below.refl _ _⟩
  case round =>
    obtain ⟨i, hi, rfl, hO, hBx⟩ := hrel
    by_cases hlt : i < rs2.length
    · have i1 : (i : Int) < (rs2.length : Int) := by omega
      have KL := hid (show (List.replicate i (15 : Int)).length + 1 ≤ 140737488355328 by simp; omega)
      have HT := hid (show List.replicate (i + 1) (15 : Int) = List.replicate i 15 ++ [15] by rw [List.replicate_succ'])
      clear TL0
      generalize List.replicate i (15 : Int) = tb at *
      go_wp2_with (first | (at_builtin; refine wpList_push_any rfl (.tmp 89) (.tmp 90) rfl w14.heap.size _ _ 15 rfl hO rfl KL.out hBx.size _ _ ?_; intro x5 wM hO2 hB2))
      go_roundw
      case rel => exact ⟨i + 1, by omega, by go_num, (by rw [HT.out]; exact hO2), hBx.trans hB2⟩
      case measure => simp [intOf]; omega
    · obtain rfl : i = rs2.length := by omega
      clear hlt
      have hB0 := HB0.out
      have LW := HW.out
      clear HB0 HW
      obtain ⟨gl, T, LA⟩ := TL0.listw hBx hO (by simp)
      have hBy : Below B w14 wr := hBx.mono T0
      have T0 : B ≤ wr.heap.size := T.hb
      have hB0 := hB0.trans hBy
      have LW := (LW.below hBx).mono gl
      clear hBx hBy hO TL0
      obtain ⟨spa, capa, hva, hsa, hna⟩ := LA.form
      rw [List.length_replicate] at hva
      subst hva
      obtain ⟨spw, capw, hvw, hsw, hnw⟩ := LW.form
      subst hvw
      clear hsw hnw hsa hna
      go_wp2_with fail
      obtain ⟨F, hDA, hGF, hnx⟩ := T.at 1 (by simp)
      change DA wr B F p2 ((((newD Z).laid rs1).sy0).laid rs2) at hDA
      change ∀ (w' : World) (D' : DS), Nx B F p2 wr D' w' → TL B w' [(p1, ((((newD Z).laid rs1).sy0).laid rs2).sy0), (p2, D'), (p3, ((((newD Z).laid rs1).sy0).laid rs2))] (gl :: (gvw :: [])) ∧ Below B wr w' ∧ ∀ g ∈ (gl :: (gvw :: [])), w'.heap[g]? = wr.heap[g]? at hnx
      refine (crash_to wr B F p2 ((((newD Z).laid rs1).sy0).laid rs2) hDA (by show (0 : Int) < _; decide) _ (bts_15 _) spa capa LA _ (by rw [List.length_replicate]) hGF).mono ?_
      rintro e w16 ⟨rfl, hN⟩
      rw [hyl]
      obtain ⟨T1, hBy, hKx⟩ := hnx _ _ hN
      clear hnx hDA hGF hN
      have hB0 := hB0.trans hBy
      have LW := LW.keep hKx
      have LA := LA.keep hKx
      have T0 : B ≤ w16.heap.size := T1.hb
      clear T hBy hKx
      have T := T1
      clear T1
      change TL B w16 [(p1, ((((newD Z).laid rs1).sy0).laid rs2).sy0), (p2, (((((newD Z).laid rs1).sy0).laid rs2).crashed (List.replicate rs2.length 15))), (p3, ((((newD Z).laid rs1).sy0).laid rs2))] (gl :: (gvw :: [])) at T
      go_wp2_with fail
      obtain ⟨F, hDA, hGF, hnx⟩ := T.at 2 (by simp)
      change DA w16 B F p3 ((((newD Z).laid rs1).sy0).laid rs2) at hDA
      change ∀ (w' : World) (D' : DS), Nx B F p3 w16 D' w' → TL B w' [(p1, ((((newD Z).laid rs1).sy0).laid rs2).sy0), (p2, (((((newD Z).laid rs1).sy0).laid rs2).crashed (List.replicate rs2.length 15))), (p3, D')] (gl :: (gvw :: [])) ∧ Below B w16 w' ∧ ∀ g ∈ (gl :: (gvw :: [])), w'.heap[g]? = w16.heap[g]? at hnx
      refine (Crash_any w16 B F p3 ((((newD Z).laid rs1).sy0).laid rs2) hDA (by show (0 : Int) < _; decide) [] (fun x hx => by cases hx) none 0 (Src.nil _) (fun a _ ha => by cases ha)).mono ?_
      rintro e w17 ⟨rfl, hN⟩
      rw [hyl]
      obtain ⟨T1, hBy, hKx⟩ := hnx _ _ hN
      clear hnx hDA hGF hN
      have hB0 := hB0.trans hBy
      have LW := LW.keep hKx
      have LA := LA.keep hKx
      have T0 : B ≤ w17.heap.size := T1.hb
      clear T hBy hKx
      have T := T1
      clear T1
      change TL B w17 [(p1, ((((newD Z).laid rs1).sy0).laid rs2).sy0), (p2, (((((newD Z).laid rs1).sy0).laid rs2).crashed (List.replicate rs2.length 15))), (p3, (((((newD Z).laid rs1).sy0).laid rs2).crashed []))] (gl :: (gvw :: [])) at T
      go_wp2_with fail
      obtain ⟨F, hDA, hGF, hnx⟩ := T.at 2 (by simp)
      change DA w17 B F p3 (((((newD Z).laid rs1).sy0).laid rs2).crashed []) at hDA
      clear hnx
      refine (Pages_any w17 B F p3 _ hDA).mono ?_
      rintro e wx ⟨rfl, rfl⟩
      clear hDA hGF
      rw [hcp]
      have hwl : (((newD Z).laid rs1).sy0.img.length : Int) = 256 * (k : Int) := hwl0.out
      have LW2 := LW
      clear LW
      go_wp2_with fail
      obtain ⟨F, hDA, hGF, hnx⟩ := T.at 0 (by simp)
      change DA w17 B F p1 ((((newD Z).laid rs1).sy0).laid rs2).sy0 at hDA
      clear hnx hGF
      refine (Image_any w17 B F p1 _ hDA).mono ?_
      rintro e w18 ⟨va, rfl, hO, hBx⟩
      have hzz : 0 < ((((((newD Z).laid rs1).sy0).laid rs2).sy0).img).length := by rw [himl _ hDA.ok]; have := hDA.ok.np.1; omega
      obtain ⟨gva, T1, LIA, hgBva⟩ := T.listb hBx hO hzz
      have hBy : Below B w17 w18 := hBx.mono T0
      have T0 : B ≤ w18.heap.size := T1.hb
      have hB0 := hB0.trans hBy
      have LW2 := LW2.below hBx
      have LA := LA.below hBx
      have LW2 := LW2.mono gva
      have LA := LA.mono gva
      clear T hBx hBy hO hzz
      have T := T1
      clear T1
      change TL B w18 [(p1, ((((newD Z).laid rs1).sy0).laid rs2).sy0), (p2, (((((newD Z).laid rs1).sy0).laid rs2).crashed (List.replicate rs2.length 15))), (p3, (((((newD Z).laid rs1).sy0).laid rs2).crashed []))] (gva :: (gl :: (gvw :: []))) at T
      clear hDA
      go_wp2_with fail
      obtain ⟨F, hDA, hGF, hnx⟩ := T.at 1 (by simp)
      change DA w18 B F p2 (((((newD Z).laid rs1).sy0).laid rs2).crashed (List.replicate rs2.length 15)) at hDA
      clear hnx hGF
      refine (Image_any w18 B F p2 _ hDA).mono ?_
      rintro e w19 ⟨vb, rfl, hO, hBx⟩
      have hzz : 0 < ((((((newD Z).laid rs1).sy0).laid rs2).crashed (List.replicate rs2.length 15)).img).length := by rw [himl _ hDA.ok]; have := hDA.ok.np.1; omega
      obtain ⟨gvb, T1, LIB, hgBvb⟩ := T.listb hBx hO hzz
      have hBy : Below B w18 w19 := hBx.mono T0
      have T0 : B ≤ w19.heap.size := T1.hb
      have hB0 := hB0.trans hBy
      have LW2 := LW2.below hBx
      have LA := LA.below hBx
      have LIA := LIA.below hBx
      have LW2 := LW2.mono gvb
      have LA := LA.mono gvb
      have LIA := LIA.mono gvb
      clear T hBx hBy hO hzz
      have T := T1
      clear T1
      change TL B w19 [(p1, ((((newD Z).laid rs1).sy0).laid rs2).sy0), (p2, (((((newD Z).laid rs1).sy0).laid rs2).crashed (List.replicate rs2.length 15))), (p3, (((((newD Z).laid rs1).sy0).laid rs2).crashed []))] (gvb :: (gva :: (gl :: (gvw :: [])))) at T
      clear hDA
      obtain ⟨s1, c1, hv1, hs1, _⟩ := LIA.form
      subst hv1
      obtain ⟨s2, c2, hv2, hs2, _⟩ := LIB.form
      subst hv2
      go_wp2_with fail
      refine (same_any w19 _ _ _ _ _ _ hs1 hs2).mono ?_
      rintro e w20 ⟨rfl, hBx⟩
      have T := T.below hBx
      have hBy : Below B w19 w20 := hBx.mono T0
      have T0 : B ≤ w20.heap.size := T.hb
      have hB0 := hB0.trans hBy
      have LW2 := LW2.below hBx
      have LA := LA.below hBx
      have LIA := LIA.below hBx
      have LIB := LIB.below hBx
      clear hBx hBy
      rw [decide_eq_true EQ1.out]
      go_wp2_with fail
      obtain ⟨F, hDA, hGF, hnx⟩ := T.at 2 (by simp)
      change DA w20 B F p3 (((((newD Z).laid rs1).sy0).laid rs2).crashed []) at hDA
      clear hnx hGF
      refine (Image_any w20 B F p3 _ hDA).mono ?_
      rintro e w21 ⟨vc, rfl, hO, hBx⟩
      have hzz : 0 < ((((((newD Z).laid rs1).sy0).laid rs2).crashed []).img).length := by rw [himl _ hDA.ok]; have := hDA.ok.np.1; omega
      obtain ⟨gvc, T1, LIC, hgBvc⟩ := T.listb hBx hO hzz
      have hBy : Below B w20 w21 := hBx.mono T0
      have T0 : B ≤ w21.heap.size := T1.hb
      have hB0 := hB0.trans hBy
      have LW2 := LW2.below hBx
      have LA := LA.below hBx
      have LIA := LIA.below hBx
      have LIB := LIB.below hBx
      have LW2 := LW2.mono gvc
      have LA := LA.mono gvc
      have LIA := LIA.mono gvc
      have LIB := LIB.mono gvc
      clear T hBx hBy hO hzz
      have T := T1
      clear T1
      change TL B w21 [(p1, ((((newD Z).laid rs1).sy0).laid rs2).sy0), (p2, (((((newD Z).laid rs1).sy0).laid rs2).crashed (List.replicate rs2.length 15))), (p3, (((((newD Z).laid rs1).sy0).laid rs2).crashed []))] (gvc :: (gvb :: (gva :: (gl :: (gvw :: []))))) at T
      clear hDA
      obtain ⟨s3, c3, hv3, hs3, _⟩ := LIC.form
      subst hv3
      obtain ⟨s4, c4, hv4, hs4, _⟩ := LW2.form
      simp only [Value.slice.injEq] at hv4
      obtain ⟨rfl, _, rfl⟩ := hv4
      go_wp2_with fail
      refine (same_any w21 _ _ _ _ _ _ hs3 hs4).mono ?_
      rintro e w22 ⟨rfl, hBx⟩
      have T := T.below hBx
      have hBy : Below B w21 w22 := hBx.mono T0
      have T0 : B ≤ w22.heap.size := T.hb
      have hB0 := hB0.trans hBy
      have LW2 := LW2.below hBx
      have LA := LA.below hBx
      have LIA := LIA.below hBx
      have LIB := LIB.below hBx
      have LIC := LIC.below hBx
      clear hBx hBy
      rw [decide_eq_true EQ2.out]
      go_wp2_with fail
      go_ret
      exact ⟨rfl, hB0⟩
end Go.Proofs.Ytcibcakgheegbaa
