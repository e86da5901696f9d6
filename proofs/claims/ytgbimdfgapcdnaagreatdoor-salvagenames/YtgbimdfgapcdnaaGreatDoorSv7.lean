import Derived.Test.YtgbimdfgapcdnaaGreatDoorSv6
import Derived.Test.YtgbimdfgapcdnaaGreatDoorN4
import Derived.Test.YtgbimdfgapcdnaaGreatDoorNg
namespace Go.Proofs.YtgbimdfgapcdnaaGreatDoor
set_option linter.unusedVariables false
set_option linter.unusedSimpArgs false
open Go.RowKit
attribute [local go_sem ↓] Go.wp_at_zero Go.wp_at_succ

theorem sv_blank : chooseF (zz 256) (zz 256) = (sup0, 55) := by decide +kernel
theorem sized_768 (w : World) (sp : Option Addr) (c : Nat) : Calls Tryz.prog 8 #[.slice sp 768 c] w fun e w' => e = .returned (.int .i64 0) ∧ w = w' := by
  go_enter Tryz.func8, Tryz.ntmps8
  go_wp2
  go_ret
  exact ⟨rfl, rfl⟩
theorem newHealer_any (w : World) : Calls Tryz.prog 10 #[] w fun e w' => e = .returned (.pointer (some ⟨w.heap.size, 0, none⟩)) ∧ w'.heap[w.heap.size]? = some (hlO 0 0 (.map none)) ∧ Below w.heap.size w w' := by
  have hbd : ∀ w : World, (Instr.build 69 #[]).run Tryz.prog w = .ok (.agg #[.int .i64 0, .int .u32 0, .int .i32 0, .int .u32 0, .map none, .int .i64 0, .int .u32 0, .int .i32 0, .int .u32 0, .map none]) w := fun w => by kernel_rfl
  go_enter Tryz.func10, Tryz.ntmps10
  go_wp2
  go_ret
  refine ⟨rfl, hnew _ _, (Below.refl _ w).alloc (Nat.le_refl _) _⟩
set_option maxRecDepth 100000 in
set_option maxHeartbeats 1000000 in
theorem chosen_blank (w : World) (g c : Nat) (rest : List Value) (hI : IM w g rest (zz 768)) (hc : 768 ≤ c) (hm : c ≤ maxLen) : Calls Tryz.prog 12 #[.slice (some ⟨g, 0, none⟩) 768 c] w fun e w' => e = .returned (.tuple #[.agg #[.int .i64 0, .int .i64 0, .int .i64 0, .int .i64 0, .int .i64 0], .int .i64 55]) ∧ Below w.heap.size w w' := by
  have S0 := hI.src 0 (by simp [zz])
  have S1 := hI.src 256 (by simp [zz])
  rw [drop_zz 0 768 (by omega)] at S0
  rw [drop_zz 256 768 (by omega)] at S1
  have B0 : Below w.heap.size w (w.alloc (.cells #[.int .i64 0, .int .i64 0, .int .i64 0, .int .i64 0, .int .i64 0] 40)) := (Below.refl _ w).alloc (Nat.le_refl _) _
  have HC := hid (choose_any _ (zz 256) (zz 256) (zz_byts _) (zz_byts _) _ _ _ _ (S0.below B0 (Nat.le_refl _)) (S1.below B0 (Nat.le_refl _)))
  rw [sv_blank, show supC (sup0, (55 : Int)).1 = #[.int .i64 0, .int .i64 0, .int .i64 0, .int .i64 0, .int .i64 0] from rfl, show (zz 256).length = 256 from zz_len 256] at HC
  have HC2 := hid (And.intro hc (And.intro hm B0))
  clear S0 S1 hI hc hm B0
  go_enter Tryz.func12, Tryz.ntmps12
  go_wp2_with fail
  refine (rawPage_k _ g 768 0 c (by omega) HC2.out.1 HC2.out.2.1).mono ?_
  rintro _ wx ⟨rfl, hw⟩
  obtain rfl := hw
  go_wp2_with fail
  refine (rawPage_k _ g 768 1 c (by omega) HC2.out.1 HC2.out.2.1).mono ?_
  rintro _ wx ⟨rfl, hw⟩
  obtain rfl := hw
  go_wp2_with fail
  refine HC.out.mono ?_
  rintro _ w1 ⟨rfl, hb⟩
  have r0 : w1.heap[w.heap.size]? = some (.cells #[.int .i64 0, .int .i64 0, .int .i64 0, .int .i64 0, .int .i64 0] 40 (0, 0)) := (hb.block _ (by rw [World.size_alloc]; omega)).trans (hnew w _)
  have hb2 : Below w.heap.size w w1 := HC2.out.2.2.trans (hb.mono (by rw [World.size_alloc]; omega))
  clear hb HC
  have hN : (Tryz.prog.info? 40).map (·.size) = some (#[.int .i64 0, .int .i64 0, .int .i64 0, .int .i64 0, .int .i64 0] : Array Value).size := by kernel_rfl
  have hO : (#[.int .i64 0, .int .i64 0, .int .i64 0, .int .i64 0, .int .i64 0] : Array Value).all (·.oneCell') = true := by kernel_rfl
  have r1 : (w1.alloc (.cells #[.int .i64 0, .int .i64 0, .int .i64 0, .int .i64 0, .int .i64 0] 40)).heap[w.heap.size]? = some (.cells #[.int .i64 0, .int .i64 0, .int .i64 0, .int .i64 0, .int .i64 0] 40 (0, 0)) := hold r0
  have b1 : Below w.heap.size w (w1.alloc (.cells #[.int .i64 0, .int .i64 0, .int .i64 0, .int .i64 0, .int .i64 0] 40)) := hb2.alloc hb2.size _
  have bd := below_setRow b1 (Nat.le_refl _) #[.int .i64 0, .int .i64 0, .int .i64 0, .int .i64 0, .int .i64 0]
  have r9 : ((w1.alloc (.cells #[.int .i64 0, .int .i64 0, .int .i64 0, .int .i64 0, .int .i64 0] 40)).setRow w.heap.size #[.int .i64 0, .int .i64 0, .int .i64 0, .int .i64 0, .int .i64 0]).heap[w.heap.size]? = _ := setRow_heap _ _ _ _ _ _ r1
  go_wp2_with (first
    | refine wpList_store_row (by rfl) 40 (.tmp 2) (.tmp 23) (by rfl) w.heap.size #[.int .i64 0, .int .i64 0, .int .i64 0, .int .i64 0, .int .i64 0] (by rfl) (by rfl) 40 #[.int .i64 0, .int .i64 0, .int .i64 0, .int .i64 0, .int .i64 0] (by exact r1) hN rfl hO ?_)
  exact bodyPost_ret (v := .tuple #[.agg #[.int .i64 0, .int .i64 0, .int .i64 0, .int .i64 0, .int .i64 0], .int .i64 55]) (results_c2 Tryz.results12 _ _ w.heap.size 40 _ _ _ rfl r9 Tryz.underlying40 rfl hN) rfl ⟨rfl, bd⟩
set_option maxRecDepth 100000 in
set_option maxHeartbeats 1000000 in
theorem left_blank (w : World) (g c : Nat) (rest : List Value) (hI : IM w g rest (zz 768)) (hc : 768 ≤ c) (hm : c ≤ maxLen) : Calls Tryz.prog 18 #[.slice (some ⟨g, 0, none⟩) 768 c] w fun e w' => e = .returned (.tuple #[.agg #[.int .i64 0, .int .i64 0, .int .i64 0, .int .i64 0, .int .i64 0], .int .i64 55]) ∧ Below w.heap.size w w' := by
  have B0 : Below w.heap.size w (w.alloc (.cells #[.int .i64 0, .int .i64 0, .int .i64 0, .int .i64 0, .int .i64 0] 40)) := (Below.refl _ w).alloc (Nat.le_refl _) _
  have HC := hid (chosen_blank (w.alloc (.cells #[.int .i64 0, .int .i64 0, .int .i64 0, .int .i64 0, .int .i64 0] 40)) g c rest (hI.below B0) hc hm)
  have HB := hid B0
  clear hI hc hm B0
  go_enter Tryz.func18, Tryz.ntmps18
  go_wp2_with fail
  refine HC.out.mono ?_
  rintro _ w1 ⟨rfl, hb⟩
  have r0 : w1.heap[w.heap.size]? = some (.cells #[.int .i64 0, .int .i64 0, .int .i64 0, .int .i64 0, .int .i64 0] 40 (0, 0)) := (hb.block _ (by rw [World.size_alloc]; omega)).trans (hnew w _)
  have hb2 : Below w.heap.size w w1 := HB.out.trans (hb.mono (by rw [World.size_alloc]; omega))
  clear hb HC HB
  have hN : (Tryz.prog.info? 40).map (·.size) = some (#[.int .i64 0, .int .i64 0, .int .i64 0, .int .i64 0, .int .i64 0] : Array Value).size := by kernel_rfl
  have hO : (#[.int .i64 0, .int .i64 0, .int .i64 0, .int .i64 0, .int .i64 0] : Array Value).all (·.oneCell') = true := by kernel_rfl
  have r1 : (w1.alloc (.cells #[.int .i64 0, .int .i64 0, .int .i64 0, .int .i64 0, .int .i64 0] 40)).heap[w.heap.size]? = some (.cells #[.int .i64 0, .int .i64 0, .int .i64 0, .int .i64 0, .int .i64 0] 40 (0, 0)) := hold r0
  have b1 : Below w.heap.size w (w1.alloc (.cells #[.int .i64 0, .int .i64 0, .int .i64 0, .int .i64 0, .int .i64 0] 40)) := hb2.alloc hb2.size _
  have bd := below_setRow b1 (Nat.le_refl _) #[.int .i64 0, .int .i64 0, .int .i64 0, .int .i64 0, .int .i64 0]
  have r9 : ((w1.alloc (.cells #[.int .i64 0, .int .i64 0, .int .i64 0, .int .i64 0, .int .i64 0] 40)).setRow w.heap.size #[.int .i64 0, .int .i64 0, .int .i64 0, .int .i64 0, .int .i64 0]).heap[w.heap.size]? = _ := setRow_heap _ _ _ _ _ _ r1
  go_wp2_with (first
    | refine wpList_store_row (by rfl) 40 (.tmp 2) (.tmp 16) (by rfl) w.heap.size #[.int .i64 0, .int .i64 0, .int .i64 0, .int .i64 0, .int .i64 0] (by rfl) (by rfl) 40 #[.int .i64 0, .int .i64 0, .int .i64 0, .int .i64 0, .int .i64 0] (by exact r1) hN rfl hO ?_)
  exact bodyPost_ret (v := .tuple #[.agg #[.int .i64 0, .int .i64 0, .int .i64 0, .int .i64 0, .int .i64 0], .int .i64 55]) (results_c2 Tryz.results18 _ _ w.heap.size 40 _ _ _ rfl r9 Tryz.underlying40 rfl hN) rfl ⟨rfl, bd⟩
set_option maxRecDepth 100000 in
theorem past_blank (w : World) (g c : Nat) (rest : List Value) (hI : IM w g rest (zz 768)) (hc : 768 ≤ c) (hm : c ≤ maxLen) : Calls Tryz.prog 15 #[.slice (some ⟨g, 0, none⟩) 768 c] w fun e w' => e = .returned (.tuple #[.pointer none, .int .i64 55]) ∧ Below w.heap.size w w' := by
  have HC := hid (chosen_blank w g c rest hI hc hm)
  clear hI hc hm
  go_enter Tryz.func15, Tryz.ntmps15
  go_wp2_with fail
  refine (sized_768 w _ _).mono ?_
  rintro _ wx ⟨rfl, hw⟩
  obtain rfl := hw
  go_wp2_with fail
  refine HC.out.mono ?_
  rintro _ w1 ⟨rfl, hb⟩
  go_wp2
  go_ret2
  exact ⟨rfl, hb.alloc hb.size _⟩
set_option maxRecDepth 100000 in
theorem Whole_blank (w : World) (g c : Nat) (rest : List Value) (hI : IM w g rest (zz 768)) (hc : 768 ≤ c) (hm : c ≤ maxLen) : Calls Tryz.prog 5 #[.slice (some ⟨g, 0, none⟩) 768 c] w fun e w' => e = .returned (.tuple #[.int .i64 0, .int .i64 0, .int .i64 55]) ∧ Below w.heap.size w w' := by
  have HC := hid (past_blank w g c rest hI hc hm)
  clear hI hc hm
  go_enter Tryz.func5, Tryz.ntmps5
  go_wp2_with fail
  refine HC.out.mono ?_
  rintro _ w1 ⟨rfl, hb⟩
  go_wp2
  go_ret3
  exact ⟨rfl, hb⟩
set_option maxRecDepth 100000 in
theorem Cut_blank (w : World) (g c : Nat) (rest : List Value) (hI : IM w g rest (zz 768)) (hc : 768 ≤ c) (hm : c ≤ maxLen) : Calls Tryz.prog 6 #[.slice (some ⟨g, 0, none⟩) 768 c, .int .i64 0] w fun e w' => e = .returned (.tuple #[.slice none 0 0, .int .i64 55]) ∧ Below w.heap.size w w' := by
  have HC := hid (past_blank w g c rest hI hc hm)
  clear hI hc hm
  go_enter Tryz.func6, Tryz.ntmps6
  go_wp2_with fail
  refine HC.out.mono ?_
  rintro _ w1 ⟨rfl, hb⟩
  go_wp2
  go_ret2
  exact ⟨rfl, hb⟩
set_option maxRecDepth 100000 in
set_option maxHeartbeats 1000000 in
theorem Mend_blank (w : World) (g c : Nat) (rest : List Value) (hI : IM w g rest (zz 768)) (hc : 768 ≤ c) (hm : c ≤ maxLen) : Calls Tryz.prog 4 #[.slice (some ⟨g, 0, none⟩) 768 c] w fun e w' => e = .returned (.tuple #[.slice none 0 0, .slice none 0 0, .int .i64 55]) ∧ Below w.heap.size w w' := by
  have hS : Src w (some ⟨g, 0, none⟩) c (zz 768) := ⟨by rw [zz_len]; exact hc, hm, g, 0, fun _ => hlt hI, fun _ => rfl, fun j hj => by rw [Nat.zero_add]; exact hI.cell j hj⟩
  have HC := hid (by have := clone_any w (zz 768) ⟨g, 0, none⟩ c hS (by rw [zz_len]; omega); rw [zz_len] at this; exact this)
  clear hS hI hc hm
  go_enter Tryz.func4, Tryz.ntmps4
  go_wp2_with fail
  refine (sized_768 w _ _).mono ?_
  rintro _ wx ⟨rfl, hw⟩
  obtain rfl := hw
  go_wp2_with fail
  refine HC.out.mono ?_
  rintro _ w1 ⟨v, rfl, hO, hb1⟩
  obtain ⟨spv, cv, g2, rs, rfl, -, hc1, hm1, hg2, hr2⟩ := Own.ot hO
  obtain ⟨rfl, hr2⟩ := hr2 (by rw [zz_len]; omega)
  clear hO
  rw [show (zz 768).length = 768 from zz_len 768] at hc1 ⊢
  have hr2 : IM w1 g2 rs (zz 768) := (hr2 (by rw [zz_len]; omega)).2
  have HH := hid (And.intro hr2 (And.intro hc1 (And.intro hm1 (And.intro hg2 hb1))))
  clear hr2 hc1 hm1 hg2 hb1 HC
  go_wp2_with fail
  refine (newHealer_any w1).mono ?_
  rintro _ w2 ⟨rfl, hn, hb2⟩
  have HH2 := hid (And.intro hn hb2)
  clear hn hb2
  go_wp2_with fail
  have gl := hlt HH.out.1
  refine (mendSlots_any w2 w1.heap.size g2 768 cv rs (Or.inl HH2.out.1) (HH.out.1.below HH2.out.2) (by omega) HH.out.2.1 HH.out.2.2.1 (by omega)).mono ?_
  rintro _ w3 ⟨rfl, -, hk3⟩
  have I3 : IM w3 g2 rs (zz 768) := hk3.heap (HH.out.1.below HH2.out.2) (by omega)
  have b3 : Below w.heap.size w w3 := by
    have h1 := HH.out.2.2.2.2
    exact h1.trans ((HH2.out.2.mono h1.size).trans (hk3.below_g h1.size (Nat.le_trans h1.size HH2.out.2.size)))
  have HC3 := hid (chosen_blank w3 g2 cv rs I3 HH.out.2.1 HH.out.2.2.1)
  have B3 := hid b3
  clear gl hk3 I3 b3 HH HH2
  go_wp2_with fail
  refine HC3.out.mono ?_
  rintro _ w4 ⟨rfl, hb4⟩
  have b4 : Below w.heap.size w w4 := B3.out.trans (hb4.mono B3.out.size)
  clear hb4 B3 HC3
  go_wp2
  go_ret3
  exact ⟨rfl, b4.alloc b4.size _⟩
set_option maxRecDepth 100000 in
set_option maxHeartbeats 1000000 in
theorem Rescue_blank (w : World) (g c : Nat) (rest : List Value) (hI : IM w g rest (zz 768)) (hc : 768 ≤ c) (hm : c ≤ maxLen) : Calls Tryz.prog 7 #[.slice (some ⟨g, 0, none⟩) 768 c] w fun e w' => e = .returned (.tuple #[.slice none 0 0, .int .i64 0, .int .i64 55]) ∧ Below w.heap.size w w' := by
  have hS : Src w (some ⟨g, 0, none⟩) c (zz 768) := ⟨by rw [zz_len]; exact hc, hm, g, 0, fun _ => hlt hI, fun _ => rfl, fun j hj => by rw [Nat.zero_add]; exact hI.cell j hj⟩
  have HC := hid (by have := clone_any w (zz 768) ⟨g, 0, none⟩ c hS (by rw [zz_len]; omega); rw [zz_len] at this; exact this)
  clear hS hI hc hm
  go_enter Tryz.func7, Tryz.ntmps7
  go_wp2_with fail
  refine (sized_768 w _ _).mono ?_
  rintro _ wx ⟨rfl, hw⟩
  obtain rfl := hw
  go_wp2_with fail
  refine HC.out.mono ?_
  rintro _ w1 ⟨v, rfl, hO, hb1⟩
  obtain ⟨spv, cv, g2, rs, rfl, -, hc1, hm1, hg2, hr2⟩ := Own.ot hO
  obtain ⟨rfl, hr2⟩ := hr2 (by rw [zz_len]; omega)
  clear hO
  rw [show (zz 768).length = 768 from zz_len 768] at hc1 ⊢
  have hr2 : IM w1 g2 rs (zz 768) := (hr2 (by rw [zz_len]; omega)).2
  have HH := hid (And.intro hr2 (And.intro hc1 (And.intro hm1 (And.intro hg2 hb1))))
  clear hr2 hc1 hm1 hg2 hb1 HC
  go_wp2_with fail
  refine (newHealer_any w1).mono ?_
  rintro _ w2 ⟨rfl, hn, hb2⟩
  have HH2 := hid (And.intro hn hb2)
  clear hn hb2
  go_wp2_with fail
  have gl := hlt HH.out.1
  refine (mendSlots_any w2 w1.heap.size g2 768 cv rs (Or.inl HH2.out.1) (HH.out.1.below HH2.out.2) (by omega) HH.out.2.1 HH.out.2.2.1 (by omega)).mono ?_
  rintro _ w3 ⟨rfl, -, hk3⟩
  have I3 : IM w3 g2 rs (zz 768) := hk3.heap (HH.out.1.below HH2.out.2) (by omega)
  have b3 : Below w.heap.size w w3 := by
    have h1 := HH.out.2.2.2.2
    exact h1.trans ((HH2.out.2.mono h1.size).trans (hk3.below_g h1.size (Nat.le_trans h1.size HH2.out.2.size)))
  have HC3 := hid (left_blank w3 g2 cv rs I3 HH.out.2.1 HH.out.2.2.1)
  have B3 := hid b3
  clear gl hk3 I3 b3 HH HH2
  go_wp2_with fail
  refine HC3.out.mono ?_
  rintro _ w4 ⟨rfl, hb4⟩
  have b4 : Below w.heap.size w w4 := B3.out.trans (hb4.mono B3.out.size)
  clear hb4 B3 HC3
  go_wp2
  go_ret3
  exact ⟨rfl, b4.alloc b4.size _⟩
set_option maxRecDepth 100000 in
set_option maxHeartbeats 1000000 in
theorem salvageNames_any (w : World) : Calls Tryz.prog 3 #[] w fun e w' => e = .returned (.bool true) ∧ Below w.heap.size w w' := by
  obtain ⟨i5, hi5, hz5, hs5, hy5⟩ := Tryz.info5
  have HI := hid hi5
  have K1 := hid (show i5.bytes * 768 ≤ 281474976710656 by rw [hy5]; omega)
  have K2 := hid (show 768 ≤ maxLen by unfold maxLen; omega)
  have PZ := hid (show padz [] 768 = zz 768 by simp [padz, zz])
  have MK := hid (fun (wa : World) (wb : World) (hO : wb.ownsRow wa.heap.size 5 1 (.slice (some ⟨wa.heap.size, 0, none⟩) 768 768) 768 (madeCells (Value.int IntKind.u8 0).cells (768 * 1)).toList) => (show IM wb wa.heap.size [] (zz 768) from by unfold IM; rw [List.append_nil, ← PZ.out]; exact made_row hO))
  clear hi5
  go_enter Tryz.func3, Tryz.ntmps3
  go_wp2_with (refine wpList_make_full _ rfl _ _ 22 rfl w.heap.size 5 i5 (.int .u8 0) 1 Tryz.underlying22 HI.out hz5 hs5 .i64 .i64 _ _ 768 rfl rfl rfl rfl K1.out K2.out (Nat.le_refl _) ?_; intro w1 hO hg; have hB := grown_keeps hg (fun k hk => by cases hk) (Nat.le_refl w.heap.size); have hr := MK.out w w1 hO; clear hg hO)
  refine (Mend_blank _ _ _ [] hr (Nat.le_refl _) K2.out).mono ?_
  rintro _ w2 ⟨rfl, hb⟩
  have B1 : Below w.heap.size w w2 := hB.trans (hb.mono hB.size)
  clear hB hr hb
  go_wp2_with (refine wpList_make_full _ rfl _ _ 22 rfl w2.heap.size 5 i5 (.int .u8 0) 1 Tryz.underlying22 HI.out hz5 hs5 .i64 .i64 _ _ 768 rfl rfl rfl rfl K1.out K2.out (Nat.le_refl _) ?_; intro w3 hO hg; have hB := grown_keeps hg (fun k hk => by cases hk) (Nat.le_refl w2.heap.size); have hr := MK.out w2 w3 hO; clear hg hO)
  refine (Whole_blank _ _ _ [] hr (Nat.le_refl _) K2.out).mono ?_
  rintro _ w4 ⟨rfl, hb⟩
  have B2 : Below w.heap.size w w4 := B1.trans ((hB.mono B1.size).trans (hb.mono (Nat.le_trans B1.size hB.size)))
  clear hB hr hb
  go_wp2_with (refine wpList_make_full _ rfl _ _ 22 rfl w4.heap.size 5 i5 (.int .u8 0) 1 Tryz.underlying22 HI.out hz5 hs5 .i64 .i64 _ _ 768 rfl rfl rfl rfl K1.out K2.out (Nat.le_refl _) ?_; intro w5 hO hg; have hB := grown_keeps hg (fun k hk => by cases hk) (Nat.le_refl w4.heap.size); have hr := MK.out w4 w5 hO; clear hg hO)
  refine (Cut_blank _ _ _ [] hr (Nat.le_refl _) K2.out).mono ?_
  rintro _ w6 ⟨rfl, hb⟩
  have B3 : Below w.heap.size w w6 := B2.trans ((hB.mono B2.size).trans (hb.mono (Nat.le_trans B2.size hB.size)))
  clear hB hr hb
  go_wp2_with (refine wpList_make_full _ rfl _ _ 22 rfl w6.heap.size 5 i5 (.int .u8 0) 1 Tryz.underlying22 HI.out hz5 hs5 .i64 .i64 _ _ 768 rfl rfl rfl rfl K1.out K2.out (Nat.le_refl _) ?_; intro w7 hO hg; have hB := grown_keeps hg (fun k hk => by cases hk) (Nat.le_refl w6.heap.size); have hr := MK.out w6 w7 hO; clear hg hO)
  refine (Rescue_blank _ _ _ [] hr (Nat.le_refl _) K2.out).mono ?_
  rintro _ w8 ⟨rfl, hb⟩
  have B4 : Below w.heap.size w w8 := B3.trans ((hB.mono B3.size).trans (hb.mono (Nat.le_trans B3.size hB.size)))
  clear hB hr hb
  go_wp2
  go_ret
  exact ⟨rfl, B4⟩
end Go.Proofs.YtgbimdfgapcdnaaGreatDoor
