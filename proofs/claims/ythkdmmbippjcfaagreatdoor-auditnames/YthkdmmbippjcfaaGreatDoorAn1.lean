import Derived.Test.YthkdmmbippjcfaaGreatDoorN4
namespace Go.Proofs.YthkdmmbippjcfaaGreatDoor
set_option linter.unusedVariables false
set_option linter.unusedSimpArgs false
open Go.RowKit
attribute [local go_sem ↓] Go.wp_at_zero Go.wp_at_succ

theorem blank2 : chooseF (zz 256) (zz 256) = (sup0, 55) := by decide +kernel
theorem byts_zz (n : Nat) : Byts (zz n) := fun x hx => by unfold zz at hx; simp at hx; omega
theorem rawPage_0 (w : World) (b : Nat) : Calls Tryz.prog 16 #[.slice (some ⟨b, 0, none⟩) 768 768, .int .i64 0] w fun e w' => e = .returned (.slice (some ⟨b, 0, none⟩) 256 256) ∧ w = w' := by
  go_enter Tryz.func16, Tryz.ntmps16
  go_wp2
  go_ret
  exact ⟨rfl, rfl⟩
theorem rawPage_1 (w : World) (b : Nat) : Calls Tryz.prog 16 #[.slice (some ⟨b, 0, none⟩) 768 768, .int .i64 1] w fun e w' => e = .returned (.slice (some ⟨b, 256, none⟩) 256 256) ∧ w = w' := by
  go_enter Tryz.func16, Tryz.ntmps16
  go_wp2
  go_ret
  exact ⟨rfl, rfl⟩
theorem src_zz {w : World} {b t : Nat} (h : w.heap[b]? = some (.cells (ints .u8 (zz 768)).toArray t (0, 0))) (o : Nat) (ho : o + 256 ≤ 768) : Src w (some ⟨b, o, none⟩) 256 (zz 256) := by
  refine ⟨by rw [zz_len]; exact Nat.le_refl _, by simp [maxLen], b, o, fun _ => hlt h, fun _ => rfl, fun j hj => ?_⟩
  rw [zz_len] at hj
  rw [cell_of_row _ _ _ _ _ _ h]
  unfold ints zz
  rw [List.getElem?_toArray, List.getElem?_map, List.getElem?_replicate, if_pos (by omega), List.getD_eq_getElem?_getD, List.getElem?_replicate, if_pos hj]; rfl
set_option maxRecDepth 100000 in
set_option maxHeartbeats 1000000 in
theorem aread_blank (w : World) (b t : Nat) (h : w.heap[b]? = some (.cells (ints .u8 (zz 768)).toArray t (0, 0))) : Calls Tryz.prog 8 #[.slice (some ⟨b, 0, none⟩) 768 768] w fun e w' => e = .returned (.tuple #[.pointer none, .int .i64 55]) ∧ Below w.heap.size w w' := by
  have HC := choose_any w (zz 256) (zz 256) (byts_zz _) (byts_zz _) _ _ _ _ (src_zz h 0 (by omega)) (src_zz h 256 (by omega))
  rw [blank2, zz_len, supC0] at HC
  replace HC := hid HC
  clear h
  go_enter Tryz.func8, Tryz.ntmps8
  go_wp2_with fail
  refine (rawPage_0 w b).mono ?_
  rintro _ wx ⟨rfl, hw⟩
  obtain rfl := hw
  go_wp2_with fail
  refine (rawPage_1 w b).mono ?_
  rintro _ wx ⟨rfl, hw⟩
  obtain rfl := hw
  go_wp2_with fail
  refine HC.out.mono ?_
  rintro _ w1 ⟨rfl, hb⟩
  go_wp2
  go_ret2
  exact ⟨rfl, hb.alloc hb.size _⟩
def repC : Array Value := #[.int .i64 0, .int .i64 0, .int .i64 0, .int .i64 0, .int .i64 0, .int .i64 0, .int .i64 0, .int .i64 0, .int .i64 0, .slice none 0 0]
set_option maxRecDepth 100000 in
theorem aPages_blank (w : World) (b t : Nat) (h : w.heap[b]? = some (.cells (ints .u8 (zz 768)).toArray t (0, 0))) : Calls Tryz.prog 5 #[.slice (some ⟨b, 0, none⟩) 768 768, .int .i64 0] w fun e w' => e = .returned (.tuple #[.slice none 0 0, .int .i64 55]) ∧ Below w.heap.size w w' := by
  have HR := hid (aread_blank w b t h)
  clear h
  go_enter Tryz.func5, Tryz.ntmps5
  go_wp2_with fail
  refine HR.out.mono ?_
  rintro _ w1 ⟨rfl, hb⟩
  go_wp2
  go_ret2
  exact ⟨rfl, hb⟩
set_option maxRecDepth 100000 in
theorem aOwner_blank (w : World) (b t : Nat) (h : w.heap[b]? = some (.cells (ints .u8 (zz 768)).toArray t (0, 0))) : Calls Tryz.prog 6 #[.slice (some ⟨b, 0, none⟩) 768 768, .int .i64 2] w fun e w' => e = .returned (.tuple #[.int .i64 0, .int .i64 55]) ∧ Below w.heap.size w w' := by
  have HR := hid (aread_blank w b t h)
  clear h
  go_enter Tryz.func6, Tryz.ntmps6
  go_wp2_with fail
  refine HR.out.mono ?_
  rintro _ w1 ⟨rfl, hb⟩
  go_wp2
  go_ret2
  exact ⟨rfl, hb⟩
set_option maxRecDepth 100000 in
theorem aGarbage_blank (w : World) (b t : Nat) (h : w.heap[b]? = some (.cells (ints .u8 (zz 768)).toArray t (0, 0))) : Calls Tryz.prog 7 #[.slice (some ⟨b, 0, none⟩) 768 768, .int .i64 0] w fun e w' => e = .returned (.tuple #[.slice none 0 0, .int .i64 55]) ∧ Below w.heap.size w w' := by
  have HR := hid (aread_blank w b t h)
  clear h
  go_enter Tryz.func7, Tryz.ntmps7
  go_wp2_with fail
  refine HR.out.mono ?_
  rintro _ w1 ⟨rfl, hb⟩
  go_wp2
  go_ret2
  exact ⟨rfl, hb⟩
set_option maxRecDepth 100000 in
theorem aCheck_blank (w : World) (b t : Nat) (h : w.heap[b]? = some (.cells (ints .u8 (zz 768)).toArray t (0, 0))) : Calls Tryz.prog 4 #[.slice (some ⟨b, 0, none⟩) 768 768] w fun e w' => e = .returned (.tuple #[.agg repC, .int .i64 55]) ∧ Below w.heap.size w w' := by
  have HR := hid (fun w0 (h0 : w0.heap[b]? = some (.cells (ints .u8 (zz 768)).toArray t (0, 0))) => aread_blank w0 b t h0)
  have HH := hid h
  clear h
  go_enter Tryz.func4, Tryz.ntmps4
  go_wp2_with fail
  refine (HR.out _ ?_).mono ?_
  · exact (((Below.refl _ w).alloc (Nat.le_refl _) _).block b (hlt HH.out)).trans HH.out
  rintro _ w1 ⟨rfl, hb⟩
  have hb2 : Below w.heap.size w w1 := ((Below.refl _ w).alloc (Nat.le_refl _) _).trans (hb.mono (by rw [World.size_alloc]; omega))
  have r0 : w1.heap[w.heap.size]? = some (.cells repC 24 (0, 0)) := (hb.block _ (by rw [World.size_alloc]; omega)).trans (hnew w _)
  have hN : (Tryz.prog.info? 24).map (·.size) = some repC.size := by kernel_rfl
  have hO : repC.all (·.oneCell') = true := by kernel_rfl
  have bd := below_setRow hb2 (Nat.le_refl _) repC
  have r9 : (w1.setRow w.heap.size repC).heap[w.heap.size]? = _ := setRow_heap w1 _ _ _ _ _ r0
  clear hb
  go_wp2_with (first
    | refine wpList_store_row (by rfl) 24 (.tmp 2) (.tmp 14) (by rfl) w.heap.size repC (by rfl) (by rfl) 24 repC (by exact r0) hN rfl hO ?_)
  exact bodyPost_ret (v := .tuple #[.agg repC, .int .i64 55]) (results_c2 Tryz.results4 _ _ w.heap.size 24 _ _ _ rfl r9 Tryz.underlying24 rfl hN) rfl ⟨rfl, bd⟩
set_option maxRecDepth 100000 in
set_option maxHeartbeats 1000000 in
theorem auditNames_any (w : World) : Calls Tryz.prog 3 #[] w fun e w' => e = .returned (.bool true) ∧ Below w.heap.size w w' := by
  obtain ⟨i5, hi5, hz5, hs5, hy5⟩ := Tryz.info5
  have HI := hid hi5
  have K1 := hid (show i5.bytes * 768 ≤ 281474976710656 by rw [hy5]; omega)
  have K2 := hid (show 768 ≤ maxLen by unfold maxLen; omega)
  have PZ := hid (show padz [] 768 = zz 768 by simp [padz, zz])
  clear hi5
  have hN : (Tryz.prog.info? 24).map (·.size) = some repC.size := by kernel_rfl
  have hO9 : repC.all (·.oneCell') = true := by kernel_rfl
  go_enter Tryz.func3, Tryz.ntmps3
  go_wp2_with (refine wpList_make_full _ rfl _ _ 28 rfl w.heap.size 5 i5 (.int .u8 0) 1 Tryz.underlying28 HI.out hz5 hs5 .i64 .i64 _ _ 768 rfl rfl rfl rfl K1.out K2.out (Nat.le_refl _) ?_; intro w1 hO hg; have hB := grown_keeps hg (fun k hk => by cases hk) (Nat.le_refl w.heap.size); have hr := made_row hO; rw [PZ.out] at hr; clear hg hO)
  refine (aCheck_blank _ _ _ hr).mono ?_
  rintro _ w2 ⟨rfl, hb⟩
  have B1 : Below w.heap.size w w2 := hB.trans (hb.mono hB.size)
  clear hB hr hb
  go_wp2_with (refine wpList_store_row rfl 24 _ _ rfl w2.heap.size repC rfl rfl 24 repC (hnew w2 _) hN rfl hO9 ?_; rw [setRow_alloc]; refine Hid.out ?_)
  refine hid ?_
  have B1' : Below w.heap.size w (w2.alloc (.cells repC 24)) := B1.alloc B1.size _
  clear B1
  have B1 := B1'
  clear B1'
  generalize w2.alloc (.cells repC 24) = w2 at *
  go_wp2_with (refine wpList_make_full _ rfl _ _ 28 rfl w2.heap.size 5 i5 (.int .u8 0) 1 Tryz.underlying28 HI.out hz5 hs5 .i64 .i64 _ _ 768 rfl rfl rfl rfl K1.out K2.out (Nat.le_refl _) ?_; intro w3 hO hg; have hB := grown_keeps hg (fun k hk => by cases hk) (Nat.le_refl w2.heap.size); have hr := made_row hO; rw [PZ.out] at hr; clear hg hO)
  refine (aPages_blank _ _ _ hr).mono ?_
  rintro _ w4 ⟨rfl, hb⟩
  have B2 : Below w.heap.size w w4 := B1.trans ((hB.mono B1.size).trans (hb.mono (Nat.le_trans B1.size hB.size)))
  clear hB hr hb
  go_wp2_with (refine wpList_make_full _ rfl _ _ 28 rfl w4.heap.size 5 i5 (.int .u8 0) 1 Tryz.underlying28 HI.out hz5 hs5 .i64 .i64 _ _ 768 rfl rfl rfl rfl K1.out K2.out (Nat.le_refl _) ?_; intro w5 hO hg; have hB := grown_keeps hg (fun k hk => by cases hk) (Nat.le_refl w4.heap.size); have hr := made_row hO; rw [PZ.out] at hr; clear hg hO)
  refine (aOwner_blank _ _ _ hr).mono ?_
  rintro _ w6 ⟨rfl, hb⟩
  have B3 : Below w.heap.size w w6 := B2.trans ((hB.mono B2.size).trans (hb.mono (Nat.le_trans B2.size hB.size)))
  clear hB hr hb
  go_wp2_with (refine wpList_make_full _ rfl _ _ 28 rfl w6.heap.size 5 i5 (.int .u8 0) 1 Tryz.underlying28 HI.out hz5 hs5 .i64 .i64 _ _ 768 rfl rfl rfl rfl K1.out K2.out (Nat.le_refl _) ?_; intro w7 hO hg; have hB := grown_keeps hg (fun k hk => by cases hk) (Nat.le_refl w6.heap.size); have hr := made_row hO; rw [PZ.out] at hr; clear hg hO)
  refine (aGarbage_blank _ _ _ hr).mono ?_
  rintro _ w8 ⟨rfl, hb⟩
  have B4 : Below w.heap.size w w8 := B3.trans ((hB.mono B3.size).trans (hb.mono (Nat.le_trans B3.size hB.size)))
  clear hB hr hb
  go_wp2
  go_ret
  exact ⟨rfl, B4⟩
end Go.Proofs.YthkdmmbippjcfaaGreatDoor
