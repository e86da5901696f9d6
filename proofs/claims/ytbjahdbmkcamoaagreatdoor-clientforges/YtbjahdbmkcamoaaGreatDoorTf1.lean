import Derived.Test.YtbjahdbmkcamoaaGreatDoorTf1a
namespace Go.Proofs.YtbjahdbmkcamoaaGreatDoor
set_option linter.unusedVariables false
set_option linter.unusedSimpArgs false
open Go.RowKit
attribute [local go_sem ↓] Go.wp_at_zero Go.wp_at_succ

set_option maxRecDepth 100000 in
set_option maxHeartbeats 4000000 in
theorem forges_any (w : World) (hG : Gb w) (k : Int) (cs : List Chg) (sp : Option Addr) (cap b o : Nat) (ms : List MC) (hC : Chs w sp cap cs b o ms) (hok : ∀ c ∈ cs, OkC c) (ks : List Int) (hk : ks.length = 32) (yk : Bys ks) (kat kbits : Int) :
    Calls Tryz.prog 3 #[.int .i64 k, .slice sp cs.length cap, .agg (ints .u8 ks).toArray, .int .i64 kat, .int .i64 kbits] w fun e w' => e = .returned (.bool true) ∧ Below w.heap.size w w' := by
  have KW := hid (fun w1 => lwithin_32 k w1)
  have d0 := (BK.nil w).alloc (ints .u8 ks) 24
  have KM := hid (mapped_any _ cs sp cap b o ms (hC.below d0.1) hok)
  have hmv := mapC_vs hok
  have hmy := mapC_y hok
  have hms := mapC_srt cs
  have hml := mapC_len cs
  generalize mapC cs = m at *
  generalize cs.length = C at *
  clear hC hok
  have AD := hid allocDg
  have AA := hid allocAn
  have LZ := hid (show (ints .u8 zB).length = 32 from rfl)
  have LK := hid (show (Tryz.prog.info? 24).map (·.size) = some (ints .u8 ks).toArray.size by rw [Tryz.sizeKy, ints_size, hk])
  go_enter Tryz.func3, Tryz.ntmps3
  go_wp2_with (first | (refine (KW.out _).mono ?_; rintro e w1' ⟨n, hn1, hn2, rfl, rfl⟩; refine Hid.out ?_))
  refine hid ?_
  clear KW
  generalize w.alloc (.cells (ints .u8 ks).toArray 24) = w1 at *
  go_wp2_with (first | (refine KM.out.mono ?_; rintro e w2 ⟨v2, rfl, hO2, hb2⟩; refine Hid.out ?_))
  refine hid ?_
  clear KM
  obtain ⟨sp3, cap3, rfl, hE, hn3⟩ := hO2.form
  have d2 := d0.call hb2
  clear hO2 d0
  have KR := hid (qroot_any w2 (hG.below d2.1 hG.1.1) n m hmv hms.shr (hms.srt hmv) (by omega) sp3 cap3 hE)
  have LR := hid (tD_len n 256 m)
  have LR2 := hid (show (ints .u8 (tD n 256 m)).length = 32 by rw [ints_len, LR.out])
  have LRs := hid (show (Tryz.prog.info? 28).map (·.size) = some (ints .u8 (tD n 256 m)).toArray.size by rw [Tryz.sizeD, ints_size, LR.out])
  have OR := hid (ints_one .u8 (tD n 256 m))
  have KZ := hid (fun w1 (g1 : Gb w1) h => zBytes_any w1 g1 n m hmv hmy hms.nodup (by omega) sp3 cap3 h ks hk yk)
  have KV := hid (fun w1 (g1 : Glob w1) s c h => verify_truth w1 g1 hn1 hn2 hmv hmy hk yk s c h)
  have KL := hid (fun w1 h => look_truth w1 m hmv hms (by omega) sp3 cap3 h ks hk yk)
  have VT := hid (ver_truth hn1 hn2 hmv hk yk).1
  have yt := proofM_bys (k := n) hmv hmy ks
  have hlt2 := encP_len (proofM_well (w := n) hmv ks).1 (proofM_well (w := n) hmv ks).2
  have ht1 : 33 ≤ (encP (proofM n m ks)).length := hlt2.1
  have ht2 : (encP (proofM n m ks)).length ≤ 1000000 := by have := hlt2.2; omega
  clear hlt2
  generalize encP (proofM (n : Int) m ks) = tt at *
  generalize mV m ks = vV at *
  generalize mF m ks = vF at *
  generalize tD (n : Int) 256 m = RT at *
  go_wp2_with (first | (refine KR.out.mono ?_; rintro e w3 ⟨rfl, hb3⟩; refine Hid.out ?_))
  refine hid ?_
  clear KR
  have hE3 := hE.below hb3
  have d3 := d2.call hb3
  clear d2 hE
  go_wp2_with (first | (refine wpList_new AD.out LZ.out Tryz.sizeD rfl rfl rfl _ _ rfl rfl (ints .u8 RT) rfl rfl LR2.out OR.out ?_; refine Hid.out ?_))
  refine hid ?_
  have d4 := d3.alloc (ints .u8 RT) 28
  have hE4 : SrcE (w3.alloc (.cells (ints .u8 RT).toArray 28)) sp3 cap3 m := hE3.below ((Below.refl _ _).alloc (Nat.le_refl _) _)
  have hB13 := d3.1.size
  generalize w3.alloc (.cells (ints .u8 RT).toArray 28) = w4 at *
  generalize w3.heap.size = B13 at *
  clear d3 hE3 hb3
  have rk4 := d4.row (.tail _ (.head _))
  have KZ4 := hid (KZ.out w4 (hG.below d4.1 hG.1.1) hE4)
  clear KZ
  go_wp2_with (first
    | refine wpList_load_row rfl 24 _ rfl _ rfl 24 _ _ _ rk4 Tryz.underlying24 rfl LK.out ?_
    | (refine KZ4.out.mono ?_; rintro e w5 ⟨v5, rfl, hO5, hb5⟩; refine Hid.out ?_))
  refine hid ?_
  clear KZ4 rk4
  have d5 := d4.call hb5
  have hE5 := hE4.below hb5
  clear d4 hE4
  obtain ⟨s5, c5, rfl, hS5, hn5⟩ := hO5.form
  have rk5 := d5.row (.tail _ (.head _))
  have rr5 := d5.row (.head _)
  have KV5 := hid (KV.out w5 (hG.1.below d5.1 hG.1.1) s5 c5 hS5)
  clear KV hO5
  go_wp2_with (first
    | refine wpList_load_row rfl 28 _ rfl _ rfl 28 _ _ _ rr5 Tryz.underlying28 rfl LRs.out ?_
    | refine wpList_load_row rfl 24 _ rfl _ rfl 24 _ _ _ rk5 Tryz.underlying24 rfl LK.out ?_
    | (refine KV5.out.mono ?_; rintro e w6 ⟨s6, c6, rfl, hO6, hb6⟩; refine Hid.out ?_))
  refine hid ?_
  clear KV5 rk5 rr5
  have d6 := d5.call hb6
  have hE6 := hE5.below hb6
  have hS6 := hS5.below hb6 (Nat.le_refl _)
  clear d5 hE5 hS5
  have LA := hid (show (ansC vF (.slice s6 vV.length c6)).length = 2 from rfl)
  have LA0 := hid (show (ansC false (.slice none 0 0)).length = 2 from rfl)
  have OA := hid (ansC_one vF s6 vV.length c6)
  go_wp2_with (first | (refine wpList_new AA.out LA0.out Tryz.sizeAn rfl rfl rfl _ _ rfl rfl (ansC vF (.slice s6 vV.length c6)) rfl rfl LA.out OA.out ?_; refine Hid.out ?_))
  refine hid ?_
  have hb7 : Below w6.heap.size w6 (w6.alloc (.cells (ansC vF (.slice s6 vV.length c6)).toArray 33)) := (Below.refl _ _).alloc (Nat.le_refl _) _
  have d7 := d6.call hb7
  have hE7 := hE6.below hb7
  have hS7 := hS6.below hb7 (Nat.le_refl _)
  have hO7 := hO6.below hb7 (Nat.le_refl _)
  have rA := hnew w6 (.cells (ansC vF (.slice s6 vV.length c6)).toArray 33)
  generalize w6.alloc (.cells (ansC vF (.slice s6 vV.length c6)).toArray 33) = w7 at *
  generalize w6.heap.size = GA at *
  clear d6 hE6 hS6 hO6 hb7
  have rk7 := d7.row (.tail _ (.head _))
  have KL7 := hid (KL.out w7 hE7)
  clear KL
  go_wp2_with (first
    | refine wpList_load_row rfl 24 _ rfl _ rfl 24 _ _ _ rk7 Tryz.underlying24 rfl LK.out ?_
    | (refine KL7.out.mono ?_; rintro e w8 ⟨s8, c8, rfl, hS8, hb8⟩; refine Hid.out ?_))
  refine hid ?_
  clear KL7 rk7
  have d8 := d7.call hb8
  have fA := cell_ck (C := ansC vF (.slice s6 vV.length c6)) (j := 0) (v := .bool vF) (hbel hb8 rA (hlt rA)) rfl
  have vA := cell_ck (C := ansC vF (.slice s6 vV.length c6)) (j := 1) (v := .slice s6 vV.length c6) (hbel hb8 rA (hlt rA)) rfl
  have cA := conv_str w8 vV s6 c6 (Own.srcN (hO7.below hb8 (Nat.le_refl _)))
  have c8' := conv_str w8 vV s8 c8 hS8
  have hS8t := hS7.below hb8 (Nat.le_refl _)
  have KC8 := hid (copied_any w8 tt s5 c5 hS8t hn5 (by omega))
  clear d7 hE7 hS7 rA hO7
  go_wp2_with (first | (refine KC8.out.mono ?_; rintro e w9 ⟨v9, rfl, hO9, hb9⟩; refine Hid.out ?_))
  refine hid ?_
  clear KC8 fA vA cA c8'
  have d9 := d8.call hb9
  have hS9t := hS8t.below hb9 (Nat.le_refl _)
  obtain ⟨gb, cb, rfl⟩ := own_some hO9 (by omega)
  have KW9 := hid (lwithin_len kat tt.length (by omega) ht2 w9)
  have i1 : (33 : Int) ≤ (tt.length : Int) := by omega
  have i2 : (tt.length : Int) ≤ 1000000 := by omega
  go_wp2_with (first | (refine KW9.out.mono ?_; rintro e w9' ⟨i, hi, rfl, hw9⟩; obtain rfl := hw9.symm; refine Hid.out ?_))
  refine hid ?_
  clear KW9
  obtain ⟨cs9, rw9, hi9, hc9, hgb, hpk⟩ := hO9.poke i hi
  obtain ⟨a, ha, haL⟩ : ∃ a : Nat, tt.getD i 0 = (a : Int) ∧ a < 256 := by
    have := Byts.get (zs := tt) yt i
    exact ⟨(tt.getD i 0).toNat, by omega, by omega⟩
  rw [ha] at hc9
  go_wp2_with fail
  refine freg11 w8 w9 gb cb i tt.length hi ht2 kbits a haL cs9 rw9 hi9 hc9 hgb hb9 ?_
  intro r w10
  intros
  rename_i hr1 hr2 hw10
  have x1 := xor_new haL hr1 hr2
  have hO10 := hpk ((a ^^^ r : Nat) : Int) w9.drew rw9
  rw [← hw10] at hO10
  have hNE := set_ne hi (x := ((a ^^^ r : Nat) : Int)) (by rw [ha]; exact x1.1)
  have y10 := set_bys yt (i := i) x1.2
  have hL10 : (tt.set i ((a ^^^ r : Nat) : Int)).length = tt.length := List.length_set ..
  have hb10 : Below w8.heap.size w8 w10 := by rw [hw10]; exact below_setRow hb9.drew hgb _
  have d10 := d8.call hb10
  have hS10 := hS8t.below hb10 (Nat.le_refl _)
  clear hw10 hpk rw9 hi9 hc9 hO9 d8 d9 hS9t hS8t x1
  generalize tt.set i ((a ^^^ r : Nat) : Int) = t2 at *
  obtain ⟨s10, c10, e10, hS2, hn2'⟩ := hO10.form
  rw [hL10] at e10
  simp only [Value.slice.injEq] at e10
  obtain ⟨rfl, -, rfl⟩ := e10
  have LR3 := LR.out
  have KC := hid (fun w1 (a1 : Below w10.heap.size w10 w1) => copied_any w1 t2 (some ⟨gb, 0, none⟩) cb (hS2.below a1 (Nat.le_refl _)) hn2' (by omega))
  have KV := hid (fun w1 (a1 : Below w10.heap.size w10 w1) sp cap (a2 : Src w1 sp cap t2) => verify_any w1 (hG.1.below (d10.1.trans (a1.mono d10.1.size)) hG.1.1) n RT ks t2 LR3 hk yk sp cap y10 a2)
  have KE := hid (fun w1 (a1 : Below w10.heap.size w10 w1) => extract_all w1 (hG.1.below (d10.1.trans (a1.mono d10.1.size)) hG.1.1) n RT ks tt t2 LR3 hk yk s5 (some ⟨gb, 0, none⟩) c5 cb yt y10 (hS10.below a1 (Nat.le_refl _)) (hS2.below a1 (Nat.le_refl _)))
  have HV := hid (verE_vals hn1 hn2 RT ks t2)
  unfold VerP at KV
  simp only [hL10] at KC KE
  go_wp2_with fail
  refine freg12 w w10 n RT ks t2 LR3 hk w.heap.size B13 gb cb tt.length (verE n RT ks t2) (verF n RT ks t2) (verV n RT ks t2) d10 KC KV ?_
  intro _ w12
  intros
  rename_i d12 hb12
  have rk12 := d12.row (.tail _ (.head _))
  have rr12 := d12.row (.head _)
  have KE12 := hid (KE.out w12 hb12)
  clear KC KV KE d10 hS2 hO10 hS10
  go_wp2_with (first
    | refine wpList_load_row rfl 28 _ rfl _ rfl 28 _ _ _ rr12 Tryz.underlying28 rfl LRs.out ?_
    | refine wpList_load_row rfl 24 _ rfl _ rfl 24 _ _ _ rk12 Tryz.underlying24 rfl LK.out ?_
    | (refine KE12.out.mono ?_; rintro e w13 ⟨x, y, ok, s1, e1', s2, e2', rfl, a1, a2, a3, a4⟩; refine Hid.out ?_))
  refine hid ?_
  clear KE12 rk12 rr12
  have hB13' := d12.1.trans (a4.mono d12.1.size)
  rcases a3 with ⟨rfl, rfl, rfl, hno⟩ | ⟨rfl, hxy, bx, by', lx, ly, hcut, e1, e2, hpq⟩
  · have hne0 : verE n RT ks t2 ≠ 0 := by
      rcases hno with h | h | h
      · exact absurd VT.out h
      · exact h
      · exact absurd h hNE
    have HV' := HV.out
    clear hno HV VT
    generalize verE n RT ks t2 = EE at *
    rcases HV' with rfl | rfl | rfl | rfl
    · exact absurd rfl hne0
    all_goals
      go_wp2_with fail
      go_ret
      exact ⟨rfl, hB13'⟩
  · have hq2 : ((strOfNums x).toList == (strOfNums y).toList) = false := by rw [str_eq bx by']; simpa using hxy
    have cx := conv_str w13 x s1 e1' a1
    have cy := conv_str w13 y s2 e2' a2
    have gD := Tryz.guardD
    have KS1 := hid (dsum_any w13 x s1 e1' a1 (hG.1.below hB13' hG.1.1) (by omega))
    have KS2 := hid (fun w6 (b6 : Below w13.heap.size w13 w6) => dsum_any w6 y s2 e2' (a2.below b6 (Nat.le_refl _)) (hG.1.below (hB13'.trans (b6.mono hB13'.size)) hG.1.1) (by omega))
    have KT1 := hid (fun w6 => cutD_any (sha x) (sha_len x) n w6)
    have KT2 := hid (fun w6 => cutD_any (sha y) (sha_len y) n w6)
    rw [← hcut] at KT2
    have qE := eqD_self (cutZ (sha x) (kept n)) (cutZ_len _ _ (sha_len _))
    rw [e2]
    clear hcut hxy hpq bx by' e1 e2 HV VT
    generalize cutZ (sha x) (kept n) = CC at *
    generalize sha x = SX at *
    generalize sha y = SY at *
    go_wp2_with (first | (refine KS1.out.mono ?_; rintro e w6 ⟨rfl, hb6'⟩; refine Hid.out ?_))
    refine hid ?_
    go_wp2_with (first | (refine (KT1.out _).mono ?_; rintro e w7 ⟨rfl, hb7'⟩; refine Hid.out ?_))
    refine hid ?_
    have hb8' := hb6'.trans (hb7'.mono hb6'.size)
    have KS2' := hid (KS2.out w7 hb8')
    go_wp2_with (first | (refine KS2'.out.mono ?_; rintro e w8 ⟨rfl, hb9'⟩; refine Hid.out ?_))
    refine hid ?_
    have hb10' := hb8'.trans (hb9'.mono hb8'.size)
    go_wp2_with (first | (refine (KT2.out _).mono ?_; rintro e w9 ⟨rfl, hb11'⟩; refine Hid.out ?_))
    refine hid ?_
    have hb12' := hb10'.trans (hb11'.mono hb10'.size)
    go_wp2_with fail
    go_ret
    exact ⟨rfl, hB13'.trans (hb12'.mono hB13'.size)⟩
end Go.Proofs.YtbjahdbmkcamoaaGreatDoor
