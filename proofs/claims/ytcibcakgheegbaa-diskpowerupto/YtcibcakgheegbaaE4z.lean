import Derived.Test.YtcibcakgheegbaaE4y
namespace Go.Proofs.Ytcibcakgheegbaa
set_option linter.unusedVariables false
set_option linter.unusedSimpArgs false
open Go.RowKit
attribute [local go_sem ↓] Go.wp_at_zero Go.wp_at_succ

/-- Has power gone behind i acts? -/
def gon (n : Int) (i : Nat) : Bool := decide (1 ≤ n ∧ n ≤ i)
theorem gon0 (n : Int) : gon n 0 = false := decide_eq_false (fun h => by have := h.1; have := h.2; omega)
/-- A disk behind i acts. -/
structure PS (n : Int) (i : Nat) (D : DS) : Prop where
  pw : D.power = !gon n i
  ar : D.armed = if gon n i then 0 else if n ≤ 0 then 0 else n - i
  np : D.np = 3
  ep : D.epoch = 0
  ol : D.ops.length ≤ i
  wl : D.writes ≤ i
  sl : D.syncs ≤ i
theorem PS.start (n : Int) (Z : List Int) (hz : (newD Z).np = 3) : PS n 0 ((newD Z).arm n) := by
  have e : (newD Z).arm n = { newD Z with armed := max n 0 } := rfl
  rw [e]
  refine ⟨by rw [gon0]; rfl, ?_, hz, rfl, Nat.le_refl _, Int.le_refl _, Int.le_refl _⟩
  rw [gon0]
  show max n 0 = _
  simp only [Bool.false_eq_true, if_false]
  split <;> omega
theorem gon_succ (n : Int) (i : Nat) (h : gon n i = false) : gon n (i + 1) = ((i : Int) + 1 == n) := by
  unfold gon at *
  have h := of_decide_eq_false h
  by_cases e : (i : Int) + 1 = n
  · rw [decide_eq_true (by omega)]; simp [e]
  · rw [decide_eq_false (fun q => by omega)]; simp [e]
theorem PS.one {n : Int} {i : Nat} {D : DS} (h : PS n i D) (hg : gon n i = false) : D.armed = 1 ↔ (i : Int) + 1 = n := by
  rw [h.ar, hg]
  unfold gon at hg
  have hg := of_decide_eq_false hg
  simp only [Bool.false_eq_true, if_false]
  split <;> omega
theorem gon_stay (n : Int) (i : Nat) (h : gon n i = true) : gon n (i + 1) = true := by
  unfold gon at *
  have := of_decide_eq_true h
  exact decide_eq_true ⟨this.1, by push_cast; omega⟩
theorem PS.stay {n : Int} {i : Nat} {D : DS} (h : PS n i D) (hg : gon n i = true) : PS n (i + 1) D := by
  have hs := gon_stay n i hg
  refine ⟨by rw [hs, h.pw, hg], by rw [hs, h.ar, hg]; simp, h.np, h.ep, Nat.le_succ_of_le h.ol, by have := h.wl; push_cast; omega, by have := h.sl; push_cast; omega⟩
/-- Behind one act more. -/
theorem PS.next {n : Int} {i : Nat} {D E : DS} (h : PS n i D) (hg : gon n i = false) (ea : E.armed = D.armed) (ep : E.power = D.power) (en : E.np = 3) (ee : E.epoch = 0) (eo : E.ops.length ≤ i + 1) (ew : E.writes ≤ i + 1) (es : E.syncs ≤ i + 1) : PS n (i + 1) E.acted := by
  obtain ⟨q1, q2, q3, q4, q5, q6⟩ := acted_same E
  have ha := h.ar
  have h1 := h.one hg
  have hp := h.pw
  rw [hg] at ha hp
  have hs := gon_succ n i hg
  unfold gon at hg
  have hg := of_decide_eq_false hg
  simp only [Bool.false_eq_true, if_false] at ha
  refine ⟨?_, ?_, by unfold DS.np; rw [q1]; exact en, by rw [q3]; exact ee, by rw [q2]; exact eo, by rw [q5]; push_cast; exact ew, by rw [q6]; push_cast; exact es⟩
  · rw [hs]
    unfold DS.acted
    rw [ea]
    by_cases c : D.armed = 1
    · rw [if_neg (by omega), if_pos c]
      have := h1.1 c
      simp [this]
    · have c2 : ¬ (i : Int) + 1 = n := fun e => c (h1.2 e)
      have c3 : ((i : Int) + 1 == n) = false := by simp [c2]
      rw [if_neg c, c3]
      split
      · rw [ep, hp]
      · show E.power = _; rw [ep, hp]
  · rw [hs]
    unfold DS.acted
    rw [ea]
    by_cases c : D.armed = 1
    · rw [if_neg (by omega), if_pos c]
      have := h1.1 c
      simp [this]
    · have c2 : ¬ (i : Int) + 1 = n := fun e => c (h1.2 e)
      have c3 : ((i : Int) + 1 == n) = false := by simp [c2]
      rw [if_neg c, c3]
      simp only [Bool.false_eq_true, if_false]
      split at ha
      · rw [if_pos ha, ea, ha]; rename_i hn; rw [if_pos hn]
      · rw [if_neg (by omega)]
        rename_i hn
        rw [if_neg hn]
        show D.armed - 1 = _
        rw [ha]; push_cast; omega
theorem make255 : ∃ Zc : Array Value, ∀ w, (Instr.makeSlice 28 (.int .i64 255) (.int .i64 255)).run Try.prog w = .ok (.slice (some ⟨w.heap.size, 0, none⟩) 255 255) (w.alloc (.cells Zc 5)) := ⟨Array.replicate 255 (.int .u8 0), fun w => by kernel_rfl⟩
theorem PS.sync {n : Int} {i : Nat} {D : DS} (h : PS n i D) (hg : gon n i = false) (hne : D.armed ≠ 1) (hok : DsOk D) : PS n (i + 1) D.synced := by
  have q := h.next (E := D) hg rfl rfl h.np h.ep (by have := h.ol; omega) (by have := h.wl; push_cast; omega) (by have := h.sl; push_cast; omega)
  have hnp : D.synced.np = 3 := by
    show (layTo D.img D.ops D.ops.length).length / 256 = 3
    rw [layTo_len hok.np.2.2.1 hok.np.2.2.2 _ (Nat.le_refl _), h.np]
  exact ⟨q.pw, q.ar, hnp, q.ep, Nat.zero_le _, q.wl, by have := h.sl; show D.syncs + 1 ≤ _; push_cast; omega⟩
set_option maxRecDepth 100000 in
set_option maxHeartbeats 2000000 in
theorem power_walk (w : World) (n : Int) (hn1 : n ≤ 9223372036854775807) (bs : List Bool) (sp : Option Addr) (cap : Nat) (hS : Bls w w.heap.size sp bs) (hl : bs.length ≤ 1048576) (rf : Int) :
    Calls Try.prog 4 #[.int .i64 n, .slice sp bs.length cap, .int .i64 rf] w fun e w' => e = .returned (.bool true) ∧ Below w.heap.size w w' := by
  have q23 := nilp
  obtain ⟨Z, hZ⟩ : ∃ Z : List Int, Z = List.replicate (256 * 3) 0 := ⟨_, rfl⟩
  have FR := hid (fun w => fresh_to w 0 (by omega) (by omega) 3 rfl Z hZ)
  have HZ := hid hZ
  clear hZ
  have T := TL.nil w w.heap.size (Nat.le_refl _)
  have T0 : w.heap.size ≤ w.heap.size := Nat.le_refl _
  obtain ⟨B, hBB⟩ : ∃ B, B = w.heap.size := ⟨_, rfl⟩
  rw [← hBB] at hS T ⊢
  replace T0 : B ≤ w.heap.size := by omega
  have HBB := hid hBB
  have HS := hid hS
  clear hBB hS
  have npN : (newD Z).np = 3 := by rw [HZ.out]; exact emp_replicate 3
  have okN : DsOk (newD Z) := by rw [HZ.out]; exact newZ_ok (by omega) (by omega)
  obtain ⟨i5, hi5, hz5, hs5, hy5⟩ := Try.info5
  have HI := hid hi5
  have K1 := hid (show i5.bytes * 256 ≤ 281474976710656 by rw [hy5]; omega)
  have K2 := hid (show 256 ≤ maxLen by unfold maxLen; omega)
  have K3 := hid (show i5.bytes * 255 ≤ 281474976710656 by rw [hy5]; omega)
  have K4 := hid (show 255 ≤ maxLen by unfold maxLen; omega)
  obtain ⟨OV, hOV⟩ : ∃ OV : List Int, OV = List.replicate 256 0 := ⟨_, rfl⟩
  have HOV := hid hOV
  have HOL := hid (show OV.length = 256 by rw [hOV, List.length_replicate])
  have HOB := hid (show Bts OV by rw [hOV]; exact bts_rep _)
  clear hi5 hy5 hOV
  obtain ⟨Zc, hmk⟩ := make255
  go_enter Try.func4, Try.ntmps4
  go_wp2_with fail
  refine (FR.out w).mono ?_
  rintro e w1 ⟨p1, Fp1, rfl, hD, hBx⟩
  have T := T.push hBx hD
  clear hD
  have hB0 : Below B w w1 := hBx.mono T0
  have T0 : B ≤ w1.heap.size := T.hb
  clear hBx
  change TL B w1 [(p1, (newD Z))] [] at T
  go_wp2_with fail
  obtain ⟨F, hDA, hGF, hnx⟩ := T.at 0 (by simp)
  change DA w1 B F p1 (newD Z) at hDA
  clear hnx
  refine (Power_any w1 B F p1 _ hDA).mono ?_
  rintro e wx ⟨rfl, rfl⟩
  clear hDA hGF
  rw [show (newD Z).power = true from rfl]
  go_wp2_with fail
  obtain ⟨F, hDA, hGF, hnx⟩ := T.at 0 (by simp)
  change DA w1 B F p1 (newD Z) at hDA
  change ∀ (w' : World) (D' : DS), Nx B F p1 w1 D' w' → TL B w' [(p1, D')] [] ∧ Below B w1 w' ∧ ∀ g ∈ [], w'.heap[g]? = w1.heap[g]? at hnx
  refine (Arm_any w1 B F p1 _ hDA n hn1).mono ?_
  rintro e w2 ⟨rfl, hN⟩
  obtain ⟨T1, hBy, hKx⟩ := hnx _ _ hN
  clear hnx hDA hGF hN
  have hB0 := hB0.trans hBy
  have T0 : B ≤ w2.heap.size := T1.hb
  clear T hBy hKx
  have T := T1
  clear T1
  change TL B w2 [(p1, ((newD Z).arm n))] [] at T
  go_wp2_with fail
  have h0 : PS n 0 ((newD Z).arm n) := PS.start n Z npN
  have HB0 := hid hB0
  have HT := hid T
  have HH0 := hid h0
  clear hB0 T h0 T0
  go_loopw [8, 9, 10] (fun ov gv iv wr => ∃ (i : Nat) (D : DS), i ≤ bs.length ∧ iv = .int .i64 i ∧ gv = .bool (gon n i) ∧ ov = .int .i64 D.ops.length ∧ PS n i D ∧ TL B wr [(p1, D)] [] ∧ Below B w wr) (fun _ _ iv _ => bs.length - (intOf iv).toNat)
  case atStart => exact ⟨0, _, by omega, rfl, by rw [gon0], by rw [DS.arm]; rfl, HH0.out, HT.out, HB0.out⟩
  case round =>
    clear HB0 HT HH0
    obtain ⟨i, D, hi, rfl, rfl, rfl, hP, T, hB0⟩ := hrel
    have T0 := T.hb
    by_cases hlt : i < bs.length
    · have i1 : (i : Int) < (bs.length : Int) := by omega
      cases hg : gon n i with
      | true =>
        have HG1 := hid hg
        clear hg
        by_cases h0 : (0 : Int) < rf
        · go_wp2
          obtain ⟨wb, hwb⟩ : ∃ wb, wb = wr := ⟨_, rfl⟩
          rw [← hwb] at T hB0 T0
          have HT := hid T
          have HB0 := hid hB0
          have HP := hid hP
          clear T hB0 T0 hP
          rw [← hwb]
          clear hwb
          go_loopw [11] (fun jv wr => jv = .int .i64 0 ∧ wr = wb) (fun _ _ => 0)
          case atStart => exact ⟨rfl, rfl⟩
          case round =>
            obtain ⟨rfl, rfl⟩ := hrel
            have T := HT.out
            have hB0 := HB0.out
            have T0 := T.hb
            have hP := HP.out
            clear HT HB0 HP
            go_wp2_with fail
            obtain ⟨F, hDA, hGF, hnx⟩ := T.at 0 (by simp)
            change DA wr B F p1 D at hDA
            clear hnx hGF
            refine (down_any wr B F p1 D hDA (by rw [hP.pw, HG1.out]; rfl)).mono ?_
            rintro e w22 ⟨rfl, hBx⟩
            clear hDA
            have T := T.below hBx
            have hBy : Below B wr w22 := hBx.mono T0
            have T0 : B ≤ w22.heap.size := T.hb
            have hB0 := hB0.trans hBy
            clear hBx hBy
            go_wp2
            go_roundw
            case rel => exact ⟨i + 1, D, by omega, by go_num, by rw [gon_stay n i HG1.out], rfl, hP.stay HG1.out, T, hB0⟩
            case measure => simp [intOf]; omega
        · go_wp2
          obtain ⟨wb, hwb⟩ : ∃ wb, wb = wr := ⟨_, rfl⟩
          rw [← hwb] at T hB0 T0
          have HT := hid T
          have HB0 := hid hB0
          have HP := hid hP
          clear T hB0 T0 hP
          rw [← hwb]
          clear hwb
          go_loopw [11] (fun jv wr => jv = .int .i64 0 ∧ wr = wb) (fun _ _ => 0)
          case atStart => exact ⟨rfl, rfl⟩
          case round =>
            obtain ⟨rfl, rfl⟩ := hrel
            have T := HT.out
            have hB0 := HB0.out
            have T0 := T.hb
            have hP := HP.out
            clear HT HB0 HP
            go_wp2_with fail
            obtain ⟨F, hDA, hGF, hnx⟩ := T.at 0 (by simp)
            change DA wr B F p1 D at hDA
            clear hnx hGF
            refine (down_any wr B F p1 D hDA (by rw [hP.pw, HG1.out]; rfl)).mono ?_
            rintro e w22 ⟨rfl, hBx⟩
            clear hDA
            have T := T.below hBx
            have hBy : Below B wr w22 := hBx.mono T0
            have T0 : B ≤ w22.heap.size := T.hb
            have hB0 := hB0.trans hBy
            clear hBx hBy
            go_wp2
            go_roundw
            case rel => exact ⟨i + 1, D, by omega, by go_num, by rw [gon_stay n i HG1.out], rfl, hP.stay HG1.out, T, hB0⟩
            case measure => simp [intOf]; omega
      | false =>
        obtain ⟨bb, bo, hbp, hbr⟩ := HS.out
        obtain ⟨hbB, hbs, rfl⟩ := hbp (by omega)
        have hcb0 := hbr i hlt
        have HG1 := hid hg
        have HP := hid hP
        have HT := hid T
        have HB0 := hid hB0
        clear hg hP T hB0 T0 hbr hbp
        go_wp2
        obtain ⟨wb, hwb⟩ : ∃ wb, wb = wr := ⟨_, rfl⟩
        rw [← hwb] at HT HB0
        rw [← hwb]
        clear hwb
        go_loopw [11] (fun jv wr => ∃ j : Nat, j ≤ 3 ∧ jv = .int .i64 j ∧ TL B wr [(p1, D)] [] ∧ Below B w wr) (fun jv _ => 3 - (intOf jv).toNat)
        case atStart => exact ⟨0, by omega, rfl, HT.out, HB0.out⟩
        case round =>
          clear HT HB0
          obtain ⟨j, hj, rfl, T, hB0⟩ := hrel
          have T0 := T.hb
          by_cases hjc : (j : Int) < rf ∧ j < 3
          · obtain ⟨j1, j2⟩ := hjc
            have j3 : (j : Int) < 3 := by omega
            go_wp2_with fail
            obtain ⟨F, hDA, hGF, hnx⟩ := T.at 0 (by simp)
            change DA wr B F p1 D at hDA
            clear hnx
            refine (Write_no wr B F p1 D hDA (by rw [HP.out.pw, HG1.out]; rfl) 3 (Or.inr (by rw [HP.out.np]; decide)) (.slice none 0 0)).mono ?_
            rintro e wx ⟨rfl, rfl⟩
            clear hDA hGF
            go_wp2_with fail
            have hBx : Below wr.heap.size wr (wr.alloc (.cells Zc 5)) := (Below.refl _ wr).alloc (Nat.le_refl _) _
            have T := T.below hBx
            have hBy : Below B wr (wr.alloc (.cells Zc 5)) := hBx.mono T0
            have T0 : B ≤ (wr.alloc (.cells Zc 5)).heap.size := T.hb
            have hB0 := hB0.trans hBy
            clear hBx hBy
            obtain ⟨F, hDA, hGF, hnx⟩ := T.at 0 (by simp)
            change DA (wr.alloc (.cells Zc 5)) B F p1 D at hDA
            clear hnx
            refine (Write_few (wr.alloc (.cells Zc 5)) B F p1 D hDA (by rw [HP.out.pw, HG1.out]; rfl) 0 ⟨by decide, by rw [HP.out.np]; decide⟩ _ 255 255 (by decide)).mono ?_
            rintro e wx ⟨rfl, rfl⟩
            clear hDA hGF
            go_wp2
            go_roundw
            case rel => exact ⟨j + 1, by omega, by go_num, T, hB0⟩
            case measure => simp [intOf]; omega
          · have hjn : ¬ (j : Int) < rf ∨ ((j : Int) < rf ∧ ¬ (j : Int) < 3) := by omega
            clear hjc
            have HCB := hid (fun (wx : World) (hb : Below B w wx) => (show wx.cell? ⟨bb, bo + i, none⟩ = some (.bool (bs.getD i false)) from (hb.cell (p := ⟨bb, bo + i, none⟩) hbB).trans hcb0))
            clear hcb0
            obtain ⟨r, hr⟩ : ∃ r, r = i % 3 := ⟨_, rfl⟩
            have rt : (i : Int).tmod 3 = (r : Int) := by rw [hr, Int.tmod_eq_emod_of_nonneg (by omega)]; rfl
            have r3 : r < 3 := by omega
            have ir3 : (r : Int) < 3 := by omega
            have hone := HP.out.one HG1.out
            have hol := HP.out.ol
            have iol : (D.ops.length : Int) ≤ 1048576 := by omega
            clear hr
            cases hbv : bs.getD i false with
            | true =>
              rw [hbv] at HCB
              have HWL := hid (show (D.wr ⟨r, OV⟩).ops.length = D.ops.length + 1 by rw [DS.wr, (acted_same _).2.1]; simp [DS.pushed])
              have HPN := hid (show PS n (i + 1) (D.wr ⟨r, OV⟩) from HP.out.next HG1.out rfl rfl HP.out.np HP.out.ep (by simp [DS.pushed]; omega) (by have := HP.out.wl; show D.writes + 1 ≤ _; omega) (by have := HP.out.sl; show D.syncs ≤ _; omega))
              clear hbv hol
              by_cases c : (i : Int) + 1 = n
              · have HE2 := hid (show D.actE = 2 by unfold DS.actE; rw [if_pos (hone.2 c)])
                have HGN := hid (show ((i : Int) + 1 == n) = true by simp [c])
                have hgn : ((i : Int) + 1 == n) = true := HGN.out
                clear c hone
                rcases hjn with hj1 | ⟨hj1, hj2⟩
                · have hcb := HCB.out wr hB0
                  go_wp2_with (refine wpList_make_full _ rfl _ _ 28 rfl wr.heap.size 5 i5 (.int .u8 0) 1 Try.underlying28 HI.out hz5 hs5 .i64 .i64 _ _ 256 rfl rfl rfl rfl K1.out K2.out (Nat.le_refl _) ?_; intro w201 hO1 hg1; have hBx := grown_keeps hg1 (fun k hk => by cases hk) (Nat.le_refl _); have hO := made_own hO1 OV HOV.out; clear hg1 hO1)
                  have T := T.below hBx
                  have hBy : Below B wr w201 := hBx.mono T0
                  have T0 : B ≤ w201.heap.size := T.hb
                  have hB0 := hB0.trans hBy
                  clear hBx hBy
                  obtain ⟨s6, c6, hv6, hs6, _⟩ := hO.form
                  rw [HOL.out] at hv6
                  simp only [Value.slice.injEq] at hv6
                  obtain ⟨hsa, _, hcb⟩ := hv6
                  rw [← hsa, ← hcb] at hs6
                  clear hsa hcb hO
                  have hcb := HCB.out w201 hB0
                  obtain ⟨F, hDA, hGF, hnx⟩ := T.at 0 (by simp)
                  change DA w201 B F p1 D at hDA
                  change ∀ (w' : World) (D' : DS), Nx B F p1 w201 D' w' → TL B w' [(p1, D')] [] ∧ Below B w201 w' ∧ ∀ g ∈ [], w'.heap[g]? = w201.heap[g]? at hnx
                  refine (Write_any w201 B F p1 D hDA T0 (by rw [HP.out.pw, HG1.out]; rfl) r (by rw [HP.out.np]; omega) OV HOL.out HOB.out _ _ hs6 (by have := HP.out.ol; omega) (by have := HP.out.wl; omega)).mono ?_
                  rintro e w202 ⟨rfl, hN⟩
                  rw [HE2.out]
                  obtain ⟨T1, hBy, hKx⟩ := hnx _ _ hN
                  clear hnx hDA hGF hN
                  have hB0 := hB0.trans hBy
                  have T0 : B ≤ w202.heap.size := T1.hb
                  clear T hBy hKx
                  have T := T1
                  clear T1
                  change TL B w202 [(p1, (D.wr ⟨r, OV⟩))] [] at T
                  clear hs6 hcb
                  have hcb := HCB.out w202 hB0
                  go_wp2
                  go_roundw
                  case rel => exact ⟨i + 1, _, by omega, by go_num, by rw [gon_succ n i HG1.out, HGN.out], by rw [HWL.out]; rfl, HPN.out, T, hB0⟩
                  case measure => simp [intOf]; omega
                · have hcb := HCB.out wr hB0
                  go_wp2_with (refine wpList_make_full _ rfl _ _ 28 rfl wr.heap.size 5 i5 (.int .u8 0) 1 Try.underlying28 HI.out hz5 hs5 .i64 .i64 _ _ 256 rfl rfl rfl rfl K1.out K2.out (Nat.le_refl _) ?_; intro w201 hO1 hg1; have hBx := grown_keeps hg1 (fun k hk => by cases hk) (Nat.le_refl _); have hO := made_own hO1 OV HOV.out; clear hg1 hO1)
                  have T := T.below hBx
                  have hBy : Below B wr w201 := hBx.mono T0
                  have T0 : B ≤ w201.heap.size := T.hb
                  have hB0 := hB0.trans hBy
                  clear hBx hBy
                  obtain ⟨s6, c6, hv6, hs6, _⟩ := hO.form
                  rw [HOL.out] at hv6
                  simp only [Value.slice.injEq] at hv6
                  obtain ⟨hsa, _, hcb⟩ := hv6
                  rw [← hsa, ← hcb] at hs6
                  clear hsa hcb hO
                  have hcb := HCB.out w201 hB0
                  obtain ⟨F, hDA, hGF, hnx⟩ := T.at 0 (by simp)
                  change DA w201 B F p1 D at hDA
                  change ∀ (w' : World) (D' : DS), Nx B F p1 w201 D' w' → TL B w' [(p1, D')] [] ∧ Below B w201 w' ∧ ∀ g ∈ [], w'.heap[g]? = w201.heap[g]? at hnx
                  refine (Write_any w201 B F p1 D hDA T0 (by rw [HP.out.pw, HG1.out]; rfl) r (by rw [HP.out.np]; omega) OV HOL.out HOB.out _ _ hs6 (by have := HP.out.ol; omega) (by have := HP.out.wl; omega)).mono ?_
                  rintro e w202 ⟨rfl, hN⟩
                  rw [HE2.out]
                  obtain ⟨T1, hBy, hKx⟩ := hnx _ _ hN
                  clear hnx hDA hGF hN
                  have hB0 := hB0.trans hBy
                  have T0 : B ≤ w202.heap.size := T1.hb
                  clear T hBy hKx
                  have T := T1
                  clear T1
                  change TL B w202 [(p1, (D.wr ⟨r, OV⟩))] [] at T
                  clear hs6 hcb
                  have hcb := HCB.out w202 hB0
                  go_wp2
                  go_roundw
                  case rel => exact ⟨i + 1, _, by omega, by go_num, by rw [gon_succ n i HG1.out, HGN.out], by rw [HWL.out]; rfl, HPN.out, T, hB0⟩
                  case measure => simp [intOf]; omega
              · have HE0 := hid (show D.actE = 0 by unfold DS.actE; rw [if_neg (fun e => c (hone.1 e))])
                have HGN := hid (show ((i : Int) + 1 == n) = false by simp [c])
                have hgn : ((i : Int) + 1 == n) = false := HGN.out
                clear c hone
                rcases hjn with hj1 | ⟨hj1, hj2⟩
                · have hcb := HCB.out wr hB0
                  go_wp2_with (refine wpList_make_full _ rfl _ _ 28 rfl wr.heap.size 5 i5 (.int .u8 0) 1 Try.underlying28 HI.out hz5 hs5 .i64 .i64 _ _ 256 rfl rfl rfl rfl K1.out K2.out (Nat.le_refl _) ?_; intro w201 hO1 hg1; have hBx := grown_keeps hg1 (fun k hk => by cases hk) (Nat.le_refl _); have hO := made_own hO1 OV HOV.out; clear hg1 hO1)
                  have T := T.below hBx
                  have hBy : Below B wr w201 := hBx.mono T0
                  have T0 : B ≤ w201.heap.size := T.hb
                  have hB0 := hB0.trans hBy
                  clear hBx hBy
                  obtain ⟨s6, c6, hv6, hs6, _⟩ := hO.form
                  rw [HOL.out] at hv6
                  simp only [Value.slice.injEq] at hv6
                  obtain ⟨hsa, _, hcb⟩ := hv6
                  rw [← hsa, ← hcb] at hs6
                  clear hsa hcb hO
                  have hcb := HCB.out w201 hB0
                  obtain ⟨F, hDA, hGF, hnx⟩ := T.at 0 (by simp)
                  change DA w201 B F p1 D at hDA
                  change ∀ (w' : World) (D' : DS), Nx B F p1 w201 D' w' → TL B w' [(p1, D')] [] ∧ Below B w201 w' ∧ ∀ g ∈ [], w'.heap[g]? = w201.heap[g]? at hnx
                  refine (Write_any w201 B F p1 D hDA T0 (by rw [HP.out.pw, HG1.out]; rfl) r (by rw [HP.out.np]; omega) OV HOL.out HOB.out _ _ hs6 (by have := HP.out.ol; omega) (by have := HP.out.wl; omega)).mono ?_
                  rintro e w202 ⟨rfl, hN⟩
                  rw [HE0.out]
                  obtain ⟨T1, hBy, hKx⟩ := hnx _ _ hN
                  clear hnx hDA hGF hN
                  have hB0 := hB0.trans hBy
                  have T0 : B ≤ w202.heap.size := T1.hb
                  clear T hBy hKx
                  have T := T1
                  clear T1
                  change TL B w202 [(p1, (D.wr ⟨r, OV⟩))] [] at T
                  clear hs6 hcb
                  have hcb := HCB.out w202 hB0
                  go_wp2
                  go_roundw
                  case rel => exact ⟨i + 1, _, by omega, by go_num, by rw [gon_succ n i HG1.out, HGN.out], by rw [HWL.out]; rfl, HPN.out, T, hB0⟩
                  case measure => simp [intOf]; omega
                · have hcb := HCB.out wr hB0
                  go_wp2_with (refine wpList_make_full _ rfl _ _ 28 rfl wr.heap.size 5 i5 (.int .u8 0) 1 Try.underlying28 HI.out hz5 hs5 .i64 .i64 _ _ 256 rfl rfl rfl rfl K1.out K2.out (Nat.le_refl _) ?_; intro w201 hO1 hg1; have hBx := grown_keeps hg1 (fun k hk => by cases hk) (Nat.le_refl _); have hO := made_own hO1 OV HOV.out; clear hg1 hO1)
                  have T := T.below hBx
                  have hBy : Below B wr w201 := hBx.mono T0
                  have T0 : B ≤ w201.heap.size := T.hb
                  have hB0 := hB0.trans hBy
                  clear hBx hBy
                  obtain ⟨s6, c6, hv6, hs6, _⟩ := hO.form
                  rw [HOL.out] at hv6
                  simp only [Value.slice.injEq] at hv6
                  obtain ⟨hsa, _, hcb⟩ := hv6
                  rw [← hsa, ← hcb] at hs6
                  clear hsa hcb hO
                  have hcb := HCB.out w201 hB0
                  obtain ⟨F, hDA, hGF, hnx⟩ := T.at 0 (by simp)
                  change DA w201 B F p1 D at hDA
                  change ∀ (w' : World) (D' : DS), Nx B F p1 w201 D' w' → TL B w' [(p1, D')] [] ∧ Below B w201 w' ∧ ∀ g ∈ [], w'.heap[g]? = w201.heap[g]? at hnx
                  refine (Write_any w201 B F p1 D hDA T0 (by rw [HP.out.pw, HG1.out]; rfl) r (by rw [HP.out.np]; omega) OV HOL.out HOB.out _ _ hs6 (by have := HP.out.ol; omega) (by have := HP.out.wl; omega)).mono ?_
                  rintro e w202 ⟨rfl, hN⟩
                  rw [HE0.out]
                  obtain ⟨T1, hBy, hKx⟩ := hnx _ _ hN
                  clear hnx hDA hGF hN
                  have hB0 := hB0.trans hBy
                  have T0 : B ≤ w202.heap.size := T1.hb
                  clear T hBy hKx
                  have T := T1
                  clear T1
                  change TL B w202 [(p1, (D.wr ⟨r, OV⟩))] [] at T
                  clear hs6 hcb
                  have hcb := HCB.out w202 hB0
                  go_wp2
                  go_roundw
                  case rel => exact ⟨i + 1, _, by omega, by go_num, by rw [gon_succ n i HG1.out, HGN.out], by rw [HWL.out]; rfl, HPN.out, T, hB0⟩
                  case measure => simp [intOf]; omega
            | false =>
              rw [hbv] at HCB
              clear hbv
              by_cases c : (i : Int) + 1 = n
              · have HA1 := hid (hone.2 c)
                have HAO := hid (acted_same D).2.1
                have HPN := hid (show PS n (i + 1) D.acted from HP.out.next HG1.out rfl rfl HP.out.np HP.out.ep (by omega) (by have := HP.out.wl; omega) (by have := HP.out.sl; omega))
                have HGN := hid (show ((i : Int) + 1 == n) = true by simp [c])
                have hgn : ((i : Int) + 1 == n) = true := HGN.out
                clear c hone hol
                rcases hjn with hj1 | ⟨hj1, hj2⟩
                · have hxx := True.intro
                  have hcb := HCB.out wr hB0
                  go_wp2_with fail
                  obtain ⟨F, hDA, hGF, hnx⟩ := T.at 0 (by simp)
                  change DA wr B F p1 D at hDA
                  change ∀ (w' : World) (D' : DS), Nx B F p1 wr D' w' → TL B w' [(p1, D')] [] ∧ Below B wr w' ∧ ∀ g ∈ [], w'.heap[g]? = wr.heap[g]? at hnx
                  refine (Sync_last wr B F p1 D hDA (by rw [HP.out.pw, HG1.out]; rfl) HA1.out).mono ?_
                  rintro e w201 ⟨rfl, hN⟩
                  obtain ⟨T1, hBy, hKx⟩ := hnx _ _ hN
                  clear hnx hDA hGF hN
                  have hB0 := hB0.trans hBy
                  have T0 : B ≤ w201.heap.size := T1.hb
                  clear T hBy hKx
                  have T := T1
                  clear T1
                  change TL B w201 [(p1, D.acted)] [] at T
                  clear hcb
                  have hcb := HCB.out w201 hB0
                  go_wp2
                  go_roundw
                  case rel => exact ⟨i + 1, _, by omega, by go_num, by rw [gon_succ n i HG1.out, HGN.out], by rw [HAO.out], HPN.out, T, hB0⟩
                  case measure => simp [intOf]; omega
                · have hxx := True.intro
                  have hcb := HCB.out wr hB0
                  go_wp2_with fail
                  obtain ⟨F, hDA, hGF, hnx⟩ := T.at 0 (by simp)
                  change DA wr B F p1 D at hDA
                  change ∀ (w' : World) (D' : DS), Nx B F p1 wr D' w' → TL B w' [(p1, D')] [] ∧ Below B wr w' ∧ ∀ g ∈ [], w'.heap[g]? = wr.heap[g]? at hnx
                  refine (Sync_last wr B F p1 D hDA (by rw [HP.out.pw, HG1.out]; rfl) HA1.out).mono ?_
                  rintro e w201 ⟨rfl, hN⟩
                  obtain ⟨T1, hBy, hKx⟩ := hnx _ _ hN
                  clear hnx hDA hGF hN
                  have hB0 := hB0.trans hBy
                  have T0 : B ≤ w201.heap.size := T1.hb
                  clear T hBy hKx
                  have T := T1
                  clear T1
                  change TL B w201 [(p1, D.acted)] [] at T
                  clear hcb
                  have hcb := HCB.out w201 hB0
                  go_wp2
                  go_roundw
                  case rel => exact ⟨i + 1, _, by omega, by go_num, by rw [gon_succ n i HG1.out, HGN.out], by rw [HAO.out], HPN.out, T, hB0⟩
                  case measure => simp [intOf]; omega
              · have HA1 := hid (show D.armed ≠ 1 from fun e => c (hone.1 e))
                have HGN := hid (show ((i : Int) + 1 == n) = false by simp [c])
                have hgn : ((i : Int) + 1 == n) = false := HGN.out
                have HPN := hid (HP.out.sync HG1.out (fun e => c (hone.1 e)) (by obtain ⟨F, hDA, _⟩ := T.at 0 (by simp); exact hDA.ok))
                clear c hone hol
                rcases hjn with hj1 | ⟨hj1, hj2⟩
                · have hxx := True.intro
                  have hcb := HCB.out wr hB0
                  go_wp2_with fail
                  obtain ⟨F, hDA, hGF, hnx⟩ := T.at 0 (by simp)
                  change DA wr B F p1 D at hDA
                  change ∀ (w' : World) (D' : DS), Nx B F p1 wr D' w' → TL B w' [(p1, D')] [] ∧ Below B wr w' ∧ ∀ g ∈ [], w'.heap[g]? = wr.heap[g]? at hnx
                  refine (Sync_any wr B F p1 D hDA (by rw [HP.out.pw, HG1.out]; rfl) HA1.out (by have := HP.out.sl; omega)).mono ?_
                  rintro e w201 ⟨rfl, hN⟩
                  obtain ⟨T1, hBy, hKx⟩ := hnx _ _ hN
                  clear hnx hDA hGF hN
                  have hB0 := hB0.trans hBy
                  have T0 : B ≤ w201.heap.size := T1.hb
                  clear T hBy hKx
                  have T := T1
                  clear T1
                  change TL B w201 [(p1, D.synced)] [] at T
                  clear hcb
                  have hcb := HCB.out w201 hB0
                  go_wp2
                  go_roundw
                  case rel => exact ⟨i + 1, _, by omega, by go_num, by rw [gon_succ n i HG1.out, HGN.out], rfl, HPN.out, T, hB0⟩
                  case measure => simp [intOf]; omega
                · have hxx := True.intro
                  have hcb := HCB.out wr hB0
                  go_wp2_with fail
                  obtain ⟨F, hDA, hGF, hnx⟩ := T.at 0 (by simp)
                  change DA wr B F p1 D at hDA
                  change ∀ (w' : World) (D' : DS), Nx B F p1 wr D' w' → TL B w' [(p1, D')] [] ∧ Below B wr w' ∧ ∀ g ∈ [], w'.heap[g]? = wr.heap[g]? at hnx
                  refine (Sync_any wr B F p1 D hDA (by rw [HP.out.pw, HG1.out]; rfl) HA1.out (by have := HP.out.sl; omega)).mono ?_
                  rintro e w201 ⟨rfl, hN⟩
                  obtain ⟨T1, hBy, hKx⟩ := hnx _ _ hN
                  clear hnx hDA hGF hN
                  have hB0 := hB0.trans hBy
                  have T0 : B ≤ w201.heap.size := T1.hb
                  clear T hBy hKx
                  have T := T1
                  clear T1
                  change TL B w201 [(p1, D.synced)] [] at T
                  clear hcb
                  have hcb := HCB.out w201 hB0
                  go_wp2
                  go_roundw
                  case rel => exact ⟨i + 1, _, by omega, by go_num, by rw [gon_succ n i HG1.out, HGN.out], rfl, HPN.out, T, hB0⟩
                  case measure => simp [intOf]; omega
    · obtain rfl : i = bs.length := by omega
      clear hlt
      have HP := hid hP
      clear hP
      cases hg : gon n bs.length with
      | true =>
        have HPW := hid (show D.power = false by rw [HP.out.pw, hg]; rfl)
        clear hg
        go_wp2_with fail
        obtain ⟨F, hDA, hGF, hnx⟩ := T.at 0 (by simp)
        change DA wr B F p1 D at hDA
        clear hnx hGF
        refine (Counts_any wr B F p1 D hDA).mono ?_
        rintro e w301 ⟨rfl, hBx⟩
        clear hDA
        have T := T.below hBx
        have hBy : Below B wr w301 := hBx.mono T0
        have T0 : B ≤ w301.heap.size := T.hb
        have hB0 := hB0.trans hBy
        clear hBx hBy
        go_wp2_with fail
        have hBx : Below w301.heap.size w301 (w301.alloc (Obj.cells #[.int .i64 D.reads, .int .i64 D.writes, .int .i64 D.syncs, .int .i64 D.ops.length] 40)) := (Below.refl _ _).alloc (Nat.le_refl _) _
        have T := T.below hBx
        have hBy : Below B w301 (w301.alloc (Obj.cells #[.int .i64 D.reads, .int .i64 D.writes, .int .i64 D.syncs, .int .i64 D.ops.length] 40)) := hBx.mono T0
        have T0 : B ≤ (w301.alloc (Obj.cells #[.int .i64 D.reads, .int .i64 D.writes, .int .i64 D.syncs, .int .i64 D.ops.length] 40)).heap.size := T.hb
        have hB0 := hB0.trans hBy
        clear hBx hBy
        obtain ⟨F, hDA, hGF, hnx⟩ := T.at 0 (by simp)
        change DA (w301.alloc (Obj.cells #[.int .i64 D.reads, .int .i64 D.writes, .int .i64 D.syncs, .int .i64 D.ops.length] 40)) B F p1 D at hDA
        clear hnx
        refine (Power_any (w301.alloc (Obj.cells #[.int .i64 D.reads, .int .i64 D.writes, .int .i64 D.syncs, .int .i64 D.ops.length] 40)) B F p1 D hDA).mono ?_
        rintro e wx ⟨rfl, rfl⟩
        clear hDA hGF
        rw [HPW.out]
        go_wp2_with fail
        obtain ⟨F, hDA, hGF, hnx⟩ := T.at 0 (by simp)
        change DA (w301.alloc (Obj.cells #[.int .i64 D.reads, .int .i64 D.writes, .int .i64 D.syncs, .int .i64 D.ops.length] 40)) B F p1 D at hDA
        change ∀ (w' : World) (D' : DS), Nx B F p1 (w301.alloc (Obj.cells #[.int .i64 D.reads, .int .i64 D.writes, .int .i64 D.syncs, .int .i64 D.ops.length] 40)) D' w' → TL B w' [(p1, D')] [] ∧ Below B (w301.alloc (Obj.cells #[.int .i64 D.reads, .int .i64 D.writes, .int .i64 D.syncs, .int .i64 D.ops.length] 40)) w' ∧ ∀ g ∈ [], w'.heap[g]? = (w301.alloc (Obj.cells #[.int .i64 D.reads, .int .i64 D.writes, .int .i64 D.syncs, .int .i64 D.ops.length] 40)).heap[g]? at hnx
        refine (Crash_any (w301.alloc (Obj.cells #[.int .i64 D.reads, .int .i64 D.writes, .int .i64 D.syncs, .int .i64 D.ops.length] 40)) B F p1 D hDA (by rw [HP.out.ep]; decide) [] (fun x hx => by cases hx) none 0 (Src.nil _) (fun a _ ha => by cases ha)).mono ?_
        rintro e w302 ⟨rfl, hN⟩
        obtain ⟨T1, hBy, hKx⟩ := hnx _ _ hN
        clear hnx hDA hGF hN
        have hB0 := hB0.trans hBy
        have T0 : B ≤ w302.heap.size := T1.hb
        clear T hBy hKx
        have T := T1
        clear T1
        change TL B w302 [(p1, (D.crashed []))] [] at T
        go_wp2_with fail
        obtain ⟨F, hDA, hGF, hnx⟩ := T.at 0 (by simp)
        change DA w302 B F p1 (D.crashed []) at hDA
        clear hnx
        refine (Power_any w302 B F p1 _ hDA).mono ?_
        rintro e wx ⟨rfl, rfl⟩
        clear hDA hGF
        rw [show (D.crashed []).power = true from rfl]
        go_wp2_with fail
        obtain ⟨F, hDA, hGF, hnx⟩ := T.at 0 (by simp)
        change DA w302 B F p1 (D.crashed []) at hDA
        clear hnx
        refine (Epoch_any w302 B F p1 _ hDA).mono ?_
        rintro e wx ⟨rfl, rfl⟩
        clear hDA hGF
        rw [show (D.crashed []).epoch = 1 by show D.epoch + 1 = 1; rw [HP.out.ep]; rfl]
        go_wp2_with fail
        have hsl := HP.out.sl
        have HT := hid T
        have HB0 := hid hB0
        clear T hB0 T0
        go_loopw [14] (fun jv wr => ∃ (j : Nat) (E : DS), j ≤ bs.length + 3 ∧ jv = .int .i64 j ∧ E.power = true ∧ E.armed = 0 ∧ E.syncs ≤ bs.length + j ∧ TL B wr [(p1, E)] [] ∧ Below B w wr) (fun jv _ => bs.length + 3 - (intOf jv).toNat)
        case atStart => exact ⟨0, _, by omega, rfl, rfl, rfl, by show D.syncs ≤ _; push_cast; omega, HT.out, HB0.out⟩
        case round =>
          clear HT HB0
          obtain ⟨j, E, hj, rfl, e1, e2, e3, T, hB0⟩ := hrel
          have T0 := T.hb
          have E1 := hid e1
          have E2 := hid e2
          have E3 := hid e3
          clear e1 e2 e3
          by_cases hlt : j < bs.length + 3
          · have j1 : (j : Int) < (bs.length : Int) + 3 := by omega
            go_wp2_with fail
            obtain ⟨F, hDA, hGF, hnx⟩ := T.at 0 (by simp)
            change DA wr B F p1 E at hDA
            change ∀ (w' : World) (D' : DS), Nx B F p1 wr D' w' → TL B w' [(p1, D')] [] ∧ Below B wr w' ∧ ∀ g ∈ [], w'.heap[g]? = wr.heap[g]? at hnx
            refine (Sync0_any wr B F p1 E hDA E1.out E2.out (by have := E3.out; omega)).mono ?_
            rintro e w304 ⟨rfl, hN⟩
            obtain ⟨T1, hBy, hKx⟩ := hnx _ _ hN
            clear hnx hDA hGF hN
            have hB0 := hB0.trans hBy
            have T0 : B ≤ w304.heap.size := T1.hb
            clear T hBy hKx
            have T := T1
            clear T1
            change TL B w304 [(p1, E.sy0)] [] at T
            go_wp2
            go_roundw
            case rel => exact ⟨j + 1, E.sy0, by omega, by go_num, E1.out, E2.out, by have := E3.out; show E.syncs + 1 ≤ _; push_cast; omega, T, hB0⟩
            case measure => simp [intOf]; omega
          · have j1 : ¬ (j : Int) < (bs.length : Int) + 3 := by omega
            clear hlt
            go_wp2
            go_ret
            exact ⟨rfl, hB0⟩
      | false =>
        have HPW := hid (show D.power = true by rw [HP.out.pw, hg]; rfl)
        clear hg
        go_wp2_with fail
        obtain ⟨F, hDA, hGF, hnx⟩ := T.at 0 (by simp)
        change DA wr B F p1 D at hDA
        clear hnx hGF
        refine (Counts_any wr B F p1 D hDA).mono ?_
        rintro e w301 ⟨rfl, hBx⟩
        clear hDA
        have T := T.below hBx
        have hBy : Below B wr w301 := hBx.mono T0
        have T0 : B ≤ w301.heap.size := T.hb
        have hB0 := hB0.trans hBy
        clear hBx hBy
        go_wp2_with fail
        have hBx : Below w301.heap.size w301 (w301.alloc (Obj.cells #[.int .i64 D.reads, .int .i64 D.writes, .int .i64 D.syncs, .int .i64 D.ops.length] 40)) := (Below.refl _ _).alloc (Nat.le_refl _) _
        have T := T.below hBx
        have hBy : Below B w301 (w301.alloc (Obj.cells #[.int .i64 D.reads, .int .i64 D.writes, .int .i64 D.syncs, .int .i64 D.ops.length] 40)) := hBx.mono T0
        have T0 : B ≤ (w301.alloc (Obj.cells #[.int .i64 D.reads, .int .i64 D.writes, .int .i64 D.syncs, .int .i64 D.ops.length] 40)).heap.size := T.hb
        have hB0 := hB0.trans hBy
        clear hBx hBy
        obtain ⟨F, hDA, hGF, hnx⟩ := T.at 0 (by simp)
        change DA (w301.alloc (Obj.cells #[.int .i64 D.reads, .int .i64 D.writes, .int .i64 D.syncs, .int .i64 D.ops.length] 40)) B F p1 D at hDA
        clear hnx
        refine (Power_any (w301.alloc (Obj.cells #[.int .i64 D.reads, .int .i64 D.writes, .int .i64 D.syncs, .int .i64 D.ops.length] 40)) B F p1 D hDA).mono ?_
        rintro e wx ⟨rfl, rfl⟩
        clear hDA hGF
        rw [HPW.out]
        go_wp2_with fail
        obtain ⟨F, hDA, hGF, hnx⟩ := T.at 0 (by simp)
        change DA (w301.alloc (Obj.cells #[.int .i64 D.reads, .int .i64 D.writes, .int .i64 D.syncs, .int .i64 D.ops.length] 40)) B F p1 D at hDA
        change ∀ (w' : World) (D' : DS), Nx B F p1 (w301.alloc (Obj.cells #[.int .i64 D.reads, .int .i64 D.writes, .int .i64 D.syncs, .int .i64 D.ops.length] 40)) D' w' → TL B w' [(p1, D')] [] ∧ Below B (w301.alloc (Obj.cells #[.int .i64 D.reads, .int .i64 D.writes, .int .i64 D.syncs, .int .i64 D.ops.length] 40)) w' ∧ ∀ g ∈ [], w'.heap[g]? = (w301.alloc (Obj.cells #[.int .i64 D.reads, .int .i64 D.writes, .int .i64 D.syncs, .int .i64 D.ops.length] 40)).heap[g]? at hnx
        refine (Crash_any (w301.alloc (Obj.cells #[.int .i64 D.reads, .int .i64 D.writes, .int .i64 D.syncs, .int .i64 D.ops.length] 40)) B F p1 D hDA (by rw [HP.out.ep]; decide) [] (fun x hx => by cases hx) none 0 (Src.nil _) (fun a _ ha => by cases ha)).mono ?_
        rintro e w302 ⟨rfl, hN⟩
        obtain ⟨T1, hBy, hKx⟩ := hnx _ _ hN
        clear hnx hDA hGF hN
        have hB0 := hB0.trans hBy
        have T0 : B ≤ w302.heap.size := T1.hb
        clear T hBy hKx
        have T := T1
        clear T1
        change TL B w302 [(p1, (D.crashed []))] [] at T
        go_wp2_with fail
        obtain ⟨F, hDA, hGF, hnx⟩ := T.at 0 (by simp)
        change DA w302 B F p1 (D.crashed []) at hDA
        clear hnx
        refine (Power_any w302 B F p1 _ hDA).mono ?_
        rintro e wx ⟨rfl, rfl⟩
        clear hDA hGF
        rw [show (D.crashed []).power = true from rfl]
        go_wp2_with fail
        obtain ⟨F, hDA, hGF, hnx⟩ := T.at 0 (by simp)
        change DA w302 B F p1 (D.crashed []) at hDA
        clear hnx
        refine (Epoch_any w302 B F p1 _ hDA).mono ?_
        rintro e wx ⟨rfl, rfl⟩
        clear hDA hGF
        rw [show (D.crashed []).epoch = 1 by show D.epoch + 1 = 1; rw [HP.out.ep]; rfl]
        go_wp2_with fail
        have hsl := HP.out.sl
        have HT := hid T
        have HB0 := hid hB0
        clear T hB0 T0
        go_loopw [14] (fun jv wr => ∃ (j : Nat) (E : DS), j ≤ bs.length + 3 ∧ jv = .int .i64 j ∧ E.power = true ∧ E.armed = 0 ∧ E.syncs ≤ bs.length + j ∧ TL B wr [(p1, E)] [] ∧ Below B w wr) (fun jv _ => bs.length + 3 - (intOf jv).toNat)
        case atStart => exact ⟨0, _, by omega, rfl, rfl, rfl, by show D.syncs ≤ _; push_cast; omega, HT.out, HB0.out⟩
        case round =>
          clear HT HB0
          obtain ⟨j, E, hj, rfl, e1, e2, e3, T, hB0⟩ := hrel
          have T0 := T.hb
          have E1 := hid e1
          have E2 := hid e2
          have E3 := hid e3
          clear e1 e2 e3
          by_cases hlt : j < bs.length + 3
          · have j1 : (j : Int) < (bs.length : Int) + 3 := by omega
            go_wp2_with fail
            obtain ⟨F, hDA, hGF, hnx⟩ := T.at 0 (by simp)
            change DA wr B F p1 E at hDA
            change ∀ (w' : World) (D' : DS), Nx B F p1 wr D' w' → TL B w' [(p1, D')] [] ∧ Below B wr w' ∧ ∀ g ∈ [], w'.heap[g]? = wr.heap[g]? at hnx
            refine (Sync0_any wr B F p1 E hDA E1.out E2.out (by have := E3.out; omega)).mono ?_
            rintro e w304 ⟨rfl, hN⟩
            obtain ⟨T1, hBy, hKx⟩ := hnx _ _ hN
            clear hnx hDA hGF hN
            have hB0 := hB0.trans hBy
            have T0 : B ≤ w304.heap.size := T1.hb
            clear T hBy hKx
            have T := T1
            clear T1
            change TL B w304 [(p1, E.sy0)] [] at T
            go_wp2
            go_roundw
            case rel => exact ⟨j + 1, E.sy0, by omega, by go_num, E1.out, E2.out, by have := E3.out; show E.syncs + 1 ≤ _; push_cast; omega, T, hB0⟩
            case measure => simp [intOf]; omega
          · have j1 : ¬ (j : Int) < (bs.length : Int) + 3 := by omega
            clear hlt
            go_wp2
            go_ret
            exact ⟨rfl, hB0⟩
end Go.Proofs.Ytcibcakgheegbaa
