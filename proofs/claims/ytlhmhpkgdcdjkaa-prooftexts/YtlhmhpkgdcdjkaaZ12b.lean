import Derived.Test.YtlhmhpkgdcdjkaaZq2
namespace Go.Proofs.Ytlhmhpkgdcdjkaa
set_option linter.unusedVariables false
set_option linter.unusedSimpArgs false
open Go.RowKit
attribute [local go_sem ↓] Go.wp_at_zero Go.wp_at_succ

set_option maxRecDepth 100000 in
set_option maxHeartbeats 8000000 in
theorem xd_found (w : World) (t : List Int) (hy : Bys t) (sp : Option Addr) (cap : Nat) (hS : Src w sp cap t) (hml : t.length ≤ 140737488355000) (a y : Int) (q : List Int) (ht : t = 1 :: a :: y :: q) (n : Nat) (hn : a + 256 * y = (n : Int)) (h128 : n ≤ 128) (h3 : 3 + n ≤ t.length) (hc3 : cap ≠ 3) :
    Calls Try.prog 29 #[.slice sp t.length cap] w (DecP w t) := by
  have hm3 : 3 ≤ t.length := by omega
  have hq3 : t.drop 3 = q := by rw [ht]; rfl
  have hA0 : decA t = some (true, (t.drop 3).take n, t.drop (3 + n)) := by
    rw [← List.drop_drop, hq3]
    rw [ht] at h3 ⊢
    simp only [decA]
    rw [if_neg (by decide), if_pos trivial, hn, Int.toNat_natCast, if_pos ⟨by omega, by simp at h3; omega⟩]
  have ha := hy a (by rw [ht]; simp)
  have hyy := hy y (by rw [ht]; simp)
  have hSS := hid hS
  have HNO := hid (fun (h : t.length - (3 + n) ≠ 32 + 32 * onesN ((t.drop (3 + n)).take 32)) => show decP t = none by rw [decP_of hA0, decB, if_neg (by rw [List.length_drop]; exact h)]; rfl)
  have HYES := hid (fun (h : t.length - (3 + n) = 32 + 32 * onesN ((t.drop (3 + n)).take 32)) => show decP t = some ⟨true, ((t.drop 3).take n), (t.drop (3 + n)).take 32, chunks (onesN ((t.drop (3 + n)).take 32)) (t.drop ((3 + n) + 32))⟩ by rw [decP_of hA0, decB, if_pos (by rw [List.length_drop]; exact h), List.drop_drop]; rfl)
  have HNO2 := hid (fun (h : ¬ (3 + n) + 32 ≤ t.length) => show decP t = none by rw [decP_of hA0, decB, if_neg (by rw [List.length_drop]; omega)]; rfl)
  obtain ⟨hc, hmx, b, o, hb, hsp, hsrc⟩ := hS
  obtain rfl := hsp (by omega)
  have hbw : b < w.heap.size := hb (by omega)
  have CE := hid (fun j (hj : j < t.length) => hsrc j hj)
  clear hsrc hsp hb
  unfold maxLen at hmx
  have AP := hid allocPf
  have BZ := hid built_pf0
  have SZ := hid (show (Try.prog.info? 26).map (·.size) = some (pfC pf0 (.slice none 0 0) (.slice none 0 0)).toArray.size by rw [Try.sizeP]; rfl)
  have ON := hid (pfC_one pf0 (.slice none 0 0) (.slice none 0 0) rfl rfl)
  have FZ := hid (fun w' (hb : Below w.heap.size w w') (hn : decP t = none) => decP_none (t := t) hn hb)
  have FY := hid (fun w' (hb : Below w.heap.size w w') p (hn : decP t = some p) s1 s2 c1 c2 h1 h2 => decP_some (t := t) (p := p) hn hb s1 s2 c1 c2 h1 h2)
  have d0 := ((BK.nil w).alloc (pfC pf0 (.slice none 0 0) (.slice none 0 0)) 26).alloc (pfC pf0 (.slice none 0 0) (.slice none 0 0)) 26
  rw [show (w.alloc (.cells (pfC pf0 (.slice none 0 0) (.slice none 0 0)).toArray 26)).heap.size = w.heap.size + 1 by simp] at d0
  have r0 := d0.row (.tail _ (.head _))
  have c0 := (d0.1.cell (p := ⟨b, o + 0, none⟩) hbw).trans (CE.out 0 (by omega))
  have c1 := (d0.1.cell (p := ⟨b, o + 1, none⟩) hbw).trans (CE.out 1 (by omega))
  have c2 := (d0.1.cell (p := ⟨b, o + 2, none⟩) hbw).trans (CE.out 2 (by omega))
  rw [Nat.add_zero] at c0
  rw [show t.getD 0 0 = 1 by rw [ht]; rfl] at c0
  rw [show t.getD 1 0 = a by rw [ht]; rfl] at c1
  rw [show t.getD 2 0 = y by rw [ht]; rfl] at c2
  have KB := hid (fun w1 (h : Src w1 (some ⟨b, o + 3, none⟩) (cap - 3) ((t.drop 3).take n)) => xbytes_any w1 ((t.drop 3).take n) _ _ h (by rw [List.length_take]; omega))
  have LV := hid (show ((t.drop 3).take n).length = n by rw [List.length_take, List.length_drop]; omega)
  rw [LV.out] at KB
  have hS7 := hid (fun w1 (h : Below w.heap.size w w1) => src_pre (src_rest (hSS.out.below h (Nat.le_refl _)) 3 hm3) n (by rw [List.length_drop]; omega))
  have PV0 := hid (show (pfC pf0 (.slice none 0 0) (.slice none 0 0)).set 0 (.bool true) = pfC ⟨true, (t.drop 3).take n, padz ((t.drop (3 + n)).take 0) 32, []⟩ (.slice none 0 0) (.slice none 0 0) from rfl)
  have PV1 := hid (fun u => show (pfC ⟨true, (t.drop 3).take n, padz ((t.drop (3 + n)).take 0) 32, []⟩ (.slice none 0 0) (.slice none 0 0)).set 1 u = pfC ⟨true, (t.drop 3).take n, padz ((t.drop (3 + n)).take 0) 32, []⟩ u (.slice none 0 0) from rfl)
  have kf := hid (pfC_f pf0 (.slice none 0 0) (.slice none 0 0))
  have kv := hid (pfC_v ⟨true, (t.drop 3).take n, padz ((t.drop (3 + n)).take 0) 32, []⟩ (.slice none 0 0) (.slice none 0 0))
  have HMX := hid hml
  have hcc := hid hc
  generalize hM : t.length = m at *
  have HM := hid hM
  replace hn := hid hn
  clear hM hA0 ht hq3 r0
  have i0 : (3 : Int) ≤ (m : Int) := by omega
  have i2 : (m : Int) ≤ 9223372036854775807 := by omega
  have i3 : (n : Int) ≤ 128 := by omega
  have i4 : 3 + (n : Int) ≤ (m : Int) := by omega
  have i5 : 3 + (n : Int) ≤ (cap : Int) := by omega
  have i6 : (3 : Int) < (cap : Int) := by omega
  have i7 : (cap : Int) ≤ 9223372036854775807 := by omega
  generalize DecP w t = P at *
  generalize hIZ : pfC pf0 (.slice none 0 0) (.slice none 0 0) = IZ at *
  clear hIZ
  go_enter Try.func29, Try.ntmps29
  go_wp2_with (first | refine wpList_allocV AP.out rfl rfl ?_)
  generalize (w.alloc (.cells IZ.toArray 26)).alloc (.cells IZ.toArray 26) = w1 at *
  go_quiet (fail)
  rw [hn.out]
  have dq : BK w (w1.drewN nq) [(w.heap.size + 1, IZ, 26), (w.heap.size, IZ, 26)] := ⟨below_drewN d0.1 _, d0.2⟩
  generalize w1.drewN nq = w2 at *
  clear d0 c0 c1 c2
  have y0 := dq.cell (.head _) kf.out
  have g0 : w2.frozen? ⟨w.heap.size + 1, 0, none⟩ = false := frozen_of_row _ _ _ _ _ (dq.row (.head _))
  have d1 := dq.setC (by omega) (by intro x hx; simp only [List.mem_cons, List.not_mem_nil, or_false] at hx; subst hx; simp) 0 (.bool true)
  rw [PV0.out] at d1
  clear dq
  go_wp2_with fail
  refine (KB.out _ (hS7.out _ d1.1)).mono ?_
  rintro e w7 ⟨v7, rfl, hO7, hb7⟩
  obtain ⟨s7, c7, e7, _, _⟩ := hO7.form
  rw [LV.out] at e7
  subst e7
  have d7 := d1.call hb7
  have y1 := d7.cell (.head _) kv.out
  have g1 : w7.frozen? ⟨w.heap.size + 1, 1, none⟩ = false := frozen_of_row _ _ _ _ _ (d7.row (.head _))
  have hVA := own_lower (own_setC hO7 (w.heap.size + 1) 1 (.slice s7 n c7) (own_ne hO7 (d7.row (.head _)) (by decide))) d1.1.size
  have dB := d7.setC (by omega) (by intro x hx; simp only [List.mem_cons, List.not_mem_nil, or_false] at hx; subst hx; simp) 1 (.slice s7 n c7)
  rw [PV1.out] at dB
  clear d7 d1 hO7 y0 g0
  by_cases h32 : (3 + n) + 32 ≤ m
  · have j0 : (3 + (n : Int) + 32) ≤ (m : Int) := by omega
    have hrl := hid (show (t.drop (3 + n)).length = m - (3 + n) by rw [List.length_drop, HM.out])
    go_wp2
    go_loopw [7] (fun i wr => ∃ k : Nat, k ≤ 32 ∧ i = .int .i64 k ∧ BK w wr [(w.heap.size + 1, pfC ⟨true, ((t.drop 3).take n), padz ((t.drop (3 + n)).take k) 32, []⟩ (Value.slice s7 n c7) (.slice none 0 0), 26), (w.heap.size, IZ, 26)] ∧ Own wr w.heap.size (Value.slice s7 n c7) ((t.drop 3).take n)) (fun i _ => 32 - (intOf i).toNat)
    case atStart => exact ⟨0, by omega, rfl, dB, hVA⟩
    case round =>
      clear dB hVA y1 g1
      obtain ⟨k, hk, rfl, dB, hVA⟩ := hrel
      by_cases hlt : k < 32
      · have i1 : (k : Int) < 32 := by omega
        have ix : (3 + (n : Int)) + (k : Int) < (m : Int) := by omega
        have hkr : k < (t.drop (3 + n)).length := by have := hrl.out; omega
        have c0 := (dB.1.cell (p := ⟨b, o + ((3 + n) + k), none⟩) hbw).trans (CE.out ((3 + n) + k) (by omega))
        have lk : ((t.drop (3 + n)).take k).length = k := by rw [List.length_take]; omega
        have lp : (padz ((t.drop (3 + n)).take k) 32).length = 32 := padz_len _ _ (by omega)
        have q0 := dB.cell (.head _) (pfC_b ⟨true, ((t.drop 3).take n), padz ((t.drop (3 + n)).take k) 32, []⟩ (Value.slice s7 n c7) (.slice none 0 0) k _ (ints_get .u8 (padz ((t.drop (3 + n)).take k) 32) k (by omega)))
        have fz : wr.frozen? ⟨w.heap.size + 1, 2 + k, none⟩ = false := frozen_of_row _ _ _ _ _ (dB.row (.head _))
        have dC := dB.setC (by omega) (by intro x hx; simp only [List.mem_cons, List.not_mem_nil, or_false] at hx; subst hx; simp) (2 + k) (.int .u8 (t.getD ((3 + n) + k) 0))
        have hVC := own_setC hVA (w.heap.size + 1) (2 + k) (.int .u8 (t.getD ((3 + n) + k) 0)) (own_ne hVA (dB.row (.head _)) (by decide))
        rw [pfC_setb (p := ⟨true, ((t.drop 3).take n), padz ((t.drop (3 + n)).take k) 32, []⟩) lp _ _ k _ hlt, show (padz ((t.drop (3 + n)).take k) 32).set k (t.getD ((3 + n) + k) 0) = padz ((t.drop (3 + n)).take (k + 1)) 32 from pad_next t (3 + n) k (by have := HM.out; omega)] at dC
        clear lk lp hkr dB hVA
        generalize hxx : t.getD ((3 + n) + k) 0 = x at *
        clear hxx
        generalize pfC ⟨true, ((t.drop 3).take n), padz ((t.drop (3 + n)).take k) 32, []⟩ (Value.slice s7 n c7) (.slice none 0 0) = C1 at *
        generalize (padz ((t.drop (3 + n)).take k) 32).getD k 0 = x9 at *
        go_wp2
        go_roundw
        case rel => exact ⟨k + 1, by omega, by go_num, dC, hVC⟩
        case measure => simp [intOf]; omega
      · obtain rfl : k = 32 := by omega
        have hr32 : ((t.drop (3 + n)).take 32).length = 32 := by have := hrl.out; rw [List.length_take]; omega
        rw [padz_full _ _ hr32] at dB
        have HR32 := hid hr32
        have YB : Bys ((t.drop (3 + n)).take 32) := (hy.drop (3 + n)).take 32
        have KO := hid (fun w1 => xOnes_any w1 _ hr32 YB)
        have OL := hid (show onesN ((t.drop (3 + n)).take 32) ≤ 256 by have := onesN_le ((t.drop (3 + n)).take 32); omega)
        have KS := hid (fun u z => pfC_s (p := ⟨true, ((t.drop 3).take n), (t.drop (3 + n)).take 32, []⟩) ⟨hr32, fun d h => by cases h⟩ u z)
        have PS := hid (fun u z z' => pfC_set (p := ⟨true, ((t.drop 3).take n), (t.drop (3 + n)).take 32, []⟩) ⟨hr32, fun d h => by cases h⟩ u z z')
        have LPF := hid (fun u z => pfC_len (p := ⟨true, ((t.drop 3).take n), (t.drop (3 + n)).take 32, []⟩) ⟨hr32, fun d h => by cases h⟩ u z)
        clear YB
        generalize (t.drop (3 + n)).take 32 = bs at *
        generalize onesN bs = O at *
        clear hr32
        rw [show ((32 : Nat) : Int) = 32 from rfl]
        clear hlt hk
        have hzB := dB.lt (.head _)
        have hzb : ∀ k, (Value.slice s7 n c7).ownBlock = some k → k < wr.heap.size := fun k hk => (hVA.block k hk).2
        have hB0' : wr.heap.size ≤ wr.heap.size := Nat.le_refl _
        obtain ⟨B, hBB⟩ : ∃ B, B = wr.heap.size := ⟨_, rfl⟩
        rw [← hBB] at hzB hzb
        have hB0' : B ≤ wr.heap.size := by omega
        clear hBB
        go_wp2
        go_loopw [5] (fun i wr => ∃ (k a5 : Nat) (v3 : Value), i = .int .i64 a5 ∧ Hid (a5 = (3 + n) + 32 + 32 * k) ∧ a5 ≤ m ∧ BK w wr [(w.heap.size + 1, pfC ⟨true, ((t.drop 3).take n), bs, []⟩ (Value.slice s7 n c7) v3, 26), (w.heap.size, IZ, 26)] ∧ Own wr w.heap.size (Value.slice s7 n c7) ((t.drop 3).take n) ∧ OwnD wr B v3 (chunks k (t.drop ((3 + n) + 32))) ∧ B ≤ wr.heap.size) (fun i _ => m - (intOf i).toNat)
        case atStart => exact ⟨0, (3 + n) + 32, .slice none 0 0, (by go_num), hid (by omega), by omega, dB, hVA, OwnD.nil _ _, hB0'⟩
        case round =>
          clear dB hVA hB0'
          obtain ⟨k, a5, v3, rfl, ha5, h5m, dB, hVA, hQ, hBr⟩ := hrel
          have j5 : (a5 : Int) ≤ (m : Int) := by omega
          by_cases hlt : a5 + 32 ≤ m
          · have i5 : (a5 : Int) + 32 ≤ (m : Int) := by omega
            have AD := hid allocDg
            have dC : BK w (wr.alloc (.cells (ints .u8 zB).toArray 43)) ((wr.heap.size, ints .u8 (padz ((t.drop a5).take 0) 32), 43) :: [(w.heap.size + 1, pfC ⟨true, ((t.drop 3).take n), bs, []⟩ (Value.slice s7 n c7) v3, 26), (w.heap.size, IZ, 26)]) := dB.alloc (ints .u8 zB) 43
            have hg0 : w.heap.size + 1 < wr.heap.size := dB.lt (.head _)
            have bl : Below wr.heap.size wr (wr.alloc (.cells (ints .u8 zB).toArray 43)) := (Below.refl _ _).alloc (Nat.le_refl _) _
            have hVC := hVA.below bl (Nat.le_refl _)
            have hQC := hQ.below bl (Nat.le_refl _)
            have hzz : wr.heap.size < (wr.alloc (.cells (ints .u8 zB).toArray 43)).heap.size := by simp
            have hqb : ∀ k, v3.ownBlock = some k → k ≠ wr.heap.size := fun k hk => by have := (hQ.block k hk).2; omega
            have hvb : ∀ k, (Value.slice s7 n c7).ownBlock = some k → k ≠ wr.heap.size := fun k hk => by have := (hVA.block k hk).2; omega
            clear dB hVA hQ bl
            go_wp2_with (first | refine wpList_allocV AD.out rfl rfl ?_)
            generalize wr.alloc (.cells (ints .u8 zB).toArray 43) = wT at *
            generalize wr.heap.size = g at *
            go_loopw [9] (fun i wr => ∃ j : Nat, j ≤ 32 ∧ i = .int .i64 j ∧ BK w wr ((g, ints .u8 (padz ((t.drop a5).take j) 32), 43) :: [(w.heap.size + 1, pfC ⟨true, ((t.drop 3).take n), bs, []⟩ (Value.slice s7 n c7) v3, 26), (w.heap.size, IZ, 26)]) ∧ Own wr w.heap.size (Value.slice s7 n c7) ((t.drop 3).take n) ∧ OwnD wr B v3 (chunks k (t.drop ((3 + n) + 32))) ∧ g < wr.heap.size) (fun i _ => 32 - (intOf i).toNat)
            case atStart => exact ⟨0, by omega, rfl, dC, hVC, hQC, hzz⟩
            case round =>
              clear dC hVC hQC hzz
              obtain ⟨j, hj, rfl, dC, hVC, hQC, hzz⟩ := hrel
              by_cases hlj : j < 32
              · have j1 : (j : Int) < 32 := by omega
                have jx : (a5 : Int) + (j : Int) < (m : Int) := by omega
                have c0 := (dC.1.cell (p := ⟨b, o + (a5 + j), none⟩) hbw).trans (CE.out (a5 + j) (by omega))
                have lk : ((t.drop a5).take j).length = j := by rw [List.length_take, List.length_drop, HM.out]; omega
                have lp : (padz ((t.drop a5).take j) 32).length = 32 := padz_len _ _ (by omega)
                have q0 := dC.cell (.head _) (ints_get .u8 (padz ((t.drop a5).take j) 32) j (by omega))
                have fz : wr.frozen? ⟨g, j, none⟩ = false := frozen_of_row _ _ _ _ _ (dC.row (.head _))
                have dD := dC.setC (by omega) (by intro x hx; simp only [List.mem_cons, List.not_mem_nil, or_false] at hx; rcases hx with rfl | rfl <;> simp <;> omega) j (.int .u8 (t.getD (a5 + j) 0))
                have hVD := own_setC hVC g j (.int .u8 (t.getD (a5 + j) 0)) hvb
                have hQD := ownD_setC hQC g j (.int .u8 (t.getD (a5 + j) 0)) hqb
                rw [show (ints .u8 (padz ((t.drop a5).take j) 32)).set j (.int .u8 (t.getD (a5 + j) 0)) = ints .u8 (padz ((t.drop a5).take (j + 1)) 32) by
                  rw [← pad_next t a5 j (by have := HM.out; omega)]; simp [ints, List.map_set]] at dD
                have hzD : g < (wr.setCell ⟨g, j, none⟩ (.int .u8 (t.getD (a5 + j) 0))).heap.size := by rw [show (wr.setCell ⟨g, j, none⟩ (.int .u8 (t.getD (a5 + j) 0))).heap.size = wr.heap.size by simp [World.setCell]]; exact hzz
                clear lk lp dC hVC hQC
                generalize hxx : t.getD (a5 + j) 0 = x at *
                clear hxx
                generalize (padz ((t.drop a5).take j) 32).getD j 0 = x9 at *
                go_wp2
                go_roundw
                case rel => exact ⟨j + 1, by omega, by go_num, dD, hVD, hQD, hzD⟩
                case measure => simp [intOf]; omega
              · obtain rfl : j = 32 := by omega
                have hrj : ((t.drop a5).take 32).length = 32 := by rw [List.length_take, List.length_drop, HM.out]; omega
                rw [padz_full _ _ hrj] at dC
                have HC := hid (show chunks (k + 1) (t.drop ((3 + n) + 32)) = chunks k (t.drop ((3 + n) + 32)) ++ [(t.drop a5).take 32] by
                  rw [chunks_take (k + 1) _ k (by omega), List.drop_drop, ha5.out])
                have hcl := hid (show (chunks k (t.drop ((3 + n) + 32))).length + 1 ≤ 4398046511104 by rw [chunks_len]; have := ha5.out; have := HMX.out; omega)
                obtain ⟨s3, c3, rfl, _, _⟩ := hQC.form
                have L2 := hid (show (ints .u8 ((t.drop a5).take 32)).length = 32 by rw [ints_len, hrj])
                have LS := hid (show (Try.prog.info? 43).map (·.size) = some (ints .u8 ((t.drop a5).take 32)).toArray.size by rw [Try.sizeD, List.size_toArray, L2.out])
                have hrj' := hid hrj
                have rg := dC.row (.head _)
                have q34 := dC.cell (.tail _ (.head _)) (KS.out (Value.slice s7 n c7) (.slice s3 (chunks k (t.drop ((3 + n) + 32))).length c3))
                have hBw : B ≤ wr.heap.size := by omega
                clear hrj
                generalize (t.drop a5).take 32 = dg at *
                generalize hch : chunks k (t.drop ((3 + n) + 32)) = ch at *
                clear hch
                rw [show ((32 : Nat) : Int) = 32 from rfl]
                go_wp2_with (first
                  | refine wpList_load_row_w (by rfl) 43 _ (by rfl) _ (by rfl) 43 _ _ _ rg Try.underlying43 rfl LS.out ?_
                  | refine wpList_sliceD rfl _ (by rfl) (ints .u8 dg) L2.out (by rfl) ?_
                  | (at_builtin; refine wpList_pushD rfl (.tmp 99) (.tmp 101) rfl B _ ch dg rfl hQC rfl hrj'.out hcl.out hBw _ _ ?_; intro v9 w9 hQ9 hB9; refine Hid.out ?_))
                refine hid ?_
                obtain ⟨s9, c9, e9, _, _⟩ := hQ9.form
                rw [List.length_append, List.length_singleton] at e9
                subst e9
                have d9 : BK w w9 [(w.heap.size + 1, pfC ⟨true, ((t.drop 3).take n), bs, []⟩ (Value.slice s7 n c7) (.slice s3 ch.length c3), 26), (w.heap.size, IZ, 26)] := ⟨dC.1.trans (hB9.mono (by omega)), fun x hx => hbel hB9 (dC.2 x (.tail _ hx)) (by simp only [List.mem_cons, List.not_mem_nil, or_false] at hx; rcases hx with rfl | rfl <;> simp <;> omega)⟩
                have hV9 := hVC.of_heap (fun k hk => hB9.block k (hzb k hk))
                have q9 := d9.cell (.head _) (KS.out (Value.slice s7 n c7) (.slice s3 ch.length c3))
                have f9 : w9.frozen? ⟨w.heap.size + 1, 34, none⟩ = false := frozen_of_row _ _ _ _ _ (d9.row (.head _))
                have dE := d9.setC (by omega) (by intro x hx; simp only [List.mem_cons, List.not_mem_nil, or_false] at hx; subst hx; simp) 34 (.slice s9 (ch.length + 1) c9)
                rw [PS.out] at dE
                have hVE := own_setC hV9 (w.heap.size + 1) 34 (.slice s9 (ch.length + 1) c9) (own_ne hV9 (d9.row (.head _)) (by decide))
                have hQE := ownD_setC hQ9 (w.heap.size + 1) 34 (.slice s9 (ch.length + 1) c9) (ownD_ne hQ9 (d9.row (.head _)) (by decide))
                have hz9 : B ≤ (w9.setCell ⟨w.heap.size + 1, 34, none⟩ (.slice s9 (ch.length + 1) c9)).heap.size := by rw [show (w9.setCell ⟨w.heap.size + 1, 34, none⟩ (.slice s9 (ch.length + 1) c9)).heap.size = w9.heap.size by simp [World.setCell]]; exact Nat.le_trans hBw hB9.size
                clear d9 hV9 hQ9 dC hVC hQC rg q34
                go_wp2
                go_roundw
                case rel => exact ⟨k + 1, a5 + 32, _, by go_num, hid (by have := ha5.out; omega), by omega, dE, hVE, (by rw [HC.out]; exact hQE), hz9⟩
                case measure => simp [intOf]; omega
          · have i5 : ¬ ((a5 : Int) + 32 ≤ (m : Int)) := by omega
            clear hlt
            obtain ⟨s3, c3, rfl, _, _⟩ := hQ.form
            have q34 := KS.out (Value.slice s7 n c7) (.slice s3 (chunks k (t.drop ((3 + n) + 32))).length c3)
            have qb := pfC_b ⟨true, ((t.drop 3).take n), bs, []⟩ (Value.slice s7 n c7) (.slice s3 (chunks k (t.drop ((3 + n) + 32))).length c3)
            have LB := hid (show (Try.prog.info? 23).map (·.size) = some (ints .u8 bs).length by rw [Try.sizeA, ints_len, HR32.out])
            rw [chunks_len] at q34 qb dB hQ
            have bO : (O : Int) ≤ 256 := by have := OL.out; omega
            have ik : (k : Int) ≤ 140737488355000 := by have := ha5.out; have := HMX.out; omega
            have SPC := hid (show (Try.prog.info? 26).map (·.size) = some (pfC ⟨true, ((t.drop 3).take n), bs, []⟩ (Value.slice s7 n c7) (.slice s3 k c3)).toArray.size by rw [Try.sizeP, List.size_toArray, LPF.out])
            have OPC := hid (pfC_one ⟨true, ((t.drop 3).take n), bs, []⟩ (Value.slice s7 n c7) (.slice s3 k c3) rfl rfl)
            have HPC := hid (show pfC ⟨true, ((t.drop 3).take n), bs, []⟩ (Value.slice s7 n c7) (.slice s3 k c3) = pfC ⟨true, ((t.drop 3).take n), bs, []⟩ (Value.slice s7 n c7) (.slice s3 k c3) from rfl)
            have LIZ := hid (show IZ.length = 35 by have := SZ.out; rw [Try.sizeP, List.size_toArray] at this; exact (Option.some.inj this).symm)
            have LPC := hid (LPF.out (Value.slice s7 n c7) (.slice s3 k c3))
            generalize ints .u8 bs = IB at *
            by_cases h6 : a5 = m
            · subst h6
              by_cases h7 : k = O
              · subst h7
                have HP := hid (HYES.out (by have := ha5.out; omega))
                obtain ⟨PC, hPC⟩ : ∃ PC, PC = pfC ⟨true, ((t.drop 3).take n), bs, []⟩ (Value.slice s7 n c7) (.slice s3 k c3) := ⟨_, rfl⟩
                rw [← hPC] at q34 qb dB SPC OPC LPC
                replace hPC := hid hPC
                clear HPC
                go_wp2
                refine wp_region_noPanic ?_
                refine wp_region_held_drew (S := (fun w' => BK w w' [(w.heap.size + 1, PC, 26), (w.heap.size, IZ, 26)])) (by kernel_rfl) dB.drew (fun hHeld => ?_)
                refine wpAnyH_take (i := 0) (oi := { dst := some 104, op := Op.move (Operand.tmp 5), type := 3, pos := "ref.go:233", after := #[], guard := none }) (v := .int .i64 a5) rfl (by kernel_rfl) (by kernel_rfl) (by kernel_rfl) (fun _ _ _ h => h) (Or.inl ⟨by rfl, by intro w hS; go_simp⟩) hHeld ?_
                try simp only [Act.put, List.setIfInBounds_toArray, List.set_cons_zero, List.set_cons_succ]
                refine wpAnyH_take (i := 1) (oi := { dst := some 105, op := Op.move (Operand.tmp 0), type := 22, pos := "ref.go:233", after := #[], guard := none }) (v := .slice (some ⟨b, o, none⟩) a5 cap) rfl (by kernel_rfl) (by kernel_rfl) (by kernel_rfl) (fun _ _ _ h => h) (Or.inl ⟨by rfl, by intro w hS; go_simp⟩) hHeld ?_
                try simp only [Act.put, List.setIfInBounds_toArray, List.set_cons_zero, List.set_cons_succ]
                refine wpAnyH_take (i := 2) (oi := { dst := some 106, op := Op.call { callee := Callee.builtin Builtin.len, args := #[Operand.tmp 105], argTypes := #[22] }, type := 3, pos := "ref.go:233", after := #[{ on := 1, ground := Ground.data }], guard := none }) (v := .int .i64 a5) rfl (by kernel_rfl) (by kernel_rfl) (by kernel_rfl) (fun _ _ _ h => h) (Or.inl ⟨by rfl, by intro w hS; go_simp⟩) hHeld ?_
                try simp only [Act.put, List.setIfInBounds_toArray, List.set_cons_zero, List.set_cons_succ]
                refine wpAnyH_take (i := 3) (oi := { dst := some 107, op := Op.binOp BinOp.neq 3 (Operand.tmp 104) (Operand.tmp 106) 3, type := 4, pos := "ref.go:233", after := #[{ on := 0, ground := Ground.data }, { on := 2, ground := Ground.data }], guard := none }) (v := .bool false) rfl (by kernel_rfl) (by kernel_rfl) (by kernel_rfl) (fun _ _ _ h => h) (Or.inl ⟨by rfl, by intro w hS; go_simp⟩) hHeld ?_
                try simp only [Act.put, List.setIfInBounds_toArray, List.set_cons_zero, List.set_cons_succ]
                refine wpAnyH_take (i := 4) (oi := { dst := some 108, op := Op.move (Operand.tmp 107), type := 4, pos := "ref.go:233", after := #[{ on := 3, ground := Ground.data }], guard := none }) (v := .bool false) rfl (by kernel_rfl) (by kernel_rfl) (by kernel_rfl) (fun _ _ _ h => h) (Or.inl ⟨by rfl, by intro w hS; go_simp⟩) hHeld ?_
                try simp only [Act.put, List.setIfInBounds_toArray, List.set_cons_zero, List.set_cons_succ]
                refine wpAnyH_take (i := 5) (oi := { dst := some 109, op := Op.fieldAddr 26 (Operand.tmp 4) 3, type := 0, pos := "ref.go:233", after := #[{ on := 4, ground := Ground.guard }], guard := some (4, false) }) (v := .pointer (some ⟨(w.heap.size + 1), 34, none⟩)) rfl (by kernel_rfl) (by kernel_rfl) (by kernel_rfl) (fun _ _ _ h => h) (Or.inl ⟨by rfl, by intro w hS; go_simp⟩) hHeld ?_
                try simp only [Act.put, List.setIfInBounds_toArray, List.set_cons_zero, List.set_cons_succ]
                refine wpAnyH_take (i := 8) (oi := { dst := some 112, op := Op.fieldAddr 26 (Operand.tmp 4) 2, type := 0, pos := "ref.go:233", after := #[{ on := 4, ground := Ground.guard }], guard := some (4, false) }) (v := .pointer (some ⟨(w.heap.size + 1), 2, none⟩)) rfl (by kernel_rfl) (by kernel_rfl) (by kernel_rfl) (fun _ _ _ h => h) (Or.inl ⟨by rfl, by intro w hS; go_simp⟩) hHeld ?_
                try simp only [Act.put, List.setIfInBounds_toArray, List.set_cons_zero, List.set_cons_succ]
                refine wpAnyH_take (i := 6) (oi := { dst := some 110, op := Op.load 24 (Operand.tmp 109), type := 24, pos := "ref.go:233", after := #[{ on := 5, ground := Ground.data }, { on := 4, ground := Ground.guard }], guard := some (4, false) }) (v := .slice s3 k c3) rfl (by kernel_rfl) (by kernel_rfl) (by kernel_rfl) (fun _ _ _ h => h) (Or.inl ⟨by rfl, by intro w hS; have hc := hS.cell (.head _) q34; go_simp⟩) hHeld ?_
                try simp only [Act.put, List.setIfInBounds_toArray, List.set_cons_zero, List.set_cons_succ]
                refine wpAnyH_take (i := 9) (oi := { dst := some 113, op := Op.load 23 (Operand.tmp 112), type := 23, pos := "ref.go:233", after := #[{ on := 8, ground := Ground.data }, { on := 4, ground := Ground.guard }], guard := some (4, false) }) (v := .agg (IB).toArray) rfl (by kernel_rfl) (by kernel_rfl) (by kernel_rfl) (fun _ _ _ h => h) (yieldsIf_load_mid (by rfl) 23 _ rfl (w.heap.size + 1) (2) rfl (IB) _ (fun w hS => hS.rng (.head _) qb) Try.underlying23 rfl LB.out) hHeld ?_
                try simp only [Act.put, List.setIfInBounds_toArray, List.set_cons_zero, List.set_cons_succ]
                refine wpAnyH_take (i := 7) (oi := { dst := some 111, op := Op.call { callee := Callee.builtin Builtin.len, args := #[Operand.tmp 110], argTypes := #[24] }, type := 3, pos := "ref.go:233", after := #[{ on := 6, ground := Ground.data }, { on := 4, ground := Ground.guard }], guard := some (4, false) }) (v := .int .i64 k) rfl (by kernel_rfl) (by kernel_rfl) (by kernel_rfl) (fun _ _ _ h => h) (Or.inl ⟨by rfl, by intro w hS; go_simp⟩) hHeld ?_
                try simp only [Act.put, List.setIfInBounds_toArray, List.set_cons_zero, List.set_cons_succ]
                refine wpAnyH_ready (rs := [10]) (by kernel_rfl) (by simp) ?_
                refine (AllReadyH.cons (o := { dst := some 114, op := Op.call { callee := Callee.value (Operand.func 31), args := #[Operand.tmp 113], argTypes := #[23] }, type := 3, pos := "ref.go:233", after := #[{ on := 9, ground := Ground.data }, { on := 4, ground := Ground.chain }, { on := 4, ground := Ground.guard }], guard := some (4, false) }) rfl (fun K hK => ?_) AllReadyH.nil)
                go_simp
                go_at_call 31
                refine (KO.out _).mono ?_
                rintro e w4 ⟨rfl, hb4⟩
                go_wp2_with fail
                refine hK.out _ _ (hHeld.call hb4) (fun hHeld2 => ?_)
                clear hK K hHeld
                have hHeld := hHeld2
                clear hHeld2
                have hV9 := Own.below (w := wr.drew) (show Own wr.drew w.heap.size _ _ from hVA) hb4 (Nat.le_refl _)
                have hQ9 := OwnD.below (w := wr.drew) (show OwnD wr.drew B _ _ from hQ) hb4 (Nat.le_refl _)
                try simp only [Act.put, List.setIfInBounds_toArray, List.set_cons_zero, List.set_cons_succ]
                refine wpAnyH_take (i := 11) (oi := { dst := some 115, op := Op.binOp BinOp.neq 3 (Operand.tmp 111) (Operand.tmp 114) 3, type := 4, pos := "ref.go:233", after := #[{ on := 7, ground := Ground.data }, { on := 10, ground := Ground.data }, { on := 4, ground := Ground.guard }], guard := some (4, false) }) (v := .bool false) rfl (by kernel_rfl) (by kernel_rfl) (by kernel_rfl) (fun _ _ _ h => h) (Or.inl ⟨by rfl, by intro w hS; go_simp⟩) hHeld ?_
                try simp only [Act.put, List.setIfInBounds_toArray, List.set_cons_zero, List.set_cons_succ]
                refine wpAnyH_take (i := 12) (oi := { dst := some 116, op := Op.pick (Operand.tmp 108) (Operand.const (Value.bool true)) (Operand.tmp 115), type := 4, pos := "ref.go:233", after := #[{ on := 4, ground := Ground.data }, { on := 11, ground := Ground.data }], guard := none }) (v := .bool false) rfl (by kernel_rfl) (by kernel_rfl) (by kernel_rfl) (fun _ _ _ h => h) (Or.inl ⟨by rfl, by intro w hS; go_simp⟩) hHeld ?_
                try simp only [Act.put, List.setIfInBounds_toArray, List.set_cons_zero, List.set_cons_succ]
                refine wpAnyH_done (by kernel_rfl) ?_ _
                refine NoPanic.normal ?_
                have rz := hHeld.row (.tail _ (.head _))
                have rp := hHeld.row (.head _)
                go_wp2_with (first | refine wpList_load_row_w (by rfl) 26 _ (by rfl) _ (by rfl) 26 _ _ _ rp Try.underlying26 rfl SPC.out ?_ | refine wpList_store_row rfl 26 _ _ (by rfl) w.heap.size PC.toArray (by rfl) (by rfl) 26 _ rz SPC.out (by rw [List.size_toArray, List.size_toArray, LIZ.out, LPC.out]) (all_oneCell_toArray OPC.out) ?_)
                have hV8 := hV9.of_heap (fun j hj => setRow_other _ w.heap.size j PC.toArray (own_ne hV9 rz (by decide) j hj))
                have hQ8 := hQ9.of_heap (fun j hj => setRow_other _ w.heap.size j PC.toArray (ownD_ne hQ9 rz (by decide) j hj))
                have HF : P (.returned (.tuple #[.agg (pfC ⟨true, ((t.drop 3).take n), bs, chunks k (t.drop ((3 + n) + 32))⟩ (.slice s7 (((t.drop 3).take n)).length c7) (.slice s3 (chunks k (t.drop ((3 + n) + 32))).length c3)).toArray, .int .i64 0])) (w4.setRow w.heap.size PC.toArray) := FY.out (w4.setRow w.heap.size PC.toArray) (below_setRow hHeld.1 (Nat.le_refl _) PC.toArray) _ HP.out s7 s3 c7 c3 (by show Own _ w.heap.size (.slice s7 (((t.drop 3).take n)).length c7) _; rw [LV.out]; exact hV8) (by show OwnD _ w.heap.size (.slice s3 (chunks k (t.drop ((3 + n) + 32))).length c3) _; rw [chunks_len]; exact own_lowerD hQ8 (by omega))
                rw [chunks_len] at HF
                rw [LV.out] at HF
                have HF2 : P (.returned (.tuple #[.agg PC.toArray, .int .i64 0])) (w4.setRow w.heap.size PC.toArray) := by rw [show Value.agg PC.toArray = Value.agg (pfC ⟨true, ((t.drop 3).take n), bs, []⟩ (Value.slice s7 n c7) (.slice s3 k c3)).toArray by rw [← hPC.out]]; exact HF
                exact bodyPost_ret (v := .tuple #[.agg PC.toArray, .int .i64 0]) (results_c2 Try.results29 _ _ w.heap.size 26 _ _ _ rfl (setRow_heap _ _ _ _ _ _ rz) Try.underlying26 rfl SPC.out) rfl HF2
              · have HP := hid (HNO.out (by have := ha5.out; omega))
                have i7 : ¬ ((k : Int) = (O : Int)) := by omega
                clear h7
                generalize pfC ⟨true, ((t.drop 3).take n), bs, []⟩ (Value.slice s7 n c7) (.slice s3 k c3) = PC at *
                go_wp2
                refine wp_region_noPanic ?_
                refine wp_region_held_drew (S := (fun w' => BK w w' [(w.heap.size + 1, PC, 26), (w.heap.size, IZ, 26)])) (by kernel_rfl) dB.drew (fun hHeld => ?_)
                refine wpAnyH_take (i := 0) (oi := { dst := some 104, op := Op.move (Operand.tmp 5), type := 3, pos := "ref.go:233", after := #[], guard := none }) (v := .int .i64 a5) rfl (by kernel_rfl) (by kernel_rfl) (by kernel_rfl) (fun _ _ _ h => h) (Or.inl ⟨by rfl, by intro w hS; go_simp⟩) hHeld ?_
                try simp only [Act.put, List.setIfInBounds_toArray, List.set_cons_zero, List.set_cons_succ]
                refine wpAnyH_take (i := 1) (oi := { dst := some 105, op := Op.move (Operand.tmp 0), type := 22, pos := "ref.go:233", after := #[], guard := none }) (v := .slice (some ⟨b, o, none⟩) a5 cap) rfl (by kernel_rfl) (by kernel_rfl) (by kernel_rfl) (fun _ _ _ h => h) (Or.inl ⟨by rfl, by intro w hS; go_simp⟩) hHeld ?_
                try simp only [Act.put, List.setIfInBounds_toArray, List.set_cons_zero, List.set_cons_succ]
                refine wpAnyH_take (i := 2) (oi := { dst := some 106, op := Op.call { callee := Callee.builtin Builtin.len, args := #[Operand.tmp 105], argTypes := #[22] }, type := 3, pos := "ref.go:233", after := #[{ on := 1, ground := Ground.data }], guard := none }) (v := .int .i64 a5) rfl (by kernel_rfl) (by kernel_rfl) (by kernel_rfl) (fun _ _ _ h => h) (Or.inl ⟨by rfl, by intro w hS; go_simp⟩) hHeld ?_
                try simp only [Act.put, List.setIfInBounds_toArray, List.set_cons_zero, List.set_cons_succ]
                refine wpAnyH_take (i := 3) (oi := { dst := some 107, op := Op.binOp BinOp.neq 3 (Operand.tmp 104) (Operand.tmp 106) 3, type := 4, pos := "ref.go:233", after := #[{ on := 0, ground := Ground.data }, { on := 2, ground := Ground.data }], guard := none }) (v := .bool false) rfl (by kernel_rfl) (by kernel_rfl) (by kernel_rfl) (fun _ _ _ h => h) (Or.inl ⟨by rfl, by intro w hS; go_simp⟩) hHeld ?_
                try simp only [Act.put, List.setIfInBounds_toArray, List.set_cons_zero, List.set_cons_succ]
                refine wpAnyH_take (i := 4) (oi := { dst := some 108, op := Op.move (Operand.tmp 107), type := 4, pos := "ref.go:233", after := #[{ on := 3, ground := Ground.data }], guard := none }) (v := .bool false) rfl (by kernel_rfl) (by kernel_rfl) (by kernel_rfl) (fun _ _ _ h => h) (Or.inl ⟨by rfl, by intro w hS; go_simp⟩) hHeld ?_
                try simp only [Act.put, List.setIfInBounds_toArray, List.set_cons_zero, List.set_cons_succ]
                refine wpAnyH_take (i := 5) (oi := { dst := some 109, op := Op.fieldAddr 26 (Operand.tmp 4) 3, type := 0, pos := "ref.go:233", after := #[{ on := 4, ground := Ground.guard }], guard := some (4, false) }) (v := .pointer (some ⟨(w.heap.size + 1), 34, none⟩)) rfl (by kernel_rfl) (by kernel_rfl) (by kernel_rfl) (fun _ _ _ h => h) (Or.inl ⟨by rfl, by intro w hS; go_simp⟩) hHeld ?_
                try simp only [Act.put, List.setIfInBounds_toArray, List.set_cons_zero, List.set_cons_succ]
                refine wpAnyH_take (i := 8) (oi := { dst := some 112, op := Op.fieldAddr 26 (Operand.tmp 4) 2, type := 0, pos := "ref.go:233", after := #[{ on := 4, ground := Ground.guard }], guard := some (4, false) }) (v := .pointer (some ⟨(w.heap.size + 1), 2, none⟩)) rfl (by kernel_rfl) (by kernel_rfl) (by kernel_rfl) (fun _ _ _ h => h) (Or.inl ⟨by rfl, by intro w hS; go_simp⟩) hHeld ?_
                try simp only [Act.put, List.setIfInBounds_toArray, List.set_cons_zero, List.set_cons_succ]
                refine wpAnyH_take (i := 6) (oi := { dst := some 110, op := Op.load 24 (Operand.tmp 109), type := 24, pos := "ref.go:233", after := #[{ on := 5, ground := Ground.data }, { on := 4, ground := Ground.guard }], guard := some (4, false) }) (v := .slice s3 k c3) rfl (by kernel_rfl) (by kernel_rfl) (by kernel_rfl) (fun _ _ _ h => h) (Or.inl ⟨by rfl, by intro w hS; have hc := hS.cell (.head _) q34; go_simp⟩) hHeld ?_
                try simp only [Act.put, List.setIfInBounds_toArray, List.set_cons_zero, List.set_cons_succ]
                refine wpAnyH_take (i := 9) (oi := { dst := some 113, op := Op.load 23 (Operand.tmp 112), type := 23, pos := "ref.go:233", after := #[{ on := 8, ground := Ground.data }, { on := 4, ground := Ground.guard }], guard := some (4, false) }) (v := .agg (IB).toArray) rfl (by kernel_rfl) (by kernel_rfl) (by kernel_rfl) (fun _ _ _ h => h) (yieldsIf_load_mid (by rfl) 23 _ rfl (w.heap.size + 1) (2) rfl (IB) _ (fun w hS => hS.rng (.head _) qb) Try.underlying23 rfl LB.out) hHeld ?_
                try simp only [Act.put, List.setIfInBounds_toArray, List.set_cons_zero, List.set_cons_succ]
                refine wpAnyH_take (i := 7) (oi := { dst := some 111, op := Op.call { callee := Callee.builtin Builtin.len, args := #[Operand.tmp 110], argTypes := #[24] }, type := 3, pos := "ref.go:233", after := #[{ on := 6, ground := Ground.data }, { on := 4, ground := Ground.guard }], guard := some (4, false) }) (v := .int .i64 k) rfl (by kernel_rfl) (by kernel_rfl) (by kernel_rfl) (fun _ _ _ h => h) (Or.inl ⟨by rfl, by intro w hS; go_simp⟩) hHeld ?_
                try simp only [Act.put, List.setIfInBounds_toArray, List.set_cons_zero, List.set_cons_succ]
                refine wpAnyH_ready (rs := [10]) (by kernel_rfl) (by simp) ?_
                refine (AllReadyH.cons (o := { dst := some 114, op := Op.call { callee := Callee.value (Operand.func 31), args := #[Operand.tmp 113], argTypes := #[23] }, type := 3, pos := "ref.go:233", after := #[{ on := 9, ground := Ground.data }, { on := 4, ground := Ground.chain }, { on := 4, ground := Ground.guard }], guard := some (4, false) }) rfl (fun K hK => ?_) AllReadyH.nil)
                go_simp
                go_at_call 31
                refine (KO.out _).mono ?_
                rintro e w4 ⟨rfl, hb4⟩
                go_wp2_with fail
                refine hK.out _ _ (hHeld.call hb4) (fun hHeld2 => ?_)
                clear hK K hHeld
                have hHeld := hHeld2
                clear hHeld2
                try simp only [Act.put, List.setIfInBounds_toArray, List.set_cons_zero, List.set_cons_succ]
                refine wpAnyH_take (i := 11) (oi := { dst := some 115, op := Op.binOp BinOp.neq 3 (Operand.tmp 111) (Operand.tmp 114) 3, type := 4, pos := "ref.go:233", after := #[{ on := 7, ground := Ground.data }, { on := 10, ground := Ground.data }, { on := 4, ground := Ground.guard }], guard := some (4, false) }) (v := .bool true) rfl (by kernel_rfl) (by kernel_rfl) (by kernel_rfl) (fun _ _ _ h => h) (Or.inl ⟨by rfl, by intro w hS; go_simp⟩) hHeld ?_
                try simp only [Act.put, List.setIfInBounds_toArray, List.set_cons_zero, List.set_cons_succ]
                refine wpAnyH_take (i := 12) (oi := { dst := some 116, op := Op.pick (Operand.tmp 108) (Operand.const (Value.bool true)) (Operand.tmp 115), type := 4, pos := "ref.go:233", after := #[{ on := 4, ground := Ground.data }, { on := 11, ground := Ground.data }], guard := none }) (v := .bool true) rfl (by kernel_rfl) (by kernel_rfl) (by kernel_rfl) (fun _ _ _ h => h) (Or.inl ⟨by rfl, by intro w hS; go_simp⟩) hHeld ?_
                try simp only [Act.put, List.setIfInBounds_toArray, List.set_cons_zero, List.set_cons_succ]
                refine wpAnyH_done (by kernel_rfl) ?_ _
                refine NoPanic.normal ?_
                have rz := hHeld.row (.tail _ (.head _))
                go_wp2_with (first | refine wpList_allocV AP.out rfl rfl ?_ | refine wpList_built (by rfl) 26 _ (by rfl) _ (by rfl) _ BZ.out ?_ | refine wpList_store_row rfl 26 _ _ (by rfl) w.heap.size IZ.toArray (by rfl) (by rfl) 26 _ rz SZ.out (by rfl) (all_oneCell_toArray ON.out) ?_)
                exact bodyPost_ret (v := .tuple #[.agg IZ.toArray, .int .i64 120]) (results_c2 Try.results29 _ _ w.heap.size 26 _ _ _ rfl (setRow_heap _ _ _ _ _ _ rz) Try.underlying26 rfl SZ.out) rfl (FZ.out _ (below_setRow hHeld.1 (Nat.le_refl _) _) HP.out)
            · have HP := hid (HNO.out (by have := ha5.out; omega))
              have i7 : ¬ ((a5 : Int) = (m : Int)) := by omega
              clear h6
              generalize pfC ⟨true, ((t.drop 3).take n), bs, []⟩ (Value.slice s7 n c7) (.slice s3 k c3) = PC at *
              go_wp2
              refine wp_region_noPanic ?_
              refine wp_region_held_drew (S := (fun w' => BK w w' [(w.heap.size + 1, PC, 26), (w.heap.size, IZ, 26)])) (by kernel_rfl) dB.drew (fun hHeld => ?_)
              refine wpAnyH_take (i := 0) (oi := { dst := some 104, op := Op.move (Operand.tmp 5), type := 3, pos := "ref.go:233", after := #[], guard := none }) (v := .int .i64 a5) rfl (by kernel_rfl) (by kernel_rfl) (by kernel_rfl) (fun _ _ _ h => h) (Or.inl ⟨by rfl, by intro w hS; go_simp⟩) hHeld ?_
              try simp only [Act.put, List.setIfInBounds_toArray, List.set_cons_zero, List.set_cons_succ]
              refine wpAnyH_take (i := 1) (oi := { dst := some 105, op := Op.move (Operand.tmp 0), type := 22, pos := "ref.go:233", after := #[], guard := none }) (v := .slice (some ⟨b, o, none⟩) m cap) rfl (by kernel_rfl) (by kernel_rfl) (by kernel_rfl) (fun _ _ _ h => h) (Or.inl ⟨by rfl, by intro w hS; go_simp⟩) hHeld ?_
              try simp only [Act.put, List.setIfInBounds_toArray, List.set_cons_zero, List.set_cons_succ]
              refine wpAnyH_take (i := 2) (oi := { dst := some 106, op := Op.call { callee := Callee.builtin Builtin.len, args := #[Operand.tmp 105], argTypes := #[22] }, type := 3, pos := "ref.go:233", after := #[{ on := 1, ground := Ground.data }], guard := none }) (v := .int .i64 m) rfl (by kernel_rfl) (by kernel_rfl) (by kernel_rfl) (fun _ _ _ h => h) (Or.inl ⟨by rfl, by intro w hS; go_simp⟩) hHeld ?_
              try simp only [Act.put, List.setIfInBounds_toArray, List.set_cons_zero, List.set_cons_succ]
              refine wpAnyH_take (i := 3) (oi := { dst := some 107, op := Op.binOp BinOp.neq 3 (Operand.tmp 104) (Operand.tmp 106) 3, type := 4, pos := "ref.go:233", after := #[{ on := 0, ground := Ground.data }, { on := 2, ground := Ground.data }], guard := none }) (v := .bool true) rfl (by kernel_rfl) (by kernel_rfl) (by kernel_rfl) (fun _ _ _ h => h) (Or.inl ⟨by rfl, by intro w hS; go_simp⟩) hHeld ?_
              try simp only [Act.put, List.setIfInBounds_toArray, List.set_cons_zero, List.set_cons_succ]
              refine wpAnyH_take (i := 4) (oi := { dst := some 108, op := Op.move (Operand.tmp 107), type := 4, pos := "ref.go:233", after := #[{ on := 3, ground := Ground.data }], guard := none }) (v := .bool true) rfl (by kernel_rfl) (by kernel_rfl) (by kernel_rfl) (fun _ _ _ h => h) (Or.inl ⟨by rfl, by intro w hS; go_simp⟩) hHeld ?_
              try simp only [Act.put, List.setIfInBounds_toArray, List.set_cons_zero, List.set_cons_succ]
              refine wpAnyH_take (i := 5) (oi := { dst := some 109, op := Op.fieldAddr 26 (Operand.tmp 4) 3, type := 0, pos := "ref.go:233", after := #[{ on := 4, ground := Ground.guard }], guard := some (4, false) }) (v := undef) rfl (by kernel_rfl) (by kernel_rfl) (by kernel_rfl) (fun _ _ _ h => h) (Or.inr ⟨by rfl, rfl⟩) hHeld ?_
              try simp only [Act.put, List.setIfInBounds_toArray, List.set_cons_zero, List.set_cons_succ]
              refine wpAnyH_take (i := 8) (oi := { dst := some 112, op := Op.fieldAddr 26 (Operand.tmp 4) 2, type := 0, pos := "ref.go:233", after := #[{ on := 4, ground := Ground.guard }], guard := some (4, false) }) (v := undef) rfl (by kernel_rfl) (by kernel_rfl) (by kernel_rfl) (fun _ _ _ h => h) (Or.inr ⟨by rfl, rfl⟩) hHeld ?_
              try simp only [Act.put, List.setIfInBounds_toArray, List.set_cons_zero, List.set_cons_succ]
              refine wpAnyH_take (i := 6) (oi := { dst := some 110, op := Op.load 24 (Operand.tmp 109), type := 24, pos := "ref.go:233", after := #[{ on := 5, ground := Ground.data }, { on := 4, ground := Ground.guard }], guard := some (4, false) }) (v := undef) rfl (by kernel_rfl) (by kernel_rfl) (by kernel_rfl) (fun _ _ _ h => h) (Or.inr ⟨by rfl, rfl⟩) hHeld ?_
              try simp only [Act.put, List.setIfInBounds_toArray, List.set_cons_zero, List.set_cons_succ]
              refine wpAnyH_take (i := 9) (oi := { dst := some 113, op := Op.load 23 (Operand.tmp 112), type := 23, pos := "ref.go:233", after := #[{ on := 8, ground := Ground.data }, { on := 4, ground := Ground.guard }], guard := some (4, false) }) (v := undef) rfl (by kernel_rfl) (by kernel_rfl) (by kernel_rfl) (fun _ _ _ h => h) (Or.inr ⟨by rfl, rfl⟩) hHeld ?_
              try simp only [Act.put, List.setIfInBounds_toArray, List.set_cons_zero, List.set_cons_succ]
              refine wpAnyH_take (i := 7) (oi := { dst := some 111, op := Op.call { callee := Callee.builtin Builtin.len, args := #[Operand.tmp 110], argTypes := #[24] }, type := 3, pos := "ref.go:233", after := #[{ on := 6, ground := Ground.data }, { on := 4, ground := Ground.guard }], guard := some (4, false) }) (v := undef) rfl (by kernel_rfl) (by kernel_rfl) (by kernel_rfl) (fun _ _ _ h => h) (Or.inr ⟨by rfl, rfl⟩) hHeld ?_
              try simp only [Act.put, List.setIfInBounds_toArray, List.set_cons_zero, List.set_cons_succ]
              refine wpAnyH_take (i := 10) (oi := { dst := some 114, op := Op.call { callee := Callee.value (Operand.func 31), args := #[Operand.tmp 113], argTypes := #[23] }, type := 3, pos := "ref.go:233", after := #[{ on := 9, ground := Ground.data }, { on := 4, ground := Ground.chain }, { on := 4, ground := Ground.guard }], guard := some (4, false) }) (v := undef) rfl (by kernel_rfl) (by kernel_rfl) (by kernel_rfl) (fun _ _ _ h => h) (Or.inr ⟨by rfl, rfl⟩) hHeld ?_
              try simp only [Act.put, List.setIfInBounds_toArray, List.set_cons_zero, List.set_cons_succ]
              refine wpAnyH_take (i := 11) (oi := { dst := some 115, op := Op.binOp BinOp.neq 3 (Operand.tmp 111) (Operand.tmp 114) 3, type := 4, pos := "ref.go:233", after := #[{ on := 7, ground := Ground.data }, { on := 10, ground := Ground.data }, { on := 4, ground := Ground.guard }], guard := some (4, false) }) (v := undef) rfl (by kernel_rfl) (by kernel_rfl) (by kernel_rfl) (fun _ _ _ h => h) (Or.inr ⟨by rfl, rfl⟩) hHeld ?_
              try simp only [Act.put, List.setIfInBounds_toArray, List.set_cons_zero, List.set_cons_succ]
              refine wpAnyH_take (i := 12) (oi := { dst := some 116, op := Op.pick (Operand.tmp 108) (Operand.const (Value.bool true)) (Operand.tmp 115), type := 4, pos := "ref.go:233", after := #[{ on := 4, ground := Ground.data }, { on := 11, ground := Ground.data }], guard := none }) (v := .bool true) rfl (by kernel_rfl) (by kernel_rfl) (by kernel_rfl) (fun _ _ _ h => h) (Or.inl ⟨by rfl, by intro w hS; go_simp⟩) hHeld ?_
              try simp only [Act.put, List.setIfInBounds_toArray, List.set_cons_zero, List.set_cons_succ]
              refine wpAnyH_done (by kernel_rfl) ?_ _
              refine NoPanic.normal ?_
              have rz := hHeld.row (.tail _ (.head _))
              go_wp2_with (first | refine wpList_allocV AP.out rfl rfl ?_ | refine wpList_built (by rfl) 26 _ (by rfl) _ (by rfl) _ BZ.out ?_ | refine wpList_store_row rfl 26 _ _ (by rfl) w.heap.size IZ.toArray (by rfl) (by rfl) 26 _ rz SZ.out (by rfl) (all_oneCell_toArray ON.out) ?_)
              exact bodyPost_ret (v := .tuple #[.agg IZ.toArray, .int .i64 120]) (results_c2 Try.results29 _ _ w.heap.size 26 _ _ _ rfl (setRow_heap _ _ _ _ _ _ rz) Try.underlying26 rfl SZ.out) rfl (FZ.out _ (below_setRow hHeld.1 (Nat.le_refl _) _) HP.out)
  · have HNN := hid (HNO2.out h32)
    have j0 : ¬ ((3 + (n : Int) + 32) ≤ (m : Int)) := by omega
    have r1 := dB.row (.tail _ (.head _))
    go_wp2_with (first | refine wpList_allocV AP.out rfl rfl ?_ | refine wpList_built (by rfl) 26 _ (by rfl) _ (by rfl) _ BZ.out ?_ | refine wpList_store_row rfl 26 _ _ (by rfl) w.heap.size IZ.toArray (by rfl) (by rfl) 26 _ r1 SZ.out (by rfl) (all_oneCell_toArray ON.out) ?_)
    exact bodyPost_ret (v := .tuple #[.agg IZ.toArray, .int .i64 120]) (results_c2 Try.results29 _ _ w.heap.size 26 _ _ _ rfl (setRow_heap _ _ _ _ _ _ r1) Try.underlying26 rfl SZ.out) rfl (FZ.out _ (below_setRow dB.1 (Nat.le_refl _) _) HNN.out)
end Go.Proofs.Ytlhmhpkgdcdjkaa
