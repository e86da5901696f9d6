import Derived.Test.YtaoongjdneaccaaDoorDb5
import Derived.RegionTactic
namespace Go.Proofs.YtaoongjdneaccaaDoor
set_option linter.unusedVariables false
set_option linter.unusedSimpArgs false
open Go.RowKit
attribute [local go_sem ↓] Go.wp_at_zero Go.wp_at_succ

/-- The divisor lies in memory. -/
def Gl (w : World) : Prop := 0 < w.heap.size ∧ ∀ j, j < 33 → w.cell? ⟨0, j, none⟩ = some (.int .u8 (dvI.getD j 0))
theorem Gl.below {w w1 : World} {B : Nat} (h : Gl w) (hb : Below B w w1) (hB : 0 < B) : Gl w1 := ⟨Nat.lt_of_lt_of_le h.1 hb.size, fun j hj => (hb.cell (p := ⟨0, j, none⟩) hB).trans (h.2 j hj)⟩
theorem getD_set (os : List Int) (j t : Nat) (x : Int) (hj : j < os.length) : (os.set j x).getD t 0 = if t = j then x else os.getD t 0 := by
  by_cases h : t = j
  · subst h; rw [if_pos rfl, List.getD_eq_getElem?_getD, List.getElem?_set_self hj]; rfl
  · rw [if_neg h, List.getD_eq_getElem?_getD, List.getElem?_set_ne (Ne.symm h), ← List.getD_eq_getElem?_getD]
theorem wrap8_bit (b : Nat) (h : b < 2) : IntKind.u8.wrap (b : Int) = (b : Int) := by rw [IntKind.wrap_u8]; omega
theorem mod_or (R m : Nat) : (R % 2 ^ m) ||| ((R >>> m % 2) * 2 ^ m) = R % 2 ^ (m + 1) := by
  rw [mod_pow_succ_xor]
  apply Nat.eq_of_testBit_eq
  intro i
  rw [Nat.testBit_or, Nat.testBit_xor, Nat.testBit_mod_two_pow, Nat.mul_comm, Nat.testBit_two_pow_mul]
  by_cases h : i < m
  · have : ¬ i ≥ m := by omega
    simp [h, this]
  · simp [h]
theorem or_u32 (a b : Nat) (ha : a < 4294967296) (hb : b < 4294967296) : bits .or .u32 (a : Int) (b : Int) = ((a ||| b : Nat) : Int) := (bits_nat .u32 32 (by decide) wraps_u32 a b ha hb).2
theorem and1_u32 (a : Nat) (ha : a < 4294967296) : bits .and .u32 (a : Int) 1 = ((a % 2 : Nat) : Int) := by
  have := bits_mask .u32 32 (by decide) wraps_u32 1 (by decide) (a : Int) (by omega) (by omega)
  simpa using this
theorem bit_u32 (a m : Nat) (ha : a < 4294967296) : bits .and .u32 ((a : Int) / (2 : Int) ^ m) 1 = ((a >>> m % 2 : Nat) : Int) := by
  have e : (a : Int) / (2 : Int) ^ m = ((a >>> m : Nat) : Int) := by rw [Nat.shiftRight_eq_div_pow]; simp
  rw [e, and1_u32 _ (by rw [Nat.shiftRight_eq_div_pow]; exact Nat.lt_of_le_of_lt (Nat.div_le_self _ _) ha)]
set_option maxRecDepth 100000 in
set_option maxHeartbeats 4000000 in
theorem divide_any (w : World) (hG : Gl w) (s : Nat) (hs : s < 4294967296) (zs : List Int) (h8 : Byts zs) (sp : Option Addr) (cap : Nat) (hS : Src w sp cap zs) (hlen : zs.length ≤ 1048576) :
    Calls Tryd.prog 55 #[.int .u32 s, .slice sp zs.length cap] w fun e w' => e = .returned (.int .u32 (feed s zs)) ∧ Below w.heap.size w w' := by
  have hF := bt_lt zs
  have HP := hid (bt_past zs)
  have HR := hid (rg_all zs h8 s)
  have HRl := hid (rg_lt s (bt zs) hs hF)
  have hw0 := hG.1
  go_enter Tryd.func55, Tryd.ntmps55
  go_wp2_with fail
  refine (rbits_any w zs h8 sp cap hS hlen).mono ?_
  rintro e w1 ⟨v, rfl, hO1, b1⟩
  obtain ⟨k, hk⟩ : ∃ k, k = 8 * zs.length := ⟨_, rfl⟩
  rw [← hk] at hO1 HR
  have hkl : k ≤ 8388608 := by omega
  have Hk := hid hk
  have HP' := hid (fun t (h : k ≤ t) => HP.out t (by have := Hk.out; omega))
  clear hk HP
  have i0 : (k : Int) ≤ 8388608 := by omega
  obtain ⟨tp, tc, rfl, _, _⟩ := hO1.form
  have HTL := hid (tab_len (btI zs) k)
  rw [HTL.out]
  rw [HTL.out] at hO1
  go_wp2
  go_loopw [5, 7] (fun v i wr => ∃ m : Nat, m ≤ 32 ∧ i = .int .i64 m ∧ Own wr w.heap.size v (tab (btI zs) (k + m)) ∧ Below w.heap.size w wr) (fun _ i _ => 32 - (intOf i).toNat)
  case atStart => exact ⟨0, by omega, rfl, hO1, b1⟩
  case round =>
    clear hO1 b1
    obtain ⟨m, hm, rfl, hO, hB⟩ := hrel
    by_cases hlt : m < 32
    · have i1 : (m : Int) < 32 := by omega
      have HT := hid (show tab (btI zs) (k + (m + 1)) = tab (btI zs) (k + m) ++ [0] by rw [← Nat.add_assoc, tab_succ]; congr 2; show ((bt zs (k + m) : Nat) : Int) = 0; rw [HP'.out (k + m) (by omega)]; rfl)
      have KL := hid (show (tab (btI zs) (k + m)).length + 1 ≤ 140737488355328 by rw [tab_len]; omega)
      generalize tab (btI zs) (k + m) = tb at *
      go_wp2_with (first | (at_builtin; refine wpList_push_any rfl (.tmp 21) (.tmp 22) rfl w.heap.size _ _ 0 rfl hO rfl KL.out hB.size _ _ ?_; intro v2 w2 hO2 hB2))
      go_roundw
      case rel => exact ⟨m + 1, by omega, by go_num, (by rw [HT.out]; exact hO2), hB.trans hB2⟩
      case measure => simp [intOf]; omega
    · obtain rfl : m = 32 := by omega
      clear hlt
      have hlen32 : (tab (btI zs) (k + 32)).length = k + 32 := tab_len _ _
      obtain ⟨up, uc, g, rest, rfl, _, huc, hum, hgg, hot⟩ := hO.ot
      obtain ⟨rfl, hI0⟩ := hot (by omega)
      have hI4 : In wr g rest (tab (btI zs) (k + 32)) := hI0
      rw [hlen32]
      have hg0 : ∀ t, t < k + 32 → (tab (btI zs) (k + 32)).getD t 0 = ((bt zs t ^^^ (if t < 0 then s >>> t % 2 else 0) : Nat) : Int) := fun t ht => by
        rw [tab_get _ _ _ ht, if_neg (by omega), Nat.xor_zero]; rfl
      have G0 := hid (show ∃ os : List Int, In wr g rest os ∧ os.length = k + 32 ∧ ∀ t, t < k + 32 → os.getD t 0 = ((bt zs t ^^^ (if t < 0 then s >>> t % 2 else 0) : Nat) : Int) from ⟨_, hI4, hlen32, hg0⟩)
      generalize bt zs = F at *
      clear hO hot hI0 hI4 hlen32 hg0
      go_wp2
      go_loopw [8] (fun i wr => ∃ m : Nat, m ≤ 32 ∧ i = .int .i64 m ∧ Below w.heap.size w wr ∧ ∃ os : List Int, In wr g rest os ∧ os.length = k + 32 ∧ ∀ t, t < k + 32 → os.getD t 0 = ((F t ^^^ (if t < m then s >>> t % 2 else 0) : Nat) : Int)) (fun i _ => 32 - (intOf i).toNat)
      case atStart => exact ⟨0, by omega, rfl, hB, G0.out⟩
      case round =>
        clear hB G0
        obtain ⟨m, hm, rfl, hB, os, hI, hl, hg⟩ := hrel
        replace hl := hid hl
        replace hg := hid hg
        by_cases hlt : m < 32
        · have i1 : (m : Int) < 32 := by omega
          have i2 : (m : Int) < (k : Int) + 32 := by omega
          have c0 := hI.cell m (by rw [hl.out]; omega)
          rw [hg.out m (by omega), if_neg (by omega), Nat.xor_zero] at c0
          have f0 : wr.frozen? ⟨g, m, none⟩ = false := frozen_of_row _ _ _ _ _ hI
          have hset := fun x => hI.set m x (by rw [hl.out]; omega)
          have e1 := bit_u32 s m hs
          have hbt : s >>> m % 2 < 2 := m2 _
          have HX := hid (fun t => show (if t < m + 1 then s >>> t % 2 else 0) = (if t = m then s >>> m % 2 else if t < m then s >>> t % 2 else 0) by
            by_cases h1 : t = m
            · subst h1; rw [if_pos (by omega), if_pos rfl]
            · by_cases h2 : t < m
              · rw [if_pos (by omega), if_neg h1, if_pos h2]
              · rw [if_neg (by omega), if_neg h1, if_neg h2])
          have e2 := wrap8_bit _ hbt
          have hFm := hF m
          have e3 := xor_u8 (F m) (s >>> m % 2) (by omega) (by omega)
          generalize hbm : s >>> m % 2 = bm at *
          have HBm := hid hbm
          clear hbm
          have j1 : (bm : Int) < 2 := by omega
          go_wp2
          go_roundw
          case rel =>
            refine ⟨m + 1, by omega, by go_num, hB.setCell (by show w.heap.size ≤ g; omega) _, os.set m ((F m ^^^ bm : Nat) : Int), hset _, by rw [List.length_set]; exact hl.out, fun t ht => ?_⟩
            rw [getD_set _ _ _ _ (by rw [hl.out]; omega), HX.out t]
            by_cases h1 : t = m
            · subst h1; rw [if_pos rfl, if_pos rfl]
            · rw [if_neg h1, if_neg h1]; exact hg.out t ht
          case measure => simp [intOf]; omega
        · obtain rfl : m = 32 := by omega
          clear hlt
          have G0 := hid (show ∃ os : List Int, In wr g rest os ∧ os.length = k + 32 ∧ ∀ t, 0 ≤ t → t < k + 32 → os.getD t 0 = ((cellAt F (rg s F 0) 0 t : Nat) : Int) from ⟨os, hI, hl.out, fun t _ ht => by
            rw [hg.out t ht, cellAt, Nat.sub_zero]
            congr 2
            by_cases h : t < 32
            · rw [if_pos h]; rfl
            · rw [if_neg h]; exact (shr_big s t hs (by omega)).symm⟩)
          clear hI hl hg
          go_wp2
          go_loopw [9, 10] (fun i _ wr => ∃ n : Nat, n ≤ k ∧ i = .int .i64 n ∧ Below w.heap.size w wr ∧ ∃ os : List Int, In wr g rest os ∧ os.length = k + 32 ∧ ∀ t, n ≤ t → t < k + 32 → os.getD t 0 = ((cellAt F (rg s F n) n t : Nat) : Int)) (fun i _ _ => k - (intOf i).toNat)
          case atStart => exact ⟨0, by omega, rfl, hB, G0.out⟩
          case round =>
            clear hB G0
            obtain ⟨n, hn, rfl, hB, os, hI, hl, hg⟩ := hrel
            replace hl := hid hl
            replace hg := hid hg
            by_cases hlt : n < k
            · have i1 : (n : Int) < (k : Int) := by omega
              have i2 : (n : Int) < (k : Int) + 32 := by omega
              have c0 := hI.cell n (by rw [hl.out]; omega)
              rw [hg.out n (by omega) (by omega)] at c0
              have HRn := hid (HRl.out n)
              have HN0 := hid (fun (h : cellAt F (rg s F n) n n = 0) t ht => cellAt_next0 F hF (rg s F n) n t h ht)
              have HN1 := hid (fun (h : cellAt F (rg s F n) n n = 1) t ht => cellAt_next1 F hF (rg s F n) n t h ht)
              have HRs := hid (show rg s F (n + 1) = step (rg s F n ^^^ F n) from rfl)
              have hc2 := cellAt_lt F hF (rg s F n) n n
              rcases (show cellAt F (rg s F n) n n = 1 ∨ cellAt F (rg s F n) n n = 0 by omega) with h1 | h1
              · rw [h1] at c0
                replace HN1 := hid (HN1.out h1)
                have G1 := hid (show ∃ os' : List Int, In wr g rest os' ∧ os'.length = k + 32 ∧ ∀ t, t < k + 32 → os'.getD t 0 = if n ≤ t ∧ t < n + 0 then bits .xor .u8 (os.getD t 0) (dvI.getD (t - n) 0) else os.getD t 0 from ⟨os, hI, hl.out, fun t _ => by rw [if_neg (by omega)]⟩)
                clear HN0 h1 hc2
                go_wp2
                go_loopw [10] (fun j wr => ∃ m : Nat, m ≤ 33 ∧ j = .int .i64 m ∧ Below w.heap.size w wr ∧ ∃ os' : List Int, In wr g rest os' ∧ os'.length = k + 32 ∧ ∀ t, t < k + 32 → os'.getD t 0 = if n ≤ t ∧ t < n + m then bits .xor .u8 (os.getD t 0) (dvI.getD (t - n) 0) else os.getD t 0) (fun j _ => 33 - (intOf j).toNat)
                case atStart => exact ⟨0, by omega, rfl, hB, G1.out⟩
                case round =>
                  clear hB G1 hI c0
                  obtain ⟨m, hm, rfl, hB, ot, hI, hl2, hg2⟩ := hrel
                  replace hl2 := hid hl2
                  replace hg2 := hid hg2
                  by_cases hltm : m < 33
                  · have j1 : (m : Int) < 33 := by omega
                    have j2 : (n : Int) + (m : Int) < (k : Int) + 32 := by omega
                    have j3 : (0 : Int) ≤ (n : Int) + (m : Int) := by omega
                    have j4 : IntKind.i64.wrap ((n : Int) + (m : Int)) = (n : Int) + (m : Int) := wrap_i64_id _ (by omega) (by omega)
                    have j5 : ((n : Int) + (m : Int)).toNat = n + m := by omega
                    have c0 := hI.cell (n + m) (by rw [hl2.out]; omega)
                    rw [hg2.out (n + m) (by omega), if_neg (by omega)] at c0
                    have c1 := (hB.cell (p := ⟨0, m, none⟩) hw0).trans (hG.2 m (by omega))
                    have f0 : wr.frozen? ⟨g, n + m, none⟩ = false := frozen_of_row _ _ _ _ _ hI
                    have hset := fun x => hI.set (n + m) x (by rw [hl2.out]; omega)
                    have HSt := hid (fun t => show (n ≤ t ∧ t < n + (m + 1)) ↔ (t = n + m ∨ (n ≤ t ∧ t < n + m)) by omega)
                    have HD := hid (show dvI.getD (n + m - n) 0 = dvI.getD m 0 by congr 1; omega)
                    generalize hxx : os.getD (n + m) 0 = xx at *
                    generalize hyy : dvI.getD m 0 = yy at *
                    have HXX := hid hxx
                    have HYY := hid hyy
                    clear hxx hyy
                    have c0' : wr.cell? ⟨g, ((n : Int) + (m : Int)).toNat, none⟩ = some (.int .u8 xx) := by rw [j5]; exact c0
                    have hne : g ≠ 0 := by omega
                    go_wp2
                    refine wp_region_noPanic ?_
                    go_region
                    all_goals refine NoPanic.normal ?_
                    all_goals go_wp2
                    all_goals go_roundw
                    case rel =>
                      refine ⟨m + 1, by omega, by go_num, (hB.setCell (by show w.heap.size ≤ g; omega) _).drew, ot.set (n + m) (bits .xor .u8 xx yy), hset _, by rw [List.length_set]; exact hl2.out, fun t ht => ?_⟩
                      rw [getD_set _ _ _ _ (by rw [hl2.out]; omega)]
                      by_cases h1 : t = n + m
                      · subst h1; rw [if_pos rfl, if_pos ((HSt.out _).2 (Or.inl rfl)), HXX.out, HD.out]
                      · rw [if_neg h1, hg2.out t ht]
                        by_cases h2 : n ≤ t ∧ t < n + m
                        · rw [if_pos h2, if_pos ((HSt.out _).2 (Or.inr h2))]
                        · rw [if_neg h2, if_neg (fun h => by rcases (HSt.out _).1 h with h | h; exact h1 h; exact h2 h)]
                    case measure => simp [intOf]; omega
                  · obtain rfl : m = 33 := by omega
                    clear hltm
                    have HI2 := hid (show ∀ t, n + 1 ≤ t → t < k + 32 → ot.getD t 0 = ((cellAt F (rg s F (n + 1)) (n + 1) t : Nat) : Int) from fun t h1 h2 => by
                      rw [HRs.out, HN1.out t h1, hg2.out t h2, hg.out t (by omega) h2]
                      by_cases h3 : t < n + 33
                      · rw [if_pos ⟨by omega, h3⟩, if_pos h3, dvI_eq (t - n) (by omega)]
                        have a1 := cellAt_lt F hF (rg s F n) n t
                        have a2 := dv_lt (t - n) (by omega)
                        exact xor_u8 _ _ (by omega) (by omega)
                      · rw [if_neg (by omega), if_neg h3])
                    go_wp2
                    go_roundw
                    case rel => exact ⟨n + 1, by omega, by go_num, hB, ot, hI, hl2.out, HI2.out⟩
                    case measure => simp [intOf]; omega
              · rw [h1] at c0
                have HI2 := hid (show ∀ t, n + 1 ≤ t → t < k + 32 → os.getD t 0 = ((cellAt F (rg s F (n + 1)) (n + 1) t : Nat) : Int) from fun t h1' h2 => by
                  rw [HRs.out, HN0.out h1 t h1', hg.out t (by omega) h2])
                clear HN0 HN1 h1 hc2
                go_wp2
                go_roundw
                case rel => exact ⟨n + 1, by omega, by go_num, hB, os, hI, hl.out, HI2.out⟩
                case measure => simp [intOf]; omega
            · obtain rfl : n = k := by omega
              clear hlt
              have HRk := hid HR.out
              have hRl := HRl.out n
              have hg5 := hid (fun m (h : m < 32) => show os.getD (n + m) 0 = ((rg s F n >>> m % 2 : Nat) : Int) by
                rw [hg.out (n + m) (by omega) (by omega), cellAt, HP'.out (n + m) (by omega), Nat.zero_xor, show n + m - n = m by omega])
              generalize rg s F n = R at *
              clear hg
              go_wp2
              go_loopw [11, 12] (fun x i wr => ∃ m : Nat, m ≤ 32 ∧ i = .int .i64 m ∧ x = .int .u32 ((R % 2 ^ m : Nat) : Int) ∧ In wr g rest os ∧ Below w.heap.size w wr) (fun _ i _ => 32 - (intOf i).toNat)
              case atStart => exact ⟨0, by omega, rfl, by simp [Nat.mod_one], hI, hB⟩
              case round =>
                clear hI hB
                obtain ⟨m, hm, rfl, rfl, hI, hB⟩ := hrel
                by_cases hlt : m < 32
                · have i1 : (m : Int) < 32 := by omega
                  have i2 : (n : Int) + (m : Int) < (n : Int) + 32 := by omega
                  have i3 : (0 : Int) ≤ (n : Int) + (m : Int) := by omega
                  have i4 : IntKind.i64.wrap ((n : Int) + (m : Int)) = (n : Int) + (m : Int) := wrap_i64_id _ (by omega) (by omega)
                  have i5 : ((n : Int) + (m : Int)).toNat = n + m := by omega
                  have c0 := hI.cell (n + m) (by rw [hl.out]; omega)
                  rw [hg5.out m hlt] at c0
                  have hbt : R >>> m % 2 < 2 := m2 _
                  have hml : R % 2 ^ m < 4294967296 := Nat.lt_of_le_of_lt (Nat.mod_le _ _) hRl
                  have HO := hid (mod_or R m)
                  have hp2 : 2 ^ m < 4294967296 := (Nat.pow_lt_pow_iff_right (a := 2) (n := m) (m := 32) (by decide)).2 hlt
                  have e0 : (2 : Int) ^ m = ((2 ^ m : Nat) : Int) := by push_cast; rfl
                  generalize R % 2 ^ m = q at *
                  generalize R >>> m % 2 = bm at *
                  have hbl : bm * 2 ^ m < 4294967296 := by
                    rcases (show bm = 0 ∨ bm = 1 by omega) with rfl | rfl
                    · simp
                    · rw [Nat.one_mul]; exact hp2
                  have e1 : (bm : Int) * (2 : Int) ^ m = ((bm * 2 ^ m : Nat) : Int) := by push_cast; rfl
                  have e2 : IntKind.u32.wrap ((bm : Int) * (2 : Int) ^ m) = ((bm * 2 ^ m : Nat) : Int) := by rw [e1, IntKind.wrap_u32]; exact Int.emod_eq_of_lt (Int.natCast_nonneg _) (by have : ((bm * 2 ^ m : Nat) : Int) < ((4294967296 : Nat) : Int) := Int.ofNat_lt.2 hbl; simpa using this)
                  have e3 : (bm : Int) * (2 : Int) ^ m % 4294967296 = ((bm * 2 ^ m : Nat) : Int) := by rw [IntKind.wrap_u32] at e2; exact e2
                  have e4 := or_u32 q (bm * 2 ^ m) hml hbl
                  generalize bm * 2 ^ m = z at *
                  have j1 : (bm : Int) < 2 := by omega
                  clear e1 e0
                  go_wp2
                  go_roundw
                  case rel => exact ⟨m + 1, by omega, by go_num, by rw [← HO.out], hI, hB⟩
                  case measure => simp [intOf]; omega
                · obtain rfl : m = 32 := by omega
                  clear hlt
                  have HM := hid (show R % 2 ^ 32 = R from Nat.mod_eq_of_lt hRl)
                  rw [HM.out, HRk.out]
                  go_wp2
                  go_ret
                  exact ⟨rfl, hB⟩

theorem not_u32c (a : Nat) (ha : a < 4294967296) : bits .xor .u32 4294967295 (a : Int) = ((inv a : Nat) : Int) := not_u32 a ha
set_option maxRecDepth 100000 in
set_option maxHeartbeats 400000 in
theorem rsum_any (w : World) (hG : Gl w) (zs : List Int) (h8 : Byts zs) (sp : Option Addr) (cap : Nat) (hS : Src w sp cap zs) (hlen : zs.length ≤ 1048576) :
    Calls Tryd.prog 52 #[.slice sp zs.length cap] w fun e w' => e = .returned (.int .u32 (sumF zs)) ∧ Below w.heap.size w w' := by
  have hl : (4294967295 : Nat) < 4294967296 := by decide
  have e1 := not_u32 _ (feed_lt zs h8 4294967295 hl)
  have e2 := not_u32m _ (feed_lt zs h8 4294967295 hl)
  have hsg : IntKind.u32.signed = false := rfl
  have HS := hid (show sumF zs = inv (feed 4294967295 zs) by rw [sumF, updF, show inv 0 = 4294967295 by decide +kernel])
  go_enter Tryd.func52, Tryd.ntmps52
  go_wp2_with fail
  refine (divide_any w hG 4294967295 hl zs h8 sp cap hS hlen).mono ?_
  rintro e w' ⟨rfl, hB⟩
  generalize feed 4294967295 zs = f at *
  go_wp2
  go_ret
  exact ⟨by rw [HS.out]; rfl, hB⟩
end Go.Proofs.YtaoongjdneaccaaDoor
