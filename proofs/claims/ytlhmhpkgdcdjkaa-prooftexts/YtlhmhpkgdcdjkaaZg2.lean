import Derived.Test.YtlhmhpkgdcdjkaaZf2
namespace Go.Proofs.Ytlhmhpkgdcdjkaa
set_option linter.unusedVariables false
set_option linter.unusedSimpArgs false
open Go.RowKit
attribute [local go_sem ↓] Go.wp_at_zero Go.wp_at_succ

/-- The bit of a height. -/
def bitP (bs : List Int) (h : Nat) : Int := bs.getD (h / 8) 0 / 2 ^ (h % 8) % 2
theorem one8_nat : ∀ n, n < 256 → (one8 ((n : Nat) : Int) : Int) = (n : Int) / 2 ^ 0 % 2 + (n : Int) / 2 ^ 1 % 2 + (n : Int) / 2 ^ 2 % 2 + (n : Int) / 2 ^ 3 % 2 + (n : Int) / 2 ^ 4 % 2 + (n : Int) / 2 ^ 5 % 2 + (n : Int) / 2 ^ 6 % 2 + (n : Int) / 2 ^ 7 % 2 := by decide +kernel
theorem one8_bits (b : Int) (h : 0 ≤ b ∧ b < 256) : (one8 b : Int) = b / 2 ^ 0 % 2 + b / 2 ^ 1 % 2 + b / 2 ^ 2 % 2 + b / 2 ^ 3 % 2 + b / 2 ^ 4 % 2 + b / 2 ^ 5 % 2 + b / 2 ^ 6 % 2 + b / 2 ^ 7 % 2 := by
  obtain ⟨n, rfl⟩ := Int.eq_ofNat_of_zero_le h.1
  exact one8_nat n (by omega)
/-- How many of the first bits are set. -/
def cntP (bs : List Int) : Nat → Int
  | 0 => 0
  | n + 1 => cntP bs n + bitP bs n
theorem bitP_01 (bs : List Int) (h : Nat) : bitP bs h = 0 ∨ bitP bs h = 1 := by unfold bitP; omega
theorem cntP_bd (bs : List Int) : ∀ n, 0 ≤ cntP bs n ∧ cntP bs n ≤ n
  | 0 => by simp [cntP]
  | n + 1 => by have := cntP_bd bs n; have := bitP_01 bs n; simp only [cntP]; omega
theorem cntP_8 (bs : List Int) (k : Nat) (h : k < bs.length) (hy : Bys bs) : cntP bs (8 * (k + 1)) = cntP bs (8 * k) + one8 (bs.getD k 0) := by
  have e : 8 * (k + 1) = 8 * k + 7 + 1 := by omega
  rw [e, one8_bits _ (hy.at k h)]
  have b : ∀ j, j < 8 → bitP bs (8 * k + j) = bs.getD k 0 / 2 ^ j % 2 := fun j hj => by unfold bitP; rw [show (8 * k + j) / 8 = k by omega, show (8 * k + j) % 8 = j by omega]
  simp only [cntP]
  have b0 := b 0 (by omega)
  rw [Nat.add_zero] at b0
  rw [b0, b 1 (by omega), b 2 (by omega), b 3 (by omega), b 4 (by omega), b 5 (by omega), b 6 (by omega), b 7 (by omega)]
  omega
theorem cntP_take (bs : List Int) (hy : Bys bs) : ∀ k, k ≤ bs.length → cntP bs (8 * k) = onesN (bs.take k)
  | 0, _ => by simp [cntP, onesN]
  | k + 1, h => by rw [cntP_8 bs k (by omega) hy, cntP_take bs hy k (by omega), onesN_take bs k (by omega)]; simp
theorem cntP_all (bs : List Int) (hy : Bys bs) (hl : bs.length = 32) : cntP bs 256 = onesN bs := by
  have := cntP_take bs hy 32 (by omega)
  rw [List.take_of_length_le (by omega)] at this
  exact this
theorem and_one_nat8 : ∀ n, n < 256 → bits .and .u8 ((n : Nat) : Int) 1 = ((n % 2 : Nat) : Int) := by decide +kernel
theorem and_one8 {x : Int} (h0 : 0 ≤ x) (h1 : x < 256) : bits .and .u8 x 1 = x % 2 := by
  obtain ⟨n, rfl⟩ := Int.eq_ofNat_of_zero_le h0
  rw [and_one_nat8 n (by omega)]; simp
theorem shr_bd {x : Int} (h0 : 0 ≤ x) (h1 : x < 256) (p : Nat) : 0 ≤ x / 2 ^ p ∧ x / 2 ^ p < 256 := by
  have hp : (0 : Int) < 2 ^ p := Int.pow_pos (by decide)
  refine ⟨Int.ediv_nonneg h0 (by omega), Int.lt_of_le_of_lt (Int.ediv_le_self _ h0) h1⟩
set_option maxRecDepth 100000 in
set_option maxHeartbeats 2000000 in
theorem bit_any (w : World) (p : Pf) (ok : PfOk p) (y : PfY p) (v s : Value) (i : Nat) (hi : i < 256) :
    Calls Try.prog 18 #[.agg (pfC p v s).toArray, .int .i64 i] w fun e w' => e = .returned (.bool (decide (bitP p.bs i = 1))) ∧ Below w.heap.size w w' := by
  have i1 : (i : Int) < 256 := by omega
  have hl := ok.bs
  have hx := y.bs.at (i / 8) (by omega)
  have d0 := (BK.nil w).alloc (pfC p v s) 26
  have c0 := d0.cell (.head _) (pfC_b p v s (i / 8) _ (ints_get .u8 p.bs (i / 8) (by omega)))
  have HS := shr_bd hx.1 hx.2 (i % 8)
  have HA := hid (and_one8 HS.1 HS.2)
  have HK := hid (show bitP p.bs i = p.bs.getD (i / 8) 0 / 2 ^ (i % 8) % 2 from rfl)
  rw [HK.out]
  clear HK
  generalize p.bs.getD (i / 8) 0 = x at *
  go_enter Try.func18, Try.ntmps18
  go_wp2
  go_ret
  refine ⟨?_, d0.1⟩
  show Ending.returned (.bool (bits .and .u8 (x / 2 ^ (i % 8)) 1 == 1)) = _
  rw [HA.out]
  rfl
set_option maxRecDepth 100000 in
set_option maxHeartbeats 2000000 in
theorem well_t (w : World) (p : Pf) (ok : PfOk p) (y : PfY p) (s1 s2 : Option Addr) (c1 c2 : Nat) (hv : p.vs.length ≤ 9223372036854775807) (hs : p.ss.length ≤ 9223372036854775807) (hf : p.f = true) (hc : p.vs.length ≤ 128) :
    Calls Try.prog 10 #[.agg (pfC p (.slice s1 p.vs.length c1) (.slice s2 p.ss.length c2)).toArray] w fun e w' => e = .returned (.bool ((p.ss.length : Int) == (onesN p.bs : Int))) ∧ Below w.heap.size w w' := by
  have d0 := (BK.nil w).alloc (pfC p (.slice s1 p.vs.length c1) (.slice s2 p.ss.length c2)) 26
  have k0 := hid (pfC_f p (.slice s1 p.vs.length c1) (.slice s2 p.ss.length c2))
  have k1 := hid (pfC_v p (.slice s1 p.vs.length c1) (.slice s2 p.ss.length c2))
  have k34 := hid (pfC_s ok (.slice s1 p.vs.length c1) (.slice s2 p.ss.length c2))
  have LS := hid (show (Try.prog.info? 26).map (·.size) = some (pfC p (.slice s1 p.vs.length c1) (.slice s2 p.ss.length c2)).toArray.size by rw [Try.sizeP, List.size_toArray, pfC_len ok])
  have KB := hid (fun w1 i (hi : i < 256) => bit_any w1 p ok y (.slice s1 p.vs.length c1) (.slice s2 p.ss.length c2) i hi)
  have BD := hid (cntP_bd p.bs)
  have ST := hid (fun n => show cntP p.bs (n + 1) = cntP p.bs n + bitP p.bs n from rfl)
  have B1 := hid (bitP_01 p.bs)
  have HO := hid (cntP_all p.bs y.bs ok.bs)
  have c0 := hid (show cntP p.bs 0 = 0 from rfl)
  have i3 : (p.vs.length : Int) ≤ 128 := by omega
  have i2 : (p.ss.length : Int) ≤ 9223372036854775807 := by omega
  generalize pfC p (.slice s1 p.vs.length c1) (.slice s2 p.ss.length c2) = C at *
  generalize p.vs.length = n at *
  generalize p.ss.length = m at *
  generalize onesN p.bs = O at *
  go_enter Try.func10, Try.ntmps10
  go_wp2
  generalize w.alloc (.cells C.toArray 26) = w1 at *
  go_loopw [3, 4] (fun v i wr => ∃ k : Nat, k ≤ 256 ∧ i = .int .i64 k ∧ v = .int .i64 (cntP p.bs k) ∧ BK w wr [(w.heap.size, C, 26)]) (fun _ i _ => 256 - (intOf i).toNat)
  case atStart => exact ⟨0, by omega, rfl, by rw [c0.out], d0⟩
  case round =>
    clear d0 c0
    obtain ⟨k, hk, rfl, rfl, d1⟩ := hrel
    have r1 := d1.row (.head _)
    by_cases hlt : k < 256
    · have i1 : (k : Int) < 256 := by omega
      have st := hid (ST.out k)
      have bd := BD.out k
      have b1 : cntP p.bs k ≤ 256 := by omega
      have b0 : 0 ≤ cntP p.bs k := by omega
      have KB1 := hid (fun w1 => KB.out w1 k hlt)
      clear bd
      rcases B1.out k with hb | hb
      · rw [hb] at st KB1
        rw [show decide ((0 : Int) = 1) = false from rfl] at KB1
        generalize cntP p.bs k = X at *
        clear hb
        go_wp2_with (first | refine wpList_load_row_w (by rfl) 26 _ (by rfl) _ (by rfl) 26 _ _ _ r1 Try.underlying26 rfl LS.out ?_)
        refine (KB1.out _).mono ?_
        rintro e w2 ⟨rfl, hb2⟩
        have d2 := d1.call hb2
        clear r1 d1
        go_wp2
        go_roundw
        case rel => exact ⟨k + 1, by omega, by go_num, (by rw [st.out] <;> go_num), d2⟩
        case measure => simp [intOf]; omega
      · rw [hb] at st KB1
        rw [show decide ((1 : Int) = 1) = true from rfl] at KB1
        generalize cntP p.bs k = X at *
        clear hb
        go_wp2_with (first | refine wpList_load_row_w (by rfl) 26 _ (by rfl) _ (by rfl) 26 _ _ _ r1 Try.underlying26 rfl LS.out ?_)
        refine (KB1.out _).mono ?_
        rintro e w2 ⟨rfl, hb2⟩
        have d2 := d1.call hb2
        clear r1 d1
        go_wp2
        go_roundw
        case rel => exact ⟨k + 1, by omega, by go_num, (by rw [st.out] <;> go_num), d2⟩
        case measure => simp [intOf]; omega
    · obtain rfl : k = 256 := by omega
      have e0 := d1.cell (.head _) k0.out
      have e1 := d1.cell (.head _) k1.out
      have e34 := d1.cell (.head _) k34.out
      rw [hf] at e0
      rw [HO.out] at *
      go_wp2
      go_ret
      exact ⟨rfl, d1.1⟩
set_option maxRecDepth 100000 in
set_option maxHeartbeats 2000000 in
theorem well_f (w : World) (p : Pf) (ok : PfOk p) (y : PfY p) (s1 s2 : Option Addr) (c1 c2 : Nat) (hv : p.vs.length ≤ 9223372036854775807) (hs : p.ss.length ≤ 9223372036854775807) (hf : p.f = false) (hc : p.vs.length = 0) :
    Calls Try.prog 10 #[.agg (pfC p (.slice s1 p.vs.length c1) (.slice s2 p.ss.length c2)).toArray] w fun e w' => e = .returned (.bool ((p.ss.length : Int) == (onesN p.bs : Int))) ∧ Below w.heap.size w w' := by
  have d0 := (BK.nil w).alloc (pfC p (.slice s1 p.vs.length c1) (.slice s2 p.ss.length c2)) 26
  have k0 := hid (pfC_f p (.slice s1 p.vs.length c1) (.slice s2 p.ss.length c2))
  have k1 := hid (pfC_v p (.slice s1 p.vs.length c1) (.slice s2 p.ss.length c2))
  have k34 := hid (pfC_s ok (.slice s1 p.vs.length c1) (.slice s2 p.ss.length c2))
  have LS := hid (show (Try.prog.info? 26).map (·.size) = some (pfC p (.slice s1 p.vs.length c1) (.slice s2 p.ss.length c2)).toArray.size by rw [Try.sizeP, List.size_toArray, pfC_len ok])
  have KB := hid (fun w1 i (hi : i < 256) => bit_any w1 p ok y (.slice s1 p.vs.length c1) (.slice s2 p.ss.length c2) i hi)
  have BD := hid (cntP_bd p.bs)
  have ST := hid (fun n => show cntP p.bs (n + 1) = cntP p.bs n + bitP p.bs n from rfl)
  have B1 := hid (bitP_01 p.bs)
  have HO := hid (cntP_all p.bs y.bs ok.bs)
  have c0 := hid (show cntP p.bs 0 = 0 from rfl)
  have i3 : (p.vs.length : Int) = 0 := by omega
  have i2 : (p.ss.length : Int) ≤ 9223372036854775807 := by omega
  generalize pfC p (.slice s1 p.vs.length c1) (.slice s2 p.ss.length c2) = C at *
  generalize p.vs.length = n at *
  generalize p.ss.length = m at *
  generalize onesN p.bs = O at *
  go_enter Try.func10, Try.ntmps10
  go_wp2
  generalize w.alloc (.cells C.toArray 26) = w1 at *
  go_loopw [3, 4] (fun v i wr => ∃ k : Nat, k ≤ 256 ∧ i = .int .i64 k ∧ v = .int .i64 (cntP p.bs k) ∧ BK w wr [(w.heap.size, C, 26)]) (fun _ i _ => 256 - (intOf i).toNat)
  case atStart => exact ⟨0, by omega, rfl, by rw [c0.out], d0⟩
  case round =>
    clear d0 c0
    obtain ⟨k, hk, rfl, rfl, d1⟩ := hrel
    have r1 := d1.row (.head _)
    by_cases hlt : k < 256
    · have i1 : (k : Int) < 256 := by omega
      have st := hid (ST.out k)
      have bd := BD.out k
      have b1 : cntP p.bs k ≤ 256 := by omega
      have b0 : 0 ≤ cntP p.bs k := by omega
      have KB1 := hid (fun w1 => KB.out w1 k hlt)
      clear bd
      rcases B1.out k with hb | hb
      · rw [hb] at st KB1
        rw [show decide ((0 : Int) = 1) = false from rfl] at KB1
        generalize cntP p.bs k = X at *
        clear hb
        go_wp2_with (first | refine wpList_load_row_w (by rfl) 26 _ (by rfl) _ (by rfl) 26 _ _ _ r1 Try.underlying26 rfl LS.out ?_)
        refine (KB1.out _).mono ?_
        rintro e w2 ⟨rfl, hb2⟩
        have d2 := d1.call hb2
        clear r1 d1
        go_wp2
        go_roundw
        case rel => exact ⟨k + 1, by omega, by go_num, (by rw [st.out] <;> go_num), d2⟩
        case measure => simp [intOf]; omega
      · rw [hb] at st KB1
        rw [show decide ((1 : Int) = 1) = true from rfl] at KB1
        generalize cntP p.bs k = X at *
        clear hb
        go_wp2_with (first | refine wpList_load_row_w (by rfl) 26 _ (by rfl) _ (by rfl) 26 _ _ _ r1 Try.underlying26 rfl LS.out ?_)
        refine (KB1.out _).mono ?_
        rintro e w2 ⟨rfl, hb2⟩
        have d2 := d1.call hb2
        clear r1 d1
        go_wp2
        go_roundw
        case rel => exact ⟨k + 1, by omega, by go_num, (by rw [st.out] <;> go_num), d2⟩
        case measure => simp [intOf]; omega
    · obtain rfl : k = 256 := by omega
      have e0 := d1.cell (.head _) k0.out
      have e1 := d1.cell (.head _) k1.out
      have e34 := d1.cell (.head _) k34.out
      rw [hf] at e0
      rw [HO.out] at *
      go_wp2
      go_ret
      exact ⟨rfl, d1.1⟩
set_option maxRecDepth 100000 in
set_option maxHeartbeats 2000000 in
theorem well_tn (w : World) (p : Pf) (ok : PfOk p) (y : PfY p) (s1 s2 : Option Addr) (c1 c2 : Nat) (hv : p.vs.length ≤ 9223372036854775807) (hs : p.ss.length ≤ 9223372036854775807) (hf : p.f = true) (hc : 128 < p.vs.length) :
    Calls Try.prog 10 #[.agg (pfC p (.slice s1 p.vs.length c1) (.slice s2 p.ss.length c2)).toArray] w fun e w' => e = .returned (.bool (false)) ∧ Below w.heap.size w w' := by
  have d0 := (BK.nil w).alloc (pfC p (.slice s1 p.vs.length c1) (.slice s2 p.ss.length c2)) 26
  have k0 := hid (pfC_f p (.slice s1 p.vs.length c1) (.slice s2 p.ss.length c2))
  have k1 := hid (pfC_v p (.slice s1 p.vs.length c1) (.slice s2 p.ss.length c2))
  have k34 := hid (pfC_s ok (.slice s1 p.vs.length c1) (.slice s2 p.ss.length c2))
  have LS := hid (show (Try.prog.info? 26).map (·.size) = some (pfC p (.slice s1 p.vs.length c1) (.slice s2 p.ss.length c2)).toArray.size by rw [Try.sizeP, List.size_toArray, pfC_len ok])
  have KB := hid (fun w1 i (hi : i < 256) => bit_any w1 p ok y (.slice s1 p.vs.length c1) (.slice s2 p.ss.length c2) i hi)
  have BD := hid (cntP_bd p.bs)
  have ST := hid (fun n => show cntP p.bs (n + 1) = cntP p.bs n + bitP p.bs n from rfl)
  have B1 := hid (bitP_01 p.bs)
  have HO := hid (cntP_all p.bs y.bs ok.bs)
  have c0 := hid (show cntP p.bs 0 = 0 from rfl)
  have i3 : (128 : Int) < (p.vs.length : Int) := by omega
  have i2 : (p.ss.length : Int) ≤ 9223372036854775807 := by omega
  generalize pfC p (.slice s1 p.vs.length c1) (.slice s2 p.ss.length c2) = C at *
  generalize p.vs.length = n at *
  generalize p.ss.length = m at *
  generalize onesN p.bs = O at *
  go_enter Try.func10, Try.ntmps10
  go_wp2
  generalize w.alloc (.cells C.toArray 26) = w1 at *
  go_loopw [3, 4] (fun v i wr => ∃ k : Nat, k ≤ 256 ∧ i = .int .i64 k ∧ v = .int .i64 (cntP p.bs k) ∧ BK w wr [(w.heap.size, C, 26)]) (fun _ i _ => 256 - (intOf i).toNat)
  case atStart => exact ⟨0, by omega, rfl, by rw [c0.out], d0⟩
  case round =>
    clear d0 c0
    obtain ⟨k, hk, rfl, rfl, d1⟩ := hrel
    have r1 := d1.row (.head _)
    by_cases hlt : k < 256
    · have i1 : (k : Int) < 256 := by omega
      have st := hid (ST.out k)
      have bd := BD.out k
      have b1 : cntP p.bs k ≤ 256 := by omega
      have b0 : 0 ≤ cntP p.bs k := by omega
      have KB1 := hid (fun w1 => KB.out w1 k hlt)
      clear bd
      rcases B1.out k with hb | hb
      · rw [hb] at st KB1
        rw [show decide ((0 : Int) = 1) = false from rfl] at KB1
        generalize cntP p.bs k = X at *
        clear hb
        go_wp2_with (first | refine wpList_load_row_w (by rfl) 26 _ (by rfl) _ (by rfl) 26 _ _ _ r1 Try.underlying26 rfl LS.out ?_)
        refine (KB1.out _).mono ?_
        rintro e w2 ⟨rfl, hb2⟩
        have d2 := d1.call hb2
        clear r1 d1
        go_wp2
        go_roundw
        case rel => exact ⟨k + 1, by omega, by go_num, (by rw [st.out] <;> go_num), d2⟩
        case measure => simp [intOf]; omega
      · rw [hb] at st KB1
        rw [show decide ((1 : Int) = 1) = true from rfl] at KB1
        generalize cntP p.bs k = X at *
        clear hb
        go_wp2_with (first | refine wpList_load_row_w (by rfl) 26 _ (by rfl) _ (by rfl) 26 _ _ _ r1 Try.underlying26 rfl LS.out ?_)
        refine (KB1.out _).mono ?_
        rintro e w2 ⟨rfl, hb2⟩
        have d2 := d1.call hb2
        clear r1 d1
        go_wp2
        go_roundw
        case rel => exact ⟨k + 1, by omega, by go_num, (by rw [st.out] <;> go_num), d2⟩
        case measure => simp [intOf]; omega
    · obtain rfl : k = 256 := by omega
      have e0 := d1.cell (.head _) k0.out
      have e1 := d1.cell (.head _) k1.out
      have e34 := d1.cell (.head _) k34.out
      rw [hf] at e0
      rw [HO.out] at *
      go_wp2
      go_ret
      exact ⟨rfl, d1.1⟩
set_option maxRecDepth 100000 in
set_option maxHeartbeats 2000000 in
theorem well_fn (w : World) (p : Pf) (ok : PfOk p) (y : PfY p) (s1 s2 : Option Addr) (c1 c2 : Nat) (hv : p.vs.length ≤ 9223372036854775807) (hs : p.ss.length ≤ 9223372036854775807) (hf : p.f = false) (hc : 0 < p.vs.length) :
    Calls Try.prog 10 #[.agg (pfC p (.slice s1 p.vs.length c1) (.slice s2 p.ss.length c2)).toArray] w fun e w' => e = .returned (.bool (false)) ∧ Below w.heap.size w w' := by
  have d0 := (BK.nil w).alloc (pfC p (.slice s1 p.vs.length c1) (.slice s2 p.ss.length c2)) 26
  have k0 := hid (pfC_f p (.slice s1 p.vs.length c1) (.slice s2 p.ss.length c2))
  have k1 := hid (pfC_v p (.slice s1 p.vs.length c1) (.slice s2 p.ss.length c2))
  have k34 := hid (pfC_s ok (.slice s1 p.vs.length c1) (.slice s2 p.ss.length c2))
  have LS := hid (show (Try.prog.info? 26).map (·.size) = some (pfC p (.slice s1 p.vs.length c1) (.slice s2 p.ss.length c2)).toArray.size by rw [Try.sizeP, List.size_toArray, pfC_len ok])
  have KB := hid (fun w1 i (hi : i < 256) => bit_any w1 p ok y (.slice s1 p.vs.length c1) (.slice s2 p.ss.length c2) i hi)
  have BD := hid (cntP_bd p.bs)
  have ST := hid (fun n => show cntP p.bs (n + 1) = cntP p.bs n + bitP p.bs n from rfl)
  have B1 := hid (bitP_01 p.bs)
  have HO := hid (cntP_all p.bs y.bs ok.bs)
  have c0 := hid (show cntP p.bs 0 = 0 from rfl)
  have i3 : (0 : Int) < (p.vs.length : Int) := by omega
  have i2 : (p.ss.length : Int) ≤ 9223372036854775807 := by omega
  generalize pfC p (.slice s1 p.vs.length c1) (.slice s2 p.ss.length c2) = C at *
  generalize p.vs.length = n at *
  generalize p.ss.length = m at *
  generalize onesN p.bs = O at *
  go_enter Try.func10, Try.ntmps10
  go_wp2
  generalize w.alloc (.cells C.toArray 26) = w1 at *
  go_loopw [3, 4] (fun v i wr => ∃ k : Nat, k ≤ 256 ∧ i = .int .i64 k ∧ v = .int .i64 (cntP p.bs k) ∧ BK w wr [(w.heap.size, C, 26)]) (fun _ i _ => 256 - (intOf i).toNat)
  case atStart => exact ⟨0, by omega, rfl, by rw [c0.out], d0⟩
  case round =>
    clear d0 c0
    obtain ⟨k, hk, rfl, rfl, d1⟩ := hrel
    have r1 := d1.row (.head _)
    by_cases hlt : k < 256
    · have i1 : (k : Int) < 256 := by omega
      have st := hid (ST.out k)
      have bd := BD.out k
      have b1 : cntP p.bs k ≤ 256 := by omega
      have b0 : 0 ≤ cntP p.bs k := by omega
      have KB1 := hid (fun w1 => KB.out w1 k hlt)
      clear bd
      rcases B1.out k with hb | hb
      · rw [hb] at st KB1
        rw [show decide ((0 : Int) = 1) = false from rfl] at KB1
        generalize cntP p.bs k = X at *
        clear hb
        go_wp2_with (first | refine wpList_load_row_w (by rfl) 26 _ (by rfl) _ (by rfl) 26 _ _ _ r1 Try.underlying26 rfl LS.out ?_)
        refine (KB1.out _).mono ?_
        rintro e w2 ⟨rfl, hb2⟩
        have d2 := d1.call hb2
        clear r1 d1
        go_wp2
        go_roundw
        case rel => exact ⟨k + 1, by omega, by go_num, (by rw [st.out] <;> go_num), d2⟩
        case measure => simp [intOf]; omega
      · rw [hb] at st KB1
        rw [show decide ((1 : Int) = 1) = true from rfl] at KB1
        generalize cntP p.bs k = X at *
        clear hb
        go_wp2_with (first | refine wpList_load_row_w (by rfl) 26 _ (by rfl) _ (by rfl) 26 _ _ _ r1 Try.underlying26 rfl LS.out ?_)
        refine (KB1.out _).mono ?_
        rintro e w2 ⟨rfl, hb2⟩
        have d2 := d1.call hb2
        clear r1 d1
        go_wp2
        go_roundw
        case rel => exact ⟨k + 1, by omega, by go_num, (by rw [st.out] <;> go_num), d2⟩
        case measure => simp [intOf]; omega
    · obtain rfl : k = 256 := by omega
      have e0 := d1.cell (.head _) k0.out
      have e1 := d1.cell (.head _) k1.out
      have e34 := d1.cell (.head _) k34.out
      rw [hf] at e0
      rw [HO.out] at *
      go_wp2
      go_ret
      exact ⟨rfl, d1.1⟩
theorem well_any (w : World) (p : Pf) (ok : PfOk p) (y : PfY p) (s1 s2 : Option Addr) (c1 c2 : Nat) (hv : p.vs.length ≤ 9223372036854775807) (hs : p.ss.length ≤ 9223372036854775807) :
    Calls Try.prog 10 #[.agg (pfC p (.slice s1 p.vs.length c1) (.slice s2 p.ss.length c2)).toArray] w fun e w' => e = .returned (.bool (decide (WellP p))) ∧ Below w.heap.size w w' := by
  have hd : ((p.ss.length : Int) == (onesN p.bs : Int)) = decide (p.ss.length = onesN p.bs) := by rw [Bool.eq_iff_iff, decide_eq_true_iff, beq_iff_eq]; omega
  cases hf : p.f with
  | true =>
    by_cases hc : p.vs.length ≤ 128
    · have := well_t w p ok y s1 s2 c1 c2 hv hs hf hc
      rwa [hd, show decide (p.ss.length = onesN p.bs) = decide (WellP p) by rw [decide_eq_decide]; exact ⟨fun h => ⟨(fun e => by rw [hf] at e; cases e), hc, h⟩, fun h => h.num⟩] at this
    · have := well_tn w p ok y s1 s2 c1 c2 hv hs hf (by omega)
      rwa [show false = decide (WellP p) by rw [eq_comm, decide_eq_false_iff_not]; exact fun h => hc h.len] at this
  | false =>
    by_cases hc : p.vs.length = 0
    · have := well_f w p ok y s1 s2 c1 c2 hv hs hf hc
      rwa [hd, show decide (p.ss.length = onesN p.bs) = decide (WellP p) by rw [decide_eq_decide]; exact ⟨fun h => ⟨fun _ => List.eq_nil_of_length_eq_zero hc, by omega, h⟩, fun h => h.num⟩] at this
    · have := well_fn w p ok y s1 s2 c1 c2 hv hs hf (by omega)
      rwa [show false = decide (WellP p) by rw [eq_comm, decide_eq_false_iff_not]; exact fun h => hc (by rw [h.emp hf]; rfl)] at this
end Go.Proofs.Ytlhmhpkgdcdjkaa
