import Derived.Test.YthhchbeaefcljaaE4i
namespace Go.Proofs.Ythhchbeaefcljaa
set_option linter.unusedVariables false
set_option linter.unusedSimpArgs false
open Go.RowKit
attribute [local go_sem ↓] Go.wp_at_zero Go.wp_at_succ

theorem and1_u32 (x : Nat) (hx : x < 4294967296) : bits .and .u32 ((x : Nat) : Int) 1 = ((x % 2 : Nat) : Int) := by
  have h1 : (BitVec.ofInt 32 (x : Int)).toNat = x := by
    rw [BitVec.ofInt_natCast, BitVec.toNat_ofNat]; exact Nat.mod_eq_of_lt (by omega)
  have h2 : (BitVec.ofInt 32 (1 : Int)).toNat = 1 := by decide
  show IntKind.u32.wrap ((BitVec.ofInt 32 (x : Int) &&& BitVec.ofInt 32 (1 : Int)).toNat : Int) = _
  rw [BitVec.toNat_and, h1, h2, IntKind.wrap_u32, Nat.and_one_is_mod]
  omega
theorem bit_u32 (f j : Nat) (hf : f < 4294967296) : (bits .and .u32 ((f : Int) / 2 ^ j) 1 == 1) = f.testBit j := by
  have e : ((f : Int) / 2 ^ j) = ((f / 2 ^ j : Nat) : Int) := by push_cast; rfl
  rw [e, and1_u32 _ (Nat.lt_of_le_of_lt (Nat.div_le_self _ _) hf), ← Nat.toNat_testBit]
  cases f.testBit j <;> rfl
theorem shl8 : ∀ k, k < 8 → IntKind.u8.wrap (2 ^ k) = ((2 ^ k : Nat) : Int) := by decide +kernel
/-- Bits of a page turned. -/
def flipTo (img : List Int) (q bit pat : Nat) : Nat → List Int
  | 0 => img
  | i + 1 => if pat.testBit i then (flipTo img q bit pat i).set (q * 256 + (bit + i) / 8) (bits .xor .u8 ((flipTo img q bit pat i).getD (q * 256 + (bit + i) / 8) 0) ((2 ^ ((bit + i) % 8) : Nat) : Int)) else flipTo img q bit pat i
theorem flipTo_len (img : List Int) (q bit pat : Nat) : ∀ i, (flipTo img q bit pat i).length = img.length
  | 0 => rfl
  | i + 1 => by
    unfold flipTo
    split
    · rw [List.length_set]; exact flipTo_len img q bit pat i
    · exact flipTo_len img q bit pat i
theorem DK.setByte {w : World} {base : Nat} {P : DP} {D : DS} (h : DK w base P D) (j : Nat) (x : Int) (hj : j < D.img.length) : DK (w.setCell ⟨P.g, j, none⟩ (.int .u8 x)) base P { D with img := D.img.set j x } := by
  have hne : ∀ i, i ≠ P.g → (w.setCell ⟨P.g, j, none⟩ (.int .u8 x)).heap[i]? = w.heap[i]? := fun i hi => heap_setCell_other w _ i _ hi
  refine ⟨?_, ?_, by show (D.img.set j x).length ≤ _; rw [List.length_set]; exact h.gl, h.gm, ?_, ownsMap_heap h.mp (hne _ h.gm'.symm), h.new, h.bp, h.bg, h.bm⟩
  · rw [hne _ h.pg, h.cell]
    simp [dcells]
  · rw [heap_setCell_same _ _ _ _ _ _ h.im]
    congr 2
    rw [List.setIfInBounds_toArray, List.set_append_left _ _ (by rw [ints_len]; exact hj)]
    simp [ints, List.map_set]
  · exact ownsRow_heap h.opn fun i e => hne i (fun q => h.go (q ▸ e))
set_option maxRecDepth 100000 in
set_option maxHeartbeats 1000000 in
theorem Flip_a (w : World) (base : Nat) (P : DP) (D : DS) (h : DK w base P D) (n : Nat) (hn : D.img.length = 256 * n) (h4 : n ≤ 4096) (q : Nat) (hq : q < n) (bit : Nat) (hb : bit < 2048) (pat : Nat) (hp : pat < 4294967296) (hlim : bit ≤ 2016) :
    Calls Try.prog 19 #[.pointer (some ⟨P.p, 0, none⟩), .int .i64 q, .int .i64 bit, .int .u32 pat] w fun e w' => e = .returned (.int .i64 0) ∧ DK w' base P { D with img := flipTo D.img q bit pat (min 32 (2048 - bit)) } ∧ Fr P.fp w w' := by
  have HP := hid (has_in w base P D h n hn h4 q)
  have HE := hid (show decide (0 ≤ (q : Int) ∧ (q : Int) < n) = true from decide_eq_true ⟨by omega, by omega⟩)
  have HBY := hid (bytesOf_in _ base _ _ h n hn h4 q hq)
  have hgc : P.gc ≤ 9223372036854775807 := by have := h.gm; unfold maxLen at this; omega
  have hgl : 256 * n ≤ P.gc := by have := h.gl; omega
  have i0 : (bit : Int) < 2048 := by omega
  have HM := hid (show min 32 (2048 - bit) = 32 by omega)
  rw [HM.out]
  have il : (32 : Int) ≤ 2048 - (bit : Int) := by omega
  have HL := hid hn
  have h0 : DK w base P { D with img := flipTo D.img q bit pat 0 } := h
  clear h hn
  obtain ⟨p, g, m, gc, ov, rs, M⟩ := P
  simp only at *
  go_enter Try.func19, Try.ntmps19
  go_wp2_with (first
    | (go_at_call 43; refine HP.out.mono ?_; rintro e w1 ⟨rfl, rfl⟩; rw [HE.out])
    | (go_at_call 44; refine HBY.out.mono ?_; rintro e w1 ⟨rfl, rfl⟩))
  clear HP HE HBY
  go_loopw [28] (fun iv wr => ∃ i : Nat, i ≤ 32 ∧ iv = .int .i64 i ∧ DK wr base ⟨p, g, m, gc, ov, rs, M⟩ { D with img := flipTo D.img q bit pat i } ∧ Fr (DP.mk p g m gc ov rs M).fp w wr) (fun iv _ => 32 - (intOf iv).toNat)
  case atStart => exact ⟨0, by omega, rfl, h0, Fr.refl _ _⟩
  case round =>
    clear h0
    obtain ⟨i, hi, rfl, hD, hF⟩ := hrel
    by_cases hlt : i < 32
    · have i1 : (i : Int) < 32 := by omega
      have i3 : (bit : Int) + (i : Int) < 2048 := by omega
      have hbb := bit_u32 pat i hp
      have hll := (flipTo_len D.img q bit pat i).trans HL.out
      cases hc : pat.testBit i with
      | false =>
        rw [hc] at hbb
        have HT := hid (show flipTo D.img q bit pat (i + 1) = flipTo D.img q bit pat i by rw [flipTo, hc]; rfl)
        clear hc
        go_wp2
        go_roundw
        case rel => exact ⟨i + 1, by omega, by go_num, by rw [HT.out]; exact hD, hF⟩
        case measure => simp [intOf]; omega
      | true =>
        rw [hc] at hbb
        obtain ⟨d, hd⟩ : ∃ d, d = (bit + i) / 8 := ⟨_, rfl⟩
        obtain ⟨r, hr⟩ : ∃ r, r = (bit + i) % 8 := ⟨_, rfl⟩
        obtain ⟨y, hy⟩ : ∃ y : Int, y = ((2 ^ r : Nat) : Int) := ⟨_, rfl⟩
        obtain ⟨x, hx⟩ : ∃ x, x = (flipTo D.img q bit pat i).getD (q * 256 + d) 0 := ⟨_, rfl⟩
        have hTe : flipTo D.img q bit pat (i + 1) = (flipTo D.img q bit pat i).set (q * 256 + d) (bits .xor .u8 x y) := by rw [flipTo, hc, hx, hy, hr, hd]; rfl
        have hat : q * 256 + d < (flipTo D.img q bit pat i).length := by rw [hll]; omega
        have cx : wr.cell? ⟨g, q * 256 + d, none⟩ = some (.int .u8 x) := by
          rw [cell_of_row _ _ _ _ _ _ hD.im, List.getElem?_toArray, List.getElem?_append_left (by rw [ints_len]; exact hat), ints_get _ _ _ hat, hx]
        have fx : wr.frozen? ⟨g, q * 256 + d, none⟩ = false := frozen_of_row _ _ _ _ _ hD.im
        have KDK := hid (show DK (wr.setCell ⟨g, q * 256 + d, none⟩ (.int .u8 (bits .xor .u8 x y))).drew base ⟨p, g, m, gc, ov, rs, M⟩ { D with img := flipTo D.img q bit pat (i + 1) } by rw [hTe]; exact (hD.setByte _ _ hat).drew)
        have KFR := hid ((hF.setCell hD.hg (q * 256 + d) (.int .u8 (bits .xor .u8 x y))).drew)
        have r8 : r < 8 := by omega
        have SV := hid (show IntKind.u8.wrap (2 ^ r) = y by rw [hy]; exact shl8 r r8)
        have DV2 := hid (show ((bit : Int) + (i : Int)) / 8 = (d : Int) by omega)
        have DV := hid (show IntKind.i64.wrap (((bit : Int) + (i : Int)) / 8) = (d : Int) by rw [wrap_i64_id _ (by omega) (by omega)]; exact DV2.out)
        have RV := hid (show ((bit : Int) + (i : Int)) % 8 = (r : Int) by omega)
        have RV2 := hid (show IntKind.i64.wrap (((bit : Int) + (i : Int)) % 8) = (r : Int) by rw [wrap_i64_id _ (by omega) (by omega)]; exact RV.out)
        have j8 : (d : Int) < 256 := by omega
        have r8' : (r : Int) < 8 := by omega
        clear hc hD hF hTe hll hx hat hd hr hy
        go_wp2
        refine wp_region_noPanic ?_
        refine wp_region_held_drew (S := fun _ => True) (by kernel_rfl) trivial (fun hHeld => ?_)
        refine wpAnyH_take (i := 0) (oi := { dst := some 39, op := Op.move (Operand.tmp 9), type := 33, pos := "power.go:68", after := #[], guard := none }) (v := .slice (some ⟨g, q * 256, none⟩) 256 (gc - q * 256)) rfl (by kernel_rfl) (by kernel_rfl) (by kernel_rfl) (fun _ _ _ h => h) (Or.inl ⟨by rfl, by intro w hS; go_simp⟩) hHeld ?_
        try simp only [Act.put, List.setIfInBounds_toArray, List.set_cons_zero, List.set_cons_succ]
        refine wpAnyH_take (i := 1) (oi := { dst := some 40, op := Op.move (Operand.tmp 11), type := 3, pos := "power.go:68", after := #[], guard := none }) (v := .int .i64 (bit + i)) rfl (by kernel_rfl) (by kernel_rfl) (by kernel_rfl) (fun _ _ _ h => h) (Or.inl ⟨by rfl, by intro w hS; go_simp⟩) hHeld ?_
        try simp only [Act.put, List.setIfInBounds_toArray, List.set_cons_zero, List.set_cons_succ]
        refine wpAnyH_take (i := 5) (oi := { dst := some 44, op := Op.move (Operand.tmp 11), type := 3, pos := "power.go:68", after := #[], guard := none }) (v := .int .i64 (bit + i)) rfl (by kernel_rfl) (by kernel_rfl) (by kernel_rfl) (fun _ _ _ h => h) (Or.inl ⟨by rfl, by intro w hS; go_simp⟩) hHeld ?_
        try simp only [Act.put, List.setIfInBounds_toArray, List.set_cons_zero, List.set_cons_succ]
        refine wpAnyH_take (i := 2) (oi := { dst := some 41, op := Op.binOp BinOp.quo 3 (Operand.tmp 40) (Operand.const (Value.int IntKind.i64 8)) 3, type := 3, pos := "power.go:68", after := #[{ on := 1, ground := Ground.data }], guard := none }) (v := .int .i64 d) rfl (by kernel_rfl) (by kernel_rfl) (by kernel_rfl) (fun _ _ _ h => h) (Or.inl ⟨by rfl, by intro w hS; go_simp; first | exact DV.out | exact DV2.out⟩) hHeld ?_
        try simp only [Act.put, List.setIfInBounds_toArray, List.set_cons_zero, List.set_cons_succ]
        refine wpAnyH_take (i := 6) (oi := { dst := some 45, op := Op.binOp BinOp.rem 3 (Operand.tmp 44) (Operand.const (Value.int IntKind.i64 8)) 3, type := 3, pos := "power.go:68", after := #[{ on := 5, ground := Ground.data }], guard := none }) (v := .int .i64 r) rfl (by kernel_rfl) (by kernel_rfl) (by kernel_rfl) (fun _ _ _ h => h) (Or.inl ⟨by rfl, by intro w hS; go_simp; first | exact RV.out | exact RV2.out⟩) hHeld ?_
        try simp only [Act.put, List.setIfInBounds_toArray, List.set_cons_zero, List.set_cons_succ]
        refine wpAnyH_take (i := 3) (oi := { dst := some 42, op := Op.indexAddr 33 (Operand.tmp 39) (Operand.tmp 41), type := 0, pos := "power.go:68", after := #[{ on := 0, ground := Ground.data }, { on := 2, ground := Ground.data }], guard := none }) (v := .pointer (some ⟨g, q * 256 + d, none⟩)) rfl (by kernel_rfl) (by kernel_rfl) (by kernel_rfl) (fun _ _ _ h => h) (Or.inl ⟨by rfl, by intro w hS; go_simp⟩) hHeld ?_
        try simp only [Act.put, List.setIfInBounds_toArray, List.set_cons_zero, List.set_cons_succ]
        refine wpAnyH_take (i := 7) (oi := { dst := some 46, op := Op.binOp BinOp.shl 5 (Operand.const (Value.int IntKind.u8 1)) (Operand.tmp 45) 3, type := 5, pos := "power.go:68", after := #[{ on := 6, ground := Ground.data }], guard := none }) (v := .int .u8 y) rfl (by kernel_rfl) (by kernel_rfl) (by kernel_rfl) (fun _ _ _ h => h) (Or.inl ⟨by rfl, by intro w hS; go_simp; exact SV.out⟩) hHeld ?_
        try simp only [Act.put, List.setIfInBounds_toArray, List.set_cons_zero, List.set_cons_succ]
        refine wpAnyH_ready (rs := [4]) (by kernel_rfl) (by simp) ?_
        refine (AllReadyH.cons (o := { dst := some 43, op := Op.load 5 (Operand.tmp 42), type := 5, pos := "power.go:68", after := #[{ on := 3, ground := Ground.data }], guard := none }) rfl (fun K hK => ?_) AllReadyH.nil)
        go_simp
        refine hK.out _ _ (trivial) (fun hHeld2 => ?_)
        clear hK K hHeld
        have hHeld := hHeld2
        clear hHeld2
        try simp only [Act.put, List.setIfInBounds_toArray, List.set_cons_zero, List.set_cons_succ]
        refine wpAnyH_take (i := 8) (oi := { dst := some 47, op := Op.binOp BinOp.xor 5 (Operand.tmp 43) (Operand.tmp 46) 5, type := 5, pos := "power.go:68", after := #[{ on := 4, ground := Ground.data }, { on := 7, ground := Ground.data }], guard := none }) (v := .int .u8 (bits .xor .u8 x y)) rfl (by kernel_rfl) (by kernel_rfl) (by kernel_rfl) (fun _ _ _ h => h) (Or.inl ⟨by rfl, by intro w hS; go_simp⟩) hHeld ?_
        try simp only [Act.put, List.setIfInBounds_toArray, List.set_cons_zero, List.set_cons_succ]
        refine wpAnyH_take (i := 9) (oi := { dst := some 48, op := Op.indexAddr 33 (Operand.tmp 39) (Operand.tmp 41), type := 0, pos := "power.go:68", after := #[{ on := 0, ground := Ground.data }, { on := 2, ground := Ground.data }, { on := 0, ground := Ground.phase }, { on := 1, ground := Ground.phase }, { on := 2, ground := Ground.phase }, { on := 3, ground := Ground.phase }, { on := 4, ground := Ground.phase }, { on := 5, ground := Ground.phase }, { on := 6, ground := Ground.phase }, { on := 7, ground := Ground.phase }, { on := 8, ground := Ground.phase }], guard := none }) (v := .pointer (some ⟨g, q * 256 + d, none⟩)) rfl (by kernel_rfl) (by kernel_rfl) (by kernel_rfl) (fun _ _ _ h => h) (Or.inl ⟨by rfl, by intro w hS; go_simp⟩) hHeld ?_
        try simp only [Act.put, List.setIfInBounds_toArray, List.set_cons_zero, List.set_cons_succ]
        refine wpAnyH_ready (rs := [10]) (by kernel_rfl) (by simp) ?_
        refine (AllReadyH.cons (o := { dst := none, op := Op.store 5 (Operand.tmp 48) (Operand.tmp 47), type := 0, pos := "power.go:68", after := #[{ on := 9, ground := Ground.data }, { on := 8, ground := Ground.data }, { on := 0, ground := Ground.phase }, { on := 1, ground := Ground.phase }, { on := 2, ground := Ground.phase }, { on := 3, ground := Ground.phase }, { on := 4, ground := Ground.phase }, { on := 5, ground := Ground.phase }, { on := 6, ground := Ground.phase }, { on := 7, ground := Ground.phase }, { on := 8, ground := Ground.phase }], guard := none }) rfl (fun K hK => ?_) AllReadyH.nil)
        go_simp
        refine hK.out _ _ (trivial) (fun hHeld2 => ?_)
        clear hK K hHeld
        have hHeld := hHeld2
        clear hHeld2
        try simp only [Act.put, List.setIfInBounds_toArray, List.set_cons_zero, List.set_cons_succ]
        refine wpAnyH_done (by kernel_rfl) ?_ _
        refine NoPanic.normal ?_
        clear hHeld
        go_wp2
        go_roundw
        case rel => exact ⟨i + 1, by omega, by go_num, KDK.out, KFR.out⟩
        case measure => simp [intOf]; omega
    · obtain rfl : i = 32 := by omega
      clear hlt
      go_wp2
      go_ret
      exact ⟨rfl, hD, hF⟩
set_option maxRecDepth 100000 in
set_option maxHeartbeats 1000000 in
theorem Flip_b (w : World) (base : Nat) (P : DP) (D : DS) (h : DK w base P D) (n : Nat) (hn : D.img.length = 256 * n) (h4 : n ≤ 4096) (q : Nat) (hq : q < n) (bit : Nat) (hb : bit < 2048) (pat : Nat) (hp : pat < 4294967296) (hlim : 2016 < bit) :
    Calls Try.prog 19 #[.pointer (some ⟨P.p, 0, none⟩), .int .i64 q, .int .i64 bit, .int .u32 pat] w fun e w' => e = .returned (.int .i64 0) ∧ DK w' base P { D with img := flipTo D.img q bit pat (min 32 (2048 - bit)) } ∧ Fr P.fp w w' := by
  have HP := hid (has_in w base P D h n hn h4 q)
  have HE := hid (show decide (0 ≤ (q : Int) ∧ (q : Int) < n) = true from decide_eq_true ⟨by omega, by omega⟩)
  have HBY := hid (bytesOf_in _ base _ _ h n hn h4 q hq)
  have hgc : P.gc ≤ 9223372036854775807 := by have := h.gm; unfold maxLen at this; omega
  have hgl : 256 * n ≤ P.gc := by have := h.gl; omega
  have i0 : (bit : Int) < 2048 := by omega
  have HM := hid (show min 32 (2048 - bit) = 2048 - bit by omega)
  rw [HM.out]
  have il : 2048 - (bit : Int) < 32 := by omega
  have HL := hid hn
  have h0 : DK w base P { D with img := flipTo D.img q bit pat 0 } := h
  clear h hn
  obtain ⟨p, g, m, gc, ov, rs, M⟩ := P
  simp only at *
  go_enter Try.func19, Try.ntmps19
  go_wp2_with (first
    | (go_at_call 43; refine HP.out.mono ?_; rintro e w1 ⟨rfl, rfl⟩; rw [HE.out])
    | (go_at_call 44; refine HBY.out.mono ?_; rintro e w1 ⟨rfl, rfl⟩))
  clear HP HE HBY
  go_loopw [28] (fun iv wr => ∃ i : Nat, i ≤ 2048 - bit ∧ iv = .int .i64 i ∧ DK wr base ⟨p, g, m, gc, ov, rs, M⟩ { D with img := flipTo D.img q bit pat i } ∧ Fr (DP.mk p g m gc ov rs M).fp w wr) (fun iv _ => 2048 - bit - (intOf iv).toNat)
  case atStart => exact ⟨0, by omega, rfl, h0, Fr.refl _ _⟩
  case round =>
    clear h0
    obtain ⟨i, hi, rfl, hD, hF⟩ := hrel
    by_cases hlt : i < 2048 - bit
    · have i1 : (i : Int) < 2048 - (bit : Int) := by omega
      have i3 : (bit : Int) + (i : Int) < 2048 := by omega
      have hbb := bit_u32 pat i hp
      have hll := (flipTo_len D.img q bit pat i).trans HL.out
      cases hc : pat.testBit i with
      | false =>
        rw [hc] at hbb
        have HT := hid (show flipTo D.img q bit pat (i + 1) = flipTo D.img q bit pat i by rw [flipTo, hc]; rfl)
        clear hc
        go_wp2
        go_roundw
        case rel => exact ⟨i + 1, by omega, by go_num, by rw [HT.out]; exact hD, hF⟩
        case measure => simp [intOf]; omega
      | true =>
        rw [hc] at hbb
        obtain ⟨d, hd⟩ : ∃ d, d = (bit + i) / 8 := ⟨_, rfl⟩
        obtain ⟨r, hr⟩ : ∃ r, r = (bit + i) % 8 := ⟨_, rfl⟩
        obtain ⟨y, hy⟩ : ∃ y : Int, y = ((2 ^ r : Nat) : Int) := ⟨_, rfl⟩
        obtain ⟨x, hx⟩ : ∃ x, x = (flipTo D.img q bit pat i).getD (q * 256 + d) 0 := ⟨_, rfl⟩
        have hTe : flipTo D.img q bit pat (i + 1) = (flipTo D.img q bit pat i).set (q * 256 + d) (bits .xor .u8 x y) := by rw [flipTo, hc, hx, hy, hr, hd]; rfl
        have hat : q * 256 + d < (flipTo D.img q bit pat i).length := by rw [hll]; omega
        have cx : wr.cell? ⟨g, q * 256 + d, none⟩ = some (.int .u8 x) := by
          rw [cell_of_row _ _ _ _ _ _ hD.im, List.getElem?_toArray, List.getElem?_append_left (by rw [ints_len]; exact hat), ints_get _ _ _ hat, hx]
        have fx : wr.frozen? ⟨g, q * 256 + d, none⟩ = false := frozen_of_row _ _ _ _ _ hD.im
        have KDK := hid (show DK (wr.setCell ⟨g, q * 256 + d, none⟩ (.int .u8 (bits .xor .u8 x y))).drew base ⟨p, g, m, gc, ov, rs, M⟩ { D with img := flipTo D.img q bit pat (i + 1) } by rw [hTe]; exact (hD.setByte _ _ hat).drew)
        have KFR := hid ((hF.setCell hD.hg (q * 256 + d) (.int .u8 (bits .xor .u8 x y))).drew)
        have r8 : r < 8 := by omega
        have SV := hid (show IntKind.u8.wrap (2 ^ r) = y by rw [hy]; exact shl8 r r8)
        have DV2 := hid (show ((bit : Int) + (i : Int)) / 8 = (d : Int) by omega)
        have DV := hid (show IntKind.i64.wrap (((bit : Int) + (i : Int)) / 8) = (d : Int) by rw [wrap_i64_id _ (by omega) (by omega)]; exact DV2.out)
        have RV := hid (show ((bit : Int) + (i : Int)) % 8 = (r : Int) by omega)
        have RV2 := hid (show IntKind.i64.wrap (((bit : Int) + (i : Int)) % 8) = (r : Int) by rw [wrap_i64_id _ (by omega) (by omega)]; exact RV.out)
        have j8 : (d : Int) < 256 := by omega
        have r8' : (r : Int) < 8 := by omega
        clear hc hD hF hTe hll hx hat hd hr hy
        go_wp2
        refine wp_region_noPanic ?_
        refine wp_region_held_drew (S := fun _ => True) (by kernel_rfl) trivial (fun hHeld => ?_)
        refine wpAnyH_take (i := 0) (oi := { dst := some 39, op := Op.move (Operand.tmp 9), type := 33, pos := "power.go:68", after := #[], guard := none }) (v := .slice (some ⟨g, q * 256, none⟩) 256 (gc - q * 256)) rfl (by kernel_rfl) (by kernel_rfl) (by kernel_rfl) (fun _ _ _ h => h) (Or.inl ⟨by rfl, by intro w hS; go_simp⟩) hHeld ?_
        try simp only [Act.put, List.setIfInBounds_toArray, List.set_cons_zero, List.set_cons_succ]
        refine wpAnyH_take (i := 1) (oi := { dst := some 40, op := Op.move (Operand.tmp 11), type := 3, pos := "power.go:68", after := #[], guard := none }) (v := .int .i64 (bit + i)) rfl (by kernel_rfl) (by kernel_rfl) (by kernel_rfl) (fun _ _ _ h => h) (Or.inl ⟨by rfl, by intro w hS; go_simp⟩) hHeld ?_
        try simp only [Act.put, List.setIfInBounds_toArray, List.set_cons_zero, List.set_cons_succ]
        refine wpAnyH_take (i := 5) (oi := { dst := some 44, op := Op.move (Operand.tmp 11), type := 3, pos := "power.go:68", after := #[], guard := none }) (v := .int .i64 (bit + i)) rfl (by kernel_rfl) (by kernel_rfl) (by kernel_rfl) (fun _ _ _ h => h) (Or.inl ⟨by rfl, by intro w hS; go_simp⟩) hHeld ?_
        try simp only [Act.put, List.setIfInBounds_toArray, List.set_cons_zero, List.set_cons_succ]
        refine wpAnyH_take (i := 2) (oi := { dst := some 41, op := Op.binOp BinOp.quo 3 (Operand.tmp 40) (Operand.const (Value.int IntKind.i64 8)) 3, type := 3, pos := "power.go:68", after := #[{ on := 1, ground := Ground.data }], guard := none }) (v := .int .i64 d) rfl (by kernel_rfl) (by kernel_rfl) (by kernel_rfl) (fun _ _ _ h => h) (Or.inl ⟨by rfl, by intro w hS; go_simp; first | exact DV.out | exact DV2.out⟩) hHeld ?_
        try simp only [Act.put, List.setIfInBounds_toArray, List.set_cons_zero, List.set_cons_succ]
        refine wpAnyH_take (i := 6) (oi := { dst := some 45, op := Op.binOp BinOp.rem 3 (Operand.tmp 44) (Operand.const (Value.int IntKind.i64 8)) 3, type := 3, pos := "power.go:68", after := #[{ on := 5, ground := Ground.data }], guard := none }) (v := .int .i64 r) rfl (by kernel_rfl) (by kernel_rfl) (by kernel_rfl) (fun _ _ _ h => h) (Or.inl ⟨by rfl, by intro w hS; go_simp; first | exact RV.out | exact RV2.out⟩) hHeld ?_
        try simp only [Act.put, List.setIfInBounds_toArray, List.set_cons_zero, List.set_cons_succ]
        refine wpAnyH_take (i := 3) (oi := { dst := some 42, op := Op.indexAddr 33 (Operand.tmp 39) (Operand.tmp 41), type := 0, pos := "power.go:68", after := #[{ on := 0, ground := Ground.data }, { on := 2, ground := Ground.data }], guard := none }) (v := .pointer (some ⟨g, q * 256 + d, none⟩)) rfl (by kernel_rfl) (by kernel_rfl) (by kernel_rfl) (fun _ _ _ h => h) (Or.inl ⟨by rfl, by intro w hS; go_simp⟩) hHeld ?_
        try simp only [Act.put, List.setIfInBounds_toArray, List.set_cons_zero, List.set_cons_succ]
        refine wpAnyH_take (i := 7) (oi := { dst := some 46, op := Op.binOp BinOp.shl 5 (Operand.const (Value.int IntKind.u8 1)) (Operand.tmp 45) 3, type := 5, pos := "power.go:68", after := #[{ on := 6, ground := Ground.data }], guard := none }) (v := .int .u8 y) rfl (by kernel_rfl) (by kernel_rfl) (by kernel_rfl) (fun _ _ _ h => h) (Or.inl ⟨by rfl, by intro w hS; go_simp; exact SV.out⟩) hHeld ?_
        try simp only [Act.put, List.setIfInBounds_toArray, List.set_cons_zero, List.set_cons_succ]
        refine wpAnyH_ready (rs := [4]) (by kernel_rfl) (by simp) ?_
        refine (AllReadyH.cons (o := { dst := some 43, op := Op.load 5 (Operand.tmp 42), type := 5, pos := "power.go:68", after := #[{ on := 3, ground := Ground.data }], guard := none }) rfl (fun K hK => ?_) AllReadyH.nil)
        go_simp
        refine hK.out _ _ (trivial) (fun hHeld2 => ?_)
        clear hK K hHeld
        have hHeld := hHeld2
        clear hHeld2
        try simp only [Act.put, List.setIfInBounds_toArray, List.set_cons_zero, List.set_cons_succ]
        refine wpAnyH_take (i := 8) (oi := { dst := some 47, op := Op.binOp BinOp.xor 5 (Operand.tmp 43) (Operand.tmp 46) 5, type := 5, pos := "power.go:68", after := #[{ on := 4, ground := Ground.data }, { on := 7, ground := Ground.data }], guard := none }) (v := .int .u8 (bits .xor .u8 x y)) rfl (by kernel_rfl) (by kernel_rfl) (by kernel_rfl) (fun _ _ _ h => h) (Or.inl ⟨by rfl, by intro w hS; go_simp⟩) hHeld ?_
        try simp only [Act.put, List.setIfInBounds_toArray, List.set_cons_zero, List.set_cons_succ]
        refine wpAnyH_take (i := 9) (oi := { dst := some 48, op := Op.indexAddr 33 (Operand.tmp 39) (Operand.tmp 41), type := 0, pos := "power.go:68", after := #[{ on := 0, ground := Ground.data }, { on := 2, ground := Ground.data }, { on := 0, ground := Ground.phase }, { on := 1, ground := Ground.phase }, { on := 2, ground := Ground.phase }, { on := 3, ground := Ground.phase }, { on := 4, ground := Ground.phase }, { on := 5, ground := Ground.phase }, { on := 6, ground := Ground.phase }, { on := 7, ground := Ground.phase }, { on := 8, ground := Ground.phase }], guard := none }) (v := .pointer (some ⟨g, q * 256 + d, none⟩)) rfl (by kernel_rfl) (by kernel_rfl) (by kernel_rfl) (fun _ _ _ h => h) (Or.inl ⟨by rfl, by intro w hS; go_simp⟩) hHeld ?_
        try simp only [Act.put, List.setIfInBounds_toArray, List.set_cons_zero, List.set_cons_succ]
        refine wpAnyH_ready (rs := [10]) (by kernel_rfl) (by simp) ?_
        refine (AllReadyH.cons (o := { dst := none, op := Op.store 5 (Operand.tmp 48) (Operand.tmp 47), type := 0, pos := "power.go:68", after := #[{ on := 9, ground := Ground.data }, { on := 8, ground := Ground.data }, { on := 0, ground := Ground.phase }, { on := 1, ground := Ground.phase }, { on := 2, ground := Ground.phase }, { on := 3, ground := Ground.phase }, { on := 4, ground := Ground.phase }, { on := 5, ground := Ground.phase }, { on := 6, ground := Ground.phase }, { on := 7, ground := Ground.phase }, { on := 8, ground := Ground.phase }], guard := none }) rfl (fun K hK => ?_) AllReadyH.nil)
        go_simp
        refine hK.out _ _ (trivial) (fun hHeld2 => ?_)
        clear hK K hHeld
        have hHeld := hHeld2
        clear hHeld2
        try simp only [Act.put, List.setIfInBounds_toArray, List.set_cons_zero, List.set_cons_succ]
        refine wpAnyH_done (by kernel_rfl) ?_ _
        refine NoPanic.normal ?_
        clear hHeld
        go_wp2
        go_roundw
        case rel => exact ⟨i + 1, by omega, by go_num, KDK.out, KFR.out⟩
        case measure => simp [intOf]; omega
    · obtain rfl : i = 2048 - bit := by omega
      clear hlt
      go_wp2
      go_ret
      exact ⟨rfl, hD, hF⟩
set_option maxHeartbeats 400000 in
theorem Flip_page (w : World) (base : Nat) (P : DP) (D : DS) (h : DK w base P D) (n : Nat) (hn : D.img.length = 256 * n) (h4 : n ≤ 4096) (q : Int) (hq : q < 0 ∨ (n : Int) ≤ q) (bit : Int) (v : Value) :
    Calls Try.prog 19 #[.pointer (some ⟨P.p, 0, none⟩), .int .i64 q, .int .i64 bit, v] w fun e w' => e = .returned (.int .i64 41) ∧ w = w' := by
  have HP := hid (has_in w base P D h n hn h4 q)
  have HE := hid (show decide (0 ≤ q ∧ q < (n : Int)) = false from decide_eq_false (fun e => by omega))
  clear h hn hq
  go_enter Try.func19, Try.ntmps19
  go_wp2_with (go_at_call 43; refine HP.out.mono ?_; rintro e w0 ⟨rfl, rfl⟩; rw [HE.out])
  go_ret
  exact ⟨rfl, rfl⟩
set_option maxHeartbeats 400000 in
theorem Flip_arg (w : World) (base : Nat) (P : DP) (D : DS) (h : DK w base P D) (n : Nat) (hn : D.img.length = 256 * n) (h4 : n ≤ 4096) (q : Int) (hq : 0 ≤ q ∧ q < (n : Int)) (bit : Int) (hb : bit < 0 ∨ 2048 ≤ bit) (v : Value) :
    Calls Try.prog 19 #[.pointer (some ⟨P.p, 0, none⟩), .int .i64 q, .int .i64 bit, v] w fun e w' => e = .returned (.int .i64 1) ∧ w = w' := by
  have HP := hid (has_in w base P D h n hn h4 q)
  have HE := hid (show decide (0 ≤ q ∧ q < (n : Int)) = true from decide_eq_true hq)
  clear h hn hq
  rcases hb with hb | hb
  · go_enter Try.func19, Try.ntmps19
    go_wp2_with (go_at_call 43; refine HP.out.mono ?_; rintro e w0 ⟨rfl, rfl⟩; rw [HE.out])
    go_ret
    exact ⟨rfl, rfl⟩
  · have hb0 : ¬ bit < 0 := by omega
    go_enter Try.func19, Try.ntmps19
    go_wp2_with (go_at_call 43; refine HP.out.mono ?_; rintro e w0 ⟨rfl, rfl⟩; rw [HE.out])
    go_ret
    exact ⟨rfl, rfl⟩
theorem xor_u8 (a b : Nat) (ha : a < 256) (hb : b < 256) : bits .xor .u8 (a : Int) (b : Int) = ((a ^^^ b : Nat) : Int) := by
  have hx : a ^^^ b < 2 ^ 8 := Nat.xor_lt_two_pow (by omega) (by omega)
  have h1 : (BitVec.ofInt 8 (a : Int)).toNat = a := by
    rw [BitVec.ofInt_natCast, BitVec.toNat_ofNat]; exact Nat.mod_eq_of_lt (by omega)
  have h2 : (BitVec.ofInt 8 (b : Int)).toNat = b := by
    rw [BitVec.ofInt_natCast, BitVec.toNat_ofNat]; exact Nat.mod_eq_of_lt (by omega)
  show IntKind.u8.wrap ((BitVec.ofInt 8 (a : Int) ^^^ BitVec.ofInt 8 (b : Int)).toNat : Int) = _
  rw [BitVec.toNat_xor, h1, h2, IntKind.wrap_u8]
  omega
theorem xor_bts {x : Int} (hx : 0 ≤ x ∧ x < 256) (y : Nat) (hy : y < 256) : 0 ≤ bits .xor .u8 x (y : Int) ∧ bits .xor .u8 x (y : Int) < 256 := by
  obtain ⟨a, rfl⟩ := Int.eq_ofNat_of_zero_le hx.1
  rw [xor_u8 a y (by omega) hy]
  have : a ^^^ y < 2 ^ 8 := Nat.xor_lt_two_pow (by omega) (by omega)
  omega
theorem Bts.set {zs : List Int} (h : Bts zs) (j : Nat) {x : Int} (hx : 0 ≤ x ∧ x < 256) : Bts (zs.set j x) := fun y hy => by
  rcases List.mem_or_eq_of_mem_set hy with h1 | rfl
  · exact h y h1
  · exact hx
theorem flipTo_bts {img : List Int} (h : Bts img) (q bit pat : Nat) : ∀ i, Bts (flipTo img q bit pat i)
  | 0 => h
  | i + 1 => by
    have ih := flipTo_bts h q bit pat i
    unfold flipTo
    split
    · refine ih.set _ (xor_bts (ih.get _) _ ?_)
      exact Nat.lt_of_lt_of_le (Nat.pow_lt_pow_right (a := 2) (by decide) (Nat.mod_lt (bit + i) (show 0 < 8 by decide))) (by decide)
    · exact ih
end Go.Proofs.Ythhchbeaefcljaa
