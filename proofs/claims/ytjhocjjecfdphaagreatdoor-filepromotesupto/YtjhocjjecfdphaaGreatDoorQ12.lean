import Derived.Test.YtjhocjjecfdphaaGreatDoorQ11
import Derived.Test.YtjhocjjecfdphaaGreatDoorQ06
namespace Go.Proofs.YtjhocjjecfdphaaGreatDoor
set_option linter.unusedVariables false
set_option linter.unusedSimpArgs false
set_option maxRecDepth 100000
set_option maxHeartbeats 4000000
section
open Go.RowKit
attribute [local go_sem ↓] Go.wp_at_zero Go.wp_at_succ
theorem and1_u32 (x : Nat) (hx : x < 4294967296) : bits .and .u32 ((x : Nat) : Int) 1 = ((x % 2 : Nat) : Int) := by
 have h1 : (BitVec.ofInt 32 (x : Int)).toNat = x := by
   rw [BitVec.ofInt_natCast, BitVec.toNat_ofNat]; exact Nat.mod_eq_of_lt (by omega)
 have h2 : (BitVec.ofInt 32 (1 : Int)).toNat = 1 := by decide
 show IntKind.u32.wrap ((BitVec.ofInt 32 (x : Int) &&& BitVec.ofInt 32 (1 : Int)).toNat : Int) = _
 rw [BitVec.toNat_and, h1, h2, IntKind.wrap_u32, Nat.and_one_is_mod]
 omega
theorem bit_u32 (f j : Nat) (hf : f < 4294967296) : (bits .and .u32 ((f : Int) / 2 ^ j) 1 == 1) = f.testBit j := by
 have e : ((f : Int) / 2 ^ j) = ((f / 2 ^ j : Nat) : Int) := by push_cast; rfl
 rw [e, and1_u32 _ (Nat.lt_of_le_of_lt (Nat.div_le_self _ _) hf), ← Nat.toNat_testBit]
 cases f.testBit j <;> rfl
theorem shl8 : ∀ k, k < 8 → IntKind.u8.wrap (2 ^ k) = ((2 ^ k : Nat) : Int) := by decide +kernel
def flipTo (img : List Int) (q bit pat : Nat) : Nat → List Int
 | 0 => img
 | i + 1 => if pat.testBit i then (flipTo img q bit pat i).set (q * 256 + (bit + i) / 8) (bits .xor .u8 ((flipTo img q bit pat i).getD (q * 256 + (bit + i) / 8) 0) ((2 ^ ((bit + i) % 8) : Nat) : Int)) else flipTo img q bit pat i
theorem flipTo_len (img : List Int) (q bit pat : Nat) : ∀ i, (flipTo img q bit pat i).length = img.length
 | 0 => rfl
 | i + 1 => by
   unfold flipTo
   split
   · rw [List.length_set]; exact flipTo_len img q bit pat i
   · exact flipTo_len img q bit pat i
theorem DK.setByte {w : World} {base : Nat} {P : DP} {D : DS} (h : DK w base P D) (j : Nat) (x : Int) (hj : j < D.img.length) : DK (w.setCell ⟨P.g, j, none⟩ (.int .u8 x)) base P { D with img := D.img.set j x } := by
 have hne : ∀ i, i ≠ P.g → (w.setCell ⟨P.g, j, none⟩ (.int .u8 x)).heap[i]? = w.heap[i]? := fun i hi => heap_setCell_other w _ i _ hi
 refine ⟨?_, ?_, by show (D.img.set j x).length ≤ _; rw [List.length_set]; exact h.gl, h.gm, ?_, ownsMap_heap h.mp (hne _ h.gm'.symm), h.new, h.bp, h.bg, h.bm⟩
 · rw [hne _ h.pg, h.cell]
   simp [dcells]
 · rw [heap_setCell_same _ _ _ _ _ _ h.im]
   congr 2
   rw [List.setIfInBounds_toArray, List.set_append_left _ _ (by rw [ints_len]; exact hj)]
   simp [ints, List.map_set]
 · exact ownsRow_heap h.opn fun i e => hne i (fun q => h.go (q ▸ e))
theorem flpAB : (∀ (w : World) (base : Nat) (P : DP) (D : DS) (h : DK w base P D) (n : Nat) (hn : D.img.length = 256 * n) (h4 : n ≤ 4096) (q : Nat) (hq : q < n) (bit : Nat) (hb : bit < 2048) (pat : Nat) (hp : pat < 4294967296) (hlim : bit ≤ 2016), Calls Tryz.prog 74 #[.pointer (some ⟨P.p, 0, none⟩), .int .i64 q, .int .i64 bit, .int .u32 pat] w fun e w' => e = .returned (.int .i64 0) ∧ DK w' base P { D with img := flipTo D.img q bit pat (min 32 (2048 - bit)) } ∧ Fr P.fp w w') ∧ (∀ (w : World) (base : Nat) (P : DP) (D : DS) (h : DK w base P D) (n : Nat) (hn : D.img.length = 256 * n) (h4 : n ≤ 4096) (q : Nat) (hq : q < n) (bit : Nat) (hb : bit < 2048) (pat : Nat) (hp : pat < 4294967296) (hlim : 2016 < bit), Calls Tryz.prog 74 #[.pointer (some ⟨P.p, 0, none⟩), .int .i64 q, .int .i64 bit, .int .u32 pat] w fun e w' => e = .returned (.int .i64 0) ∧ DK w' base P { D with img := flipTo D.img q bit pat (min 32 (2048 - bit)) } ∧ Fr P.fp w w') := by
 refine ⟨?_, ?_⟩
 all_goals
  intro w base P D h n hn h4 q hq bit hb pat hp hlim
 all_goals
  have HP := hid (has_in w base P D h n hn h4 q)
  have HE := hid (show decide (0 ≤ (q : Int) ∧ (q : Int) < n) = true from decide_eq_true ⟨by omega, by omega⟩)
  have HBY := hid (bytesOf_in _ base _ _ h n hn h4 q hq)
  have hgc : P.gc ≤ 9223372036854775807 := by have := h.gm; unfold maxLen at this; omega
  have hgl : 256 * n ≤ P.gc := by have := h.gl; omega
  have i0 : (bit : Int) < 2048 := by omega
 have HM := hid (show min 32 (2048 - bit) = 32 by omega)
 rotate_left
 have HM := hid (show min 32 (2048 - bit) = 2048 - bit by omega)
 rotate_left
 all_goals
  rw [HM.out]
 have il : (32 : Int) ≤ 2048 - (bit : Int) := by omega
 rotate_left
 have il : 2048 - (bit : Int) < 32 := by omega
 rotate_left
 all_goals
  have HL := hid hn
  have h0 : DK w base P { D with img := flipTo D.img q bit pat 0 } := h
  clear h hn
  obtain ⟨p, g, m, gc, ov, rs, M⟩ := P
  simp only at *
  go_enter Tryz.func74, Tryz.ntmps74
  go_wp2_with (first
    | (go_at_call 102; refine HP.out.mono ?_; rintro e w1 ⟨rfl, rfl⟩; rw [HE.out])
    | (go_at_call 96; refine HBY.out.mono ?_; rintro e w1 ⟨rfl, rfl⟩))
  clear HP HE HBY
 · go_loopw [28] (fun iv wr => ∃ i : Nat, i ≤ 32 ∧ iv = .int .i64 i ∧ DK wr base ⟨p, g, m, gc, ov, rs, M⟩ { D with img := flipTo D.img q bit pat i } ∧ Fr (DP.mk p g m gc ov rs M).fp w wr) (fun iv _ => 32 - (intOf iv).toNat)
   case atStart => exact ⟨0, by omega, rfl, h0, Fr.refl _ _⟩
   case round =>
     clear h0
     obtain ⟨i, hi, rfl, hD, hF⟩ := hrel
     by_cases hlt : i < 32
     · have i1 : (i : Int) < 32 := by omega
       have i3 : (bit : Int) + (i : Int) < 2048 := by omega
       have hbb := bit_u32 pat i hp
       have hll := (flipTo_len D.img q bit pat i).trans HL.out
       cases hc : pat.testBit i with
       | false =>
         rw [hc] at hbb
         have HT := hid (show flipTo D.img q bit pat (i + 1) = flipTo D.img q bit pat i by rw [flipTo, hc]; rfl)
         clear hc
         go_wp2
         go_roundw
         case rel => exact ⟨i + 1, by omega, by go_num, by rw [HT.out]; exact hD, hF⟩
         case measure => simp [intOf]; omega
       | true =>
         rw [hc] at hbb
         obtain ⟨d, hd⟩ : ∃ d, d = (bit + i) / 8 := ⟨_, rfl⟩
         obtain ⟨r, hr⟩ : ∃ r, r = (bit + i) % 8 := ⟨_, rfl⟩
         obtain ⟨y, hy⟩ : ∃ y : Int, y = ((2 ^ r : Nat) : Int) := ⟨_, rfl⟩
         obtain ⟨x, hx⟩ : ∃ x, x = (flipTo D.img q bit pat i).getD (q * 256 + d) 0 := ⟨_, rfl⟩
         have hTe : flipTo D.img q bit pat (i + 1) = (flipTo D.img q bit pat i).set (q * 256 + d) (bits .xor .u8 x y) := by rw [flipTo, hc, hx, hy, hr, hd]; rfl
         have hat : q * 256 + d < (flipTo D.img q bit pat i).length := by rw [hll]; omega
         have cx : wr.cell? ⟨g, q * 256 + d, none⟩ = some (.int .u8 x) := by
           rw [cell_of_row _ _ _ _ _ _ hD.im, List.getElem?_toArray, List.getElem?_append_left (by rw [ints_len]; exact hat), ints_get _ _ _ hat, hx]
         have fx : wr.frozen? ⟨g, q * 256 + d, none⟩ = false := frozen_of_row _ _ _ _ _ hD.im
         have KDK := hid (show DK (wr.setCell ⟨g, q * 256 + d, none⟩ (.int .u8 (bits .xor .u8 x y))).drew base ⟨p, g, m, gc, ov, rs, M⟩ { D with img := flipTo D.img q bit pat (i + 1) } by rw [hTe]; exact (hD.setByte _ _ hat).drew)
         have KFR := hid ((hF.setCell hD.hg (q * 256 + d) (.int .u8 (bits .xor .u8 x y))).drew)
         have r8 : r < 8 := by omega
         have SV := hid (show IntKind.u8.wrap (2 ^ r) = y by rw [hy]; exact shl8 r r8)
         have DV2 := hid (show ((bit : Int) + (i : Int)) / 8 = (d : Int) by omega)
         have DV := hid (show IntKind.i64.wrap (((bit : Int) + (i : Int)) / 8) = (d : Int) by rw [wrap_i64_id _ (by omega) (by omega)]; exact DV2.out)
         have RV := hid (show ((bit : Int) + (i : Int)) % 8 = (r : Int) by omega)
         have RV2 := hid (show IntKind.i64.wrap (((bit : Int) + (i : Int)) % 8) = (r : Int) by rw [wrap_i64_id _ (by omega) (by omega)]; exact RV.out)
         have j8 : (d : Int) < 256 := by omega
         have r8' : (r : Int) < 8 := by omega
         clear hc hD hF hTe hll hx hat hd hr hy
         go_wp2
         refine rgA (fun _ => True) trivial (fun hq0 => ?_)
         refine tkA 0 (.slice (some ⟨g, q * 256, none⟩) 256 (gc - q * 256)) rfl hq0 ?_
         go_frame
         refine tkA 1 (.int .i64 (bit + i)) rfl hq0 ?_
         go_frame
         refine tkA 5 (.int .i64 (bit + i)) rfl hq0 ?_
         go_frame
         refine tqA 2 (.int .i64 d) rfl (yA (by intro w hS; go_simp; first | exact DV.out | exact DV2.out)) hq0 ?_
         go_frame
         refine tqA 6 (.int .i64 r) rfl (yA (by intro w hS; go_simp; first | exact RV.out | exact RV2.out)) hq0 ?_
         go_frame
         refine tkA 3 (.pointer (some ⟨g, q * 256 + d, none⟩)) rfl hq0 ?_
         go_frame
         refine tqA 7 (.int .u8 y) rfl (yA (by intro w hS; go_simp; exact SV.out)) hq0 ?_
         go_frame
         refine rdA 4 rfl (fun K hK => ?_)
         go_simp
         refine hK.out _ _ (trivial) ?_
         clear hK K hq0
         intro hq0
         try go_frame
         refine tkA 8 (.int .u8 (bits .xor .u8 x y)) rfl hq0 ?_
         go_frame
         refine tkA 9 (.pointer (some ⟨g, q * 256 + d, none⟩)) rfl hq0 ?_
         go_frame
         refine rdA 10 rfl (fun K hK => ?_)
         go_simp
         refine hK.out _ _ (trivial) ?_
         clear hK K hq0
         intro hq0
         try go_frame
         refine wdA ?_
         clear hq0
         go_wp2
         go_roundw
         case rel => exact ⟨i + 1, by omega, by go_num, KDK.out, KFR.out⟩
         case measure => simp [intOf]; omega
     · obtain rfl : i = 32 := by omega
       clear hlt
       go_wp2
       go_ret
       exact ⟨rfl, hD, hF⟩
 · go_loopw [28] (fun iv wr => ∃ i : Nat, i ≤ 2048 - bit ∧ iv = .int .i64 i ∧ DK wr base ⟨p, g, m, gc, ov, rs, M⟩ { D with img := flipTo D.img q bit pat i } ∧ Fr (DP.mk p g m gc ov rs M).fp w wr) (fun iv _ => 2048 - bit - (intOf iv).toNat)
   case atStart => exact ⟨0, by omega, rfl, h0, Fr.refl _ _⟩
   case round =>
     clear h0
     obtain ⟨i, hi, rfl, hD, hF⟩ := hrel
     by_cases hlt : i < 2048 - bit
     · have i1 : (i : Int) < 2048 - (bit : Int) := by omega
       have i3 : (bit : Int) + (i : Int) < 2048 := by omega
       have hbb := bit_u32 pat i hp
       have hll := (flipTo_len D.img q bit pat i).trans HL.out
       cases hc : pat.testBit i with
       | false =>
         rw [hc] at hbb
         have HT := hid (show flipTo D.img q bit pat (i + 1) = flipTo D.img q bit pat i by rw [flipTo, hc]; rfl)
         clear hc
         go_wp2
         go_roundw
         case rel => exact ⟨i + 1, by omega, by go_num, by rw [HT.out]; exact hD, hF⟩
         case measure => simp [intOf]; omega
       | true =>
         rw [hc] at hbb
         obtain ⟨d, hd⟩ : ∃ d, d = (bit + i) / 8 := ⟨_, rfl⟩
         obtain ⟨r, hr⟩ : ∃ r, r = (bit + i) % 8 := ⟨_, rfl⟩
         obtain ⟨y, hy⟩ : ∃ y : Int, y = ((2 ^ r : Nat) : Int) := ⟨_, rfl⟩
         obtain ⟨x, hx⟩ : ∃ x, x = (flipTo D.img q bit pat i).getD (q * 256 + d) 0 := ⟨_, rfl⟩
         have hTe : flipTo D.img q bit pat (i + 1) = (flipTo D.img q bit pat i).set (q * 256 + d) (bits .xor .u8 x y) := by rw [flipTo, hc, hx, hy, hr, hd]; rfl
         have hat : q * 256 + d < (flipTo D.img q bit pat i).length := by rw [hll]; omega
         have cx : wr.cell? ⟨g, q * 256 + d, none⟩ = some (.int .u8 x) := by
           rw [cell_of_row _ _ _ _ _ _ hD.im, List.getElem?_toArray, List.getElem?_append_left (by rw [ints_len]; exact hat), ints_get _ _ _ hat, hx]
         have fx : wr.frozen? ⟨g, q * 256 + d, none⟩ = false := frozen_of_row _ _ _ _ _ hD.im
         have KDK := hid (show DK (wr.setCell ⟨g, q * 256 + d, none⟩ (.int .u8 (bits .xor .u8 x y))).drew base ⟨p, g, m, gc, ov, rs, M⟩ { D with img := flipTo D.img q bit pat (i + 1) } by rw [hTe]; exact (hD.setByte _ _ hat).drew)
         have KFR := hid ((hF.setCell hD.hg (q * 256 + d) (.int .u8 (bits .xor .u8 x y))).drew)
         have r8 : r < 8 := by omega
         have SV := hid (show IntKind.u8.wrap (2 ^ r) = y by rw [hy]; exact shl8 r r8)
         have DV2 := hid (show ((bit : Int) + (i : Int)) / 8 = (d : Int) by omega)
         have DV := hid (show IntKind.i64.wrap (((bit : Int) + (i : Int)) / 8) = (d : Int) by rw [wrap_i64_id _ (by omega) (by omega)]; exact DV2.out)
         have RV := hid (show ((bit : Int) + (i : Int)) % 8 = (r : Int) by omega)
         have RV2 := hid (show IntKind.i64.wrap (((bit : Int) + (i : Int)) % 8) = (r : Int) by rw [wrap_i64_id _ (by omega) (by omega)]; exact RV.out)
         have j8 : (d : Int) < 256 := by omega
         have r8' : (r : Int) < 8 := by omega
         clear hc hD hF hTe hll hx hat hd hr hy
         go_wp2
         refine rgA (fun _ => True) trivial (fun hq0 => ?_)
         refine tkA 0 (.slice (some ⟨g, q * 256, none⟩) 256 (gc - q * 256)) rfl hq0 ?_
         go_frame
         refine tkA 1 (.int .i64 (bit + i)) rfl hq0 ?_
         go_frame
         refine tkA 5 (.int .i64 (bit + i)) rfl hq0 ?_
         go_frame
         refine tqA 2 (.int .i64 d) rfl (yA (by intro w hS; go_simp; first | exact DV.out | exact DV2.out)) hq0 ?_
         go_frame
         refine tqA 6 (.int .i64 r) rfl (yA (by intro w hS; go_simp; first | exact RV.out | exact RV2.out)) hq0 ?_
         go_frame
         refine tkA 3 (.pointer (some ⟨g, q * 256 + d, none⟩)) rfl hq0 ?_
         go_frame
         refine tqA 7 (.int .u8 y) rfl (yA (by intro w hS; go_simp; exact SV.out)) hq0 ?_
         go_frame
         refine rdA 4 rfl (fun K hK => ?_)
         go_simp
         refine hK.out _ _ (trivial) ?_
         clear hK K hq0
         intro hq0
         try go_frame
         refine tkA 8 (.int .u8 (bits .xor .u8 x y)) rfl hq0 ?_
         go_frame
         refine tkA 9 (.pointer (some ⟨g, q * 256 + d, none⟩)) rfl hq0 ?_
         go_frame
         refine rdA 10 rfl (fun K hK => ?_)
         go_simp
         refine hK.out _ _ (trivial) ?_
         clear hK K hq0
         intro hq0
         try go_frame
         refine wdA ?_
         clear hq0
         go_wp2
         go_roundw
         case rel => exact ⟨i + 1, by omega, by go_num, KDK.out, KFR.out⟩
         case measure => simp [intOf]; omega
     · obtain rfl : i = 2048 - bit := by omega
       clear hlt
       go_wp2
       go_ret
       exact ⟨rfl, hD, hF⟩
theorem Flip_page (w : World) (base : Nat) (P : DP) (D : DS) (h : DK w base P D) (n : Nat) (hn : D.img.length = 256 * n) (h4 : n ≤ 4096) (q : Int) (hq : q < 0 ∨ (n : Int) ≤ q) (bit : Int) (v : Value) :
   Calls Tryz.prog 74 #[.pointer (some ⟨P.p, 0, none⟩), .int .i64 q, .int .i64 bit, v] w fun e w' => e = .returned (.int .i64 41) ∧ w = w' := by
 have HP := hid (has_in w base P D h n hn h4 q)
 have HE := hid (show decide (0 ≤ q ∧ q < (n : Int)) = false from decide_eq_false (fun e => by omega))
 clear h hn hq
 go_enter Tryz.func74, Tryz.ntmps74
 go_wp2_with (go_at_call 102; refine HP.out.mono ?_; rintro e w0 ⟨rfl, rfl⟩; rw [HE.out])
 go_ret
 exact ⟨rfl, rfl⟩
theorem Flip_arg (w : World) (base : Nat) (P : DP) (D : DS) (h : DK w base P D) (n : Nat) (hn : D.img.length = 256 * n) (h4 : n ≤ 4096) (q : Int) (hq : 0 ≤ q ∧ q < (n : Int)) (bit : Int) (hb : bit < 0 ∨ 2048 ≤ bit) (v : Value) :
   Calls Tryz.prog 74 #[.pointer (some ⟨P.p, 0, none⟩), .int .i64 q, .int .i64 bit, v] w fun e w' => e = .returned (.int .i64 1) ∧ w = w' := by
 have HP := hid (has_in w base P D h n hn h4 q)
 have HE := hid (show decide (0 ≤ q ∧ q < (n : Int)) = true from decide_eq_true hq)
 clear h hn hq
 rcases hb with hb | hb
 · go_enter Tryz.func74, Tryz.ntmps74
   go_wp2_with (go_at_call 102; refine HP.out.mono ?_; rintro e w0 ⟨rfl, rfl⟩; rw [HE.out])
   go_ret
   exact ⟨rfl, rfl⟩
 · have hb0 : ¬ bit < 0 := by omega
   go_enter Tryz.func74, Tryz.ntmps74
   go_wp2_with (go_at_call 102; refine HP.out.mono ?_; rintro e w0 ⟨rfl, rfl⟩; rw [HE.out])
   go_ret
   exact ⟨rfl, rfl⟩
theorem xor_u8 (a b : Nat) (ha : a < 256) (hb : b < 256) : bits .xor .u8 (a : Int) (b : Int) = ((a ^^^ b : Nat) : Int) := by
 have hx : a ^^^ b < 2 ^ 8 := Nat.xor_lt_two_pow (by omega) (by omega)
 have h1 : (BitVec.ofInt 8 (a : Int)).toNat = a := by
   rw [BitVec.ofInt_natCast, BitVec.toNat_ofNat]; exact Nat.mod_eq_of_lt (by omega)
 have h2 : (BitVec.ofInt 8 (b : Int)).toNat = b := by
   rw [BitVec.ofInt_natCast, BitVec.toNat_ofNat]; exact Nat.mod_eq_of_lt (by omega)
 show IntKind.u8.wrap ((BitVec.ofInt 8 (a : Int) ^^^ BitVec.ofInt 8 (b : Int)).toNat : Int) = _
 rw [BitVec.toNat_xor, h1, h2, IntKind.wrap_u8]
 omega
theorem xor_bts {x : Int} (hx : 0 ≤ x ∧ x < 256) (y : Nat) (hy : y < 256) : 0 ≤ bits .xor .u8 x (y : Int) ∧ bits .xor .u8 x (y : Int) < 256 := by
 obtain ⟨a, rfl⟩ := Int.eq_ofNat_of_zero_le hx.1
 rw [xor_u8 a y (by omega) hy]
 have : a ^^^ y < 2 ^ 8 := Nat.xor_lt_two_pow (by omega) (by omega)
 omega
theorem Bts.set {zs : List Int} (h : Bts zs) (j : Nat) {x : Int} (hx : 0 ≤ x ∧ x < 256) : Bts (zs.set j x) := fun y hy => by
 rcases List.mem_or_eq_of_mem_set hy with h1 | rfl
 · exact h y h1
 · exact hx
theorem flipTo_bts {img : List Int} (h : Bts img) (q bit pat : Nat) : ∀ i, Bts (flipTo img q bit pat i)
 | 0 => h
 | i + 1 => by
   have ih := flipTo_bts h q bit pat i
   unfold flipTo
   split
   · refine ih.set _ (xor_bts (ih.get _) _ ?_)
     exact Nat.lt_of_lt_of_le (Nat.pow_lt_pow_right (a := 2) (by decide) (Nat.mod_lt (bit + i) (show 0 < 8 by decide))) (by decide)
   · exact ih

end
section
open Go.RowKit
attribute [local go_sem ↓] Go.wp_at_zero Go.wp_at_succ
open Go.RowKit
attribute [local go_sem ↓] Go.wp_at_zero Go.wp_at_succ
theorem Nx.of_same {w w' : World} {base : Nat} {P : DP} {D : DS} (h : DK w' base P D) (hok : DsOk D) (hF : Fr P.fp w w') : Nx base P.fp P.p w D w' := ⟨P.fp, ⟨P, rfl, rfl, h, hok⟩, hF, Gr.refl _ _⟩
theorem Nx.of_drop {w w' : World} {base : Nat} {P : DP} {D : DS} {M : DataW Unit} (h : DK w' base { P with ov := .slice none 0 0, M := M } D) (hok : DsOk D) (hF : Fr P.fp w w') : Nx base P.fp P.p w D w' := by
 refine ⟨_, ⟨{ P with ov := .slice none 0 0, M := M }, rfl, rfl, h, hok⟩, hF, fun k hk => Or.inl ?_⟩
 rcases (DP.mem _ k).1 hk with e | e | e | e
 · exact (P.mem k).2 (Or.inl e)
 · exact (P.mem k).2 (Or.inr (Or.inl e))
 · exact (P.mem k).2 (Or.inr (Or.inr (Or.inl e)))
 · simp [Value.ownBlock] at e
theorem Pages_any (w : World) (base : Nat) (F : List Nat) (p : Nat) (D : DS) (h : DA w base F p D) :
   Calls Tryz.prog 53 #[.pointer (some ⟨p, 0, none⟩)] w fun e w' => e = .returned (.int .i64 D.np) ∧ w = w' := by
 obtain ⟨P, rfl, rfl, hk, hok⟩ := h
 exact Pages_in w base P D hk D.np hok.np.2.2.1 hok.np.2.1
theorem Power_any (w : World) (base : Nat) (F : List Nat) (p : Nat) (D : DS) (h : DA w base F p D) :
   Calls Tryz.prog 51 #[.pointer (some ⟨p, 0, none⟩)] w fun e w' => e = .returned (.bool D.power) ∧ w = w' := by
 obtain ⟨P, rfl, rfl, hk, hok⟩ := h
 exact Power_in w base P D hk
theorem Epoch_any (w : World) (base : Nat) (F : List Nat) (p : Nat) (D : DS) (h : DA w base F p D) :
   Calls Tryz.prog 68 #[.pointer (some ⟨p, 0, none⟩)] w fun e w' => e = .returned (.int .i64 D.epoch) ∧ w = w' := by
 obtain ⟨P, rfl, rfl, hk, hok⟩ := h
 exact Epoch_in w base P D hk
theorem Counts_any (w : World) (base : Nat) (F : List Nat) (p : Nat) (D : DS) (h : DA w base F p D) :
   Calls Tryz.prog 69 #[.pointer (some ⟨p, 0, none⟩)] w fun e w' => e = .returned (.agg #[.int .i64 D.reads, .int .i64 D.writes, .int .i64 D.syncs, .int .i64 D.ops.length]) ∧ Below w.heap.size w w' := by
 obtain ⟨P, rfl, rfl, hk, hok⟩ := h
 exact Counts_in w base P D hk
theorem Image_any (w : World) (base : Nat) (F : List Nat) (p : Nat) (D : DS) (h : DA w base F p D) :
   Calls Tryz.prog 67 #[.pointer (some ⟨p, 0, none⟩)] w fun e w' => ∃ v, e = .returned v ∧ Own w' w.heap.size v D.img ∧ Below w.heap.size w w' := by
 obtain ⟨P, rfl, rfl, hk, hok⟩ := h
 exact Image_in w base P D hk (by have := hok.np; omega)
theorem arm_ok {D : DS} (h : DsOk D) (n : Int) (hn : n ≤ 9223372036854775807) : DsOk (D.arm n) := by
 unfold DS.arm
 split
 · exact ⟨h.n, h.bts, h.ops, h.reads, h.writes, h.syncs, h.epoch, by show 0 ≤ max n 0 ∧ max n 0 ≤ _; omega⟩
 · exact h
theorem Arm_any (w : World) (base : Nat) (F : List Nat) (p : Nat) (D : DS) (h : DA w base F p D) (n : Int) (hn : n ≤ 9223372036854775807) :
   Calls Tryz.prog 72 #[.pointer (some ⟨p, 0, none⟩), .int .i64 n] w fun e w' => e = .returned (.tuple #[]) ∧ Nx base F p w (D.arm n) w' := by
 obtain ⟨P, rfl, rfl, hk, hok⟩ := h
 refine (Arm_in w base P D hk n).mono ?_
 rintro e w' ⟨rfl, h1, h2⟩
 exact ⟨rfl, Nx.of_same h1 (arm_ok hok n hn) h2⟩
theorem Read_any (w : World) (base : Nat) (F : List Nat) (p : Nat) (D : DS) (h : DA w base F p D) (hpw : D.power = true) (q : Nat) (hq : q < D.np) (hr : D.reads < 4000000000000000000) :
   Calls Tryz.prog 75 #[.pointer (some ⟨p, 0, none⟩), .int .i64 q] w fun e w' => ∃ v, e = .returned (.tuple #[v, .int .i64 0]) ∧ Own w' w.heap.size v (D.readOf q) ∧ Nx base F p w { D with reads := D.reads + 1 } w' := by
 obtain ⟨P, rfl, rfl, hk, hok⟩ := h
 refine (Read_in w base P D hk hok hpw q hq hr).mono ?_
 rintro e w' ⟨v, rfl, h1, h2, h3⟩
 exact ⟨v, rfl, h1, Nx.of_same h2 ⟨hok.n, hok.bts, hok.ops, by show 0 ≤ D.reads + 1 ∧ D.reads + 1 ≤ _; have := hok.reads; omega, hok.writes, hok.syncs, hok.epoch, hok.armed⟩ h3⟩
theorem Read_off (w : World) (base : Nat) (F : List Nat) (p : Nat) (D : DS) (h : DA w base F p D) (hpw : D.power = false) (q : Int) :
   Calls Tryz.prog 75 #[.pointer (some ⟨p, 0, none⟩), .int .i64 q] w fun e w' => e = .returned (.tuple #[.slice none 0 0, .int .i64 2]) ∧ w = w' := by
 obtain ⟨P, rfl, rfl, hk, hok⟩ := h
 exact Read_down w base P D hk hpw q
def DS.synced (D : DS) : DS := { D.acted with img := layTo D.img D.ops D.ops.length, ops := [], syncs := D.syncs + 1 }
theorem synced_ok {D : DS} (hok : DsOk D) (hsy : D.syncs < 4000000000000000000) : DsOk D.synced := by
 obtain ⟨h3, h4, hn, hop⟩ := hok.np
 have hA := acted_ok hok
 exact ⟨⟨D.np, h3, h4, layTo_len hn hop _ (Nat.le_refl _), fun o ho => by cases ho⟩, layTo_bts hok.bts hop _ (Nat.le_refl _), by simp [DS.synced], hA.reads, hA.writes, by show 0 ≤ D.syncs + 1 ∧ D.syncs + 1 ≤ _; have := hok.syncs; omega, hA.epoch, hA.armed⟩
theorem Sync_any (w : World) (base : Nat) (F : List Nat) (p : Nat) (D : DS) (h : DA w base F p D) (hpw : D.power = true) (hac : D.armed ≠ 1) (hsy : D.syncs < 4000000000000000000) :
   Calls Tryz.prog 56 #[.pointer (some ⟨p, 0, none⟩)] w fun e w' => e = .returned (.int .i64 0) ∧ Nx base F p w D.synced w' := by
 obtain ⟨P, rfl, rfl, hk, hok⟩ := h
 refine (Sync_loop w base P D hk hok hpw hac hsy).mono ?_
 rintro e w' ⟨rfl, h1, h2⟩
 exact ⟨rfl, Nx.of_drop h1 (synced_ok hok hsy) h2⟩
theorem Sync_last (w : World) (base : Nat) (F : List Nat) (p : Nat) (D : DS) (h : DA w base F p D) (hpw : D.power = true) (hac : D.armed = 1) :
   Calls Tryz.prog 56 #[.pointer (some ⟨p, 0, none⟩)] w fun e w' => e = .returned (.int .i64 2) ∧ Nx base F p w D.acted w' := by
 obtain ⟨P, rfl, rfl, hk, hok⟩ := h
 refine (Sync_goes w base P D hk hok hpw hac).mono ?_
 rintro e w' ⟨rfl, h1, h2⟩
 exact ⟨rfl, Nx.of_same h1 (acted_ok hok) h2⟩
theorem Sync_off (w : World) (base : Nat) (F : List Nat) (p : Nat) (D : DS) (h : DA w base F p D) (hpw : D.power = false) :
   Calls Tryz.prog 56 #[.pointer (some ⟨p, 0, none⟩)] w fun e w' => e = .returned (.int .i64 2) ∧ w = w' := by
 obtain ⟨P, rfl, rfl, hk, hok⟩ := h
 exact Sync_down w base P D hk hpw
theorem Write_off (w : World) (base : Nat) (F : List Nat) (p : Nat) (D : DS) (h : DA w base F p D) (hpw : D.power = false) (q : Int) (v : Value) :
   Calls Tryz.prog 71 #[.pointer (some ⟨p, 0, none⟩), .int .i64 q, v] w fun e w' => e = .returned (.int .i64 2) ∧ w = w' := by
 obtain ⟨P, rfl, rfl, hk, hok⟩ := h
 exact Write_down w base P D hk hpw q v
theorem Write_no (w : World) (base : Nat) (F : List Nat) (p : Nat) (D : DS) (h : DA w base F p D) (hpw : D.power = true) (q : Int) (hq : q < 0 ∨ (D.np : Int) ≤ q) (v : Value) :
   Calls Tryz.prog 71 #[.pointer (some ⟨p, 0, none⟩), .int .i64 q, v] w fun e w' => e = .returned (.int .i64 41) ∧ w = w' := by
 obtain ⟨P, rfl, rfl, hk, hok⟩ := h
 exact Write_page w base P D hk D.np hok.np.2.2.1 hok.np.2.1 hpw q hq v
theorem Write_few (w : World) (base : Nat) (F : List Nat) (p : Nat) (D : DS) (h : DA w base F p D) (hpw : D.power = true) (q : Int) (hq : 0 ≤ q ∧ q < (D.np : Int)) (sp : Option Addr) (l c : Nat) (hl : ((l : Int) != 256) = true) :
   Calls Tryz.prog 71 #[.pointer (some ⟨p, 0, none⟩), .int .i64 q, .slice sp l c] w fun e w' => e = .returned (.int .i64 42) ∧ w = w' := by
 obtain ⟨P, rfl, rfl, hk, hok⟩ := h
 exact Write_size w base P D hk D.np hok.np.2.2.1 hok.np.2.1 hpw q hq sp l c hl
theorem crashed_ok {D : DS} (hok : DsOk D) (hep : D.epoch < 4000000000000000000) (fs : List Int) : DsOk (D.crashed fs) := by
 obtain ⟨h3, h4, hn, hop⟩ := hok.np
 exact ⟨⟨D.np, h3, h4, crashTo_len fs hn hop _ (Nat.le_refl _), fun o ho => by cases ho⟩, crashTo_bts fs hok.bts hop _ (Nat.le_refl _), by simp [DS.crashed], hok.reads, hok.writes, hok.syncs, by show 0 ≤ D.epoch + 1 ∧ D.epoch + 1 ≤ _; have := hok.epoch; omega, by simp [DS.crashed]⟩
theorem Crash_any (w : World) (base : Nat) (F : List Nat) (p : Nat) (D : DS) (h : DA w base F p D) (hep : D.epoch < 4000000000000000000) (fs : List Int) (hfb : Bts fs) (sp : Option Addr) (fcap : Nat) (hS : Src w sp fcap fs) (hsb : ∀ a, 0 < fs.length → sp = some a → a.block ∉ F) :
   Calls Tryz.prog 73 #[.pointer (some ⟨p, 0, none⟩), .slice sp fs.length fcap] w fun e w' => e = .returned (.int .i64 D.ops.length) ∧ Nx base F p w (D.crashed fs) w' := by
 obtain ⟨P, rfl, rfl, hk, hok⟩ := h
 refine (Crash_in w base P D hk hok hep fs hfb sp fcap hS hsb).mono ?_
 rintro e w' ⟨rfl, h1, h2⟩
 exact ⟨rfl, Nx.of_drop h1 (crashed_ok hok hep fs) h2⟩
def DS.flipped (D : DS) (q bit pat : Nat) : DS := { D with img := flipTo D.img q bit pat (min 32 (2048 - bit)) }
theorem flipped_ok {D : DS} (hok : DsOk D) (q bit pat : Nat) : DsOk (D.flipped q bit pat) := by
 obtain ⟨h3, h4, hn, hop⟩ := hok.np
 exact ⟨⟨D.np, h3, h4, (flipTo_len _ _ _ _ _).trans hn, hop⟩, flipTo_bts hok.bts _ _ _ _, hok.ops, hok.reads, hok.writes, hok.syncs, hok.epoch, hok.armed⟩
theorem Flip_any (w : World) (base : Nat) (F : List Nat) (p : Nat) (D : DS) (h : DA w base F p D) (q : Nat) (hq : q < D.np) (bit : Nat) (hb : bit < 2048) (pat : Nat) (hp : pat < 4294967296) :
   Calls Tryz.prog 74 #[.pointer (some ⟨p, 0, none⟩), .int .i64 q, .int .i64 bit, .int .u32 pat] w fun e w' => e = .returned (.int .i64 0) ∧ Nx base F p w (D.flipped q bit pat) w' := by
 obtain ⟨P, rfl, rfl, hk, hok⟩ := h
 by_cases hl : bit ≤ 2016
 · refine (flpAB.1 w base P D hk D.np hok.np.2.2.1 hok.np.2.1 q hq bit hb pat hp hl).mono ?_
   rintro e w' ⟨rfl, h1, h2⟩
   exact ⟨rfl, Nx.of_same h1 (flipped_ok hok _ _ _) h2⟩
 · refine (flpAB.2 w base P D hk D.np hok.np.2.2.1 hok.np.2.1 q hq bit hb pat hp (by omega)).mono ?_
   rintro e w' ⟨rfl, h1, h2⟩
   exact ⟨rfl, Nx.of_same h1 (flipped_ok hok _ _ _) h2⟩
theorem Flip_no (w : World) (base : Nat) (F : List Nat) (p : Nat) (D : DS) (h : DA w base F p D) (q : Int) (hq : q < 0 ∨ (D.np : Int) ≤ q) (bit : Int) (v : Value) :
   Calls Tryz.prog 74 #[.pointer (some ⟨p, 0, none⟩), .int .i64 q, .int .i64 bit, v] w fun e w' => e = .returned (.int .i64 41) ∧ w = w' := by
 obtain ⟨P, rfl, rfl, hk, hok⟩ := h
 exact Flip_page w base P D hk D.np hok.np.2.2.1 hok.np.2.1 q hq bit v
theorem Flip_out (w : World) (base : Nat) (F : List Nat) (p : Nat) (D : DS) (h : DA w base F p D) (q : Int) (hq : 0 ≤ q ∧ q < (D.np : Int)) (bit : Int) (hb : bit < 0 ∨ 2048 ≤ bit) (v : Value) :
   Calls Tryz.prog 74 #[.pointer (some ⟨p, 0, none⟩), .int .i64 q, .int .i64 bit, v] w fun e w' => e = .returned (.int .i64 1) ∧ w = w' := by
 obtain ⟨P, rfl, rfl, hk, hok⟩ := h
 exact Flip_arg w base P D hk D.np hok.np.2.2.1 hok.np.2.1 q hq bit hb v
theorem own_in {w : World} {base : Nat} {v : Value} {zs : List Int} (h : Own w base v zs) (hz : 0 < zs.length) : ∃ g cap rest, v = .slice (some ⟨g, 0, none⟩) zs.length cap ∧ base ≤ g ∧ w.heap[g]? = some (.cells (ints .u8 zs ++ rest).toArray 5 (0, 0)) ∧ zs.length ≤ cap ∧ cap ≤ maxLen ∧ v.ownBlock = some g := by
 rcases h.2 with ⟨_, h0⟩ | ⟨g, cap, cur, rfl, hg, hh, hc, hm, hs, ht⟩
 · omega
 · refine ⟨g, cap, cur.toList.drop zs.length, rfl, hg, ?_, hc, hm, rfl⟩
   rw [hh]
   congr 2
   rw [← ht, Nat.mul_one, List.take_append_drop]
theorem Load_any (w : World) (img : List Int) (n : Nat) (h3 : 3 ≤ n) (h4 : n ≤ 4096) (hi : img.length = 256 * n) (hb : Bts img) (sp : Option Addr) (cap : Nat) (hS : Src w sp cap img) (hnil : sp = none → cap = 0) :
   Calls Tryz.prog 27 #[.slice sp img.length cap] w fun e w' => ∃ p F, e = .returned (.tuple #[.pointer (some ⟨p, 0, none⟩), .int .i64 0]) ∧ DA w' w.heap.size F p (newD img) ∧ Below w.heap.size w w' := by
 have HP := hid (possible_any w n)
 have HE := hid (show decide (3 ≤ (n : Int) ∧ (n : Int) ≤ 4096) = true from decide_eq_true ⟨by omega, by omega⟩)
 have HC := hid (Clone_any w img sp cap hS hnil (by omega))
 have hl : (img.length : Int) ≤ 1048576 := by omega
 have m1 : ((img.length : Int)).tmod 256 = 0 := by rw [hi, Int.natCast_mul]; exact Int.mul_tmod_right _ _
 have d1 : ((img.length : Int)).tdiv 256 = (n : Int) := by rw [hi, Int.natCast_mul]; exact Int.mul_tdiv_cancel_left _ (by decide)
 have HI := hid hi
 clear hi hS
 go_enter Tryz.func27, Tryz.ntmps27
 go_wp2_with (first
   | (go_at_call 77; refine HP.out.mono ?_; rintro e w0 ⟨rfl, rfl⟩; rw [HE.out])
   | (go_at_call 79; refine HC.out.mono ?_; rintro e w1 ⟨v, rfl, hO, hB1⟩; obtain ⟨g, c, rest, rfl, q1, q2, q3, q4, q5⟩ := own_in hO (by have := HI.out; omega))
   | (go_at_call 78; refine (holding_any w1 w.heap.size g c img rest q2 q3 q4 q1 hB1.size).mono ?_; rintro e w2 ⟨rfl, hK, hB2⟩))
 go_ret2
 exact ⟨_, _, rfl, ⟨_, rfl, rfl, hK, newD_ok h3 h4 HI.out hb⟩, hB1.trans (hB2.mono hB1.size)⟩
theorem list_ext0 {z y : List Int} (hl : z.length = y.length) (h : ∀ j, j < z.length → z.getD j 0 = y.getD j 0) : z = y := by
 apply List.ext_getElem hl
 intro i h1 h2
 have := h i h1
 rwa [List.getD_eq_getElem?_getD, List.getD_eq_getElem?_getD, List.getElem?_eq_getElem h1, List.getElem?_eq_getElem h2] at this
theorem getD_sub (l : List Int) (a b k : Nat) (h : a ≤ k) (h2 : k < a + b) : ((l.drop a).take b).getD (k - a) 0 = l.getD k 0 := by
 rw [List.getD_eq_getElem?_getD, List.getElem?_take, if_pos (by omega), List.getElem?_drop, show a + (k - a) = k by omega, ← List.getD_eq_getElem?_getD]
theorem tornTo_get {img : List Int} {n : Nat} {o : OW} (f : Nat) (h : img.length = 256 * n) (ho : OwOk n o) : ∀ j, j ≤ 4 → ∀ k, (tornTo img o f j).getD k 0 = if o.page * 256 ≤ k ∧ k < o.page * 256 + j * 64 ∧ f.testBit ((k - o.page * 256) / 64) = true then o.data.getD (k - o.page * 256) 0 else img.getD k 0
 | 0, _, k => by rw [if_neg (by omega)]; rfl
 | j + 1, hj, k => by
   have ih := tornTo_get f h ho j (by omega) k
   have hl := tornTo_len f h ho j (by omega)
   obtain ⟨h1, h2, h3⟩ := ho
   unfold tornTo
   split
   · rename_i hb
     have el : ((o.data.drop (j * 64)).take 64).length = 64 := by simp; omega
     rw [putAt_get _ _ _ (by rw [el, hl]; omega), el]
     by_cases c : o.page * 256 + j * 64 ≤ k ∧ k < o.page * 256 + j * 64 + 64
     · have hs : (k - o.page * 256) / 64 = j := by omega
       rw [if_pos c, if_pos ⟨by omega, by omega, by rw [hs]; exact hb⟩, show k - (o.page * 256 + j * 64) = (k - o.page * 256) - j * 64 by omega, getD_sub _ _ _ _ (by omega) (by omega)]
     · rw [if_neg c, ih]
       by_cases d : o.page * 256 ≤ k ∧ k < o.page * 256 + j * 64 ∧ f.testBit ((k - o.page * 256) / 64) = true
       · rw [if_pos d, if_pos ⟨d.1, by omega, d.2.2⟩]
       · rw [if_neg d, if_neg (fun e => d ⟨e.1, by omega, e.2.2⟩)]
   · rename_i hb
     rw [ih]
     by_cases d : o.page * 256 ≤ k ∧ k < o.page * 256 + j * 64 ∧ f.testBit ((k - o.page * 256) / 64) = true
     · rw [if_pos d, if_pos ⟨d.1, by omega, d.2.2⟩]
     · rw [if_neg d, if_neg]
       rintro ⟨e1, e2, e3⟩
       by_cases c : k < o.page * 256 + j * 64
       · exact d ⟨e1, c, e3⟩
       · rw [show (k - o.page * 256) / 64 = j by omega] at e3
         exact hb e3
theorem lay1_get {img : List Int} {n : Nat} {o : OW} (h : img.length = 256 * n) (ho : OwOk n o) (k : Nat) : (lay1 img o).getD k 0 = if o.page * 256 ≤ k ∧ k < o.page * 256 + 256 then o.data.getD (k - o.page * 256) 0 else img.getD k 0 := by
 obtain ⟨h1, h2, h3⟩ := ho
 unfold lay1
 rw [putAt_get _ _ _ (by rw [h2, h]; omega), h2]
theorem newZ_ok {k : Nat} (h3 : 3 ≤ k) (h4 : k ≤ 4096) : DsOk (newD (List.replicate (256 * k) 0)) := newD_ok h3 h4 (by simp) (bts_rep _)
theorem Claim_in (w : World) (base : Nat) (P : DP) (D : DS) (h : DK w base P D) (ha : 0 ≤ D.epoch ∧ D.epoch < 4000000000000000000) :
   Calls Tryz.prog 57 #[.pointer (some ⟨P.p, 0, none⟩)] w fun e w' => e = .returned (.int .i64 (D.epoch + 1)) ∧ DK w' base P { D with epoch := D.epoch + 1 } ∧ Fr P.fp w w' := by
 have c := h.c9
 have f := h.fz 9
 have hq := h.put (D' := { D with epoch := D.epoch + 1 }) 9 (.int .i64 (D.epoch + 1)) rfl rfl rfl
 have q := hq.c9
 have HQ := hid hq
 have hp := h.hp
 clear hq
 simp only at q
 generalize D.epoch = a at *
 go_enter Tryz.func57, Tryz.ntmps57
 go_wp2
 go_ret
 exact ⟨rfl, HQ.out, (Fr.refl _ w).setCell hp _ _⟩
end
section
open Go.RowKit
attribute [local go_sem ↓] Go.wp_at_zero Go.wp_at_succ
def Good (s o : Sup) (L0 L1 : List Int) : Prop := validS s = true ∧ validS o = true ∧ Fol s o ∧ ∃ Y Z : List Int, Y.length = 192 ∧ Z.length = 192 ∧ Byts Y ∧ Byts Z ∧ ((s.ge % 2 = 0 ∧ L0 = secS s ++ Y ∧ L1 = secS o ++ Z) ∨ (s.ge % 2 = 1 ∧ L0 = secS o ++ Y ∧ L1 = secS s ++ Z))
end
end Go.Proofs.YtjhocjjecfdphaaGreatDoor
