import Derived.Test.YtcibcakgheegbaaE4v
namespace Go.Proofs.Ytcibcakgheegbaa
set_option linter.unusedVariables false
set_option linter.unusedSimpArgs false
open Go.RowKit
attribute [local go_sem ↓] Go.wp_at_zero Go.wp_at_succ

theorem bits_to (w : World) (a b : List Int) (ha : Bts a) (hb : Bts b) (sp tp : Option Addr) (cap dap : Nat) (hS : Src w sp cap a) (hT : Src w tp dap b) (L : Nat) (hla : a.length = L) (hlb : b.length = L) (hL : L ≤ 1048576) (n1 n2 : Nat) (h1 : n1 = L) (h2 : n2 = L) :
    Calls Try.prog 27 #[.slice sp n1 cap, .slice tp n2 dap] w fun e w' => e = .returned (.int .i64 (dif a b L)) ∧ Below w.heap.size w w' := by
  subst h1; subst h2; exact bits_any w a b ha hb sp tp cap dap hS hT _ hla hlb hL
theorem flipped_np (D : DS) (q b p : Nat) : (D.flipped q b p).np = D.np := by unfold DS.np DS.flipped; rw [flipTo_len]
def DS.wr0 (D : DS) (o : OW) : DS := { D with ops := D.ops ++ [o], writes := D.writes + 1 }
theorem wr0_np (D : DS) (o : OW) : (D.wr0 o).np = D.np := rfl
theorem Write0_any (w : World) (base : Nat) (F : List Nat) (p : Nat) (D : DS) (h : DA w base F p D) (hbw : base ≤ w.heap.size) (hpw : D.power = true) (ha : D.armed = 0) (q : Nat) (hq : q < D.np) (data : List Int) (hd : data.length = 256) (hdb : Bts data) (sp : Option Addr) (cap : Nat) (hS : Src w sp cap data)
    (hops : D.ops.length < 400000000000) (hwr : D.writes < 4000000000000000000) :
    Calls Try.prog 18 #[.pointer (some ⟨p, 0, none⟩), .int .i64 q, .slice sp 256 cap] w fun e w' => e = .returned (.int .i64 0) ∧ Nx base F p w (D.wr0 ⟨q, data⟩) w' := by
  have e : ∀ E : DS, E.armed = 0 → E.acted = E := fun E h => by unfold DS.acted; rw [if_pos h]
  have e2 : D.wr ⟨q, data⟩ = D.wr0 ⟨q, data⟩ := e ({ D.pushed ⟨q, data⟩ with writes := D.writes + 1 } : DS) ha
  have := Write_any w base F p D h hbw hpw q hq data hd hdb sp cap hS hops hwr
  rw [actE0 D ha, e2] at this
  exact this
theorem made_own {w1 : World} {base g : Nat} (h : w1.ownsRow base 5 1 (.slice (some ⟨g, 0, none⟩) 256 256) 256 (madeCells (Value.int IntKind.u8 0).cells (256 * 1)).toList) (OV : List Int) (hO : OV = List.replicate 256 0) : Own w1 base (.slice (some ⟨g, 0, none⟩) 256 256) OV := by
  have e : ints .u8 OV = (madeCells (Value.int IntKind.u8 0).cells (256 * 1)).toList := by rw [hO, Nat.mul_one, made_bytes]; rfl
  unfold Own
  rw [e, hO, List.length_replicate]
  exact h
theorem putAt_mid (img : List Int) (o : Nat) (zs : List Int) (h : o + zs.length ≤ img.length) : ((putAt img o zs).drop o).take zs.length = zs := by
  have ht : (img.take o).length = o := by simp; omega
  unfold putAt
  rw [List.append_assoc, List.drop_append_of_le_length (by omega), List.drop_of_length_le (by omega), List.nil_append, List.take_append_of_le_length (Nat.le_refl _), List.take_length]
set_option maxRecDepth 100000 in
set_option maxHeartbeats 2000000 in
theorem flips_ok (w : World) (n : Int) (hn0 : -9223372036854775808 ≤ n) (hn1 : n ≤ 9223372036854775807) (rs1 : List WR) (hr1 : ∀ r ∈ rs1, WrOk r) (sp1 : Option Addr) (cap1 : Nat) (W1 : Wrs w w.heap.size sp1 rs1) (hl1 : rs1.length ≤ 1048576) (q : Nat) (hq : q < (n % 8).toNat + 3) (bit : Nat) (hb : bit < 2048) (pat : Nat) (hp : pat < 4294967296) :
    Calls Try.prog 7 #[.int .i64 n, .slice sp1 rs1.length cap1, .int .i64 q, .int .i64 bit, .int .u32 pat] w fun e w' => e = .returned (.bool true) ∧ Below w.heap.size w w' := by
  have q23 := nilp
  obtain ⟨k, hk⟩ : ∃ k, k = (n % 8).toNat + 3 := ⟨_, rfl⟩
  obtain ⟨Z, hZ⟩ : ∃ Z : List Int, Z = List.replicate (256 * k) 0 := ⟨_, rfl⟩
  have FR := hid (fun w => fresh_to w n hn0 hn1 k hk Z hZ)
  have hk3 : 3 ≤ k := by omega
  have hk4 : k ≤ 10 := by have := Int.emod_lt_of_pos n (show (0 : Int) < 8 by decide); omega
  have ik4 : (k : Int) ≤ 10 := by omega
  have HZ := hid hZ
  rw [← hk] at hq
  obtain ⟨m, hm⟩ : ∃ m, m = min 32 (2048 - bit) := ⟨_, rfl⟩
  have hm1 : m ≤ 32 := by omega
  have hm2 : bit + m ≤ 2048 := by omega
  have hm3 : m = 32 ∨ bit + m = 2048 := by omega
  have HM := hid hm
  clear hm
  have iq : (q : Int) < (k : Int) := by omega
  have ib : (bit : Int) < 2048 := by omega
  clear hZ hk
  have HL1 := hid (show (newD Z).ops.length + rs1.length ≤ 400000000000 by show 0 + rs1.length ≤ _; omega)
  have HL2 := hid (show (newD Z).writes + rs1.length ≤ 4000000000000000000 by show (0 : Int) + rs1.length ≤ _; omega)
  have T := TL.nil w w.heap.size (Nat.le_refl _)
  have T0 : w.heap.size ≤ w.heap.size := Nat.le_refl _
  have hB0 : Below w.heap.size w w := Below.refl _ _
  obtain ⟨B, hBB⟩ : ∃ B, B = w.heap.size := ⟨_, rfl⟩
  rw [← hBB] at W1 T hB0 ⊢
  replace T0 : B ≤ w.heap.size := by omega
  have HBB := hid hBB
  clear hBB
  have okN : DsOk (newD Z) := by rw [HZ.out]; exact newZ_ok hk3 (by omega)
  have npN : (newD Z).np = k := by rw [HZ.out]; exact emp_replicate k
  have okL := laid_ok okN hr1 HL1.out HL2.out
  have okX := sy0_ok okL (by show (0 : Int) < _; decide)
  have npX : ((newD Z).laid rs1).sy0.np = k := by rw [sy0_np okL, laid_np, npN]
  have HXL := hid (show ((newD Z).laid rs1).sy0.img.length = 256 * k by rw [okX.np.2.2.1, npX])
  have hlw : (((newD Z).laid rs1).sy0.img.length : Int) = 256 * (k : Int) := by rw [HXL.out]; omega
  have OKX := hid okX
  clear okN okL okX npN
  have hfe : (((newD Z).laid rs1).sy0.flipped q bit pat).img = flipTo ((newD Z).laid rs1).sy0.img q bit pat m := by rw [HM.out]; rfl
  have hwin : q * 2048 + bit + m ≤ 8 * ((newD Z).laid rs1).sy0.img.length := by rw [HXL.out]; omega
  have HNL := hid (show (((newD Z).laid rs1).sy0.flipped q bit pat).img.length = 256 * k by rw [hfe, flipTo_len, HXL.out])
  have hln : ((((newD Z).laid rs1).sy0.flipped q bit pat).img.length : Int) = 256 * (k : Int) := by rw [HNL.out]; omega
  have HBN := hid (show Bts (((newD Z).laid rs1).sy0.flipped q bit pat).img from (flipped_ok OKX.out q bit pat).bts)
  have HTU := hid (fun i (h1 : i < m) (h2 : pat.testBit i = true) => (show (xorAt (((newD Z).laid rs1).sy0.flipped q bit pat).img ((newD Z).laid rs1).sy0.img ((2048 * q + bit + i) / 8)).testBit ((2048 * q + bit + i) % 8) = true by rw [hfe]; exact flip_turns OKX.out.bts q bit pat m hwin i h1 h2))
  have HDF := hid (show dif (((newD Z).laid rs1).sy0.flipped q bit pat).img ((newD Z).laid rs1).sy0.img (256 * k) = cnt (fun i => pat.testBit i) m by rw [hfe, ← HXL.out]; exact dif_flip OKX.out.bts q bit pat m hwin)
  have HTW := hid (show ((((newD Z).laid rs1).sy0.flipped q bit pat).flipped q bit pat).img = ((newD Z).laid rs1).sy0.img by show flipTo (((newD Z).laid rs1).sy0.flipped q bit pat).img q bit pat (min 32 (2048 - bit)) = _; rw [hfe, ← HM.out]; exact flip_twice OKX.out.bts q bit pat m hwin)
  obtain ⟨OV, hOV⟩ : ∃ OV : List Int, OV = List.replicate 256 0 := ⟨_, rfl⟩
  have HOV := hid hOV
  have HOL := hid (show OV.length = 256 by rw [hOV, List.length_replicate])
  have HOB := hid (show Bts OV by rw [hOV]; exact bts_rep _)
  have HRD := hid (show ((((((newD Z).laid rs1).sy0.flipped q bit pat).flipped q bit pat).wr0 ⟨q, OV⟩).flipped q bit pat).readOf q = OV by
    have e : lastOf ((((((newD Z).laid rs1).sy0.flipped q bit pat).flipped q bit pat).wr0 ⟨q, OV⟩).flipped q bit pat).ops q = some 0 := by show lastOf [⟨q, OV⟩] q = _; unfold lastOf lastR; rw [List.reverse_singleton]; simp
    unfold DS.readOf; rw [e]; rfl)
  have hl4 : ((((((newD Z).laid rs1).sy0.flipped q bit pat).flipped q bit pat).wr0 ⟨q, OV⟩).flipped q bit pat).img.length = 256 * k := by show (flipTo ((((newD Z).laid rs1).sy0.flipped q bit pat).flipped q bit pat).img q bit pat _).length = _; rw [flipTo_len, HTW.out, HXL.out]
  have h6 : (({ ((((((newD Z).laid rs1).sy0.flipped q bit pat).flipped q bit pat).wr0 ⟨q, OV⟩).flipped q bit pat) with reads := ((((((newD Z).laid rs1).sy0.flipped q bit pat).flipped q bit pat).wr0 ⟨q, OV⟩).flipped q bit pat).reads + 1 } : DS)).sy0.img = putAt ((((((newD Z).laid rs1).sy0.flipped q bit pat).flipped q bit pat).wr0 ⟨q, OV⟩).flipped q bit pat).img (q * 256) OV := rfl
  have HZL := hid (show (({ ((((((newD Z).laid rs1).sy0.flipped q bit pat).flipped q bit pat).wr0 ⟨q, OV⟩).flipped q bit pat) with reads := ((((((newD Z).laid rs1).sy0.flipped q bit pat).flipped q bit pat).wr0 ⟨q, OV⟩).flipped q bit pat).reads + 1 } : DS)).sy0.img.length = 256 * k by rw [h6, putAt_len _ _ _ (by rw [HOL.out, hl4]; omega), hl4])
  have HPT := hid (show ((({ ((((((newD Z).laid rs1).sy0.flipped q bit pat).flipped q bit pat).wr0 ⟨q, OV⟩).flipped q bit pat) with reads := ((((((newD Z).laid rs1).sy0.flipped q bit pat).flipped q bit pat).wr0 ⟨q, OV⟩).flipped q bit pat).reads + 1 } : DS)).sy0.img.drop (256 * q)).take 256 = OV by
    have := putAt_mid ((((((newD Z).laid rs1).sy0.flipped q bit pat).flipped q bit pat).wr0 ⟨q, OV⟩).flipped q bit pat).img (q * 256) OV (by rw [HOL.out, hl4]; omega)
    rw [HOL.out] at this
    rw [h6, Nat.mul_comm 256 q]; exact this)
  obtain ⟨i5, hi5, hz5, hs5i, hy5⟩ := Try.info5
  have HI := hid hi5
  have K1 := hid (show i5.bytes * 256 ≤ 281474976710656 by rw [hy5]; omega)
  have K2 := hid (show 256 ≤ maxLen by unfold maxLen; omega)
  clear hfe hwin hOV hl4 h6 hi5 hy5
  go_enter Try.func7, Try.ntmps7
  go_wp2_with fail
  refine (FR.out w).mono ?_
  rintro e w1 ⟨p1, Fp1, rfl, hD, hBx⟩
  have T := T.push hBx hD
  clear hD
  have hBy : Below B w w1 := hBx.mono T0
  have T0 : B ≤ w1.heap.size := Nat.le_trans T0 hBx.size
  have hB0 := hB0.trans hBy
  have W1 := W1.below hBy
  clear hBx hBy
  change TL B w1 [(p1, (newD Z))] [] at T
  go_wp2_with fail
  obtain ⟨F, hDA, hGF, hnx⟩ := T.at 0 (by simp)
  change DA w1 B F p1 (newD Z) at hDA
  change ∀ (w' : World) (D' : DS), Nx B F p1 w1 D' w' → TL B w' [(p1, D')] [] ∧ Below B w1 w' ∧ ∀ g ∈ [], w'.heap[g]? = w1.heap[g]? at hnx
  refine (lays_any w1 B F p1 (newD Z) hDA T0 rfl rfl rs1 hr1 sp1 cap1 W1 HL1.out HL2.out).mono ?_
  rintro e w2 ⟨rfl, hN⟩
  obtain ⟨T1, hBy, hKx⟩ := hnx _ _ hN
  clear hnx hDA hGF hN
  have hB0 := hB0.trans hBy
  have W1 := W1.below hBy
  have T0 : B ≤ w2.heap.size := T1.hb
  clear T hBy hKx
  have T := T1
  clear T1
  change TL B w2 [(p1, ((newD Z).laid rs1))] [] at T
  go_wp2_with fail
  obtain ⟨F, hDA, hGF, hnx⟩ := T.at 0 (by simp)
  change DA w2 B F p1 ((newD Z).laid rs1) at hDA
  change ∀ (w' : World) (D' : DS), Nx B F p1 w2 D' w' → TL B w' [(p1, D')] [] ∧ Below B w2 w' ∧ ∀ g ∈ [], w'.heap[g]? = w2.heap[g]? at hnx
  refine (Sync0_any w2 B F p1 ((newD Z).laid rs1) hDA rfl rfl (by show (0 : Int) < _; decide)).mono ?_
  rintro e w3 ⟨rfl, hN⟩
  obtain ⟨T1, hBy, hKx⟩ := hnx _ _ hN
  clear hnx hDA hGF hN
  have hB0 := hB0.trans hBy
  have W1 := W1.below hBy
  have T0 : B ≤ w3.heap.size := T1.hb
  clear T hBy hKx
  have T := T1
  clear T1
  change TL B w3 [(p1, ((newD Z).laid rs1).sy0)] [] at T
  go_wp2_with fail
  obtain ⟨F, hDA, hGF, hnx⟩ := T.at 0 (by simp)
  change DA w3 B F p1 ((newD Z).laid rs1).sy0 at hDA
  clear hnx
  refine (Pages_any w3 B F p1 _ hDA).mono ?_
  rintro e wx ⟨rfl, rfl⟩
  clear hDA hGF
  rw [npX]
  go_wp2_with fail
  obtain ⟨F, hDA, hGF, hnx⟩ := T.at 0 (by simp)
  change DA w3 B F p1 ((newD Z).laid rs1).sy0 at hDA
  clear hnx hGF
  refine (Image_any w3 B F p1 _ hDA).mono ?_
  rintro e w4 ⟨vw, rfl, hO, hBx⟩
  have hzz : 0 < (((newD Z).laid rs1).sy0.img).length := by rw [himl _ hDA.ok]; have := hDA.ok.np.1; omega
  obtain ⟨gvw, T1, LW, hgBvw⟩ := T.listb hBx hO hzz
  have hBy : Below B w3 w4 := hBx.mono T0
  have T0 : B ≤ w4.heap.size := T1.hb
  have hB0 := hB0.trans hBy
  have W1 := W1.below hBy
  clear T hBx hBy hO hzz
  have T := T1
  clear T1
  change TL B w4 [(p1, ((newD Z).laid rs1).sy0)] (gvw :: []) at T
  clear hDA
  obtain ⟨spw, capw, hvw, _, _⟩ := LW.form
  subst hvw
  go_wp2_with fail
  obtain ⟨F, hDA, hGF, hnx⟩ := T.at 0 (by simp)
  change DA w4 B F p1 ((newD Z).laid rs1).sy0 at hDA
  change ∀ (w' : World) (D' : DS), Nx B F p1 w4 D' w' → TL B w' [(p1, D')] (gvw :: []) ∧ Below B w4 w' ∧ ∀ g ∈ (gvw :: []), w'.heap[g]? = w4.heap[g]? at hnx
  refine (Flip_any w4 B F p1 ((newD Z).laid rs1).sy0 hDA q (by rw [npX]; exact hq) bit hb pat hp).mono ?_
  rintro e w5 ⟨rfl, hN⟩
  obtain ⟨T1, hBy, hKx⟩ := hnx _ _ hN
  clear hnx hDA hGF hN
  have hB0 := hB0.trans hBy
  have W1 := W1.below hBy
  have LW := LW.keep hKx
  have T0 : B ≤ w5.heap.size := T1.hb
  clear T hBy hKx
  have T := T1
  clear T1
  change TL B w5 [(p1, (((newD Z).laid rs1).sy0.flipped q bit pat))] (gvw :: []) at T
  go_wp2_with fail
  obtain ⟨F, hDA, hGF, hnx⟩ := T.at 0 (by simp)
  change DA w5 B F p1 (((newD Z).laid rs1).sy0.flipped q bit pat) at hDA
  clear hnx hGF
  refine (Image_any w5 B F p1 _ hDA).mono ?_
  rintro e w6 ⟨vn, rfl, hO, hBx⟩
  have hzz : 0 < ((((newD Z).laid rs1).sy0.flipped q bit pat).img).length := by rw [himl _ hDA.ok]; have := hDA.ok.np.1; omega
  obtain ⟨gvn, T1, LN, hgBvn⟩ := T.listb hBx hO hzz
  have hBy : Below B w5 w6 := hBx.mono T0
  have T0 : B ≤ w6.heap.size := T1.hb
  have hB0 := hB0.trans hBy
  have W1 := W1.below hBy
  have LW := LW.below hBx
  have LW := LW.mono gvn
  clear T hBx hBy hO hzz
  have T := T1
  clear T1
  change TL B w6 [(p1, (((newD Z).laid rs1).sy0.flipped q bit pat))] (gvn :: (gvw :: [])) at T
  clear hDA
  obtain ⟨spn, capn, hvn, _, _⟩ := LN.form
  subst hvn
  go_wp2_with fail
  have HB0 := hid hB0
  have HT := hid T
  have HLW := hid LW
  have HLN := hid LN
  clear hB0 T LW LN T0 W1
  go_loopw [16, 17] (fun cv iv wr => ∃ i : Nat, i ≤ m ∧ iv = .int .i64 i ∧ cv = .int .i64 (cnt (fun i => pat.testBit i) i) ∧ Below w6.heap.size w6 wr) (fun _ iv _ => m - (intOf iv).toNat)
  case atStart => exact ⟨0, by omega, rfl, rfl, Below.refl _ _⟩
  case round =>
    obtain ⟨i, hi, rfl, rfl, hBr⟩ := hrel
    have hcl := cnt_le (fun i => pat.testBit i) i
    by_cases hlt : i < m
    · have i1 : (i : Int) < 32 := by omega
      have i2 : (bit : Int) + (i : Int) < 2048 := by omega
      have hbb := bit_u32 pat i hp
      have HCS := hid (show cnt (fun i => pat.testBit i) (i + 1) = cnt (fun i => pat.testBit i) i + (if pat.testBit i then 1 else 0) from rfl)
      generalize hc0 : cnt (fun i => pat.testBit i) i = c at *
      clear hc0
      cases hc : pat.testBit i with
      | false =>
        rw [hc] at hbb HCS
        clear hc
        go_wp2
        go_roundw
        case rel => exact ⟨i + 1, by omega, by go_num, by rw [HCS.out]; rfl, hBr⟩
        case measure => simp [intOf]; omega
      | true =>
        rw [hc] at hbb HCS
        have hlat : (2048 * q + bit + i) / 8 < 256 * k := by omega
        obtain ⟨d, hd⟩ : ∃ d, d = (2048 * q + bit + i) / 8 := ⟨_, rfl⟩
        obtain ⟨r, hr⟩ : ∃ r, r = (2048 * q + bit + i) % 8 := ⟨_, rfl⟩
        have dt : (2048 * (q : Int) + (bit : Int) + (i : Int)).tdiv 8 = (d : Int) := by rw [Int.tdiv_eq_ediv_of_nonneg (by omega)]; omega
        have rt : (2048 * (q : Int) + (bit : Int) + (i : Int)).tmod 8 = (r : Int) := by rw [Int.tmod_eq_emod_of_nonneg (by omega)]; omega
        have id : (d : Int) < 256 * (k : Int) := by omega
        have ir : (r : Int) < 8 := by omega
        have tr := HTU.out i hlt hc
        rw [← hd, ← hr] at tr
        obtain ⟨x, hx, x8⟩ := byte_nat HBN.out d
        obtain ⟨y, hy, y8⟩ := byte_nat OKX.out.bts d
        obtain ⟨g1, a1, r1, hv1, _, hg1, _, _, _⟩ := own_in (HLN.out.below hBr).1 (by rw [HNL.out]; omega)
        obtain ⟨g2, a2, r2, hv2, _, hg2, _, _, _⟩ := own_in (HLW.out.below hBr).1 (by rw [HXL.out]; omega)
        simp only [Value.slice.injEq] at hv1 hv2
        obtain ⟨rfl, hx1, rfl⟩ := hv1
        obtain ⟨rfl, hx2, rfl⟩ := hv2
        clear hx1 hx2
        have c1 : wr.cell? ⟨g1, d, none⟩ = some (.int .u8 (x : Int)) := by
          rw [cell_of_row _ _ _ _ _ _ hg1, List.getElem?_toArray, List.getElem?_append_left (by rw [ints_len, HNL.out]; omega), ints_get _ _ _ (by rw [HNL.out]; omega), hx]
        have c2 : wr.cell? ⟨g2, d, none⟩ = some (.int .u8 (y : Int)) := by
          rw [cell_of_row _ _ _ _ _ _ hg2, List.getElem?_toArray, List.getElem?_append_left (by rw [ints_len, HXL.out]; omega), ints_get _ _ _ (by rw [HXL.out]; omega), hy]
        obtain ⟨z, hz⟩ : ∃ z, z = x ^^^ y := ⟨_, rfl⟩
        have hxy : bits .xor .u8 (x : Int) (y : Int) = (z : Int) := by rw [xor_u8 x y x8 y8, hz]
        have z8 : z < 256 := by rw [hz]; exact Nat.xor_lt_two_pow (n := 8) (by omega) (by omega)
        have hbz := bit_u8 z r z8
        have tz : z.testBit r = true := by rw [hz]; unfold xorAt at tr; rw [hx, hy] at tr; exact tr
        rw [tz] at hbz
        have hbn : (bits .and .u8 ((z : Int) / 2 ^ r) 1 != 1) = false := by unfold bne; rw [hbz]; rfl
        have HHB := hid hBr
        clear hc hd hr hx hy hz tr tz hg1 hg2 hlat x8 y8 z8 hbz hBr
        go_wp2
        go_quiet (fail)
        go_wp2
        go_roundw
        case rel => exact ⟨i + 1, by omega, by go_num, by rw [HCS.out]; go_num, below_drewN HHB.out _⟩
        case measure => simp [intOf]; omega
    · obtain rfl : i = m := by omega
      clear hlt
      have T := HT.out.below hBr
      have T0 := T.hb
      have LW := HLW.out.below hBr
      have LN := HLN.out.below hBr
      have hB0 := HB0.out.trans (hBr.mono HT.out.hb)
      clear hBr HT HLW HLN HB0 HTU
      by_cases h32 : i < 32
      · have h48 : (bit : Int) + (i : Int) = 2048 := by omega
        have j1 : (i : Int) < 32 := by omega
        have j2 : ¬ (bit : Int) + (i : Int) < 2048 := by omega
        clear h48
        go_wp2_with fail
        obtain ⟨s3, c3, hv3, hs3, _⟩ := LN.form
        simp only [Value.slice.injEq] at hv3
        obtain ⟨rfl, _, rfl⟩ := hv3
        obtain ⟨s4, c4, hv4, hs4, _⟩ := LW.form
        simp only [Value.slice.injEq] at hv4
        obtain ⟨rfl, _, rfl⟩ := hv4
        refine (bits_to wr (((newD Z).laid rs1).sy0.flipped q bit pat).img ((newD Z).laid rs1).sy0.img HBN.out OKX.out.bts _ _ _ _ hs3 hs4 (256 * k) HNL.out HXL.out (by omega) _ _ HNL.out HXL.out).mono ?_
        rintro e w8 ⟨rfl, hBx⟩
        have T := T.below hBx
        have hBy : Below B wr w8 := hBx.mono T0
        have T0 : B ≤ w8.heap.size := T.hb
        have hB0 := hB0.trans hBy
        have LW := LW.below hBx
        have LN := LN.below hBx
        clear hBx hBy
        rw [HDF.out]
        clear hs3 hs4 LN
        go_wp2_with fail
        obtain ⟨F, hDA, hGF, hnx⟩ := T.at 0 (by simp)
        change DA w8 B F p1 (((newD Z).laid rs1).sy0.flipped q bit pat) at hDA
        change ∀ (w' : World) (D' : DS), Nx B F p1 w8 D' w' → TL B w' [(p1, D')] (gvn :: (gvw :: [])) ∧ Below B w8 w' ∧ ∀ g ∈ (gvn :: (gvw :: [])), w'.heap[g]? = w8.heap[g]? at hnx
        refine (Flip_any w8 B F p1 (((newD Z).laid rs1).sy0.flipped q bit pat) hDA q (by rw [flipped_np, npX]; exact hq) bit hb pat hp).mono ?_
        rintro e w9 ⟨rfl, hN⟩
        obtain ⟨T1, hBy, hKx⟩ := hnx _ _ hN
        clear hnx hDA hGF hN
        have hB0 := hB0.trans hBy
        have LW := LW.keep hKx
        have T0 : B ≤ w9.heap.size := T1.hb
        clear T hBy hKx
        have T := T1
        clear T1
        change TL B w9 [(p1, ((((newD Z).laid rs1).sy0.flipped q bit pat).flipped q bit pat))] (gvn :: (gvw :: [])) at T
        go_wp2_with fail
        obtain ⟨F, hDA, hGF, hnx⟩ := T.at 0 (by simp)
        change DA w9 B F p1 ((((newD Z).laid rs1).sy0.flipped q bit pat).flipped q bit pat) at hDA
        clear hnx hGF
        refine (Image_any w9 B F p1 _ hDA).mono ?_
        rintro e w10 ⟨vm, rfl, hO, hBx⟩
        have hzz : 0 < (((((newD Z).laid rs1).sy0.flipped q bit pat).flipped q bit pat).img).length := by rw [himl _ hDA.ok]; have := hDA.ok.np.1; omega
        obtain ⟨gvm, T1, LM, hgBvm⟩ := T.listb hBx hO hzz
        have hBy : Below B w9 w10 := hBx.mono T0
        have T0 : B ≤ w10.heap.size := T1.hb
        have hB0 := hB0.trans hBy
        have LW := LW.below hBx
        have LW := LW.mono gvm
        clear T hBx hBy hO hzz
        have T := T1
        clear T1
        change TL B w10 [(p1, ((((newD Z).laid rs1).sy0.flipped q bit pat).flipped q bit pat))] (gvm :: (gvn :: (gvw :: []))) at T
        clear hDA
        obtain ⟨s5, c5, hv5, hs5, _⟩ := LM.form
        subst hv5
        obtain ⟨s4, c4, hv4, hs4, _⟩ := LW.form
        simp only [Value.slice.injEq] at hv4
        obtain ⟨rfl, _, rfl⟩ := hv4
        go_wp2_with fail
        refine (same_to w10 ((((newD Z).laid rs1).sy0.flipped q bit pat).flipped q bit pat).img ((newD Z).laid rs1).sy0.img _ _ _ _ hs5 hs4 _ _ (by first | rfl | (rw [HTW.out])) rfl).mono ?_
        rintro e w11 ⟨rfl, hBx⟩
        have T := T.below hBx
        have hBy : Below B w10 w11 := hBx.mono T0
        have T0 : B ≤ w11.heap.size := T.hb
        have hB0 := hB0.trans hBy
        have LW := LW.below hBx
        have LM := LM.below hBx
        clear hBx hBy
        rw [decide_eq_true HTW.out]
        clear hs5 hs4 LM LW
        go_wp2_with (refine wpList_make_full _ rfl _ _ 28 rfl w11.heap.size 5 i5 (.int .u8 0) 1 Try.underlying28 HI.out hz5 hs5i .i64 .i64 _ _ 256 rfl rfl rfl rfl K1.out K2.out (Nat.le_refl _) ?_; intro w12 hO1 hg1; have hBx := grown_keeps hg1 (fun k hk => by cases hk) (Nat.le_refl _); have hO := made_own hO1 OV HOV.out; clear hg1 hO1)
        have hzz : 0 < (OV).length := by rw [HOL.out]; decide
        obtain ⟨gvo, T1, LO, hgBvo⟩ := T.listb hBx hO hzz
        have hBy : Below B w11 w12 := hBx.mono T0
        have T0 : B ≤ w12.heap.size := T1.hb
        have hB0 := hB0.trans hBy
        clear T hBx hBy hO hzz
        have T := T1
        clear T1
        change TL B w12 [(p1, ((((newD Z).laid rs1).sy0.flipped q bit pat).flipped q bit pat))] (gvo :: (gvm :: (gvn :: (gvw :: [])))) at T
        obtain ⟨s6, c6, hv6, hs6, _⟩ := LO.form
        rw [HOL.out] at hv6
        simp only [Value.slice.injEq] at hv6
        obtain ⟨hsa, _, hcb⟩ := hv6
        rw [← hsa, ← hcb] at hs6
        clear hsa hcb
        obtain ⟨F, hDA, hGF, hnx⟩ := T.at 0 (by simp)
        change DA w12 B F p1 ((((newD Z).laid rs1).sy0.flipped q bit pat).flipped q bit pat) at hDA
        change ∀ (w' : World) (D' : DS), Nx B F p1 w12 D' w' → TL B w' [(p1, D')] (gvo :: (gvm :: (gvn :: (gvw :: [])))) ∧ Below B w12 w' ∧ ∀ g ∈ (gvo :: (gvm :: (gvn :: (gvw :: [])))), w'.heap[g]? = w12.heap[g]? at hnx
        refine (Write0_any w12 B F p1 ((((newD Z).laid rs1).sy0.flipped q bit pat).flipped q bit pat) hDA T0 rfl rfl q (by rw [flipped_np, flipped_np, npX]; exact hq) OV HOL.out HOB.out _ _ hs6 (by show (0 : Nat) < _; decide) (by show (0 : Int) + rs1.length < _; omega)).mono ?_
        rintro e w13 ⟨rfl, hN⟩
        obtain ⟨T1, hBy, hKx⟩ := hnx _ _ hN
        clear hnx hDA hGF hN
        have hB0 := hB0.trans hBy
        have LO := LO.keep hKx
        have T0 : B ≤ w13.heap.size := T1.hb
        clear T hBy hKx
        have T := T1
        clear T1
        change TL B w13 [(p1, (((((newD Z).laid rs1).sy0.flipped q bit pat).flipped q bit pat).wr0 ⟨q, OV⟩))] (gvo :: (gvm :: (gvn :: (gvw :: [])))) at T
        clear hs6
        go_wp2_with fail
        obtain ⟨F, hDA, hGF, hnx⟩ := T.at 0 (by simp)
        change DA w13 B F p1 (((((newD Z).laid rs1).sy0.flipped q bit pat).flipped q bit pat).wr0 ⟨q, OV⟩) at hDA
        change ∀ (w' : World) (D' : DS), Nx B F p1 w13 D' w' → TL B w' [(p1, D')] (gvo :: (gvm :: (gvn :: (gvw :: [])))) ∧ Below B w13 w' ∧ ∀ g ∈ (gvo :: (gvm :: (gvn :: (gvw :: [])))), w'.heap[g]? = w13.heap[g]? at hnx
        refine (Flip_any w13 B F p1 (((((newD Z).laid rs1).sy0.flipped q bit pat).flipped q bit pat).wr0 ⟨q, OV⟩) hDA q (by rw [wr0_np, flipped_np, flipped_np, npX]; exact hq) bit hb pat hp).mono ?_
        rintro e w14 ⟨rfl, hN⟩
        obtain ⟨T1, hBy, hKx⟩ := hnx _ _ hN
        clear hnx hDA hGF hN
        have hB0 := hB0.trans hBy
        have LO := LO.keep hKx
        have T0 : B ≤ w14.heap.size := T1.hb
        clear T hBy hKx
        have T := T1
        clear T1
        change TL B w14 [(p1, ((((((newD Z).laid rs1).sy0.flipped q bit pat).flipped q bit pat).wr0 ⟨q, OV⟩).flipped q bit pat))] (gvo :: (gvm :: (gvn :: (gvw :: [])))) at T
        go_wp2_with fail
        obtain ⟨F, hDA, hGF, hnx⟩ := T.at 0 (by simp)
        change DA w14 B F p1 ((((((newD Z).laid rs1).sy0.flipped q bit pat).flipped q bit pat).wr0 ⟨q, OV⟩).flipped q bit pat) at hDA
        change ∀ (w' : World) (D' : DS), Nx B F p1 w14 D' w' → TL B w' [(p1, D')] (gvo :: (gvm :: (gvn :: (gvw :: [])))) ∧ Below B w14 w' ∧ ∀ g ∈ (gvo :: (gvm :: (gvn :: (gvw :: [])))), w'.heap[g]? = w14.heap[g]? at hnx
        refine (Read_any w14 B F p1 ((((((newD Z).laid rs1).sy0.flipped q bit pat).flipped q bit pat).wr0 ⟨q, OV⟩).flipped q bit pat) hDA rfl q (by rw [flipped_np, wr0_np, flipped_np, flipped_np, npX]; exact hq) (by show (0 : Int) < _; decide)).mono ?_
        rintro e w15 ⟨vr, rfl, hO, hN⟩
        obtain ⟨T1, hBy, hKx⟩ := hnx _ _ hN
        clear hnx hDA hGF hN
        have hB0 := hB0.trans hBy
        have LO := LO.keep hKx
        have T0 : B ≤ w15.heap.size := T1.hb
        clear T hBy hKx
        have T := T1
        clear T1
        change TL B w15 [(p1, ({ ((((((newD Z).laid rs1).sy0.flipped q bit pat).flipped q bit pat).wr0 ⟨q, OV⟩).flipped q bit pat) with reads := ((((((newD Z).laid rs1).sy0.flipped q bit pat).flipped q bit pat).wr0 ⟨q, OV⟩).flipped q bit pat).reads + 1 } : DS))] (gvo :: (gvm :: (gvn :: (gvw :: [])))) at T
        have hrd : (((((((newD Z).laid rs1).sy0.flipped q bit pat).flipped q bit pat).wr0 ⟨q, OV⟩).flipped q bit pat)).readOf q = OV := HRD.out
        rw [hrd] at hO
        obtain ⟨s7, c7, hv7, hs7, _⟩ := hO.form
        rw [HOL.out] at hv7
        subst hv7
        clear hO hrd
        obtain ⟨s6, c6, hv6, hs6, _⟩ := LO.form
        rw [HOL.out] at hv6
        simp only [Value.slice.injEq] at hv6
        obtain ⟨hsa, _, hcb⟩ := hv6
        rw [← hsa, ← hcb] at hs6
        clear hsa hcb
        go_wp2_with fail
        refine (same_to w15 OV OV _ _ _ _ hs7 hs6 _ _ HOL.out HOL.out).mono ?_
        rintro e w16 ⟨rfl, hBx⟩
        have T := T.below hBx
        have hBy : Below B w15 w16 := hBx.mono T0
        have T0 : B ≤ w16.heap.size := T.hb
        have hB0 := hB0.trans hBy
        have LO := LO.below hBx
        clear hBx hBy
        rw [decide_eq_true rfl]
        clear hs7 hs6
        go_wp2_with fail
        obtain ⟨F, hDA, hGF, hnx⟩ := T.at 0 (by simp)
        change DA w16 B F p1 ({ ((((((newD Z).laid rs1).sy0.flipped q bit pat).flipped q bit pat).wr0 ⟨q, OV⟩).flipped q bit pat) with reads := ((((((newD Z).laid rs1).sy0.flipped q bit pat).flipped q bit pat).wr0 ⟨q, OV⟩).flipped q bit pat).reads + 1 } : DS) at hDA
        change ∀ (w' : World) (D' : DS), Nx B F p1 w16 D' w' → TL B w' [(p1, D')] (gvo :: (gvm :: (gvn :: (gvw :: [])))) ∧ Below B w16 w' ∧ ∀ g ∈ (gvo :: (gvm :: (gvn :: (gvw :: [])))), w'.heap[g]? = w16.heap[g]? at hnx
        refine (Sync0_any w16 B F p1 ({ ((((((newD Z).laid rs1).sy0.flipped q bit pat).flipped q bit pat).wr0 ⟨q, OV⟩).flipped q bit pat) with reads := ((((((newD Z).laid rs1).sy0.flipped q bit pat).flipped q bit pat).wr0 ⟨q, OV⟩).flipped q bit pat).reads + 1 } : DS) hDA rfl rfl (by show (1 : Int) < _; decide)).mono ?_
        rintro e w17 ⟨rfl, hN⟩
        obtain ⟨T1, hBy, hKx⟩ := hnx _ _ hN
        clear hnx hDA hGF hN
        have hB0 := hB0.trans hBy
        have LO := LO.keep hKx
        have T0 : B ≤ w17.heap.size := T1.hb
        clear T hBy hKx
        have T := T1
        clear T1
        change TL B w17 [(p1, (({ ((((((newD Z).laid rs1).sy0.flipped q bit pat).flipped q bit pat).wr0 ⟨q, OV⟩).flipped q bit pat) with reads := ((((((newD Z).laid rs1).sy0.flipped q bit pat).flipped q bit pat).wr0 ⟨q, OV⟩).flipped q bit pat).reads + 1 } : DS)).sy0)] (gvo :: (gvm :: (gvn :: (gvw :: [])))) at T
        go_wp2_with fail
        obtain ⟨F, hDA, hGF, hnx⟩ := T.at 0 (by simp)
        change DA w17 B F p1 (({ ((((((newD Z).laid rs1).sy0.flipped q bit pat).flipped q bit pat).wr0 ⟨q, OV⟩).flipped q bit pat) with reads := ((((((newD Z).laid rs1).sy0.flipped q bit pat).flipped q bit pat).wr0 ⟨q, OV⟩).flipped q bit pat).reads + 1 } : DS)).sy0 at hDA
        clear hnx hGF
        refine (Image_any w17 B F p1 _ hDA).mono ?_
        rintro e w18 ⟨vz, rfl, hO, hBx⟩
        have hzz : 0 < ((({ ((((((newD Z).laid rs1).sy0.flipped q bit pat).flipped q bit pat).wr0 ⟨q, OV⟩).flipped q bit pat) with reads := ((((((newD Z).laid rs1).sy0.flipped q bit pat).flipped q bit pat).wr0 ⟨q, OV⟩).flipped q bit pat).reads + 1 } : DS)).sy0.img).length := by rw [himl _ hDA.ok]; have := hDA.ok.np.1; omega
        obtain ⟨gvz, T1, LZ, hgBvz⟩ := T.listb hBx hO hzz
        have hBy : Below B w17 w18 := hBx.mono T0
        have T0 : B ≤ w18.heap.size := T1.hb
        have hB0 := hB0.trans hBy
        have LO := LO.below hBx
        have LO := LO.mono gvz
        clear T hBx hBy hO hzz
        have T := T1
        clear T1
        change TL B w18 [(p1, (({ ((((((newD Z).laid rs1).sy0.flipped q bit pat).flipped q bit pat).wr0 ⟨q, OV⟩).flipped q bit pat) with reads := ((((((newD Z).laid rs1).sy0.flipped q bit pat).flipped q bit pat).wr0 ⟨q, OV⟩).flipped q bit pat).reads + 1 } : DS)).sy0)] (gvz :: (gvo :: (gvm :: (gvn :: (gvw :: []))))) at T
        clear hDA
        obtain ⟨gz, cz, rz, hvz, _, hgz, hcz, hmz, _⟩ := own_in LZ.1 (by rw [HZL.out]; omega)
        subst hvz
        have hlz : ((({ ((((((newD Z).laid rs1).sy0.flipped q bit pat).flipped q bit pat).wr0 ⟨q, OV⟩).flipped q bit pat) with reads := ((((((newD Z).laid rs1).sy0.flipped q bit pat).flipped q bit pat).wr0 ⟨q, OV⟩).flipped q bit pat).reads + 1 } : DS)).sy0.img.length : Int) = 256 * (k : Int) := by rw [HZL.out]; omega
        have hczl : 256 * k ≤ cz := by have := HZL.out; omega
        have iz : 256 * (q : Int) + 256 ≤ (cz : Int) := by omega
        clear hcz
        obtain ⟨s6, c6, hv6, hs6, _⟩ := LO.form
        rw [HOL.out] at hv6
        simp only [Value.slice.injEq] at hv6
        obtain ⟨hsa, _, hcb⟩ := hv6
        rw [← hsa, ← hcb] at hs6
        clear hsa hcb
        go_wp2_with fail
        refine (same_to w18 (((({ ((((((newD Z).laid rs1).sy0.flipped q bit pat).flipped q bit pat).wr0 ⟨q, OV⟩).flipped q bit pat) with reads := ((((((newD Z).laid rs1).sy0.flipped q bit pat).flipped q bit pat).wr0 ⟨q, OV⟩).flipped q bit pat).reads + 1 } : DS)).sy0.img.drop (256 * q)).take 256) OV _ _ _ _ (src_part hgz (256 * q) 256 (cz - 256 * q) (by rw [HZL.out]; omega) (by omega) (by omega)) hs6 256 256 (by rw [HPT.out, HOL.out]) HOL.out).mono ?_
        rintro e w19 ⟨rfl, hBx⟩
        have T := T.below hBx
        have hBy : Below B w18 w19 := hBx.mono T0
        have T0 : B ≤ w19.heap.size := T.hb
        have hB0 := hB0.trans hBy
        have LO := LO.below hBx
        have LZ := LZ.below hBx
        clear hBx hBy
        rw [decide_eq_true HPT.out]
        go_wp2_with fail
        go_ret
        exact ⟨rfl, hB0⟩
      · have j1 : ¬ (i : Int) < 32 := by omega
        go_wp2_with fail
        obtain ⟨s3, c3, hv3, hs3, _⟩ := LN.form
        simp only [Value.slice.injEq] at hv3
        obtain ⟨rfl, _, rfl⟩ := hv3
        obtain ⟨s4, c4, hv4, hs4, _⟩ := LW.form
        simp only [Value.slice.injEq] at hv4
        obtain ⟨rfl, _, rfl⟩ := hv4
        refine (bits_to wr (((newD Z).laid rs1).sy0.flipped q bit pat).img ((newD Z).laid rs1).sy0.img HBN.out OKX.out.bts _ _ _ _ hs3 hs4 (256 * k) HNL.out HXL.out (by omega) _ _ HNL.out HXL.out).mono ?_
        rintro e w8 ⟨rfl, hBx⟩
        have T := T.below hBx
        have hBy : Below B wr w8 := hBx.mono T0
        have T0 : B ≤ w8.heap.size := T.hb
        have hB0 := hB0.trans hBy
        have LW := LW.below hBx
        have LN := LN.below hBx
        clear hBx hBy
        rw [HDF.out]
        clear hs3 hs4 LN
        go_wp2_with fail
        obtain ⟨F, hDA, hGF, hnx⟩ := T.at 0 (by simp)
        change DA w8 B F p1 (((newD Z).laid rs1).sy0.flipped q bit pat) at hDA
        change ∀ (w' : World) (D' : DS), Nx B F p1 w8 D' w' → TL B w' [(p1, D')] (gvn :: (gvw :: [])) ∧ Below B w8 w' ∧ ∀ g ∈ (gvn :: (gvw :: [])), w'.heap[g]? = w8.heap[g]? at hnx
        refine (Flip_any w8 B F p1 (((newD Z).laid rs1).sy0.flipped q bit pat) hDA q (by rw [flipped_np, npX]; exact hq) bit hb pat hp).mono ?_
        rintro e w9 ⟨rfl, hN⟩
        obtain ⟨T1, hBy, hKx⟩ := hnx _ _ hN
        clear hnx hDA hGF hN
        have hB0 := hB0.trans hBy
        have LW := LW.keep hKx
        have T0 : B ≤ w9.heap.size := T1.hb
        clear T hBy hKx
        have T := T1
        clear T1
        change TL B w9 [(p1, ((((newD Z).laid rs1).sy0.flipped q bit pat).flipped q bit pat))] (gvn :: (gvw :: [])) at T
        go_wp2_with fail
        obtain ⟨F, hDA, hGF, hnx⟩ := T.at 0 (by simp)
        change DA w9 B F p1 ((((newD Z).laid rs1).sy0.flipped q bit pat).flipped q bit pat) at hDA
        clear hnx hGF
        refine (Image_any w9 B F p1 _ hDA).mono ?_
        rintro e w10 ⟨vm, rfl, hO, hBx⟩
        have hzz : 0 < (((((newD Z).laid rs1).sy0.flipped q bit pat).flipped q bit pat).img).length := by rw [himl _ hDA.ok]; have := hDA.ok.np.1; omega
        obtain ⟨gvm, T1, LM, hgBvm⟩ := T.listb hBx hO hzz
        have hBy : Below B w9 w10 := hBx.mono T0
        have T0 : B ≤ w10.heap.size := T1.hb
        have hB0 := hB0.trans hBy
        have LW := LW.below hBx
        have LW := LW.mono gvm
        clear T hBx hBy hO hzz
        have T := T1
        clear T1
        change TL B w10 [(p1, ((((newD Z).laid rs1).sy0.flipped q bit pat).flipped q bit pat))] (gvm :: (gvn :: (gvw :: []))) at T
        clear hDA
        obtain ⟨s5, c5, hv5, hs5, _⟩ := LM.form
        subst hv5
        obtain ⟨s4, c4, hv4, hs4, _⟩ := LW.form
        simp only [Value.slice.injEq] at hv4
        obtain ⟨rfl, _, rfl⟩ := hv4
        go_wp2_with fail
        refine (same_to w10 ((((newD Z).laid rs1).sy0.flipped q bit pat).flipped q bit pat).img ((newD Z).laid rs1).sy0.img _ _ _ _ hs5 hs4 _ _ (by first | rfl | (rw [HTW.out])) rfl).mono ?_
        rintro e w11 ⟨rfl, hBx⟩
        have T := T.below hBx
        have hBy : Below B w10 w11 := hBx.mono T0
        have T0 : B ≤ w11.heap.size := T.hb
        have hB0 := hB0.trans hBy
        have LW := LW.below hBx
        have LM := LM.below hBx
        clear hBx hBy
        rw [decide_eq_true HTW.out]
        clear hs5 hs4 LM LW
        go_wp2_with (refine wpList_make_full _ rfl _ _ 28 rfl w11.heap.size 5 i5 (.int .u8 0) 1 Try.underlying28 HI.out hz5 hs5i .i64 .i64 _ _ 256 rfl rfl rfl rfl K1.out K2.out (Nat.le_refl _) ?_; intro w12 hO1 hg1; have hBx := grown_keeps hg1 (fun k hk => by cases hk) (Nat.le_refl _); have hO := made_own hO1 OV HOV.out; clear hg1 hO1)
        have hzz : 0 < (OV).length := by rw [HOL.out]; decide
        obtain ⟨gvo, T1, LO, hgBvo⟩ := T.listb hBx hO hzz
        have hBy : Below B w11 w12 := hBx.mono T0
        have T0 : B ≤ w12.heap.size := T1.hb
        have hB0 := hB0.trans hBy
        clear T hBx hBy hO hzz
        have T := T1
        clear T1
        change TL B w12 [(p1, ((((newD Z).laid rs1).sy0.flipped q bit pat).flipped q bit pat))] (gvo :: (gvm :: (gvn :: (gvw :: [])))) at T
        obtain ⟨s6, c6, hv6, hs6, _⟩ := LO.form
        rw [HOL.out] at hv6
        simp only [Value.slice.injEq] at hv6
        obtain ⟨hsa, _, hcb⟩ := hv6
        rw [← hsa, ← hcb] at hs6
        clear hsa hcb
        obtain ⟨F, hDA, hGF, hnx⟩ := T.at 0 (by simp)
        change DA w12 B F p1 ((((newD Z).laid rs1).sy0.flipped q bit pat).flipped q bit pat) at hDA
        change ∀ (w' : World) (D' : DS), Nx B F p1 w12 D' w' → TL B w' [(p1, D')] (gvo :: (gvm :: (gvn :: (gvw :: [])))) ∧ Below B w12 w' ∧ ∀ g ∈ (gvo :: (gvm :: (gvn :: (gvw :: [])))), w'.heap[g]? = w12.heap[g]? at hnx
        refine (Write0_any w12 B F p1 ((((newD Z).laid rs1).sy0.flipped q bit pat).flipped q bit pat) hDA T0 rfl rfl q (by rw [flipped_np, flipped_np, npX]; exact hq) OV HOL.out HOB.out _ _ hs6 (by show (0 : Nat) < _; decide) (by show (0 : Int) + rs1.length < _; omega)).mono ?_
        rintro e w13 ⟨rfl, hN⟩
        obtain ⟨T1, hBy, hKx⟩ := hnx _ _ hN
        clear hnx hDA hGF hN
        have hB0 := hB0.trans hBy
        have LO := LO.keep hKx
        have T0 : B ≤ w13.heap.size := T1.hb
        clear T hBy hKx
        have T := T1
        clear T1
        change TL B w13 [(p1, (((((newD Z).laid rs1).sy0.flipped q bit pat).flipped q bit pat).wr0 ⟨q, OV⟩))] (gvo :: (gvm :: (gvn :: (gvw :: [])))) at T
        clear hs6
        go_wp2_with fail
        obtain ⟨F, hDA, hGF, hnx⟩ := T.at 0 (by simp)
        change DA w13 B F p1 (((((newD Z).laid rs1).sy0.flipped q bit pat).flipped q bit pat).wr0 ⟨q, OV⟩) at hDA
        change ∀ (w' : World) (D' : DS), Nx B F p1 w13 D' w' → TL B w' [(p1, D')] (gvo :: (gvm :: (gvn :: (gvw :: [])))) ∧ Below B w13 w' ∧ ∀ g ∈ (gvo :: (gvm :: (gvn :: (gvw :: [])))), w'.heap[g]? = w13.heap[g]? at hnx
        refine (Flip_any w13 B F p1 (((((newD Z).laid rs1).sy0.flipped q bit pat).flipped q bit pat).wr0 ⟨q, OV⟩) hDA q (by rw [wr0_np, flipped_np, flipped_np, npX]; exact hq) bit hb pat hp).mono ?_
        rintro e w14 ⟨rfl, hN⟩
        obtain ⟨T1, hBy, hKx⟩ := hnx _ _ hN
        clear hnx hDA hGF hN
        have hB0 := hB0.trans hBy
        have LO := LO.keep hKx
        have T0 : B ≤ w14.heap.size := T1.hb
        clear T hBy hKx
        have T := T1
        clear T1
        change TL B w14 [(p1, ((((((newD Z).laid rs1).sy0.flipped q bit pat).flipped q bit pat).wr0 ⟨q, OV⟩).flipped q bit pat))] (gvo :: (gvm :: (gvn :: (gvw :: [])))) at T
        go_wp2_with fail
        obtain ⟨F, hDA, hGF, hnx⟩ := T.at 0 (by simp)
        change DA w14 B F p1 ((((((newD Z).laid rs1).sy0.flipped q bit pat).flipped q bit pat).wr0 ⟨q, OV⟩).flipped q bit pat) at hDA
        change ∀ (w' : World) (D' : DS), Nx B F p1 w14 D' w' → TL B w' [(p1, D')] (gvo :: (gvm :: (gvn :: (gvw :: [])))) ∧ Below B w14 w' ∧ ∀ g ∈ (gvo :: (gvm :: (gvn :: (gvw :: [])))), w'.heap[g]? = w14.heap[g]? at hnx
        refine (Read_any w14 B F p1 ((((((newD Z).laid rs1).sy0.flipped q bit pat).flipped q bit pat).wr0 ⟨q, OV⟩).flipped q bit pat) hDA rfl q (by rw [flipped_np, wr0_np, flipped_np, flipped_np, npX]; exact hq) (by show (0 : Int) < _; decide)).mono ?_
        rintro e w15 ⟨vr, rfl, hO, hN⟩
        obtain ⟨T1, hBy, hKx⟩ := hnx _ _ hN
        clear hnx hDA hGF hN
        have hB0 := hB0.trans hBy
        have LO := LO.keep hKx
        have T0 : B ≤ w15.heap.size := T1.hb
        clear T hBy hKx
        have T := T1
        clear T1
        change TL B w15 [(p1, ({ ((((((newD Z).laid rs1).sy0.flipped q bit pat).flipped q bit pat).wr0 ⟨q, OV⟩).flipped q bit pat) with reads := ((((((newD Z).laid rs1).sy0.flipped q bit pat).flipped q bit pat).wr0 ⟨q, OV⟩).flipped q bit pat).reads + 1 } : DS))] (gvo :: (gvm :: (gvn :: (gvw :: [])))) at T
        have hrd : (((((((newD Z).laid rs1).sy0.flipped q bit pat).flipped q bit pat).wr0 ⟨q, OV⟩).flipped q bit pat)).readOf q = OV := HRD.out
        rw [hrd] at hO
        obtain ⟨s7, c7, hv7, hs7, _⟩ := hO.form
        rw [HOL.out] at hv7
        subst hv7
        clear hO hrd
        obtain ⟨s6, c6, hv6, hs6, _⟩ := LO.form
        rw [HOL.out] at hv6
        simp only [Value.slice.injEq] at hv6
        obtain ⟨hsa, _, hcb⟩ := hv6
        rw [← hsa, ← hcb] at hs6
        clear hsa hcb
        go_wp2_with fail
        refine (same_to w15 OV OV _ _ _ _ hs7 hs6 _ _ HOL.out HOL.out).mono ?_
        rintro e w16 ⟨rfl, hBx⟩
        have T := T.below hBx
        have hBy : Below B w15 w16 := hBx.mono T0
        have T0 : B ≤ w16.heap.size := T.hb
        have hB0 := hB0.trans hBy
        have LO := LO.below hBx
        clear hBx hBy
        rw [decide_eq_true rfl]
        clear hs7 hs6
        go_wp2_with fail
        obtain ⟨F, hDA, hGF, hnx⟩ := T.at 0 (by simp)
        change DA w16 B F p1 ({ ((((((newD Z).laid rs1).sy0.flipped q bit pat).flipped q bit pat).wr0 ⟨q, OV⟩).flipped q bit pat) with reads := ((((((newD Z).laid rs1).sy0.flipped q bit pat).flipped q bit pat).wr0 ⟨q, OV⟩).flipped q bit pat).reads + 1 } : DS) at hDA
        change ∀ (w' : World) (D' : DS), Nx B F p1 w16 D' w' → TL B w' [(p1, D')] (gvo :: (gvm :: (gvn :: (gvw :: [])))) ∧ Below B w16 w' ∧ ∀ g ∈ (gvo :: (gvm :: (gvn :: (gvw :: [])))), w'.heap[g]? = w16.heap[g]? at hnx
        refine (Sync0_any w16 B F p1 ({ ((((((newD Z).laid rs1).sy0.flipped q bit pat).flipped q bit pat).wr0 ⟨q, OV⟩).flipped q bit pat) with reads := ((((((newD Z).laid rs1).sy0.flipped q bit pat).flipped q bit pat).wr0 ⟨q, OV⟩).flipped q bit pat).reads + 1 } : DS) hDA rfl rfl (by show (1 : Int) < _; decide)).mono ?_
        rintro e w17 ⟨rfl, hN⟩
        obtain ⟨T1, hBy, hKx⟩ := hnx _ _ hN
        clear hnx hDA hGF hN
        have hB0 := hB0.trans hBy
        have LO := LO.keep hKx
        have T0 : B ≤ w17.heap.size := T1.hb
        clear T hBy hKx
        have T := T1
        clear T1
        change TL B w17 [(p1, (({ ((((((newD Z).laid rs1).sy0.flipped q bit pat).flipped q bit pat).wr0 ⟨q, OV⟩).flipped q bit pat) with reads := ((((((newD Z).laid rs1).sy0.flipped q bit pat).flipped q bit pat).wr0 ⟨q, OV⟩).flipped q bit pat).reads + 1 } : DS)).sy0)] (gvo :: (gvm :: (gvn :: (gvw :: [])))) at T
        go_wp2_with fail
        obtain ⟨F, hDA, hGF, hnx⟩ := T.at 0 (by simp)
        change DA w17 B F p1 (({ ((((((newD Z).laid rs1).sy0.flipped q bit pat).flipped q bit pat).wr0 ⟨q, OV⟩).flipped q bit pat) with reads := ((((((newD Z).laid rs1).sy0.flipped q bit pat).flipped q bit pat).wr0 ⟨q, OV⟩).flipped q bit pat).reads + 1 } : DS)).sy0 at hDA
        clear hnx hGF
        refine (Image_any w17 B F p1 _ hDA).mono ?_
        rintro e w18 ⟨vz, rfl, hO, hBx⟩
        have hzz : 0 < ((({ ((((((newD Z).laid rs1).sy0.flipped q bit pat).flipped q bit pat).wr0 ⟨q, OV⟩).flipped q bit pat) with reads := ((((((newD Z).laid rs1).sy0.flipped q bit pat).flipped q bit pat).wr0 ⟨q, OV⟩).flipped q bit pat).reads + 1 } : DS)).sy0.img).length := by rw [himl _ hDA.ok]; have := hDA.ok.np.1; omega
        obtain ⟨gvz, T1, LZ, hgBvz⟩ := T.listb hBx hO hzz
        have hBy : Below B w17 w18 := hBx.mono T0
        have T0 : B ≤ w18.heap.size := T1.hb
        have hB0 := hB0.trans hBy
        have LO := LO.below hBx
        have LO := LO.mono gvz
        clear T hBx hBy hO hzz
        have T := T1
        clear T1
        change TL B w18 [(p1, (({ ((((((newD Z).laid rs1).sy0.flipped q bit pat).flipped q bit pat).wr0 ⟨q, OV⟩).flipped q bit pat) with reads := ((((((newD Z).laid rs1).sy0.flipped q bit pat).flipped q bit pat).wr0 ⟨q, OV⟩).flipped q bit pat).reads + 1 } : DS)).sy0)] (gvz :: (gvo :: (gvm :: (gvn :: (gvw :: []))))) at T
        clear hDA
        obtain ⟨gz, cz, rz, hvz, _, hgz, hcz, hmz, _⟩ := own_in LZ.1 (by rw [HZL.out]; omega)
        subst hvz
        have hlz : ((({ ((((((newD Z).laid rs1).sy0.flipped q bit pat).flipped q bit pat).wr0 ⟨q, OV⟩).flipped q bit pat) with reads := ((((((newD Z).laid rs1).sy0.flipped q bit pat).flipped q bit pat).wr0 ⟨q, OV⟩).flipped q bit pat).reads + 1 } : DS)).sy0.img.length : Int) = 256 * (k : Int) := by rw [HZL.out]; omega
        have hczl : 256 * k ≤ cz := by have := HZL.out; omega
        have iz : 256 * (q : Int) + 256 ≤ (cz : Int) := by omega
        clear hcz
        obtain ⟨s6, c6, hv6, hs6, _⟩ := LO.form
        rw [HOL.out] at hv6
        simp only [Value.slice.injEq] at hv6
        obtain ⟨hsa, _, hcb⟩ := hv6
        rw [← hsa, ← hcb] at hs6
        clear hsa hcb
        go_wp2_with fail
        refine (same_to w18 (((({ ((((((newD Z).laid rs1).sy0.flipped q bit pat).flipped q bit pat).wr0 ⟨q, OV⟩).flipped q bit pat) with reads := ((((((newD Z).laid rs1).sy0.flipped q bit pat).flipped q bit pat).wr0 ⟨q, OV⟩).flipped q bit pat).reads + 1 } : DS)).sy0.img.drop (256 * q)).take 256) OV _ _ _ _ (src_part hgz (256 * q) 256 (cz - 256 * q) (by rw [HZL.out]; omega) (by omega) (by omega)) hs6 256 256 (by rw [HPT.out, HOL.out]) HOL.out).mono ?_
        rintro e w19 ⟨rfl, hBx⟩
        have T := T.below hBx
        have hBy : Below B w18 w19 := hBx.mono T0
        have T0 : B ≤ w19.heap.size := T.hb
        have hB0 := hB0.trans hBy
        have LO := LO.below hBx
        have LZ := LZ.below hBx
        clear hBx hBy
        rw [decide_eq_true HPT.out]
        go_wp2_with fail
        go_ret
        exact ⟨rfl, hB0⟩
theorem flips_walk (w : World) (n : Int) (hn0 : -9223372036854775808 ≤ n) (hn1 : n ≤ 9223372036854775807) (rs1 : List WR) (hr1 : ∀ r ∈ rs1, WrOk r) (sp1 : Option Addr) (cap1 : Nat) (W1 : Wrs w w.heap.size sp1 rs1) (hl1 : rs1.length ≤ 1048576) (pg0 bit0 pat0 : Int) (h0 : 0 ≤ pat0) (h1 : pat0 ≤ 4294967295) :
    Calls Try.prog 7 #[.int .i64 n, .slice sp1 rs1.length cap1, .int .i64 pg0, .int .i64 bit0, .int .u32 pat0] w fun e w' => e = .returned (.bool true) ∧ Below w.heap.size w w' := by
  by_cases c1 : pg0 < 0
  · exact flips_neg w n hn0 hn1 rs1 hr1 sp1 cap1 W1 hl1 pg0 c1 bit0 _
  · by_cases c2 : (((n % 8).toNat + 3 : Nat) : Int) ≤ pg0
    · exact flips_big w n hn0 hn1 rs1 hr1 sp1 cap1 W1 hl1 pg0 c2 bit0 _
    · by_cases c3 : bit0 < 0
      · exact flips_bit w n hn0 hn1 rs1 hr1 sp1 cap1 W1 hl1 pg0 c1 (by omega) bit0 c3 _
      · by_cases c4 : 2048 ≤ bit0
        · exact flips_out w n hn0 hn1 rs1 hr1 sp1 cap1 W1 hl1 pg0 c1 (by omega) bit0 c4 _
        · obtain ⟨q, rfl⟩ := Int.eq_ofNat_of_zero_le (show 0 ≤ pg0 by omega)
          obtain ⟨b, rfl⟩ := Int.eq_ofNat_of_zero_le (show 0 ≤ bit0 by omega)
          obtain ⟨p, rfl⟩ := Int.eq_ofNat_of_zero_le h0
          exact flips_ok w n hn0 hn1 rs1 hr1 sp1 cap1 W1 hl1 q (by omega) b (by omega) p (by omega)
end Go.Proofs.Ytcibcakgheegbaa
