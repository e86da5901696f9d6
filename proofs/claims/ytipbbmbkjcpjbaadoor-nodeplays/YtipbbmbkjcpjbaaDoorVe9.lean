import Derived.Test.YtipbbmbkjcpjbaaDoorVd9
namespace Go.Proofs.YtipbbmbkjcpjbaaDoor
set_option linter.unusedVariables false
set_option linter.unusedSimpArgs false
open Go.RowKit
attribute [local go_sem ↓] Go.wp_at_zero Go.wp_at_succ

/-- The bit i of a key. -/
def bitK (k : List Int) (i : Nat) : Int := k.getD (i / 8) 0 / 2 ^ (7 - i % 8) % 2
def Byts (zs : List Int) : Prop := ∀ x ∈ zs, 0 ≤ x ∧ x < 256
theorem Byts.get {zs : List Int} (h : Byts zs) (j : Nat) : 0 ≤ zs.getD j 0 ∧ zs.getD j 0 < 256 := by
  by_cases hj : j < zs.length
  · rw [List.getD_eq_getElem?_getD, List.getElem?_eq_getElem hj]; exact h _ (List.getElem_mem hj)
  · rw [List.getD_eq_getElem?_getD, List.getElem?_eq_none (by omega)]; simp
theorem and_one_nat : ∀ n, n < 256 → bits .and .i64 (wrap64 ((n : Nat) : Int)) 1 = ((n % 2 : Nat) : Int) := by decide +kernel
theorem and_one {x : Int} (h0 : 0 ≤ x) (h1 : x < 256) : bits .and .i64 (wrap64 x) 1 = x % 2 := by
  obtain ⟨n, rfl⟩ := Int.eq_ofNat_of_zero_le h0
  rw [and_one_nat n (by omega)]; rfl
theorem shr_bd {x : Int} (h0 : 0 ≤ x) (h1 : x < 256) (p : Nat) : 0 ≤ x / 2 ^ p ∧ x / 2 ^ p < 256 := by
  have hp : (0 : Int) < 2 ^ p := Int.pow_pos (by decide)
  refine ⟨Int.ediv_nonneg h0 (by omega), Int.lt_of_le_of_lt (Int.ediv_le_self _ h0) h1⟩
theorem bitK_01 (k : List Int) (i : Nat) : bitK k i = 0 ∨ bitK k i = 1 := by unfold bitK; omega
set_option maxRecDepth 100000 in
set_option maxHeartbeats 400000 in
theorem Bit_in (w : World) (k : List Int) (hk : k.length = 32) (hb : Byts k) (i : Nat) (hi : i < 256) :
    Calls Tryd.prog 44 #[.agg (ints .u8 k).toArray, .int .i64 i] w fun e w' => e = .returned (.int .i64 (bitK k i)) ∧ Below w.heap.size w w' := by
  have i1 : (i : Int) < 256 := by omega
  have hx := hb.get (i / 8)
  go_enter Tryd.func44, Tryd.ntmps44
  have c0 : (w.alloc (.cells (ints .u8 k).toArray 26)).cell? ⟨w.heap.size, i / 8, none⟩ = some (.int .u8 (k.getD (i / 8) 0)) := cell_ints (hnew w _) (i / 8) (by omega)
  go_wp2
  go_ret
  refine ⟨?_, (Below.refl _ _).alloc (Nat.le_refl _) _⟩
  simp only [List.getD_eq_getElem?_getD] at hx
  have hs := shr_bd hx.1 hx.2 (7 - i % 8)
  have := and_one hs.1 hs.2
  simp only [Array.getD]
  exact congrArg (fun z => Ending.returned (Value.int .i64 z)) (by rw [this]; simp [bitK])

/-- One step up: beside the empty subtree of its height. -/
def stepD (k : Int) (ks : List Int) (h : Nat) (d : List Int) : List Int := if bitK ks (255 - h) = 0 then branchD k d (emptyD k h) else branchD k (emptyD k h) d
/-- So many steps up from a height. -/
def climbTo (k : Int) (ks : List Int) (a : Nat) (d : List Int) : Nat → List Int
  | 0 => d
  | j + 1 => stepD k ks (a + j) (climbTo k ks a d j)
def climbD (k : Int) (ks : List Int) (a : Nat) (d : List Int) (c : Nat) : List Int := if c ≤ a then cutZ d (kept k) else climbTo k ks a d (c - a)
theorem stepD_len (k : Int) (ks : List Int) (h : Nat) (d : List Int) : (stepD k ks h d).length = 32 := by unfold stepD; split <;> exact branchD_len _ _ _
theorem climbTo_len (k : Int) (ks : List Int) (a : Nat) (d : List Int) (h : d.length = 32) : ∀ j, (climbTo k ks a d j).length = 32
  | 0 => h
  | j + 1 => stepD_len _ _ _ _
theorem climbD_len (k : Int) (ks : List Int) (a : Nat) (d : List Int) (c : Nat) (h : d.length = 32) : (climbD k ks a d c).length = 32 := by
  unfold climbD; split
  · exact cutZ_len _ _ h
  · exact climbTo_len _ _ _ _ h _
theorem empty_to (w : World) (hG : Glob w) (k h : Int) (D : List Int) (hD : emptyD k (hgt h) = D) :
    Calls Tryd.prog 28 #[.int .i64 k, .int .i64 h] w fun e w' => e = .returned (.agg (ints .u8 D).toArray) ∧ Below w.heap.size w w' := by
  rw [← hD]; exact empty_any w hG k h

set_option maxRecDepth 100000 in
set_option maxHeartbeats 1000000 in
theorem climb_lo (w : World) (hG : Glob w) (k : Int) (ks : List Int) (hk : ks.length = 32) (hby : Byts ks) (a c : Int) (ds : List Int) (hd : ds.length = 32) (hac : hgt c ≤ hgt a) :
    Calls Tryd.prog 30 #[.int .i64 k, .agg (ints .u8 ks).toArray, .int .i64 a, .agg (ints .u8 ds).toArray, .int .i64 c] w fun e w' => e = .returned (.agg (ints .u8 (cutZ ds (kept k))).toArray) ∧ Below w.heap.size w w' := by
  have KA := hid (within_any a)
  have KC := hid (within_any c)
  have ha := hgt_le a
  have hc := hgt_le c
  have HA := hid (show hgt (hgt a : Int) = hgt a by have := hgt_le a; unfold hgt at this ⊢; omega)
  generalize hgt a = na at *
  generalize hgt c = nc at *
  have hz32 : z32.length = 32 := rfl
  have hB1 := ((((Below.refl w.heap.size w).alloc (Nat.le_refl _) (.cells (ints .u8 ks).toArray 26)).alloc (by simp) (.cells (ints .u8 ds).toArray 27)).alloc (by simp; omega) (.cells (ints .u8 z32).toArray 27))
  have g0 : (((w.alloc (.cells (ints .u8 ks).toArray 26)).alloc (.cells (ints .u8 ds).toArray 27)).alloc (.cells (ints .u8 z32).toArray 27)).heap[w.heap.size]? = some (.cells (ints .u8 ks).toArray 26) := by
    have h := hnew w (.cells (ints .u8 ks).toArray 26)
    exact hold (hold (h))
  have g1 : (((w.alloc (.cells (ints .u8 ks).toArray 26)).alloc (.cells (ints .u8 ds).toArray 27)).alloc (.cells (ints .u8 z32).toArray 27)).heap[w.heap.size + 1]? = some (.cells (ints .u8 ds).toArray 27) := by
    have h := hnew (w.alloc (.cells (ints .u8 ks).toArray 26)) (.cells (ints .u8 ds).toArray 27)
    rw [show (w.alloc (.cells (ints .u8 ks).toArray 26)).heap.size = w.heap.size + 1 by simp] at h
    exact hold (h)
  have g2 : (((w.alloc (.cells (ints .u8 ks).toArray 26)).alloc (.cells (ints .u8 ds).toArray 27)).alloc (.cells (ints .u8 z32).toArray 27)).heap[w.heap.size + 1 + 1]? = some (.cells (ints .u8 z32).toArray 27) := by
    have h := hnew ((w.alloc (.cells (ints .u8 ks).toArray 26)).alloc (.cells (ints .u8 ds).toArray 27)) (.cells (ints .u8 z32).toArray 27)
    rw [show ((w.alloc (.cells (ints .u8 ks).toArray 26)).alloc (.cells (ints .u8 ds).toArray 27)).heap.size = w.heap.size + 1 + 1 by simp] at h
    exact h
  have hs1 : (((w.alloc (.cells (ints .u8 ks).toArray 26)).alloc (.cells (ints .u8 ds).toArray 27)).alloc (.cells (ints .u8 z32).toArray 27)).heap.size = w.heap.size + 1 + 1 + 1 := by simp
  have hcl := cutZ_len ds (kept k) hd
  have KU := hid (cutD_any ds hd k)
  generalize cutZ ds (kept k) = D at *
  have i1 : (nc : Int) ≤ (na : Int) := by omega
  go_enter Tryd.func30, Tryd.ntmps30
  go_wp2_with (first | refine wpList_load_row rfl 27 _ rfl _ rfl 27 _ _ _ g1 Tryd.underlying27 rfl (by rw [ints_size, hd]; rfl) ?_ | (go_at_call 43; refine (KA.out _).mono ?_; rintro e w5 ⟨rfl, rfl⟩; clear KA) | (go_at_call 43; refine (KC.out _).mono ?_; rintro e w5 ⟨rfl, rfl⟩; clear KC))
  refine (KU.out _).mono ?_
  rintro e w2 ⟨rfl, hB2⟩
  have q2 := hbel hB2 g2 (hlt g2)
  have hB2' := hB1.trans (hB2.mono hB1.size)
  have ho := all_oneCell_toArray (ints_one .u8 D)
  clear KU g0 g1 g2 hs1 hB1 hB2
  go_wp2_with (first | refine wpList_store_row rfl 27 _ _ rfl _ _ rfl rfl 27 _ q2 (by rw [Tryd.size27, ints_size, hcl]) (by rw [ints_size, ints_size, hcl, hz32]) ho ?_)
  exact bodyPost_ret (v := .agg (ints .u8 D).toArray) (results_cell_row Tryd.results30 _ _ (w.heap.size + 1 + 1) 27 _ _ _ rfl (setRow_heap _ _ _ _ _ _ q2) Tryd.underlying27 rfl (by rw [Tryd.size27, ints_size, hcl])) rfl ⟨rfl, below_setRow hB2' (by omega) _⟩
set_option maxRecDepth 100000 in
set_option maxHeartbeats 1000000 in
theorem climb_hi (w : World) (hG : Glob w) (k : Int) (ks : List Int) (hk : ks.length = 32) (hby : Byts ks) (a c : Int) (ds : List Int) (hd : ds.length = 32) (hac : hgt a < hgt c) :
    Calls Tryd.prog 30 #[.int .i64 k, .agg (ints .u8 ks).toArray, .int .i64 a, .agg (ints .u8 ds).toArray, .int .i64 c] w fun e w' => e = .returned (.agg (ints .u8 (climbTo k ks (hgt a) ds (hgt c - hgt a))).toArray) ∧ Below w.heap.size w w' := by
  have KA := hid (within_any a)
  have KC := hid (within_any c)
  have ha := hgt_le a
  have hc := hgt_le c
  have HA := hid (show hgt (hgt a : Int) = hgt a by have := hgt_le a; unfold hgt at this ⊢; omega)
  generalize hgt a = na at *
  generalize hgt c = nc at *
  have hz32 : z32.length = 32 := rfl
  have hB1 := ((((Below.refl w.heap.size w).alloc (Nat.le_refl _) (.cells (ints .u8 ks).toArray 26)).alloc (by simp) (.cells (ints .u8 ds).toArray 27)).alloc (by simp; omega) (.cells (ints .u8 z32).toArray 27))
  have g0 : (((w.alloc (.cells (ints .u8 ks).toArray 26)).alloc (.cells (ints .u8 ds).toArray 27)).alloc (.cells (ints .u8 z32).toArray 27)).heap[w.heap.size]? = some (.cells (ints .u8 ks).toArray 26) := by
    have h := hnew w (.cells (ints .u8 ks).toArray 26)
    exact hold (hold (h))
  have g1 : (((w.alloc (.cells (ints .u8 ks).toArray 26)).alloc (.cells (ints .u8 ds).toArray 27)).alloc (.cells (ints .u8 z32).toArray 27)).heap[w.heap.size + 1]? = some (.cells (ints .u8 ds).toArray 27) := by
    have h := hnew (w.alloc (.cells (ints .u8 ks).toArray 26)) (.cells (ints .u8 ds).toArray 27)
    rw [show (w.alloc (.cells (ints .u8 ks).toArray 26)).heap.size = w.heap.size + 1 by simp] at h
    exact hold (h)
  have g2 : (((w.alloc (.cells (ints .u8 ks).toArray 26)).alloc (.cells (ints .u8 ds).toArray 27)).alloc (.cells (ints .u8 z32).toArray 27)).heap[w.heap.size + 1 + 1]? = some (.cells (ints .u8 z32).toArray 27) := by
    have h := hnew ((w.alloc (.cells (ints .u8 ks).toArray 26)).alloc (.cells (ints .u8 ds).toArray 27)) (.cells (ints .u8 z32).toArray 27)
    rw [show ((w.alloc (.cells (ints .u8 ks).toArray 26)).alloc (.cells (ints .u8 ds).toArray 27)).heap.size = w.heap.size + 1 + 1 by simp] at h
    exact h
  have hs1 : (((w.alloc (.cells (ints .u8 ks).toArray 26)).alloc (.cells (ints .u8 ds).toArray 27)).alloc (.cells (ints .u8 z32).toArray 27)).heap.size = w.heap.size + 1 + 1 + 1 := by simp
  have i1 : (na : Int) < (nc : Int) := by omega
  have i2 : (nc : Int) ≤ 256 := by omega
  go_enter Tryd.func30, Tryd.ntmps30
  go_wp2_with (first | (go_at_call 43; refine (KA.out _).mono ?_; rintro e w5 ⟨rfl, rfl⟩; clear KA) | (go_at_call 43; refine (KC.out _).mono ?_; rintro e w5 ⟨rfl, rfl⟩; clear KC))
  show Calls Tryd.prog 28 _ (((w.alloc (.cells (ints .u8 ks).toArray 26)).alloc (.cells (ints .u8 ds).toArray 27)).alloc (.cells (ints .u8 z32).toArray 27)) _
  generalize (((w.alloc (.cells (ints .u8 ks).toArray 26)).alloc (.cells (ints .u8 ds).toArray 27)).alloc (.cells (ints .u8 z32).toArray 27)) = w1 at *
  refine (empty_to w1 (hG.below hB1 hG.1) k na (emptyD k na) (by rw [HA.out])).mono ?_
  rintro e w2 ⟨rfl, hB2⟩
  have p2 := hold (o := (.cells (ints .u8 z32).toArray 27)) (hbel hB2 g0 (hlt g0))
  have q2 := hold (o := (.cells (ints .u8 z32).toArray 27)) (hbel hB2 g1 (hlt g1))
  have r2 := hold (o := (.cells (ints .u8 z32).toArray 27)) (hbel hB2 g2 (hlt g2))
  have s2 := hnew w2 (.cells (ints .u8 z32).toArray 27)
  have hE : w.heap.size + 1 + 1 < w2.heap.size := Nat.lt_of_lt_of_le (hlt g2) hB2.size
  have hB2' := (hB1.trans (hB2.mono hB1.size)).alloc (by omega) (.cells (ints .u8 z32).toArray 27)
  have hel := emptyD_len k na
  have ho := all_oneCell_toArray (ints_one .u8 (emptyD k na))
  clear g0 g1 g2 hs1 hB1 hB2
  go_wp2_with (first | refine wpList_store_row rfl 27 _ _ rfl _ _ rfl rfl 27 _ s2 (by rw [Tryd.size27, ints_size, hel]) (by rw [ints_size, ints_size, hel, hz32]) ho ?_)
  have hbs := below_setRow hB2' (by omega : w.heap.size ≤ w2.heap.size) (ints .u8 (emptyD k na)).toArray
  have p3 := (setRow_other (w2.alloc (.cells (ints .u8 z32).toArray 27)) w2.heap.size w.heap.size (ints .u8 (emptyD k na)).toArray (by omega)).trans p2
  have q3 := (setRow_other (w2.alloc (.cells (ints .u8 z32).toArray 27)) w2.heap.size (w.heap.size + 1) (ints .u8 (emptyD k na)).toArray (by omega)).trans q2
  have r3 := (setRow_other (w2.alloc (.cells (ints .u8 z32).toArray 27)) w2.heap.size (w.heap.size + 1 + 1) (ints .u8 (emptyD k na)).toArray (by omega)).trans r2
  have s3 := dig_set (E := emptyD k na) s2
  generalize w2.heap.size = E at *
  clear p2 q2 r2 s2 hB2' ho hel
  go_loopw [12] (fun i wr => ∃ j : Nat, na + j ≤ nc ∧ i = .int .i64 ((na + j : Nat) : Int) ∧ wr.heap[w.heap.size]? = some (.cells (ints .u8 ks).toArray 26) ∧ wr.heap[w.heap.size + 1]? = some (.cells (ints .u8 (climbTo k ks na ds j)).toArray 27) ∧ wr.heap[w.heap.size + 1 + 1]? = some (.cells (ints .u8 z32).toArray 27) ∧ wr.heap[E]? = some (.cells (ints .u8 (emptyD k (na + j))).toArray 27) ∧ Below w.heap.size w wr) (fun i _ => nc - (intOf i).toNat)
  case atStart => exact ⟨0, by omega, rfl, p3, q3, r3, s3, hbs⟩
  case round =>
    clear p3 q3 r3 s3 hbs
    obtain ⟨j, hj, rfl, p, q, r, s, hB⟩ := hrel
    have hcl := climbTo_len k ks na ds hd j
    by_cases hlt' : na + j < nc
    · generalize hm : na + j = m at *
      have HM := hid hm
      have i3 : (m : Int) < (nc : Int) := by omega
      have hGr := hG.below hB hG.1
      have hel := emptyD_len k m
      have hel2 := emptyD_len k (m + 1)
      have hcl2 := climbTo_len k ks na ds hd (j + 1)
      have KBit := hid (Bit_in wr ks hk hby (255 - m) (by omega))
      rw [show ((255 - m : Nat) : Int) = 255 - (m : Int) by omega] at KBit
      have HS := hid (show climbTo k ks na ds (j + 1) = stepD k ks m (climbTo k ks na ds j) by rw [← hm]; rfl)
      have HEE := hid (show emptyD k (na + (j + 1)) = emptyD k (m + 1) by rw [← hm]; rfl)
      have KBE := hid (fun w2 hG2 => branch_to w2 hG2 k (emptyD k m) (emptyD k m) (emptyD k (m + 1)) hel hel rfl)
      have h01 := bitK_01 ks (255 - m)
      by_cases hb : bitK ks (255 - m) = 0
      · have KS := hid (fun w2 hG2 => branch_to w2 hG2 k (climbTo k ks na ds j) (emptyD k m) (climbTo k ks na ds (j + 1)) hcl hel (by rw [HS.out, stepD, if_pos hb]))
        rw [hb] at KBit
        clear hb h01 HS hm
        generalize hX : climbTo k ks na ds (j + 1) = X at *
        have HX := hid hX
        clear hX
        generalize climbTo k ks na ds j = Y at *
        generalize emptyD k (m + 1) = E2 at *
        generalize emptyD k m = E1 at *
        go_wp2_with (first | refine wpList_load_row rfl 26 _ rfl _ rfl 26 _ _ _ p Tryd.underlying26 rfl (by rw [ints_size, hk]; rfl) ?_)
        refine KBit.out.mono ?_
        rintro e w7 ⟨rfl, hB7⟩
        have p7 := hbel hB7 p (hlt p)
        have q7 := hbel hB7 q (hlt q)
        have r7 := hbel hB7 r (hlt r)
        have s7 := hbel hB7 s (hlt s)
        have hB7' := hB.trans (hB7.mono hB.size)
        clear KBit hB7 p q r s hGr
        go_wp2_with (first | refine wpList_load_row rfl 27 _ rfl _ rfl 27 _ _ _ q7 Tryd.underlying27 rfl (by rw [ints_size, hcl]; rfl) ?_ | refine wpList_load_row rfl 27 _ rfl _ rfl 27 _ _ _ s7 Tryd.underlying27 rfl (by rw [ints_size, hel]; rfl) ?_)
        refine (KS.out w7 (hG.below hB7' hG.1)).mono ?_
        rintro e w8 ⟨rfl, hB8⟩
        have p8 := hbel hB8 p7 (hlt p7)
        have q8 := hbel hB8 q7 (hlt q7)
        have r8 := hbel hB8 r7 (hlt r7)
        have s8 := hbel hB8 s7 (hlt s7)
        have hB8' := hB7'.trans (hB8.mono hB7'.size)
        have ho := all_oneCell_toArray (ints_one .u8 X)
        have p9 := (setRow_other w8 (w.heap.size + 1) w.heap.size (ints .u8 X).toArray (by omega)).trans p8
        have r9 := (setRow_other w8 (w.heap.size + 1) (w.heap.size + 1 + 1) (ints .u8 X).toArray (by omega)).trans r8
        have s9 := (setRow_other w8 (w.heap.size + 1) E (ints .u8 X).toArray (by omega)).trans s8
        have q9 := dig_set (E := X) q8
        have hB9 := below_setRow hB8' (by omega : w.heap.size ≤ w.heap.size + 1) (ints .u8 X).toArray
        clear KS hB8 p7 q7 r7 s7 hB7'
        go_wp2_with (first | refine wpList_store_row rfl 27 _ _ rfl _ _ rfl rfl 27 _ q8 (by rw [Tryd.size27, ints_size, hcl2]) (by rw [ints_size, ints_size, hcl2, hcl]) ho ?_ | refine wpList_load_row rfl 27 _ rfl _ rfl 27 _ _ _ s9 Tryd.underlying27 rfl (by rw [ints_size, hel]; rfl) ?_)
        generalize w8.setRow (w.heap.size + 1) (ints .u8 X).toArray = w9 at *
        refine (KBE.out w9 (hG.below hB9 hG.1)).mono ?_
        rintro e wa ⟨rfl, hBa⟩
        have pa := hbel hBa p9 (hlt p9)
        have qa := hbel hBa q9 (hlt q9)
        have ra := hbel hBa r9 (hlt r9)
        have sa := hbel hBa s9 (hlt s9)
        have hBa' := hB9.trans (hBa.mono hB9.size)
        have ho := all_oneCell_toArray (ints_one .u8 E2)
        clear KBE hBa p8 q8 r8 s8 hB8' p9 q9 r9 s9 hB9
        go_wp2_with (first | refine wpList_store_row rfl 27 _ _ rfl _ _ rfl rfl 27 _ sa (by rw [Tryd.size27, ints_size, hel2]) (by rw [ints_size, ints_size, hel2, hel]) ho ?_)
        go_roundw
        case rel => exact ⟨j + 1, by have := HM.out; omega, by have := HM.out; rw [show na + (j + 1) = m + 1 by omega]; go_num, (setRow_other _ _ _ _ (by omega)).trans pa, by rw [HX.out]; exact (setRow_other _ _ _ _ (by omega)).trans qa, (setRow_other _ _ _ _ (by omega)).trans ra, by rw [HEE.out]; exact dig_set sa, below_setRow hBa' (by omega) _⟩
        case measure => simp [intOf]; omega
      · have hb1 : bitK ks (255 - m) = 1 := by rcases h01 with h | h; exact absurd h hb; exact h
        have KS := hid (fun w2 hG2 => branch_to w2 hG2 k (emptyD k m) (climbTo k ks na ds j) (climbTo k ks na ds (j + 1)) hel hcl (by rw [HS.out, stepD, if_neg hb]))
        rw [hb1] at KBit
        clear hb hb1 h01 HS hm
        generalize hX : climbTo k ks na ds (j + 1) = X at *
        have HX := hid hX
        clear hX
        generalize climbTo k ks na ds j = Y at *
        generalize emptyD k (m + 1) = E2 at *
        generalize emptyD k m = E1 at *
        go_wp2_with (first | refine wpList_load_row rfl 26 _ rfl _ rfl 26 _ _ _ p Tryd.underlying26 rfl (by rw [ints_size, hk]; rfl) ?_)
        refine KBit.out.mono ?_
        rintro e w7 ⟨rfl, hB7⟩
        have p7 := hbel hB7 p (hlt p)
        have q7 := hbel hB7 q (hlt q)
        have r7 := hbel hB7 r (hlt r)
        have s7 := hbel hB7 s (hlt s)
        have hB7' := hB.trans (hB7.mono hB.size)
        clear KBit hB7 p q r s hGr
        go_wp2_with (first | refine wpList_load_row rfl 27 _ rfl _ rfl 27 _ _ _ q7 Tryd.underlying27 rfl (by rw [ints_size, hcl]; rfl) ?_ | refine wpList_load_row rfl 27 _ rfl _ rfl 27 _ _ _ s7 Tryd.underlying27 rfl (by rw [ints_size, hel]; rfl) ?_)
        refine (KS.out w7 (hG.below hB7' hG.1)).mono ?_
        rintro e w8 ⟨rfl, hB8⟩
        have p8 := hbel hB8 p7 (hlt p7)
        have q8 := hbel hB8 q7 (hlt q7)
        have r8 := hbel hB8 r7 (hlt r7)
        have s8 := hbel hB8 s7 (hlt s7)
        have hB8' := hB7'.trans (hB8.mono hB7'.size)
        have ho := all_oneCell_toArray (ints_one .u8 X)
        have p9 := (setRow_other w8 (w.heap.size + 1) w.heap.size (ints .u8 X).toArray (by omega)).trans p8
        have r9 := (setRow_other w8 (w.heap.size + 1) (w.heap.size + 1 + 1) (ints .u8 X).toArray (by omega)).trans r8
        have s9 := (setRow_other w8 (w.heap.size + 1) E (ints .u8 X).toArray (by omega)).trans s8
        have q9 := dig_set (E := X) q8
        have hB9 := below_setRow hB8' (by omega : w.heap.size ≤ w.heap.size + 1) (ints .u8 X).toArray
        clear KS hB8 p7 q7 r7 s7 hB7'
        go_wp2_with (first | refine wpList_store_row rfl 27 _ _ rfl _ _ rfl rfl 27 _ q8 (by rw [Tryd.size27, ints_size, hcl2]) (by rw [ints_size, ints_size, hcl2, hcl]) ho ?_ | refine wpList_load_row rfl 27 _ rfl _ rfl 27 _ _ _ s9 Tryd.underlying27 rfl (by rw [ints_size, hel]; rfl) ?_)
        generalize w8.setRow (w.heap.size + 1) (ints .u8 X).toArray = w9 at *
        refine (KBE.out w9 (hG.below hB9 hG.1)).mono ?_
        rintro e wa ⟨rfl, hBa⟩
        have pa := hbel hBa p9 (hlt p9)
        have qa := hbel hBa q9 (hlt q9)
        have ra := hbel hBa r9 (hlt r9)
        have sa := hbel hBa s9 (hlt s9)
        have hBa' := hB9.trans (hBa.mono hB9.size)
        have ho := all_oneCell_toArray (ints_one .u8 E2)
        clear KBE hBa p8 q8 r8 s8 hB8' p9 q9 r9 s9 hB9
        go_wp2_with (first | refine wpList_store_row rfl 27 _ _ rfl _ _ rfl rfl 27 _ sa (by rw [Tryd.size27, ints_size, hel2]) (by rw [ints_size, ints_size, hel2, hel]) ho ?_)
        go_roundw
        case rel => exact ⟨j + 1, by have := HM.out; omega, by have := HM.out; rw [show na + (j + 1) = m + 1 by omega]; go_num, (setRow_other _ _ _ _ (by omega)).trans pa, by rw [HX.out]; exact (setRow_other _ _ _ _ (by omega)).trans qa, (setRow_other _ _ _ _ (by omega)).trans ra, by rw [HEE.out]; exact dig_set sa, below_setRow hBa' (by omega) _⟩
        case measure => simp [intOf]; omega
    · obtain rfl : nc = na + j := by omega
      clear hlt'
      generalize hX : climbTo k ks na ds j = X at *
      have HX := hid hX
      clear hX
      have ho := all_oneCell_toArray (ints_one .u8 X)
      go_wp2_with (first | refine wpList_load_row rfl 27 _ rfl _ rfl 27 _ _ _ q Tryd.underlying27 rfl (by rw [ints_size, hcl]; rfl) ?_ | refine wpList_store_row rfl 27 _ _ rfl _ _ rfl rfl 27 _ r (by rw [Tryd.size27, ints_size, hcl]) (by rw [ints_size, ints_size, hcl, hz32]) ho ?_)
      exact bodyPost_ret (v := .agg (ints .u8 X).toArray) (results_cell_row Tryd.results30 _ _ (w.heap.size + 1 + 1) 27 _ _ _ rfl (setRow_heap _ _ _ _ _ _ r) Tryd.underlying27 rfl (by rw [Tryd.size27, ints_size, hcl])) rfl ⟨by rw [show na + j - na = j by omega, HX.out], below_setRow hB (by omega) _⟩
theorem climb_any (w : World) (hG : Glob w) (k : Int) (ks : List Int) (hk : ks.length = 32) (hby : Byts ks) (a c : Int) (ds : List Int) (hd : ds.length = 32) :
    Calls Tryd.prog 30 #[.int .i64 k, .agg (ints .u8 ks).toArray, .int .i64 a, .agg (ints .u8 ds).toArray, .int .i64 c] w fun e w' => e = .returned (.agg (ints .u8 (climbD k ks (hgt a) ds (hgt c))).toArray) ∧ Below w.heap.size w w' := by
  unfold climbD
  split
  · exact climb_lo w hG k ks hk hby a c ds hd (by assumption)
  · exact climb_hi w hG k ks hk hby a c ds hd (by omega)
end Go.Proofs.YtipbbmbkjcpjbaaDoor
