import Derived.Test.YtpmjijadjblkeaaDoorUb
namespace Go.Proofs.YtpmjijadjblkeaaDoor
set_option linter.unusedVariables false
set_option linter.unusedSimpArgs false
open Go.RowKit
attribute [local go_sem ↓] Go.wp_at_zero Go.wp_at_succ

theorem src_row {w : World} {g t : Nat} {zs tl : List Int} (h : w.heap[g]? = some (.cells (ints .u8 (zs ++ tl)).toArray t)) (cap : Nat) (hc : zs.length ≤ cap) (hm : cap ≤ maxLen) : Src w (some ⟨g, 0, none⟩) cap zs := by
  refine ⟨hc, hm, g, 0, hlt h, fun _ => rfl, fun j hj => ?_⟩
  rw [Nat.zero_add, cell_ints h j (by rw [List.length_append]; omega), List.getD_eq_getElem?_getD, List.getElem?_append_left hj, List.getD_eq_getElem?_getD]
/-- A list whose first n are those of another. -/
def overTo (us bs : List Int) (n : Nat) : List Int := us.take n ++ bs.drop n
theorem overTo_len (us bs : List Int) (n : Nat) (h : us.length = bs.length) (hn : n ≤ bs.length) : (overTo us bs n).length = bs.length := by simp [overTo]; omega
theorem overTo_set (us bs : List Int) (n : Nat) (h : us.length = bs.length) (hn : n < bs.length) : (overTo us bs n).set n (us[n]?.getD 0) = overTo us bs (n + 1) := by
  unfold overTo
  rw [List.set_append_right _ _ (by simp; omega), List.length_take, show n - min n us.length = 0 by omega, List.drop_eq_getElem_cons hn, List.set_cons_zero, List.take_succ_eq_append_getElem (by omega), List.getElem?_eq_getElem (by omega), List.append_assoc]
  rfl
theorem overTo_get (us bs : List Int) (n : Nat) (h : us.length = bs.length) (hn : n < bs.length) : (overTo us bs n)[n]?.getD 0 = bs[n]?.getD 0 := by
  unfold overTo
  rw [List.getElem?_append_right (by simp; omega), List.length_take, show n - min n us.length = 0 by omega, List.getElem?_drop]; rfl
theorem overTo_get' (us bs : List Int) (n : Nat) (h : us.length = bs.length) (hn : n < bs.length) : (overTo us bs (n + 1))[n]?.getD 0 = us[n]?.getD 0 := by
  unfold overTo
  rw [List.getElem?_append_left (by simp; omega), List.getElem?_take, if_pos (by omega)]
theorem overTo_zero (us bs : List Int) : overTo us bs 0 = bs := rfl
theorem overTo_all (us bs : List Int) (h : us.length = bs.length) : overTo us bs bs.length = us := by
  unfold overTo; rw [List.take_of_length_le (by omega), List.drop_of_length_le (by omega), List.append_nil]

/-- Where a list that the call made lies. -/
def Ot (N : Nat) (spv : Option Addr) (g : Nat) (rest : List Value) (os : List Int) (wr : World) : Prop := 0 < N → spv = some ⟨g, 0, none⟩ ∧ wr.heap[g]? = some (.cells (ints .u8 os ++ rest).toArray 5 (0, 0))
theorem Own.ot {w : World} {base : Nat} {v : Value} {zs : List Int} (h : Own w base v zs) : ∃ spv capv g rest, v = .slice spv zs.length capv ∧ (spv = none → capv = 0) ∧ zs.length ≤ capv ∧ capv ≤ maxLen ∧ base ≤ g ∧ Ot zs.length spv g rest zs w := by
  obtain ⟨h1, ⟨rfl, hn⟩ | ⟨g, cap, cur, rfl, hg, hh, hc, hm, hs, ht⟩⟩ := h
  · exact ⟨none, 0, base, [], by rw [hn], fun _ => rfl, by omega, by simp [maxLen], Nat.le_refl _, fun h => by omega⟩
  · refine ⟨some ⟨g, 0, none⟩, cap, g, cur.toList.drop zs.length, rfl, (fun h => by cases h), hc, hm, hg, fun _ => ⟨rfl, ?_⟩⟩
    rw [hh, ← ht, Nat.mul_one, List.take_append_drop]
theorem Ot.src {N : Nat} {spv : Option Addr} {g cap : Nat} {rest : List Value} {os : List Int} {w : World} (h : Ot N spv g rest os w) (hN : os.length = N) (h0 : 0 < w.heap.size) (hc : N ≤ cap) (hm : cap ≤ maxLen) : Src w spv cap os := by
  by_cases hp : 0 < N
  · obtain ⟨rfl, hh⟩ := h hp
    refine ⟨by omega, hm, g, 0, hlt hh, fun _ => rfl, fun j hj => ?_⟩
    rw [Nat.zero_add, cell_of_row _ _ _ _ _ _ hh]
    have hg2 := ints_get .u8 os j hj
    simp only [List.getElem?_toArray]
    rw [List.getElem?_append_left (by rw [ints_len]; exact hj), hg2]
  · exact ⟨by omega, hm, 0, 0, h0, fun h => by omega, fun j hj => by omega⟩
theorem Ot.of_heap {N : Nat} {spv : Option Addr} {g : Nat} {rest : List Value} {os : List Int} {w w1 : World} (h : Ot N spv g rest os w) (hk : ∀ o, w.heap[g]? = some o → w1.heap[g]? = some o) : Ot N spv g rest os w1 := fun hp => ⟨(h hp).1, hk _ (h hp).2⟩
theorem Ot.below {N : Nat} {spv : Option Addr} {g : Nat} {rest : List Value} {os : List Int} {w w1 : World} (h : Ot N spv g rest os w) (hb : Below w.heap.size w w1) : Ot N spv g rest os w1 := h.of_heap fun o ho => hbel hb ho (hlt ho)
theorem Ot.set {N : Nat} {spv : Option Addr} {g : Nat} {rest : List Value} {os : List Int} {w : World} (h : Ot N spv g rest os w) (j : Nat) (x : Int) (hj : j < os.length) : Ot N spv g rest (os.set j x) (w.setCell ⟨g, j, none⟩ (.int .u8 x)) := fun hp => by
  refine ⟨(h hp).1, ?_⟩
  rw [setCell_eq_setRow w g _ _ _ _ _ (h hp).2, setRow_heap _ _ _ _ _ _ (h hp).2]
  congr 2
  simp only [List.setIfInBounds_toArray]
  rw [List.set_append_left _ _ (by rw [ints_len]; exact hj)]
  simp [ints, List.map_set]

set_option maxRecDepth 100000 in
set_option maxHeartbeats 1000000 in
theorem sums_any (w : World) (hG : Glob w) (hR : GlobR w) (zs : List Int) (sp : Option Addr) (cap : Nat) (hS : Src w sp cap zs) (hnil : sp = none → cap = 0) (hlen : zs.length ≤ 140737488351232) :
    Calls Tryd.prog 6 #[.slice sp zs.length cap] w fun e w' => e = .returned (.bool true) ∧ Below w.heap.size w w' := by
  have hw0 := hG.1
  have i1 : (zs.length : Int) ≤ 140737488351232 := by omega
  have hm80 : zs.length + 80 ≤ maxLen := by unfold maxLen; omega
  go_enter Tryd.func6, Tryd.ntmps6
  go_wp2_with fail
  refine (roomy_any w zs sp cap hS hlen).mono ?_
  rintro e w1 ⟨rfl, r1, b1⟩
  have hG1 := hG.below b1 hw0
  have s1 := src_row r1 (zs.length + 80) (by omega) hm80
  go_wp2_with fail
  refine (dsum_any w1 zs (some ⟨w.heap.size, 0, none⟩) (zs.length + 80) s1 hG1 (by omega)).mono ?_
  rintro e w2 ⟨rfl, b2⟩
  have r2 := hbel b2 r1 (hlt r1)
  have b02 := b1.trans (b2.mono b1.size)
  have hz2 := b02.size
  have hsl := sha_len zs
  have ho := all_oneCell_toArray (ints_one .u8 (sha zs))
  have k1 : (Tryd.prog.info? 23).map (·.size) = some (ints .u8 (sha zs)).toArray.size := by rw [Tryd.size23, ints_size, hsl]
  have k2 : (ints .u8 z32).toArray.size = (ints .u8 (sha zs)).toArray.size := by rw [ints_size, ints_size, hsl]; rfl
  have K1 := hid k1
  have K2 := hid k2
  clear k1 k2 r1 s1 hG1 b1 b2
  go_wp2_with (first | (refine wpList_store_row rfl 23 _ _ rfl _ _ rfl rfl 23 _ (by exact hnew _ _) K1.out (by exact K2.out) ho ?_; rw [setRow_alloc]))
  have r3 := hold (o := Obj.cells (ints .u8 (sha zs)).toArray 23) r2
  have d3 := hnew w2 (Obj.cells (ints .u8 (sha zs)).toArray 23)
  have b3 : Below w.heap.size w (w2.alloc (Obj.cells (ints .u8 (sha zs)).toArray 23)) := b02.alloc hz2 _
  generalize w2.alloc (Obj.cells (ints .u8 (sha zs)).toArray 23) = w3 at *
  have hD : w.heap.size < w2.heap.size := hlt r2
  generalize w2.heap.size = D at *
  clear r2 b02 hz2
  have q := eqD_self (sha zs) hsl
  have g23 := Tryd.guard23
  have u23 := Tryd.underlying23
  have l23 : (Tryd.prog.info? 23).map (·.size) = some (ints .u8 (sha zs)).length := by rw [Tryd.size23, ints_len, hsl]
  have hl32 : (ints .u8 (sha zs)).length = 32 := by rw [ints_len, hsl]
  have hone := ints_one .u8 (sha zs)
  have rg := rng d3
  have KR := hid (fun (w' : World) (b : Below w.heap.size w w') => rsum_any w' zs sp cap (hS.below b (Nat.le_refl _)) hnil hlen (Nat.le_trans hw0 b.size) (hR.below b hw0))
  have KI := hid (fun (w' : World) (r : w'.heap[w.heap.size]? = some (.cells (ints .u8 (zs ++ tail80)).toArray 5)) (b : Below w.heap.size w w') => intact_any w' zs (some ⟨w.heap.size, 0, none⟩) sp (zs.length + 80) cap (src_row (tl := []) (by rw [List.append_nil]; exact r) (zs.length + 80) (by simp [tail80]) hm80) (hS.below b (Nat.le_refl _)) hlen)
  have r3' : w3.drew.heap[w.heap.size]? = some (.cells (ints .u8 (zs ++ tail80)).toArray 5) := r3
  have d3' : w3.drew.heap[D]? = some (.cells (ints .u8 (sha zs)).toArray 23) := d3
  have b3' := b3.drew
  clear r3 d3 b3
  go_region_held3 (fun w' => w'.rangeAt D 0 (ints .u8 (sha zs))) (first | exact rg | assumption) (first | (go_at_call 17; refine (KR.out _ b3').mono ?_; rintro e w4 ⟨rfl, b4⟩; have r4 := hbel b4 r3' (hlt r3'); have d4 := hbel b4 d3' (hlt d3'); have rg4 := rng d4; have b04 := b3'.trans (b4.mono b3'.size)) | (go_at_call 18; refine (KI.out _ r4 b04).mono ?_; rintro e w5 ⟨rfl, b5⟩; have r5 := hbel b5 r4 (hlt r4); have d5 := hbel b5 d4 (hlt d4); have rg5 := rng d5; have b05 := b04.trans (b5.mono b04.size)))
  clear KR KI r3' d3' b3' r4 d4 b4 b04 rg4 rg b5 rg5 q
  go_wp2_with fail
  refine (copiedW_any w5 zs sp cap (hS.below b05 (Nat.le_refl _)) hnil hlen).mono ?_
  rintro e w6 ⟨v, rfl, hO6, b6⟩
  have r6 := hbel b6 r5 (hlt r5)
  have d6 := hbel b6 d5 (hlt d5)
  have b06 := b05.trans (b6.mono b05.size)
  have hD5 := hlt d5
  obtain ⟨spv, capv, g, rest, rfl, hnv, hcv, hmv, hg, hot⟩ := hO6.ot
  have hgD : D < g := by omega
  have hgL : w.heap.size < g := by omega
  clear hO6 b6 r5 d5 b05 hg hD5
  go_wp2_with fail
  obtain ⟨ox, hox⟩ : ∃ ox : List Int, ox = zs.map fun x => bits .xor .u8 x 255 := ⟨_, rfl⟩
  have hol : ox.length = zs.length := by rw [hox, List.length_map]
  have hoi : ∀ i, i < zs.length → ox[i]?.getD 0 = bits .xor .u8 (zs[i]?.getD 0) 255 := fun i hi => by
    rw [hox, List.getElem?_map, List.getElem?_eq_getElem hi]; rfl
  clear hox
  have KO := hid hoi
  replace hol := hid hol
  clear hoi
  go_loopw [7] (fun i wr => ∃ n : Nat, n ≤ zs.length ∧ i = .int .i64 n ∧ wr.heap[w.heap.size]? = some (.cells (ints .u8 (overTo ox zs n ++ tail80)).toArray 5) ∧ wr.heap[D]? = some (.cells (ints .u8 (sha zs)).toArray 23) ∧ Ot zs.length spv g rest (overTo ox zs n) wr ∧ Below w.heap.size w wr) (fun i _ => zs.length - (intOf i).toNat)
  case atStart => exact ⟨0, by omega, rfl, r6, d6, hot, b06⟩
  case round =>
    clear r6 d6 hot b06
    obtain ⟨n, hn, rfl, r6, d6, hot, b06⟩ := hrel
    by_cases hnl : n < zs.length
    · have j1 : (n : Int) < (zs.length : Int) := by omega
      obtain ⟨rfl, ho6⟩ := hot (by omega)
      have hl1 := overTo_len ox zs n hol.out hn
      have cO : wr.cell? ⟨g, n, none⟩ = some (.int .u8 (zs[n]?.getD 0)) := by
        rw [cell_of_row _ _ _ _ _ _ ho6]
        have hg2 := ints_get .u8 (overTo ox zs n) n (by omega)
        simp only [List.getElem?_toArray]
        rw [List.getElem?_append_left (by rw [ints_len]; omega), hg2, List.getD_eq_getElem?_getD, overTo_get _ _ _ hol.out hnl]
      have fO : wr.frozen? ⟨g, n, none⟩ = false := frozen_of_row _ _ _ _ _ ho6
      have cL : wr.cell? ⟨w.heap.size, n, none⟩ = some (.int .u8 (zs[n]?.getD 0)) := by
        rw [cell_ints r6 n (by rw [List.length_append]; omega), List.getD_eq_getElem?_getD, List.getElem?_append_left (by omega), overTo_get _ _ _ hol.out hnl]
      have fL : wr.frozen? ⟨w.heap.size, n, none⟩ = false := frozen_of_row _ _ _ _ _ r6
      have KX := hid (KO.out n hnl)
      have KS := hid (overTo_set ox zs n hol.out hnl)
      rw [KX.out] at KS
      generalize zs[n]?.getD 0 = x at *
      have hne : ¬ (g = w.heap.size) := by omega
      have hne' : ¬ (w.heap.size = g) := by omega
      go_wp2
      go_roundw
      case rel =>
        refine ⟨n + 1, by omega, by go_num, ?_, heap_set_far (heap_set_far d6 _ _ (by show D ≠ g; omega)) _ _ (by show D ≠ w.heap.size; omega), ?_, (b06.setCell (by show w.heap.size ≤ g; omega) _).setCell (Nat.le_refl _) _⟩
        · have := heap_set_ints (heap_set_far r6 ⟨g, n, none⟩ (.int .u8 (bits .xor .u8 x 255)) (by show w.heap.size ≠ g; omega)) n (bits .xor .u8 x 255)
          rw [List.set_append_left _ _ (by omega), KS.out] at this
          exact this
        · have := (hot.set n (bits .xor .u8 x 255) (by omega)).of_heap (w1 := (wr.setCell ⟨g, n, none⟩ (.int .u8 (bits .xor .u8 x 255))).setCell ⟨w.heap.size, n, none⟩ (.int .u8 (bits .xor .u8 x 255))) fun o ho => heap_set_far ho _ _ (by show g ≠ w.heap.size; omega)
          rw [KS.out] at this
          exact this
      case measure => simp [intOf]; omega
    · obtain rfl : n = zs.length := by omega
      rw [overTo_all _ _ hol.out] at r6 hot
      have hGr := hG.below b06 hw0
      have sL := src_row r6 (zs.length + 80) (by rw [hol.out]; omega) hm80
      have hpos : 0 < wr.heap.size := Nat.lt_of_lt_of_le (by omega) b06.size
      have sO := hot.src hol.out hpos hcv hmv
      have qx := eqD_self (sha ox) (sha_len _)
      have K8 := hid (dsum_any wr ox (some ⟨w.heap.size, 0, none⟩) (zs.length + 80) sL hGr (by rw [hol.out]; omega))
      rw [hol.out] at K8
      clear hnl hn KO
      go_wp2_with fail
      refine K8.out.mono ?_
      rintro e w7 ⟨rfl, b7⟩
      have r7 := hbel b7 r6 (hlt r6)
      have d7 := hbel b7 d6 (hlt d6)
      have ot7 := hot.below b7
      have b07 := b06.trans (b7.mono b06.size)
      have K17 := hid (rsum_any w7 ox spv capv (sO.below b7 (Nat.le_refl _)) hnv (by rw [hol.out]; omega) (Nat.le_trans hw0 b07.size) (hR.below b07 hw0))
      rw [hol.out] at K17
      clear r6 d6 hot b06 b7 K8 hGr sL
      go_wp2_with fail
      refine K17.out.mono ?_
      rintro e w8 ⟨rfl, b8⟩
      have r8 := hbel b8 r7 (hlt r7)
      have d8 := hbel b8 d7 (hlt d7)
      have ot8 := ot7.below b8
      have b08 := b07.trans (b8.mono b07.size)
      have hpos8 : 0 < w8.heap.size := Nat.lt_of_lt_of_le (by omega) b08.size
      have K18 := hid (intact_any w8 ox (some ⟨w.heap.size, 0, none⟩) spv (zs.length + 80) capv (src_row (tl := []) (by rw [List.append_nil]; exact r8) (zs.length + 80) (by simp [tail80, hol.out]) hm80) (ot8.src hol.out hpos8 hcv hmv) (by rw [hol.out]; omega))
      rw [hol.out] at K18
      clear r7 d7 ot7 b07 b8 K17 sO hpos
      go_wp2_with fail
      refine K18.out.mono ?_
      rintro e w9 ⟨rfl, b9⟩
      have r9 := hbel b9 r8 (hlt r8)
      have d9 := hbel b9 d8 (hlt d8)
      have b09 := b08.trans (b9.mono b08.size)
      clear r8 d8 ot8 b08 b9 K18 qx hpos8
      go_wp2_with fail
      clear hnv hcv hmv hgD hgL
      have hS0 := hS
      obtain ⟨hc, hm, b, o, hb, hsp, hsrc⟩ := hS0
      go_loopw [8] (fun i wr => ∃ n : Nat, n ≤ zs.length ∧ i = .int .i64 n ∧ wr.heap[w.heap.size]? = some (.cells (ints .u8 (overTo zs ox n ++ tail80)).toArray 5) ∧ wr.heap[D]? = some (.cells (ints .u8 (sha zs)).toArray 23) ∧ Below w.heap.size w wr) (fun i _ => zs.length - (intOf i).toNat)
      case atStart => exact ⟨0, by omega, rfl, r9, d9, b09⟩
      case round =>
        clear r9 d9 b09
        obtain ⟨n, hn, rfl, r6, d6, b06⟩ := hrel
        by_cases hnl : n < zs.length
        · have j1 : (n : Int) < (zs.length : Int) := by omega
          obtain rfl := hsp (by omega)
          have hl1 := hid (overTo_len zs ox n hol.out.symm (by rw [hol.out]; exact hn))
          have cM : wr.cell? ⟨b, o + n, none⟩ = some (.int .u8 (zs[n]?.getD 0)) := by
            have := (b06.cell (p := ⟨b, o + n, none⟩) hb).trans (hsrc n hnl)
            rwa [List.getD_eq_getElem?_getD] at this
          have cL := cell_ints r6 n (by rw [List.length_append, hl1.out, hol.out]; omega)
          have fL : wr.frozen? ⟨w.heap.size, n, none⟩ = false := frozen_of_row _ _ _ _ _ r6
          have KS := hid (overTo_set zs ox n hol.out.symm (by rw [hol.out]; exact hnl))
          generalize (overTo zs ox n ++ tail80).getD n 0 = y at *
          generalize zs[n]?.getD 0 = x at *
          go_wp2
          go_roundw
          case rel =>
            refine ⟨n + 1, by omega, by go_num, ?_, heap_set_far d6 _ _ (by show D ≠ w.heap.size; omega), b06.setCell (Nat.le_refl _) _⟩
            have := heap_set_ints r6 n x
            rw [List.set_append_left _ _ (by rw [hl1.out, hol.out]; exact hnl), KS.out] at this
            exact this
          case measure => simp [intOf]; omega
        · obtain rfl : n = zs.length := by omega
          rw [← hol.out, overTo_all _ _ hol.out.symm] at r6
          have hGr := hG.below b06 hw0
          have sL := src_row r6 (zs.length + 80) (by omega) hm80
          have q := eqD_self (sha zs) hsl
          have rg := rng d6
          have K8 := hid (fun (w' : World) (h : w' = wr ∨ w' = wr.drew) => dsum_any w' zs (some ⟨w.heap.size, 0, none⟩) (zs.length + 80) (by rcases h with rfl | rfl; exact sL; exact sL) (by rcases h with rfl | rfl; exact hGr; exact hGr) (by omega))
          clear hnl hn
          have b06' := b06.drew
          have d6' : wr.drew.heap[D]? = some (.cells (ints .u8 (sha zs)).toArray 23) := d6
          clear r6 hGr sL hol hsrc hsp d6 b06
          have z0 : (0 : Int) ≤ (zs.length : Int) := by omega
          have z1 : (zs.length : Int) ≤ ((zs.length + 80 : Nat) : Int) := by omega
          have z2 : (zs.length : Int) ≤ (zs.length : Int) + 80 := by omega
          have z3 : zs.length ≤ zs.length + 80 := by omega
          go_wp2_with fail
          go_region_held3 (fun w' => w'.rangeAt D 0 (ints .u8 (sha zs))) (first | exact rg | assumption) (first | (go_at_call 8; refine (K8.out _ (by first | exact Or.inl rfl | exact Or.inr rfl)).mono ?_; rintro e w10 ⟨rfl, b10⟩; have d10 := hbel b10 d6' (hlt d6'); have rg10 := rng d10; have b010 := b06'.trans (b10.mono b06'.size)))
          go_wp2_with fail
          go_ret
          exact ⟨rfl, b010⟩
end Go.Proofs.YtpmjijadjblkeaaDoor
