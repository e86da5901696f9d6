import Derived.Test.YtenfklcgkfaajaaDk34
namespace Go.Proofs.Ytenfklcgkfaajaa
set_option linter.unusedVariables false
set_option linter.unusedSimpArgs false
open Go.RowKit
attribute [local go_sem ↓] Go.wp_at_zero Go.wp_at_succ


set_option maxRecDepth 100000 in
set_option maxHeartbeats 4000000 in
theorem fields_7 (w0 w : World) (g : Nat) (sp : Option Addr) (cap : Nat) (bs : List Int) (hy : Bys bs) (L : Lk) (h : LM w0 w g sp cap bs L) (op : Int) (ho : op = 7) :
    Calls Try.prog 32 #[.pointer (some ⟨g, 0, none⟩), .int .i64 op, .agg (rpC rp0 (.slice none 0 0) (.slice none 0 0) (.slice none 0 0) (.slice none 0 0)).toArray] w fun e w' => ∃ vv rv lv cv, e = .returned (.agg (rpC (ffP op bs L).1 vv rv lv cv).toArray) ∧ (∃ ml mc, RpO w' w.heap.size (ffP op bs L).1 vv rv lv cv ml mc) ∧ LM w0 w' g sp cap bs (ffP op bs L).2 ∧ Keeps g w w' := by
  have Q2 := FQ.start h
  have HP := hid (show ffP op bs L = ({ rp0 with chs := (lsL true bs L).1 }, (lsL true bs L).2) by rw [ho]; rfl)
  rw [HP.out]
  clear HP
  subst ho
  have KC := hid (fun (wc : World) (h : LM w0 wc g sp cap bs L) => count_any w0 wc g sp cap bs hy L h)
  have hcb : lcV bs L ≤ 4096 := by unfold lcV; split <;> omega
  unfold lsL
  generalize lcV bs L = n at *
  generalize lcS bs L = L2 at *
  go_enter Try.func32, Try.ntmps32
  go_wp2_with (first | (refine wpList_allocV allocRep rfl rfl ?_))
  refine (KC.out _ Q2.lm).mono ?_
  generalize ((w.alloc (.cells (rpC rp0 (.slice none 0 0) (.slice none 0 0) (.slice none 0 0) (.slice none 0 0)).toArray 32)).alloc (.cells (rpC rp0 (.slice none 0 0) (.slice none 0 0) (.slice none 0 0) (.slice none 0 0)).toArray 32)) = w2 at *
  rintro e w6 ⟨rfl, hM6, hk6⟩
  have Q6 := Q2.call hM6 hk6
  have i0 : (n : Int) ≤ 4096 := by omega
  clear KC hM6 hk6 Q2
  go_wp2
  go_loopw [12] (fun i wr => ∃ (k : Nat) (L' : Lk) (acc : List Cg) (cv : Value) (mc : List ME), k ≤ n ∧ i = .int .i64 k ∧ llP true bs (n - k) L' acc = llP true bs n L2 [] ∧ acc.length = k ∧ FQ w0 w wr g sp cap bs L' { rp0 with chs := acc } (.slice none 0 0) (.slice none 0 0) (.slice none 0 0) cv [] mc) (fun i _ => n - (intOf i).toNat)
  case atStart => exact ⟨0, L2, [], _, [], Nat.zero_le _, rfl, rfl, rfl, Q6⟩
  case round =>
    clear Q6
    obtain ⟨k, L', acc, cv, mc, hkn, rfl, hli, hal, Qr⟩ := hrel
    obtain ⟨c0, c1, c2, fz⟩ := Qr.lm.cells
    have HLI := hid hli
    have HAL := hid hal
    clear hli hal
    by_cases hc : k < n ∧ L'.bad = false
    · obtain ⟨hlt', hbad⟩ := hc
      rw [hbad] at c2
      have i1 : (k : Int) < (n : Int) := by omega
      have KN := hid (num_any w0 wr g sp cap bs hy L' Qr.lm 1 (by omega))
      have KR := hid (fun (wc : World) (h : LM w0 wc g sp cap bs (lkS bs L' 1)) => row_any w0 wc g sp cap bs (lkS bs L' 1) h)
      have hkl := lkR_len bs (lkS bs L' 1)
      have HSV := hid (show leS true bs L' = (if lkN bs L' 1 = 1 then lvS bs (lkS bs (lkS bs L' 1) 32) else if lkN bs L' 1 = 2 then lkS bs (lkS bs L' 1) 32 else ⟨(lkS bs (lkS bs L' 1) 32).at_, true⟩) ∧ leV true bs L' = ⟨lkR bs (lkS bs L' 1), lkN bs L' 1 == 2, if lkN bs L' 1 = 1 then lvV bs (lkS bs (lkS bs L' 1) 32) else []⟩ from ⟨rfl, rfl⟩)
      have HB := hid hbad
      clear hbad
      generalize lkR bs (lkS bs L' 1) = key at *
      generalize lkS bs (lkS bs L' 1) 32 = L4 at *
      generalize lkS bs L' 1 = L3 at *
      generalize lkN bs L' 1 = x at *
      go_wp2_with fail
      refine KN.out.mono ?_
      rintro e w3 ⟨rfl, hM3, hk3⟩
      clear KN c0 c1 c2 fz
      rcases (show x = 1 ∨ x = 2 ∨ (x ≠ 1 ∧ x ≠ 2) by omega) with hx | hx | hx
      · subst hx
        have BE := hid (built_chg1 false)
        have SE := hid (show (Try.prog.info? 54).map (·.size) = some (elC true z32 false (.slice none 0 0)).length by rw [elC_len z32_len]; exact Try.sizeChg)
        go_wp2_with (first
          | (refine wpList_built (by rfl) 54 _ rfl [(1, .bool false)] rfl _ BE.out ?_)
          | (refine wpList_allocV allocChg rfl rfl ?_)
          | (refine wpList_storeRowW rfl 54 _ _ rfl w3.heap.size (elC true z32 false (.slice none 0 0)) rfl rfl 54 _ (hnew w3 (.cells (elC true z32 false (.slice none 0 0)).toArray 54)) SE.out ((elC_len z32_len).trans (elC_len z32_len).symm) (elC_one rfl) ?_; intro w4 hr4 hk4; refine Hid.out ?_))
        refine hid ?_
        have hb4 : Below w3.heap.size w3 w4 := ((Below.refl w3.heap.size w3).alloc (Nat.le_refl _) _).trans (hk4.below_g (Nat.le_refl _) (by simp))
        have hM4 := hM3.keep (hb4.mono hM3.lt)
        have q4 : Keeps g wr w4 := hk3.trans_b hb4
        have hg3 := hM3.lt
        have hs3 := hk3.size
        clear hk4 hb4 hM3 hk3 BE SE
        go_wp2_with fail
        refine (KR.out w4 hM4).mono ?_
        rintro e w5 ⟨rfl, hM5, hk5⟩
        have hr5 := hid (hk5.heap hr4 (by omega))
        have q5 := q4.trans hk5
        have SK := hid (show (Try.prog.info? 50).map (·.size) = some (ints .u8 key).length by rw [ints_len, hkl]; exact Try.sizeKey)
        have SM := hid (show 0 + (ints .u8 key).length ≤ (elC true z32 false (.slice none 0 0)).length by rw [ints_len, hkl, elC_len z32_len]; decide)
        clear KR hM4 hk5 hr4 q4
        go_wp2_with (first | (refine wpList_storeMidW rfl 50 _ _ rfl w3.heap.size 0 (ints .u8 key) rfl rfl _ 54 hr5.out SM.out SK.out (ints_one _ _) ?_; intro w6 hr6 hk6; refine Hid.out ?_))
        refine hid ?_
        rw [elC_key z32_len hkl] at hr6
        have hM6 := hM5.keep2 hk6 (by omega) (by have := hM5.new; omega)
        have q6 : Keeps g wr w6 := ⟨hk6.os.trans q5.os, hk6.tape.trans q5.tape, hk6.output.trans q5.output, Nat.le_trans q5.size hk6.size, fun i hi hn => (hk6.block i (Nat.lt_of_lt_of_le hi q5.size) (by omega)).trans (q5.block i hi hn)⟩
        clear hr5 SK SM hk6 q5 hM5
        have KV := hid (lval_any w0 w6 g sp cap bs hy L4 hM6)
        go_wp2_with fail
        refine KV.out.mono ?_
        rintro e w7 ⟨v7, rfl, O7, hM7, hk7⟩
        have hr7 := hid (hk7.heap hr6 (by omega))
        have q7 := q6.trans hk7
        have C7 := O7.cells
        have LJ7 := hid (show 33 < (elC true key false (.slice none 0 0)).length by rw [elC_len hkl]; decide)
        clear KV hM6 hk7 hr6
        go_wp2_with (first | (refine wpList_storeW rfl 22 _ _ rfl w3.heap.size 33 v7 rfl rfl _ 54 hr7.out LJ7.out Try.sizeBy C7.1 C7.2 ?_; intro w8 hr8 hk8; refine Hid.out ?_))
        refine hid ?_
        rw [show (33 : Nat) = szE true - 1 from rfl, elC_set hkl] at hr8
        have hM8 := hM7.keep2 hk8 (by omega) (by have := hM7.new; omega)
        have q8 : Keeps g wr w8 := ⟨hk8.os.trans q7.os, hk8.tape.trans q7.tape, hk8.output.trans q7.output, Nat.le_trans q7.size hk8.size, fun i hi hn => (hk8.block i (Nat.lt_of_lt_of_le hi q7.size) (by omega)).trans (q7.block i hi hn)⟩
        have O8 : Own w8 w.heap.size v7 (lvV bs L4) := own_lower (own_far O7 hr7.out (by decide) hk8) (by have := Qr.kp.size; have := q6.size; omega)
        clear hr7 LJ7 hk8 q7 q6 hM7 O7
        have Q8 := Qr.call hM8 q8
        have R8 := hid hr8
        have c8 : w8.cell? ⟨w.heap.size, 39, none⟩ = some cv := by
          have e := (rpC_38 (vv := .slice none 0 0) (rv := .slice none 0 0) (lv := .slice none 0 0) (cv := cv) Q8.o.l).2
          rw [cell_of_row _ _ _ _ _ _ Q8.row, List.getElem?_toArray]; exact e
        have C8 := hid O8.cells
        have EL := hid (show (elC true key false v7).length = szE true from elC_len hkl)
        have ES := hid (show (Try.prog.info? 54).map (·.size) = some (elC true key false v7).toArray.size by rw [List.size_toArray, elC_len hkl]; exact Try.sizeChg)
        have ML := hid (show mc.length + 1 ≤ 1000000000000 by rw [Q8.o.oc.len]; show acc.length + 1 ≤ _; rw [HAL.out]; omega)
        have hbz : w.heap.size ≤ w8.heap.size := Q8.kp.size
        clear hr8 hM8 q8 Qr
        obtain ⟨slv, clv, elv⟩ : ∃ s c, cv = .slice s mc.length c := by
          rcases Q8.o.oc.own.2 with ⟨e, e2⟩ | ⟨gg, cp, cur, e, _⟩
          · exact ⟨none, 0, by rw [e, e2]⟩
          · exact ⟨_, _, e⟩
        subst elv
        go_wp2_with (first
          | (refine wpList_load_row rfl 54 _ rfl w3.heap.size rfl 54 _ (0, 0) _ R8.out Try.underlying54 rfl ES.out ?_)
          | (refine wpList_sliceL true rfl _ rfl (elC true key false v7) EL.out rfl ?_)
          | (at_builtin; refine wpList_pushL true rfl (.tmp 122) (.tmp 124) rfl w.heap.size _ mc ⟨key, false, v7⟩ rfl Q8.o.oc.own rfl EL.out (elC_one C8.out.2) ML.out hbz _ _ ?_; intro v9 w9 O9 hg9; refine Hid.out ?_))
        refine hid ?_
        have E9 := Q8.o.oc.snoc ⟨key, false, v7⟩ ⟨key, false, lvV bs L4⟩ O9 hg9 rfl hkl rfl O8
        have hx9 := hid ((grown_far Q8.o.oc.own hg9 Q8.row (by decide)).trans Q8.row)
        have LJ := hid (Q8.o.lt (i := 39) (by decide))
        have C9 := O9.cells
        go_wp2_with (first | (refine wpList_storeW rfl 28 _ _ rfl w.heap.size 39 v9 rfl rfl _ 32 hx9.out LJ.out Try.sizeCs C9.1 C9.2 ?_; intro w10 hr10 hk10; refine Hid.out ?_))
        refine hid ?_
        rw [rpC_chs Q8.o.l] at hr10
        have Q10 := hid (Q8.pushC hg9 E9 hr10 hk10)
        clear hx9 LJ hr10 hk10 E9 O9 hg9 Q8 c8 R8
        go_wp2
        go_roundw
        case rel =>
          refine ⟨k + 1, lvS bs L4, acc ++ [⟨key, false, lvV bs L4⟩], v9, _, by omega, by go_num, ?_, by rw [List.length_append, HAL.out]; rfl, Q10.out⟩
          rw [← HLI.out, show n - k = (n - (k + 1)) + 1 by omega]
          conv => rhs; unfold llP
          obtain ⟨hsv1, hsv2⟩ := HSV.out
          rw [HB.out, hsv1, hsv2]
          rfl
        case measure => simp [intOf]; omega
      · subst hx
        have BE := hid (built_chg1 true)
        have SE := hid (show (Try.prog.info? 54).map (·.size) = some (elC true z32 true (.slice none 0 0)).length by rw [elC_len z32_len]; exact Try.sizeChg)
        go_wp2_with (first
          | (refine wpList_built (by rfl) 54 _ rfl [(1, .bool true)] rfl _ BE.out ?_)
          | (refine wpList_allocV allocChg rfl rfl ?_)
          | (refine wpList_storeRowW rfl 54 _ _ rfl w3.heap.size (elC true z32 true (.slice none 0 0)) rfl rfl 54 _ (hnew w3 (.cells (elC true z32 false (.slice none 0 0)).toArray 54)) SE.out ((elC_len z32_len).trans (elC_len z32_len).symm) (elC_one rfl) ?_; intro w4 hr4 hk4; refine Hid.out ?_))
        refine hid ?_
        have hb4 : Below w3.heap.size w3 w4 := ((Below.refl w3.heap.size w3).alloc (Nat.le_refl _) _).trans (hk4.below_g (Nat.le_refl _) (by simp))
        have hM4 := hM3.keep (hb4.mono hM3.lt)
        have q4 : Keeps g wr w4 := hk3.trans_b hb4
        have hg3 := hM3.lt
        have hs3 := hk3.size
        clear hk4 hb4 hM3 hk3 BE SE
        go_wp2_with fail
        refine (KR.out w4 hM4).mono ?_
        rintro e w5 ⟨rfl, hM5, hk5⟩
        have hr5 := hid (hk5.heap hr4 (by omega))
        have q5 := q4.trans hk5
        have SK := hid (show (Try.prog.info? 50).map (·.size) = some (ints .u8 key).length by rw [ints_len, hkl]; exact Try.sizeKey)
        have SM := hid (show 0 + (ints .u8 key).length ≤ (elC true z32 true (.slice none 0 0)).length by rw [ints_len, hkl, elC_len z32_len]; decide)
        clear KR hM4 hk5 hr4 q4
        go_wp2_with (first | (refine wpList_storeMidW rfl 50 _ _ rfl w3.heap.size 0 (ints .u8 key) rfl rfl _ 54 hr5.out SM.out SK.out (ints_one _ _) ?_; intro w6 hr6 hk6; refine Hid.out ?_))
        refine hid ?_
        rw [elC_key z32_len hkl] at hr6
        have hM6 := hM5.keep2 hk6 (by omega) (by have := hM5.new; omega)
        have q6 : Keeps g wr w6 := ⟨hk6.os.trans q5.os, hk6.tape.trans q5.tape, hk6.output.trans q5.output, Nat.le_trans q5.size hk6.size, fun i hi hn => (hk6.block i (Nat.lt_of_lt_of_le hi q5.size) (by omega)).trans (q5.block i hi hn)⟩
        clear hr5 SK SM hk6 q5 hM5
        have hM8 := hM6
        have q8 := q6
        have hr8 := hr6
        have O8 : Own w6 w.heap.size (.slice none 0 0) [] := Own.nil _ _
        clear hM6 q6 hr6
        have Q8 := Qr.call hM8 q8
        have R8 := hid hr8
        have c8 : w6.cell? ⟨w.heap.size, 39, none⟩ = some cv := by
          have e := (rpC_38 (vv := .slice none 0 0) (rv := .slice none 0 0) (lv := .slice none 0 0) (cv := cv) Q8.o.l).2
          rw [cell_of_row _ _ _ _ _ _ Q8.row, List.getElem?_toArray]; exact e
        have C8 := hid O8.cells
        have EL := hid (show (elC true key true (.slice none 0 0)).length = szE true from elC_len hkl)
        have ES := hid (show (Try.prog.info? 54).map (·.size) = some (elC true key true (.slice none 0 0)).toArray.size by rw [List.size_toArray, elC_len hkl]; exact Try.sizeChg)
        have ML := hid (show mc.length + 1 ≤ 1000000000000 by rw [Q8.o.oc.len]; show acc.length + 1 ≤ _; rw [HAL.out]; omega)
        have hbz : w.heap.size ≤ w6.heap.size := Q8.kp.size
        clear hr8 hM8 q8 Qr
        obtain ⟨slv, clv, elv⟩ : ∃ s c, cv = .slice s mc.length c := by
          rcases Q8.o.oc.own.2 with ⟨e, e2⟩ | ⟨gg, cp, cur, e, _⟩
          · exact ⟨none, 0, by rw [e, e2]⟩
          · exact ⟨_, _, e⟩
        subst elv
        go_wp2_with (first
          | (refine wpList_load_row rfl 54 _ rfl w3.heap.size rfl 54 _ (0, 0) _ R8.out Try.underlying54 rfl ES.out ?_)
          | (refine wpList_sliceL true rfl _ rfl (elC true key true (.slice none 0 0)) EL.out rfl ?_)
          | (at_builtin; refine wpList_pushL true rfl (.tmp 122) (.tmp 124) rfl w.heap.size _ mc ⟨key, true, (.slice none 0 0)⟩ rfl Q8.o.oc.own rfl EL.out (elC_one C8.out.2) ML.out hbz _ _ ?_; intro v9 w9 O9 hg9; refine Hid.out ?_))
        refine hid ?_
        have E9 := Q8.o.oc.snoc ⟨key, true, (.slice none 0 0)⟩ ⟨key, true, []⟩ O9 hg9 rfl hkl rfl O8
        have hx9 := hid ((grown_far Q8.o.oc.own hg9 Q8.row (by decide)).trans Q8.row)
        have LJ := hid (Q8.o.lt (i := 39) (by decide))
        have C9 := O9.cells
        go_wp2_with (first | (refine wpList_storeW rfl 28 _ _ rfl w.heap.size 39 v9 rfl rfl _ 32 hx9.out LJ.out Try.sizeCs C9.1 C9.2 ?_; intro w10 hr10 hk10; refine Hid.out ?_))
        refine hid ?_
        rw [rpC_chs Q8.o.l] at hr10
        have Q10 := hid (Q8.pushC hg9 E9 hr10 hk10)
        clear hx9 LJ hr10 hk10 E9 O9 hg9 Q8 c8 R8
        go_wp2
        go_roundw
        case rel =>
          refine ⟨k + 1, L4, acc ++ [⟨key, true, []⟩], v9, _, by omega, by go_num, ?_, by rw [List.length_append, HAL.out]; rfl, Q10.out⟩
          rw [← HLI.out, show n - k = (n - (k + 1)) + 1 by omega]
          conv => rhs; unfold llP
          obtain ⟨hsv1, hsv2⟩ := HSV.out
          rw [HB.out, hsv1, hsv2]
          rfl
        case measure => simp [intOf]; omega
      · have e1 : (x == 1) = false := beq_eq_false_iff_ne.2 hx.1
        have e2 : (x == 2) = false := beq_eq_false_iff_ne.2 hx.2
        have HX := hid hx
        obtain ⟨m1, m2⟩ := hx
        have f1 : (x != 1) = true := bne_iff_ne.2 m1
        have f2 : (x != 2) = true := bne_iff_ne.2 m2
        have BE := hid (built_chg1 false)
        have SE := hid (show (Try.prog.info? 54).map (·.size) = some (elC true z32 false (.slice none 0 0)).length by rw [elC_len z32_len]; exact Try.sizeChg)
        go_wp2_with (first
          | (refine wpList_built (by rfl) 54 _ rfl [(1, .bool false)] rfl _ BE.out ?_)
          | (refine wpList_allocV allocChg rfl rfl ?_)
          | (refine wpList_storeRowW rfl 54 _ _ rfl w3.heap.size (elC true z32 false (.slice none 0 0)) rfl rfl 54 _ (hnew w3 (.cells (elC true z32 false (.slice none 0 0)).toArray 54)) SE.out ((elC_len z32_len).trans (elC_len z32_len).symm) (elC_one rfl) ?_; intro w4 hr4 hk4; refine Hid.out ?_))
        refine hid ?_
        have hb4 : Below w3.heap.size w3 w4 := ((Below.refl w3.heap.size w3).alloc (Nat.le_refl _) _).trans (hk4.below_g (Nat.le_refl _) (by simp))
        have hM4 := hM3.keep (hb4.mono hM3.lt)
        have q4 : Keeps g wr w4 := hk3.trans_b hb4
        have hg3 := hM3.lt
        have hs3 := hk3.size
        clear hk4 hb4 hM3 hk3 BE SE
        go_wp2_with fail
        refine (KR.out w4 hM4).mono ?_
        rintro e w5 ⟨rfl, hM5, hk5⟩
        have hr5 := hid (hk5.heap hr4 (by omega))
        have q5 := q4.trans hk5
        have SK := hid (show (Try.prog.info? 50).map (·.size) = some (ints .u8 key).length by rw [ints_len, hkl]; exact Try.sizeKey)
        have SM := hid (show 0 + (ints .u8 key).length ≤ (elC true z32 false (.slice none 0 0)).length by rw [ints_len, hkl, elC_len z32_len]; decide)
        clear KR hM4 hk5 hr4 q4
        go_wp2_with (first | (refine wpList_storeMidW rfl 50 _ _ rfl w3.heap.size 0 (ints .u8 key) rfl rfl _ 54 hr5.out SM.out SK.out (ints_one _ _) ?_; intro w6 hr6 hk6; refine Hid.out ?_))
        refine hid ?_
        rw [elC_key z32_len hkl] at hr6
        have hM6 := hM5.keep2 hk6 (by omega) (by have := hM5.new; omega)
        have q6 : Keeps g wr w6 := ⟨hk6.os.trans q5.os, hk6.tape.trans q5.tape, hk6.output.trans q5.output, Nat.le_trans q5.size hk6.size, fun i hi hn => (hk6.block i (Nat.lt_of_lt_of_le hi q5.size) (by omega)).trans (q5.block i hi hn)⟩
        clear hr5 SK SM hk6 q5 hM5
        have RG := hid hM6.row
        go_wp2_with (first | (refine wpList_storeW rfl 4 _ _ rfl g 2 (.bool true) rfl rfl [.slice sp bs.length cap, .int .i64 L4.at_, .bool L4.bad] 89 RG.out (by simp) Try.sizeBool rfl rfl ?_; intro w8 hrg hkg; refine Hid.out ?_))
        refine hid ?_
        have hM8 : LM w0 w8 g sp cap bs ⟨L4.at_, true⟩ := ⟨hM6.bel.trans (hkg.below_g hM6.new hM6.bel.size), hM6.new, hrg, hM6.src, hM6.pl, hM6.bl⟩
        have hr8 := hkg.heap hr6 (by omega)
        have q8 := q6.trans hkg
        have O8 : Own w8 w.heap.size (.slice none 0 0) [] := Own.nil _ _
        clear RG hrg hkg hM6 q6 hr6
        have Q8 := Qr.call hM8 q8
        have R8 := hid hr8
        have c8 : w8.cell? ⟨w.heap.size, 39, none⟩ = some cv := by
          have e := (rpC_38 (vv := .slice none 0 0) (rv := .slice none 0 0) (lv := .slice none 0 0) (cv := cv) Q8.o.l).2
          rw [cell_of_row _ _ _ _ _ _ Q8.row, List.getElem?_toArray]; exact e
        have C8 := hid O8.cells
        have EL := hid (show (elC true key false (.slice none 0 0)).length = szE true from elC_len hkl)
        have ES := hid (show (Try.prog.info? 54).map (·.size) = some (elC true key false (.slice none 0 0)).toArray.size by rw [List.size_toArray, elC_len hkl]; exact Try.sizeChg)
        have ML := hid (show mc.length + 1 ≤ 1000000000000 by rw [Q8.o.oc.len]; show acc.length + 1 ≤ _; rw [HAL.out]; omega)
        have hbz : w.heap.size ≤ w8.heap.size := Q8.kp.size
        clear hr8 hM8 q8 Qr
        obtain ⟨slv, clv, elv⟩ : ∃ s c, cv = .slice s mc.length c := by
          rcases Q8.o.oc.own.2 with ⟨e, e2⟩ | ⟨gg, cp, cur, e, _⟩
          · exact ⟨none, 0, by rw [e, e2]⟩
          · exact ⟨_, _, e⟩
        subst elv
        go_wp2_with (first
          | (refine wpList_load_row rfl 54 _ rfl w3.heap.size rfl 54 _ (0, 0) _ R8.out Try.underlying54 rfl ES.out ?_)
          | (refine wpList_sliceL true rfl _ rfl (elC true key false (.slice none 0 0)) EL.out rfl ?_)
          | (at_builtin; refine wpList_pushL true rfl (.tmp 122) (.tmp 124) rfl w.heap.size _ mc ⟨key, false, (.slice none 0 0)⟩ rfl Q8.o.oc.own rfl EL.out (elC_one C8.out.2) ML.out hbz _ _ ?_; intro v9 w9 O9 hg9; refine Hid.out ?_))
        refine hid ?_
        have E9 := Q8.o.oc.snoc ⟨key, false, (.slice none 0 0)⟩ ⟨key, false, []⟩ O9 hg9 rfl hkl rfl O8
        have hx9 := hid ((grown_far Q8.o.oc.own hg9 Q8.row (by decide)).trans Q8.row)
        have LJ := hid (Q8.o.lt (i := 39) (by decide))
        have C9 := O9.cells
        go_wp2_with (first | (refine wpList_storeW rfl 28 _ _ rfl w.heap.size 39 v9 rfl rfl _ 32 hx9.out LJ.out Try.sizeCs C9.1 C9.2 ?_; intro w10 hr10 hk10; refine Hid.out ?_))
        refine hid ?_
        rw [rpC_chs Q8.o.l] at hr10
        have Q10 := hid (Q8.pushC hg9 E9 hr10 hk10)
        clear hx9 LJ hr10 hk10 E9 O9 hg9 Q8 c8 R8
        go_wp2
        go_roundw
        case rel =>
          refine ⟨k + 1, ⟨L4.at_, true⟩, acc ++ [⟨key, false, []⟩], v9, _, by omega, by go_num, ?_, by rw [List.length_append, HAL.out]; rfl, Q10.out⟩
          rw [← HLI.out, show n - k = (n - (k + 1)) + 1 by omega]
          conv => rhs; unfold llP
          obtain ⟨hsv1, hsv2⟩ := HSV.out
          rw [HB.out, hsv1, hsv2]
          obtain ⟨hx1, hx2⟩ := HX.out
          rw [if_neg hx1, if_neg hx2, if_neg hx1, beq_eq_false_iff_ne.2 hx2]; rfl
        case measure => simp [intOf]; omega
    · have hres : llP true bs n L2 [] = (acc, L') := by
        rw [← HLI.out]
        by_cases hk : k < n
        · exact llP_bad (by cases hb : L'.bad; exact absurd ⟨hk, hb⟩ hc; rfl)
        · rw [show n - k = 0 by omega]; rfl
      have HRES := hid hres
      have FINX := hid Qr
      by_cases hk : k < n
      · have i1 : (k : Int) < (n : Int) := by omega
        have hb : L'.bad = true := by cases hb : L'.bad; exact absurd ⟨hk, hb⟩ hc; rfl
        rw [hb] at c2
        clear hc hres HLI HAL
        have Q9 := FINX.out
        clear FINX Qr hb c0 c1 fz
        have Z1 := hid Q9.row
        have Z2 := hid (show (Try.prog.info? 32).map (·.size) = some (rpC { rp0 with chs := acc } (.slice none 0 0) (.slice none 0 0) (.slice none 0 0) cv).toArray.size by rw [List.size_toArray, rpC_len Q9.o.l]; exact Try.sizeRep)
        have Z3 := hid (show (Try.prog.info? 32).map (·.size) = some (rpC { rp0 with chs := acc } (.slice none 0 0) (.slice none 0 0) (.slice none 0 0) cv).length by rw [rpC_len Q9.o.l]; exact Try.sizeRep)
        have Z5 := hid (show (rpC rp0 (.slice none 0 0) (.slice none 0 0) (.slice none 0 0) (.slice none 0 0)).length = (rpC { rp0 with chs := acc } (.slice none 0 0) (.slice none 0 0) (.slice none 0 0) cv).length from (rpC_len rp0_L).trans (rpC_len Q9.o.l).symm)
        have Z4 := hid Q9.o.one
        have Z6 := hid Q9.ans
        go_wp2_with (first | (refine wpList_load_row rfl 32 _ rfl w.heap.size rfl 32 _ (0, 0) _ Z1.out Try.underlying32 rfl Z2.out ?_) | (refine wpList_storeRowW rfl 32 _ _ rfl (w.heap.size + 1) (rpC { rp0 with chs := acc } (.slice none 0 0) (.slice none 0 0) (.slice none 0 0) cv) rfl rfl 32 _ Z6.out Z3.out Z5.out Z4.out ?_; intro wz hrz hkz))
        obtain ⟨z1, z2, z3⟩ := Q9.out hkz
        refine bodyPost_ret (results_c1 Try.results32 _ _ (w.heap.size + 1) 32 _ (0, 0) _ rfl hrz Try.underlying32 rfl Z2.out) rfl ?_
        rw [HRES.out]
        exact ⟨_, _, _, _, rfl, ⟨_, _, z1⟩, z2, z3⟩
      · have i1 : ¬ (k : Int) < (n : Int) := by omega
        clear hc hres HLI HAL c2
        have Q9 := FINX.out
        clear FINX Qr c0 c1 fz
        have Z1 := hid Q9.row
        have Z2 := hid (show (Try.prog.info? 32).map (·.size) = some (rpC { rp0 with chs := acc } (.slice none 0 0) (.slice none 0 0) (.slice none 0 0) cv).toArray.size by rw [List.size_toArray, rpC_len Q9.o.l]; exact Try.sizeRep)
        have Z3 := hid (show (Try.prog.info? 32).map (·.size) = some (rpC { rp0 with chs := acc } (.slice none 0 0) (.slice none 0 0) (.slice none 0 0) cv).length by rw [rpC_len Q9.o.l]; exact Try.sizeRep)
        have Z5 := hid (show (rpC rp0 (.slice none 0 0) (.slice none 0 0) (.slice none 0 0) (.slice none 0 0)).length = (rpC { rp0 with chs := acc } (.slice none 0 0) (.slice none 0 0) (.slice none 0 0) cv).length from (rpC_len rp0_L).trans (rpC_len Q9.o.l).symm)
        have Z4 := hid Q9.o.one
        have Z6 := hid Q9.ans
        go_wp2_with (first | (refine wpList_load_row rfl 32 _ rfl w.heap.size rfl 32 _ (0, 0) _ Z1.out Try.underlying32 rfl Z2.out ?_) | (refine wpList_storeRowW rfl 32 _ _ rfl (w.heap.size + 1) (rpC { rp0 with chs := acc } (.slice none 0 0) (.slice none 0 0) (.slice none 0 0) cv) rfl rfl 32 _ Z6.out Z3.out Z5.out Z4.out ?_; intro wz hrz hkz))
        obtain ⟨z1, z2, z3⟩ := Q9.out hkz
        refine bodyPost_ret (results_c1 Try.results32 _ _ (w.heap.size + 1) 32 _ (0, 0) _ rfl hrz Try.underlying32 rfl Z2.out) rfl ?_
        rw [HRES.out]
        exact ⟨_, _, _, _, rfl, ⟨_, _, z1⟩, z2, z3⟩
end Go.Proofs.Ytenfklcgkfaajaa
