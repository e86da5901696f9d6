import Derived.Test.YtenfklcgkfaajaaDk74
namespace Go.Proofs.Ytenfklcgkfaajaa
set_option linter.unusedVariables false
set_option linter.unusedSimpArgs false
open Go.RowKit
attribute [local go_sem ↓] Go.wp_at_zero Go.wp_at_succ

theorem RqOwnD.plain {w : World} {base : Nat} {v : Value} {q : Rq} (h : RqOwnD w base v q) : RqOwn w base v q := by
  obtain ⟨k, h', b, h2, h3, h4, h5, _⟩ := h
  exact ⟨k, h', b, h2, h3, h4, h5⟩
theorem dec_nine : decP [3, 255, 255, 255, 255, 255, 255, 255, 255] = some ⟨3, -1, 0, 0, [], [], []⟩ := by rfl
set_option maxRecDepth 100000 in
set_option maxHeartbeats 8000000 in
theorem deskParts_any (w : World) (op : Int) (o0 : -9223372036854775808 ≤ op) (o1 : op ≤ 9223372036854775807) (raw : List Int) (hy : Bys raw) (sp : Option Addr) (cap : Nat) (hS : Src w sp cap raw) (hnil : sp = none → cap = 0) (hl : raw.length ≤ 140737488351232) :
    Calls Try.prog 3 #[.int .i64 op, .slice sp raw.length cap] w fun e w' => e = .returned (.bool true) ∧ Below w.heap.size w w' := by
  have HDT := hid (dc_tl op raw)
  have HDA := hid (dec_ask raw hy)
  have HY := hid (dcP_facts op raw hy (by omega)).2
  have HQY := hid (ask_facts hy).1
  have HW := hid (dcP_wide op raw (by omega))
  have HQW := hid (askP_wide raw hl)
  have KR := hid (roomy_any w raw sp cap hS hnil hl)
  have i0 : (raw.length : Int) ≤ 140737488351232 := by omega
  go_enter Try.func3, Try.ntmps3
  go_wp2_with fail
  refine KR.out.mono ?_
  clear KR
  rintro e w1 ⟨k1, c1, rfl, hk1, R1, hB1⟩
  have hk1l : k1 < w1.heap.size := R1.2.1
  have KD := hid (decodeRD_any w1 raw hy k1 0 c1 R1.src (by omega) op o0 o1)
  go_wp2_with fail
  refine KD.out.mono ?_
  clear KD
  rintro e w2 ⟨vv, rv, lv, cv, rfl, ⟨ml, mc, Q2, sd, dl, dc⟩, hb2⟩
  generalize hD : dcP op raw = D at *
  replace hD := hid hD
  generalize hr : D.getD rp0 = r at *
  replace hr := hid hr
  have SR := hid (show (Try.prog.info? 32).map (·.size) = some (rpC r vv rv lv cv).toArray.size by rw [List.size_toArray, rpC_len Q2.l]; exact Try.sizeRep)
  have SL := hid (show (Try.prog.info? 32).map (·.size) = some (rpC r vv rv lv cv).length by rw [rpC_len Q2.l]; exact Try.sizeRep)
  have SE := hid (show (rpC rp0 (.slice none 0 0) (.slice none 0 0) (.slice none 0 0) (.slice none 0 0)).length = (rpC r vv rv lv cv).length by rw [rpC_len Q2.l, rpC_len rp0_L])
  have C2 := hid Q2.one
  go_wp2_with (first | (refine wpList_allocV allocRep rfl rfl ?_) | (refine wpList_storeRowW rfl 32 _ _ rfl w2.heap.size (rpC r vv rv lv cv) rfl rfl 32 _ (hnew w2 (.cells (rpC rp0 (.slice none 0 0) (.slice none 0 0) (.slice none 0 0) (.slice none 0 0)).toArray 32)) SL.out SE.out C2.out ?_; intro w3 hr3 hk3; refine Hid.out ?_))
  refine hid ?_
  have hb3 : Below w2.heap.size w2 w3 := ((Below.refl w2.heap.size w2).alloc (Nat.le_refl _) _).trans (hk3.below_g (Nat.le_refl _) (by simp))
  have hb13 := hb2.trans (hb3.mono hb2.size)
  have R3 := R1.below hb13 (Nat.le_refl _)
  have Q3 := Q2.below hb3 (Nat.le_refl _)
  have hz2 : w1.heap.size ≤ w2.heap.size := hb2.size
  generalize hpb : w2.heap.size = pb at *
  clear hb2 hb3 hk3 Q2 R1
  have KD := hid (decodeD_any w3 raw hy k1 0 c1 R3.src hl)
  rw [HDA.out] at KD
  go_wp2_with fail
  refine KD.out.mono ?_
  clear KD
  generalize hA : askP raw = A at *
  replace hA := hid hA
  generalize hq : A.getD rq0 = q at *
  replace hq := hid hq
  rintro e w4 ⟨v4, rfl, ⟨kv, hv, bv, rfl, ok4, oh4, ob4, dq⟩, hb4⟩
  have AGE := hid (show ∀ u, (u = vv ∨ u = rv ∨ u ∈ ml.map ME.sv ∨ u ∈ mc.map ME.sv) → Dj u kv ∧ Dj u hv ∧ Dj u bv from fun u hu => by
    have : ∃ b zs, Own w3 b u zs := by
      rcases hu with rfl | rfl | hu | hu
      · exact ⟨_, _, Q3.ov⟩
      · exact ⟨_, _, Q3.orw⟩
      · obtain ⟨m, hm, rfl⟩ := List.mem_map.1 hu
        obtain ⟨i, hi, e⟩ := List.mem_iff_getElem.1 hm
        have e2 : ml.getD i dM = m := by rw [List.getD_eq_getElem?_getD, List.getElem?_eq_getElem hi, e]; rfl
        have := (Q3.ol.el i (by rw [← Q3.ol.len]; exact hi)).2.2.2
        rw [e2] at this
        exact ⟨_, _, this⟩
      · obtain ⟨m, hm, rfl⟩ := List.mem_map.1 hu
        obtain ⟨i, hi, e⟩ := List.mem_iff_getElem.1 hm
        have e2 : mc.getD i dM = m := by rw [List.getD_eq_getElem?_getD, List.getElem?_eq_getElem hi, e]; rfl
        have := (Q3.oc.el i (by rw [← Q3.oc.len]; exact hi)).2.2.2
        rw [e2] at this
        exact ⟨_, _, this⟩
    obtain ⟨b, zs, o⟩ := this
    exact ⟨dj_age o ok4 (Nat.le_refl _), dj_age o oh4 (Nat.le_refl _), dj_age o ob4 (Nat.le_refl _)⟩)
  have CQ := hid (rqC_one (op := q.op) (ver := q.ver) (oth := q.oth) (lim := q.lim) ok4.cells.2 oh4.cells.2 ob4.cells.2)
  go_wp2_with (first | (refine wpList_storeRowW rfl 36 _ _ rfl w4.heap.size (rqC q.op q.ver q.oth q.lim kv hv bv) rfl rfl 36 _ (hnew w4 (.cells (rqC 0 0 0 0 (.slice none 0 0) (.slice none 0 0) (.slice none 0 0)).toArray 36)) Try.sizeRq rfl CQ.out ?_; intro w5 hr5 hk5; refine Hid.out ?_))
  refine hid ?_
  have hb5 : Below w4.heap.size w4 w5 := ((Below.refl w4.heap.size w4).alloc (Nat.le_refl _) _).trans (hk5.below_g (Nat.le_refl _) (by simp))
  have hb35 := hb4.trans (hb5.mono hb4.size)
  have hz3 : w1.heap.size ≤ w3.heap.size := hb13.size
  have hz4 : w1.heap.size ≤ w4.heap.size := Nat.le_trans hz3 hb4.size
  have P5 := hbel hb35 hr3 (hlt hr3)
  have Q5 := Q3.below hb35 (Nat.le_refl _)
  have ok5 := own_lower (ok4.below hb5 (Nat.le_refl _)) hz3
  have oh5 := own_lower (oh4.below hb5 (Nat.le_refl _)) hz3
  have ob5 := own_lower (ob4.below hb5 (Nat.le_refl _)) hz3
  have R5 := R3.below hb35 (Nat.le_refl _)
  have hb15 := hb13.trans (hb35.mono hz3)
  have hB5 := hB1.trans (hb15.mono hB1.size)
  generalize hqb : w4.heap.size = qb at *
  clear hb4 hb5 hk5 hb35 hb13 Q3 R3 hr3 ok4 oh4 ob4
  have KA := hid (told_any w5 sp cap raw hy (hS.below hB5 (Nat.le_refl _)) (by omega) op o0 o1)
  rw [← HDT.out] at KA
  rw [hr.out] at KA
  go_wp2_with fail
  refine KA.out.mono ?_
  clear KA
  rintro e w6 ⟨vv', rv', lv', cv', rfl, ⟨ml', mc', Q6⟩, hb6⟩
  have SR' := hid (show (Try.prog.info? 32).map (·.size) = some (rpC r vv' rv' lv' cv').toArray.size by rw [List.size_toArray, rpC_len Q6.l]; exact Try.sizeRep)
  have SL' := hid (show (Try.prog.info? 32).map (·.size) = some (rpC r vv' rv' lv' cv').length by rw [rpC_len Q6.l]; exact Try.sizeRep)
  have SE' := hid (show (rpC rp0 (.slice none 0 0) (.slice none 0 0) (.slice none 0 0) (.slice none 0 0)).length = (rpC r vv' rv' lv' cv').length by rw [rpC_len Q6.l, rpC_len rp0_L])
  have C6 := hid Q6.one
  go_wp2_with (first | (refine wpList_allocV allocRep rfl rfl ?_) | (refine wpList_storeRowW rfl 32 _ _ rfl w6.heap.size (rpC r vv' rv' lv' cv') rfl rfl 32 _ (hnew w6 (.cells (rpC rp0 (.slice none 0 0) (.slice none 0 0) (.slice none 0 0) (.slice none 0 0)).toArray 32)) SL'.out SE'.out C6.out ?_; intro w7 hr7 hk7; refine Hid.out ?_))
  refine hid ?_
  have hb7 : Below w6.heap.size w6 w7 := ((Below.refl w6.heap.size w6).alloc (Nat.le_refl _) _).trans (hk7.below_g (Nat.le_refl _) (by simp))
  have hb57 := hb6.trans (hb7.mono hb6.size)
  have I7 := Q6.below hb7 (Nat.le_refl _)
  generalize hpt : w6.heap.size = pt at *
  have hB7 := hB5.trans (hb57.mono hB5.size)
  clear hb6 hb7 hk7 Q6 SL' SE' C6
  have KA := hid (asked_any w7 raw hy sp cap (hS.below hB7 (Nat.le_refl _)) hl)
  rw [hA.out] at KA
  rw [hq.out] at KA
  go_wp2_with fail
  refine KA.out.mono ?_
  clear KA
  rintro e w8 ⟨v8, rfl, Q8, hb8⟩
  obtain ⟨kv', hv', bv', rfl, ok8, oh8, ob8⟩ := Q8
  have CQ' := hid (rqC_one (op := q.op) (ver := q.ver) (oth := q.oth) (lim := q.lim) ok8.cells.2 oh8.cells.2 ob8.cells.2)
  go_wp2_with (first | (refine wpList_storeRowW rfl 36 _ _ rfl w8.heap.size (rqC q.op q.ver q.oth q.lim kv' hv' bv') rfl rfl 36 _ (hnew w8 (.cells (rqC 0 0 0 0 (.slice none 0 0) (.slice none 0 0) (.slice none 0 0)).toArray 36)) Try.sizeRq rfl CQ'.out ?_; intro w9 hr9 hk9; refine Hid.out ?_))
  refine hid ?_
  have hb9 : Below w8.heap.size w8 w9 := ((Below.refl w8.heap.size w8).alloc (Nat.le_refl _) _).trans (hk9.below_g (Nat.le_refl _) (by simp))
  have hb79 := hb8.trans (hb9.mono hb8.size)
  have hb59 := hb57.trans (hb79.mono hb57.size)
  have hz5 := hb15.size
  have hz7 := Nat.le_trans hz5 hb57.size
  have I9 := (I7.below hb79 (Nat.le_refl _)).lower hz5
  have ok9' := own_lower (ok8.below hb9 (Nat.le_refl _)) hz7
  have oh9' := own_lower (oh8.below hb9 (Nat.le_refl _)) hz7
  have ob9' := own_lower (ob8.below hb9 (Nat.le_refl _)) hz7
  have T9 := hbel hb79 hr7 (hlt hr7)
  have P9 := hbel hb59 P5 (hlt P5)
  have Y9 := hbel hb59 hr5 (hlt hr5)
  have Q9 := Q5.below hb59 (Nat.le_refl _)
  have ok9 := ok5.below hb59 (Nat.le_refl _)
  have oh9 := oh5.below hb59 (Nat.le_refl _)
  have ob9 := ob5.below hb59 (Nat.le_refl _)
  have R9 := R5.below hb59 (Nat.le_refl _)
  have hb19 := hb15.trans (hb59.mono hb15.size)
  have hB9 := hB1.trans (hb19.mono hB1.size)
  generalize hqt : w8.heap.size = qt at *
  clear hb8 hb9 hk9 hb79 hb59 hb57 hb15 I7 ok8 oh8 ob8 CQ' P5 hr5 hr7 Q5 ok5 oh5 ob5 R5 hB5 hB7
  have KU := hid (untouched_yes w9 raw hy k1 c1 R9 sp cap (hS.below hB9 (Nat.le_refl _)))
  go_wp2_with (first | (go_at_call 11; refine KU.out.mono ?_; rintro e wA ⟨rfl, hbA⟩; refine Hid.out ?_))
  refine hid ?_
  have gb := R9.2.2
  have hb1A := hb19.trans (hbA.mono hb19.size)
  have hBA := hB1.trans (hb1A.mono hB1.size)
  have IA := I9.below hbA (Nat.le_refl _)
  have QA := Q9.below hbA (Nat.le_refl _)
  have okA := ok9.below hbA (Nat.le_refl _)
  have ohA := oh9.below hbA (Nat.le_refl _)
  have obA := ob9.below hbA (Nat.le_refl _)
  have okA' := ok9'.below hbA (Nat.le_refl _)
  have ohA' := oh9'.below hbA (Nat.le_refl _)
  have obA' := ob9'.below hbA (Nat.le_refl _)
  have PA := hbel hbA P9 (hlt P9)
  have YA := hbel hbA Y9 (hlt Y9)
  have TA := hbel hbA T9 (hlt T9)
  have ZA := hbel hbA hr9 (hlt hr9)
  obtain ⟨cur, hcur, hcz⟩ := (R9.below hbA (Nat.le_refl _)).2.2
  have hcap := R9.src.1
  have hmax := R9.src.2.1
  have i1 : (raw.length : Int) ≤ 9223372036854775807 := by omega
  clear KU hbA I9 Q9 ok9 oh9 ob9 ok9' oh9' ob9' P9 Y9 T9 hr9 hb19 hB9 R9 gb
  generalize hN : raw.length = N at *
  replace hN := hid hN
  go_wp2
  go_loopw [14] (fun i wr => ∃ (n : Nat) (cu : Array Value), n ≤ N ∧ i = .int .i64 n ∧ wr.heap[k1]? = some (.cells cu 5 (0, 0)) ∧ cu.size = c1 ∧ (∀ j, j < n → cu[j]? = some (.int .u8 238)) ∧ Keeps k1 wA wr) (fun i _ => N - (intOf i).toNat)
  case atStart => exact ⟨0, cur, Nat.zero_le _, rfl, hcur, hcz, fun j hj => by omega, Keeps.refl _ _⟩
  case round =>
    obtain ⟨n, cu, hn, rfl, hg2, hs2, hc2, hK⟩ := hrel
    by_cases hlt' : n < N
    · have i2 : (n : Int) < (N : Int) := by omega
      have c0 : wr.cell? ⟨k1, n, none⟩ = some cu[n] := by rw [cell_of_row _ _ _ _ _ _ hg2, Array.getElem?_eq_getElem (by omega)]
      have fz : wr.frozen? ⟨k1, n, none⟩ = false := frozen_of_row _ _ _ _ _ hg2
      have HN := hid (show (wr.setCell ⟨k1, n, none⟩ (.int .u8 238)).heap[k1]? = some (.cells (cu.setIfInBounds n (.int .u8 238)) 5 (0, 0)) by rw [heap_setCell_same _ _ _ _ _ _ hg2])
      have HK := hid (hK.setCell n (.int .u8 238))
      have HC := hid hc2
      generalize cu[n] = u at c0
      clear hc2 hK hg2
      go_wp2
      go_roundw
      case rel =>
        refine ⟨n + 1, cu.setIfInBounds n (.int .u8 238), by omega, by go_num, HN.out, by simp [hs2], fun j hj => ?_, HK.out⟩
        rw [Array.getElem?_setIfInBounds]
        by_cases q : n = j
        · rw [if_pos q, if_pos (by omega)]
        · rw [if_neg q]; exact HC.out j (by omega)
      case measure => simp [intOf]; omega
    · obtain rfl : n = N := by omega
      have OW := own_rep (base := 0) hg2 (Nat.zero_le _) hcap hmax hs2 hc2
      have IL := IA.keeps hK hk1l
      have QL := QA.keeps hK hk1l
      have okL := okA.keeps hK hk1l
      have ohL := ohA.keeps hK hk1l
      have obL := obA.keeps hK hk1l
      have okL' := okA'.keeps hK hk1l
      have ohL' := ohA'.keeps hK hk1l
      have obL' := obA'.keeps hK hk1l
      have PL := hK.heap PA (ne_ty PA hcur (by decide))
      have YL := hK.heap YA (ne_ty YA hcur (by decide))
      have TL := hK.heap TA (ne_ty TA hcur (by decide))
      have ZL := hK.heap ZA (ne_ty ZA hcur (by decide))
      have hBL := hBA.trans (hK.below_g hk1 hBA.size)
      have hzL := Nat.le_trans hb1A.size hK.size
      clear hlt' hK hg2 hs2 hc2 IA QA okA ohA obA okA' ohA' obA' PA YA TA ZA hBA hb1A hcur hcz
      obtain ⟨vs, rs, ls, cs, vc, rc, lc, cc, e1, J1⟩ := QL.inn
      obtain ⟨vs', rs', ls', cs', vc', rc', lc', cc', e2, J2⟩ := IL.inn
      have KS := hid (sameReply_yes wr r HY.out vs rs ls cs vc rc lc cc J1 vs' rs' ls' cs' vc' rc' lc' cc' J2)
      rw [← e1, ← e2] at KS
      clear e1 e2 J1 J2 IL
      have P1 := hid PL
      have T1 := hid TL
      have KQ := hid (fun (wM : World) (hb : Below wr.heap.size wr wM) => by
        obtain ⟨ks, hs, bs, kc, hc, bc, e3, J3⟩ := (show RqOwn wM w1.heap.size (.agg (rqC q.op q.ver q.oth q.lim kv hv bv).toArray) q from ⟨kv, hv, bv, rfl, okL.below hb (Nat.le_refl _), ohL.below hb (Nat.le_refl _), obL.below hb (Nat.le_refl _)⟩).open
        obtain ⟨ks', hs', bs', kc', hc', bc', e4, J4⟩ := (show RqOwn wM w1.heap.size (.agg (rqC q.op q.ver q.oth q.lim kv' hv' bv').toArray) q from ⟨kv', hv', bv', rfl, okL'.below hb (Nat.le_refl _), ohL'.below hb (Nat.le_refl _), obL'.below hb (Nat.le_refl _)⟩).open
        have := sameRequest_yes wM q HQY.out ks hs bs kc hc bc J3 ks' hs' bs' kc' hc' bc' J4
        rw [← e3, ← e4] at this
        exact this)
      go_wp2_with (first | (refine wpList_load_row_w (by rfl) 32 _ rfl pb rfl 32 _ (0, 0) _ P1.out Try.underlying32 rfl SR.out ?_) | (refine wpList_load_row_w (by rfl) 32 _ rfl pt rfl 32 _ (0, 0) _ T1.out Try.underlying32 rfl SR'.out ?_) | (go_at_call 12; refine KS.out.mono ?_; rintro e wM ⟨rfl, hbM⟩; refine Hid.out ?_))
      refine hid ?_
      have Y1 := hid (hbel hbM YL (hlt YL))
      have Z1 := hid (hbel hbM ZL (hlt ZL))
      have KT := hid (KQ.out wM hbM)
      clear KS KQ T1 P1 TL
      go_wp2_with (first | (refine wpList_load_row_w (by rfl) 36 _ rfl qb rfl 36 _ (0, 0) _ Y1.out Try.underlying36 rfl Try.sizeRq ?_) | (refine wpList_load_row_w (by rfl) 36 _ rfl qt rfl 36 _ (0, 0) _ Z1.out Try.underlying36 rfl Try.sizeRq ?_) | (go_at_call 13; refine KT.out.mono ?_; rintro e wB ⟨rfl, hbB⟩; refine Hid.out ?_))
      refine hid ?_
      have hbLB := hbM.trans (hbB.mono hbM.size)
      have HH : HS w wB wB w1.heap.size pb qb r q vv rv lv cv kv hv bv ml mc k1 n c1 :=
        ⟨hbel hbLB PL (hlt PL), hbel hbLB YL (hlt YL), (QL.below hbLB (Nat.le_refl _)).ol.lrow, (QL.below hbLB (Nat.le_refl _)).oc.lrow, OW.below hbLB (Nat.le_refl _), hk1l, hBL.trans (hbLB.mono hBL.size), Nat.le_trans hzL hbLB.size, hB1.size⟩
      have HPB := (QL.below hbLB (Nat.le_refl _)).hp (okL.below hbLB (Nat.le_refl _)) (ohL.below hbLB (Nat.le_refl _)) (obL.below hbLB (Nat.le_refl _))
      have DV := hid (VL_dj (r := r) (q := q) QL.ol.len QL.oc.len sd dl dc dq AGE.out)
      have hln := QL.ol.len
      have hcn := QL.oc.len
      have VW := hid (VL_wide (q := q) (vv := vv) (rv := rv) (kv := kv) (hv := hv) (bv := bv) hln hcn HW.out HQW.out)
      clear hbM hbB hbLB KT Y1 Z1 YL ZL PL OW okL ohL obL okL' ohL' obL' hBL AGE sd dl dc dq SR SL SE SR' CQ C2
      have HRL := hid QL.l
      clear QL
      go_wp2_with fail
      have H0 := HH.drew
      have P0 := HPB.drew
      have LVV := hid (VL_len (r := r) (q := q) (vv := vv) (rv := rv) (kv := kv) (hv := hv) (bv := bv) hln hcn)
      have LV0 := hid (show 0 < (VL r q vv rv kv hv bv ml mc).length by rw [LVV.out]; omega)
      have LV1 := hid (show 1 < (VL r q vv rv kv hv bv ml mc).length by rw [LVV.out]; omega)
      have LV2 := hid (show 2 < (VL r q vv rv kv hv bv ml mc).length by rw [LVV.out]; omega)
      have LV3 := hid (show 3 < (VL r q vv rv kv hv bv ml mc).length by rw [LVV.out]; omega)
      have LV4 := hid (show 4 < (VL r q vv rv kv hv bv ml mc).length by rw [LVV.out]; omega)
      clear HH HPB
      refine wp_region_noPanic ?_
      refine wp_region_held_drew (S := (fun w' => w'.heap[pb]? = some (.cells (rpC r vv rv lv cv).toArray 32 (0, 0)) ∧ w'.heap[qb]? = some (.cells (rqC q.op q.ver q.oth q.lim kv hv bv).toArray 36 (0, 0)))) (by kernel_rfl) ⟨H0.rp, H0.rq⟩ (fun hHeld => ?_)
      refine wpAnyH_take (i := 0) (oi := { dst := some 78, op := Op.fieldAddr 32 (Operand.tmp 6) 4, type := 0, pos := "law.go:627", after := #[], guard := none }) (v := .pointer (some ⟨pb, 4, none⟩)) rfl (by kernel_rfl) (by kernel_rfl) (by kernel_rfl) (fun _ _ _ h => h) (Or.inl ⟨by rfl, by intro w hS; go_simp⟩) hHeld ?_
      try simp only [Act.put, List.setIfInBounds_toArray, List.set_cons_zero, List.set_cons_succ]
      refine wpAnyH_take (i := 3) (oi := { dst := some 81, op := Op.fieldAddr 32 (Operand.tmp 6) 6, type := 0, pos := "law.go:627", after := #[], guard := none }) (v := .pointer (some ⟨pb, 37, none⟩)) rfl (by kernel_rfl) (by kernel_rfl) (by kernel_rfl) (fun _ _ _ h => h) (Or.inl ⟨by rfl, by intro w hS; go_simp⟩) hHeld ?_
      try simp only [Act.put, List.setIfInBounds_toArray, List.set_cons_zero, List.set_cons_succ]
      refine wpAnyH_take (i := 6) (oi := { dst := some 84, op := Op.fieldAddr 36 (Operand.tmp 8) 4, type := 0, pos := "law.go:627", after := #[], guard := none }) (v := .pointer (some ⟨qb, 4, none⟩)) rfl (by kernel_rfl) (by kernel_rfl) (by kernel_rfl) (fun _ _ _ h => h) (Or.inl ⟨by rfl, by intro w hS; go_simp⟩) hHeld ?_
      try simp only [Act.put, List.setIfInBounds_toArray, List.set_cons_zero, List.set_cons_succ]
      refine wpAnyH_take (i := 9) (oi := { dst := some 87, op := Op.fieldAddr 36 (Operand.tmp 8) 5, type := 0, pos := "law.go:627", after := #[], guard := none }) (v := .pointer (some ⟨qb, 5, none⟩)) rfl (by kernel_rfl) (by kernel_rfl) (by kernel_rfl) (fun _ _ _ h => h) (Or.inl ⟨by rfl, by intro w hS; go_simp⟩) hHeld ?_
      try simp only [Act.put, List.setIfInBounds_toArray, List.set_cons_zero, List.set_cons_succ]
      refine wpAnyH_take (i := 12) (oi := { dst := some 90, op := Op.fieldAddr 36 (Operand.tmp 8) 6, type := 0, pos := "law.go:627", after := #[], guard := none }) (v := .pointer (some ⟨qb, 6, none⟩)) rfl (by kernel_rfl) (by kernel_rfl) (by kernel_rfl) (fun _ _ _ h => h) (Or.inl ⟨by rfl, by intro w hS; go_simp⟩) hHeld ?_
      try simp only [Act.put, List.setIfInBounds_toArray, List.set_cons_zero, List.set_cons_succ]
      refine wpAnyH_take (i := 1) (oi := { dst := some 79, op := Op.load 22 (Operand.tmp 78), type := 22, pos := "law.go:627", after := #[{ on := 0, ground := Ground.data }], guard := none }) (v := vv) rfl (by kernel_rfl) (by kernel_rfl) (by kernel_rfl) (fun _ _ _ h => h) (Or.inl ⟨by rfl, by intro w hS; have hc := (RC.of hS.1 HRL.out).c4; go_simp⟩) hHeld ?_
      try simp only [Act.put, List.setIfInBounds_toArray, List.set_cons_zero, List.set_cons_succ]
      refine wpAnyH_take (i := 4) (oi := { dst := some 82, op := Op.load 22 (Operand.tmp 81), type := 22, pos := "law.go:627", after := #[{ on := 3, ground := Ground.data }], guard := none }) (v := rv) rfl (by kernel_rfl) (by kernel_rfl) (by kernel_rfl) (fun _ _ _ h => h) (Or.inl ⟨by rfl, by intro w hS; have hc := (RC.of hS.1 HRL.out).c37; go_simp⟩) hHeld ?_
      try simp only [Act.put, List.setIfInBounds_toArray, List.set_cons_zero, List.set_cons_succ]
      refine wpAnyH_take (i := 7) (oi := { dst := some 85, op := Op.load 22 (Operand.tmp 84), type := 22, pos := "law.go:627", after := #[{ on := 6, ground := Ground.data }], guard := none }) (v := kv) rfl (by kernel_rfl) (by kernel_rfl) (by kernel_rfl) (fun _ _ _ h => h) (Or.inl ⟨by rfl, by intro w hS; have hc := (show w.cell? ⟨qb, 4, none⟩ = some kv by rw [cell_of_row _ _ _ _ _ _ hS.2]; rfl); go_simp⟩) hHeld ?_
      try simp only [Act.put, List.setIfInBounds_toArray, List.set_cons_zero, List.set_cons_succ]
      refine wpAnyH_take (i := 10) (oi := { dst := some 88, op := Op.load 22 (Operand.tmp 87), type := 22, pos := "law.go:627", after := #[{ on := 9, ground := Ground.data }], guard := none }) (v := hv) rfl (by kernel_rfl) (by kernel_rfl) (by kernel_rfl) (fun _ _ _ h => h) (Or.inl ⟨by rfl, by intro w hS; have hc := (show w.cell? ⟨qb, 5, none⟩ = some hv by rw [cell_of_row _ _ _ _ _ _ hS.2]; rfl); go_simp⟩) hHeld ?_
      try simp only [Act.put, List.setIfInBounds_toArray, List.set_cons_zero, List.set_cons_succ]
      refine wpAnyH_take (i := 13) (oi := { dst := some 91, op := Op.load 22 (Operand.tmp 90), type := 22, pos := "law.go:627", after := #[{ on := 12, ground := Ground.data }], guard := none }) (v := bv) rfl (by kernel_rfl) (by kernel_rfl) (by kernel_rfl) (fun _ _ _ h => h) (Or.inl ⟨by rfl, by intro w hS; have hc := (show w.cell? ⟨qb, 6, none⟩ = some bv by rw [cell_of_row _ _ _ _ _ _ hS.2]; rfl); go_simp⟩) hHeld ?_
      try simp only [Act.put, List.setIfInBounds_toArray, List.set_cons_zero, List.set_cons_succ]
      refine wpAnyH_ready (rs := [2]) (by kernel_rfl) (by simp) ?_
      refine (AllReadyH.cons (o := { dst := some 80, op := Op.call { callee := Callee.value (Operand.func 14), args := #[Operand.tmp 79, Operand.const (Value.int IntKind.u8 1)], argTypes := #[22, 5] }, type := 47, pos := "law.go:627", after := #[{ on := 1, ground := Ground.data }], guard := none }) rfl (fun K hK => ?_) AllReadyH.nil)
      go_simp
      go_at_call 14
      refine (hold_any _ w1.heap.size H0.bb vv r.val (P0.own (i := 0) rfl LV0.out rfl) 1).mono ?_
      rintro e x1 ⟨rfl, O1, k1v⟩
      have P1 : HP x1 w1.heap.size (VL r q vv rv kv hv bv ml mc) [hcN 1 r.val.length vv] := P0.one DV.out (i := 0) rfl LV0.out rfl O1 k1v
      have H1 := H0.hold k1v (P0.own (i := 0) rfl LV0.out rfl)
      go_wp2_with fail
      refine hK.out _ _ (⟨H1.rp, H1.rq⟩) (fun hHeld2 => ?_)
      clear hK K hHeld
      have hHeld := hHeld2
      clear hHeld2
      clear P0 H0 O1 k1v
      try simp only [Act.put, List.setIfInBounds_toArray, List.set_cons_zero, List.set_cons_succ]
      refine wpAnyH_ready (rs := [5]) (by kernel_rfl) (by simp) ?_
      refine (AllReadyH.cons (o := { dst := some 83, op := Op.call { callee := Callee.value (Operand.func 14), args := #[Operand.tmp 82, Operand.const (Value.int IntKind.u8 2)], argTypes := #[22, 5] }, type := 47, pos := "law.go:627", after := #[{ on := 4, ground := Ground.data }, { on := 2, ground := Ground.chain }], guard := none }) rfl (fun K hK => ?_) AllReadyH.nil)
      go_simp
      go_at_call 14
      refine (hold_any _ w1.heap.size H1.bb rv r.raw (P1.own (i := 1) rfl LV1.out rfl) 2).mono ?_
      rintro e x2 ⟨rfl, O2, k2v⟩
      have P2 : HP x2 w1.heap.size (VL r q vv rv kv hv bv ml mc) [hcN 1 r.val.length vv, hcN 2 r.raw.length rv] := P1.one DV.out (i := 1) rfl LV1.out rfl O2 k2v
      have H2 := H1.hold k2v (P1.own (i := 1) rfl LV1.out rfl)
      go_wp2_with fail
      refine hK.out _ _ (⟨H2.rp, H2.rq⟩) (fun hHeld2 => ?_)
      clear hK K hHeld
      have hHeld := hHeld2
      clear hHeld2
      clear P1 H1 O2 k2v
      try simp only [Act.put, List.setIfInBounds_toArray, List.set_cons_zero, List.set_cons_succ]
      refine wpAnyH_ready (rs := [8]) (by kernel_rfl) (by simp) ?_
      refine (AllReadyH.cons (o := { dst := some 86, op := Op.call { callee := Callee.value (Operand.func 14), args := #[Operand.tmp 85, Operand.const (Value.int IntKind.u8 3)], argTypes := #[22, 5] }, type := 47, pos := "law.go:627", after := #[{ on := 7, ground := Ground.data }, { on := 5, ground := Ground.chain }], guard := none }) rfl (fun K hK => ?_) AllReadyH.nil)
      go_simp
      go_at_call 14
      refine (hold_any _ w1.heap.size H2.bb kv q.key (P2.own (i := 2) rfl LV2.out rfl) 3).mono ?_
      rintro e x3 ⟨rfl, O3, k3v⟩
      have P3 : HP x3 w1.heap.size (VL r q vv rv kv hv bv ml mc) [hcN 1 r.val.length vv, hcN 2 r.raw.length rv, hcN 3 q.key.length kv] := P2.one DV.out (i := 2) rfl LV2.out rfl O3 k3v
      have H3 := H2.hold k3v (P2.own (i := 2) rfl LV2.out rfl)
      go_wp2_with fail
      refine hK.out _ _ (⟨H3.rp, H3.rq⟩) (fun hHeld2 => ?_)
      clear hK K hHeld
      have hHeld := hHeld2
      clear hHeld2
      clear P2 H2 O3 k3v
      try simp only [Act.put, List.setIfInBounds_toArray, List.set_cons_zero, List.set_cons_succ]
      refine wpAnyH_ready (rs := [11]) (by kernel_rfl) (by simp) ?_
      refine (AllReadyH.cons (o := { dst := some 89, op := Op.call { callee := Callee.value (Operand.func 14), args := #[Operand.tmp 88, Operand.const (Value.int IntKind.u8 4)], argTypes := #[22, 5] }, type := 47, pos := "law.go:627", after := #[{ on := 10, ground := Ground.data }, { on := 8, ground := Ground.chain }], guard := none }) rfl (fun K hK => ?_) AllReadyH.nil)
      go_simp
      go_at_call 14
      refine (hold_any _ w1.heap.size H3.bb hv q.high (P3.own (i := 3) rfl LV3.out rfl) 4).mono ?_
      rintro e x4 ⟨rfl, O4, k4v⟩
      have P4 : HP x4 w1.heap.size (VL r q vv rv kv hv bv ml mc) [hcN 1 r.val.length vv, hcN 2 r.raw.length rv, hcN 3 q.key.length kv, hcN 4 q.high.length hv] := P3.one DV.out (i := 3) rfl LV3.out rfl O4 k4v
      have H4 := H3.hold k4v (P3.own (i := 3) rfl LV3.out rfl)
      go_wp2_with fail
      refine hK.out _ _ (⟨H4.rp, H4.rq⟩) (fun hHeld2 => ?_)
      clear hK K hHeld
      have hHeld := hHeld2
      clear hHeld2
      clear P3 H3 O4 k4v
      try simp only [Act.put, List.setIfInBounds_toArray, List.set_cons_zero, List.set_cons_succ]
      refine wpAnyH_ready (rs := [14]) (by kernel_rfl) (by simp) ?_
      refine (AllReadyH.cons (o := { dst := some 92, op := Op.call { callee := Callee.value (Operand.func 14), args := #[Operand.tmp 91, Operand.const (Value.int IntKind.u8 5)], argTypes := #[22, 5] }, type := 47, pos := "law.go:627", after := #[{ on := 13, ground := Ground.data }, { on := 11, ground := Ground.chain }], guard := none }) rfl (fun K hK => ?_) AllReadyH.nil)
      go_simp
      go_at_call 14
      refine (hold_any _ w1.heap.size H4.bb bv q.batch (P4.own (i := 4) rfl LV4.out rfl) 5).mono ?_
      rintro e x5 ⟨rfl, O5, k5v⟩
      have P5 : HP x5 w1.heap.size (VL r q vv rv kv hv bv ml mc) [hcN 1 r.val.length vv, hcN 2 r.raw.length rv, hcN 3 q.key.length kv, hcN 4 q.high.length hv, hcN 5 q.batch.length bv] := P4.one DV.out (i := 4) rfl LV4.out rfl O5 k5v
      have H5 := H4.hold k5v (P4.own (i := 4) rfl LV4.out rfl)
      go_wp2_with fail
      refine hK.out _ _ (⟨H5.rp, H5.rq⟩) (fun hHeld2 => ?_)
      clear hK K hHeld
      have hHeld := hHeld2
      clear hHeld2
      clear P4 H4 O5 k5v
      try simp only [Act.put, List.setIfInBounds_toArray, List.set_cons_zero, List.set_cons_succ]
      refine wpAnyH_ready (rs := [15]) (by kernel_rfl) (by simp) ?_
      refine (AllReadyH.cons (o := { dst := some 93, op := Op.buildSlice 49 5 #[(0, Operand.tmp 80), (1, Operand.tmp 83), (2, Operand.tmp 86), (3, Operand.tmp 89), (4, Operand.tmp 92)], type := 49, pos := "law.go:627", after := #[{ on := 2, ground := Ground.data }, { on := 5, ground := Ground.data }, { on := 8, ground := Ground.data }, { on := 11, ground := Ground.data }, { on := 14, ground := Ground.data }], guard := none }) rfl (fun K hK => ?_) AllReadyH.nil)
      refine step_slice5 (by rfl) _ _ _ _ _ rfl (hcN 1 r.val.length vv) (hcN 2 r.raw.length rv) (hcN 3 q.key.length kv) (hcN 4 q.high.length hv) (hcN 5 q.batch.length bv) rfl rfl rfl rfl rfl ?_
      refine hK.out _ _ (⟨(H5.alloc _).rp, (H5.alloc _).rq⟩) (fun hHeld2 => ?_)
      clear hK K hHeld
      have hHeld := hHeld2
      clear hHeld2
      try simp only [Act.put, List.setIfInBounds_toArray, List.set_cons_zero, List.set_cons_succ]
      refine wpAnyH_take (i := 16) (oi := { dst := some 15, op := Op.assign (Operand.tmp 93), type := 49, pos := "law.go:627", after := #[{ on := 15, ground := Ground.data }, { on := 14, ground := Ground.chain }, { on := 0, ground := Ground.phase }, { on := 1, ground := Ground.phase }, { on := 2, ground := Ground.phase }, { on := 3, ground := Ground.phase }, { on := 4, ground := Ground.phase }, { on := 5, ground := Ground.phase }, { on := 6, ground := Ground.phase }, { on := 7, ground := Ground.phase }, { on := 8, ground := Ground.phase }, { on := 9, ground := Ground.phase }, { on := 10, ground := Ground.phase }, { on := 11, ground := Ground.phase }, { on := 12, ground := Ground.phase }, { on := 13, ground := Ground.phase }, { on := 14, ground := Ground.phase }, { on := 15, ground := Ground.phase }], guard := none }) (v := .slice (some ⟨x5.heap.size, 0, none⟩) 5 5) rfl (by kernel_rfl) (by kernel_rfl) (by kernel_rfl) (fun _ _ _ h => h) (Or.inl ⟨by rfl, by intro w hS; go_simp⟩) hHeld ?_
      try simp only [Act.put, List.setIfInBounds_toArray, List.set_cons_zero, List.set_cons_succ]
      refine wpAnyH_done (by kernel_rfl) ?_ _
      refine NoPanic.normal ?_
      clear hHeld
      have B5 := OwnH.new x5 w1.heap.size H5.bb _ (show ([hcN 1 r.val.length vv, hcN 2 r.raw.length rv, hcN 3 q.key.length kv, hcN 4 q.high.length hv, hcN 5 q.batch.length bv] : List Hc).length ≤ maxLen by simp [maxLen])
      have H6 := H5.alloc (.cells (flC [hcN 1 r.val.length vv, hcN 2 r.raw.length rv, hcN 3 q.key.length kv, hcN 4 q.high.length hv, hcN 5 q.batch.length bv]).toArray 47)
      have P6 := P5.alloc (.cells (flC [hcN 1 r.val.length vv, hcN 2 r.raw.length rv, hcN 3 q.key.length kv, hcN 4 q.high.length hv, hcN 5 q.batch.length bv]).toArray 47)
      clear H5 P5
      generalize x5.alloc (.cells (flC [hcN 1 r.val.length vv, hcN 2 r.raw.length rv, hcN 3 q.key.length kv, hcN 4 q.high.length hv, hcN 5 q.batch.length bv]).toArray 47) = x6 at *
      obtain ⟨lsp, lcap, hlv⟩ : ∃ sp c, lv = Value.slice sp r.list.length c := by obtain ⟨sp, cap, _, _, e, _⟩ := H6.ll; exact ⟨sp, cap, e⟩
      subst hlv
      obtain ⟨csp, ccap, hcv⟩ : ∃ sp c, cv = Value.slice sp r.chs.length c := by obtain ⟨sp, cap, _, _, e, _⟩ := H6.lc; exact ⟨sp, cap, e⟩
      subst hcv
      have i8 : (r.list.length : Int) ≤ 4096 := by have := HW.out.ln; omega
      have i9 : (r.chs.length : Int) ≤ 4096 := by have := HW.out.cn; omega
      generalize hVV : VL r q vv rv kv hv bv ml mc = VV at *
      replace hVV := hid hVV
      have HVL := hid (fun k (hk : k < r.list.length) => (show VV.getD (5 + k) dV = ((ml.getD k dM).sv, (r.list.getD k dX).val) by rw [← hVV.out]; exact VL_list hln hk))
      have HVC := hid (fun k (hk : k < r.chs.length) => (show VV.getD (5 + r.list.length + k) dV = ((mc.getD k dM).sv, (r.chs.getD k dX).val) by rw [← hVV.out]; exact VL_chs hln hcn hk))
      go_wp2
      go_loopw [15, 16] (fun b i wr => ∃ (k : Nat) (hs : List Hc), k ≤ r.list.length ∧ i = .int .i64 k ∧ OwnH wr w1.heap.size b hs ∧ hs.length = 5 + k ∧ HP wr w1.heap.size VV hs ∧ HS w wB wr w1.heap.size pb qb r q vv rv (.slice lsp r.list.length lcap) (.slice csp r.chs.length ccap) kv hv bv ml mc k1 n c1) (fun _ i _ => r.list.length - (intOf i).toNat)
      case atStart => exact ⟨0, _, Nat.zero_le _, rfl, B5, rfl, P6, H6⟩
      case round =>
        clear H6 P6 B5
        obtain ⟨k, hs, hk, rfl, OH, hsl, PH, HHS⟩ := hrel
        by_cases hlt' : k < r.list.length
        · have i1 : (k : Int) < (r.list.length : Int) := by omega
          obtain ⟨b, cap', e, ce⟩ := HHS.lrow hlt'
          have cp := (HHS.pc HRL.out).1
          obtain ⟨rfl, _, rfl⟩ := Value.slice.inj e
          have HVK := hid (HVL.out k hlt')
          have LVK := hid (show 5 + k < VV.length by rw [LVV.out]; omega)
          have HLEN := hid (show hs.length + 1 ≤ 1000000000000 by omega)
          have ho := PH.own hsl LVK.out HVK.out
          have HO := hid ho
          have C1 := hid ho.cells.2
          have HB := hid HHS.bb
          generalize (ml.getD k dM).sv = sv at *
          generalize (r.list.getD k dX).val = zs at *
          clear e ho
          replace PH := hid PH
          replace HHS := hid HHS
          replace OH := hid OH
          go_wp2_with fail
          refine (hold_any wr w1.heap.size HB.out sv zs HO.out _).mono ?_
          rintro e y2 ⟨rfl, O2, kv2⟩
          have P2 := PH.out.one DV.out hsl LVK.out HVK.out O2 kv2
          have H2 := HHS.out.hold kv2 HO.out
          have B2 := kv_held kv2 HO.out OH.out
          have HB2 := hid H2.bb
          have KB := hid B2
          clear PH HHS OH O2 kv2 HO
          go_wp2_with (first | (refine wpList_sliceH rfl (.tmp 112) rfl (hcN _ zs.length sv) rfl ?_) | (at_builtin; refine wpList_pushH rfl (.tmp 101) (.tmp 113) rfl w1.heap.size _ hs (hcN _ zs.length sv) rfl KB.out rfl (hcN_one C1.out) HLEN.out HB2.out _ _ ?_; intro v3 y3 O3 hg3; refine Hid.out ?_))
          refine hid ?_
          have P3 := P2.grow hg3 B2
          have H3 := H2.grow hg3 B2
          clear P2 H2 B2 KB hg3
          go_wp2
          go_roundw
          case rel => exact ⟨k + 1, _, by omega, by go_num, O3, by rw [List.length_append, hsl]; rfl, P3, H3⟩
          case measure => simp [intOf]; omega
        · obtain rfl : k = r.list.length := by omega
          have cp := (HHS.pc HRL.out).1
          go_wp2
          go_loopw [15, 17] (fun b i wr => ∃ (k : Nat) (hs : List Hc), k ≤ r.chs.length ∧ i = .int .i64 k ∧ OwnH wr w1.heap.size b hs ∧ hs.length = 5 + r.list.length + k ∧ HP wr w1.heap.size VV hs ∧ HS w wB wr w1.heap.size pb qb r q vv rv (.slice lsp r.list.length lcap) (.slice csp r.chs.length ccap) kv hv bv ml mc k1 n c1) (fun _ i _ => r.chs.length - (intOf i).toNat)
          case atStart => exact ⟨0, _, Nat.zero_le _, rfl, OH, hsl, PH, HHS⟩
          case round =>
            clear OH PH HHS
            obtain ⟨k, hs, hk, rfl, OH, hsl, PH, HHS⟩ := hrel
            by_cases hlt' : k < r.chs.length
            · have i1 : (k : Int) < (r.chs.length : Int) := by omega
              obtain ⟨b, cap', e, ce⟩ := HHS.crow hlt'
              have cp := (HHS.pc HRL.out).2
              obtain ⟨rfl, _, rfl⟩ := Value.slice.inj e
              have HVK := hid (HVC.out k hlt')
              have LVK := hid (show 5 + r.list.length + k < VV.length by rw [LVV.out]; omega)
              have HLEN := hid (show hs.length + 1 ≤ 1000000000000 by omega)
              have ho := PH.own hsl LVK.out HVK.out
              have HO := hid ho
              have C1 := hid ho.cells.2
              have HB := hid HHS.bb
              generalize (mc.getD k dM).sv = sv at *
              generalize (r.chs.getD k dX).val = zs at *
              clear e ho
              replace PH := hid PH
              replace HHS := hid HHS
              replace OH := hid OH
              go_wp2_with fail
              refine (hold_any wr w1.heap.size HB.out sv zs HO.out _).mono ?_
              rintro e y2 ⟨rfl, O2, kv2⟩
              have P2 := PH.out.one DV.out hsl LVK.out HVK.out O2 kv2
              have H2 := HHS.out.hold kv2 HO.out
              have B2 := kv_held kv2 HO.out OH.out
              have HB2 := hid H2.bb
              have KB := hid B2
              clear PH HHS OH O2 kv2 HO
              go_wp2_with (first | (refine wpList_sliceH rfl (.tmp 133) rfl (hcN _ zs.length sv) rfl ?_) | (at_builtin; refine wpList_pushH rfl (.tmp 122) (.tmp 134) rfl w1.heap.size _ hs (hcN _ zs.length sv) rfl KB.out rfl (hcN_one C1.out) HLEN.out HB2.out _ _ ?_; intro v3 y3 O3 hg3; refine Hid.out ?_))
              refine hid ?_
              have P3 := P2.grow hg3 B2
              have H3 := H2.grow hg3 B2
              clear P2 H2 B2 KB hg3
              go_wp2
              go_roundw
              case rel => exact ⟨k + 1, _, by omega, by go_num, O3, by rw [List.length_append, hsl]; rfl, P3, H3⟩
              case measure => simp [intOf]; omega
            · obtain rfl : k = r.chs.length := by omega
              have cp := (HHS.pc HRL.out).2
              go_wp2
              have hL : hs.length = VV.length := by rw [hsl, LVV.out]; omega
              obtain ⟨g, bcap, brest, hbk, hgb, _, _, _⟩ := OH.row (by omega)
              rw [hL] at hbk
              subst hbk
              have i10 : (VV.length : Int) ≤ 8197 := by have := VW.out.1; omega
              have G0 := PH.gp hL
              have hS0 : wr.heap.size ≤ wr.heap.size := Nat.le_refl _
              generalize hSS : wr.heap.size = S0 at G0 hS0
              go_loopw [18] (fun i wr => ∃ (k : Nat) (gs : List Hc), k ≤ VV.length ∧ i = .int .i64 k ∧ OwnH wr w1.heap.size (.slice (some ⟨g, 0, none⟩) VV.length bcap) gs ∧ GP wr w1.heap.size S0 VV gs k ∧ HS w wB wr w1.heap.size pb qb r q vv rv (.slice lsp r.list.length lcap) (.slice csp r.chs.length ccap) kv hv bv ml mc k1 n c1 ∧ S0 ≤ wr.heap.size) (fun i _ => VV.length - (intOf i).toNat)
              case atStart => exact ⟨0, hs, Nat.zero_le _, rfl, OH, G0, HHS, by rw [hSS]; exact Nat.le_refl _⟩
              case round =>
                clear OH PH HHS G0 hS0 hSS cp
                obtain ⟨k, gs, hk, rfl, OH, G, HHS, hSz⟩ := hrel
                by_cases hlt' : k < VV.length
                · have i1 : (k : Int) < (VV.length : Int) := by omega
                  have e7 := G.at hlt'
                  have rg := OH.range hlt'
                  rw [e7] at rg
                  obtain ⟨_, _, ho⟩ := G.all k hlt'
                  have hn := VW.out.2 k hlt'
                  have RG := hid rg
                  have HO := hid ho
                  have HN := hid (show (VV.getD k dV).2.length ≤ 140737488355000 by omega)
                  have HB := hid HHS.bb
                  have DVV := hid (fun y (a b c d : Value) => G.step (w1 := y) (a := a) (b := b) (c := c) (d := d) DV.out hlt' hSz)
                  have hnm := hid (show (gs.getD k hc0).n = (VV.getD k dV).2.length ∧ (gs.getD k hc0).v = (VV.getD k dV).1 from ⟨(G.all k hlt').1, (G.all k hlt').2.1⟩)
                  rw [hnm.out.1, hnm.out.2] at DVV
                  generalize (gs.getD k hc0).m = m at *
                  generalize hvz : VV.getD k dV = vz at *
                  obtain ⟨v, zs⟩ := vz
                  simp only at *
                  replace G := hid G
                  replace HHS := hid HHS
                  replace OH := hid OH
                  clear e7 rg ho hn hnm
                  go_wp2_with (first | (refine wpList_load_mid rfl 47 _ rfl g (k * 7) rfl (hcC (hcN m zs.length v)) _ RG.out Try.underlying47 rfl Try.sizeHl ?_))
                  refine (grown_any wr w1.heap.size HB.out m zs.length HN.out v HO.out).mono ?_
                  rintro e y2 ⟨a, b, c, d, rfl, ov, oa, ob, oc, od, ta, tb, tc, td, kv2⟩
                  have G2 := DVV.out y2 a b c d ov oa ob oc od ta tb tc td kv2
                  have H2 := HHS.out.hold kv2 HO.out
                  have B2 := kv_held kv2 HO.out OH.out
                  obtain ⟨rest, hgb2, hr2, hl2⟩ := B2.rowAt
                  have R2 := hid hr2
                  have C7 := hid (hcC_one (m := m) (n := zs.length) ov.cells.2 oa.cells.2 ob.cells.2 oc.cells.2 od.cells.2)
                  have LE := hid (show k * 7 + (hcC ⟨m, zs.length, v, a, b, c, d⟩).length ≤ (flC gs ++ rest).length by rw [List.length_append, flC_len, hl2]; show k * 7 + 7 ≤ _; omega)
                  have hs2 := Nat.le_trans hSz kv2.1.size
                  clear G HHS OH ov oa ob oc od ta tb tc td kv2 DVV HO HN RG
                  go_wp2_with (first | (refine wpList_storeMidW rfl 47 _ _ rfl g (k * 7) (hcC ⟨m, zs.length, v, a, b, c, d⟩) rfl rfl _ 47 R2.out LE.out Try.sizeHl C7.out ?_; intro y3 hr3 hk3; refine Hid.out ?_))
                  refine hid ?_
                  have B3 := B2.put hlt' hr2 hr3
                  have G3 := G2.keeps hr2 hk3
                  have H3 := H2.keeps hr2 hgb2 hk3
                  have hs3 := Nat.le_trans hs2 hk3.size
                  clear B2 G2 H2 R2 hr2 hr3 hk3 LE C7
                  go_wp2
                  go_roundw
                  case rel => exact ⟨k + 1, _, by omega, by go_num, B3, G3, H3, hs3⟩
                  case measure => simp [intOf]; omega
                · obtain rfl : k = VV.length := by omega
                  go_wp2
                  go_loopw [19] (fun i wr => ∃ k : Nat, k ≤ VV.length ∧ i = .int .i64 k ∧ OwnH wr w1.heap.size (.slice (some ⟨g, 0, none⟩) VV.length bcap) gs ∧ GP wr w1.heap.size S0 VV gs VV.length ∧ HS w wB wr w1.heap.size pb qb r q vv rv (.slice lsp r.list.length lcap) (.slice csp r.chs.length ccap) kv hv bv ml mc k1 n c1) (fun i _ => VV.length - (intOf i).toNat)
                  case atStart => exact ⟨0, Nat.zero_le _, rfl, OH, G, HHS⟩
                  case round =>
                    clear OH G HHS hSz
                    obtain ⟨k, hk, rfl, OH, G, HHS⟩ := hrel
                    by_cases hlt' : k < VV.length
                    · have i1 : (k : Int) < (VV.length : Int) := by omega
                      have RG := hid (OH.range hlt')
                      have KS := hid (G.stands hlt' (VW.out.2 k hlt'))
                      go_wp2_with (first | (refine wpList_load_mid rfl 47 _ rfl g (k * 7) rfl (hcC (gs.getD k hc0)) _ RG.out Try.underlying47 rfl Try.sizeHl ?_))
                      refine KS.out.mono ?_
                      rintro e y2 ⟨rfl, hb2⟩
                      have O2 := OH.below hb2
                      have G2 := G.below hb2
                      have H2 := HHS.below hb2
                      clear OH G HHS RG KS hb2
                      go_wp2
                      go_roundw
                      case rel => exact ⟨k + 1, by omega, by go_num, O2, G2, H2⟩
                      case measure => simp [intOf]; omega
                    · obtain rfl : k = VV.length := by omega
                      have hs9 := src_new wr [3, 255, 255, 255, 255, 255, 255, 255, 255] 5 (0, 0) (by simp [maxLen])
                      have KD := hid (decode_any _ [3, 255, 255, 255, 255, 255, 255, 255, 255] (fun x hx => by simp at hx; omega) wr.heap.size 0 9 hs9 (by simp))
                      rw [dec_nine] at KD
                      simp only [Option.getD_some, ecode, Option.isSome_some, if_true] at KD
                      have H4 := HHS.alloc (.cells (ints .u8 [3, 255, 255, 255, 255, 255, 255, 255, 255]).toArray 5)
                      clear OH G HHS hs9
                      go_wp2_with fail
                      refine KD.out.mono ?_
                      clear KD
                      generalize wr.alloc (.cells (ints .u8 [3, 255, 255, 255, 255, 255, 255, 255, 255]).toArray 5) = y4 at *
                      rintro e y5 ⟨v5, rfl, ⟨k5, h5, b5, rfl, p1, p2, p3⟩, hb5⟩
                      have H5 := H4.below hb5
                      have C9 := hid (rqC_one (op := 3) (ver := -1) (oth := 0) (lim := 0) p1.cells.2 p2.cells.2 p3.cells.2)
                      clear H4 hb5 p1 p2 p3
                      go_wp2_with (first | (refine wpList_storeRowW rfl 36 _ _ rfl y5.heap.size (rqC 3 (-1) 0 0 k5 h5 b5) rfl rfl 36 _ (hnew y5 (.cells (rqC 0 0 0 0 (.slice none 0 0) (.slice none 0 0) (.slice none 0 0)).toArray 36)) Try.sizeRq rfl C9.out ?_; intro y6 hr6 hk6; refine Hid.out ?_))
                      refine hid ?_
                      have hb6 : Below y5.heap.size y5 y6 := ((Below.refl y5.heap.size y5).alloc (Nat.le_refl _) _).trans (hk6.below_g (Nat.le_refl _) (by simp))
                      have H6 := H5.below hb6
                      have q0 : y6.cell? ⟨y5.heap.size, 0, none⟩ = some (.int .i64 3) := by rw [cell_of_row _ _ _ _ _ _ hr6]; rfl
                      have q1 : y6.cell? ⟨y5.heap.size, 1, none⟩ = some (.int .i64 (-1)) := by rw [cell_of_row _ _ _ _ _ _ hr6]; rfl
                      have KF := hid (full_any y6 0 _ 238 n H6.ow)
                      have HBF := hid H6.bel
                      clear H5 H6 hb6 hr6 hk6 C9
                      go_wp2_with (first | (go_at_call 17; refine KF.out.mono ?_; rintro e w' ⟨rfl, rfl⟩))
                      go_ret
                      exact ⟨rfl, HBF.out⟩
end Go.Proofs.Ytenfklcgkfaajaa
