import Derived.Test.YtbjahdbmkcamoaaGreatDoorTrF
namespace Go.Proofs.YtbjahdbmkcamoaaGreatDoor
set_option linter.unusedVariables false
set_option linter.unusedSimpArgs false
open Go.RowKit
attribute [local go_sem ↓] Go.wp_at_zero Go.wp_at_succ

/-- append of one entry, with what it leaves alone. -/
theorem wpList_pushG2 {w : World} {ops : Array Oper} {rest : List Oper} {o : Oper} {a : Act} {Q : Exit → Act → World → Prop} (hgd : o.guard = none) (s x : Operand)
    (ho : o.op = .call { callee := .builtin .append, args := #[s, x], argTypes := #[26, 26] })
    (base : Nat) (v : Value) (ms : List MG) (m : MG) (hs : a.eval s = v) (hown : OwnG w base v ms) (hx : a.eval x = .slice (some ⟨w.heap.size, 0, none⟩) 1 1) (hl : (encG m).length = 33) (h1 : ∀ y ∈ encG m, y.oneCell' = true)
    (hlen : ms.length + 1 ≤ 1000000000000) (hbase : base ≤ w.heap.size) (t : TypeId) (fr : Nat × Nat)
    (h : ∀ v' w', OwnG w' base v' (ms ++ [m]) → Below base w w' → (∀ k, k < w.heap.size → v.ownBlock ≠ some k → w'.heap[k]? = w.heap[k]?) → (v'.ownBlock = v.ownBlock ∨ ∃ k, v'.ownBlock = some k ∧ w.heap.size ≤ k) → wpList Tryz.prog ops Q rest (a.put o.dst v') w') :
    wpList Tryz.prog ops Q (o :: rest) a (w.alloc (.cells (encG m).toArray t fr)) := by
  obtain ⟨i5, z, hi5, hz5, hc5, hs5, hy5⟩ := Tryz.infoG
  have hown' : OwnG (w.alloc (.cells (encG m).toArray t fr)) base v ms := hown.of_heap fun k hk => by
    show (w.heap.push _)[k]? = _
    rw [Array.getElem?_push, if_neg (by have := (hown.block k hk).2.1; omega)]
  refine wpList_append_own_at _ hgd s x 26 ho base 67 i5 z 33 56 Tryz.underlying26 hi5 hz5 hs5 hy5 hc5 (by decide) v ms.length _ hs hown' ⟨w.heap.size, 0, none⟩ 1 1 (encG m) hx (by omega) ?_ h1 (by unfold maxLen; omega) (by omega) (by simp; omega) ?_
  · intro j u hu
    rw [Addr.add_mid, Nat.zero_add, cell_of_row _ _ _ _ _ _ (hnew w _)]
    simpa using hu
  · intro v' w' q1 q2 _ q4
    have hB1 : Below base w (w.alloc (.cells (encG m).toArray t fr)) := (Below.refl _ _).alloc hbase _
    refine h v' w' (by unfold OwnG; rw [List.length_append, List.flatMap_append]; simpa using q1) (hB1.trans (grown_keeps q2 (fun k hk => (hown.block k hk).1) (by simp; omega))) (fun k hk hne => ?_) ?_
    · rw [q2.block k (by simp; omega) (fun e => hne e.symm)]
      show (w.heap.push _)[k]? = _
      rw [Array.getElem?_push, if_neg (by omega)]
    · rcases q4 with e | e
      · exact Or.inl e
      · exact Or.inr ⟨_, e, by simp⟩
set_option maxRecDepth 100000 in
set_option maxHeartbeats 1000000 in
theorem zdigest_nil (w : World) (hG : Gb w) (k : Int) (ge ce : Nat) (hgw : ge < w.heap.size) (hR : ∀ i, i < 257 → w.rangeAt ge (i * 32) (ints .u8 (emptyD k i))) (sp : Option Addr) (cap : Nat) (h : Nat) (hh : h ≤ 256) :
    Calls Tryz.prog 65 #[.slice (some ⟨ge, 0, none⟩) 257 ce, .int .i64 k, .slice sp 0 cap, .int .i64 h] w fun e w' => e = .returned (.agg (ints .u8 (tD k h [])).toArray) ∧ Below w.heap.size w w' := by
  have AD := hid allocDg
  have hb1 : Below w.heap.size w (w.alloc (.cells (ints .u8 zB).toArray 28)) := (Below.refl _ _).alloc (Nat.le_refl _) _
  have r1 := hnew w (.cells (ints .u8 zB).toArray 28)
  have hr := rng_below (hR h (by omega)) hb1 hgw
  rw [tD_nil]
  have hXl := emptyD_len k h
  generalize emptyD k h = X at *
  have LZ := hid (show (ints .u8 zB).toArray.size = 32 from rfl)
  have LX := hid (show (ints .u8 X).toArray.size = 32 by rw [ints_size, hXl])
  have LX2 := hid (show (Tryz.prog.info? 28).map (·.size) = some (ints .u8 X).length by rw [Tryz.sizeD, ints_len, hXl])
  have i1 : (h : Int) < 257 := by omega
  clear hR
  go_enter Tryz.func65, Tryz.ntmps65
  go_wp2_with (first
    | refine wpList_allocV AD.out rfl rfl ?_
    | refine wpList_load_mid rfl 28 _ rfl ge (h * 32) rfl (ints .u8 X) _ hr Tryz.underlying28 rfl LX2.out ?_
    | refine wpList_store_row rfl 28 _ _ rfl w.heap.size (ints .u8 X).toArray rfl rfl 28 _ r1 (by rw [Tryz.sizeD, LX.out]) (by rw [LX.out, LZ.out]) (all_oneCell_toArray (ints_one _ _)) ?_)
  exact bodyPost_ret (v := .agg (ints .u8 X).toArray) (results_cell_row Tryz.results65 _ _ w.heap.size 28 _ _ _ rfl (setRow_heap _ _ _ _ _ _ r1) Tryz.underlying28 rfl (by rw [Tryz.sizeD, LX.out])) rfl ⟨rfl, below_setRow hb1 (Nat.le_refl _) _⟩
set_option maxRecDepth 100000 in
set_option maxHeartbeats 1000000 in
theorem zdigest_more (h : Nat) (hh : h < 256)
    (IH : ∀ (w : World) (hG : Gb w) (k : Int) (ge ce : Nat) (hgw : ge < w.heap.size) (hR : ∀ i, i < 257 → w.rangeAt ge (i * 32) (ints .u8 (emptyD k i))) (hce : (ce : Int) ≤ 9223372036854775807) (m : List EnM) (hm : MapVs m) (hs : Shr m h) (hN : m.length ≤ 1000000) (sp : Option Addr) (cap : Nat) (hS : SrcE w sp cap m), Calls Tryz.prog 65 #[.slice (some ⟨ge, 0, none⟩) 257 ce, .int .i64 k, .slice sp m.length cap, .int .i64 h] w fun e w' => e = .returned (.agg (ints .u8 (tD k h m)).toArray) ∧ Below w.heap.size w w')
    (w : World) (hG : Gb w) (k : Int) (ge ce : Nat) (hgw : ge < w.heap.size) (hR : ∀ i, i < 257 → w.rangeAt ge (i * 32) (ints .u8 (emptyD k i))) (hce : (ce : Int) ≤ 9223372036854775807) (m : List EnM) (hm : MapVs m) (hs : Shr m (h + 1)) (hN : m.length ≤ 1000000) (h2 : 2 ≤ m.length) (sp : Option Addr) (cap : Nat) (hS : SrcE w sp cap m) :
    Calls Tryz.prog 65 #[.slice (some ⟨ge, 0, none⟩) 257 ce, .int .i64 k, .slice sp m.length cap, .int .i64 ((h + 1 : Nat) : Int)] w fun e w' => e = .returned (.agg (ints .u8 (tD k (h + 1) m)).toArray) ∧ Below w.heap.size w w' := by
  obtain ⟨H, hH⟩ : ∃ H, h + 1 = H := ⟨_, rfl⟩
  rw [hH]
  have AD := hid allocDg
  have i0 : (m.length : Int) ≤ 1000000 := by omega
  have i1 : ¬ ((m.length : Int) = 0) := by omega
  have i1b : ((m.length : Int) == 0) = false := by simpa using i1
  have i2 : ¬ ((m.length : Int) = 1) := by omega
  have i2b : ((m.length : Int) == 1) = false := by simpa using i2
  have i3 : (H : Int) ≤ 256 := by omega
  have i4 : (1 : Int) ≤ (H : Int) := by omega
  have HT := hid (show tD k H m = branchD k (tD k h (m.filter fun e => decide (bitK e.k (255 - h) = 0))) (tD k h (m.filter fun e => decide (bitK e.k (255 - h) = 1))) by rw [← hH, ← filt_not]; rfl)
  have KL := hid (fun w1 (g1 : Gb w1) (b1 : Below w.heap.size w w1) sp cap (s1 : SrcE w1 sp cap (m.filter fun e => decide (bitK e.k (255 - h) = 0))) => IH w1 g1 k ge ce (Nat.lt_of_lt_of_le hgw b1.size) (fun i hi => rng_below (hR i hi) b1 hgw) hce _ (hm.filt _) (hs.filt hh 0) (Nat.le_trans (List.length_filter_le _ _) hN) sp cap s1)
  have KR := hid (fun w1 (g1 : Gb w1) (b1 : Below w.heap.size w w1) sp cap (s1 : SrcE w1 sp cap (m.filter fun e => decide (bitK e.k (255 - h) = 1))) => IH w1 g1 k ge ce (Nat.lt_of_lt_of_le hgw b1.size) (fun i hi => rng_below (hR i hi) b1 hgw) hce _ (hm.filt _) (hs.filt hh 1) (Nat.le_trans (List.length_filter_le _ _) hN) sp cap s1)
  rw [show ((h : Nat) : Int) = (H : Int) - 1 by omega] at KL KR
  have HLn := hid (tD_len k h (m.filter fun e => decide (bitK e.k (255 - h) = 0)))
  have HRn := hid (tD_len k h (m.filter fun e => decide (bitK e.k (255 - h) = 1)))
  have KB := hid (fun w1 (g1 : Gb w1) => xbranch_any w1 g1 k _ _ HLn.out HRn.out)
  rw [← HT.out] at KB
  have hXl := tD_len k H m
  generalize tD k H m = X at *
  have F0 := hid (show (m.take m.length).filter (fun e => decide (bitK e.k (255 - h) = 0)) = m.filter (fun e => decide (bitK e.k (255 - h) = 0)) by rw [List.take_length])
  have F1 := hid (show (m.take m.length).filter (fun e => decide (bitK e.k (255 - h) = 1)) = m.filter (fun e => decide (bitK e.k (255 - h) = 1)) by rw [List.take_length])
  have hb1 : Below w.heap.size w (w.alloc (.cells (ints .u8 zB).toArray 28)) := (Below.refl _ _).alloc (Nat.le_refl _) _
  have r1 := hnew w (.cells (ints .u8 zB).toArray 28)
  have LZ := hid (show (ints .u8 zB).toArray.size = 32 from rfl)
  have LZ2 := hid (show (ints .u8 zB).length = 32 from rfl)
  have LX := hid (show (ints .u8 X).toArray.size = 32 by rw [ints_size, hXl])
  have HH := hid hH
  clear HT IH hH hs
  go_enter Tryz.func65, Tryz.ntmps65
  go_wp2_with (first | refine wpList_allocV AD.out rfl rfl ?_)
  generalize w.alloc (.cells (ints .u8 zB).toArray 28) = w1 at *
  go_loopw [10, 11, 12, 13] (fun v u iv _ wr => ∃ i : Nat, i ≤ m.length ∧ iv = .int .i64 i ∧ (∃ ms ns, OwnG wr (w.heap.size + 1) v ms ∧ SaysGL w ms ((m.take i).filter (fun e => decide (bitK e.k (255 - h) = 0))) ∧ OwnG wr (w.heap.size + 1) u ns ∧ SaysGL w ns ((m.take i).filter (fun e => decide (bitK e.k (255 - h) = 1))) ∧ (∀ q, v.ownBlock = some q → u.ownBlock ≠ some q)) ∧ wr.heap[w.heap.size]? = some (.cells (ints .u8 zB).toArray 28 (0, 0)) ∧ Below w.heap.size w wr) (fun _ _ iv _ _ => m.length - (intOf iv).toNat)
  case atStart => exact ⟨0, by omega, rfl, ⟨[], [], OwnG.nil _ _, SaysGL.nil _, OwnG.nil _ _, SaysGL.nil _, fun q e => by cases e⟩, r1, hb1⟩
  case round =>
    clear r1 hb1
    obtain ⟨i, hi, rfl, ⟨ms, ns, hG1, hS1, hG2, hS2, hdj⟩, kr, hB⟩ := hrel
    by_cases hlt' : i < m.length
    · have j1 : (i : Int) < (m.length : Int) := by omega
      obtain ⟨b, o, M, rfl, hbl0, hr0, hsM⟩ := hS.at i hlt'
      have hr := rng_below hr0 hB hbl0
      have hbl := Nat.lt_of_lt_of_le hbl0 hB.size
      obtain ⟨⟨hl, hyb⟩, _⟩ := hm.ok _ (gD_mem m dE i hlt')
      have KBit := hid (fun w1 => r3Bit_in w1 (m.getD i dE).k hl hyb (255 - h) (by omega))
      rw [show (((255 - h : Nat)) : Int) = 256 - (H : Int) by have := HH.out; omega] at KBit
      have hrk := rng_key hr hsM
      have LE := hid (show (Tryz.prog.info? 24).map (·.size) = some (ints .u8 (m.getD i dE).k).length by rw [Tryz.sizeKy, ints_len, hl])
      have HF0 := hid (filt_snoc (fun e : EnM => decide (bitK e.k (255 - h) = 0)) m dE i hlt')
      have HF1 := hid (filt_snoc (fun e : EnM => decide (bitK e.k (255 - h) = 1)) m dE i hlt')
      have hln0 := filt_len (fun e : EnM => decide (bitK e.k (255 - h) = 0)) m i
      have hln1 := filt_len (fun e : EnM => decide (bitK e.k (255 - h) = 1)) m i
      have l33 := hsM.len
      have o33 := hsM.one
      have hml0 : ms.length + 1 ≤ 1000000000000 := by rw [hS1.1]; omega
      have hml1 : ns.length + 1 ≤ 1000000000000 := by rw [hS2.1]; omega
      have hb01 := bitK_01 (m.getD i dE).k (255 - h)
      have LEn := hid (show (Tryz.prog.info? 67).map (·.size) = some (encG M).length by rw [entSize, l33])
      generalize hEe : m.getD i dE = E at *
      clear hEe
      generalize bitK E.k (255 - h) = bt at *
      go_wp2_with (first
        | refine wpList_load_mid rfl 24 _ rfl b (o + i * 33) rfl (ints .u8 E.k) _ hrk Tryz.underlying24 rfl LE.out ?_
        | (refine (KBit.out _).mono ?_; rintro e w5 ⟨rfl, hB5⟩; refine Hid.out ?_))
      refine hid ?_
      have hr5 := rng_below hr hB5 hbl
      have hG15 := hG1.below hB5 (Nat.le_refl _)
      have hG25 := hG2.below hB5 (Nat.le_refl _)
      have kr5 := hbel hB5 kr (hlt kr)
      have hBw5 := hB.trans (hB5.mono hB.size)
      clear KBit hrk hr hG1 hG2 kr hB5 hB
      rcases hb01 with hb | hb
      · rw [hb]
        have HSL := hid (show SaysGL w (ms ++ [M]) ((m.take (i + 1)).filter (fun e => decide (bitK e.k (255 - h) = 0))) by
          rw [HF0.out, if_pos (by simpa using hb)]; exact hS1.snoc hsM)
        have HSR := hid (show SaysGL w ns ((m.take (i + 1)).filter (fun e => decide (bitK e.k (255 - h) = 1))) by
          rw [HF1.out, if_neg (by simp [hb]), List.append_nil]; exact hS2)
        clear HF0 HF1 hS1 hS2
        go_wp2_with (first
          | refine wpList_load_mid rfl 67 _ rfl b (o + i * 33) rfl (encG M) _ hr5 Tryz.underlying67 rfl LEn.out ?_
          | refine wpList_sliceG rfl _ rfl (encG M) l33 rfl ?_
          | (at_builtin; refine wpList_pushG2 rfl _ _ rfl (w.heap.size + 1) _ ms M rfl hG15 rfl l33 o33 hml0 (hlt kr5) _ _ ?_; intro v6 w6 hG6 hB6 hfr hnv; refine Hid.out ?_))
        refine hid ?_
        have hG26 := hG25.of_heap (fun q e => hfr q (hG25.block q e).2.1 (fun e2 => hdj q e2 e))
        have hdj6 : ∀ q, v6.ownBlock = some q → Value.ownBlock _ ≠ some q := fun q e => by
          rcases hnv with e1 | ⟨q', e1, e2⟩
          · exact hdj q (e1 ▸ e)
          · rw [e1] at e; cases e
            exact fun e3 => by have := (hG25.block _ e3).2.1; omega
        have hBw6 : Below w.heap.size w w6 := hBw5.trans (hB6.mono (by omega))
        have kr6 : w6.heap[w.heap.size]? = _ := hbel hB6 kr5 (by omega)
        go_wp2_with fail
        go_roundw
        case rel => exact ⟨i + 1, by omega, by go_num, ⟨_, _, hG6, HSL.out, hG26, HSR.out, hdj6⟩, kr6, hBw6⟩
        case measure => simp [intOf]; omega
      · rw [hb]
        have HSL := hid (show SaysGL w ms ((m.take (i + 1)).filter (fun e => decide (bitK e.k (255 - h) = 0))) by
          rw [HF0.out, if_neg (by simp [hb]), List.append_nil]; exact hS1)
        have HSR := hid (show SaysGL w (ns ++ [M]) ((m.take (i + 1)).filter (fun e => decide (bitK e.k (255 - h) = 1))) by
          rw [HF1.out, if_pos (by simpa using hb)]; exact hS2.snoc hsM)
        clear HF0 HF1 hS1 hS2
        go_wp2_with (first
          | refine wpList_load_mid rfl 67 _ rfl b (o + i * 33) rfl (encG M) _ hr5 Tryz.underlying67 rfl LEn.out ?_
          | refine wpList_sliceG rfl _ rfl (encG M) l33 rfl ?_
          | (at_builtin; refine wpList_pushG2 rfl _ _ rfl (w.heap.size + 1) _ ns M rfl hG25 rfl l33 o33 hml1 (hlt kr5) _ _ ?_; intro v6 w6 hG6 hB6 hfr hnv; refine Hid.out ?_))
        refine hid ?_
        have hG16 := hG15.of_heap (fun q e => hfr q (hG15.block q e).2.1 (fun e2 => hdj q e e2))
        have hdj6 : ∀ q, Value.ownBlock _ = some q → v6.ownBlock ≠ some q := fun q e e3 => by
          rcases hnv with e1 | ⟨q', e1, e2⟩
          · exact hdj q e (e1 ▸ e3)
          · rw [e1] at e3; cases e3
            have := (hG15.block _ e).2.1; omega
        have hBw6 : Below w.heap.size w w6 := hBw5.trans (hB6.mono (by omega))
        have kr6 : w6.heap[w.heap.size]? = _ := hbel hB6 kr5 (by omega)
        go_wp2_with fail
        go_roundw
        case rel => exact ⟨i + 1, by omega, by go_num, ⟨_, _, hG16, HSL.out, hG6, HSR.out, hdj6⟩, kr6, hBw6⟩
        case measure => simp [intOf]; omega
    · obtain rfl : i = m.length := by omega
      rw [F0.out] at hS1
      rw [F1.out] at hS2
      obtain ⟨s10, c10, rfl, hE1, _⟩ := OwnE.form (show OwnE wr (w.heap.size + 1) _ _ from ⟨ms, hG1, hS1.below hB⟩)
      obtain ⟨s11, c11, rfl, hE2, _⟩ := OwnE.form (show OwnE wr (w.heap.size + 1) _ _ from ⟨ns, hG2, hS2.below hB⟩)
      clear F0 F1 hG1 hG2 hS1 hS2 hdj hS hR
      generalize (m.filter fun e => decide (bitK e.k (255 - h) = 0)) = ML at *
      generalize (m.filter fun e => decide (bitK e.k (255 - h) = 1)) = MR at *
      generalize tD k h ML = DL at *
      generalize tD k h MR = DR2 at *
      have LDl := hid (show (ints .u8 DL).length = 32 by rw [ints_len, HLn.out])
      have LDr := hid (show (ints .u8 DR2).length = 32 by rw [ints_len, HRn.out])
      have LDl2 := hid (show (Tryz.prog.info? 28).map (·.size) = some (ints .u8 DL).toArray.size by rw [Tryz.sizeD, List.size_toArray, LDl.out])
      have LDr2 := hid (show (Tryz.prog.info? 28).map (·.size) = some (ints .u8 DR2).toArray.size by rw [Tryz.sizeD, List.size_toArray, LDr.out])
      have K1 := hid (KL.out wr (hG.below hB hG.1.1) hB _ _ hE1)
      go_wp2_with (first | (refine K1.out.mono ?_; rintro e w5 ⟨rfl, hb5⟩; refine Hid.out ?_))
      refine hid ?_
      go_wp2_with (first | (refine wpList_new AD.out LZ2.out Tryz.sizeD rfl rfl rfl _ _ rfl rfl (ints .u8 DL) rfl rfl LDl.out (ints_one _ _) ?_; refine Hid.out ?_))
      refine hid ?_
      have r6 := hnew w5 (.cells (ints .u8 DL).toArray 28)
      have hb6 : Below wr.heap.size wr (w5.alloc (.cells (ints .u8 DL).toArray 28)) := hb5.alloc hb5.size _
      have hE26 := hE2.below hb6
      have kr6 := hbel hb6 kr (hlt kr)
      have hB6 := hB.trans (hb6.mono hB.size)
      have hg5 : w.heap.size < w5.heap.size := Nat.lt_of_lt_of_le (hlt kr) hb5.size
      clear K1 hb6 hb5 kr hB hE1 hE2
      generalize w5.alloc (.cells (ints .u8 DL).toArray 28) = w6 at *
      generalize w5.heap.size = g5 at *
      have K2 := hid (KR.out w6 (hG.below hB6 hG.1.1) hB6 _ _ hE26)
      go_wp2_with (first | (refine K2.out.mono ?_; rintro e w7 ⟨rfl, hb7⟩; refine Hid.out ?_))
      refine hid ?_
      go_wp2_with (first | (refine wpList_new AD.out LZ2.out Tryz.sizeD rfl rfl rfl _ _ rfl rfl (ints .u8 DR2) rfl rfl LDr.out (ints_one _ _) ?_; refine Hid.out ?_))
      refine hid ?_
      have r8 := hnew w7 (.cells (ints .u8 DR2).toArray 28)
      have hb8 : Below w6.heap.size w6 (w7.alloc (.cells (ints .u8 DR2).toArray 28)) := hb7.alloc hb7.size _
      have r68 := hbel hb8 r6 (hlt r6)
      have kr8 := hbel hb8 kr6 (hlt kr6)
      have hB8 := hB6.trans (hb8.mono hB6.size)
      have hg7 : w.heap.size < w7.heap.size := Nat.lt_of_lt_of_le (hlt kr6) hb7.size
      clear K2 hb8 hb7 kr6 hB6 r6 hE26
      generalize w7.alloc (.cells (ints .u8 DR2).toArray 28) = w8 at *
      generalize w7.heap.size = g7 at *
      have K3 := hid (KB.out w8 (hG.below hB8 hG.1.1))
      go_wp2_with (first
        | refine wpList_load_row rfl 28 _ rfl g5 rfl 28 _ _ _ r68 Tryz.underlying28 rfl LDl2.out ?_
        | refine wpList_load_row rfl 28 _ rfl g7 rfl 28 _ _ _ r8 Tryz.underlying28 rfl LDr2.out ?_
        | (refine K3.out.mono ?_; rintro e w9 ⟨rfl, hb9⟩; refine Hid.out ?_))
      refine hid ?_
      have kr9 := hbel hb9 kr8 (hlt kr8)
      have hB9 := hB8.trans (hb9.mono hB8.size)
      go_wp2_with (first | refine wpList_store_row rfl 28 _ _ rfl w.heap.size (ints .u8 X).toArray rfl rfl 28 _ kr9 (by rw [Tryz.sizeD, LX.out]) (by rw [LX.out, LZ.out]) (all_oneCell_toArray (ints_one _ _)) ?_)
      exact bodyPost_ret (v := .agg (ints .u8 X).toArray) (results_cell_row Tryz.results65 _ _ w.heap.size 28 _ _ _ rfl (setRow_heap _ _ _ _ _ _ kr9) Tryz.underlying28 rfl (by rw [Tryz.sizeD, LX.out])) rfl ⟨rfl, below_setRow hB9 (Nat.le_refl _) _⟩
theorem zdigest_any : ∀ (h : Nat), h ≤ 256 → ∀ (w : World) (hG : Gb w) (k : Int) (ge ce : Nat) (hgw : ge < w.heap.size) (hR : ∀ i, i < 257 → w.rangeAt ge (i * 32) (ints .u8 (emptyD k i))) (hce : (ce : Int) ≤ 9223372036854775807) (m : List EnM) (hm : MapVs m) (hs : Shr m h) (hN : m.length ≤ 1000000) (sp : Option Addr) (cap : Nat) (hS : SrcE w sp cap m), Calls Tryz.prog 65 #[.slice (some ⟨ge, 0, none⟩) 257 ce, .int .i64 k, .slice sp m.length cap, .int .i64 h] w fun e w' => e = .returned (.agg (ints .u8 (tD k h m)).toArray) ∧ Below w.heap.size w w'
  | h, hh, w, hG, k, ge, ce, hgw, hR, hce, m, hm, hs, hN, sp, cap, hS => by
    by_cases h0 : m.length = 0
    · obtain rfl := List.eq_nil_of_length_eq_zero h0
      exact zdigest_nil w hG k ge ce hgw hR sp cap h hh
    · by_cases h1 : m.length = 1
      · obtain ⟨e0, rfl⟩ : ∃ e0, m = [e0] := ⟨_, two_first m dE h1⟩
        obtain ⟨a, b⟩ := hm.ok e0 (by simp)
        exact zdigest_one w hG k ge ce hgw hR hce e0 a b sp cap (by have := hS.2.1; unfold maxLen at this; omega) hS h hh
      · match h, hh, hs with
        | 0, _, hs => exact absurd (hs.zero hm) (by omega)
        | h + 1, hh, hs => exact zdigest_more h (by omega) (fun w hG k ge ce hgw hR hce m hm hs hN sp cap hS => zdigest_any h (by omega) w hG k ge ce hgw hR hce m hm hs hN sp cap hS) w hG k ge ce hgw hR hce m hm hs hN (by omega) sp cap hS
end Go.Proofs.YtbjahdbmkcamoaaGreatDoor
