import Derived.Test.YtenfklcgkfaajaaDk34
namespace Go.Proofs.Ytenfklcgkfaajaa
set_option linter.unusedVariables false
set_option linter.unusedSimpArgs false
open Go.RowKit
attribute [local go_sem ↓] Go.wp_at_zero Go.wp_at_succ


set_option maxRecDepth 100000 in
set_option maxHeartbeats 4000000 in
theorem fields_6 (w0 w : World) (g : Nat) (sp : Option Addr) (cap : Nat) (bs : List Int) (hy : Bys bs) (L : Lk) (h : LM w0 w g sp cap bs L) (op : Int) (ho : op = 6) :
    Calls Try.prog 32 #[.pointer (some ⟨g, 0, none⟩), .int .i64 op, .agg (rpC rp0 (.slice none 0 0) (.slice none 0 0) (.slice none 0 0) (.slice none 0 0)).toArray] w fun e w' => ∃ vv rv lv cv, e = .returned (.agg (rpC (ffP op bs L).1 vv rv lv cv).toArray) ∧ (∃ ml mc, RpO w' w.heap.size (ffP op bs L).1 vv rv lv cv ml mc) ∧ LM w0 w' g sp cap bs (ffP op bs L).2 ∧ Keeps g w w' := by
  have Q2 := FQ.start h
  have HP := hid (show ffP op bs L = ({ rp0 with more := lyV bs L, list := (lsL false bs (lyS bs L)).1 }, (lsL false bs (lyS bs L)).2) by rw [ho]; rfl)
  rw [HP.out]
  clear HP
  subst ho
  have KY := hid (fun (wc : World) (h : LM w0 wc g sp cap bs L) => yes_any w0 wc g sp cap bs hy L h)
  have KC := hid (fun (wc : World) (h : LM w0 wc g sp cap bs (lyS bs L)) => count_any w0 wc g sp cap bs hy (lyS bs L) h)
  have hcb : lcV bs (lyS bs L) ≤ 4096 := by unfold lcV; split <;> omega
  unfold lsL
  generalize lyV bs L = mo at *
  generalize lyS bs L = L1 at *
  generalize lcV bs L1 = n at *
  generalize lcS bs L1 = L2 at *
  go_enter Try.func32, Try.ntmps32
  go_wp2_with (first | (refine wpList_allocV allocRep rfl rfl ?_))
  refine (KY.out _ Q2.lm).mono ?_
  generalize ((w.alloc (.cells (rpC rp0 (.slice none 0 0) (.slice none 0 0) (.slice none 0 0) (.slice none 0 0)).toArray 32)).alloc (.cells (rpC rp0 (.slice none 0 0) (.slice none 0 0) (.slice none 0 0) (.slice none 0 0)).toArray 32)) = w2 at *
  rintro e w4 ⟨rfl, hM4, hk4⟩
  have Q4 := Q2.call hM4 hk4
  have W5 := hid Q4.row
  have LJ5 := hid (Q4.o.lt (i := 3) (by decide))
  go_wp2_with (first | (refine wpList_storeW rfl 4 _ _ rfl w.heap.size 3 (.bool mo) rfl rfl _ 32 W5.out LJ5.out Try.sizeBool rfl rfl ?_; intro w5 hr5 hk5; refine Hid.out ?_))
  refine hid ?_
  have Q5 : FQ w0 w w5 g sp cap bs _ { rp0 with more := mo } (.slice none 0 0) (.slice none 0 0) (.slice none 0 0) (.slice none 0 0) [] [] := Q4.put hr5 hk5 ⟨⟨z32_len, z32_len⟩, Q4.o.ov, Q4.o.orw, Q4.o.ol, Q4.o.oc⟩
  clear W5 LJ5 hr5 hk5
  go_wp2_with fail
  refine (KC.out w5 Q5.lm).mono ?_
  rintro e w6 ⟨rfl, hM6, hk6⟩
  have Q6 := Q5.call hM6 hk6
  have i0 : (n : Int) ≤ 4096 := by omega
  clear KY KC hM4 hk4 Q4 hM6 hk6 Q5 Q2
  go_wp2
  go_loopw [8] (fun i wr => ∃ (k : Nat) (L' : Lk) (acc : List Cg) (lv : Value) (ml : List ME), k ≤ n ∧ i = .int .i64 k ∧ llP false bs (n - k) L' acc = llP false bs n L2 [] ∧ acc.length = k ∧ FQ w0 w wr g sp cap bs L' { rp0 with more := mo, list := acc } (.slice none 0 0) (.slice none 0 0) lv (.slice none 0 0) ml []) (fun i _ => n - (intOf i).toNat)
  case atStart => exact ⟨0, L2, [], _, [], Nat.zero_le _, rfl, rfl, rfl, Q6⟩
  case round =>
    clear Q6
    obtain ⟨k, L', acc, lv, ml, hkn, rfl, hli, hal, Qr⟩ := hrel
    obtain ⟨c0, c1, c2, fz⟩ := Qr.lm.cells
    have HLI := hid hli
    have HAL := hid hal
    clear hli hal
    by_cases hc : k < n ∧ L'.bad = false
    · obtain ⟨hlt', hbad⟩ := hc
      rw [hbad] at c2
      have i1 : (k : Int) < (n : Int) := by omega
      have KR := hid (row_any w0 wr g sp cap bs L' Qr.lm)
      have hkl := lkR_len bs L'
      have HS := hid (show leS false bs L' = lvS bs (lkS bs L' 32) from rfl)
      have HV := hid (show leV false bs L' = ⟨lkR bs L', false, lvV bs (lkS bs L' 32)⟩ from rfl)
      have HB := hid hbad
      clear hbad
      generalize lkR bs L' = key at *
      generalize lkS bs L' 32 = L3 at *
      go_wp2_with fail
      refine KR.out.mono ?_
      rintro e w3 ⟨rfl, hM3, hk3⟩
      have S1 := hid (show (Try.prog.info? 25).map (·.size) = some (ints .u8 key).length by rw [ints_len, hkl]; exact Try.sizeA32)
      have S3 := hid (show (ints .u8 z32).length = (ints .u8 key).length by rw [ints_len, ints_len, hkl, z32_len])
      clear KR
      go_wp2_with (first | (refine wpList_allocV allocA32 rfl rfl ?_) | (refine wpList_storeRowW rfl 25 _ _ rfl w3.heap.size (ints .u8 key) rfl rfl 25 _ (hnew w3 (.cells (ints .u8 z32).toArray 25)) S1.out S3.out (ints_one _ _) ?_; intro w4 hr4 hk4; refine Hid.out ?_))
      refine hid ?_
      have hb4 : Below w3.heap.size w3 w4 := ((Below.refl w3.heap.size w3).alloc (Nat.le_refl _) _).trans (hk4.below_g (Nat.le_refl _) (by simp))
      have hM4 := hM3.keep (hb4.mono hM3.lt)
      have q4 : Keeps g wr w4 := hk3.trans_b hb4
      have hg3 := hM3.lt
      have KV := hid (lval_any w0 w4 g sp cap bs hy L3 hM4)
      clear hk4 hb4 hM3 hk3 S3
      go_wp2_with fail
      refine KV.out.mono ?_
      rintro e w5 ⟨v5, rfl, O5, hM5, hk5⟩
      have Q5 := Qr.call hM5 (q4.trans hk5)
      have hr5 := hid (hk5.heap hr4 (by omega))
      have c5 : w5.cell? ⟨w.heap.size, 38, none⟩ = some lv := by
        have e := (rpC_38 (vv := .slice none 0 0) (rv := .slice none 0 0) (lv := lv) (cv := .slice none 0 0) Q5.o.l).1
        rw [cell_of_row _ _ _ _ _ _ Q5.row, List.getElem?_toArray]; exact e
      have O5' : Own w5 w.heap.size v5 (lvV bs L3) := own_lower O5 (by have := Qr.kp.size; have := q4.size; omega)
      obtain ⟨s5, p5, rfl, _, _⟩ := O5.form
      have BE := hid (built_ent2 key hkl s5 (lvV bs L3).length p5)
      have EL := hid (show (elC false key false (.slice s5 (lvV bs L3).length p5)).length = szE false from elC_len hkl)
      have ML := hid (show ml.length + 1 ≤ 1000000000000 by rw [Q5.o.ol.len]; show acc.length + 1 ≤ _; rw [HAL.out]; omega)
      have hbz : w.heap.size ≤ w5.heap.size := Q5.kp.size
      have S1a := hid (show (Try.prog.info? 25).map (·.size) = some (ints .u8 key).toArray.size by rw [ints_size, hkl]; exact Try.sizeA32)
      clear KV hM4 hM5 q4 hk5 hr4 Qr O5 c0 c1 c2 fz
      obtain ⟨slv, clv, elv⟩ : ∃ s c, lv = .slice s ml.length c := by
        rcases Q5.o.ol.own.2 with ⟨e, e2⟩ | ⟨gg, cp, cur, e, _⟩
        · exact ⟨none, 0, by rw [e, e2]⟩
        · exact ⟨_, _, e⟩
      subst elv
      go_wp2_with (first
        | (refine wpList_load_row rfl 25 _ rfl w3.heap.size rfl 25 _ (0, 0) _ hr5.out Try.underlying25 rfl S1a.out ?_)
        | (refine wpList_built (by rfl) 52 _ rfl [(0, .agg (ints .u8 key).toArray), (1, .slice s5 (lvV bs L3).length p5)] rfl _ BE.out ?_)
        | (refine wpList_sliceL false rfl _ rfl (elC false key false (.slice s5 (lvV bs L3).length p5)) EL.out rfl ?_)
        | (at_builtin; refine wpList_pushL false rfl (.tmp 76) (.tmp 80) rfl w.heap.size _ ml ⟨key, false, .slice s5 (lvV bs L3).length p5⟩ rfl Q5.o.ol.own rfl EL.out (elC_one rfl) ML.out hbz _ _ ?_; intro v6 w6 O6 hg6; refine Hid.out ?_))
      refine hid ?_
      have E6 := Q5.o.ol.snoc ⟨key, false, .slice s5 (lvV bs L3).length p5⟩ ⟨key, false, lvV bs L3⟩ O6 hg6 rfl hkl rfl O5'
      have hx6 := hid ((grown_far Q5.o.ol.own hg6 Q5.row (by decide)).trans Q5.row)
      have LJ := hid (Q5.o.lt (i := 38) (by decide))
      have C6 := O6.cells
      go_wp2_with (first | (refine wpList_storeW rfl 27 _ _ rfl w.heap.size 38 v6 rfl rfl _ 32 hx6.out LJ.out Try.sizeEs C6.1 C6.2 ?_; intro w7 hr7 hk7; refine Hid.out ?_))
      refine hid ?_
      rw [rpC_list Q5.o.l] at hr7
      have Q7 := hid (Q5.push hg6 E6 hr7 hk7)
      clear hx6 LJ hr7 hk7 E6 O6 hg6 Q5 c5
      go_wp2
      go_roundw
      case rel =>
        refine ⟨k + 1, lvS bs L3, acc ++ [⟨key, false, lvV bs L3⟩], v6, _, by omega, by go_num, ?_, by rw [List.length_append, HAL.out]; rfl, Q7.out⟩
        rw [← HLI.out, show n - k = (n - (k + 1)) + 1 by omega]
        conv => rhs; unfold llP
        rw [HB.out, HS.out, HV.out]; rfl
      case measure => simp [intOf]; omega
    · have hres : llP false bs n L2 [] = (acc, L') := by
        rw [← HLI.out]
        by_cases hk : k < n
        · exact llP_bad (by cases hb : L'.bad; exact absurd ⟨hk, hb⟩ hc; rfl)
        · rw [show n - k = 0 by omega]; rfl
      have HRES := hid hres
      have FINX := hid Qr
      by_cases hk : k < n
      · have i1 : (k : Int) < (n : Int) := by omega
        have hb : L'.bad = true := by cases hb : L'.bad; exact absurd ⟨hk, hb⟩ hc; rfl
        rw [hb] at c2
        clear hc hres HLI HAL
        have Q9 := FINX.out
        clear FINX Qr hb c0 c1 fz
        have Z1 := hid Q9.row
        have Z2 := hid (show (Try.prog.info? 32).map (·.size) = some (rpC { rp0 with more := mo, list := acc } (.slice none 0 0) (.slice none 0 0) lv (.slice none 0 0)).toArray.size by rw [List.size_toArray, rpC_len Q9.o.l]; exact Try.sizeRep)
        have Z3 := hid (show (Try.prog.info? 32).map (·.size) = some (rpC { rp0 with more := mo, list := acc } (.slice none 0 0) (.slice none 0 0) lv (.slice none 0 0)).length by rw [rpC_len Q9.o.l]; exact Try.sizeRep)
        have Z5 := hid (show (rpC rp0 (.slice none 0 0) (.slice none 0 0) (.slice none 0 0) (.slice none 0 0)).length = (rpC { rp0 with more := mo, list := acc } (.slice none 0 0) (.slice none 0 0) lv (.slice none 0 0)).length from (rpC_len rp0_L).trans (rpC_len Q9.o.l).symm)
        have Z4 := hid Q9.o.one
        have Z6 := hid Q9.ans
        go_wp2_with (first | (refine wpList_load_row rfl 32 _ rfl w.heap.size rfl 32 _ (0, 0) _ Z1.out Try.underlying32 rfl Z2.out ?_) | (refine wpList_storeRowW rfl 32 _ _ rfl (w.heap.size + 1) (rpC { rp0 with more := mo, list := acc } (.slice none 0 0) (.slice none 0 0) lv (.slice none 0 0)) rfl rfl 32 _ Z6.out Z3.out Z5.out Z4.out ?_; intro wz hrz hkz))
        obtain ⟨z1, z2, z3⟩ := Q9.out hkz
        refine bodyPost_ret (results_c1 Try.results32 _ _ (w.heap.size + 1) 32 _ (0, 0) _ rfl hrz Try.underlying32 rfl Z2.out) rfl ?_
        rw [HRES.out]
        exact ⟨_, _, _, _, rfl, ⟨_, _, z1⟩, z2, z3⟩
      · have i1 : ¬ (k : Int) < (n : Int) := by omega
        clear hc hres HLI HAL c2
        have Q9 := FINX.out
        clear FINX Qr c0 c1 fz
        have Z1 := hid Q9.row
        have Z2 := hid (show (Try.prog.info? 32).map (·.size) = some (rpC { rp0 with more := mo, list := acc } (.slice none 0 0) (.slice none 0 0) lv (.slice none 0 0)).toArray.size by rw [List.size_toArray, rpC_len Q9.o.l]; exact Try.sizeRep)
        have Z3 := hid (show (Try.prog.info? 32).map (·.size) = some (rpC { rp0 with more := mo, list := acc } (.slice none 0 0) (.slice none 0 0) lv (.slice none 0 0)).length by rw [rpC_len Q9.o.l]; exact Try.sizeRep)
        have Z5 := hid (show (rpC rp0 (.slice none 0 0) (.slice none 0 0) (.slice none 0 0) (.slice none 0 0)).length = (rpC { rp0 with more := mo, list := acc } (.slice none 0 0) (.slice none 0 0) lv (.slice none 0 0)).length from (rpC_len rp0_L).trans (rpC_len Q9.o.l).symm)
        have Z4 := hid Q9.o.one
        have Z6 := hid Q9.ans
        go_wp2_with (first | (refine wpList_load_row rfl 32 _ rfl w.heap.size rfl 32 _ (0, 0) _ Z1.out Try.underlying32 rfl Z2.out ?_) | (refine wpList_storeRowW rfl 32 _ _ rfl (w.heap.size + 1) (rpC { rp0 with more := mo, list := acc } (.slice none 0 0) (.slice none 0 0) lv (.slice none 0 0)) rfl rfl 32 _ Z6.out Z3.out Z5.out Z4.out ?_; intro wz hrz hkz))
        obtain ⟨z1, z2, z3⟩ := Q9.out hkz
        refine bodyPost_ret (results_c1 Try.results32 _ _ (w.heap.size + 1) 32 _ (0, 0) _ rfl hrz Try.underlying32 rfl Z2.out) rfl ?_
        rw [HRES.out]
        exact ⟨_, _, _, _, rfl, ⟨_, _, z1⟩, z2, z3⟩
end Go.Proofs.Ytenfklcgkfaajaa
