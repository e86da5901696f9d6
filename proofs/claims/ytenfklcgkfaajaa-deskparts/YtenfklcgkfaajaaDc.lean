import Derived.Test.YtenfklcgkfaajaaDk33
namespace Go.Proofs.Ytenfklcgkfaajaa
set_option linter.unusedVariables false
set_option linter.unusedSimpArgs false
open Go.RowKit
attribute [local go_sem ↓] Go.wp_at_zero Go.wp_at_succ


set_option maxRecDepth 100000 in
set_option maxHeartbeats 4000000 in
theorem fields_1 (w0 w : World) (g : Nat) (sp : Option Addr) (cap : Nat) (bs : List Int) (hy : Bys bs) (L : Lk) (h : LM w0 w g sp cap bs L) (op : Int) (ho : op = 1) :
    Calls Try.prog 32 #[.pointer (some ⟨g, 0, none⟩), .int .i64 op, .agg (rpC rp0 (.slice none 0 0) (.slice none 0 0) (.slice none 0 0) (.slice none 0 0)).toArray] w fun e w' => ∃ vv rv lv cv, e = .returned (.agg (rpC (ffP op bs L).1 vv rv lv cv).toArray) ∧ (∃ ml mc, RpO w' w.heap.size (ffP op bs L).1 vv rv lv cv ml mc) ∧ LM w0 w' g sp cap bs (ffP op bs L).2 ∧ Keeps g w w' := by
  have Q2 := FQ.start h
  have HP := hid (show ffP op bs L = ({ rp0 with ver := lkN bs L 8 }, lkS bs L 8) by rw [ho]; rfl)
  rw [HP.out]
  clear HP
  subst ho
  have KN := hid (fun (wc : World) (h : LM w0 wc g sp cap bs L) => num_any w0 wc g sp cap bs hy L h 8 (by omega))
  generalize lkN bs L 8 = x at *
  generalize lkS bs L 8 = L1 at *
  go_enter Try.func32, Try.ntmps32
  go_wp2_with (first | (refine wpList_allocV allocRep rfl rfl ?_))
  refine (KN.out _ Q2.lm).mono ?_
  generalize ((w.alloc (.cells (rpC rp0 (.slice none 0 0) (.slice none 0 0) (.slice none 0 0) (.slice none 0 0)).toArray 32)).alloc (.cells (rpC rp0 (.slice none 0 0) (.slice none 0 0) (.slice none 0 0) (.slice none 0 0)).toArray 32)) = w2 at *
  rintro e w4 ⟨rfl, hM4, hk4⟩
  have Q4 := Q2.call hM4 hk4
  have W5 := hid Q4.row
  have LJ5 := hid (Q4.o.lt (i := 1) (by decide))
  go_wp2_with (first | (refine wpList_storeW rfl 3 _ _ rfl w.heap.size 1 (.int .i64 x) rfl rfl _ 32 W5.out LJ5.out Try.sizeInt rfl rfl ?_; intro w5 hr5 hk5; refine Hid.out ?_))
  refine hid ?_
  have Q5 : FQ w0 w w5 g sp cap bs _ { rp0 with ver := x } (.slice none 0 0) (.slice none 0 0) (.slice none 0 0) (.slice none 0 0) [] [] := Q4.put hr5 hk5 ⟨⟨z32_len, z32_len⟩, Q4.o.ov, Q4.o.orw, Q4.o.ol, Q4.o.oc⟩
  clear W5 LJ5 hr5 hk5
  have Z1 := hid Q5.row
  have Z2 := hid (show (Try.prog.info? 32).map (·.size) = some (rpC { rp0 with ver := x } (.slice none 0 0) (.slice none 0 0) (.slice none 0 0) (.slice none 0 0)).toArray.size by rw [List.size_toArray, rpC_len Q5.o.l]; exact Try.sizeRep)
  have Z3 := hid (show (Try.prog.info? 32).map (·.size) = some (rpC { rp0 with ver := x } (.slice none 0 0) (.slice none 0 0) (.slice none 0 0) (.slice none 0 0)).length by rw [rpC_len Q5.o.l]; exact Try.sizeRep)
  have Z5 := hid (show (rpC rp0 (.slice none 0 0) (.slice none 0 0) (.slice none 0 0) (.slice none 0 0)).length = (rpC { rp0 with ver := x } (.slice none 0 0) (.slice none 0 0) (.slice none 0 0) (.slice none 0 0)).length from (rpC_len rp0_L).trans (rpC_len Q5.o.l).symm)
  have Z4 := hid Q5.o.one
  have Z6 := hid Q5.ans
  go_wp2_with (first | (refine wpList_load_row rfl 32 _ rfl w.heap.size rfl 32 _ (0, 0) _ Z1.out Try.underlying32 rfl Z2.out ?_) | (refine wpList_storeRowW rfl 32 _ _ rfl (w.heap.size + 1) (rpC { rp0 with ver := x } (.slice none 0 0) (.slice none 0 0) (.slice none 0 0) (.slice none 0 0)) rfl rfl 32 _ Z6.out Z3.out Z5.out Z4.out ?_; intro wz hrz hkz))
  obtain ⟨z1, z2, z3⟩ := Q5.out hkz
  exact bodyPost_ret (results_c1 Try.results32 _ _ (w.heap.size + 1) 32 _ (0, 0) _ rfl hrz Try.underlying32 rfl Z2.out) rfl ⟨_, _, _, _, rfl, ⟨_, _, z1⟩, z2, z3⟩
end Go.Proofs.Ytenfklcgkfaajaa
namespace Go.Proofs.Ytenfklcgkfaajaa
set_option linter.unusedVariables false
set_option linter.unusedSimpArgs false
open Go.RowKit
attribute [local go_sem ↓] Go.wp_at_zero Go.wp_at_succ


set_option maxRecDepth 100000 in
set_option maxHeartbeats 4000000 in
theorem fields_2y (w0 w : World) (g : Nat) (sp : Option Addr) (cap : Nat) (bs : List Int) (hy : Bys bs) (L : Lk) (h : LM w0 w g sp cap bs L) (op : Int) (ho : op = 2) (hf : lyV bs L = true) :
    Calls Try.prog 32 #[.pointer (some ⟨g, 0, none⟩), .int .i64 op, .agg (rpC rp0 (.slice none 0 0) (.slice none 0 0) (.slice none 0 0) (.slice none 0 0)).toArray] w fun e w' => ∃ vv rv lv cv, e = .returned (.agg (rpC (ffP op bs L).1 vv rv lv cv).toArray) ∧ (∃ ml mc, RpO w' w.heap.size (ffP op bs L).1 vv rv lv cv ml mc) ∧ LM w0 w' g sp cap bs (ffP op bs L).2 ∧ Keeps g w w' := by
  have Q2 := FQ.start h
  have HP := hid (show ffP op bs L = ({ rp0 with found := true, val := lvV bs (lyS bs L) }, lvS bs (lyS bs L)) by rw [ho]; unfold ffP; rw [if_neg (by decide), if_pos rfl, hf]; rfl)
  rw [HP.out]
  clear HP
  subst ho
  have KN := hid (fun (wc : World) (h : LM w0 wc g sp cap bs L) => yes_any w0 wc g sp cap bs hy L h)
  rw [hf] at KN
  have KV := hid (fun (wc : World) (h : LM w0 wc g sp cap bs (lyS bs L)) => lval_any w0 wc g sp cap bs hy (lyS bs L) h)
  clear hf
  generalize lyS bs L = L1 at *
  go_enter Try.func32, Try.ntmps32
  go_wp2_with (first | (refine wpList_allocV allocRep rfl rfl ?_))
  refine (KN.out _ Q2.lm).mono ?_
  generalize ((w.alloc (.cells (rpC rp0 (.slice none 0 0) (.slice none 0 0) (.slice none 0 0) (.slice none 0 0)).toArray 32)).alloc (.cells (rpC rp0 (.slice none 0 0) (.slice none 0 0) (.slice none 0 0) (.slice none 0 0)).toArray 32)) = w2 at *
  rintro e w4 ⟨rfl, hM4, hk4⟩
  have Q4 := Q2.call hM4 hk4
  have W5 := hid Q4.row
  have LJ5 := hid (Q4.o.lt (i := 2) (by decide))
  go_wp2_with (first | (refine wpList_storeW rfl 4 _ _ rfl w.heap.size 2 (.bool true) rfl rfl _ 32 W5.out LJ5.out Try.sizeBool rfl rfl ?_; intro w5 hr5 hk5; refine Hid.out ?_))
  refine hid ?_
  have Q5 : FQ w0 w w5 g sp cap bs _ { rp0 with found := true } (.slice none 0 0) (.slice none 0 0) (.slice none 0 0) (.slice none 0 0) [] [] := Q4.put hr5 hk5 ⟨⟨z32_len, z32_len⟩, Q4.o.ov, Q4.o.orw, Q4.o.ol, Q4.o.oc⟩
  clear W5 LJ5 hr5 hk5
  have c5 : w5.cell? ⟨w.heap.size, 2, none⟩ = some (.bool true) := by rw [cell_of_row _ _ _ _ _ _ Q5.row]; rfl
  go_wp2_with fail
  refine (KV.out w5 Q5.lm).mono ?_
  rintro e w6 ⟨v6, rfl, O6, hM6, hk6⟩
  have Q6 := Q5.call hM6 hk6
  have C6 := O6.cells
  have W7 := hid Q6.row
  have LJ7 := hid (Q6.o.lt (i := 4) (by decide))
  go_wp2_with (first | (refine wpList_storeW rfl 22 _ _ rfl w.heap.size 4 v6 rfl rfl _ 32 W7.out LJ7.out Try.sizeBy C6.1 C6.2 ?_; intro w7 hr7 hk7; refine Hid.out ?_))
  refine hid ?_
  have Q7 : FQ w0 w w7 g sp cap bs _ { rp0 with found := true, val := lvV bs L1 } v6 (.slice none 0 0) (.slice none 0 0) (.slice none 0 0) [] [] := Q6.put hr7 hk7 ⟨⟨z32_len, z32_len⟩, own_lower O6 Q5.kp.size, Q6.o.orw, Q6.o.ol, Q6.o.oc⟩
  clear W7 LJ7 hr7 hk7
  have Z1 := hid Q7.row
  have Z2 := hid (show (Try.prog.info? 32).map (·.size) = some (rpC { rp0 with found := true, val := lvV bs L1 } v6 (.slice none 0 0) (.slice none 0 0) (.slice none 0 0)).toArray.size by rw [List.size_toArray, rpC_len Q7.o.l]; exact Try.sizeRep)
  have Z3 := hid (show (Try.prog.info? 32).map (·.size) = some (rpC { rp0 with found := true, val := lvV bs L1 } v6 (.slice none 0 0) (.slice none 0 0) (.slice none 0 0)).length by rw [rpC_len Q7.o.l]; exact Try.sizeRep)
  have Z5 := hid (show (rpC rp0 (.slice none 0 0) (.slice none 0 0) (.slice none 0 0) (.slice none 0 0)).length = (rpC { rp0 with found := true, val := lvV bs L1 } v6 (.slice none 0 0) (.slice none 0 0) (.slice none 0 0)).length from (rpC_len rp0_L).trans (rpC_len Q7.o.l).symm)
  have Z4 := hid Q7.o.one
  have Z6 := hid Q7.ans
  go_wp2_with (first | (refine wpList_load_row rfl 32 _ rfl w.heap.size rfl 32 _ (0, 0) _ Z1.out Try.underlying32 rfl Z2.out ?_) | (refine wpList_storeRowW rfl 32 _ _ rfl (w.heap.size + 1) (rpC { rp0 with found := true, val := lvV bs L1 } v6 (.slice none 0 0) (.slice none 0 0) (.slice none 0 0)) rfl rfl 32 _ Z6.out Z3.out Z5.out Z4.out ?_; intro wz hrz hkz))
  obtain ⟨z1, z2, z3⟩ := Q7.out hkz
  exact bodyPost_ret (results_c1 Try.results32 _ _ (w.heap.size + 1) 32 _ (0, 0) _ rfl hrz Try.underlying32 rfl Z2.out) rfl ⟨_, _, _, _, rfl, ⟨_, _, z1⟩, z2, z3⟩
end Go.Proofs.Ytenfklcgkfaajaa
namespace Go.Proofs.Ytenfklcgkfaajaa
set_option linter.unusedVariables false
set_option linter.unusedSimpArgs false
open Go.RowKit
attribute [local go_sem ↓] Go.wp_at_zero Go.wp_at_succ


set_option maxRecDepth 100000 in
set_option maxHeartbeats 4000000 in
theorem fields_2n (w0 w : World) (g : Nat) (sp : Option Addr) (cap : Nat) (bs : List Int) (hy : Bys bs) (L : Lk) (h : LM w0 w g sp cap bs L) (op : Int) (ho : op = 2) (hf : lyV bs L = false) :
    Calls Try.prog 32 #[.pointer (some ⟨g, 0, none⟩), .int .i64 op, .agg (rpC rp0 (.slice none 0 0) (.slice none 0 0) (.slice none 0 0) (.slice none 0 0)).toArray] w fun e w' => ∃ vv rv lv cv, e = .returned (.agg (rpC (ffP op bs L).1 vv rv lv cv).toArray) ∧ (∃ ml mc, RpO w' w.heap.size (ffP op bs L).1 vv rv lv cv ml mc) ∧ LM w0 w' g sp cap bs (ffP op bs L).2 ∧ Keeps g w w' := by
  have Q2 := FQ.start h
  have HP := hid (show ffP op bs L = (rp0, lyS bs L) by rw [ho]; unfold ffP; rw [if_neg (by decide), if_pos rfl, hf]; rfl)
  rw [HP.out]
  clear HP
  subst ho
  have KN := hid (fun (wc : World) (h : LM w0 wc g sp cap bs L) => yes_any w0 wc g sp cap bs hy L h)
  rw [hf] at KN
  have KV := hid (fun (wc : World) (h : LM w0 wc g sp cap bs (lyS bs L)) => lval_any w0 wc g sp cap bs hy (lyS bs L) h)
  clear hf
  generalize lyS bs L = L1 at *
  go_enter Try.func32, Try.ntmps32
  go_wp2_with (first | (refine wpList_allocV allocRep rfl rfl ?_))
  refine (KN.out _ Q2.lm).mono ?_
  generalize ((w.alloc (.cells (rpC rp0 (.slice none 0 0) (.slice none 0 0) (.slice none 0 0) (.slice none 0 0)).toArray 32)).alloc (.cells (rpC rp0 (.slice none 0 0) (.slice none 0 0) (.slice none 0 0) (.slice none 0 0)).toArray 32)) = w2 at *
  rintro e w4 ⟨rfl, hM4, hk4⟩
  have Q4 := Q2.call hM4 hk4
  have W5 := hid Q4.row
  have LJ5 := hid (Q4.o.lt (i := 2) (by decide))
  go_wp2_with (first | (refine wpList_storeW rfl 4 _ _ rfl w.heap.size 2 (.bool false) rfl rfl _ 32 W5.out LJ5.out Try.sizeBool rfl rfl ?_; intro w5 hr5 hk5; refine Hid.out ?_))
  refine hid ?_
  have Q5 : FQ w0 w w5 g sp cap bs _ { rp0 with found := false } (.slice none 0 0) (.slice none 0 0) (.slice none 0 0) (.slice none 0 0) [] [] := Q4.put hr5 hk5 ⟨⟨z32_len, z32_len⟩, Q4.o.ov, Q4.o.orw, Q4.o.ol, Q4.o.oc⟩
  clear W5 LJ5 hr5 hk5
  have c5 : w5.cell? ⟨w.heap.size, 2, none⟩ = some (.bool false) := by rw [cell_of_row _ _ _ _ _ _ Q5.row]; rfl
  have Z1 := hid Q5.row
  have Z2 := hid (show (Try.prog.info? 32).map (·.size) = some (rpC { rp0 with found := false } (.slice none 0 0) (.slice none 0 0) (.slice none 0 0) (.slice none 0 0)).toArray.size by rw [List.size_toArray, rpC_len Q5.o.l]; exact Try.sizeRep)
  have Z3 := hid (show (Try.prog.info? 32).map (·.size) = some (rpC { rp0 with found := false } (.slice none 0 0) (.slice none 0 0) (.slice none 0 0) (.slice none 0 0)).length by rw [rpC_len Q5.o.l]; exact Try.sizeRep)
  have Z5 := hid (show (rpC rp0 (.slice none 0 0) (.slice none 0 0) (.slice none 0 0) (.slice none 0 0)).length = (rpC { rp0 with found := false } (.slice none 0 0) (.slice none 0 0) (.slice none 0 0) (.slice none 0 0)).length from (rpC_len rp0_L).trans (rpC_len Q5.o.l).symm)
  have Z4 := hid Q5.o.one
  have Z6 := hid Q5.ans
  go_wp2_with (first | (refine wpList_load_row rfl 32 _ rfl w.heap.size rfl 32 _ (0, 0) _ Z1.out Try.underlying32 rfl Z2.out ?_) | (refine wpList_storeRowW rfl 32 _ _ rfl (w.heap.size + 1) (rpC { rp0 with found := false } (.slice none 0 0) (.slice none 0 0) (.slice none 0 0) (.slice none 0 0)) rfl rfl 32 _ Z6.out Z3.out Z5.out Z4.out ?_; intro wz hrz hkz))
  obtain ⟨z1, z2, z3⟩ := Q5.out hkz
  exact bodyPost_ret (results_c1 Try.results32 _ _ (w.heap.size + 1) 32 _ (0, 0) _ rfl hrz Try.underlying32 rfl Z2.out) rfl ⟨_, _, _, _, rfl, ⟨_, _, z1⟩, z2, z3⟩
end Go.Proofs.Ytenfklcgkfaajaa
namespace Go.Proofs.Ytenfklcgkfaajaa
set_option linter.unusedVariables false
set_option linter.unusedSimpArgs false
open Go.RowKit
attribute [local go_sem ↓] Go.wp_at_zero Go.wp_at_succ


set_option maxRecDepth 100000 in
set_option maxHeartbeats 4000000 in
theorem fields_3 (w0 w : World) (g : Nat) (sp : Option Addr) (cap : Nat) (bs : List Int) (hy : Bys bs) (L : Lk) (h : LM w0 w g sp cap bs L) (op : Int) (ho : op = 3) :
    Calls Try.prog 32 #[.pointer (some ⟨g, 0, none⟩), .int .i64 op, .agg (rpC rp0 (.slice none 0 0) (.slice none 0 0) (.slice none 0 0) (.slice none 0 0)).toArray] w fun e w' => ∃ vv rv lv cv, e = .returned (.agg (rpC (ffP op bs L).1 vv rv lv cv).toArray) ∧ (∃ ml mc, RpO w' w.heap.size (ffP op bs L).1 vv rv lv cv ml mc) ∧ LM w0 w' g sp cap bs (ffP op bs L).2 ∧ Keeps g w w' := by
  have Q2 := FQ.start h
  have HP := hid (show ffP op bs L = ({ rp0 with sum := lkR bs L }, lkS bs L 32) by rw [ho]; rfl)
  rw [HP.out]
  clear HP
  subst ho
  have KN := hid (fun (wc : World) (h : LM w0 wc g sp cap bs L) => row_any w0 wc g sp cap bs L h)
  have hkl := lkR_len bs L
  generalize lkR bs L = key at *
  generalize lkS bs L 32 = L1 at *
  go_enter Try.func32, Try.ntmps32
  go_wp2_with (first | (refine wpList_allocV allocRep rfl rfl ?_))
  refine (KN.out _ Q2.lm).mono ?_
  generalize ((w.alloc (.cells (rpC rp0 (.slice none 0 0) (.slice none 0 0) (.slice none 0 0) (.slice none 0 0)).toArray 32)).alloc (.cells (rpC rp0 (.slice none 0 0) (.slice none 0 0) (.slice none 0 0) (.slice none 0 0)).toArray 32)) = w2 at *
  rintro e w4 ⟨rfl, hM4, hk4⟩
  have Q4 := Q2.call hM4 hk4
  have SK := hid (show (Try.prog.info? 26).map (·.size) = some (ints .u8 key).length by rw [ints_len, hkl]; exact Try.sizeDg)
  have SL := hid (show 5 + (ints .u8 key).length ≤ (rpC rp0 (.slice none 0 0) (.slice none 0 0) (.slice none 0 0) (.slice none 0 0)).length by rw [ints_len, hkl, rpC_len Q4.o.l]; decide)
  have W4 := hid Q4.row
  go_wp2_with (first
    | (refine wpList_storeMidW rfl 26 _ _ rfl w.heap.size 5 (ints .u8 key) rfl rfl _ 32 W4.out SL.out SK.out (ints_one _ _) ?_; intro w5 hr5 hk5; refine Hid.out ?_))
  refine hid ?_
  rw [rpC_sum Q4.o.l _ hkl] at hr5
  have Q5 : FQ w0 w w5 g sp cap bs _ { rp0 with sum := key } (.slice none 0 0) (.slice none 0 0) (.slice none 0 0) (.slice none 0 0) [] [] := Q4.put hr5 hk5 ⟨⟨hkl, z32_len⟩, Q4.o.ov, Q4.o.orw, Q4.o.ol, Q4.o.oc⟩
  clear SK SL W4 hr5 hk5
  have Z1 := hid Q5.row
  have Z2 := hid (show (Try.prog.info? 32).map (·.size) = some (rpC { rp0 with sum := key } (.slice none 0 0) (.slice none 0 0) (.slice none 0 0) (.slice none 0 0)).toArray.size by rw [List.size_toArray, rpC_len Q5.o.l]; exact Try.sizeRep)
  have Z3 := hid (show (Try.prog.info? 32).map (·.size) = some (rpC { rp0 with sum := key } (.slice none 0 0) (.slice none 0 0) (.slice none 0 0) (.slice none 0 0)).length by rw [rpC_len Q5.o.l]; exact Try.sizeRep)
  have Z5 := hid (show (rpC rp0 (.slice none 0 0) (.slice none 0 0) (.slice none 0 0) (.slice none 0 0)).length = (rpC { rp0 with sum := key } (.slice none 0 0) (.slice none 0 0) (.slice none 0 0) (.slice none 0 0)).length from (rpC_len rp0_L).trans (rpC_len Q5.o.l).symm)
  have Z4 := hid Q5.o.one
  have Z6 := hid Q5.ans
  go_wp2_with (first | (refine wpList_load_row rfl 32 _ rfl w.heap.size rfl 32 _ (0, 0) _ Z1.out Try.underlying32 rfl Z2.out ?_) | (refine wpList_storeRowW rfl 32 _ _ rfl (w.heap.size + 1) (rpC { rp0 with sum := key } (.slice none 0 0) (.slice none 0 0) (.slice none 0 0) (.slice none 0 0)) rfl rfl 32 _ Z6.out Z3.out Z5.out Z4.out ?_; intro wz hrz hkz))
  obtain ⟨z1, z2, z3⟩ := Q5.out hkz
  exact bodyPost_ret (results_c1 Try.results32 _ _ (w.heap.size + 1) 32 _ (0, 0) _ rfl hrz Try.underlying32 rfl Z2.out) rfl ⟨_, _, _, _, rfl, ⟨_, _, z1⟩, z2, z3⟩
end Go.Proofs.Ytenfklcgkfaajaa
