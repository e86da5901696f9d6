import Derived.Test.YtenfklcgkfaajaaDk26
namespace Go.Proofs.Ytenfklcgkfaajaa
set_option linter.unusedVariables false
set_option linter.unusedSimpArgs false
open Go.RowKit
attribute [local go_sem ↓] Go.wp_at_zero Go.wp_at_succ

set_option maxRecDepth 100000 in
set_option maxHeartbeats 4000000 in
theorem reply_e (w0 w : World) (g b : Nat) (op : Int) (R : Rd) (hy : Bys R.rest) (h : RK w0 w g b R) (hl : R.rest.length ≤ 140737488351234) (he : nmV R 2 ≠ 0) :
    Calls Try.prog 26 #[.pointer (some ⟨g, 0, none⟩), .int .i64 op] w fun e w' => ∃ vv rv lv cv, e = .returned (.agg (rpC (rpP op R).1 vv rv lv cv).toArray) ∧ (∃ ml mc, RpO w' w.heap.size (rpP op R).1 vv rv lv cv ml mc ∧ Sd vv rv ml mc ∧ DjM ml ∧ DjM mc) ∧ RK w0 w' g b (rpP op R).2 ∧ Keeps g w w' := by
  have hg := h.lt
  have hb1 := (Below.refl w.heap.size w).alloc (Nat.le_refl _) (.cells (rpC rp0 (.slice none 0 0) (.slice none 0 0) (.slice none 0 0) (.slice none 0 0)).toArray 32)
  have Q0 : PQ w0 w (w.alloc (.cells (rpC rp0 (.slice none 0 0) (.slice none 0 0) (.slice none 0 0) (.slice none 0 0)).toArray 32)) g b R rp0 (.slice none 0 0) (.slice none 0 0) (.slice none 0 0) (.slice none 0 0) [] [] := ⟨h.keep (hb1.mono hg), hnew w _, RpO.zero _ _, Keeps.of_below hb1, hg⟩
  have KN := hid (number_any w0 _ g b R hy Q0.rk 2 (by omega))
  have y1 := tkS_bys hy 2
  have hl1 : (tkS R 2).rest.length ≤ 140737488351232 := by unfold tkS; split <;> simp <;> omega
  have HP := hid (show rpP op R = ({ rp0 with err := nmV R 2 }, tkS R 2) by unfold rpP; rw [if_neg he])
  rw [HP.out]
  clear HP
  generalize hx : nmV R 2 = er at *
  generalize hR1 : tkS R 2 = R1 at *
  clear hx hR1 h hy hl
  replace he := hid he
  go_enter Try.func26, Try.ntmps26
  go_wp2_with (first | (refine wpList_allocV allocRep rfl rfl ?_))
  refine KN.out.mono ?_
  clear KN
  generalize w.alloc (.cells (rpC rp0 (.slice none 0 0) (.slice none 0 0) (.slice none 0 0) (.slice none 0 0)).toArray 32) = w1 at *
  rintro e w2 ⟨rfl, hK2, hk2⟩
  have Q2 := Q0.call hK2 hk2
  have W2 := hid Q2.row
  have LJ := hid (show 0 < (rpC rp0 (.slice none 0 0) (.slice none 0 0) (.slice none 0 0) (.slice none 0 0)).length by rw [rpC_len rp0_L]; decide)
  go_wp2_with (first | (refine wpList_storeW rfl 24 _ _ rfl w.heap.size 0 (.int .i64 er) rfl rfl _ 32 W2.out LJ.out Try.sizeErr rfl rfl ?_; intro w3 hr3 hk3; refine Hid.out ?_))
  refine hid ?_
  have Q3 : PQ w0 w w3 g b R1 { rp0 with err := er } (.slice none 0 0) (.slice none 0 0) (.slice none 0 0) (.slice none 0 0) [] [] := Q2.put hr3 hk3 ⟨⟨z32_len, z32_len⟩, Q2.o.ov, Q2.o.orw, Q2.o.ol, Q2.o.oc⟩
  have c3 : w3.cell? ⟨w.heap.size, 0, none⟩ = some (.int .i64 er) := by rw [cell_of_row _ _ _ _ _ _ Q3.row]; rfl
  clear Q0 Q2 W2 LJ hr3 hk3 hK2 hk2 hb1
  replace he := he.out
  have e0 : (er == 0) = false := beq_eq_false_iff_ne.2 he
  clear he
  have Z1 := hid Q3.row
  have Z2 := hid (show (Try.prog.info? 32).map (·.size) = some (rpC { rp0 with err := er } (.slice none 0 0) (.slice none 0 0) (.slice none 0 0) (.slice none 0 0)).toArray.size by rw [List.size_toArray, rpC_len Q3.o.l]; exact Try.sizeRep)
  have Z3 := hid (show (Try.prog.info? 32).map (·.size) = some (rpC { rp0 with err := er } (.slice none 0 0) (.slice none 0 0) (.slice none 0 0) (.slice none 0 0)).length by rw [rpC_len Q3.o.l]; exact Try.sizeRep)
  have Z4 := hid Q3.o.one
  go_wp2_with (first | (refine wpList_load_row rfl 32 _ rfl w.heap.size rfl 32 _ (0, 0) _ Z1.out Try.underlying32 rfl Z2.out ?_) | (refine wpList_storeRowW rfl 32 _ _ rfl w.heap.size (rpC { rp0 with err := er } (.slice none 0 0) (.slice none 0 0) (.slice none 0 0) (.slice none 0 0)) rfl rfl 32 _ Z1.out Z3.out rfl Z4.out ?_; intro wz hrz hkz))
  have QZ := Q3.put hrz hkz Q3.o
  exact bodyPost_ret (results_c1 Try.results26 _ _ w.heap.size 32 _ (0, 0) _ rfl hrz Try.underlying32 rfl Z2.out) rfl ⟨_, _, _, _, rfl, ⟨_, _, QZ.o, (by first | exact Or.inl ⟨rfl, rfl, rfl⟩ | exact Or.inr (Or.inl ⟨rfl, rfl, rfl⟩) | exact Or.inr (Or.inr (Or.inl ⟨rfl, rfl, rfl⟩)) | exact Or.inr (Or.inr (Or.inr ⟨rfl, rfl, rfl⟩))), DjM.nil, DjM.nil⟩, QZ.rk, QZ.kp⟩
end Go.Proofs.Ytenfklcgkfaajaa
namespace Go.Proofs.Ytenfklcgkfaajaa
set_option linter.unusedVariables false
set_option linter.unusedSimpArgs false
open Go.RowKit
attribute [local go_sem ↓] Go.wp_at_zero Go.wp_at_succ

set_option maxRecDepth 100000 in
set_option maxHeartbeats 4000000 in
theorem reply_1 (w0 w : World) (g b : Nat) (op : Int) (R : Rd) (hy : Bys R.rest) (h : RK w0 w g b R) (hl : R.rest.length ≤ 140737488351234) (he : nmV R 2 = 0) (ho : op = 1) :
    Calls Try.prog 26 #[.pointer (some ⟨g, 0, none⟩), .int .i64 op] w fun e w' => ∃ vv rv lv cv, e = .returned (.agg (rpC (rpP op R).1 vv rv lv cv).toArray) ∧ (∃ ml mc, RpO w' w.heap.size (rpP op R).1 vv rv lv cv ml mc ∧ Sd vv rv ml mc ∧ DjM ml ∧ DjM mc) ∧ RK w0 w' g b (rpP op R).2 ∧ Keeps g w w' := by
  have hg := h.lt
  have hb1 := (Below.refl w.heap.size w).alloc (Nat.le_refl _) (.cells (rpC rp0 (.slice none 0 0) (.slice none 0 0) (.slice none 0 0) (.slice none 0 0)).toArray 32)
  have Q0 : PQ w0 w (w.alloc (.cells (rpC rp0 (.slice none 0 0) (.slice none 0 0) (.slice none 0 0) (.slice none 0 0)).toArray 32)) g b R rp0 (.slice none 0 0) (.slice none 0 0) (.slice none 0 0) (.slice none 0 0) [] [] := ⟨h.keep (hb1.mono hg), hnew w _, RpO.zero _ _, Keeps.of_below hb1, hg⟩
  have KN := hid (number_any w0 _ g b R hy Q0.rk 2 (by omega))
  have y1 := tkS_bys hy 2
  have hl1 : (tkS R 2).rest.length ≤ 140737488351232 := by unfold tkS; split <;> simp <;> omega
  have HP := hid (show rpP op R = fdP op (tkS R 2) by unfold rpP; rw [if_pos he])
  rw [HP.out]
  clear HP
  generalize hx : nmV R 2 = er at *
  generalize hR1 : tkS R 2 = R1 at *
  clear hx hR1 h hy hl
  replace he := hid he
  go_enter Try.func26, Try.ntmps26
  go_wp2_with (first | (refine wpList_allocV allocRep rfl rfl ?_))
  refine KN.out.mono ?_
  clear KN
  generalize w.alloc (.cells (rpC rp0 (.slice none 0 0) (.slice none 0 0) (.slice none 0 0) (.slice none 0 0)).toArray 32) = w1 at *
  rintro e w2 ⟨rfl, hK2, hk2⟩
  have Q2 := Q0.call hK2 hk2
  have W2 := hid Q2.row
  have LJ := hid (show 0 < (rpC rp0 (.slice none 0 0) (.slice none 0 0) (.slice none 0 0) (.slice none 0 0)).length by rw [rpC_len rp0_L]; decide)
  go_wp2_with (first | (refine wpList_storeW rfl 24 _ _ rfl w.heap.size 0 (.int .i64 er) rfl rfl _ 32 W2.out LJ.out Try.sizeErr rfl rfl ?_; intro w3 hr3 hk3; refine Hid.out ?_))
  refine hid ?_
  have Q3 : PQ w0 w w3 g b R1 { rp0 with err := er } (.slice none 0 0) (.slice none 0 0) (.slice none 0 0) (.slice none 0 0) [] [] := Q2.put hr3 hk3 ⟨⟨z32_len, z32_len⟩, Q2.o.ov, Q2.o.orw, Q2.o.ol, Q2.o.oc⟩
  have c3 : w3.cell? ⟨w.heap.size, 0, none⟩ = some (.int .i64 er) := by rw [cell_of_row _ _ _ _ _ _ Q3.row]; rfl
  clear Q0 Q2 W2 LJ hr3 hk3 hK2 hk2 hb1
  replace he := he.out
  subst he
  have HF := hid (show True from trivial)
  subst ho
  have KN := hid (number_any w0 w3 g b R1 y1 Q3.rk 8 (by omega))
  go_wp2_with fail
  refine KN.out.mono ?_
  rintro e w4 ⟨rfl, hK4, hk4⟩
  have Q4 := Q3.call hK4 hk4
  have W5 := hid Q4.row
  have LJ5 := hid (Q4.o.lt (i := 1) (by decide))
  go_wp2_with (first | (refine wpList_storeW rfl 3 _ _ rfl w.heap.size 1 (.int .i64 (nmV R1 8)) rfl rfl _ 32 W5.out LJ5.out Try.sizeInt rfl rfl ?_; intro w5 hr5 hk5; refine Hid.out ?_))
  refine hid ?_
  have Q5 : PQ w0 w w5 g b _ { rp0 with ver := nmV R1 8 } (.slice none 0 0) (.slice none 0 0) (.slice none 0 0) (.slice none 0 0) [] [] := Q4.put hr5 hk5 ⟨⟨z32_len, z32_len⟩, Q4.o.ov, Q4.o.orw, Q4.o.ol, Q4.o.oc⟩
  clear W5 LJ5 hr5 hk5
  have Z1 := hid Q5.row
  have Z2 := hid (show (Try.prog.info? 32).map (·.size) = some (rpC { rp0 with ver := nmV R1 8 } (.slice none 0 0) (.slice none 0 0) (.slice none 0 0) (.slice none 0 0)).toArray.size by rw [List.size_toArray, rpC_len Q5.o.l]; exact Try.sizeRep)
  have Z3 := hid (show (Try.prog.info? 32).map (·.size) = some (rpC { rp0 with ver := nmV R1 8 } (.slice none 0 0) (.slice none 0 0) (.slice none 0 0) (.slice none 0 0)).length by rw [rpC_len Q5.o.l]; exact Try.sizeRep)
  have Z4 := hid Q5.o.one
  go_wp2_with (first | (refine wpList_load_row rfl 32 _ rfl w.heap.size rfl 32 _ (0, 0) _ Z1.out Try.underlying32 rfl Z2.out ?_) | (refine wpList_storeRowW rfl 32 _ _ rfl w.heap.size (rpC { rp0 with ver := nmV R1 8 } (.slice none 0 0) (.slice none 0 0) (.slice none 0 0) (.slice none 0 0)) rfl rfl 32 _ Z1.out Z3.out rfl Z4.out ?_; intro wz hrz hkz))
  have QZ := Q5.put hrz hkz Q5.o
  exact bodyPost_ret (results_c1 Try.results26 _ _ w.heap.size 32 _ (0, 0) _ rfl hrz Try.underlying32 rfl Z2.out) rfl ⟨_, _, _, _, rfl, ⟨_, _, QZ.o, (by first | exact Or.inl ⟨rfl, rfl, rfl⟩ | exact Or.inr (Or.inl ⟨rfl, rfl, rfl⟩) | exact Or.inr (Or.inr (Or.inl ⟨rfl, rfl, rfl⟩)) | exact Or.inr (Or.inr (Or.inr ⟨rfl, rfl, rfl⟩))), DjM.nil, DjM.nil⟩, QZ.rk, QZ.kp⟩
end Go.Proofs.Ytenfklcgkfaajaa
namespace Go.Proofs.Ytenfklcgkfaajaa
set_option linter.unusedVariables false
set_option linter.unusedSimpArgs false
open Go.RowKit
attribute [local go_sem ↓] Go.wp_at_zero Go.wp_at_succ

set_option maxRecDepth 100000 in
set_option maxHeartbeats 4000000 in
theorem reply_2y (w0 w : World) (g b : Nat) (op : Int) (R : Rd) (hy : Bys R.rest) (h : RK w0 w g b R) (hl : R.rest.length ≤ 140737488351234) (he : nmV R 2 = 0) (ho : op = 2) (hf : flV (tkS R 2) = true) :
    Calls Try.prog 26 #[.pointer (some ⟨g, 0, none⟩), .int .i64 op] w fun e w' => ∃ vv rv lv cv, e = .returned (.agg (rpC (rpP op R).1 vv rv lv cv).toArray) ∧ (∃ ml mc, RpO w' w.heap.size (rpP op R).1 vv rv lv cv ml mc ∧ Sd vv rv ml mc ∧ DjM ml ∧ DjM mc) ∧ RK w0 w' g b (rpP op R).2 ∧ Keeps g w w' := by
  have hg := h.lt
  have hb1 := (Below.refl w.heap.size w).alloc (Nat.le_refl _) (.cells (rpC rp0 (.slice none 0 0) (.slice none 0 0) (.slice none 0 0) (.slice none 0 0)).toArray 32)
  have Q0 : PQ w0 w (w.alloc (.cells (rpC rp0 (.slice none 0 0) (.slice none 0 0) (.slice none 0 0) (.slice none 0 0)).toArray 32)) g b R rp0 (.slice none 0 0) (.slice none 0 0) (.slice none 0 0) (.slice none 0 0) [] [] := ⟨h.keep (hb1.mono hg), hnew w _, RpO.zero _ _, Keeps.of_below hb1, hg⟩
  have KN := hid (number_any w0 _ g b R hy Q0.rk 2 (by omega))
  have y1 := tkS_bys hy 2
  have hl1 : (tkS R 2).rest.length ≤ 140737488351232 := by unfold tkS; split <;> simp <;> omega
  have HP := hid (show rpP op R = ({ rp0 with found := true, val := vaV (flS (tkS R 2)) }, vaS (flS (tkS R 2))) by unfold rpP; rw [if_pos he, ho]; unfold fdP; rw [if_neg (by decide), if_pos rfl, hf]; rfl)
  rw [HP.out]
  clear HP
  generalize hx : nmV R 2 = er at *
  generalize hR1 : tkS R 2 = R1 at *
  clear hx hR1 h hy hl
  replace he := hid he
  go_enter Try.func26, Try.ntmps26
  go_wp2_with (first | (refine wpList_allocV allocRep rfl rfl ?_))
  refine KN.out.mono ?_
  clear KN
  generalize w.alloc (.cells (rpC rp0 (.slice none 0 0) (.slice none 0 0) (.slice none 0 0) (.slice none 0 0)).toArray 32) = w1 at *
  rintro e w2 ⟨rfl, hK2, hk2⟩
  have Q2 := Q0.call hK2 hk2
  have W2 := hid Q2.row
  have LJ := hid (show 0 < (rpC rp0 (.slice none 0 0) (.slice none 0 0) (.slice none 0 0) (.slice none 0 0)).length by rw [rpC_len rp0_L]; decide)
  go_wp2_with (first | (refine wpList_storeW rfl 24 _ _ rfl w.heap.size 0 (.int .i64 er) rfl rfl _ 32 W2.out LJ.out Try.sizeErr rfl rfl ?_; intro w3 hr3 hk3; refine Hid.out ?_))
  refine hid ?_
  have Q3 : PQ w0 w w3 g b R1 { rp0 with err := er } (.slice none 0 0) (.slice none 0 0) (.slice none 0 0) (.slice none 0 0) [] [] := Q2.put hr3 hk3 ⟨⟨z32_len, z32_len⟩, Q2.o.ov, Q2.o.orw, Q2.o.ol, Q2.o.oc⟩
  have c3 : w3.cell? ⟨w.heap.size, 0, none⟩ = some (.int .i64 er) := by rw [cell_of_row _ _ _ _ _ _ Q3.row]; rfl
  clear Q0 Q2 W2 LJ hr3 hk3 hK2 hk2 hb1
  replace he := he.out
  subst he
  subst ho
  have KF := hid (flag_any w0 w3 g b R1 y1 Q3.rk)
  rw [hf] at KF
  have y2 := flS_bys y1
  clear hf
  go_wp2_with fail
  refine KF.out.mono ?_
  rintro e w4 ⟨rfl, hK4, hk4⟩
  have Q4 := Q3.call hK4 hk4
  have W5 := hid Q4.row
  have LJ5 := hid (Q4.o.lt (i := 2) (by decide))
  go_wp2_with (first | (refine wpList_storeW rfl 4 _ _ rfl w.heap.size 2 (.bool true) rfl rfl _ 32 W5.out LJ5.out Try.sizeBool rfl rfl ?_; intro w5 hr5 hk5; refine Hid.out ?_))
  refine hid ?_
  have Q5 : PQ w0 w w5 g b _ { rp0 with found := true } (.slice none 0 0) (.slice none 0 0) (.slice none 0 0) (.slice none 0 0) [] [] := Q4.put hr5 hk5 ⟨⟨z32_len, z32_len⟩, Q4.o.ov, Q4.o.orw, Q4.o.ol, Q4.o.oc⟩
  clear W5 LJ5 hr5 hk5
  have c5 : w5.cell? ⟨w.heap.size, 2, none⟩ = some (.bool true) := by rw [cell_of_row _ _ _ _ _ _ Q5.row]; rfl
  have KV := hid (val_any w0 w5 g b (flS R1) y2 Q5.rk)
  go_wp2_with fail
  refine KV.out.mono ?_
  rintro e w6 ⟨v6, rfl, O6, hK6, hk6⟩
  have Q6 := Q5.call hK6 hk6
  have C6 := O6.cells
  have W7 := hid Q6.row
  have LJ7 := hid (Q6.o.lt (i := 4) (by decide))
  go_wp2_with (first | (refine wpList_storeW rfl 22 _ _ rfl w.heap.size 4 v6 rfl rfl _ 32 W7.out LJ7.out Try.sizeBy C6.1 C6.2 ?_; intro w7 hr7 hk7; refine Hid.out ?_))
  refine hid ?_
  have Q7 : PQ w0 w w7 g b _ { rp0 with found := true, val := vaV (flS R1) } v6 (.slice none 0 0) (.slice none 0 0) (.slice none 0 0) [] [] := Q6.put hr7 hk7 ⟨⟨z32_len, z32_len⟩, own_lower O6 Q5.kp.size, Q6.o.orw, Q6.o.ol, Q6.o.oc⟩
  clear W7 LJ7 hr7 hk7
  have Z1 := hid Q7.row
  have Z2 := hid (show (Try.prog.info? 32).map (·.size) = some (rpC { rp0 with found := true, val := vaV (flS R1) } v6 (.slice none 0 0) (.slice none 0 0) (.slice none 0 0)).toArray.size by rw [List.size_toArray, rpC_len Q7.o.l]; exact Try.sizeRep)
  have Z3 := hid (show (Try.prog.info? 32).map (·.size) = some (rpC { rp0 with found := true, val := vaV (flS R1) } v6 (.slice none 0 0) (.slice none 0 0) (.slice none 0 0)).length by rw [rpC_len Q7.o.l]; exact Try.sizeRep)
  have Z4 := hid Q7.o.one
  go_wp2_with (first | (refine wpList_load_row rfl 32 _ rfl w.heap.size rfl 32 _ (0, 0) _ Z1.out Try.underlying32 rfl Z2.out ?_) | (refine wpList_storeRowW rfl 32 _ _ rfl w.heap.size (rpC { rp0 with found := true, val := vaV (flS R1) } v6 (.slice none 0 0) (.slice none 0 0) (.slice none 0 0)) rfl rfl 32 _ Z1.out Z3.out rfl Z4.out ?_; intro wz hrz hkz))
  have QZ := Q7.put hrz hkz Q7.o
  exact bodyPost_ret (results_c1 Try.results26 _ _ w.heap.size 32 _ (0, 0) _ rfl hrz Try.underlying32 rfl Z2.out) rfl ⟨_, _, _, _, rfl, ⟨_, _, QZ.o, (by first | exact Or.inl ⟨rfl, rfl, rfl⟩ | exact Or.inr (Or.inl ⟨rfl, rfl, rfl⟩) | exact Or.inr (Or.inr (Or.inl ⟨rfl, rfl, rfl⟩)) | exact Or.inr (Or.inr (Or.inr ⟨rfl, rfl, rfl⟩))), DjM.nil, DjM.nil⟩, QZ.rk, QZ.kp⟩
end Go.Proofs.Ytenfklcgkfaajaa
namespace Go.Proofs.Ytenfklcgkfaajaa
set_option linter.unusedVariables false
set_option linter.unusedSimpArgs false
open Go.RowKit
attribute [local go_sem ↓] Go.wp_at_zero Go.wp_at_succ

set_option maxRecDepth 100000 in
set_option maxHeartbeats 4000000 in
theorem reply_2n (w0 w : World) (g b : Nat) (op : Int) (R : Rd) (hy : Bys R.rest) (h : RK w0 w g b R) (hl : R.rest.length ≤ 140737488351234) (he : nmV R 2 = 0) (ho : op = 2) (hf : flV (tkS R 2) = false) :
    Calls Try.prog 26 #[.pointer (some ⟨g, 0, none⟩), .int .i64 op] w fun e w' => ∃ vv rv lv cv, e = .returned (.agg (rpC (rpP op R).1 vv rv lv cv).toArray) ∧ (∃ ml mc, RpO w' w.heap.size (rpP op R).1 vv rv lv cv ml mc ∧ Sd vv rv ml mc ∧ DjM ml ∧ DjM mc) ∧ RK w0 w' g b (rpP op R).2 ∧ Keeps g w w' := by
  have hg := h.lt
  have hb1 := (Below.refl w.heap.size w).alloc (Nat.le_refl _) (.cells (rpC rp0 (.slice none 0 0) (.slice none 0 0) (.slice none 0 0) (.slice none 0 0)).toArray 32)
  have Q0 : PQ w0 w (w.alloc (.cells (rpC rp0 (.slice none 0 0) (.slice none 0 0) (.slice none 0 0) (.slice none 0 0)).toArray 32)) g b R rp0 (.slice none 0 0) (.slice none 0 0) (.slice none 0 0) (.slice none 0 0) [] [] := ⟨h.keep (hb1.mono hg), hnew w _, RpO.zero _ _, Keeps.of_below hb1, hg⟩
  have KN := hid (number_any w0 _ g b R hy Q0.rk 2 (by omega))
  have y1 := tkS_bys hy 2
  have hl1 : (tkS R 2).rest.length ≤ 140737488351232 := by unfold tkS; split <;> simp <;> omega
  have HP := hid (show rpP op R = (rp0, flS (tkS R 2)) by unfold rpP; rw [if_pos he, ho]; unfold fdP; rw [if_neg (by decide), if_pos rfl, hf]; rfl)
  rw [HP.out]
  clear HP
  generalize hx : nmV R 2 = er at *
  generalize hR1 : tkS R 2 = R1 at *
  clear hx hR1 h hy hl
  replace he := hid he
  go_enter Try.func26, Try.ntmps26
  go_wp2_with (first | (refine wpList_allocV allocRep rfl rfl ?_))
  refine KN.out.mono ?_
  clear KN
  generalize w.alloc (.cells (rpC rp0 (.slice none 0 0) (.slice none 0 0) (.slice none 0 0) (.slice none 0 0)).toArray 32) = w1 at *
  rintro e w2 ⟨rfl, hK2, hk2⟩
  have Q2 := Q0.call hK2 hk2
  have W2 := hid Q2.row
  have LJ := hid (show 0 < (rpC rp0 (.slice none 0 0) (.slice none 0 0) (.slice none 0 0) (.slice none 0 0)).length by rw [rpC_len rp0_L]; decide)
  go_wp2_with (first | (refine wpList_storeW rfl 24 _ _ rfl w.heap.size 0 (.int .i64 er) rfl rfl _ 32 W2.out LJ.out Try.sizeErr rfl rfl ?_; intro w3 hr3 hk3; refine Hid.out ?_))
  refine hid ?_
  have Q3 : PQ w0 w w3 g b R1 { rp0 with err := er } (.slice none 0 0) (.slice none 0 0) (.slice none 0 0) (.slice none 0 0) [] [] := Q2.put hr3 hk3 ⟨⟨z32_len, z32_len⟩, Q2.o.ov, Q2.o.orw, Q2.o.ol, Q2.o.oc⟩
  have c3 : w3.cell? ⟨w.heap.size, 0, none⟩ = some (.int .i64 er) := by rw [cell_of_row _ _ _ _ _ _ Q3.row]; rfl
  clear Q0 Q2 W2 LJ hr3 hk3 hK2 hk2 hb1
  replace he := he.out
  subst he
  subst ho
  have KF := hid (flag_any w0 w3 g b R1 y1 Q3.rk)
  rw [hf] at KF
  have y2 := flS_bys y1
  clear hf
  go_wp2_with fail
  refine KF.out.mono ?_
  rintro e w4 ⟨rfl, hK4, hk4⟩
  have Q4 := Q3.call hK4 hk4
  have W5 := hid Q4.row
  have LJ5 := hid (Q4.o.lt (i := 2) (by decide))
  go_wp2_with (first | (refine wpList_storeW rfl 4 _ _ rfl w.heap.size 2 (.bool false) rfl rfl _ 32 W5.out LJ5.out Try.sizeBool rfl rfl ?_; intro w5 hr5 hk5; refine Hid.out ?_))
  refine hid ?_
  have Q5 : PQ w0 w w5 g b _ { rp0 with found := false } (.slice none 0 0) (.slice none 0 0) (.slice none 0 0) (.slice none 0 0) [] [] := Q4.put hr5 hk5 ⟨⟨z32_len, z32_len⟩, Q4.o.ov, Q4.o.orw, Q4.o.ol, Q4.o.oc⟩
  clear W5 LJ5 hr5 hk5
  have c5 : w5.cell? ⟨w.heap.size, 2, none⟩ = some (.bool false) := by rw [cell_of_row _ _ _ _ _ _ Q5.row]; rfl
  have Z1 := hid Q5.row
  have Z2 := hid (show (Try.prog.info? 32).map (·.size) = some (rpC { rp0 with found := false } (.slice none 0 0) (.slice none 0 0) (.slice none 0 0) (.slice none 0 0)).toArray.size by rw [List.size_toArray, rpC_len Q5.o.l]; exact Try.sizeRep)
  have Z3 := hid (show (Try.prog.info? 32).map (·.size) = some (rpC { rp0 with found := false } (.slice none 0 0) (.slice none 0 0) (.slice none 0 0) (.slice none 0 0)).length by rw [rpC_len Q5.o.l]; exact Try.sizeRep)
  have Z4 := hid Q5.o.one
  go_wp2_with (first | (refine wpList_load_row rfl 32 _ rfl w.heap.size rfl 32 _ (0, 0) _ Z1.out Try.underlying32 rfl Z2.out ?_) | (refine wpList_storeRowW rfl 32 _ _ rfl w.heap.size (rpC { rp0 with found := false } (.slice none 0 0) (.slice none 0 0) (.slice none 0 0) (.slice none 0 0)) rfl rfl 32 _ Z1.out Z3.out rfl Z4.out ?_; intro wz hrz hkz))
  have QZ := Q5.put hrz hkz Q5.o
  exact bodyPost_ret (results_c1 Try.results26 _ _ w.heap.size 32 _ (0, 0) _ rfl hrz Try.underlying32 rfl Z2.out) rfl ⟨_, _, _, _, rfl, ⟨_, _, QZ.o, (by first | exact Or.inl ⟨rfl, rfl, rfl⟩ | exact Or.inr (Or.inl ⟨rfl, rfl, rfl⟩) | exact Or.inr (Or.inr (Or.inl ⟨rfl, rfl, rfl⟩)) | exact Or.inr (Or.inr (Or.inr ⟨rfl, rfl, rfl⟩))), DjM.nil, DjM.nil⟩, QZ.rk, QZ.kp⟩
end Go.Proofs.Ytenfklcgkfaajaa
namespace Go.Proofs.Ytenfklcgkfaajaa
set_option linter.unusedVariables false
set_option linter.unusedSimpArgs false
open Go.RowKit
attribute [local go_sem ↓] Go.wp_at_zero Go.wp_at_succ

set_option maxRecDepth 100000 in
set_option maxHeartbeats 4000000 in
theorem reply_3 (w0 w : World) (g b : Nat) (op : Int) (R : Rd) (hy : Bys R.rest) (h : RK w0 w g b R) (hl : R.rest.length ≤ 140737488351234) (he : nmV R 2 = 0) (ho : op = 3) :
    Calls Try.prog 26 #[.pointer (some ⟨g, 0, none⟩), .int .i64 op] w fun e w' => ∃ vv rv lv cv, e = .returned (.agg (rpC (rpP op R).1 vv rv lv cv).toArray) ∧ (∃ ml mc, RpO w' w.heap.size (rpP op R).1 vv rv lv cv ml mc ∧ Sd vv rv ml mc ∧ DjM ml ∧ DjM mc) ∧ RK w0 w' g b (rpP op R).2 ∧ Keeps g w w' := by
  have hg := h.lt
  have hb1 := (Below.refl w.heap.size w).alloc (Nat.le_refl _) (.cells (rpC rp0 (.slice none 0 0) (.slice none 0 0) (.slice none 0 0) (.slice none 0 0)).toArray 32)
  have Q0 : PQ w0 w (w.alloc (.cells (rpC rp0 (.slice none 0 0) (.slice none 0 0) (.slice none 0 0) (.slice none 0 0)).toArray 32)) g b R rp0 (.slice none 0 0) (.slice none 0 0) (.slice none 0 0) (.slice none 0 0) [] [] := ⟨h.keep (hb1.mono hg), hnew w _, RpO.zero _ _, Keeps.of_below hb1, hg⟩
  have KN := hid (number_any w0 _ g b R hy Q0.rk 2 (by omega))
  have y1 := tkS_bys hy 2
  have hl1 : (tkS R 2).rest.length ≤ 140737488351232 := by unfold tkS; split <;> simp <;> omega
  have HP := hid (show rpP op R = fdP op (tkS R 2) by unfold rpP; rw [if_pos he])
  rw [HP.out]
  clear HP
  generalize hx : nmV R 2 = er at *
  generalize hR1 : tkS R 2 = R1 at *
  clear hx hR1 h hy hl
  replace he := hid he
  go_enter Try.func26, Try.ntmps26
  go_wp2_with (first | (refine wpList_allocV allocRep rfl rfl ?_))
  refine KN.out.mono ?_
  clear KN
  generalize w.alloc (.cells (rpC rp0 (.slice none 0 0) (.slice none 0 0) (.slice none 0 0) (.slice none 0 0)).toArray 32) = w1 at *
  rintro e w2 ⟨rfl, hK2, hk2⟩
  have Q2 := Q0.call hK2 hk2
  have W2 := hid Q2.row
  have LJ := hid (show 0 < (rpC rp0 (.slice none 0 0) (.slice none 0 0) (.slice none 0 0) (.slice none 0 0)).length by rw [rpC_len rp0_L]; decide)
  go_wp2_with (first | (refine wpList_storeW rfl 24 _ _ rfl w.heap.size 0 (.int .i64 er) rfl rfl _ 32 W2.out LJ.out Try.sizeErr rfl rfl ?_; intro w3 hr3 hk3; refine Hid.out ?_))
  refine hid ?_
  have Q3 : PQ w0 w w3 g b R1 { rp0 with err := er } (.slice none 0 0) (.slice none 0 0) (.slice none 0 0) (.slice none 0 0) [] [] := Q2.put hr3 hk3 ⟨⟨z32_len, z32_len⟩, Q2.o.ov, Q2.o.orw, Q2.o.ol, Q2.o.oc⟩
  have c3 : w3.cell? ⟨w.heap.size, 0, none⟩ = some (.int .i64 er) := by rw [cell_of_row _ _ _ _ _ _ Q3.row]; rfl
  clear Q0 Q2 W2 LJ hr3 hk3 hK2 hk2 hb1
  replace he := he.out
  subst he
  have HF := hid (show True from trivial)
  subst ho
  have KT := hid (take_any w0 w3 g b R1 Q3.rk 32 (by omega))
  have hkl := tkV_len R1 32
  go_wp2_with fail
  refine KT.out.mono ?_
  rintro e w4 ⟨sb, so, cap, rfl, S3, hK4, hk4⟩
  have Q4 := Q3.call hK4 hk4
  have S3r := hid (src_rangeAt S3)
  have hat : ∀ w, (Instr.arrayAt 26 (.slice (some ⟨sb, so, none⟩) 32 cap)).run Try.prog w = .ok (.pointer (some ⟨sb, so, none⟩)) w := fun w => run_arrayAt w 26 5 32 (some ⟨sb, so, none⟩) 32 cap Try.underlying26 (Nat.le_refl _)
  have SK := hid (show (Try.prog.info? 26).map (·.size) = some (ints .u8 (tkV R1 32)).length by rw [ints_len, hkl]; exact Try.sizeDg)
  have SL := hid (show 5 + (ints .u8 (tkV R1 32)).length ≤ (rpC { rp0 with err := 0 } (.slice none 0 0) (.slice none 0 0) (.slice none 0 0) (.slice none 0 0)).length by rw [ints_len, hkl, rpC_len Q4.o.l]; decide)
  have W4 := hid Q4.row
  have HKL := hid hkl
  clear hkl S3 KT hK4 hk4
  go_wp2_with (first
    | (refine wpList_load_mid rfl 26 _ rfl sb so rfl (ints .u8 (tkV R1 32)) _ S3r.out Try.underlying26 rfl SK.out ?_)
    | (refine wpList_storeMidW rfl 26 _ _ rfl w.heap.size 5 (ints .u8 (tkV R1 32)) rfl rfl _ 32 W4.out SL.out SK.out (ints_one _ _) ?_; intro w5 hr5 hk5; refine Hid.out ?_))
  refine hid ?_
  rw [rpC_sum Q4.o.l _ HKL.out] at hr5
  have Q5 : PQ w0 w w5 g b _ { rp0 with sum := tkV R1 32 } (.slice none 0 0) (.slice none 0 0) (.slice none 0 0) (.slice none 0 0) [] [] := Q4.put hr5 hk5 ⟨⟨HKL.out, z32_len⟩, Q4.o.ov, Q4.o.orw, Q4.o.ol, Q4.o.oc⟩
  clear S3r hat SK SL W4 hr5 hk5
  have Z1 := hid Q5.row
  have Z2 := hid (show (Try.prog.info? 32).map (·.size) = some (rpC { rp0 with sum := tkV R1 32 } (.slice none 0 0) (.slice none 0 0) (.slice none 0 0) (.slice none 0 0)).toArray.size by rw [List.size_toArray, rpC_len Q5.o.l]; exact Try.sizeRep)
  have Z3 := hid (show (Try.prog.info? 32).map (·.size) = some (rpC { rp0 with sum := tkV R1 32 } (.slice none 0 0) (.slice none 0 0) (.slice none 0 0) (.slice none 0 0)).length by rw [rpC_len Q5.o.l]; exact Try.sizeRep)
  have Z4 := hid Q5.o.one
  go_wp2_with (first | (refine wpList_load_row rfl 32 _ rfl w.heap.size rfl 32 _ (0, 0) _ Z1.out Try.underlying32 rfl Z2.out ?_) | (refine wpList_storeRowW rfl 32 _ _ rfl w.heap.size (rpC { rp0 with sum := tkV R1 32 } (.slice none 0 0) (.slice none 0 0) (.slice none 0 0) (.slice none 0 0)) rfl rfl 32 _ Z1.out Z3.out rfl Z4.out ?_; intro wz hrz hkz))
  have QZ := Q5.put hrz hkz Q5.o
  exact bodyPost_ret (results_c1 Try.results26 _ _ w.heap.size 32 _ (0, 0) _ rfl hrz Try.underlying32 rfl Z2.out) rfl ⟨_, _, _, _, rfl, ⟨_, _, QZ.o, (by first | exact Or.inl ⟨rfl, rfl, rfl⟩ | exact Or.inr (Or.inl ⟨rfl, rfl, rfl⟩) | exact Or.inr (Or.inr (Or.inl ⟨rfl, rfl, rfl⟩)) | exact Or.inr (Or.inr (Or.inr ⟨rfl, rfl, rfl⟩))), DjM.nil, DjM.nil⟩, QZ.rk, QZ.kp⟩
end Go.Proofs.Ytenfklcgkfaajaa
namespace Go.Proofs.Ytenfklcgkfaajaa
set_option linter.unusedVariables false
set_option linter.unusedSimpArgs false
open Go.RowKit
attribute [local go_sem ↓] Go.wp_at_zero Go.wp_at_succ

set_option maxRecDepth 100000 in
set_option maxHeartbeats 4000000 in
theorem reply_4 (w0 w : World) (g b : Nat) (op : Int) (R : Rd) (hy : Bys R.rest) (h : RK w0 w g b R) (hl : R.rest.length ≤ 140737488351234) (he : nmV R 2 = 0) (ho : op = 4) :
    Calls Try.prog 26 #[.pointer (some ⟨g, 0, none⟩), .int .i64 op] w fun e w' => ∃ vv rv lv cv, e = .returned (.agg (rpC (rpP op R).1 vv rv lv cv).toArray) ∧ (∃ ml mc, RpO w' w.heap.size (rpP op R).1 vv rv lv cv ml mc ∧ Sd vv rv ml mc ∧ DjM ml ∧ DjM mc) ∧ RK w0 w' g b (rpP op R).2 ∧ Keeps g w w' := by
  have hg := h.lt
  have hb1 := (Below.refl w.heap.size w).alloc (Nat.le_refl _) (.cells (rpC rp0 (.slice none 0 0) (.slice none 0 0) (.slice none 0 0) (.slice none 0 0)).toArray 32)
  have Q0 : PQ w0 w (w.alloc (.cells (rpC rp0 (.slice none 0 0) (.slice none 0 0) (.slice none 0 0) (.slice none 0 0)).toArray 32)) g b R rp0 (.slice none 0 0) (.slice none 0 0) (.slice none 0 0) (.slice none 0 0) [] [] := ⟨h.keep (hb1.mono hg), hnew w _, RpO.zero _ _, Keeps.of_below hb1, hg⟩
  have KN := hid (number_any w0 _ g b R hy Q0.rk 2 (by omega))
  have y1 := tkS_bys hy 2
  have hl1 : (tkS R 2).rest.length ≤ 140737488351232 := by unfold tkS; split <;> simp <;> omega
  have HP := hid (show rpP op R = fdP op (tkS R 2) by unfold rpP; rw [if_pos he])
  rw [HP.out]
  clear HP
  generalize hx : nmV R 2 = er at *
  generalize hR1 : tkS R 2 = R1 at *
  clear hx hR1 h hy hl
  replace he := hid he
  go_enter Try.func26, Try.ntmps26
  go_wp2_with (first | (refine wpList_allocV allocRep rfl rfl ?_))
  refine KN.out.mono ?_
  clear KN
  generalize w.alloc (.cells (rpC rp0 (.slice none 0 0) (.slice none 0 0) (.slice none 0 0) (.slice none 0 0)).toArray 32) = w1 at *
  rintro e w2 ⟨rfl, hK2, hk2⟩
  have Q2 := Q0.call hK2 hk2
  have W2 := hid Q2.row
  have LJ := hid (show 0 < (rpC rp0 (.slice none 0 0) (.slice none 0 0) (.slice none 0 0) (.slice none 0 0)).length by rw [rpC_len rp0_L]; decide)
  go_wp2_with (first | (refine wpList_storeW rfl 24 _ _ rfl w.heap.size 0 (.int .i64 er) rfl rfl _ 32 W2.out LJ.out Try.sizeErr rfl rfl ?_; intro w3 hr3 hk3; refine Hid.out ?_))
  refine hid ?_
  have Q3 : PQ w0 w w3 g b R1 { rp0 with err := er } (.slice none 0 0) (.slice none 0 0) (.slice none 0 0) (.slice none 0 0) [] [] := Q2.put hr3 hk3 ⟨⟨z32_len, z32_len⟩, Q2.o.ov, Q2.o.orw, Q2.o.ol, Q2.o.oc⟩
  have c3 : w3.cell? ⟨w.heap.size, 0, none⟩ = some (.int .i64 er) := by rw [cell_of_row _ _ _ _ _ _ Q3.row]; rfl
  clear Q0 Q2 W2 LJ hr3 hk3 hK2 hk2 hb1
  replace he := he.out
  subst he
  have HF := hid (show True from trivial)
  subst ho
  obtain ⟨o3, cap3, hrr, hSS⟩ := Q3.rk.row
  have c4 : w3.cell? ⟨g, 0, none⟩ = some (.slice (some ⟨b, o3, none⟩) R1.rest.length cap3) := by rw [cell_of_row _ _ _ _ _ _ hrr]; rfl
  have i4 : (R1.rest.length : Int) ≤ 140737488351232 := by omega
  have KC := hid (copied_any w0 w3 g b R1 Q3.rk R1.rest.length hl1)
  clear hrr hSS
  go_wp2_with fail
  refine KC.out.mono ?_
  rintro e w4 ⟨v4, rfl, O4, hK4, hk4⟩
  have Q4 := Q3.call hK4 hk4
  have C4 := O4.cells
  have W5 := hid Q4.row
  have LJ5 := hid (Q4.o.lt (i := 37) (by decide))
  go_wp2_with (first | (refine wpList_storeW rfl 22 _ _ rfl w.heap.size 37 v4 rfl rfl _ 32 W5.out LJ5.out Try.sizeBy C4.1 C4.2 ?_; intro w5 hr5 hk5; refine Hid.out ?_))
  refine hid ?_
  rw [rpC_raw Q4.o.l] at hr5
  have Q5 : PQ w0 w w5 g b _ { rp0 with raw := tkV R1 R1.rest.length } (.slice none 0 0) v4 (.slice none 0 0) (.slice none 0 0) [] [] := Q4.put hr5 hk5 ⟨⟨z32_len, z32_len⟩, Q4.o.ov, own_lower O4 Q3.kp.size, Q4.o.ol, Q4.o.oc⟩
  clear W5 LJ5 hr5 hk5
  have Z1 := hid Q5.row
  have Z2 := hid (show (Try.prog.info? 32).map (·.size) = some (rpC { rp0 with raw := tkV R1 R1.rest.length } (.slice none 0 0) v4 (.slice none 0 0) (.slice none 0 0)).toArray.size by rw [List.size_toArray, rpC_len Q5.o.l]; exact Try.sizeRep)
  have Z3 := hid (show (Try.prog.info? 32).map (·.size) = some (rpC { rp0 with raw := tkV R1 R1.rest.length } (.slice none 0 0) v4 (.slice none 0 0) (.slice none 0 0)).length by rw [rpC_len Q5.o.l]; exact Try.sizeRep)
  have Z4 := hid Q5.o.one
  go_wp2_with (first | (refine wpList_load_row rfl 32 _ rfl w.heap.size rfl 32 _ (0, 0) _ Z1.out Try.underlying32 rfl Z2.out ?_) | (refine wpList_storeRowW rfl 32 _ _ rfl w.heap.size (rpC { rp0 with raw := tkV R1 R1.rest.length } (.slice none 0 0) v4 (.slice none 0 0) (.slice none 0 0)) rfl rfl 32 _ Z1.out Z3.out rfl Z4.out ?_; intro wz hrz hkz))
  have QZ := Q5.put hrz hkz Q5.o
  exact bodyPost_ret (results_c1 Try.results26 _ _ w.heap.size 32 _ (0, 0) _ rfl hrz Try.underlying32 rfl Z2.out) rfl ⟨_, _, _, _, rfl, ⟨_, _, QZ.o, (by first | exact Or.inl ⟨rfl, rfl, rfl⟩ | exact Or.inr (Or.inl ⟨rfl, rfl, rfl⟩) | exact Or.inr (Or.inr (Or.inl ⟨rfl, rfl, rfl⟩)) | exact Or.inr (Or.inr (Or.inr ⟨rfl, rfl, rfl⟩))), DjM.nil, DjM.nil⟩, QZ.rk, QZ.kp⟩
end Go.Proofs.Ytenfklcgkfaajaa
