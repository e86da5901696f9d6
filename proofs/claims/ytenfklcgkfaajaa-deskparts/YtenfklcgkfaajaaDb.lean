import Derived.Test.YtenfklcgkfaajaaDk26
namespace Go.Proofs.Ytenfklcgkfaajaa
set_option linter.unusedVariables false
set_option linter.unusedSimpArgs false
open Go.RowKit
attribute [local go_sem ↓] Go.wp_at_zero Go.wp_at_succ

set_option maxRecDepth 100000 in
set_option maxHeartbeats 4000000 in
theorem reply_5 (w0 w : World) (g b : Nat) (op : Int) (R : Rd) (hy : Bys R.rest) (h : RK w0 w g b R) (hl : R.rest.length ≤ 140737488351234) (he : nmV R 2 = 0) (ho : op = 5) :
    Calls Try.prog 26 #[.pointer (some ⟨g, 0, none⟩), .int .i64 op] w fun e w' => ∃ vv rv lv cv, e = .returned (.agg (rpC (rpP op R).1 vv rv lv cv).toArray) ∧ (∃ ml mc, RpO w' w.heap.size (rpP op R).1 vv rv lv cv ml mc ∧ Sd vv rv ml mc ∧ DjM ml ∧ DjM mc) ∧ RK w0 w' g b (rpP op R).2 ∧ Keeps g w w' := by
  have hg := h.lt
  have hb1 := (Below.refl w.heap.size w).alloc (Nat.le_refl _) (.cells (rpC rp0 (.slice none 0 0) (.slice none 0 0) (.slice none 0 0) (.slice none 0 0)).toArray 32)
  have Q0 : PQ w0 w (w.alloc (.cells (rpC rp0 (.slice none 0 0) (.slice none 0 0) (.slice none 0 0) (.slice none 0 0)).toArray 32)) g b R rp0 (.slice none 0 0) (.slice none 0 0) (.slice none 0 0) (.slice none 0 0) [] [] := ⟨h.keep (hb1.mono hg), hnew w _, RpO.zero _ _, Keeps.of_below hb1, hg⟩
  have KN := hid (number_any w0 _ g b R hy Q0.rk 2 (by omega))
  have y1 := tkS_bys hy 2
  have hl1 : (tkS R 2).rest.length ≤ 140737488351232 := by unfold tkS; split <;> simp <;> omega
  have HP := hid (show rpP op R = fdP op (tkS R 2) by unfold rpP; rw [if_pos he])
  rw [HP.out]
  clear HP
  generalize hx : nmV R 2 = er at *
  generalize hR1 : tkS R 2 = R1 at *
  clear hx hR1 h hy hl
  replace he := hid he
  go_enter Try.func26, Try.ntmps26
  go_wp2_with (first | (refine wpList_allocV allocRep rfl rfl ?_))
  refine KN.out.mono ?_
  clear KN
  generalize w.alloc (.cells (rpC rp0 (.slice none 0 0) (.slice none 0 0) (.slice none 0 0) (.slice none 0 0)).toArray 32) = w1 at *
  rintro e w2 ⟨rfl, hK2, hk2⟩
  have Q2 := Q0.call hK2 hk2
  have W2 := hid Q2.row
  have LJ := hid (show 0 < (rpC rp0 (.slice none 0 0) (.slice none 0 0) (.slice none 0 0) (.slice none 0 0)).length by rw [rpC_len rp0_L]; decide)
  go_wp2_with (first | (refine wpList_storeW rfl 24 _ _ rfl w.heap.size 0 (.int .i64 er) rfl rfl _ 32 W2.out LJ.out Try.sizeErr rfl rfl ?_; intro w3 hr3 hk3; refine Hid.out ?_))
  refine hid ?_
  have Q3 : PQ w0 w w3 g b R1 { rp0 with err := er } (.slice none 0 0) (.slice none 0 0) (.slice none 0 0) (.slice none 0 0) [] [] := Q2.put hr3 hk3 ⟨⟨z32_len, z32_len⟩, Q2.o.ov, Q2.o.orw, Q2.o.ol, Q2.o.oc⟩
  have c3 : w3.cell? ⟨w.heap.size, 0, none⟩ = some (.int .i64 er) := by rw [cell_of_row _ _ _ _ _ _ Q3.row]; rfl
  clear Q0 Q2 W2 LJ hr3 hk3 hK2 hk2 hb1
  replace he := he.out
  subst he
  have HF := hid (show True from trivial)
  subst ho
  obtain ⟨o3, cap3, hrr, hSS⟩ := Q3.rk.row
  have c4 : w3.cell? ⟨g, 0, none⟩ = some (.slice (some ⟨b, o3, none⟩) R1.rest.length cap3) := by rw [cell_of_row _ _ _ _ _ _ hrr]; rfl
  have i4 : (R1.rest.length : Int) ≤ 140737488351232 := by omega
  have KC := hid (copied_any w0 w3 g b R1 Q3.rk R1.rest.length hl1)
  clear hrr hSS
  go_wp2_with fail
  refine KC.out.mono ?_
  rintro e w4 ⟨v4, rfl, O4, hK4, hk4⟩
  have Q4 := Q3.call hK4 hk4
  have C4 := O4.cells
  have W5 := hid Q4.row
  have LJ5 := hid (Q4.o.lt (i := 37) (by decide))
  go_wp2_with (first | (refine wpList_storeW rfl 22 _ _ rfl w.heap.size 37 v4 rfl rfl _ 32 W5.out LJ5.out Try.sizeBy C4.1 C4.2 ?_; intro w5 hr5 hk5; refine Hid.out ?_))
  refine hid ?_
  rw [rpC_raw Q4.o.l] at hr5
  have Q5 : PQ w0 w w5 g b _ { rp0 with raw := tkV R1 R1.rest.length } (.slice none 0 0) v4 (.slice none 0 0) (.slice none 0 0) [] [] := Q4.put hr5 hk5 ⟨⟨z32_len, z32_len⟩, Q4.o.ov, own_lower O4 Q3.kp.size, Q4.o.ol, Q4.o.oc⟩
  clear W5 LJ5 hr5 hk5
  have Z1 := hid Q5.row
  have Z2 := hid (show (Try.prog.info? 32).map (·.size) = some (rpC { rp0 with raw := tkV R1 R1.rest.length } (.slice none 0 0) v4 (.slice none 0 0) (.slice none 0 0)).toArray.size by rw [List.size_toArray, rpC_len Q5.o.l]; exact Try.sizeRep)
  have Z3 := hid (show (Try.prog.info? 32).map (·.size) = some (rpC { rp0 with raw := tkV R1 R1.rest.length } (.slice none 0 0) v4 (.slice none 0 0) (.slice none 0 0)).length by rw [rpC_len Q5.o.l]; exact Try.sizeRep)
  have Z4 := hid Q5.o.one
  go_wp2_with (first | (refine wpList_load_row rfl 32 _ rfl w.heap.size rfl 32 _ (0, 0) _ Z1.out Try.underlying32 rfl Z2.out ?_) | (refine wpList_storeRowW rfl 32 _ _ rfl w.heap.size (rpC { rp0 with raw := tkV R1 R1.rest.length } (.slice none 0 0) v4 (.slice none 0 0) (.slice none 0 0)) rfl rfl 32 _ Z1.out Z3.out rfl Z4.out ?_; intro wz hrz hkz))
  have QZ := Q5.put hrz hkz Q5.o
  exact bodyPost_ret (results_c1 Try.results26 _ _ w.heap.size 32 _ (0, 0) _ rfl hrz Try.underlying32 rfl Z2.out) rfl ⟨_, _, _, _, rfl, ⟨_, _, QZ.o, (by first | exact Or.inl ⟨rfl, rfl, rfl⟩ | exact Or.inr (Or.inl ⟨rfl, rfl, rfl⟩) | exact Or.inr (Or.inr (Or.inl ⟨rfl, rfl, rfl⟩)) | exact Or.inr (Or.inr (Or.inr ⟨rfl, rfl, rfl⟩))), DjM.nil, DjM.nil⟩, QZ.rk, QZ.kp⟩
end Go.Proofs.Ytenfklcgkfaajaa
namespace Go.Proofs.Ytenfklcgkfaajaa
set_option linter.unusedVariables false
set_option linter.unusedSimpArgs false
open Go.RowKit
attribute [local go_sem ↓] Go.wp_at_zero Go.wp_at_succ

set_option maxRecDepth 100000 in
set_option maxHeartbeats 4000000 in
theorem reply_6 (w0 w : World) (g b : Nat) (op : Int) (R : Rd) (hy : Bys R.rest) (h : RK w0 w g b R) (hl : R.rest.length ≤ 140737488351234) (he : nmV R 2 = 0) (ho : op = 6) :
    Calls Try.prog 26 #[.pointer (some ⟨g, 0, none⟩), .int .i64 op] w fun e w' => ∃ vv rv lv cv, e = .returned (.agg (rpC (rpP op R).1 vv rv lv cv).toArray) ∧ (∃ ml mc, RpO w' w.heap.size (rpP op R).1 vv rv lv cv ml mc ∧ Sd vv rv ml mc ∧ DjM ml ∧ DjM mc) ∧ RK w0 w' g b (rpP op R).2 ∧ Keeps g w w' := by
  have hg := h.lt
  have hb1 := (Below.refl w.heap.size w).alloc (Nat.le_refl _) (.cells (rpC rp0 (.slice none 0 0) (.slice none 0 0) (.slice none 0 0) (.slice none 0 0)).toArray 32)
  have Q0 : PQ w0 w (w.alloc (.cells (rpC rp0 (.slice none 0 0) (.slice none 0 0) (.slice none 0 0) (.slice none 0 0)).toArray 32)) g b R rp0 (.slice none 0 0) (.slice none 0 0) (.slice none 0 0) (.slice none 0 0) [] [] := ⟨h.keep (hb1.mono hg), hnew w _, RpO.zero _ _, Keeps.of_below hb1, hg⟩
  have KN := hid (number_any w0 _ g b R hy Q0.rk 2 (by omega))
  have y1 := tkS_bys hy 2
  have hl1 : (tkS R 2).rest.length ≤ 140737488351232 := by unfold tkS; split <;> simp <;> omega
  have HP := hid (show rpP op R = fdP op (tkS R 2) by unfold rpP; rw [if_pos he])
  rw [HP.out]
  clear HP
  generalize hx : nmV R 2 = er at *
  generalize hR1 : tkS R 2 = R1 at *
  clear hx hR1 h hy hl
  replace he := hid he
  go_enter Try.func26, Try.ntmps26
  go_wp2_with (first | (refine wpList_allocV allocRep rfl rfl ?_))
  refine KN.out.mono ?_
  clear KN
  generalize w.alloc (.cells (rpC rp0 (.slice none 0 0) (.slice none 0 0) (.slice none 0 0) (.slice none 0 0)).toArray 32) = w1 at *
  rintro e w2 ⟨rfl, hK2, hk2⟩
  have Q2 := Q0.call hK2 hk2
  have W2 := hid Q2.row
  have LJ := hid (show 0 < (rpC rp0 (.slice none 0 0) (.slice none 0 0) (.slice none 0 0) (.slice none 0 0)).length by rw [rpC_len rp0_L]; decide)
  go_wp2_with (first | (refine wpList_storeW rfl 24 _ _ rfl w.heap.size 0 (.int .i64 er) rfl rfl _ 32 W2.out LJ.out Try.sizeErr rfl rfl ?_; intro w3 hr3 hk3; refine Hid.out ?_))
  refine hid ?_
  have Q3 : PQ w0 w w3 g b R1 { rp0 with err := er } (.slice none 0 0) (.slice none 0 0) (.slice none 0 0) (.slice none 0 0) [] [] := Q2.put hr3 hk3 ⟨⟨z32_len, z32_len⟩, Q2.o.ov, Q2.o.orw, Q2.o.ol, Q2.o.oc⟩
  have c3 : w3.cell? ⟨w.heap.size, 0, none⟩ = some (.int .i64 er) := by rw [cell_of_row _ _ _ _ _ _ Q3.row]; rfl
  clear Q0 Q2 W2 LJ hr3 hk3 hK2 hk2 hb1
  replace he := he.out
  subst he
  have HF := hid (show True from trivial)
  subst ho
  have KF := hid (flag_any w0 w3 g b R1 y1 Q3.rk)
  have y2 := flS_bys y1
  go_wp2_with fail
  refine KF.out.mono ?_
  rintro e w4 ⟨rfl, hK4, hk4⟩
  have Q4 := Q3.call hK4 hk4
  have W5 := hid Q4.row
  have LJ5 := hid (Q4.o.lt (i := 3) (by decide))
  go_wp2_with (first | (refine wpList_storeW rfl 4 _ _ rfl w.heap.size 3 (.bool (flV R1)) rfl rfl _ 32 W5.out LJ5.out Try.sizeBool rfl rfl ?_; intro w5 hr5 hk5; refine Hid.out ?_))
  refine hid ?_
  have Q5 : PQ w0 w w5 g b _ { rp0 with more := flV R1 } (.slice none 0 0) (.slice none 0 0) (.slice none 0 0) (.slice none 0 0) [] [] := Q4.put hr5 hk5 ⟨⟨z32_len, z32_len⟩, Q4.o.ov, Q4.o.orw, Q4.o.ol, Q4.o.oc⟩
  clear W5 LJ5 hr5 hk5
  have KL := hid (list_any w0 w5 g b (flS R1) y2 Q5.rk)
  go_wp2_with fail
  refine KL.out.mono ?_
  rintro e w6 ⟨v6, m6, rfl, E6, hK6, hk6, DJ6⟩
  replace DJ6 := hid DJ6
  have Q6 := Q5.call hK6 hk6
  have C6 := E6.own.cells
  have W7 := hid Q6.row
  have LJ7 := hid (Q6.o.lt (i := 38) (by decide))
  go_wp2_with (first | (refine wpList_storeW rfl 27 _ _ rfl w.heap.size 38 v6 rfl rfl _ 32 W7.out LJ7.out Try.sizeEs C6.1 C6.2 ?_; intro w7 hr7 hk7; refine Hid.out ?_))
  refine hid ?_
  rw [rpC_list Q6.o.l] at hr7
  have Q7 : PQ w0 w w7 g b _ { rp0 with more := flV R1, list := (lsP false (flS R1)).1 } (.slice none 0 0) (.slice none 0 0) v6 (.slice none 0 0) m6 [] := Q6.put hr7 hk7 ⟨⟨z32_len, z32_len⟩, Q6.o.ov, Q6.o.orw, E6.lower Q5.kp.size, Q6.o.oc⟩
  clear W7 LJ7 hr7 hk7
  have Z1 := hid Q7.row
  have Z2 := hid (show (Try.prog.info? 32).map (·.size) = some (rpC { rp0 with more := flV R1, list := (lsP false (flS R1)).1 } (.slice none 0 0) (.slice none 0 0) v6 (.slice none 0 0)).toArray.size by rw [List.size_toArray, rpC_len Q7.o.l]; exact Try.sizeRep)
  have Z3 := hid (show (Try.prog.info? 32).map (·.size) = some (rpC { rp0 with more := flV R1, list := (lsP false (flS R1)).1 } (.slice none 0 0) (.slice none 0 0) v6 (.slice none 0 0)).length by rw [rpC_len Q7.o.l]; exact Try.sizeRep)
  have Z4 := hid Q7.o.one
  go_wp2_with (first | (refine wpList_load_row rfl 32 _ rfl w.heap.size rfl 32 _ (0, 0) _ Z1.out Try.underlying32 rfl Z2.out ?_) | (refine wpList_storeRowW rfl 32 _ _ rfl w.heap.size (rpC { rp0 with more := flV R1, list := (lsP false (flS R1)).1 } (.slice none 0 0) (.slice none 0 0) v6 (.slice none 0 0)) rfl rfl 32 _ Z1.out Z3.out rfl Z4.out ?_; intro wz hrz hkz))
  have QZ := Q7.put hrz hkz Q7.o
  exact bodyPost_ret (results_c1 Try.results26 _ _ w.heap.size 32 _ (0, 0) _ rfl hrz Try.underlying32 rfl Z2.out) rfl ⟨_, _, _, _, rfl, ⟨_, _, QZ.o, (by first | exact Or.inl ⟨rfl, rfl, rfl⟩ | exact Or.inr (Or.inl ⟨rfl, rfl, rfl⟩) | exact Or.inr (Or.inr (Or.inl ⟨rfl, rfl, rfl⟩)) | exact Or.inr (Or.inr (Or.inr ⟨rfl, rfl, rfl⟩))), DJ6.out, DjM.nil⟩, QZ.rk, QZ.kp⟩
end Go.Proofs.Ytenfklcgkfaajaa
namespace Go.Proofs.Ytenfklcgkfaajaa
set_option linter.unusedVariables false
set_option linter.unusedSimpArgs false
open Go.RowKit
attribute [local go_sem ↓] Go.wp_at_zero Go.wp_at_succ

set_option maxRecDepth 100000 in
set_option maxHeartbeats 4000000 in
theorem reply_7 (w0 w : World) (g b : Nat) (op : Int) (R : Rd) (hy : Bys R.rest) (h : RK w0 w g b R) (hl : R.rest.length ≤ 140737488351234) (he : nmV R 2 = 0) (ho : op = 7) :
    Calls Try.prog 26 #[.pointer (some ⟨g, 0, none⟩), .int .i64 op] w fun e w' => ∃ vv rv lv cv, e = .returned (.agg (rpC (rpP op R).1 vv rv lv cv).toArray) ∧ (∃ ml mc, RpO w' w.heap.size (rpP op R).1 vv rv lv cv ml mc ∧ Sd vv rv ml mc ∧ DjM ml ∧ DjM mc) ∧ RK w0 w' g b (rpP op R).2 ∧ Keeps g w w' := by
  have hg := h.lt
  have hb1 := (Below.refl w.heap.size w).alloc (Nat.le_refl _) (.cells (rpC rp0 (.slice none 0 0) (.slice none 0 0) (.slice none 0 0) (.slice none 0 0)).toArray 32)
  have Q0 : PQ w0 w (w.alloc (.cells (rpC rp0 (.slice none 0 0) (.slice none 0 0) (.slice none 0 0) (.slice none 0 0)).toArray 32)) g b R rp0 (.slice none 0 0) (.slice none 0 0) (.slice none 0 0) (.slice none 0 0) [] [] := ⟨h.keep (hb1.mono hg), hnew w _, RpO.zero _ _, Keeps.of_below hb1, hg⟩
  have KN := hid (number_any w0 _ g b R hy Q0.rk 2 (by omega))
  have y1 := tkS_bys hy 2
  have hl1 : (tkS R 2).rest.length ≤ 140737488351232 := by unfold tkS; split <;> simp <;> omega
  have HP := hid (show rpP op R = fdP op (tkS R 2) by unfold rpP; rw [if_pos he])
  rw [HP.out]
  clear HP
  generalize hx : nmV R 2 = er at *
  generalize hR1 : tkS R 2 = R1 at *
  clear hx hR1 h hy hl
  replace he := hid he
  go_enter Try.func26, Try.ntmps26
  go_wp2_with (first | (refine wpList_allocV allocRep rfl rfl ?_))
  refine KN.out.mono ?_
  clear KN
  generalize w.alloc (.cells (rpC rp0 (.slice none 0 0) (.slice none 0 0) (.slice none 0 0) (.slice none 0 0)).toArray 32) = w1 at *
  rintro e w2 ⟨rfl, hK2, hk2⟩
  have Q2 := Q0.call hK2 hk2
  have W2 := hid Q2.row
  have LJ := hid (show 0 < (rpC rp0 (.slice none 0 0) (.slice none 0 0) (.slice none 0 0) (.slice none 0 0)).length by rw [rpC_len rp0_L]; decide)
  go_wp2_with (first | (refine wpList_storeW rfl 24 _ _ rfl w.heap.size 0 (.int .i64 er) rfl rfl _ 32 W2.out LJ.out Try.sizeErr rfl rfl ?_; intro w3 hr3 hk3; refine Hid.out ?_))
  refine hid ?_
  have Q3 : PQ w0 w w3 g b R1 { rp0 with err := er } (.slice none 0 0) (.slice none 0 0) (.slice none 0 0) (.slice none 0 0) [] [] := Q2.put hr3 hk3 ⟨⟨z32_len, z32_len⟩, Q2.o.ov, Q2.o.orw, Q2.o.ol, Q2.o.oc⟩
  have c3 : w3.cell? ⟨w.heap.size, 0, none⟩ = some (.int .i64 er) := by rw [cell_of_row _ _ _ _ _ _ Q3.row]; rfl
  clear Q0 Q2 W2 LJ hr3 hk3 hK2 hk2 hb1
  replace he := he.out
  subst he
  have HF := hid (show True from trivial)
  subst ho
  have KL := hid (changes_any w0 w3 g b R1 y1 Q3.rk)
  go_wp2_with fail
  refine KL.out.mono ?_
  rintro e w6 ⟨v6, m6, rfl, E6, hK6, hk6, DJ6⟩
  replace DJ6 := hid DJ6
  have Q6 := Q3.call hK6 hk6
  have C6 := E6.own.cells
  have W7 := hid Q6.row
  have LJ7 := hid (Q6.o.lt (i := 39) (by decide))
  go_wp2_with (first | (refine wpList_storeW rfl 28 _ _ rfl w.heap.size 39 v6 rfl rfl _ 32 W7.out LJ7.out Try.sizeCs C6.1 C6.2 ?_; intro w7 hr7 hk7; refine Hid.out ?_))
  refine hid ?_
  rw [rpC_chs Q6.o.l] at hr7
  have Q7 : PQ w0 w w7 g b _ { rp0 with chs := (lsP true R1).1 } (.slice none 0 0) (.slice none 0 0) (.slice none 0 0) v6 [] m6 := Q6.put hr7 hk7 ⟨⟨z32_len, z32_len⟩, Q6.o.ov, Q6.o.orw, Q6.o.ol, E6.lower Q3.kp.size⟩
  clear W7 LJ7 hr7 hk7
  have Z1 := hid Q7.row
  have Z2 := hid (show (Try.prog.info? 32).map (·.size) = some (rpC { rp0 with chs := (lsP true R1).1 } (.slice none 0 0) (.slice none 0 0) (.slice none 0 0) v6).toArray.size by rw [List.size_toArray, rpC_len Q7.o.l]; exact Try.sizeRep)
  have Z3 := hid (show (Try.prog.info? 32).map (·.size) = some (rpC { rp0 with chs := (lsP true R1).1 } (.slice none 0 0) (.slice none 0 0) (.slice none 0 0) v6).length by rw [rpC_len Q7.o.l]; exact Try.sizeRep)
  have Z4 := hid Q7.o.one
  go_wp2_with (first | (refine wpList_load_row rfl 32 _ rfl w.heap.size rfl 32 _ (0, 0) _ Z1.out Try.underlying32 rfl Z2.out ?_) | (refine wpList_storeRowW rfl 32 _ _ rfl w.heap.size (rpC { rp0 with chs := (lsP true R1).1 } (.slice none 0 0) (.slice none 0 0) (.slice none 0 0) v6) rfl rfl 32 _ Z1.out Z3.out rfl Z4.out ?_; intro wz hrz hkz))
  have QZ := Q7.put hrz hkz Q7.o
  exact bodyPost_ret (results_c1 Try.results26 _ _ w.heap.size 32 _ (0, 0) _ rfl hrz Try.underlying32 rfl Z2.out) rfl ⟨_, _, _, _, rfl, ⟨_, _, QZ.o, (by first | exact Or.inl ⟨rfl, rfl, rfl⟩ | exact Or.inr (Or.inl ⟨rfl, rfl, rfl⟩) | exact Or.inr (Or.inr (Or.inl ⟨rfl, rfl, rfl⟩)) | exact Or.inr (Or.inr (Or.inr ⟨rfl, rfl, rfl⟩))), DjM.nil, DJ6.out⟩, QZ.rk, QZ.kp⟩
end Go.Proofs.Ytenfklcgkfaajaa
namespace Go.Proofs.Ytenfklcgkfaajaa
set_option linter.unusedVariables false
set_option linter.unusedSimpArgs false
open Go.RowKit
attribute [local go_sem ↓] Go.wp_at_zero Go.wp_at_succ

set_option maxRecDepth 100000 in
set_option maxHeartbeats 4000000 in
theorem reply_8 (w0 w : World) (g b : Nat) (op : Int) (R : Rd) (hy : Bys R.rest) (h : RK w0 w g b R) (hl : R.rest.length ≤ 140737488351234) (he : nmV R 2 = 0) (ho : op = 8) :
    Calls Try.prog 26 #[.pointer (some ⟨g, 0, none⟩), .int .i64 op] w fun e w' => ∃ vv rv lv cv, e = .returned (.agg (rpC (rpP op R).1 vv rv lv cv).toArray) ∧ (∃ ml mc, RpO w' w.heap.size (rpP op R).1 vv rv lv cv ml mc ∧ Sd vv rv ml mc ∧ DjM ml ∧ DjM mc) ∧ RK w0 w' g b (rpP op R).2 ∧ Keeps g w w' := by
  have hg := h.lt
  have hb1 := (Below.refl w.heap.size w).alloc (Nat.le_refl _) (.cells (rpC rp0 (.slice none 0 0) (.slice none 0 0) (.slice none 0 0) (.slice none 0 0)).toArray 32)
  have Q0 : PQ w0 w (w.alloc (.cells (rpC rp0 (.slice none 0 0) (.slice none 0 0) (.slice none 0 0) (.slice none 0 0)).toArray 32)) g b R rp0 (.slice none 0 0) (.slice none 0 0) (.slice none 0 0) (.slice none 0 0) [] [] := ⟨h.keep (hb1.mono hg), hnew w _, RpO.zero _ _, Keeps.of_below hb1, hg⟩
  have KN := hid (number_any w0 _ g b R hy Q0.rk 2 (by omega))
  have y1 := tkS_bys hy 2
  have hl1 : (tkS R 2).rest.length ≤ 140737488351232 := by unfold tkS; split <;> simp <;> omega
  have HP := hid (show rpP op R = ({ rp0 with info := inV (tkS R 2) }, inS (tkS R 2)) by unfold rpP; rw [if_pos he, ho]; rfl)
  rw [HP.out]
  clear HP
  generalize hx : nmV R 2 = er at *
  generalize hR1 : tkS R 2 = R1 at *
  have KI := hid (fun (wc : World) (h : RK w0 wc g b R1) => info_any w0 wc g b R1 y1 h)
  generalize inV R1 = iv at *
  generalize inS R1 = R9 at *
  clear hx hR1 h hy hl
  replace he := hid he
  go_enter Try.func26, Try.ntmps26
  go_wp2_with (first | (refine wpList_allocV allocRep rfl rfl ?_))
  refine KN.out.mono ?_
  clear KN
  generalize w.alloc (.cells (rpC rp0 (.slice none 0 0) (.slice none 0 0) (.slice none 0 0) (.slice none 0 0)).toArray 32) = w1 at *
  rintro e w2 ⟨rfl, hK2, hk2⟩
  have Q2 := Q0.call hK2 hk2
  have W2 := hid Q2.row
  have LJ := hid (show 0 < (rpC rp0 (.slice none 0 0) (.slice none 0 0) (.slice none 0 0) (.slice none 0 0)).length by rw [rpC_len rp0_L]; decide)
  go_wp2_with (first | (refine wpList_storeW rfl 24 _ _ rfl w.heap.size 0 (.int .i64 er) rfl rfl _ 32 W2.out LJ.out Try.sizeErr rfl rfl ?_; intro w3 hr3 hk3; refine Hid.out ?_))
  refine hid ?_
  have Q3 : PQ w0 w w3 g b R1 { rp0 with err := er } (.slice none 0 0) (.slice none 0 0) (.slice none 0 0) (.slice none 0 0) [] [] := Q2.put hr3 hk3 ⟨⟨z32_len, z32_len⟩, Q2.o.ov, Q2.o.orw, Q2.o.ol, Q2.o.oc⟩
  have c3 : w3.cell? ⟨w.heap.size, 0, none⟩ = some (.int .i64 er) := by rw [cell_of_row _ _ _ _ _ _ Q3.row]; rfl
  clear Q0 Q2 W2 LJ hr3 hk3 hK2 hk2 hb1
  replace he := he.out
  subst he
  subst ho
  go_wp2_with fail
  refine (KI.out w3 Q3.rk).mono ?_
  rintro e w4 ⟨rfl, hil, hK4, hk4⟩
  have Q4 := Q3.call hK4 hk4
  have SK := hid (show (Try.prog.info? 30).map (·.size) = some (inC iv).length by rw [inC_len hil]; exact Try.sizeInf)
  have SL := hid (show 40 + (inC iv).length ≤ (rpC { rp0 with err := 0 } (.slice none 0 0) (.slice none 0 0) (.slice none 0 0) (.slice none 0 0)).length by rw [inC_len hil, rpC_len Q4.o.l]; decide)
  have W4 := hid Q4.row
  clear hK4 hk4 KI
  go_wp2_with (first
    | (refine wpList_storeMidW rfl 30 _ _ rfl w.heap.size 40 (inC iv) rfl rfl _ 32 W4.out SL.out SK.out (inC_one _) ?_; intro w5 hr5 hk5; refine Hid.out ?_))
  refine hid ?_
  rw [rpC_info Q4.o.l _ hil] at hr5
  have Q5 : PQ w0 w w5 g b _ { rp0 with info := iv } (.slice none 0 0) (.slice none 0 0) (.slice none 0 0) (.slice none 0 0) [] [] := Q4.put hr5 hk5 ⟨⟨z32_len, hil⟩, Q4.o.ov, Q4.o.orw, Q4.o.ol, Q4.o.oc⟩
  clear SK SL W4 hr5 hk5
  have Z1 := hid Q5.row
  have Z2 := hid (show (Try.prog.info? 32).map (·.size) = some (rpC { rp0 with info := iv } (.slice none 0 0) (.slice none 0 0) (.slice none 0 0) (.slice none 0 0)).toArray.size by rw [List.size_toArray, rpC_len Q5.o.l]; exact Try.sizeRep)
  have Z3 := hid (show (Try.prog.info? 32).map (·.size) = some (rpC { rp0 with info := iv } (.slice none 0 0) (.slice none 0 0) (.slice none 0 0) (.slice none 0 0)).length by rw [rpC_len Q5.o.l]; exact Try.sizeRep)
  have Z4 := hid Q5.o.one
  go_wp2_with (first | (refine wpList_load_row rfl 32 _ rfl w.heap.size rfl 32 _ (0, 0) _ Z1.out Try.underlying32 rfl Z2.out ?_) | (refine wpList_storeRowW rfl 32 _ _ rfl w.heap.size (rpC { rp0 with info := iv } (.slice none 0 0) (.slice none 0 0) (.slice none 0 0) (.slice none 0 0)) rfl rfl 32 _ Z1.out Z3.out rfl Z4.out ?_; intro wz hrz hkz))
  have QZ := Q5.put hrz hkz Q5.o
  exact bodyPost_ret (results_c1 Try.results26 _ _ w.heap.size 32 _ (0, 0) _ rfl hrz Try.underlying32 rfl Z2.out) rfl ⟨_, _, _, _, rfl, ⟨_, _, QZ.o, (by first | exact Or.inl ⟨rfl, rfl, rfl⟩ | exact Or.inr (Or.inl ⟨rfl, rfl, rfl⟩) | exact Or.inr (Or.inr (Or.inl ⟨rfl, rfl, rfl⟩)) | exact Or.inr (Or.inr (Or.inr ⟨rfl, rfl, rfl⟩))), DjM.nil, DjM.nil⟩, QZ.rk, QZ.kp⟩
end Go.Proofs.Ytenfklcgkfaajaa
namespace Go.Proofs.Ytenfklcgkfaajaa
set_option linter.unusedVariables false
set_option linter.unusedSimpArgs false
open Go.RowKit
attribute [local go_sem ↓] Go.wp_at_zero Go.wp_at_succ

set_option maxRecDepth 100000 in
set_option maxHeartbeats 4000000 in
theorem reply_0 (w0 w : World) (g b : Nat) (op : Int) (R : Rd) (hy : Bys R.rest) (h : RK w0 w g b R) (hl : R.rest.length ≤ 140737488351234) (he : nmV R 2 = 0) (ho : ¬ (1 ≤ op ∧ op ≤ 8)) :
    Calls Try.prog 26 #[.pointer (some ⟨g, 0, none⟩), .int .i64 op] w fun e w' => ∃ vv rv lv cv, e = .returned (.agg (rpC (rpP op R).1 vv rv lv cv).toArray) ∧ (∃ ml mc, RpO w' w.heap.size (rpP op R).1 vv rv lv cv ml mc ∧ Sd vv rv ml mc ∧ DjM ml ∧ DjM mc) ∧ RK w0 w' g b (rpP op R).2 ∧ Keeps g w w' := by
  have hg := h.lt
  have hb1 := (Below.refl w.heap.size w).alloc (Nat.le_refl _) (.cells (rpC rp0 (.slice none 0 0) (.slice none 0 0) (.slice none 0 0) (.slice none 0 0)).toArray 32)
  have Q0 : PQ w0 w (w.alloc (.cells (rpC rp0 (.slice none 0 0) (.slice none 0 0) (.slice none 0 0) (.slice none 0 0)).toArray 32)) g b R rp0 (.slice none 0 0) (.slice none 0 0) (.slice none 0 0) (.slice none 0 0) [] [] := ⟨h.keep (hb1.mono hg), hnew w _, RpO.zero _ _, Keeps.of_below hb1, hg⟩
  have KN := hid (number_any w0 _ g b R hy Q0.rk 2 (by omega))
  have y1 := tkS_bys hy 2
  have hl1 : (tkS R 2).rest.length ≤ 140737488351232 := by unfold tkS; split <;> simp <;> omega
  have HP := hid (show rpP op R = (rp0, tkS R 2) by unfold rpP; rw [if_pos he]; unfold fdP; rw [if_neg (by omega), if_neg (by omega), if_neg (by omega), if_neg (by omega), if_neg (by omega), if_neg (by omega), if_neg (by omega)])
  rw [HP.out]
  clear HP
  generalize hx : nmV R 2 = er at *
  generalize hR1 : tkS R 2 = R1 at *
  clear hx hR1 h hy hl
  replace he := hid he
  go_enter Try.func26, Try.ntmps26
  go_wp2_with (first | (refine wpList_allocV allocRep rfl rfl ?_))
  refine KN.out.mono ?_
  clear KN
  generalize w.alloc (.cells (rpC rp0 (.slice none 0 0) (.slice none 0 0) (.slice none 0 0) (.slice none 0 0)).toArray 32) = w1 at *
  rintro e w2 ⟨rfl, hK2, hk2⟩
  have Q2 := Q0.call hK2 hk2
  have W2 := hid Q2.row
  have LJ := hid (show 0 < (rpC rp0 (.slice none 0 0) (.slice none 0 0) (.slice none 0 0) (.slice none 0 0)).length by rw [rpC_len rp0_L]; decide)
  go_wp2_with (first | (refine wpList_storeW rfl 24 _ _ rfl w.heap.size 0 (.int .i64 er) rfl rfl _ 32 W2.out LJ.out Try.sizeErr rfl rfl ?_; intro w3 hr3 hk3; refine Hid.out ?_))
  refine hid ?_
  have Q3 : PQ w0 w w3 g b R1 { rp0 with err := er } (.slice none 0 0) (.slice none 0 0) (.slice none 0 0) (.slice none 0 0) [] [] := Q2.put hr3 hk3 ⟨⟨z32_len, z32_len⟩, Q2.o.ov, Q2.o.orw, Q2.o.ol, Q2.o.oc⟩
  have c3 : w3.cell? ⟨w.heap.size, 0, none⟩ = some (.int .i64 er) := by rw [cell_of_row _ _ _ _ _ _ Q3.row]; rfl
  clear Q0 Q2 W2 LJ hr3 hk3 hK2 hk2 hb1
  replace he := he.out
  subst he
  have o1 : (op == 1) = false := beq_eq_false_iff_ne.2 (by omega)
  have o2 : (op == 2) = false := beq_eq_false_iff_ne.2 (by omega)
  have o3 : (op == 3) = false := beq_eq_false_iff_ne.2 (by omega)
  have o4 : (op == 4) = false := beq_eq_false_iff_ne.2 (by omega)
  have o5 : (op == 5) = false := beq_eq_false_iff_ne.2 (by omega)
  have o6 : (op == 6) = false := beq_eq_false_iff_ne.2 (by omega)
  have o7 : (op == 7) = false := beq_eq_false_iff_ne.2 (by omega)
  have o8 : (op == 8) = false := beq_eq_false_iff_ne.2 (by omega)
  clear ho
  have Z1 := hid Q3.row
  have Z2 := hid (show (Try.prog.info? 32).map (·.size) = some (rpC { rp0 with err := 0 } (.slice none 0 0) (.slice none 0 0) (.slice none 0 0) (.slice none 0 0)).toArray.size by rw [List.size_toArray, rpC_len Q3.o.l]; exact Try.sizeRep)
  have Z3 := hid (show (Try.prog.info? 32).map (·.size) = some (rpC { rp0 with err := 0 } (.slice none 0 0) (.slice none 0 0) (.slice none 0 0) (.slice none 0 0)).length by rw [rpC_len Q3.o.l]; exact Try.sizeRep)
  have Z4 := hid Q3.o.one
  go_wp2_with (first | (refine wpList_load_row rfl 32 _ rfl w.heap.size rfl 32 _ (0, 0) _ Z1.out Try.underlying32 rfl Z2.out ?_) | (refine wpList_storeRowW rfl 32 _ _ rfl w.heap.size (rpC { rp0 with err := 0 } (.slice none 0 0) (.slice none 0 0) (.slice none 0 0) (.slice none 0 0)) rfl rfl 32 _ Z1.out Z3.out rfl Z4.out ?_; intro wz hrz hkz))
  have QZ := Q3.put hrz hkz Q3.o
  exact bodyPost_ret (results_c1 Try.results26 _ _ w.heap.size 32 _ (0, 0) _ rfl hrz Try.underlying32 rfl Z2.out) rfl ⟨_, _, _, _, rfl, ⟨_, _, QZ.o, (by first | exact Or.inl ⟨rfl, rfl, rfl⟩ | exact Or.inr (Or.inl ⟨rfl, rfl, rfl⟩) | exact Or.inr (Or.inr (Or.inl ⟨rfl, rfl, rfl⟩)) | exact Or.inr (Or.inr (Or.inr ⟨rfl, rfl, rfl⟩))), DjM.nil, DjM.nil⟩, QZ.rk, QZ.kp⟩
end Go.Proofs.Ytenfklcgkfaajaa
