import Derived.Test.YtenfklcgkfaajaaDh
namespace Go.Proofs.Ytenfklcgkfaajaa
set_option linter.unusedVariables false
set_option linter.unusedSimpArgs false
open Go.RowKit
attribute [local go_sem ↓] Go.wp_at_zero Go.wp_at_succ

theorem fitN_any (w : World) (op : Int) (o0 : -9223372036854775808 ≤ op) (o1 : op ≤ 9223372036854775807) (r : Rp) (hB : RpB r) (vs rs ls cs : Option Addr) (vc rc lc cc : Nat) (hI : RpI w r vs rs ls cs vc rc lc cc) (hF : ryF op r = false) :
    Calls Try.prog 35 #[.int .i64 op, .agg (rpV r vs rs ls cs vc rc lc cc).toArray] w fun e w' => e = .returned (.bool false) ∧ Below w.heap.size w w' := by
  unfold ryF at hF
  by_cases he : r.err = 0
  · rw [if_pos he] at hF
    unfold fdF at hF
    by_cases k2 : op = 2
    · subst k2
      simp only [if_true] at hF
      cases hx : r.found with
      | false => rw [hx] at hF; simp at hF
      | true => exact fitN_2 w r hB vs rs ls cs vc rc lc cc hI he hx (by rw [hx] at hF; simpa using hF)
    by_cases k6 : op = 6
    · subst k6
      simp only [if_true, show ¬ (6 : Int) = 2 by decide, if_false] at hF
      by_cases hl : r.list.length ≤ 4096
      · exact fitN_6 w r hB vs rs ls cs vc rc lc cc hI he hl (by unfold lsF at hF; rw [decide_eq_true hl, Bool.true_and] at hF; exact hF)
      · exact fitN_6l w r hB vs rs ls cs vc rc lc cc hI he hl
    by_cases k7 : op = 7
    · subst k7
      simp only [if_true, show ¬ (7 : Int) = 2 by decide, show ¬ (7 : Int) = 6 by decide, if_false] at hF
      by_cases hl : r.chs.length ≤ 4096
      · exact fitN_7 w r hB vs rs ls cs vc rc lc cc hI he hl (by unfold lsF at hF; rw [decide_eq_true hl, Bool.true_and] at hF; exact hF)
      · exact fitN_7l w r hB vs rs ls cs vc rc lc cc hI he hl
    by_cases k8 : op = 8
    · subst k8
      simp only [if_true, show ¬ (8 : Int) = 2 by decide, show ¬ (8 : Int) = 6 by decide, show ¬ (8 : Int) = 7 by decide, if_false] at hF
      unfold inF n4 at hF
      by_cases f1 : 0 ≤ r.info.width ∧ r.info.width < 256
      · by_cases f2 : 0 ≤ r.info.used ∧ r.info.used < 4294967296
        · by_cases f3 : 0 ≤ r.info.pages ∧ r.info.pages < 4294967296
          · by_cases f4 : 0 ≤ r.info.keys ∧ r.info.keys < 4294967296
            · rw [decide_eq_true f1, decide_eq_true f2, decide_eq_true f3, decide_eq_true f4] at hF; cases hF
            · exact fitN_8d w r hB vs rs ls cs vc rc lc cc hI he f1 f2 f3 f4
          · exact fitN_8c w r hB vs rs ls cs vc rc lc cc hI he f1 f2 f3
        · exact fitN_8b w r hB vs rs ls cs vc rc lc cc hI he f1 f2
      · exact fitN_8a w r hB vs rs ls cs vc rc lc cc hI he f1
    · rw [if_neg k2, if_neg k6, if_neg k7, if_neg k8] at hF; cases hF
  · rw [if_neg he] at hF
    exact fitN_e w op o0 o1 r hB vs rs ls cs vc rc lc cc hI he (of_decide_eq_false hF)
theorem fitB_any (w : World) (op : Int) (o0 : -9223372036854775808 ≤ op) (o1 : op ≤ 9223372036854775807) (r : Rp) (hB : RpB r) (vs rs ls cs : Option Addr) (vc rc lc cc : Nat) (hI : RpI w r vs rs ls cs vc rc lc cc) :
    Calls Try.prog 35 #[.int .i64 op, .agg (rpV r vs rs ls cs vc rc lc cc).toArray] w fun e w' => e = .returned (.bool (ryF op r)) ∧ Below w.heap.size w w' := by
  cases hF : ryF op r with
  | true => exact fitR_any w op o0 o1 r hB vs rs ls cs vc rc lc cc hI hF
  | false => exact fitN_any w op o0 o1 r hB vs rs ls cs vc rc lc cc hI hF
set_option maxRecDepth 100000 in
set_option maxHeartbeats 4000000 in
theorem encodeR_none (w : World) (op : Int) (o0 : -9223372036854775808 ≤ op) (o1 : op ≤ 9223372036854775807) (r : Rp) (hB : RpB r) (vs rs ls cs : Option Addr) (vc rc lc cc : Nat) (hI : RpI w r vs rs ls cs vc rc lc cc) (hE : enR op r = none) :
    Calls Try.prog 22 #[.int .i64 op, .agg (rpV r vs rs ls cs vc rc lc cc).toArray] w fun e w' => e = .returned (.tuple #[.slice none 0 0, .int .i64 200]) ∧ Below w.heap.size w w' := by
  have hkf : knO op = false ∨ knO op = true ∧ ryF op r = false := by
    unfold enR at hE
    cases h1 : knO op
    · exact Or.inl rfl
    · cases h2 : ryF op r
      · exact Or.inr ⟨rfl, rfl⟩
      · rw [h1, h2] at hE; cases hE
  clear hE
  have hb1 := (Below.refl w.heap.size w).alloc (Nat.le_refl _) (.cells (rpV r vs rs ls cs vc rc lc cc).toArray 32)
  have hr1 := hnew w (.cells (rpV r vs rs ls cs vc rc lc cc).toArray 32)
  have KS := hid (shapeOf_any (w.alloc (.cells (rpV r vs rs ls cs vc rc lc cc).toArray 32)) op o0 o1)
  have hz1 : (w.alloc (.cells (rpV r vs rs ls cs vc rc lc cc).toArray 32)).heap.size = w.heap.size + 1 := by simp
  have SR := hid (show (Try.prog.info? 32).map (·.size) = some (rpV r vs rs ls cs vc rc lc cc).toArray.size by rw [List.size_toArray]; unfold rpV; rw [rpC_len hI.l]; exact Try.sizeRep)
  go_enter Try.func22, Try.ntmps22
  go_wp2_with fail
  refine KS.out.mono ?_
  clear KS
  generalize (w.alloc (.cells (rpV r vs rs ls cs vc rc lc cc).toArray 32)) = w1 at *
  rintro e w2 ⟨rfl, hb2⟩
  go_wp2_with (first | (refine wpList_storeRowW rfl 81 _ _ rfl w2.heap.size (shC (shO op)) rfl rfl 81 _ (hnew w2 (.cells (shC sh0).toArray 81)) Try.sizeSh rfl (shC_one _) ?_; intro w3 hs3 hk3; refine Hid.out ?_))
  refine hid ?_
  have hb3 : Below w2.heap.size w2 w3 := ((Below.refl w2.heap.size w2).alloc (Nat.le_refl _) _).trans (hk3.below_g (Nat.le_refl _) (by simp))
  have hr3 := hbel hb3 (hbel hb2 hr1 (by omega)) (by have := hb2.size; omega)
  have hB3 : Below w.heap.size w w3 := hb1.trans ((hb2.mono (by omega)).trans (hb3.mono (by have := hb2.size; omega)))
  have KF := hid (fitB_any w3 op o0 o1 r hB vs rs ls cs vc rc lc cc (hI.below hB3))
  have R3 := hid hr3
  clear hb1 hb2 hb3 hk3 hr1 hz1 hr3 hs3
  rcases hkf with hkn | ⟨hkn, hrf⟩
  · clear KF
    go_wp2
    refine bodyPost_ret (results_tmp2 Try.results22 _ _ _) rfl ?_
    exact ⟨rfl, hB3⟩
  · rw [hrf] at KF
    replace hrf := hid hrf
    go_wp2_with (first | (refine wpList_load_row_w (by rfl) 32 _ rfl w.heap.size rfl 32 _ (0, 0) _ R3.out Try.underlying32 rfl SR.out ?_) | (go_at_call 35; refine KF.out.mono ?_; rintro e w4 ⟨rfl, hb4⟩))
    refine bodyPost_ret (results_tmp2 Try.results22 _ _ _) rfl ?_
    exact ⟨rfl, hB3.trans (hb4.mono hB3.size)⟩
theorem encodeR_any (w : World) (op : Int) (o0 : -9223372036854775808 ≤ op) (o1 : op ≤ 9223372036854775807) (r : Rp) (hB : RpB r) (vs rs ls cs : Option Addr) (vc rc lc cc : Nat) (hI : RpI w r vs rs ls cs vc rc lc cc) :
    Calls Try.prog 22 #[.int .i64 op, .agg (rpV r vs rs ls cs vc rc lc cc).toArray] w fun e w' => ∃ v, e = .returned (.tuple #[v, .int .i64 (ecode (enR op r))]) ∧ Own w' w.heap.size v ((enR op r).getD []) ∧ Below w.heap.size w w' := by
  cases hE : enR op r with
  | none => exact (encodeR_none w op o0 o1 r hB vs rs ls cs vc rc lc cc hI hE).mono (fun e w' ⟨h1, h2⟩ => ⟨_, h1, Own.nil _ _, h2⟩)
  | some raw => exact (encodeR_yes w op r hB vs rs ls cs vc rc lc cc hI raw hE).mono (fun e w' ⟨v, h1, h2, h3⟩ => ⟨v, h1, h2, h3⟩)
end Go.Proofs.Ytenfklcgkfaajaa
