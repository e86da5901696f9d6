import Derived.Test.YtenfklcgkfaajaaDe
import Derived.Test.YtenfklcgkfaajaaDf
import Derived.Test.YtenfklcgkfaajaaDg
namespace Go.Proofs.Ytenfklcgkfaajaa
set_option linter.unusedVariables false
set_option linter.unusedSimpArgs false
open Go.RowKit
attribute [local go_sem ↓] Go.wp_at_zero Go.wp_at_succ

theorem fitR_any (w : World) (op : Int) (o0 : -9223372036854775808 ≤ op) (o1 : op ≤ 9223372036854775807) (r : Rp) (hB : RpB r) (vs rs ls cs : Option Addr) (vc rc lc cc : Nat) (hI : RpI w r vs rs ls cs vc rc lc cc) (hF : ryF op r = true) :
    Calls Try.prog 35 #[.int .i64 op, .agg (rpV r vs rs ls cs vc rc lc cc).toArray] w fun e w' => e = .returned (.bool true) ∧ Below w.heap.size w w' := by
  unfold ryF at hF
  by_cases he : r.err = 0
  · rw [if_pos he] at hF
    unfold fdF at hF
    by_cases k2 : op = 2
    · subst k2
      simp only [if_true] at hF
      cases hx : r.found with
      | false => exact fitR_2n w r hB vs rs ls cs vc rc lc cc hI he hx
      | true => exact fitR_2y w r hB vs rs ls cs vc rc lc cc hI he hx (by rw [hx] at hF; simpa using hF)
    by_cases k6 : op = 6
    · subst k6; exact fitR_6 w r hB vs rs ls cs vc rc lc cc hI he (by simpa using hF)
    by_cases k7 : op = 7
    · subst k7; exact fitR_7 w r hB vs rs ls cs vc rc lc cc hI he (by simpa using hF)
    by_cases k8 : op = 8
    · subst k8; exact fitR_8 w r hB vs rs ls cs vc rc lc cc hI he (by simpa using hF)
    · exact fitR_9 w op o0 o1 r hB vs rs ls cs vc rc lc cc hI he k2 k6 k7 k8
  · rw [if_neg he] at hF
    exact fitR_e w op o0 o1 r hB vs rs ls cs vc rc lc cc hI he (by simpa using hF)
theorem layR_any (w : World) (op : Int) (r : Rp) (hB : RpB r) (vs rs ls cs : Option Addr) (vc rc lc cc : Nat) (hI : RpI w r vs rs ls cs vc rc lc cc) (hk : knO op = true) (hF : ryF op r = true) :
    Calls Try.prog 36 #[.int .i64 op, .agg (rpV r vs rs ls cs vc rc lc cc).toArray] w fun e w' => ∃ v, e = .returned v ∧ Own w' w.heap.size v (ryB op r) ∧ Below w.heap.size w w' := by
  have hop : 1 ≤ op ∧ op ≤ 9 := by unfold knO at hk; simpa using hk
  unfold ryF at hF
  by_cases he : r.err = 0
  · rw [if_pos he] at hF
    unfold fdF at hF
    have hc : op = 1 ∨ op = 2 ∨ op = 3 ∨ op = 4 ∨ op = 5 ∨ op = 6 ∨ op = 7 ∨ op = 8 ∨ op = 9 := by omega
    rcases hc with rfl | rfl | rfl | rfl | rfl | rfl | rfl | rfl | rfl
    · exact layR_1 w r hB vs rs ls cs vc rc lc cc hI he
    · cases hx : r.found with
      | false => exact layR_2n w r hB vs rs ls cs vc rc lc cc hI he hx
      | true => exact layR_2y w r hB vs rs ls cs vc rc lc cc hI he hx (by rw [hx] at hF; simpa using hF)
    · exact layR_3 w r hB vs rs ls cs vc rc lc cc hI he
    · exact layR_4 w r hB vs rs ls cs vc rc lc cc hI he
    · exact layR_5 w r hB vs rs ls cs vc rc lc cc hI he
    · exact layR_6 w r hB vs rs ls cs vc rc lc cc hI he (by simpa using hF)
    · exact layR_7 w r hB vs rs ls cs vc rc lc cc hI he (by simpa using hF)
    · exact layR_8 w r hB vs rs ls cs vc rc lc cc hI he
    · exact layR_9 w r hB vs rs ls cs vc rc lc cc hI he
  · exact layR_e w op (by omega) (by omega) r hB vs rs ls cs vc rc lc cc hI he
set_option maxRecDepth 100000 in
set_option maxHeartbeats 4000000 in
theorem encodeR_yes (w : World) (op : Int) (r : Rp) (hB : RpB r) (vs rs ls cs : Option Addr) (vc rc lc cc : Nat) (hI : RpI w r vs rs ls cs vc rc lc cc) (raw : List Int) (hE : enR op r = some raw) :
    Calls Try.prog 22 #[.int .i64 op, .agg (rpV r vs rs ls cs vc rc lc cc).toArray] w fun e w' => ∃ v, e = .returned (.tuple #[v, .int .i64 0]) ∧ Own w' w.heap.size v raw ∧ Below w.heap.size w w' := by
  have hkf : knO op = true ∧ ryF op r = true := by
    unfold enR at hE
    by_cases h : (knO op && ryF op r) = true
    · simpa using h
    · rw [if_neg h] at hE; cases hE
  obtain ⟨hkn, hrf⟩ := hkf
  have HR := hid (show ryB op r = raw by unfold enR at hE; rw [hkn, hrf] at hE; simpa using hE)
  have hop : 1 ≤ op ∧ op ≤ 9 := by unfold knO at hkn; simpa using hkn
  clear hE
  have hb1 := (Below.refl w.heap.size w).alloc (Nat.le_refl _) (.cells (rpV r vs rs ls cs vc rc lc cc).toArray 32)
  have hr1 := hnew w (.cells (rpV r vs rs ls cs vc rc lc cc).toArray 32)
  have KS := hid (shapeOf_any (w.alloc (.cells (rpV r vs rs ls cs vc rc lc cc).toArray 32)) op (by omega) (by omega))
  rw [hkn] at KS
  have hz1 : (w.alloc (.cells (rpV r vs rs ls cs vc rc lc cc).toArray 32)).heap.size = w.heap.size + 1 := by simp
  have SR := hid (show (Try.prog.info? 32).map (·.size) = some (rpV r vs rs ls cs vc rc lc cc).toArray.size by rw [List.size_toArray]; unfold rpV; rw [rpC_len hI.l]; exact Try.sizeRep)
  have o0 : -9223372036854775808 ≤ op := by omega
  have o1 : op ≤ 9223372036854775807 := by omega
  go_enter Try.func22, Try.ntmps22
  go_wp2_with fail
  refine KS.out.mono ?_
  clear KS
  generalize (w.alloc (.cells (rpV r vs rs ls cs vc rc lc cc).toArray 32)) = w1 at *
  rintro e w2 ⟨rfl, hb2⟩
  go_wp2_with (first | (refine wpList_storeRowW rfl 81 _ _ rfl w2.heap.size (shC (shO op)) rfl rfl 81 _ (hnew w2 (.cells (shC sh0).toArray 81)) Try.sizeSh rfl (shC_one _) ?_; intro w3 hs3 hk3; refine Hid.out ?_))
  refine hid ?_
  have hb3 : Below w2.heap.size w2 w3 := ((Below.refl w2.heap.size w2).alloc (Nat.le_refl _) _).trans (hk3.below_g (Nat.le_refl _) (by simp))
  have hr3 := hbel hb3 (hbel hb2 hr1 (by omega)) (by have := hb2.size; omega)
  have hB3 : Below w.heap.size w w3 := hb1.trans ((hb2.mono (by omega)).trans (hb3.mono (by have := hb2.size; omega)))
  have KF := hid (fitR_any w3 op o0 o1 r hB vs rs ls cs vc rc lc cc (hI.below hB3) hrf)
  have KL := hid (fun (w4 : World) (hb4 : Below w3.heap.size w3 w4) => layR_any w4 op r hB vs rs ls cs vc rc lc cc (hI.below (hB3.trans (hb4.mono hB3.size))) hkn hrf)
  have R3 := hid hr3
  clear hb1 hb2 hb3 hk3 hr1 hz1 hr3 hs3
  have KR4 := hid (fun (w4 : World) (hb4 : Below w3.heap.size w3 w4) => hbel hb4 R3.out (hlt R3.out))
  replace hkn := hid hkn
  replace hrf := hid hrf
  go_wp2_with (first | (refine wpList_load_row_w (by rfl) 32 _ rfl w.heap.size rfl 32 _ (0, 0) _ R3.out Try.underlying32 rfl SR.out ?_) | (go_at_call 35; refine KF.out.mono ?_; rintro e w4 ⟨rfl, hb4⟩; refine Hid.out ?_))
  refine hid ?_
  have R4 := hid (KR4.out w4 hb4)
  have L4 := hid (KL.out w4 hb4)
  clear KR4 KL KF R3
  go_wp2_with (first | (refine wpList_load_row rfl 32 _ rfl w.heap.size rfl 32 _ (0, 0) _ R4.out Try.underlying32 rfl SR.out ?_) | (go_at_call 36; refine L4.out.mono ?_; rintro e w5 ⟨v5, rfl, O5, hb5⟩))
  refine bodyPost_ret (results_tmp2 Try.results22 _ _ _) rfl ?_
  have hB4 := hB3.trans (hb4.mono hB3.size)
  rw [HR.out] at O5
  exact ⟨_, rfl, own_lower O5 hB4.size, hB4.trans (hb5.mono hB4.size)⟩
end Go.Proofs.Ytenfklcgkfaajaa
