import Derived.Test.YthdjgpdgedhonaaDk10
namespace Go.Proofs.Ythdjgpdgedhonaa
set_option linter.unusedVariables false
set_option linter.unusedSimpArgs false
open Go.RowKit
attribute [local go_sem ↓] Go.wp_at_zero Go.wp_at_succ

theorem shO_cases (op : Int) : shO op = ⟨false, false, false, false, false, true⟩ ∨ shO op = ⟨true, false, true, false, false, false⟩ ∨ shO op = ⟨false, false, true, false, false, false⟩ ∨ shO op = ⟨true, true, true, false, false, false⟩ ∨ shO op = ⟨true, true, true, false, true, false⟩ ∨ shO op = ⟨false, false, true, true, false, false⟩ ∨ shO op = ⟨false, false, false, false, false, false⟩ := by
  unfold shO sh0
  by_cases h1 : op = 1
  · simp [h1]
  by_cases h2 : op = 2 ∨ op = 4
  · rw [if_neg h1, if_pos h2]; simp
  by_cases h3 : op = 3
  · rw [if_neg h1, if_neg h2, if_pos h3]; simp
  by_cases h5 : op = 5
  · rw [if_neg h1, if_neg h2, if_neg h3, if_pos h5]; simp
  by_cases h6 : op = 6
  · rw [if_neg h1, if_neg h2, if_neg h3, if_neg h5, if_pos h6]; simp
  by_cases h7 : op = 7
  · rw [if_neg h1, if_neg h2, if_neg h3, if_neg h5, if_neg h6, if_pos h7]; simp
  · rw [if_neg h1, if_neg h2, if_neg h3, if_neg h5, if_neg h6, if_neg h7]; simp
theorem fits_any (w : World) (q : Rq) (hB : RqB q) (ks hs bs : Option Addr) (kc hc bc : Nat) (hI : RqIn w q ks hs bs kc hc bc) :
    Calls Try.prog 28 #[.agg (shC (shO q.op)).toArray, .agg (rqV q ks hs bs kc hc bc).toArray] w fun e w' => e = .returned (.bool (fitB (shO q.op) q)) ∧ Below w.heap.size w w' := by
  rcases shO_cases q.op with e | e | e | e | e | e | e <;> rw [e]
  · exact fits_1 w q hB ks hs bs kc hc bc hI
  · exact fits_2 w q hB ks hs bs kc hc bc hI
  · exact fits_3 w q hB ks hs bs kc hc bc hI
  · exact fits_5 w q hB ks hs bs kc hc bc hI
  · exact fits_6 w q hB ks hs bs kc hc bc hI
  · exact fits_7 w q hB ks hs bs kc hc bc hI
  · exact fits_0 w q hB ks hs bs kc hc bc hI
theorem lay_any (w : World) (q : Rq) (hB : RqB q) (ks hs bs : Option Addr) (kc hc bc : Nat) (hI : RqIn w q ks hs bs kc hc bc) (hk : knO q.op = true) (hf : fitB (shO q.op) q = true) :
    Calls Try.prog 29 #[.agg (shC (shO q.op)).toArray, .agg (rqV q ks hs bs kc hc bc).toArray] w fun e w' => ∃ v, e = .returned v ∧ Own w' w.heap.size v (encB (shO q.op) q) ∧ Below w.heap.size w w' := by
  have h1 : lowN q.op 1 = [q.op] := by
    have : 1 ≤ q.op ∧ q.op ≤ 9 := by unfold knO at hk; simpa using hk
    show [q.op % 256] = [q.op]
    rw [show q.op % 256 = q.op by omega]
  unfold encB
  rw [← h1]
  unfold fitB at hf
  rcases shO_cases q.op with e | e | e | e | e | e | e <;> rw [e] at hf ⊢ <;> simp at hf
  · exact lay_1 w q hB ks hs bs kc hc bc hI trivial trivial (by omega)
  · exact lay_2 w q hB ks hs bs kc hc bc hI (by omega) trivial trivial
  · exact lay_3 w q hB ks hs bs kc hc bc hI trivial trivial trivial
  · exact lay_5 w q hB ks hs bs kc hc bc hI (by omega) (by omega) trivial
  · exact lay_6 w q hB ks hs bs kc hc bc hI (by omega) (by omega) trivial
  · exact lay_7 w q hB ks hs bs kc hc bc hI trivial trivial trivial
  · exact lay_0 w q hB ks hs bs kc hc bc hI trivial trivial trivial
theorem shC_one (s : Sh) : ∀ v ∈ shC s, v.oneCell' = true := by
  intro v hv
  simp only [shC, List.mem_cons, List.not_mem_nil, or_false] at hv
  rcases hv with rfl | rfl | rfl | rfl | rfl | rfl <;> rfl
theorem Try.sizeSh : (Try.prog.info? 67).map (·.size) = some 6 := by kernel_rfl
set_option maxRecDepth 100000 in
set_option maxHeartbeats 4000000 in
theorem encode_any (w : World) (q : Rq) (hB : RqB q) (ks hs bs : Option Addr) (kc hc bc : Nat) (hI : RqIn w q ks hs bs kc hc bc) :
    Calls Try.prog 10 #[.agg (rqV q ks hs bs kc hc bc).toArray] w fun e w' => ∃ v, e = .returned (.tuple #[v, .int .i64 (ecode (encP q))]) ∧ Own w' w.heap.size v ((encP q).getD []) ∧ Below w.heap.size w w' := by
  have hb1 := (Below.refl w.heap.size w).alloc (Nat.le_refl _) (.cells (rqV q ks hs bs kc hc bc).toArray 24)
  have hr1 := hnew w (.cells (rqV q ks hs bs kc hc bc).toArray 24)
  have c1 : (w.alloc (.cells (rqV q ks hs bs kc hc bc).toArray 24)).cell? ⟨w.heap.size, 0, none⟩ = some (.int .i64 q.op) := by rw [cell_of_row _ _ _ _ _ _ hr1]; rfl
  have KS := hid (shapeOf_any (w.alloc (.cells (rqV q ks hs bs kc hc bc).toArray 24)) q.op hB.op.1 hB.op.2)
  generalize hE : encP q = E
  replace hE := hid hE
  unfold encP at hE
  have hz1 : (w.alloc (.cells (rqV q ks hs bs kc hc bc).toArray 24)).heap.size = w.heap.size + 1 := by simp
  go_enter Try.func10, Try.ntmps10
  go_wp2_with fail
  refine KS.out.mono ?_
  clear KS c1
  generalize (w.alloc (.cells (rqV q ks hs bs kc hc bc).toArray 24)) = w1 at *
  rintro e w2 ⟨rfl, hb2⟩
  go_wp2_with (first | (refine wpList_storeRowW rfl 67 _ _ rfl w2.heap.size (shC (shO q.op)) rfl rfl 67 _ (hnew w2 (.cells (shC sh0).toArray 67)) Try.sizeSh rfl (shC_one _) ?_; intro w3 hs3 hk3; refine Hid.out ?_))
  refine hid ?_
  have hb3 : Below w2.heap.size w2 w3 := ((Below.refl w2.heap.size w2).alloc (Nat.le_refl _) _).trans (hk3.below_g (Nat.le_refl _) (by simp))
  have hr3 := hbel hb3 (hbel hb2 hr1 (by omega)) (by have := hb2.size; omega)
  have hB3 : Below w.heap.size w w3 := hb1.trans ((hb2.mono (by omega)).trans (hb3.mono (by have := hb2.size; omega)))
  have KF := hid (fits_any w3 q hB ks hs bs kc hc bc (hI.below hB3))
  have KL := hid (fun (w4 : World) (hb4 : Below w3.heap.size w3 w4) => lay_any w4 q hB ks hs bs kc hc bc (hI.below (hB3.trans (hb4.mono hB3.size))))
  have R3 := hid hr3
  have S3 := hid hs3
  clear hb1 hb2 hb3 hk3 hr1 hz1 hr3 hs3
  cases hkn : knO q.op
  · replace hkn := hid hkn
    go_wp2
    refine bodyPost_ret (results_tmp2 Try.results10 _ _ _) rfl ?_
    obtain rfl : E = none := by rw [← hE.out, hkn.out]; rfl
    exact ⟨_, rfl, Own.nil _ _, hB3⟩
  · replace hkn := hid hkn
    cases hft : fitB (shO q.op) q
    · rw [hft] at KF
      replace hft := hid hft
      go_wp2_with (first | (refine wpList_load_row_w (by rfl) 67 _ rfl w2.heap.size rfl 67 _ (0, 0) _ S3.out Try.underlying67 rfl Try.sizeSh ?_) | (refine wpList_load_row_w (by rfl) 24 _ rfl w.heap.size rfl 24 _ (0, 0) _ R3.out Try.underlying24 rfl Try.sizeRq ?_) | (go_at_call 28; refine KF.out.mono ?_; rintro e w4 ⟨rfl, hb4⟩))
      refine bodyPost_ret (results_tmp2 Try.results10 _ _ _) rfl ?_
      obtain rfl : E = none := by rw [← hE.out, hkn.out, hft.out]; rfl
      exact ⟨_, rfl, Own.nil _ _, hB3.trans (hb4.mono hB3.size)⟩
    · have KL2 := hid (fun (w4 : World) (hb4 : Below w3.heap.size w3 w4) => KL.out w4 hb4 hkn.out hft)
      have KR4 := hid (fun (w4 : World) (hb4 : Below w3.heap.size w3 w4) => hbel hb4 R3.out (hlt R3.out))
      have KS4 := hid (fun (w4 : World) (hb4 : Below w3.heap.size w3 w4) => hbel hb4 S3.out (hlt S3.out))
      have HF := hid hft
      rw [hft] at KF
      clear KL hft
      go_wp2_with (first | (refine wpList_load_row_w (by rfl) 67 _ rfl w2.heap.size rfl 67 _ (0, 0) _ S3.out Try.underlying67 rfl Try.sizeSh ?_) | (refine wpList_load_row_w (by rfl) 24 _ rfl w.heap.size rfl 24 _ (0, 0) _ R3.out Try.underlying24 rfl Try.sizeRq ?_) | (go_at_call 28; refine KF.out.mono ?_; rintro e w4 ⟨rfl, hb4⟩; refine Hid.out ?_))
      refine hid ?_
      have R4 := hid (KR4.out w4 hb4)
      have S4 := hid (KS4.out w4 hb4)
      have L4 := hid (KL2.out w4 hb4)
      clear KR4 KS4 KL2 KF R3 S3
      go_wp2_with (first | (refine wpList_load_row rfl 67 _ rfl w2.heap.size rfl 67 _ (0, 0) _ S4.out Try.underlying67 rfl Try.sizeSh ?_) | (refine wpList_load_row rfl 24 _ rfl w.heap.size rfl 24 _ (0, 0) _ R4.out Try.underlying24 rfl Try.sizeRq ?_) | (go_at_call 29; refine L4.out.mono ?_; rintro e w5 ⟨v5, rfl, O5, hb5⟩))
      refine bodyPost_ret (results_tmp2 Try.results10 _ _ _) rfl ?_
      have hB4 := hB3.trans (hb4.mono hB3.size)
      obtain rfl : E = some (encB (shO q.op) q) := by rw [← hE.out, hkn.out, HF.out]; rfl
      exact ⟨_, rfl, own_lower O5 hB4.size, hB4.trans (hb5.mono hB4.size)⟩
end Go.Proofs.Ythdjgpdgedhonaa
