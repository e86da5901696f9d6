import Derived.Test.YtenfklcgkfaajaaDk24
namespace Go.Proofs.Ytenfklcgkfaajaa
set_option linter.unusedVariables false
set_option linter.unusedSimpArgs false
open Go.RowKit
attribute [local go_sem ↓] Go.wp_at_zero Go.wp_at_succ

def inC (i : Nf) : List Value := [.int .i64 i.width, .int .i64 i.first, .int .i64 i.last, .int .i64 i.used, .int .i64 i.pages, .int .i64 i.keys] ++ ints .u8 i.sum
theorem inC_len {i : Nf} (h : i.sum.length = 32) : (inC i).length = 38 := by simp [inC, ints, h]
theorem inC_one (i : Nf) : ∀ v ∈ inC i, v.oneCell' = true := by
  intro v hv
  unfold inC at hv
  rcases List.mem_append.1 hv with a | a
  · simp only [List.mem_cons, List.not_mem_nil, or_false] at a
    rcases a with rfl | rfl | rfl | rfl | rfl | rfl <;> rfl
  · exact ints_one _ _ v a
theorem allocInf (a : Act) (o : Oper) (w : World) (ho : o.op = .alloc 30) : (execOp a.eval o).run Try.prog w = .ok (.value (.pointer (some ⟨w.heap.size, 0, none⟩))) (w.alloc (.cells (inC nf0).toArray 30)) := by
  unfold execOp
  rw [ho]
  kernel_rfl
theorem Try.sizeInf : (Try.prog.info? 30).map (·.size) = some 38 := by kernel_rfl
/-- info midway. -/
structure IQ (w0 w wc : World) (g b : Nat) (R : Rd) (i : Nf) : Prop where
  rk : RK w0 wc g b R
  row : wc.heap[w.heap.size]? = some (.cells (inC i).toArray 30 (0, 0))
  kl : i.sum.length = 32
  kp : Keeps g w wc
  hg : g < w.heap.size
theorem IQ.call {w0 w wc w1 : World} {g b : Nat} {R R1 : Rd} {i : Nf} (h : IQ w0 w wc g b R i) (hk : RK w0 w1 g b R1) (q : Keeps g wc w1) : IQ w0 w w1 g b R1 i :=
  ⟨hk, q.heap h.row (by have := h.hg; omega), h.kl, h.kp.trans q, h.hg⟩
theorem IQ.put {w0 w wc w1 : World} {g b : Nat} {R : Rd} {i : Nf} (h : IQ w0 w wc g b R i) (i' : Nf) (row : w1.heap[w.heap.size]? = some (.cells (inC i').toArray 30 (0, 0))) (kl : i'.sum.length = 32) (q : Keeps w.heap.size wc w1) : IQ w0 w w1 g b R i' := by
  have hg := h.hg
  refine ⟨h.rk.keep2 q (by omega) (by have := h.rk.new; omega), row, kl, ?_, h.hg⟩
  exact ⟨q.os.trans h.kp.os, q.tape.trans h.kp.tape, q.output.trans h.kp.output, Nat.le_trans h.kp.size q.size, fun i hi hn => (q.block i (Nat.lt_of_lt_of_le hi h.kp.size) (by omega)).trans (h.kp.block i hi hn)⟩
theorem inC_sum (i : Nf) (k : List Int) (h : i.sum.length = 32) (h' : k.length = 32) : (inC i).take 6 ++ ints .u8 k ++ (inC i).drop (6 + (ints .u8 k).length) = inC { i with sum := k } := by
  rw [List.drop_of_length_le (by rw [ints_len, h', inC_len h]; decide), List.append_nil]
  unfold inC
  simp
set_option maxRecDepth 100000 in
set_option maxHeartbeats 4000000 in
theorem info_any (w0 w : World) (g b : Nat) (R : Rd) (hy : Bys R.rest) (h : RK w0 w g b R) :
    Calls Try.prog 49 #[.pointer (some ⟨g, 0, none⟩)] w fun e w' => e = .returned (.agg (inC (inV R)).toArray) ∧ (inV R).sum.length = 32 ∧ RK w0 w' g b (inS R) ∧ Keeps g w w' := by
  have hg := h.lt
  have hb1 := (Below.refl w.heap.size w).alloc (Nat.le_refl _) (.cells (inC nf0).toArray 30)
  have Q0 : IQ w0 w (w.alloc (.cells (inC nf0).toArray 30)) g b R nf0 := ⟨h.keep (hb1.mono hg), hnew w _, z32_len, Keeps.of_below hb1, hg⟩
  have y0 := hy
  unfold inV inS
  have KN0 := hid (fun (wc : World) (h : RK w0 wc g b R) => number_any w0 wc g b R y0 h 1 (by omega))
  have y1 := tkS_bys y0 1
  generalize hx0 : nmV R 1 = x0 at *
  generalize hR1 : tkS R 1 = R1 at *
  have KN1 := hid (fun (wc : World) (h : RK w0 wc g b R1) => number_any w0 wc g b R1 y1 h 8 (by omega))
  have y2 := tkS_bys y1 8
  generalize hx1 : nmV R1 8 = x1 at *
  generalize hR2 : tkS R1 8 = R2 at *
  have KN2 := hid (fun (wc : World) (h : RK w0 wc g b R2) => number_any w0 wc g b R2 y2 h 8 (by omega))
  have y3 := tkS_bys y2 8
  generalize hx2 : nmV R2 8 = x2 at *
  generalize hR3 : tkS R2 8 = R3 at *
  have KN3 := hid (fun (wc : World) (h : RK w0 wc g b R3) => number_any w0 wc g b R3 y3 h 4 (by omega))
  have y4 := tkS_bys y3 4
  generalize hx3 : nmV R3 4 = x3 at *
  generalize hR4 : tkS R3 4 = R4 at *
  have KN4 := hid (fun (wc : World) (h : RK w0 wc g b R4) => number_any w0 wc g b R4 y4 h 4 (by omega))
  have y5 := tkS_bys y4 4
  generalize hx4 : nmV R4 4 = x4 at *
  generalize hR5 : tkS R4 4 = R5 at *
  have KN5 := hid (fun (wc : World) (h : RK w0 wc g b R5) => number_any w0 wc g b R5 y5 h 4 (by omega))
  have y6 := tkS_bys y5 4
  generalize hx5 : nmV R5 4 = x5 at *
  generalize hR6 : tkS R5 4 = R6 at *
  have hkl := tkV_len R6 32
  have KT := hid (fun (wc : World) (h : RK w0 wc g b R6) => take_any w0 wc g b R6 h 32 (by omega))
  generalize hkk : tkV R6 32 = key at *
  generalize hR7 : tkS R6 32 = R7 at *
  clear hx0 hx1 hx2 hx3 hx4 hx5 hR1 hR2 hR3 hR4 hR5 hR6 hkk hR7
  go_enter Try.func49, Try.ntmps49
  go_wp2_with (first | (refine wpList_allocV allocInf rfl rfl ?_))
  refine (KN0.out _ Q0.rk).mono ?_
  generalize w.alloc (.cells (inC nf0).toArray 30) = w1 at *
  rintro e w10 ⟨rfl, hK10, hk10⟩
  have Q10 := Q0.call hK10 hk10
  have W10 := hid Q10.row
  have LJ10 := hid (show 0 < (inC nf0).length by rw [inC_len Q10.kl]; decide)
  clear KN0 hK10 hk10
  go_wp2_with (first | (refine wpList_storeW rfl 3 _ _ rfl w.heap.size 0 (.int .i64 x0) rfl rfl _ 30 W10.out LJ10.out Try.sizeInt rfl rfl ?_; intro w11 hr11 hk11; refine Hid.out ?_))
  refine hid ?_
  have Q11 := Q10.put ⟨x0, 0, 0, 0, 0, 0, z32⟩ hr11 Q10.kl hk11
  clear W10 LJ10 hr11 hk11 Q10 Q0
  go_wp2_with fail
  refine (KN1.out _ Q11.rk).mono ?_
  rintro e w12 ⟨rfl, hK12, hk12⟩
  have Q12 := Q11.call hK12 hk12
  have W12 := hid Q12.row
  have LJ12 := hid (show 1 < (inC ⟨x0, 0, 0, 0, 0, 0, z32⟩).length by rw [inC_len Q12.kl]; decide)
  clear KN1 hK12 hk12
  go_wp2_with (first | (refine wpList_storeW rfl 3 _ _ rfl w.heap.size 1 (.int .i64 x1) rfl rfl _ 30 W12.out LJ12.out Try.sizeInt rfl rfl ?_; intro w13 hr13 hk13; refine Hid.out ?_))
  refine hid ?_
  have Q13 := Q12.put ⟨x0, x1, 0, 0, 0, 0, z32⟩ hr13 Q12.kl hk13
  clear W12 LJ12 hr13 hk13 Q12 Q11
  go_wp2_with fail
  refine (KN2.out _ Q13.rk).mono ?_
  rintro e w14 ⟨rfl, hK14, hk14⟩
  have Q14 := Q13.call hK14 hk14
  have W14 := hid Q14.row
  have LJ14 := hid (show 2 < (inC ⟨x0, x1, 0, 0, 0, 0, z32⟩).length by rw [inC_len Q14.kl]; decide)
  clear KN2 hK14 hk14
  go_wp2_with (first | (refine wpList_storeW rfl 3 _ _ rfl w.heap.size 2 (.int .i64 x2) rfl rfl _ 30 W14.out LJ14.out Try.sizeInt rfl rfl ?_; intro w15 hr15 hk15; refine Hid.out ?_))
  refine hid ?_
  have Q15 := Q14.put ⟨x0, x1, x2, 0, 0, 0, z32⟩ hr15 Q14.kl hk15
  clear W14 LJ14 hr15 hk15 Q14 Q13
  go_wp2_with fail
  refine (KN3.out _ Q15.rk).mono ?_
  rintro e w16 ⟨rfl, hK16, hk16⟩
  have Q16 := Q15.call hK16 hk16
  have W16 := hid Q16.row
  have LJ16 := hid (show 3 < (inC ⟨x0, x1, x2, 0, 0, 0, z32⟩).length by rw [inC_len Q16.kl]; decide)
  clear KN3 hK16 hk16
  go_wp2_with (first | (refine wpList_storeW rfl 3 _ _ rfl w.heap.size 3 (.int .i64 x3) rfl rfl _ 30 W16.out LJ16.out Try.sizeInt rfl rfl ?_; intro w17 hr17 hk17; refine Hid.out ?_))
  refine hid ?_
  have Q17 := Q16.put ⟨x0, x1, x2, x3, 0, 0, z32⟩ hr17 Q16.kl hk17
  clear W16 LJ16 hr17 hk17 Q16 Q15
  go_wp2_with fail
  refine (KN4.out _ Q17.rk).mono ?_
  rintro e w18 ⟨rfl, hK18, hk18⟩
  have Q18 := Q17.call hK18 hk18
  have W18 := hid Q18.row
  have LJ18 := hid (show 4 < (inC ⟨x0, x1, x2, x3, 0, 0, z32⟩).length by rw [inC_len Q18.kl]; decide)
  clear KN4 hK18 hk18
  go_wp2_with (first | (refine wpList_storeW rfl 3 _ _ rfl w.heap.size 4 (.int .i64 x4) rfl rfl _ 30 W18.out LJ18.out Try.sizeInt rfl rfl ?_; intro w19 hr19 hk19; refine Hid.out ?_))
  refine hid ?_
  have Q19 := Q18.put ⟨x0, x1, x2, x3, x4, 0, z32⟩ hr19 Q18.kl hk19
  clear W18 LJ18 hr19 hk19 Q18 Q17
  go_wp2_with fail
  refine (KN5.out _ Q19.rk).mono ?_
  rintro e w20 ⟨rfl, hK20, hk20⟩
  have Q20 := Q19.call hK20 hk20
  have W20 := hid Q20.row
  have LJ20 := hid (show 5 < (inC ⟨x0, x1, x2, x3, x4, 0, z32⟩).length by rw [inC_len Q20.kl]; decide)
  clear KN5 hK20 hk20
  go_wp2_with (first | (refine wpList_storeW rfl 3 _ _ rfl w.heap.size 5 (.int .i64 x5) rfl rfl _ 30 W20.out LJ20.out Try.sizeInt rfl rfl ?_; intro w21 hr21 hk21; refine Hid.out ?_))
  refine hid ?_
  have Q21 := Q20.put ⟨x0, x1, x2, x3, x4, x5, z32⟩ hr21 Q20.kl hk21
  clear W20 LJ20 hr21 hk21 Q20 Q19
  go_wp2_with fail
  refine (KT.out _ Q21.rk).mono ?_
  rintro e w30 ⟨sb, so, cap, rfl, S3, hK3, hk3⟩
  have Q30 := Q21.call hK3 hk3
  have S3r := hid (src_rangeAt S3)
  have hat : ∀ w, (Instr.arrayAt 26 (.slice (some ⟨sb, so, none⟩) 32 cap)).run Try.prog w = .ok (.pointer (some ⟨sb, so, none⟩)) w := fun w => run_arrayAt w 26 5 32 (some ⟨sb, so, none⟩) 32 cap Try.underlying26 (Nat.le_refl _)
  have SK := hid (show (Try.prog.info? 26).map (·.size) = some (ints .u8 key).length by rw [ints_len, hkl]; exact Try.sizeDg)
  have SL := hid (show 6 + (ints .u8 key).length ≤ (inC ⟨x0, x1, x2, x3, x4, x5, z32⟩).length by rw [ints_len, hkl, inC_len z32_len]; decide)
  have R3 := hid Q30.row
  clear KT hK3 hk3 S3 Q21
  go_wp2_with (first
    | (refine wpList_load_mid rfl 26 _ rfl sb so rfl (ints .u8 key) _ S3r.out Try.underlying26 rfl SK.out ?_)
    | (refine wpList_storeMidW rfl 26 _ _ rfl w.heap.size 6 (ints .u8 key) rfl rfl _ 30 R3.out SL.out SK.out (ints_one _ _) ?_; intro w31 hr31 hk31; refine Hid.out ?_))
  refine hid ?_
  rw [inC_sum _ _ z32_len hkl] at hr31
  have Q31 := Q30.put ⟨x0, x1, x2, x3, x4, x5, key⟩ hr31 hkl hk31
  have Z1 := hid Q31.row
  have Z2 := hid (show (Try.prog.info? 30).map (·.size) = some (inC ⟨x0, x1, x2, x3, x4, x5, key⟩).toArray.size by rw [List.size_toArray, inC_len hkl]; exact Try.sizeInf)
  have Z3 := hid (show (Try.prog.info? 30).map (·.size) = some (inC ⟨x0, x1, x2, x3, x4, x5, key⟩).length by rw [inC_len hkl]; exact Try.sizeInf)
  clear S3r hat SK SL R3 hr31 hk31 Q30
  go_wp2_with (first | (refine wpList_load_row rfl 30 _ rfl w.heap.size rfl 30 _ (0, 0) _ Z1.out Try.underlying30 rfl Z2.out ?_) | (refine wpList_storeRowW rfl 30 _ _ rfl w.heap.size (inC ⟨x0, x1, x2, x3, x4, x5, key⟩) rfl rfl 30 _ Z1.out Z3.out rfl (inC_one _) ?_; intro wz hrz hkz))
  have QZ := Q31.put ⟨x0, x1, x2, x3, x4, x5, key⟩ hrz hkl hkz
  exact bodyPost_ret (results_c1 Try.results49 _ _ w.heap.size 30 _ (0, 0) _ rfl hrz Try.underlying30 rfl Z2.out) rfl ⟨rfl, hkl, QZ.rk, QZ.kp⟩
end Go.Proofs.Ytenfklcgkfaajaa
