import Derived.Test.YtenfklcgkfaajaaDk23
namespace Go.Proofs.Ytenfklcgkfaajaa
set_option linter.unusedVariables false
set_option linter.unusedSimpArgs false
open Go.RowKit
attribute [local go_sem ↓] Go.wp_at_zero Go.wp_at_succ

theorem results_c1 {P : Program} {fn : Func} {p : Tmp} {ty : TypeId} (h : fn.results = #[.cell p ty]) (tmps : Array Value) (w : World) (g : Nat) (t : TypeId) (cs : Array Value) (fr : Nat × Nat) (d : TypeDesc)
    (hp : tmps.getD p undef = .pointer (some ⟨g, 0, none⟩)) (hg : w.heap[g]? = some (.cells cs t fr))
    (hu : P.underlying ty = some d) (hd : (match d with | .struct _ | .array _ _ => true | _ => false) = true) (hi : (P.info? ty).map (·.size) = some cs.size) :
    (results fn tmps).run P w = .ok (.agg cs) w := by
  have hp' : tmps[p]?.getD undef = .pointer (some ⟨g, 0, none⟩) := by simpa using hp
  simp [results, h, hp', asAddr, run_loadVar_row w g t ty cs fr d hg hu hd hi]
theorem elC_key {c : Bool} {k k' : List Int} {d : Bool} {v : Value} (h : k.length = 32) (h' : k'.length = 32) : (elC c k d v).take 0 ++ ints .u8 k' ++ (elC c k d v).drop (0 + (ints .u8 k').length) = elC c k' d v := by
  unfold elC
  rw [List.take_zero, List.nil_append, Nat.zero_add, ints_len, h']
  congr 1
  rw [List.drop_append_of_le_length (by rw [ints_len, h]; exact Nat.le_refl _), List.drop_of_length_le (by rw [ints_len, h]; exact Nat.le_refl _), List.nil_append]
theorem elC_del {k : List Int} {d d' : Bool} {v : Value} (h : k.length = 32) : (elC true k d v).set 32 (.bool d') = elC true k d' v := by
  unfold elC
  rw [List.set_append_right _ _ (by rw [ints_len, h]; exact Nat.le_refl _), ints_len, h]; rfl
/-- change midway: the element that is made. -/
structure CQ (w0 w wc : World) (g b : Nat) (R : Rd) (k : List Int) (d : Bool) (v : Value) (vs : List Int) : Prop where
  rk : RK w0 wc g b R
  row : wc.heap[w.heap.size]? = some (.cells (elC true k d v).toArray 54 (0, 0))
  kl : k.length = 32
  kp : Keeps g w wc
  hg : g < w.heap.size
  ov : Own wc w.heap.size v vs
theorem CQ.call {w0 w wc w1 : World} {g b : Nat} {R R1 : Rd} {k : List Int} {d : Bool} {v : Value} {vs : List Int} (h : CQ w0 w wc g b R k d v vs) (hk : RK w0 w1 g b R1) (q : Keeps g wc w1) : CQ w0 w w1 g b R1 k d v vs :=
  ⟨hk, q.heap h.row (by have := h.hg; omega), h.kl, h.kp.trans q, h.hg, h.ov.keeps q h.hg⟩
theorem CQ.put {w0 w wc w1 : World} {g b : Nat} {R : Rd} {k k' : List Int} {d d' : Bool} {v v' : Value} {vs vs' : List Int} (h : CQ w0 w wc g b R k d v vs) (row : w1.heap[w.heap.size]? = some (.cells (elC true k' d' v').toArray 54 (0, 0))) (kl : k'.length = 32) (q : Keeps w.heap.size wc w1) (o : Own wc w.heap.size v' vs') : CQ w0 w w1 g b R k' d' v' vs' := by
  have hg := h.hg
  refine ⟨h.rk.keep2 q (by omega) (by have := h.rk.new; omega), row, kl, ?_, h.hg, own_far o h.row (by decide) q⟩
  exact ⟨q.os.trans h.kp.os, q.tape.trans h.kp.tape, q.output.trans h.kp.output, Nat.le_trans h.kp.size q.size, fun i hi hn => (q.block i (Nat.lt_of_lt_of_le hi h.kp.size) (by omega)).trans (h.kp.block i hi hn)⟩
theorem Try.sizeBool : (Try.prog.info? 4).map (·.size) = some 1 := by kernel_rfl
set_option maxRecDepth 100000 in
set_option maxHeartbeats 4000000 in
theorem change_any (w0 w : World) (g b : Nat) (R : Rd) (hy : Bys R.rest) (h : RK w0 w g b R) :
    Calls Try.prog 69 #[.pointer (some ⟨g, 0, none⟩)] w fun e w' => ∃ v, e = .returned (.agg (elC true (cgV R).key (cgV R).del v).toArray) ∧ Own w' w.heap.size v (cgV R).val ∧ (cgV R).key.length = 32 ∧ RK w0 w' g b (cgS R) ∧ Keeps g w w' := by
  have hg := h.lt
  have hb1 := (Below.refl w.heap.size w).alloc (Nat.le_refl _) (.cells (elC true z32 false (.slice none 0 0)).toArray 54)
  have Q1 : CQ w0 w (w.alloc (.cells (elC true z32 false (.slice none 0 0)).toArray 54)) g b R z32 false (.slice none 0 0) [] := ⟨h.keep (hb1.mono hg), hnew w _, z32_len, Keeps.of_below hb1, hg, Own.nil _ _⟩
  have KN := hid (number_any w0 _ g b R hy Q1.rk 1 (by omega))
  have hy1 := tkS_bys hy 1
  have hy2 := tkS_bys hy1 32
  have hkl := tkV_len (tkS R 1) 32
  unfold cgV cgS
  generalize nmV R 1 = mk at *
  generalize tkS R 1 = R1 at *
  go_enter Try.func69, Try.ntmps69
  go_wp2_with (first | (refine wpList_allocV allocChg rfl rfl ?_))
  refine KN.out.mono ?_
  clear KN
  generalize w.alloc (.cells (elC true z32 false (.slice none 0 0)).toArray 54) = w1 at *
  rintro e w2 ⟨rfl, hK2, hk2⟩
  have Q2 := Q1.call hK2 hk2
  have KT := hid (take_any w0 w2 g b R1 hK2 32 (by omega))
  clear Q1 hb1 hK2 hk2
  go_wp2_with fail
  refine KT.out.mono ?_
  clear KT
  rintro e w3 ⟨sb, so, cap, rfl, S3, hK3, hk3⟩
  have Q3 := Q2.call hK3 hk3
  have S3r := hid (src_rangeAt S3)
  have hat : ∀ w, (Instr.arrayAt 50 (.slice (some ⟨sb, so, none⟩) 32 cap)).run Try.prog w = .ok (.pointer (some ⟨sb, so, none⟩)) w := fun w => run_arrayAt w 50 5 32 (some ⟨sb, so, none⟩) 32 cap Try.underlying50 (Nat.le_refl _)
  have HKL := hid hkl
  have SK := hid (show (Try.prog.info? 50).map (·.size) = some (ints .u8 (tkV R1 32)).length by rw [ints_len, hkl]; exact Try.sizeKey)
  have SL := hid (show 0 + (ints .u8 (tkV R1 32)).length ≤ (elC true z32 false (.slice none 0 0)).length by rw [ints_len, hkl, elC_len z32_len]; decide)
  have R3 := hid Q3.row
  clear hkl Q2 hK3 hk3 S3
  go_wp2_with (first
    | (refine wpList_load_mid rfl 50 _ rfl sb so rfl (ints .u8 (tkV R1 32)) _ S3r.out Try.underlying50 rfl SK.out ?_)
    | (refine wpList_storeMidW rfl 50 _ _ rfl w.heap.size 0 (ints .u8 (tkV R1 32)) rfl rfl _ 54 R3.out SL.out SK.out (ints_one _ _) ?_; intro w4 hr4 hk4; refine Hid.out ?_))
  refine hid ?_
  rw [elC_key z32_len HKL.out] at hr4
  have Q4 := Q3.put hr4 HKL.out hk4 Q3.ov
  clear S3r hat SK SL R3 Q3 hr4 hk4
  have hkl := HKL.out
  generalize hkk : tkV R1 32 = key at *
  generalize hRR : tkS R1 32 = R2 at *
  have FIN : ∀ (wc : World) (R' : Rd) (d : Bool) (v : Value) (vs : List Int), Hid (CQ w0 w wc g b R' key d v vs → (wc.heap[w.heap.size]? = some (.cells (elC true key d v).toArray 54 (0, 0)) ∧ (Try.prog.info? 54).map (·.size) = some (elC true key d v).toArray.size ∧ (Try.prog.info? 54).map (·.size) = some (elC true key d v).length ∧ ∀ x ∈ elC true key d v, x.oneCell' = true)) := fun wc R' d v vs => hid fun h => ⟨h.row, by rw [List.size_toArray, elC_len h.kl]; exact Try.sizeChg, by rw [elC_len h.kl]; exact Try.sizeChg, elC_one h.ov.cells.2⟩
  replace hkk := hid hkk
  replace hRR := hid hRR
  by_cases m1 : mk = 1
  · subst m1
    have KV := hid (val_any w0 w4 g b R2 hy2 Q4.rk)
    go_wp2_with fail
    refine KV.out.mono ?_
    rintro e w5 ⟨v5, rfl, O5, hK5, hk5⟩
    have Q5 := Q4.call hK5 hk5
    have R5 := hid Q5.row
    have LJ := hid (show 33 < (elC true key false (.slice none 0 0)).length by rw [elC_len hkl]; decide)
    have C5 := O5.cells
    clear KV hK5
    go_wp2_with (first | (refine wpList_storeW rfl 22 _ _ rfl w.heap.size 33 v5 rfl rfl _ 54 R5.out LJ.out Try.sizeBy C5.1 C5.2 ?_; intro w6 hr6 hk6; refine Hid.out ?_))
    refine hid ?_
    rw [show (33 : Nat) = szE true - 1 from rfl, elC_set hkl] at hr6
    have Q6 := Q5.put hr6 hkl hk6 (own_lower O5 Q4.kp.size)
    obtain ⟨z1, z2, z3, z4⟩ := (FIN _ _ _ _ _).out Q6
    have Z1 := hid z1
    have Z2 := hid z2
    have Z3 := hid z3
    have Z4 := hid z4
    clear z1 z2 z3 z4 FIN Q4 Q5 R5 LJ hk6 O5 hk5
    go_wp2_with (first | (refine wpList_load_row rfl 54 _ rfl w.heap.size rfl 54 _ (0, 0) _ Z1.out Try.underlying54 rfl Z2.out ?_) | (refine wpList_storeRowW rfl 54 _ _ rfl w.heap.size (elC true key false v5) rfl rfl 54 _ Z1.out Z3.out rfl Z4.out ?_; intro wz hrz hkz))
    have QZ := Q6.put hrz hkl hkz Q6.ov
    refine bodyPost_ret (results_c1 Try.results69 _ _ w.heap.size 54 _ (0, 0) _ rfl hrz Try.underlying54 rfl Z2.out) rfl ?_
    obtain rfl := hkk.out
    obtain rfl := hRR.out
    exact ⟨_, rfl, QZ.ov, hkl, QZ.rk, QZ.kp⟩
  · have e1 : (mk == 1) = false := beq_eq_false_iff_ne.2 m1
    by_cases m2 : mk = 2
    · subst m2
      have R5 := hid Q4.row
      have LJ := hid (show 32 < (elC true key false (.slice none 0 0)).length by rw [elC_len hkl]; decide)
      go_wp2_with (first | (refine wpList_storeW rfl 4 _ _ rfl w.heap.size 32 (.bool true) rfl rfl _ 54 R5.out LJ.out Try.sizeBool rfl rfl ?_; intro w6 hr6 hk6; refine Hid.out ?_))
      refine hid ?_
      rw [elC_del hkl] at hr6
      have Q6 := Q4.put hr6 hkl hk6 Q4.ov
      obtain ⟨z1, z2, z3, z4⟩ := (FIN _ _ _ _ _).out Q6
      have Z1 := hid z1
      have Z2 := hid z2
      have Z3 := hid z3
      have Z4 := hid z4
      clear z1 z2 z3 z4 FIN Q4 R5 LJ hk6
      go_wp2_with (first | (refine wpList_load_row rfl 54 _ rfl w.heap.size rfl 54 _ (0, 0) _ Z1.out Try.underlying54 rfl Z2.out ?_) | (refine wpList_storeRowW rfl 54 _ _ rfl w.heap.size (elC true key true (.slice none 0 0)) rfl rfl 54 _ Z1.out Z3.out rfl Z4.out ?_; intro wz hrz hkz))
      have QZ := Q6.put hrz hkl hkz Q6.ov
      refine bodyPost_ret (results_c1 Try.results69 _ _ w.heap.size 54 _ (0, 0) _ rfl hrz Try.underlying54 rfl Z2.out) rfl ?_
      obtain rfl := hkk.out
      obtain rfl := hRR.out
      exact ⟨_, rfl, QZ.ov, hkl, QZ.rk, QZ.kp⟩
    · have e2 : (mk == 2) = false := beq_eq_false_iff_ne.2 m2
      have c4 := Q4.rk.wcell
      have fz : w4.frozen? ⟨g, 1, none⟩ = false := by obtain ⟨o, cp, hr, _⟩ := Q4.rk.row; exact frozen_of_row _ _ _ _ _ hr
      have hkw := (Keeps.refl g w4).setCell 1 (.bool true)
      have Q6 := Q4.call (Q4.rk.wrong (w1 := w4.setCell ⟨g, 1, none⟩ (.bool true)) (fun x y h => heap_set1 h) hkw) hkw
      obtain ⟨z1, z2, z3, z4⟩ := (FIN _ _ _ _ _).out Q6
      have Z1 := hid z1
      have Z2 := hid z2
      have Z3 := hid z3
      have Z4 := hid z4
      have M1 := hid m1
      have M2 := hid m2
      clear z1 z2 z3 z4 FIN Q4 hkw m1 m2
      go_wp2_with (first | (refine wpList_load_row rfl 54 _ rfl w.heap.size rfl 54 _ (0, 0) _ Z1.out Try.underlying54 rfl Z2.out ?_) | (refine wpList_storeRowW rfl 54 _ _ rfl w.heap.size (elC true key false (.slice none 0 0)) rfl rfl 54 _ Z1.out Z3.out rfl Z4.out ?_; intro wz hrz hkz))
      have QZ := Q6.put hrz hkl hkz Q6.ov
      refine bodyPost_ret (results_c1 Try.results69 _ _ w.heap.size 54 _ (0, 0) _ rfl hrz Try.underlying54 rfl Z2.out) rfl ?_
      obtain rfl := hkk.out
      obtain rfl := hRR.out
      exact ⟨_, rfl, QZ.ov, hkl, QZ.rk, QZ.kp⟩
set_option maxRecDepth 100000 in
set_option maxHeartbeats 4000000 in
theorem changes_any (w0 w : World) (g b : Nat) (R : Rd) (hy : Bys R.rest) (h : RK w0 w g b R) :
    Calls Try.prog 48 #[.pointer (some ⟨g, 0, none⟩)] w fun e w' => ∃ v ms, e = .returned v ∧ ElO true w' w.heap.size v ms (lsP true R).1 ∧ RK w0 w' g b (lsP true R).2 ∧ Keeps g w w' ∧ DjM ms := by
  have KN := hid (numberUpTo_any w0 w g b R hy h 4096 4 (by omega))
  have hb := upV_bd R 4096 4 hy (by omega) (by omega)
  have hg := h.lt
  have hy1 := upS_bys hy 4096 4
  unfold lsP
  generalize hR1 : upS R 4096 4 = R1 at *
  generalize hx : upV R 4096 4 = x at *
  clear hR1 hx h hy
  obtain ⟨n, rfl⟩ := Int.eq_ofNat_of_zero_le hb.1
  rw [Int.toNat_natCast]
  have i0 : (n : Int) ≤ 4096 := hb.2
  clear hb
  go_enter Try.func48, Try.ntmps48
  go_wp2_with fail
  refine KN.out.mono ?_
  rintro e w1 ⟨rfl, hK, hk⟩
  clear KN
  go_wp2
  go_loopw [2, 6] (fun v i wr => ∃ (k : Nat) (R' : Rd) (acc : List Cg) (ms : List ME), k ≤ n ∧ i = .int .i64 k ∧ liP true (n - k) R' acc = liP true n R1 [] ∧ acc.length = k ∧ Bys R'.rest ∧ ElO true wr w.heap.size v ms acc ∧ RK w0 wr g b R' ∧ Keeps g w wr ∧ DjM ms) (fun _ i _ => n - (intOf i).toNat)
  case atStart => exact ⟨0, R1, [], [], Nat.zero_le _, rfl, rfl, rfl, hy1, ElO.nil _ _ _, hK, hk, DjM.nil⟩
  case round =>
    clear hK hk
    obtain ⟨k, R', acc, ms, hkn, rfl, hli, hal, hyr, hE, hK, hk, hDJ⟩ := hrel
    by_cases hlt' : k < n
    · have i1 : (k : Int) < (n : Int) := by omega
      have HLI := hid hli
      have HAL := hid hal
      clear hli hal
      have KT := hid (change_any w0 wr g b R' hyr hK)
      go_wp2_with fail
      refine KT.out.mono ?_
      rintro e w2 ⟨v4, rfl, O4, hkl, hK2, hk2⟩
      have HS := hid (show elS true R' = cgS R' from rfl)
      have HV := hid (show elV true R' = cgV R' from rfl)
      have hy5 := elS_bys hyr true
      rw [HS.out] at hy5
      generalize hx : cgV R' = x at *
      generalize hR2 : cgS R' = R2 at *
      clear hx hR2 KT
      have SE := hid (show (Try.prog.info? 54).map (·.size) = some (elC true x.key x.del v4).length by rw [elC_len hkl]; exact Try.sizeChg)
      have SL := hid (show (elC true z32 false (.slice none 0 0)).length = (elC true x.key x.del v4).length by rw [elC_len hkl, elC_len z32_len])
      have C4 := O4.cells
      go_wp2_with (first
        | (refine wpList_allocV allocChg rfl rfl ?_)
        | (refine wpList_storeRowW rfl 54 _ _ rfl w2.heap.size (elC true x.key x.del v4) rfl rfl 54 _ (hnew w2 (.cells (elC true z32 false (.slice none 0 0)).toArray 54)) SE.out SL.out (elC_one C4.2) ?_; intro w5 hr5 hk5; refine Hid.out ?_))
      refine hid ?_
      have hb5 : Below w2.heap.size w2 w5 := ((Below.refl w2.heap.size w2).alloc (Nat.le_refl _) _).trans (hk5.below_g (Nat.le_refl _) (by simp))
      have hg2 : g < w2.heap.size := hK2.lt
      have hK5 := hK2.keep (hb5.mono hg2)
      have q5 : Keeps g wr w5 := hk2.trans_b hb5
      have DJ4 := hid (hDJ.snoc (m := ⟨x.key, x.del, v4⟩) hE O4 (Nat.le_refl _))
      have O5 : Own w5 w.heap.size v4 x.val := own_lower (O4.below hb5 (Nat.le_refl _)) hk.size
      have E5 := hE.keeps q5 hg
      have k5 : Keeps g w w5 := hk.trans q5
      have c5 := hK5.wcell
      clear hk5 O4 q5 hE hK hK2 hk2 SE SL hb5
      cases hw : R2.wrong with
      | true =>
        rw [hw] at c5
        have HW := hid hw
        clear hw
        go_wp2
        go_ret
        have e : liP true n R1 [] = ([], R2) := by
          rw [← HLI.out, show n - k = (n - k - 1) + 1 by omega]
          unfold liP
          rw [HS.out, if_pos HW.out]
        rw [e]
        exact ⟨_, [], rfl, ElO.nil _ _ _, hK5, k5, DjM.nil⟩
      | false =>
        rw [hw] at c5
        have HW := hid hw
        clear hw
        have hr5' := hid hr5
        have SE := hid (show (Try.prog.info? 54).map (·.size) = some (elC true x.key x.del v4).toArray.size by rw [List.size_toArray, elC_len hkl]; exact Try.sizeChg)
        have EL := hid (show (elC true x.key x.del v4).length = szE true from elC_len hkl)
        have ML := hid (show ms.length + 1 ≤ 1000000000000 by rw [E5.len, HAL.out]; omega)
        have hbz : w.heap.size ≤ w5.heap.size := k5.size
        have CO := hid C4.2
        go_wp2_with (first
          | (refine wpList_load_row rfl 54 _ rfl w2.heap.size rfl 54 _ (0, 0) _ hr5'.out Try.underlying54 rfl SE.out ?_)
          | (refine wpList_sliceL true rfl _ rfl (elC true x.key x.del v4) EL.out rfl ?_)
          | (at_builtin; refine wpList_pushL true rfl (.tmp 14) (.tmp 16) rfl w.heap.size _ ms ⟨x.key, x.del, v4⟩ rfl E5.own rfl EL.out (elC_one CO.out) ML.out hbz _ _ ?_; intro v6 w6 O6 hg6))
        have hb6 : Below w.heap.size w5 w6 := grown_keeps hg6 (fun k hk => (E5.own.block k hk).1) hbz
        go_roundw
        case rel =>
          refine ⟨k + 1, R2, acc ++ [x], ms ++ [⟨x.key, x.del, v4⟩], by omega, by go_num, ?_, by rw [List.length_append, HAL.out]; rfl, hy5, E5.snoc ⟨x.key, x.del, v4⟩ x O6 hg6 rfl hkl rfl O5, hK5.keep (hb6.mono hg), k5.then hb6, DJ4.out⟩
          rw [← HLI.out, show n - k = (n - (k + 1)) + 1 by omega]
          conv => rhs; unfold liP
          rw [HS.out, HV.out, if_neg (by rw [HW.out]; simp)]
        case measure => simp [intOf]; omega
    · obtain rfl : k = n := by omega
      have e : liP true (k - k) R' acc = (acc, R') := by rw [Nat.sub_self]; rfl
      rw [e] at hli
      clear hlt'
      have HLI := hid hli
      clear hli
      go_wp2
      go_ret
      rw [← HLI.out]
      exact ⟨_, ms, rfl, hE, hK, hk, hDJ⟩
end Go.Proofs.Ytenfklcgkfaajaa
