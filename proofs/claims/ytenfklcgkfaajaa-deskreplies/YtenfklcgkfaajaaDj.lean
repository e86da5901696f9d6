import Derived.Test.YtenfklcgkfaajaaDk63
import Derived.Test.YtenfklcgkfaajaaDk41
namespace Go.Proofs.Ytenfklcgkfaajaa
set_option linter.unusedVariables false
set_option linter.unusedSimpArgs false
open Go.RowKit
attribute [local go_sem ↓] Go.wp_at_zero Go.wp_at_succ

set_option maxRecDepth 100000 in
set_option maxHeartbeats 4000000 in
theorem refRep_6 (w : World) (r : Rp) (hB : RpB r) (vs rs ls cs : Option Addr) (vc rc lc cc : Nat) (hI : RpI w r vs rs ls cs vc rc lc cc) (he : r.err = 0) (hF : fdF 6 r = true) :
    Calls Try.prog 23 #[.int .i64 6, .agg (rpV r vs rs ls cs vc rc lc cc).toArray] w fun e w' => ∃ v, e = .returned (.tuple #[v, .int .i64 0]) ∧ Own w' w.heap.size v (ryB 6 r) ∧ Below w.heap.size w w' := by
  have L1 := YR.of w (rpV r vs rs ls cs vc rc lc cc)
  have hs1 : (w.alloc (.cells (rpV r vs rs ls cs vc rc lc cc).toArray 32)).heap.size = w.heap.size + 1 := by simp
  have HIL := hid hI.l
  have X1 := RC.of L1.rr hI.l
  have c0 := X1.c0
  rw [he] at c0
  have KP := hid (parts_any (w.alloc (.cells (rpV r vs rs ls cs vc rc lc cc).toArray 32)) 6 (by omega) (by omega))
  rw [show prt 6 = 76 from by decide] at KP
  have KW := hid (Low_any (w.alloc (.cells (rpV r vs rs ls cs vc rc lc cc).toArray 32)) 0 2 (by omega) (by omega) (by omega))
  have SR := hid (show (Try.prog.info? 32).map (·.size) = some (rpV r vs rs ls cs vc rc lc cc).toArray.size from (repSizes hI.l).1)
  have HE := hid he
  have hlf : lsF false r.list = true := by unfold fdF at hF; simpa using hF
  have hln : r.list.length ≤ 4096 := by unfold lsF at hlf; simp at hlf; omega
  have hfa : ∀ x ∈ r.list, elF false x = true := by unfold lsF at hlf; simp at hlf; exact fun x hx => hlf.2 x hx
  have hel0 := hI.sl
  obtain ⟨nl, _, _, b, o, hbo, hel⟩ := hel0
  have hall : ∀ x ∈ r.list, x.key.length = 32 ∧ elF false x = true := fun x hx => by
    obtain ⟨i, hi, e⟩ := List.mem_iff_getElem.1 hx
    obtain ⟨_, _, _, r2, _⟩ := hel i hi
    rw [List.getD_eq_getElem?_getD, List.getElem?_eq_getElem hi] at r2
    simp only [Option.getD_some] at r2
    rw [e] at r2
    exact ⟨r2, hfa x hx⟩
  have j0 : (r.list.length : Int) ≤ 4096 := by omega
  obtain ⟨mx, hmx⟩ : ∃ mx : Int, (if r.more = true then 1 else 0) = mx := ⟨_, rfl⟩
  have HMX := hid hmx
  have HQ := hid (show ryB 6 r = lowN 0 2 ++ [mx] ++ lowN (r.list.length : Int) 4 ++ r.list.flatMap (elB false) by unfold ryB; rw [he, if_pos rfl]; rw [show fdB 6 r = [mx] ++ (lowN (r.list.length : Int) 4 ++ r.list.flatMap (elB false)) from by rw [← hmx]; rfl]; simp only [List.append_assoc])
  clear hmx
  clear X1
  go_enter Try.func23, Try.ntmps23
  go_wp2_with (first | (go_at_call 30; refine KP.out.mono ?_; rintro e w' ⟨rfl, hw'⟩; obtain rfl := hw'.symm; refine Hid.out ?_))
  refine hid ?_
  generalize (w.alloc (.cells (rpV r vs rs ls cs vc rc lc cc).toArray 32)) = w1 at *
  go_wp2_with fail
  refine KW.out.mono ?_
  clear KW KP
  rintro e w2 ⟨v2, rfl, O2, hb2⟩
  have L2 := L1.call (hb2.mono (by omega))
  have c2 := (RC.of L2.rr HIL.out).c0
  rw [he] at c2
  have KF := hid (xfits_any w2 6 (by omega) (by omega) r hB vs rs ls cs vc rc lc cc (hI.below L2.bel))
  rw [hF] at KF
  have R2 := hid L2.rr
  rw [hs1] at O2
  replace hF := hid hF
  clear c0 he L1 hb2 hs1
  go_wp2_with (first | (refine wpList_load_row rfl 32 _ rfl w.heap.size rfl 32 _ (0, 0) _ R2.out Try.underlying32 rfl SR.out ?_) | (go_at_call 38; refine KF.out.mono ?_; rintro e w3 ⟨rfl, hb3⟩; refine Hid.out ?_))
  refine hid ?_
  have L3 := L2.call (hb3.mono L2.sz)
  have O3 := O2.below hb3 (Nat.le_refl _)
  generalize hz3 : lowN 0 2 = z3 at O3
  have HN3 := hid (show z3.length ≤ 2 by rw [← hz3, lowN_len]; exact Nat.le_refl _)
  replace hz3 := hid hz3
  generalize v2 = v3 at *
  clear c2 KF R2 SR L2 O2 hb3
  have X3 := RC.of L3.rr HIL.out
  have d3 := X3.c3
  have KW := hid (xflag_to w3 r.more mx HMX.out)
  go_wp2_with fail
  refine KW.out.mono ?_
  clear KW
  rintro e w' ⟨rfl, hw'⟩
  obtain rfl := hw'.symm
  have KL4 := hid (show z3.length + 1 ≤ 140737488355328 by have := HN3.out; omega)
  go_wp2_with (first | (at_builtin; refine wpList_push_any rfl (.tmp 78) (.tmp 82) rfl (w.heap.size + 1) v3 z3 mx rfl O3 rfl KL4.out L3.sz _ _ ?_; intro v4 w4 O4 hB4; refine Hid.out ?_))
  refine hid ?_
  have L4 := L3.call hB4
  generalize hz4 : z3 ++ ([mx]) = z4 at O4
  have HN4 := hid (show z4.length ≤ 2 + 1 by rw [← hz4, List.length_append]; simp only [List.length_singleton]; have := HN3.out; omega)
  replace hz4 := hid hz4
  clear hB4 KL4 O3 L3
  clear d3
  have X4 := RC.of L4.rr HIL.out
  have d38 := X4.c38
  have KW := hid (Low_any w4 (r.list.length : Int) 4 (by omega) (by omega) (by omega))
  go_wp2_with fail
  refine KW.out.mono ?_
  clear KW
  rintro e x5 ⟨u5, rfl, P5, hb5⟩
  have M5 := L4.call (hb5.mono L4.sz)
  have N5 := O4.below hb5 (Nat.le_refl _)
  obtain ⟨s5, c5, rfl, SS5, n5⟩ := P5.form
  have KL5 := hid (show z4.length + (lowN (r.list.length : Int) 4).length ≤ 140737488355328 by rw [lowN_len]; have := HN4.out; omega)
  go_wp2_with (first | (at_builtin; refine wpList_append_wide3 rfl (.tmp 84) (.tmp 88) rfl (w.heap.size + 1) v4 z4 (lowN (r.list.length : Int) 4) rfl N5 s5 c5 rfl n5 SS5 KL5.out M5.sz ?_; intro v5 w5 O5 hg5 hd5; refine Hid.out ?_))
  refine hid ?_
  have L5 := M5.call (grown_keeps hg5 (fun k hk => (N5.block k hk).1) M5.sz)
  generalize hz5 : z4 ++ (lowN (r.list.length : Int) 4) = z5 at O5
  have HN5 := hid (show z5.length ≤ 2 + 1 + 4 by rw [← hz5, List.length_append]; rw [lowN_len]; have := HN4.out; omega)
  replace hz5 := hid hz5
  clear hg5 hd5 KL5 O4 L4
  clear M5 N5 SS5 P5 hb5
  clear d38
  go_wp2
  go_loopw [6, 7] (fun v20 i w20 => ∃ k : Nat, k ≤ r.list.length ∧ i = .int .i64 k ∧ Own w20 (w.heap.size + 1) v20 (z5 ++ (r.list.take k).flatMap (elB false)) ∧ YR w w20 (rpV r vs rs ls cs vc rc lc cc)) (fun _ i _ => r.list.length - (intOf i).toNat)
  case atStart => exact ⟨0, Nat.zero_le _, rfl, by simpa using O5, L5⟩
  case round =>
    clear O5 L5
    obtain ⟨k, hk, rfl, O20, L20⟩ := hrel
    obtain ⟨w20, hw20⟩ : ∃ y, y = wr := ⟨_, rfl⟩
    subst hw20
    obtain ⟨v20, hv20⟩ : ∃ y, y = u6 := ⟨_, rfl⟩
    subst hv20
    by_cases hlt' : k < r.list.length
    · skip
      have i1 : (k : Int) < (r.list.length : Int) := by omega
      obtain ⟨hls, hbl⟩ := hbo (by omega)
      subst hls
      obtain ⟨s, p, rg, kl, Sv, nv⟩ := hel k hlt'
      have hfx := hfa _ (getD_mem (d := dX) hlt')
      have hsz : ((r.list.take k).flatMap (elB false)).length ≤ 4096 * 163 := by
        have a := lsB_len (c := false) (r.list.take k) (fun x hx => hall x (List.mem_of_mem_take hx))
        have b : (r.list.take k).length ≤ 4096 := by rw [List.length_take]; omega
        have c : (r.list.take k).length * 163 ≤ 4096 * 163 := Nat.mul_le_mul_right _ b
        omega
      have HT := hid (show z5 ++ (r.list.take (k + 1)).flatMap (elB false) = z5 ++ (r.list.take k).flatMap (elB false) ++ elB false (r.list.getD k dX) by rw [take_snocC r.list k hlt', List.flatMap_append]; simp)
      have HN20 := hid (show (z5 ++ (r.list.take k).flatMap (elB false)).length ≤ 1000000 by rw [List.length_append]; have := HN5.out; omega)
      generalize hz20 : z5 ++ (r.list.take k).flatMap (elB false) = z20 at *
      replace hz20 := hid hz20
      have HG := hid hbl
      have RG := hid rg
      have HK := hid kl
      have HFX := hid hfx
      generalize hxe : r.list.getD k dX = x at *
      replace hxe := hid hxe
      clear rg hsz hfx hbl kl
      have hvl : x.val.length ≤ 128 := by have := HFX.out; unfold elF at this; simpa using this
      have SK := hid (show (Try.prog.info? 50).map (·.size) = some (ints .u8 x.key).length by rw [ints_len, HK.out]; exact Try.sizeKey)
      have HEL := hid (show elB false x = x.key ++ (lowN (x.val.length : Int) 2 ++ x.val) from rfl)
      have X20 := RC.of L20.rr HIL.out
      have d38 := X20.c38
      obtain ⟨rk, rv⟩ := el_false (rng_below RG.out L20.bel HG.out) HK.out
      change w20.cell? ⟨b, o + k * 33 + 32, none⟩ = _ at rv
      have RK := hid rk
      clear rk
      clear rv
      have KW := hid (xkey_any w20 x.key HK.out)
      go_wp2_with (first | (refine wpList_load_mid rfl 50 _ rfl b (o + k * 33) rfl _ _ RK.out Try.underlying50 rfl SK.out ?_))
      refine KW.out.mono ?_
      clear KW
      rintro e x21 ⟨u21, rfl, P21, hb21⟩
      have M21 := L20.call (hb21.mono L20.sz)
      have N21 := O20.below hb21 (Nat.le_refl _)
      obtain ⟨s21, c21, rfl, SS21, n21⟩ := P21.form
      have KL21 := hid (show z20.length + (x.key).length ≤ 140737488355328 by rw [HK.out]; have := HN20.out; omega)
      go_wp2_with (first | (at_builtin; refine wpList_append_wide3 rfl (.tmp 97) (.tmp 104) rfl (w.heap.size + 1) v20 z20 (x.key) rfl N21 s21 c21 rfl n21 SS21 KL21.out M21.sz ?_; intro v21 w21 O21 hg21 hd21; refine Hid.out ?_))
      refine hid ?_
      have L21 := M21.call (grown_keeps hg21 (fun k hk => (N21.block k hk).1) M21.sz)
      generalize hz21 : z20 ++ (x.key) = z21 at O21
      have HN21 := hid (show z21.length ≤ 1000000 + 32 by rw [← hz21, List.length_append]; rw [HK.out]; have := HN20.out; omega)
      replace hz21 := hid hz21
      clear hg21 hd21 KL21 O20 L20
      clear M21 N21 SS21 P21 hb21
      clear d38 RK
      have X21 := RC.of L21.rr HIL.out
      have d38 := X21.c38
      obtain ⟨rk, rv⟩ := el_false (rng_below RG.out L21.bel HG.out) HK.out
      change w21.cell? ⟨b, o + k * 33 + 32, none⟩ = _ at rv
      have RK := hid rk
      clear rk
      have j3 : (x.val.length : Int) ≤ 128 := by omega
      have KW := hid (Low_any w21 (x.val.length : Int) 2 (by omega) (by omega) (by omega))
      go_wp2_with fail
      refine KW.out.mono ?_
      clear KW
      rintro e x22 ⟨u22, rfl, P22, hb22⟩
      have M22 := L21.call (hb22.mono L21.sz)
      have N22 := O21.below hb22 (Nat.le_refl _)
      obtain ⟨s22, c22, rfl, SS22, n22⟩ := P22.form
      have KL22 := hid (show z21.length + (lowN (x.val.length : Int) 2).length ≤ 140737488355328 by rw [lowN_len]; have := HN21.out; omega)
      go_wp2_with (first | (at_builtin; refine wpList_append_wide3 rfl (.tmp 106) (.tmp 114) rfl (w.heap.size + 1) v21 z21 (lowN (x.val.length : Int) 2) rfl N22 s22 c22 rfl n22 SS22 KL22.out M22.sz ?_; intro v22 w22 O22 hg22 hd22; refine Hid.out ?_))
      refine hid ?_
      have L22 := M22.call (grown_keeps hg22 (fun k hk => (N22.block k hk).1) M22.sz)
      generalize hz22 : z21 ++ (lowN (x.val.length : Int) 2) = z22 at O22
      have HN22 := hid (show z22.length ≤ 1000000 + 32 + 2 by rw [← hz22, List.length_append]; rw [lowN_len]; have := HN21.out; omega)
      replace hz22 := hid hz22
      clear hg22 hd22 KL22 O21 L21
      clear M22 N22 SS22 P22 hb22
      clear d38 RK rv
      have X22 := RC.of L22.rr HIL.out
      have d38 := X22.c38
      obtain ⟨rk, rv⟩ := el_false (rng_below RG.out L22.bel HG.out) HK.out
      change w22.cell? ⟨b, o + k * 33 + 32, none⟩ = _ at rv
      have RK := hid rk
      clear rk
      have SS := hid (Sv.below L22.bel (Nat.le_refl _))
      have KL23 := hid (show z22.length + (x.val).length ≤ 140737488355328 by have := HN22.out; omega)
      go_wp2_with (first | (at_builtin; refine wpList_append_wide3 rfl (.tmp 116) (.tmp 122) rfl (w.heap.size + 1) v22 z22 (x.val) rfl O22 s p rfl nv SS.out KL23.out L22.sz ?_; intro v23 w23 O23 hg23 hd23; refine Hid.out ?_))
      refine hid ?_
      have L23 := L22.call (grown_keeps hg23 (fun k hk => (O22.block k hk).1) L22.sz)
      generalize hz23 : z22 ++ (x.val) = z23 at O23
      have HN23 := hid (show z23.length ≤ 1000000 + 32 + 2 + 128 by rw [← hz23, List.length_append]; have := HN22.out; omega)
      replace hz23 := hid hz23
      clear hg23 hd23 KL23 O22 L22
      clear d38 RK rv
      go_wp2
      go_roundw
      case rel =>
        have OF := O23
        rw [← hz23.out, ← hz22.out, ← hz21.out] at OF
        exact ⟨k + 1, by omega, by go_num, by rw [HT.out, HEL.out, ← List.append_assoc, ← List.append_assoc]; exact OF, L23⟩
      case measure => simp [intOf]; omega
    · skip
      obtain rfl : k = r.list.length := by omega
      rw [List.take_length] at O20
      clear hlt'
      have X20 := RC.of L20.rr HIL.out
      have d38 := X20.c38
      go_wp2
      refine bodyPost_ret (results_tmp2 Try.results23 _ _ _) rfl ?_
      refine ⟨_, rfl, ?_, L20.bel⟩
      rw [HQ.out]
      rw [← hz5.out, ← hz4.out, ← hz3.out] at O20
      exact own_lower O20 (by omega)
end Go.Proofs.Ytenfklcgkfaajaa
namespace Go.Proofs.Ytenfklcgkfaajaa
set_option linter.unusedVariables false
set_option linter.unusedSimpArgs false
open Go.RowKit
attribute [local go_sem ↓] Go.wp_at_zero Go.wp_at_succ

set_option maxRecDepth 100000 in
set_option maxHeartbeats 4000000 in
theorem refRep_7 (w : World) (r : Rp) (hB : RpB r) (vs rs ls cs : Option Addr) (vc rc lc cc : Nat) (hI : RpI w r vs rs ls cs vc rc lc cc) (he : r.err = 0) (hF : fdF 7 r = true) :
    Calls Try.prog 23 #[.int .i64 7, .agg (rpV r vs rs ls cs vc rc lc cc).toArray] w fun e w' => ∃ v, e = .returned (.tuple #[v, .int .i64 0]) ∧ Own w' w.heap.size v (ryB 7 r) ∧ Below w.heap.size w w' := by
  have L1 := YR.of w (rpV r vs rs ls cs vc rc lc cc)
  have hs1 : (w.alloc (.cells (rpV r vs rs ls cs vc rc lc cc).toArray 32)).heap.size = w.heap.size + 1 := by simp
  have HIL := hid hI.l
  have X1 := RC.of L1.rr hI.l
  have c0 := X1.c0
  rw [he] at c0
  have KP := hid (parts_any (w.alloc (.cells (rpV r vs rs ls cs vc rc lc cc).toArray 32)) 7 (by omega) (by omega))
  rw [show prt 7 = 16 from by decide] at KP
  have KW := hid (Low_any (w.alloc (.cells (rpV r vs rs ls cs vc rc lc cc).toArray 32)) 0 2 (by omega) (by omega) (by omega))
  have SR := hid (show (Try.prog.info? 32).map (·.size) = some (rpV r vs rs ls cs vc rc lc cc).toArray.size from (repSizes hI.l).1)
  have HE := hid he
  have hlf : lsF true r.chs = true := by unfold fdF at hF; simpa using hF
  have hln : r.chs.length ≤ 4096 := by unfold lsF at hlf; simp at hlf; omega
  have hfa : ∀ x ∈ r.chs, elF true x = true := by unfold lsF at hlf; simp at hlf; exact fun x hx => hlf.2 x hx
  have hel0 := hI.sc
  obtain ⟨nl, _, _, b, o, hbo, hel⟩ := hel0
  have hall : ∀ x ∈ r.chs, x.key.length = 32 ∧ elF true x = true := fun x hx => by
    obtain ⟨i, hi, e⟩ := List.mem_iff_getElem.1 hx
    obtain ⟨_, _, _, r2, _⟩ := hel i hi
    rw [List.getD_eq_getElem?_getD, List.getElem?_eq_getElem hi] at r2
    simp only [Option.getD_some] at r2
    rw [e] at r2
    exact ⟨r2, hfa x hx⟩
  have j0 : (r.chs.length : Int) ≤ 4096 := by omega
  have HQ := hid (show ryB 7 r = lowN 0 2 ++ lowN (r.chs.length : Int) 4 ++ r.chs.flatMap (elB true) by unfold ryB; rw [he, if_pos rfl]; rw [show fdB 7 r = lowN (r.chs.length : Int) 4 ++ r.chs.flatMap (elB true) from rfl]; simp only [List.append_assoc])
  clear X1
  go_enter Try.func23, Try.ntmps23
  go_wp2_with (first | (go_at_call 30; refine KP.out.mono ?_; rintro e w' ⟨rfl, hw'⟩; obtain rfl := hw'.symm; refine Hid.out ?_))
  refine hid ?_
  generalize (w.alloc (.cells (rpV r vs rs ls cs vc rc lc cc).toArray 32)) = w1 at *
  go_wp2_with fail
  refine KW.out.mono ?_
  clear KW KP
  rintro e w2 ⟨v2, rfl, O2, hb2⟩
  have L2 := L1.call (hb2.mono (by omega))
  have c2 := (RC.of L2.rr HIL.out).c0
  rw [he] at c2
  have KF := hid (xfits_any w2 7 (by omega) (by omega) r hB vs rs ls cs vc rc lc cc (hI.below L2.bel))
  rw [hF] at KF
  have R2 := hid L2.rr
  rw [hs1] at O2
  replace hF := hid hF
  clear c0 he L1 hb2 hs1
  go_wp2_with (first | (refine wpList_load_row rfl 32 _ rfl w.heap.size rfl 32 _ (0, 0) _ R2.out Try.underlying32 rfl SR.out ?_) | (go_at_call 38; refine KF.out.mono ?_; rintro e w3 ⟨rfl, hb3⟩; refine Hid.out ?_))
  refine hid ?_
  have L3 := L2.call (hb3.mono L2.sz)
  have O3 := O2.below hb3 (Nat.le_refl _)
  generalize hz3 : lowN 0 2 = z3 at O3
  have HN3 := hid (show z3.length ≤ 2 by rw [← hz3, lowN_len]; exact Nat.le_refl _)
  replace hz3 := hid hz3
  generalize v2 = v3 at *
  clear c2 KF R2 SR L2 O2 hb3
  have X3 := RC.of L3.rr HIL.out
  have d39 := X3.c39
  have KW := hid (Low_any w3 (r.chs.length : Int) 4 (by omega) (by omega) (by omega))
  go_wp2_with fail
  refine KW.out.mono ?_
  clear KW
  rintro e x4 ⟨u4, rfl, P4, hb4⟩
  have M4 := L3.call (hb4.mono L3.sz)
  have N4 := O3.below hb4 (Nat.le_refl _)
  obtain ⟨s4, c4, rfl, SS4, n4⟩ := P4.form
  have KL4 := hid (show z3.length + (lowN (r.chs.length : Int) 4).length ≤ 140737488355328 by rw [lowN_len]; have := HN3.out; omega)
  go_wp2_with (first | (at_builtin; refine wpList_append_wide3 rfl (.tmp 126) (.tmp 130) rfl (w.heap.size + 1) v3 z3 (lowN (r.chs.length : Int) 4) rfl N4 s4 c4 rfl n4 SS4 KL4.out M4.sz ?_; intro v4 w4 O4 hg4 hd4; refine Hid.out ?_))
  refine hid ?_
  have L4 := M4.call (grown_keeps hg4 (fun k hk => (N4.block k hk).1) M4.sz)
  generalize hz4 : z3 ++ (lowN (r.chs.length : Int) 4) = z4 at O4
  have HN4 := hid (show z4.length ≤ 2 + 4 by rw [← hz4, List.length_append]; rw [lowN_len]; have := HN3.out; omega)
  replace hz4 := hid hz4
  clear hg4 hd4 KL4 O3 L3
  clear M4 N4 SS4 P4 hb4
  clear d39
  go_wp2
  go_loopw [6, 8] (fun v20 i w20 => ∃ k : Nat, k ≤ r.chs.length ∧ i = .int .i64 k ∧ Own w20 (w.heap.size + 1) v20 (z4 ++ (r.chs.take k).flatMap (elB true)) ∧ YR w w20 (rpV r vs rs ls cs vc rc lc cc)) (fun _ i _ => r.chs.length - (intOf i).toNat)
  case atStart => exact ⟨0, Nat.zero_le _, rfl, by simpa using O4, L4⟩
  case round =>
    clear O4 L4
    obtain ⟨k, hk, rfl, O20, L20⟩ := hrel
    obtain ⟨w20, hw20⟩ : ∃ y, y = wr := ⟨_, rfl⟩
    subst hw20
    obtain ⟨v20, hv20⟩ : ∃ y, y = u6 := ⟨_, rfl⟩
    subst hv20
    by_cases hlt' : k < r.chs.length
    · skip
      have i1 : (k : Int) < (r.chs.length : Int) := by omega
      obtain ⟨hls, hbl⟩ := hbo (by omega)
      subst hls
      obtain ⟨s, p, rg, kl, Sv, nv⟩ := hel k hlt'
      have hfx := hfa _ (getD_mem (d := dX) hlt')
      have hsz : ((r.chs.take k).flatMap (elB true)).length ≤ 4096 * 163 := by
        have a := lsB_len (c := true) (r.chs.take k) (fun x hx => hall x (List.mem_of_mem_take hx))
        have b : (r.chs.take k).length ≤ 4096 := by rw [List.length_take]; omega
        have c : (r.chs.take k).length * 163 ≤ 4096 * 163 := Nat.mul_le_mul_right _ b
        omega
      have HT := hid (show z4 ++ (r.chs.take (k + 1)).flatMap (elB true) = z4 ++ (r.chs.take k).flatMap (elB true) ++ elB true (r.chs.getD k dX) by rw [take_snocC r.chs k hlt', List.flatMap_append]; simp)
      have HN20 := hid (show (z4 ++ (r.chs.take k).flatMap (elB true)).length ≤ 1000000 by rw [List.length_append]; have := HN4.out; omega)
      generalize hz20 : z4 ++ (r.chs.take k).flatMap (elB true) = z20 at *
      replace hz20 := hid hz20
      have HG := hid hbl
      have RG := hid rg
      have HK := hid kl
      have HFX := hid hfx
      generalize hxe : r.chs.getD k dX = x at *
      replace hxe := hid hxe
      clear rg hsz hfx hbl kl
      have SE := hid (show (Try.prog.info? 54).map (·.size) = some (elC true x.key x.del (.slice s x.val.length p)).length by rw [elC_len HK.out]; exact Try.sizeChg)
      have SLn := hid (show (elC true z32 false (.slice none 0 0)).length = (elC true x.key x.del (.slice s x.val.length p)).length from (elC_len z32_len).trans (elC_len HK.out).symm)
      have SK := hid (show (Try.prog.info? 50).map (·.size) = some (ints .u8 x.key).length by rw [ints_len, HK.out]; exact Try.sizeKey)
      have X20 := RC.of L20.rr HIL.out
      have d39 := X20.c39
      have rgr := hid (rng_below RG.out L20.bel HG.out)
      go_wp2_with (first
        | (refine wpList_load_mid rfl 54 _ rfl b (o + k * 34) rfl (elC true x.key x.del (.slice s x.val.length p)) _ rgr.out Try.underlying54 rfl SE.out ?_)
        | (refine wpList_allocV allocChg rfl rfl ?_)
        | (refine wpList_storeRowW rfl 54 _ _ rfl w20.heap.size (elC true x.key x.del (.slice s x.val.length p)) rfl rfl 54 _ (hnew w20 (.cells (elC true z32 false (.slice none 0 0)).toArray 54)) SE.out SLn.out (elC_one rfl) ?_; intro w21 hr21 hk21; refine Hid.out ?_))
      refine hid ?_
      have hb21 : Below w20.heap.size w20 w21 := ((Below.refl w20.heap.size w20).alloc (Nat.le_refl _) _).trans (hk21.below_g (Nat.le_refl _) (by simp))
      have L21 := L20.call (hb21.mono L20.sz)
      have NE21 := hid (show v20.ownBlock ≠ some w20.heap.size from fun e => by have := (O20.block _ e).2; omega)
      have O21 := O20.below hb21 (Nat.le_refl _)
      have R21 := hid hr21
      generalize v20 = v21 at *
      have HN21 := hid (show z20.length ≤ 1000000 from HN20.out)
      obtain ⟨_, _, dl⟩ := el_true (rng hr21) HK.out
      rw [Nat.zero_add] at dl
      clear d39 X20 rgr hk21 hb21 hr21 L20 O20 HN20 SE SLn
      generalize z20 = z21 at *
      generalize hgb : w20.heap.size = gb at *
      replace hgb := hid hgb
      cases hd : x.del with
      | true =>
        rw [hd] at dl
        have HEL := hid (show elB true x = [2] ++ x.key by unfold elB; rw [if_pos rfl, hd]; rfl)
        clear hd
        have KL22 := hid (show z21.length + 1 ≤ 140737488355328 by have := HN21.out; omega)
        go_wp2_with (first | (at_builtin; refine wpList_push_away rfl (.tmp 146) (.tmp 147) rfl (w.heap.size + 1) v21 z21 2 rfl O21 rfl KL22.out L21.sz _ _ ?_; intro v22 w22 O22 hB22 hA22; refine Hid.out ?_))
        refine hid ?_
        have L22 := L21.call hB22
        have R22 := hid ((hA22 _ (hlt R21.out) NE21.out).1.trans R21.out)
        have NE22 := hid ((hA22 _ (hlt R21.out) NE21.out).2)
        generalize hz22 : z21 ++ ([2]) = z22 at O22
        have HN22 := hid (show z22.length ≤ 1000000 + 1 by rw [← hz22, List.length_append]; simp only [List.length_singleton]; have := HN21.out; omega)
        replace hz22 := hid hz22
        clear hB22 hA22 KL22 O21 L21
        clear dl
        obtain ⟨rk, rv, _⟩ := el_true (rng R22.out) HK.out
        rw [Nat.zero_add] at rv
        have RK := hid rk
        clear rk
        clear rv
        have KW := hid (xkey_any w22 x.key HK.out)
        go_wp2_with (first | (refine wpList_load_mid rfl 50 _ rfl gb 0 rfl _ _ RK.out Try.underlying50 rfl SK.out ?_))
        refine KW.out.mono ?_
        clear KW
        rintro e x23 ⟨u23, rfl, P23, hb23⟩
        have M23 := L22.call (hb23.mono L22.sz)
        have N23 := O22.below hb23 (Nat.le_refl _)
        obtain ⟨s23, c23, rfl, SS23, n23⟩ := P23.form
        have Q23 := hid (hbel hb23 R22.out (hlt R22.out))
        have KL23 := hid (show z22.length + (x.key).length ≤ 140737488355328 by rw [HK.out]; have := HN22.out; omega)
        go_wp2_with (first | (at_builtin; refine wpList_append_wide3 rfl (.tmp 149) (.tmp 152) rfl (w.heap.size + 1) v22 z22 (x.key) rfl N23 s23 c23 rfl n23 SS23 KL23.out M23.sz ?_; intro v23 w23 O23 hg23 hd23; refine Hid.out ?_))
        refine hid ?_
        have L23 := M23.call (grown_keeps hg23 (fun k hk => (N23.block k hk).1) M23.sz)
        have R23 := hid ((hg23.block _ (hlt Q23.out) (fun e => NE22.out e.symm)).trans Q23.out)
        have NE23 := hid ((away_grown hg23 hd23 _ (hlt Q23.out) NE22.out).2)
        generalize hz23 : z22 ++ (x.key) = z23 at O23
        have HN23 := hid (show z23.length ≤ 1000000 + 1 + 32 by rw [← hz23, List.length_append]; rw [HK.out]; have := HN22.out; omega)
        replace hz23 := hid hz23
        clear hg23 hd23 KL23 O22 L22
        clear M23 N23 SS23 P23 hb23
        clear RK
        go_wp2
        go_roundw
        case rel =>
          have OF := O23
          rw [← hz23.out, ← hz22.out] at OF
          exact ⟨k + 1, by omega, by go_num, by rw [HT.out, HEL.out, ← List.append_assoc]; exact OF, L23⟩
        case measure => simp [intOf]; omega
      | false =>
        rw [hd] at dl
        have hvl : x.val.length ≤ 128 := by have := HFX.out; unfold elF at this; rw [hd] at this; simpa using this
        have HEL := hid (show elB true x = [1] ++ (x.key ++ (lowN (x.val.length : Int) 2 ++ x.val)) by unfold elB; rw [if_pos rfl, hd]; unfold vaB; simp)
        have j3 : (x.val.length : Int) ≤ 128 := by omega
        clear hd
        have KL22 := hid (show z21.length + 1 ≤ 140737488355328 by have := HN21.out; omega)
        go_wp2_with (first | (at_builtin; refine wpList_push_away rfl (.tmp 154) (.tmp 155) rfl (w.heap.size + 1) v21 z21 1 rfl O21 rfl KL22.out L21.sz _ _ ?_; intro v22 w22 O22 hB22 hA22; refine Hid.out ?_))
        refine hid ?_
        have L22 := L21.call hB22
        have R22 := hid ((hA22 _ (hlt R21.out) NE21.out).1.trans R21.out)
        have NE22 := hid ((hA22 _ (hlt R21.out) NE21.out).2)
        generalize hz22 : z21 ++ ([1]) = z22 at O22
        have HN22 := hid (show z22.length ≤ 1000000 + 1 by rw [← hz22, List.length_append]; simp only [List.length_singleton]; have := HN21.out; omega)
        replace hz22 := hid hz22
        clear hB22 hA22 KL22 O21 L21
        clear dl
        obtain ⟨rk, rv, _⟩ := el_true (rng R22.out) HK.out
        rw [Nat.zero_add] at rv
        have RK := hid rk
        clear rk
        clear rv
        have KW := hid (xkey_any w22 x.key HK.out)
        go_wp2_with (first | (refine wpList_load_mid rfl 50 _ rfl gb 0 rfl _ _ RK.out Try.underlying50 rfl SK.out ?_))
        refine KW.out.mono ?_
        clear KW
        rintro e x23 ⟨u23, rfl, P23, hb23⟩
        have M23 := L22.call (hb23.mono L22.sz)
        have N23 := O22.below hb23 (Nat.le_refl _)
        obtain ⟨s23, c23, rfl, SS23, n23⟩ := P23.form
        have Q23 := hid (hbel hb23 R22.out (hlt R22.out))
        have KL23 := hid (show z22.length + (x.key).length ≤ 140737488355328 by rw [HK.out]; have := HN22.out; omega)
        go_wp2_with (first | (at_builtin; refine wpList_append_wide3 rfl (.tmp 157) (.tmp 160) rfl (w.heap.size + 1) v22 z22 (x.key) rfl N23 s23 c23 rfl n23 SS23 KL23.out M23.sz ?_; intro v23 w23 O23 hg23 hd23; refine Hid.out ?_))
        refine hid ?_
        have L23 := M23.call (grown_keeps hg23 (fun k hk => (N23.block k hk).1) M23.sz)
        have R23 := hid ((hg23.block _ (hlt Q23.out) (fun e => NE22.out e.symm)).trans Q23.out)
        have NE23 := hid ((away_grown hg23 hd23 _ (hlt Q23.out) NE22.out).2)
        generalize hz23 : z22 ++ (x.key) = z23 at O23
        have HN23 := hid (show z23.length ≤ 1000000 + 1 + 32 by rw [← hz23, List.length_append]; rw [HK.out]; have := HN22.out; omega)
        replace hz23 := hid hz23
        clear hg23 hd23 KL23 O22 L22
        clear M23 N23 SS23 P23 hb23
        clear RK
        obtain ⟨rk, rv, _⟩ := el_true (rng R23.out) HK.out
        rw [Nat.zero_add] at rv
        have RK := hid rk
        clear rk
        have KW := hid (Low_any w23 (x.val.length : Int) 2 (by omega) (by omega) (by omega))
        go_wp2_with fail
        refine KW.out.mono ?_
        clear KW
        rintro e x24 ⟨u24, rfl, P24, hb24⟩
        have M24 := L23.call (hb24.mono L23.sz)
        have N24 := O23.below hb24 (Nat.le_refl _)
        obtain ⟨s24, c24, rfl, SS24, n24⟩ := P24.form
        have Q24 := hid (hbel hb24 R23.out (hlt R23.out))
        have KL24 := hid (show z23.length + (lowN (x.val.length : Int) 2).length ≤ 140737488355328 by rw [lowN_len]; have := HN23.out; omega)
        go_wp2_with (first | (at_builtin; refine wpList_append_wide3 rfl (.tmp 162) (.tmp 166) rfl (w.heap.size + 1) v23 z23 (lowN (x.val.length : Int) 2) rfl N24 s24 c24 rfl n24 SS24 KL24.out M24.sz ?_; intro v24 w24 O24 hg24 hd24; refine Hid.out ?_))
        refine hid ?_
        have L24 := M24.call (grown_keeps hg24 (fun k hk => (N24.block k hk).1) M24.sz)
        have R24 := hid ((hg24.block _ (hlt Q24.out) (fun e => NE23.out e.symm)).trans Q24.out)
        have NE24 := hid ((away_grown hg24 hd24 _ (hlt Q24.out) NE23.out).2)
        generalize hz24 : z23 ++ (lowN (x.val.length : Int) 2) = z24 at O24
        have HN24 := hid (show z24.length ≤ 1000000 + 1 + 32 + 2 by rw [← hz24, List.length_append]; rw [lowN_len]; have := HN23.out; omega)
        replace hz24 := hid hz24
        clear hg24 hd24 KL24 O23 L23
        clear M24 N24 SS24 P24 hb24
        clear RK rv
        obtain ⟨rk, rv, _⟩ := el_true (rng R24.out) HK.out
        rw [Nat.zero_add] at rv
        have RK := hid rk
        clear rk
        have SS := hid (Sv.below L24.bel (Nat.le_refl _))
        have KL25 := hid (show z24.length + (x.val).length ≤ 140737488355328 by have := HN24.out; omega)
        go_wp2_with (first | (at_builtin; refine wpList_append_wide3 rfl (.tmp 168) (.tmp 170) rfl (w.heap.size + 1) v24 z24 (x.val) rfl O24 s p rfl nv SS.out KL25.out L24.sz ?_; intro v25 w25 O25 hg25 hd25; refine Hid.out ?_))
        refine hid ?_
        have L25 := L24.call (grown_keeps hg25 (fun k hk => (O24.block k hk).1) L24.sz)
        have R25 := hid ((hg25.block _ (hlt R24.out) (fun e => NE24.out e.symm)).trans R24.out)
        have NE25 := hid ((away_grown hg25 hd25 _ (hlt R24.out) NE24.out).2)
        generalize hz25 : z24 ++ (x.val) = z25 at O25
        have HN25 := hid (show z25.length ≤ 1000000 + 1 + 32 + 2 + 128 by rw [← hz25, List.length_append]; have := HN24.out; omega)
        replace hz25 := hid hz25
        clear hg25 hd25 KL25 O24 L24
        clear RK rv
        go_wp2
        go_roundw
        case rel =>
          have OF := O25
          rw [← hz25.out, ← hz24.out, ← hz23.out, ← hz22.out] at OF
          exact ⟨k + 1, by omega, by go_num, by rw [HT.out, HEL.out, ← List.append_assoc, ← List.append_assoc, ← List.append_assoc]; exact OF, L25⟩
        case measure => simp [intOf]; omega
    · skip
      obtain rfl : k = r.chs.length := by omega
      rw [List.take_length] at O20
      clear hlt'
      have X20 := RC.of L20.rr HIL.out
      have d39 := X20.c39
      go_wp2
      refine bodyPost_ret (results_tmp2 Try.results23 _ _ _) rfl ?_
      refine ⟨_, rfl, ?_, L20.bel⟩
      rw [HQ.out]
      rw [← hz4.out, ← hz3.out] at O20
      exact own_lower O20 (by omega)
end Go.Proofs.Ytenfklcgkfaajaa
namespace Go.Proofs.Ytenfklcgkfaajaa
set_option linter.unusedVariables false
set_option linter.unusedSimpArgs false
open Go.RowKit
attribute [local go_sem ↓] Go.wp_at_zero Go.wp_at_succ

theorem u8_conv {x : Int} (h0 : 0 ≤ x) (h1 : x < 256) : IntKind.u8.wrap x = x := by
  unfold IntKind.wrap; simp [IntKind.bits, IntKind.signed]; omega
theorem inf_sum {w : World} {b : Nat} {i : Nf} (h : w.rangeAt b 40 (inC i)) : w.rangeAt b 46 (ints .u8 i.sum) := fun j u hu => by
  have := h (6 + j) u (by unfold inC; rw [List.getElem?_append_right (by simp)]; simpa using hu)
  rw [← Nat.add_assoc] at this; exact this
set_option maxRecDepth 100000 in
set_option maxHeartbeats 4000000 in
theorem refRep_8 (w : World) (r : Rp) (hB : RpB r) (vs rs ls cs : Option Addr) (vc rc lc cc : Nat) (hI : RpI w r vs rs ls cs vc rc lc cc) (he : r.err = 0) (hF : fdF 8 r = true) :
    Calls Try.prog 23 #[.int .i64 8, .agg (rpV r vs rs ls cs vc rc lc cc).toArray] w fun e w' => ∃ v, e = .returned (.tuple #[v, .int .i64 0]) ∧ Own w' w.heap.size v (ryB 8 r) ∧ Below w.heap.size w w' := by
  have L1 := YR.of w (rpV r vs rs ls cs vc rc lc cc)
  have hs1 : (w.alloc (.cells (rpV r vs rs ls cs vc rc lc cc).toArray 32)).heap.size = w.heap.size + 1 := by simp
  have HIL := hid hI.l
  have X1 := RC.of L1.rr hI.l
  have c0 := X1.c0
  rw [he] at c0
  have KP := hid (parts_any (w.alloc (.cells (rpV r vs rs ls cs vc rc lc cc).toArray 32)) 8 (by omega) (by omega))
  rw [show prt 8 = 0 from by decide] at KP
  have KW := hid (Low_any (w.alloc (.cells (rpV r vs rs ls cs vc rc lc cc).toArray 32)) 0 2 (by omega) (by omega) (by omega))
  have SR := hid (show (Try.prog.info? 32).map (·.size) = some (rpV r vs rs ls cs vc rc lc cc).toArray.size from (repSizes hI.l).1)
  have HE := hid he
  have hW : 0 ≤ r.info.width ∧ r.info.width < 256 := by unfold fdF inF at hF; simp at hF; omega
  have HQ := hid (show ryB 8 r = lowN 0 2 ++ [r.info.width] ++ lowN r.info.first 8 ++ lowN r.info.last 8 ++ lowN r.info.used 4 ++ lowN r.info.pages 4 ++ lowN r.info.keys 4 ++ r.info.sum by unfold ryB; rw [he, if_pos rfl]; rw [show fdB 8 r = inB r.info from rfl]; unfold inB; rw [show lowN r.info.width 1 = [r.info.width] from by unfold lowN lowN; rw [Int.emod_eq_of_lt hW.1 hW.2]]; simp only [List.append_assoc])
  have NB := hB.inf
  have SD := hid (show (Try.prog.info? 26).map (·.size) = some (ints .u8 r.info.sum).length by rw [ints_len, hI.l.inf]; exact Try.sizeDg)
  have HS := hid hI.l.inf
  clear X1
  go_enter Try.func23, Try.ntmps23
  go_wp2_with (first | (go_at_call 30; refine KP.out.mono ?_; rintro e w' ⟨rfl, hw'⟩; obtain rfl := hw'.symm; refine Hid.out ?_))
  refine hid ?_
  generalize (w.alloc (.cells (rpV r vs rs ls cs vc rc lc cc).toArray 32)) = w1 at *
  go_wp2_with fail
  refine KW.out.mono ?_
  clear KW KP
  rintro e w2 ⟨v2, rfl, O2, hb2⟩
  have L2 := L1.call (hb2.mono (by omega))
  have c2 := (RC.of L2.rr HIL.out).c0
  rw [he] at c2
  have KF := hid (xfits_any w2 8 (by omega) (by omega) r hB vs rs ls cs vc rc lc cc (hI.below L2.bel))
  rw [hF] at KF
  have R2 := hid L2.rr
  rw [hs1] at O2
  replace hF := hid hF
  clear c0 he L1 hb2 hs1
  go_wp2_with (first | (refine wpList_load_row rfl 32 _ rfl w.heap.size rfl 32 _ (0, 0) _ R2.out Try.underlying32 rfl SR.out ?_) | (go_at_call 38; refine KF.out.mono ?_; rintro e w3 ⟨rfl, hb3⟩; refine Hid.out ?_))
  refine hid ?_
  have L3 := L2.call (hb3.mono L2.sz)
  have O3 := O2.below hb3 (Nat.le_refl _)
  generalize hz3 : lowN 0 2 = z3 at O3
  have HN3 := hid (show z3.length ≤ 2 by rw [← hz3, lowN_len]; exact Nat.le_refl _)
  replace hz3 := hid hz3
  generalize v2 = v3 at *
  clear c2 KF R2 SR L2 O2 hb3
  have X3 := RC.of L3.rr HIL.out
  have d0 : w3.cell? ⟨w.heap.size, 40, none⟩ = some (.int .i64 r.info.width) := X3.inf 0 _ rfl
  have hWr := hid hW
  have e8 := u8_conv hW.1 hW.2
  have KL4 := hid (show z3.length + 1 ≤ 140737488355328 by have := HN3.out; omega)
  go_wp2_with (first | (at_builtin; refine wpList_push_any rfl (.tmp 174) (.tmp 179) rfl (w.heap.size + 1) v3 z3 r.info.width rfl O3 rfl KL4.out L3.sz _ _ ?_; intro v4 w4 O4 hB4; refine Hid.out ?_))
  refine hid ?_
  have L4 := L3.call hB4
  generalize hz4 : z3 ++ ([r.info.width]) = z4 at O4
  have HN4 := hid (show z4.length ≤ 2 + 1 by rw [← hz4, List.length_append]; simp only [List.length_singleton]; have := HN3.out; omega)
  replace hz4 := hid hz4
  clear hB4 KL4 O3 L3
  clear d0 e8
  have X4 := RC.of L4.rr HIL.out
  have d1 : w4.cell? ⟨w.heap.size, 41, none⟩ = some (.int .i64 r.info.first) := X4.inf 1 _ rfl
  have KW := hid (Low_any w4 r.info.first 8 (by omega) NB.first.1 NB.first.2)
  go_wp2_with fail
  refine KW.out.mono ?_
  clear KW
  rintro e x5 ⟨u5, rfl, P5, hb5⟩
  have M5 := L4.call (hb5.mono L4.sz)
  have N5 := O4.below hb5 (Nat.le_refl _)
  obtain ⟨s5, c5, rfl, SS5, n5⟩ := P5.form
  have KL5 := hid (show z4.length + (lowN r.info.first 8).length ≤ 140737488355328 by rw [lowN_len]; have := HN4.out; omega)
  go_wp2_with (first | (at_builtin; refine wpList_append_wide3 rfl (.tmp 181) (.tmp 185) rfl (w.heap.size + 1) v4 z4 (lowN r.info.first 8) rfl N5 s5 c5 rfl n5 SS5 KL5.out M5.sz ?_; intro v5 w5 O5 hg5 hd5; refine Hid.out ?_))
  refine hid ?_
  have L5 := M5.call (grown_keeps hg5 (fun k hk => (N5.block k hk).1) M5.sz)
  generalize hz5 : z4 ++ (lowN r.info.first 8) = z5 at O5
  have HN5 := hid (show z5.length ≤ 2 + 1 + 8 by rw [← hz5, List.length_append]; rw [lowN_len]; have := HN4.out; omega)
  replace hz5 := hid hz5
  clear hg5 hd5 KL5 O4 L4
  clear M5 N5 SS5 P5 hb5
  clear d1
  have X5 := RC.of L5.rr HIL.out
  have d2 : w5.cell? ⟨w.heap.size, 42, none⟩ = some (.int .i64 r.info.last) := X5.inf 2 _ rfl
  have KW := hid (Low_any w5 r.info.last 8 (by omega) NB.last.1 NB.last.2)
  go_wp2_with fail
  refine KW.out.mono ?_
  clear KW
  rintro e x6 ⟨u6, rfl, P6, hb6⟩
  have M6 := L5.call (hb6.mono L5.sz)
  have N6 := O5.below hb6 (Nat.le_refl _)
  obtain ⟨s6, c6, rfl, SS6, n6⟩ := P6.form
  have KL6 := hid (show z5.length + (lowN r.info.last 8).length ≤ 140737488355328 by rw [lowN_len]; have := HN5.out; omega)
  go_wp2_with (first | (at_builtin; refine wpList_append_wide3 rfl (.tmp 187) (.tmp 191) rfl (w.heap.size + 1) v5 z5 (lowN r.info.last 8) rfl N6 s6 c6 rfl n6 SS6 KL6.out M6.sz ?_; intro v6 w6 O6 hg6 hd6; refine Hid.out ?_))
  refine hid ?_
  have L6 := M6.call (grown_keeps hg6 (fun k hk => (N6.block k hk).1) M6.sz)
  generalize hz6 : z5 ++ (lowN r.info.last 8) = z6 at O6
  have HN6 := hid (show z6.length ≤ 2 + 1 + 8 + 8 by rw [← hz6, List.length_append]; rw [lowN_len]; have := HN5.out; omega)
  replace hz6 := hid hz6
  clear hg6 hd6 KL6 O5 L5
  clear M6 N6 SS6 P6 hb6
  clear d2
  have X6 := RC.of L6.rr HIL.out
  have d3 : w6.cell? ⟨w.heap.size, 43, none⟩ = some (.int .i64 r.info.used) := X6.inf 3 _ rfl
  have KW := hid (Low_any w6 r.info.used 4 (by omega) NB.used.1 NB.used.2)
  go_wp2_with fail
  refine KW.out.mono ?_
  clear KW
  rintro e x7 ⟨u7, rfl, P7, hb7⟩
  have M7 := L6.call (hb7.mono L6.sz)
  have N7 := O6.below hb7 (Nat.le_refl _)
  obtain ⟨s7, c7, rfl, SS7, n7⟩ := P7.form
  have KL7 := hid (show z6.length + (lowN r.info.used 4).length ≤ 140737488355328 by rw [lowN_len]; have := HN6.out; omega)
  go_wp2_with (first | (at_builtin; refine wpList_append_wide3 rfl (.tmp 193) (.tmp 197) rfl (w.heap.size + 1) v6 z6 (lowN r.info.used 4) rfl N7 s7 c7 rfl n7 SS7 KL7.out M7.sz ?_; intro v7 w7 O7 hg7 hd7; refine Hid.out ?_))
  refine hid ?_
  have L7 := M7.call (grown_keeps hg7 (fun k hk => (N7.block k hk).1) M7.sz)
  generalize hz7 : z6 ++ (lowN r.info.used 4) = z7 at O7
  have HN7 := hid (show z7.length ≤ 2 + 1 + 8 + 8 + 4 by rw [← hz7, List.length_append]; rw [lowN_len]; have := HN6.out; omega)
  replace hz7 := hid hz7
  clear hg7 hd7 KL7 O6 L6
  clear M7 N7 SS7 P7 hb7
  clear d3
  have X7 := RC.of L7.rr HIL.out
  have d4 : w7.cell? ⟨w.heap.size, 44, none⟩ = some (.int .i64 r.info.pages) := X7.inf 4 _ rfl
  have KW := hid (Low_any w7 r.info.pages 4 (by omega) NB.pages.1 NB.pages.2)
  go_wp2_with fail
  refine KW.out.mono ?_
  clear KW
  rintro e x8 ⟨u8, rfl, P8, hb8⟩
  have M8 := L7.call (hb8.mono L7.sz)
  have N8 := O7.below hb8 (Nat.le_refl _)
  obtain ⟨s8, c8, rfl, SS8, n8⟩ := P8.form
  have KL8 := hid (show z7.length + (lowN r.info.pages 4).length ≤ 140737488355328 by rw [lowN_len]; have := HN7.out; omega)
  go_wp2_with (first | (at_builtin; refine wpList_append_wide3 rfl (.tmp 199) (.tmp 203) rfl (w.heap.size + 1) v7 z7 (lowN r.info.pages 4) rfl N8 s8 c8 rfl n8 SS8 KL8.out M8.sz ?_; intro v8 w8 O8 hg8 hd8; refine Hid.out ?_))
  refine hid ?_
  have L8 := M8.call (grown_keeps hg8 (fun k hk => (N8.block k hk).1) M8.sz)
  generalize hz8 : z7 ++ (lowN r.info.pages 4) = z8 at O8
  have HN8 := hid (show z8.length ≤ 2 + 1 + 8 + 8 + 4 + 4 by rw [← hz8, List.length_append]; rw [lowN_len]; have := HN7.out; omega)
  replace hz8 := hid hz8
  clear hg8 hd8 KL8 O7 L7
  clear M8 N8 SS8 P8 hb8
  clear d4
  have X8 := RC.of L8.rr HIL.out
  have d5 : w8.cell? ⟨w.heap.size, 45, none⟩ = some (.int .i64 r.info.keys) := X8.inf 5 _ rfl
  have KW := hid (Low_any w8 r.info.keys 4 (by omega) NB.keys.1 NB.keys.2)
  go_wp2_with fail
  refine KW.out.mono ?_
  clear KW
  rintro e x9 ⟨u9, rfl, P9, hb9⟩
  have M9 := L8.call (hb9.mono L8.sz)
  have N9 := O8.below hb9 (Nat.le_refl _)
  obtain ⟨s9, c9, rfl, SS9, n9⟩ := P9.form
  have KL9 := hid (show z8.length + (lowN r.info.keys 4).length ≤ 140737488355328 by rw [lowN_len]; have := HN8.out; omega)
  go_wp2_with (first | (at_builtin; refine wpList_append_wide3 rfl (.tmp 205) (.tmp 209) rfl (w.heap.size + 1) v8 z8 (lowN r.info.keys 4) rfl N9 s9 c9 rfl n9 SS9 KL9.out M9.sz ?_; intro v9 w9 O9 hg9 hd9; refine Hid.out ?_))
  refine hid ?_
  have L9 := M9.call (grown_keeps hg9 (fun k hk => (N9.block k hk).1) M9.sz)
  generalize hz9 : z8 ++ (lowN r.info.keys 4) = z9 at O9
  have HN9 := hid (show z9.length ≤ 2 + 1 + 8 + 8 + 4 + 4 + 4 by rw [← hz9, List.length_append]; rw [lowN_len]; have := HN8.out; omega)
  replace hz9 := hid hz9
  clear hg9 hd9 KL9 O8 L8
  clear M9 N9 SS9 P9 hb9
  clear d5
  have X9 := RC.of L9.rr HIL.out
  have XS := hid (inf_sum X9.inf)
  have KW := hid (xdigest_any w9 r.info.sum HS.out)
  go_wp2_with (first | (refine wpList_load_mid rfl 26 _ rfl w.heap.size 46 rfl _ _ XS.out Try.underlying26 rfl SD.out ?_))
  refine KW.out.mono ?_
  clear KW
  rintro e x10 ⟨u10, rfl, P10, hb10⟩
  have M10 := L9.call (hb10.mono L9.sz)
  have N10 := O9.below hb10 (Nat.le_refl _)
  obtain ⟨s10, c10, rfl, SS10, n10⟩ := P10.form
  have KL10 := hid (show z9.length + (r.info.sum).length ≤ 140737488355328 by rw [HS.out]; have := HN9.out; omega)
  go_wp2_with (first | (at_builtin; refine wpList_append_wide3 rfl (.tmp 211) (.tmp 215) rfl (w.heap.size + 1) v9 z9 (r.info.sum) rfl N10 s10 c10 rfl n10 SS10 KL10.out M10.sz ?_; intro v10 w10 O10 hg10 hd10; refine Hid.out ?_))
  refine hid ?_
  have L10 := M10.call (grown_keeps hg10 (fun k hk => (N10.block k hk).1) M10.sz)
  generalize hz10 : z9 ++ (r.info.sum) = z10 at O10
  have HN10 := hid (show z10.length ≤ 2 + 1 + 8 + 8 + 4 + 4 + 4 + 32 by rw [← hz10, List.length_append]; rw [HS.out]; have := HN9.out; omega)
  replace hz10 := hid hz10
  clear hg10 hd10 KL10 O9 L9
  clear M10 N10 SS10 P10 hb10
  go_wp2
  refine bodyPost_ret (results_tmp2 Try.results23 _ _ _) rfl ?_
  have OF := O10
  rw [← hz10.out, ← hz9.out, ← hz8.out, ← hz7.out, ← hz6.out, ← hz5.out, ← hz4.out, ← hz3.out] at OF
  refine ⟨_, rfl, ?_, L10.bel⟩
  rw [HQ.out]
  exact own_lower OF (by omega)
end Go.Proofs.Ytenfklcgkfaajaa
namespace Go.Proofs.Ytenfklcgkfaajaa
set_option linter.unusedVariables false
set_option linter.unusedSimpArgs false
open Go.RowKit
attribute [local go_sem ↓] Go.wp_at_zero Go.wp_at_succ

set_option maxRecDepth 100000 in
set_option maxHeartbeats 4000000 in
theorem refRep_9 (w : World) (r : Rp) (hB : RpB r) (vs rs ls cs : Option Addr) (vc rc lc cc : Nat) (hI : RpI w r vs rs ls cs vc rc lc cc) (he : r.err = 0) (hF : fdF 9 r = true) :
    Calls Try.prog 23 #[.int .i64 9, .agg (rpV r vs rs ls cs vc rc lc cc).toArray] w fun e w' => ∃ v, e = .returned (.tuple #[v, .int .i64 0]) ∧ Own w' w.heap.size v (ryB 9 r) ∧ Below w.heap.size w w' := by
  have L1 := YR.of w (rpV r vs rs ls cs vc rc lc cc)
  have hs1 : (w.alloc (.cells (rpV r vs rs ls cs vc rc lc cc).toArray 32)).heap.size = w.heap.size + 1 := by simp
  have HIL := hid hI.l
  have X1 := RC.of L1.rr hI.l
  have c0 := X1.c0
  rw [he] at c0
  have KP := hid (parts_any (w.alloc (.cells (rpV r vs rs ls cs vc rc lc cc).toArray 32)) 9 (by omega) (by omega))
  rw [show prt 9 = 0 from by decide] at KP
  have KW := hid (Low_any (w.alloc (.cells (rpV r vs rs ls cs vc rc lc cc).toArray 32)) 0 2 (by omega) (by omega) (by omega))
  have SR := hid (show (Try.prog.info? 32).map (·.size) = some (rpV r vs rs ls cs vc rc lc cc).toArray.size from (repSizes hI.l).1)
  have HE := hid he
  have HQ := hid (show ryB 9 r = lowN 0 2 by unfold ryB; rw [he, if_pos rfl]; simp [fdB])
  clear X1
  go_enter Try.func23, Try.ntmps23
  go_wp2_with (first | (go_at_call 30; refine KP.out.mono ?_; rintro e w' ⟨rfl, hw'⟩; obtain rfl := hw'.symm; refine Hid.out ?_))
  refine hid ?_
  generalize (w.alloc (.cells (rpV r vs rs ls cs vc rc lc cc).toArray 32)) = w1 at *
  go_wp2_with fail
  refine KW.out.mono ?_
  clear KW KP
  rintro e w2 ⟨v2, rfl, O2, hb2⟩
  have L2 := L1.call (hb2.mono (by omega))
  have c2 := (RC.of L2.rr HIL.out).c0
  rw [he] at c2
  have KF := hid (xfits_any w2 9 (by omega) (by omega) r hB vs rs ls cs vc rc lc cc (hI.below L2.bel))
  rw [hF] at KF
  have R2 := hid L2.rr
  rw [hs1] at O2
  replace hF := hid hF
  clear c0 he L1 hb2 hs1
  go_wp2_with (first | (refine wpList_load_row rfl 32 _ rfl w.heap.size rfl 32 _ (0, 0) _ R2.out Try.underlying32 rfl SR.out ?_) | (go_at_call 38; refine KF.out.mono ?_; rintro e w3 ⟨rfl, hb3⟩; refine Hid.out ?_))
  refine hid ?_
  have L3 := L2.call (hb3.mono L2.sz)
  have O3 := O2.below hb3 (Nat.le_refl _)
  generalize hz3 : lowN 0 2 = z3 at O3
  have HN3 := hid (show z3.length ≤ 2 by rw [← hz3, lowN_len]; exact Nat.le_refl _)
  replace hz3 := hid hz3
  generalize v2 = v3 at *
  clear c2 KF R2 SR L2 O2 hb3
  go_wp2
  refine bodyPost_ret (results_tmp2 Try.results23 _ _ _) rfl ?_
  have OF := O3
  rw [← hz3.out] at OF
  refine ⟨_, rfl, ?_, L3.bel⟩
  rw [HQ.out]
  exact own_lower OF (by omega)
end Go.Proofs.Ytenfklcgkfaajaa
