import Derived.Test.YthdjgpdgedhonaaDk47
namespace Go.Proofs.Ythdjgpdgedhonaa
set_option linter.unusedVariables false
set_option linter.unusedSimpArgs false
open Go.RowKit
attribute [local go_sem ↓] Go.wp_at_zero Go.wp_at_succ

set_option maxRecDepth 100000 in
set_option maxHeartbeats 8000000 in
theorem deskTold_any (w : World) (op : Int) (o0 : -9223372036854775808 ≤ op) (o1 : op ≤ 9223372036854775807) (raw : List Int) (hy : Bys raw) (sp : Option Addr) (cap : Nat) (hS : Src w sp cap raw) (hnil : sp = none → cap = 0) (hl : raw.length ≤ 140737488351232) :
    Calls Try.prog 5 #[.int .i64 op, .slice sp raw.length cap] w fun e w' => e = .returned (.bool true) ∧ Below w.heap.size w w' := by
  have hE := own_empty w
  have hb0 := (Below.refl w.heap.size w).alloc (Nat.le_refl _) (.cells #[] 5)
  have hS1 := hS.below hb0 (Nat.le_refl _)
  have KL := hid (show ([] : List Int).length + raw.length ≤ 140737488351232 by simp; omega)
  have HDT := hid (dc_tl op raw)
  obtain ⟨hBr, hYr⟩ := dcP_facts op raw hy hl
  have HY := hid hYr
  have HB := hid hBr
  clear hYr hBr
  have HEN := hid (fun r => en_dc op raw hy r)
  go_enter Try.func5, Try.ntmps5
  go_wp2_with (first | (at_builtin; refine wpList_append_wide rfl (.tmp 12) (.tmp 13) rfl w.heap.size _ [] raw rfl hE sp cap rfl hnil hS1 KL.out (by simp) ?_; intro v1 w1 O1 hg1 hd1; refine Hid.out ?_))
  refine hid ?_
  have hB1 : Below w.heap.size w w1 := hb0.trans (grown_keeps hg1 (fun k e => (hE.block k e).1) (by simp))
  obtain ⟨k1, hk1⟩ : ∃ k, v1.ownBlock = some k := by
    rcases hd1 with e | e
    · exact ⟨w.heap.size, by rw [e]; rfl⟩
    · exact ⟨_, e⟩
  rw [List.nil_append] at O1
  obtain ⟨cap1, rfl, S1⟩ := O1.form_some hk1
  have KD := hid (decodeR_any w1 raw hy k1 0 cap1 S1 hl op o0 o1)
  clear hE hb0 hS1 KL O1 hg1 hd1 hk1 S1
  go_wp2_with fail
  refine KD.out.mono ?_
  clear KD
  rintro e w2 ⟨vv, rv, lv, cv, rfl, ⟨ml, mc, Q2⟩, hB2⟩
  have hB2' := hB1.trans (hB2.mono hB1.size)
  obtain ⟨vs, rs, ls, cs, vc, rc, lc, cc, hq2, I2⟩ := Q2.inn
  rw [hq2]
  generalize hD : dcP op raw = D at *
  replace hD := hid hD
  generalize hr : D.getD rp0 = r at *
  replace hr := hid hr
  have SR := hid (show (Try.prog.info? 46).map (·.size) = some (rpV r vs rs ls cs vc rc lc cc).toArray.size from (repSizes I2.l).1)
  have SL := hid (show (Try.prog.info? 46).map (·.size) = some (rpV r vs rs ls cs vc rc lc cc).length from (repSizes I2.l).2.1)
  have SE := hid (show (rpC rp0 (.slice none 0 0) (.slice none 0 0) (.slice none 0 0) (.slice none 0 0)).length = (rpV r vs rs ls cs vc rc lc cc).length from (repSizes I2.l).2.2)
  have C2 := hid (show ∀ v ∈ rpV r vs rs ls cs vc rc lc cc, v.oneCell' = true from rpC_one rfl rfl rfl rfl)
  clear hq2 Q2
  go_wp2_with (first | (refine wpList_allocV allocRep rfl rfl ?_) | (refine wpList_storeRowW rfl 46 _ _ rfl w2.heap.size (rpV r vs rs ls cs vc rc lc cc) rfl rfl 46 _ (hnew w2 (.cells (rpC rp0 (.slice none 0 0) (.slice none 0 0) (.slice none 0 0) (.slice none 0 0)).toArray 46)) SL.out SE.out C2.out ?_; intro w3 hr3 hk3; refine Hid.out ?_))
  refine hid ?_
  have hb3 : Below w2.heap.size w2 w3 := ((Below.refl w2.heap.size w2).alloc (Nat.le_refl _) _).trans (hk3.below_g (Nat.le_refl _) (by simp))
  have hB3 := hB2'.trans (hb3.mono hB2'.size)
  have I3 := I2.below hb3
  have hwz := hid hB2'.size
  have KA := hid (told_any w3 sp cap raw hy (hS.below hB3 (Nat.le_refl _)) hl op o0 o1)
  rw [← HDT.out] at KA
  rw [hr.out] at KA
  clear hB1 hB2 hB2' hb3 hk3 I2
  go_wp2_with fail
  refine KA.out.mono ?_
  clear KA
  rintro e w4 ⟨vv', rv', lv', cv', rfl, ⟨ml', mc', Q4⟩, hB4⟩
  obtain ⟨vs', rs', ls', cs', vc', rc', lc', cc', hq4, I4⟩ := Q4.inn
  rw [hq4]
  have hr4 := hbel hB4 hr3 (hlt hr3)
  have I4a := I3.below hB4
  have hB4' := hB3.trans (hB4.mono hB3.size)
  have SR' := hid (show (Try.prog.info? 46).map (·.size) = some (rpV r vs' rs' ls' cs' vc' rc' lc' cc').toArray.size from (repSizes I4.l).1)
  have SL' := hid (show (Try.prog.info? 46).map (·.size) = some (rpV r vs' rs' ls' cs' vc' rc' lc' cc').length from (repSizes I4.l).2.1)
  have SE' := hid (show (rpC rp0 (.slice none 0 0) (.slice none 0 0) (.slice none 0 0) (.slice none 0 0)).length = (rpV r vs' rs' ls' cs' vc' rc' lc' cc').length from (repSizes I4.l).2.2)
  have C4 := hid (show ∀ v ∈ rpV r vs' rs' ls' cs' vc' rc' lc' cc', v.oneCell' = true from rpC_one rfl rfl rfl rfl)
  clear hq4 Q4
  go_wp2_with (first | (refine wpList_allocV allocRep rfl rfl ?_) | (refine wpList_storeRowW rfl 46 _ _ rfl w4.heap.size (rpV r vs' rs' ls' cs' vc' rc' lc' cc') rfl rfl 46 _ (hnew w4 (.cells (rpC rp0 (.slice none 0 0) (.slice none 0 0) (.slice none 0 0) (.slice none 0 0)).toArray 46)) SL'.out SE'.out C4.out ?_; intro w5 hr5 hk5; refine Hid.out ?_))
  refine hid ?_
  have hb5 : Below w4.heap.size w4 w5 := ((Below.refl w4.heap.size w4).alloc (Nat.le_refl _) _).trans (hk5.below_g (Nat.le_refl _) (by simp))
  have hB5 := hB4'.trans (hb5.mono hB4'.size)
  have J1 := I4a.below hb5
  have J2 := I4.below hb5
  have R5 := hid hr5
  have R3 := hid (hbel hb5 hr4 (hlt hr4))
  have KS := hid (sameReply_yes w5 r HY.out vs rs ls cs vc rc lc cc J1 vs' rs' ls' cs' vc' rc' lc' cc' J2)
  clear hr3 hr4 hr5 hB3 hB4 hB4' hb5 hk5 I3 I4 I4a J2
  go_wp2_with (first | (refine wpList_load_row_w (by rfl) 46 _ rfl w2.heap.size rfl 46 _ (0, 0) _ R3.out Try.underlying46 rfl SR.out ?_) | (refine wpList_load_row_w (by rfl) 46 _ rfl w4.heap.size rfl 46 _ (0, 0) _ R5.out Try.underlying46 rfl SR'.out ?_) | (go_at_call 17; refine KS.out.mono ?_; rintro e w6 ⟨rfl, hb6⟩; refine Hid.out ?_))
  refine hid ?_
  have hB6 := hB5.trans (hb6.mono hB5.size)
  have R6 := hid (hbel hb6 R3.out (hlt R3.out))
  have J6 := J1.below hb6
  clear R3 R5 KS hB5 J1 hb6 SR' SL' SE' C4
  cases D with
  | none =>
    simp only [ecode, Option.isSome_none, Bool.false_eq_true, if_false]
    have hs9 := src_new w6 [0, 0, 1, 1, 0, 7] 5 (0, 0) (by simp [maxLen])
    have KD := hid (decodeR_any _ [0, 0, 1, 1, 0, 7] (fun x hx => by simp at hx; omega) w6.heap.size 0 6 hs9 (by simp) 2 (by omega) (by omega))
    rw [dc7] at KD
    have hb6 := (Below.refl w6.heap.size w6).alloc (Nat.le_refl _) (.cells (ints .u8 [0, 0, 1, 1, 0, 7]).toArray 5)
    have R7 := hbel hb6 R6.out (hlt R6.out)
    have hB7 := hB6.trans (hb6.mono hB6.size)
    have LV := hid (show (rpV r vs rs ls cs vc rc lc cc).length = 78 from rpC_len J6.l)
    clear R6 J6 hs9 hb6 hB6
    go_wp2_with fail
    refine KD.out.mono ?_
    clear KD
    generalize w6.alloc (.cells (ints .u8 [0, 0, 1, 1, 0, 7]).toArray 5) = w7 at *
    simp only [Option.getD_some, ecode, Option.isSome_some, if_true]
    rintro e w8 ⟨vv8, rv8, lv8, cv8, rfl, ⟨ml8, mc8, Q8⟩, hB8⟩
    obtain ⟨a1, a2, a3, a4, m1, m2, m3, m4, hq8, I8⟩ := Q8.inn
    have R8 := hid (hbel hB8 R7 (hlt R7))
    have hB8' := hB7.trans (hB8.mono hB7.size)
    have hlw := hid (show w2.heap.size < w7.heap.size from hlt R7)
    have hw2 : w.heap.size ≤ w2.heap.size := hwz.out
    have L8 := I8.l
    have SL8 := hid (show (Try.prog.info? 46).map (·.size) = some (rpC { rp0 with found := true, val := [7] } vv8 rv8 lv8 cv8).length from (repSizes L8).2.1)
    have SE8 := hid (show (rpV r vs rs ls cs vc rc lc cc).length = (rpC { rp0 with found := true, val := [7] } vv8 rv8 lv8 cv8).length by rw [LV.out, rpC_len L8])
    have C8 := hid (show ∀ v ∈ rpC { rp0 with found := true, val := [7] } vv8 rv8 lv8 cv8, v.oneCell' = true by rw [hq8]; exact rpC_one rfl rfl rfl rfl)
    have O8 := Q8.ov
    clear hq8 Q8 I8 R7 SR SL SE C2
    go_wp2_with (first | (refine wpList_storeRowW rfl 46 _ _ rfl w2.heap.size (rpC { rp0 with found := true, val := [7] } vv8 rv8 lv8 cv8) rfl rfl 46 _ R8.out SL8.out SE8.out C8.out ?_; intro w9 hr9 hk9; refine Hid.out ?_))
    refine hid ?_
    have X9 := RC.of hr9 L8
    have hB9 := hB8'.trans (hk9.below_g hw2 hB8'.size)
    have O9 : Own w9 w7.heap.size vv8 [7] := O8.of_heap (fun k hk => hk9.block k (O8.block k hk).2 (by have := (O8.block k hk).1; have := hlw.out; omega))
    obtain ⟨s9, p9, rfl, S9, n9⟩ := O9.form
    have q2 : w9.cell? ⟨w2.heap.size, 2, none⟩ = some (.bool true) := X9.c2
    have q4 := X9.c4
    have hb10 := (Below.refl w9.heap.size w9).alloc (Nat.le_refl _) (.cells (ints .u8 [7]).toArray 5)
    have HB10 := hid (hB9.trans (hb10.mono hB9.size))
    have KM := hid (same_self (w9.alloc (.cells (ints .u8 [7]).toArray 5)) [7] (fun x hx => by simp at hx; omega) _ rfl s9 (some ⟨w9.heap.size, 0, none⟩) p9 1 (S9.below hb10 (Nat.le_refl _)) (src_new w9 [7] 5 (0, 0) (by simp [maxLen])))
    clear X9 O9 O8 hr9 hk9 hb10 hB9 C8 SE8 SL8 R8 LV
    go_wp2_with (first | (go_at_call 11; refine KM.out.mono ?_; rintro e w' ⟨rfl, rfl⟩))
    go_ret
    exact ⟨rfl, HB10.out⟩
  | some q =>
    obtain rfl : q = r := hr.out
    simp only [ecode, Option.isSome_some, if_true]
    have KE := hid (encodeR_yes w6 op q HB.out vs rs ls cs vc rc lc cc J6 raw (HEN.out q rfl))
    go_wp2_with (first | (refine wpList_load_row rfl 46 _ rfl w2.heap.size rfl 46 _ (0, 0) _ R6.out Try.underlying46 rfl SR.out ?_) | (go_at_call 18; refine KE.out.mono ?_; rintro e w7 ⟨v7, rfl, O7, hb7⟩; refine Hid.out ?_))
    refine hid ?_
    obtain ⟨s7, c7, rfl, S7, n7⟩ := O7.form
    have hB7 := hB6.trans (hb7.mono hB6.size)
    have KM := hid (same_self w7 raw hy _ rfl s7 sp c7 cap S7 (hS.below hB7 (Nat.le_refl _)))
    go_wp2_with (first | (go_at_call 11; refine KM.out.mono ?_; rintro e w' ⟨rfl, rfl⟩))
    go_ret
    exact ⟨rfl, hB7⟩
end Go.Proofs.Ythdjgpdgedhonaa
