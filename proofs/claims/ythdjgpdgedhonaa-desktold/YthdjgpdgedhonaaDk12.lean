import Derived.Test.YthdjgpdgedhonaaDk11
namespace Go.Proofs.Ythdjgpdgedhonaa
set_option linter.unusedVariables false
set_option linter.unusedSimpArgs false
open Go.RowKit
attribute [local go_sem ↓] Go.wp_at_zero Go.wp_at_succ

structure RqY (q : Rq) : Prop where
  key : Bys q.key
  high : Bys q.high
  batch : Bys q.batch
theorem same_self (w : World) (zs : List Int) (hy : Bys zs) (n : Nat) (hn : zs.length = n) (sp tp : Option Addr) (cap dap : Nat) (hS : Src w sp cap zs) (hT : Src w tp dap zs) :
    Calls Try.prog 11 #[.slice sp n cap, .slice tp n dap] w fun e w' => e = .returned (.bool true) ∧ w' = w := by
  subst hn
  have := same_any w zs zs hy hy sp tp cap dap hS hT
  simpa using this
set_option maxRecDepth 100000 in
set_option maxHeartbeats 4000000 in
theorem sameRequest_yes (w : World) (q : Rq) (hY : RqY q) (ks hs bs : Option Addr) (kc hc bc : Nat) (hI : RqIn w q ks hs bs kc hc bc) (ks' hs' bs' : Option Addr) (kc' hc' bc' : Nat) (hI' : RqIn w q ks' hs' bs' kc' hc' bc') :
    Calls Try.prog 9 #[.agg (rqV q ks hs bs kc hc bc).toArray, .agg (rqV q ks' hs' bs' kc' hc' bc').toArray] w fun e w' => e = .returned (.bool true) ∧ Below w.heap.size w w' := by
  have hbel := ((Below.refl w.heap.size w).alloc (Nat.le_refl _) (.cells (rqV q ks hs bs kc hc bc).toArray 24)).alloc (by simp) (.cells (rqV q ks' hs' bs' kc' hc' bc').toArray 24)
  have I1 := hI.below hbel
  have I2 := hI'.below hbel
  have K1 := hid (same_self _ q.key hY.key _ rfl ks ks' kc kc' I1.sk I2.sk)
  have K2 := hid (same_self _ q.high hY.high _ rfl hs hs' hc hc' I1.sh I2.sh)
  have K3 := hid (same_self _ q.batch hY.batch _ rfl bs bs' bc bc' I1.sb I2.sb)
  have HB := hid hbel
  clear hbel I1 I2 hI hI' hY
  unfold rqV rqC at *
  obtain ⟨op, ver, oth, lim, key, high, batch⟩ := q
  simp only at *
  generalize key.length = n1 at *
  generalize high.length = n2 at *
  generalize batch.length = n3 at *
  go_enter Try.func9, Try.ntmps9
  go_wp2_with fail
  refine K1.out.mono ?_
  rintro e w' ⟨rfl, hw'⟩
  obtain rfl := hw'.symm
  go_wp2_with fail
  refine K2.out.mono ?_
  rintro e w' ⟨rfl, hw'⟩
  obtain rfl := hw'.symm
  go_wp2_with fail
  refine K3.out.mono ?_
  rintro e w' ⟨rfl, hw'⟩
  obtain rfl := hw'.symm
  go_wp2
  go_ret
  exact ⟨rfl, HB.out⟩
theorem Own.form_some {w : World} {base : Nat} {v : Value} {zs : List Int} (h : Own w base v zs) {k : Nat} (hk : v.ownBlock = some k) : ∃ cap, v = .slice (some ⟨k, 0, none⟩) zs.length cap ∧ Src w (some ⟨k, 0, none⟩) cap zs := by
  obtain ⟨sp, cap, rfl, hS, _⟩ := h.form
  have h2 := h.2
  rcases h2 with ⟨e, _⟩ | ⟨g, c, cur, e, _⟩
  · rw [e] at hk; simp [Value.ownBlock] at hk
  · rw [e] at hk
    simp [Value.ownBlock] at hk
    subst hk
    simp only [Value.slice.injEq] at e
    obtain ⟨rfl, _, rfl⟩ := e
    exact ⟨_, rfl, hS⟩
theorem ask9 : decP [9] = some ⟨9, 0, 0, 0, [], [], []⟩ := by
  rw [dec_ask _ (fun x hx => by simp at hx; omega)]; rfl
theorem rdQ_bys {raw : List Int} (hy : Bys raw) : RqY (askQ raw) ∧ RqB (askQ raw) := by
  have hb := fun a n => w64_bd (leN (cutL raw a n))
  have hg : 0 ≤ raw.getD 0 0 ∧ raw.getD 0 0 < 256 := by
    by_cases h : 0 < raw.length
    · exact hy.at 0 h
    · obtain rfl : raw = [] := List.eq_nil_of_length_eq_zero (by omega)
      simp
  unfold askQ
  simp only
  generalize raw.getD 0 0 = x at *
  split
  · exact ⟨⟨Bys.nil, Bys.nil, cutL_bys hy _ _⟩, ⟨by simp only; omega, by simp, by simp, by simp⟩⟩
  split
  · exact ⟨⟨cutL_bys hy _ _, Bys.nil, Bys.nil⟩, ⟨by simp only; omega, hb _ _, by simp, by simp⟩⟩
  split
  · exact ⟨⟨Bys.nil, Bys.nil, Bys.nil⟩, ⟨by simp only; omega, hb _ _, by simp, by simp⟩⟩
  split
  · exact ⟨⟨cutL_bys hy _ _, cutL_bys hy _ _, Bys.nil⟩, ⟨by simp only; omega, hb _ _, by simp, by simp⟩⟩
  split
  · exact ⟨⟨cutL_bys hy _ _, cutL_bys hy _ _, Bys.nil⟩, ⟨by simp only; omega, hb _ _, by simp, hb _ _⟩⟩
  split
  · exact ⟨⟨Bys.nil, Bys.nil, Bys.nil⟩, ⟨by simp only; omega, hb _ _, hb _ _, by simp⟩⟩
  · exact ⟨⟨Bys.nil, Bys.nil, Bys.nil⟩, ⟨by simp only; omega, by simp, by simp, by simp⟩⟩
theorem ask_facts {raw : List Int} (hy : Bys raw) : RqY ((askP raw).getD rq0) ∧ RqB ((askP raw).getD rq0) := by
  unfold askP
  split
  · exact rdQ_bys hy
  · exact ⟨⟨Bys.nil, Bys.nil, Bys.nil⟩, ⟨by simp [rq0], by simp [rq0], by simp [rq0], by simp [rq0]⟩⟩
theorem rqV_one (q : Rq) (ks hs bs : Option Addr) (kc hc bc : Nat) : ∀ v ∈ rqV q ks hs bs kc hc bc, v.oneCell' = true := rqC_one rfl rfl rfl
set_option maxRecDepth 100000 in
set_option maxHeartbeats 8000000 in
theorem deskFrames_any (w : World) (raw : List Int) (hy : Bys raw) (sp : Option Addr) (cap : Nat) (hS : Src w sp cap raw) (hnil : sp = none → cap = 0) (hl : raw.length ≤ 140737488351232) :
    Calls Try.prog 3 #[.slice sp raw.length cap] w fun e w' => e = .returned (.bool true) ∧ Below w.heap.size w w' := by
  have hE := own_empty w
  have hb0 := (Below.refl w.heap.size w).alloc (Nat.le_refl _) (.cells #[] 5)
  have hS1 := hS.below hb0 (Nat.le_refl _)
  have KL := hid (show ([] : List Int).length + raw.length ≤ 140737488351232 by simp; omega)
  have HDA := hid (dec_ask raw hy)
  obtain ⟨hYq, hBq⟩ := ask_facts hy
  have HY := hid hYq
  have HBq := hid hBq
  clear hYq hBq
  have HEN := hid (fun q => enc_ask raw hy q)
  go_enter Try.func3, Try.ntmps3
  go_wp2_with (first | (at_builtin; refine wpList_append_wide rfl (.tmp 9) (.tmp 10) rfl w.heap.size _ [] raw rfl hE sp cap rfl hnil hS1 KL.out (by simp) ?_; intro v1 w1 O1 hg1 hd1; refine Hid.out ?_))
  refine hid ?_
  have hB1 : Below w.heap.size w w1 := hb0.trans (grown_keeps hg1 (fun k e => (hE.block k e).1) (by simp))
  obtain ⟨k1, hk1⟩ : ∃ k, v1.ownBlock = some k := by
    rcases hd1 with e | e
    · exact ⟨w.heap.size, by rw [e]; rfl⟩
    · exact ⟨_, e⟩
  rw [List.nil_append] at O1
  obtain ⟨cap1, rfl, S1⟩ := O1.form_some hk1
  have KD := hid (decode_any w1 raw hy k1 0 cap1 S1 hl)
  clear hE hb0 hS1 KL O1 hg1 hd1 hk1 S1
  go_wp2_with fail
  refine KD.out.mono ?_
  clear KD
  rw [HDA.out]
  rintro e w2 ⟨v2, rfl, Q2, hB2⟩
  have hB2' := hB1.trans (hB2.mono hB1.size)
  obtain ⟨ks, hs, bs, kc, hc, bc, rfl, I2⟩ := Q2.open
  go_wp2_with (first | (refine wpList_storeRowW rfl 24 _ _ rfl w2.heap.size (rqV ((askP raw).getD rq0) ks hs bs kc hc bc) rfl rfl 24 _ (hnew w2 (.cells (rqC 0 0 0 0 (.slice none 0 0) (.slice none 0 0) (.slice none 0 0)).toArray 24)) Try.sizeRq rfl (rqV_one _ _ _ _ _ _ _) ?_; intro w3 hr3 hk3; refine Hid.out ?_))
  refine hid ?_
  have hb3 : Below w2.heap.size w2 w3 := ((Below.refl w2.heap.size w2).alloc (Nat.le_refl _) _).trans (hk3.below_g (Nat.le_refl _) (by simp))
  have hB3 := hB2'.trans (hb3.mono hB2'.size)
  have I3 := I2.below hb3
  have hwz := hid hB2'.size
  have KA := hid (asked_any w3 raw hy sp cap (hS.below hB3 (Nat.le_refl _)) hl)
  clear hB1 hB2 hB2' hb3 hk3 I2 Q2
  go_wp2_with fail
  refine KA.out.mono ?_
  clear KA
  rintro e w4 ⟨v4, rfl, Q4, hB4⟩
  obtain ⟨ks', hs', bs', kc', hc', bc', rfl, I4⟩ := Q4.open
  have hr4 := hbel hB4 hr3 (hlt hr3)
  have I4a := I3.below hB4
  have hB4' := hB3.trans (hB4.mono hB3.size)
  go_wp2_with (first | (refine wpList_storeRowW rfl 24 _ _ rfl w4.heap.size (rqV ((askP raw).getD rq0) ks' hs' bs' kc' hc' bc') rfl rfl 24 _ (hnew w4 (.cells (rqC 0 0 0 0 (.slice none 0 0) (.slice none 0 0) (.slice none 0 0)).toArray 24)) Try.sizeRq rfl (rqV_one _ _ _ _ _ _ _) ?_; intro w5 hr5 hk5; refine Hid.out ?_))
  refine hid ?_
  have hb5 : Below w4.heap.size w4 w5 := ((Below.refl w4.heap.size w4).alloc (Nat.le_refl _) _).trans (hk5.below_g (Nat.le_refl _) (by simp))
  have hB5 := hB4'.trans (hb5.mono hB4'.size)
  have J1 := I4a.below hb5
  have J2 := I4.below hb5
  have R5 := hid hr5
  have R3 := hid (hbel hb5 hr4 (hlt hr4))
  have KS := hid (sameRequest_yes w5 _ HY.out ks hs bs kc hc bc J1 ks' hs' bs' kc' hc' bc' J2)
  clear hr3 hr4 hr5 hB3 hB4 hB4' hb5 hk5 I3 I4 I4a Q4 J2
  go_wp2_with (first | (refine wpList_load_row_w (by rfl) 24 _ rfl w2.heap.size rfl 24 _ (0, 0) _ R3.out Try.underlying24 rfl Try.sizeRq ?_) | (refine wpList_load_row_w (by rfl) 24 _ rfl w4.heap.size rfl 24 _ (0, 0) _ R5.out Try.underlying24 rfl Try.sizeRq ?_) | (go_at_call 9; refine KS.out.mono ?_; rintro e w6 ⟨rfl, hb6⟩; refine Hid.out ?_))
  refine hid ?_
  have hB6 := hB5.trans (hb6.mono hB5.size)
  have R6 := hid (hbel hb6 R3.out (hlt R3.out))
  have J6 := J1.below hb6
  clear R3 R5 KS hB5 J1 hb6
  generalize hA : askP raw = A at *
  replace hA := hid hA
  cases A with
  | none =>
    simp only [Option.getD_none, ecode, Option.isSome_none, Bool.false_eq_true, if_false] at R6 J6 ⊢
    have hs9 := src_new w6 [9] 5 (0, 0) (by simp [maxLen])
    have KD := hid (decode_any _ [9] (fun x hx => by simp at hx; omega) w6.heap.size 0 1 hs9 (by simp))
    rw [ask9] at KD
    have hb6 := (Below.refl w6.heap.size w6).alloc (Nat.le_refl _) (.cells (ints .u8 [9]).toArray 5)
    have R7 := hbel hb6 R6.out (hlt R6.out)
    have hB7 := hB6.trans (hb6.mono hB6.size)
    clear R6 J6 hs9 hb6 hB6
    go_wp2_with fail
    refine KD.out.mono ?_
    clear KD
    generalize w6.alloc (.cells (ints .u8 [9]).toArray 5) = w7 at *
    rintro e w8 ⟨v8, rfl, Q8, hB8⟩
    obtain ⟨k8, h8, b8, rfl, o1, o2, o3⟩ := Q8
    have R8 := hid (hbel hB8 R7 (hlt R7))
    have C1 := hid (rqC_one (op := 9) (ver := 0) (oth := 0) (lim := 0) o1.cells.2 o2.cells.2 o3.cells.2)
    have hB8' := hB7.trans (hB8.mono hB7.size)
    have hw2 : w.heap.size ≤ w2.heap.size := hwz.out
    go_wp2_with (first | (refine wpList_storeRowW rfl 24 _ _ rfl w2.heap.size (rqC 9 0 0 0 k8 h8 b8) rfl rfl 24 _ R8.out Try.sizeRq rfl C1.out ?_; intro w9 hr9 hk9; refine Hid.out ?_))
    refine hid ?_
    have c9 : w9.cell? ⟨w2.heap.size, 0, none⟩ = some (.int .i64 9) := by rw [cell_of_row _ _ _ _ _ _ hr9]; rfl
    have hB9 := hB8'.trans (hk9.below_g hw2 hB8'.size)
    go_wp2
    go_ret
    exact ⟨rfl, hB9⟩
  | some q =>
    simp only [Option.getD_some, ecode, Option.isSome_some, if_true] at R6 J6 HBq ⊢
    have KE := hid (encode_any w6 q HBq.out ks hs bs kc hc bc J6)
    rw [HEN.out q rfl] at KE
    simp only [Option.getD_some, ecode, Option.isSome_some, if_true] at KE
    go_wp2_with (first | (refine wpList_load_row rfl 24 _ rfl w2.heap.size rfl 24 _ (0, 0) _ R6.out Try.underlying24 rfl Try.sizeRq ?_) | (go_at_call 10; refine KE.out.mono ?_; rintro e w7 ⟨v7, rfl, O7, hb7⟩; refine Hid.out ?_))
    refine hid ?_
    obtain ⟨s7, c7, rfl, S7, n7⟩ := O7.form
    have hB7 := hB6.trans (hb7.mono hB6.size)
    have KM := hid (same_self w7 raw hy _ rfl s7 sp c7 cap S7 (hS.below hB7 (Nat.le_refl _)))
    go_wp2_with (first | (go_at_call 11; refine KM.out.mono ?_; rintro e w' ⟨rfl, rfl⟩))
    go_ret
    exact ⟨rfl, hB7⟩
end Go.Proofs.Ythdjgpdgedhonaa
