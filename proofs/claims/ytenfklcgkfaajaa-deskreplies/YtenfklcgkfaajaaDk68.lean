import Derived.Test.YtenfklcgkfaajaaDk60
import Derived.Test.YtenfklcgkfaajaaDk64
import Derived.Test.YtenfklcgkfaajaaDk67
import Derived.Test.YtenfklcgkfaajaaDk52
import Derived.Test.YtenfklcgkfaajaaDk47
namespace Go.Proofs.Ytenfklcgkfaajaa
set_option linter.unusedVariables false
set_option linter.unusedSimpArgs false
open Go.RowKit
attribute [local go_sem ↓] Go.wp_at_zero Go.wp_at_succ

/-- The rest of a reply's bytes. -/
structure RpZ (r : Rp) : Prop where
  sum : Bys r.sum
  inf : Bys r.info.sum
  list : ∀ x ∈ r.list, Bys x.key ∧ Bys x.val
  chs : ∀ x ∈ r.chs, Bys x.key ∧ Bys x.val
theorem vaB_bys {v : List Int} (h : Bys v) : Bys (vaB v) := (lowN_bys _ _).append h
theorem elB_bys {c : Bool} {x : Cg} (h : Bys x.key ∧ Bys x.val) : Bys (elB c x) := by
  unfold elB
  split
  · split
    · exact (Bys.cons (by omega) Bys.nil).append h.1
    · exact ((Bys.cons (by omega) Bys.nil).append h.1).append (vaB_bys h.2)
  · exact h.1.append (vaB_bys h.2)
theorem lsB_bys {c : Bool} {xs : List Cg} (h : ∀ x ∈ xs, Bys x.key ∧ Bys x.val) : Bys (lsB c xs) := by
  refine (lowN_bys _ _).append fun y hy => ?_
  obtain ⟨x, hx, hy2⟩ := List.mem_flatMap.1 hy
  exact elB_bys (h x hx) y hy2
theorem flB_bys (b : Bool) : Bys (flB b) := by cases b <;> exact Bys.cons (by decide) Bys.nil
theorem fdB_bys (op : Int) {r : Rp} (hY : RpY r) (hZ : RpZ r) : Bys (fdB op r) := by
  unfold fdB
  split
  · exact lowN_bys _ _
  split
  · refine (flB_bys _).append ?_
    split
    · exact vaB_bys hY.val
    · exact Bys.nil
  split
  · exact hZ.sum
  split
  · exact hY.raw
  split
  · exact (flB_bys _).append (lsB_bys hZ.list)
  split
  · exact lsB_bys hZ.chs
  split
  · unfold inB
    exact ((((((lowN_bys _ _).append (lowN_bys _ _)).append (lowN_bys _ _)).append (lowN_bys _ _)).append (lowN_bys _ _)).append (lowN_bys _ _)).append hZ.inf
  · exact Bys.nil
theorem enR_bys (op : Int) {r : Rp} (hY : RpY r) (hZ : RpZ r) : Bys ((enR op r).getD []) := by
  unfold enR
  split
  · show Bys (ryB op r)
    unfold ryB
    refine (lowN_bys _ _).append ?_
    split
    · exact fdB_bys op hY hZ
    · exact Bys.nil
  · exact Bys.nil
theorem lsB_le {c : Bool} {xs : List Cg} (hk : ∀ x ∈ xs, x.key.length = 32) (h : lsF c xs = true) : (lsB c xs).length ≤ 1000000 := by
  unfold lsF at h
  rw [Bool.and_eq_true, decide_eq_true_iff, List.all_eq_true] at h
  have a := lsB_len (c := c) xs (fun x hx => ⟨hk x hx, h.2 x hx⟩)
  have b : xs.length * 163 ≤ 4096 * 163 := Nat.mul_le_mul_right _ h.1
  unfold lsB
  rw [List.length_append, lowN_len]
  omega
theorem fdB_le (op : Int) {r : Rp} (hl : RpL r) (hK : RpK r) (hraw : r.raw.length ≤ 140737488351232) (h : fdF op r = true) : (fdB op r).length ≤ 140737488351232 := by
  unfold fdB
  unfold fdF at h
  by_cases h1 : op = 1
  · simp only [if_pos h1]; rw [lowN_len]; omega
  simp only [if_neg h1]
  by_cases h2 : op = 2
  · simp only [if_pos h2] at h ⊢
    rw [List.length_append]
    have e : (flB r.found).length = 1 := rfl
    cases hf : r.found with
    | true =>
      rw [hf] at h e
      simp at h
      simp only [if_true]
      unfold vaB
      rw [List.length_append, lowN_len]; omega
    | false => rw [hf] at e; simp only [Bool.false_eq_true, if_false]; simp; omega
  simp only [if_neg h2] at h ⊢
  by_cases h3 : op = 3
  · simp only [if_pos h3]; rw [hl.sum]; omega
  simp only [if_neg h3]
  by_cases h4 : op = 4 ∨ op = 5
  · simp only [if_pos h4]; exact hraw
  simp only [if_neg h4]
  by_cases h6 : op = 6
  · simp only [if_pos h6] at h ⊢
    have := lsB_le hK.list h
    have e : (flB r.more).length = 1 := rfl
    rw [List.length_append]; omega
  simp only [if_neg h6] at h ⊢
  by_cases h7 : op = 7
  · simp only [if_pos h7] at h ⊢
    have := lsB_le hK.chs h
    omega
  simp only [if_neg h7] at h ⊢
  by_cases h8 : op = 8
  · simp only [if_pos h8]
    unfold inB
    simp only [List.length_append, lowN_len, hl.inf]; omega
  simp only [if_neg h8]; simp
theorem enR_len (op : Int) {r : Rp} (hl : RpL r) (hK : RpK r) (hraw : r.raw.length ≤ 140737488351232) {b : List Int} (h : enR op r = some b) : b.length ≤ 140737488351234 ∧ 0 < b.length := by
  unfold enR at h
  cases hc : (knO op && ryF op r) with
  | false => rw [hc] at h; cases h
  | true =>
    rw [hc, if_pos rfl] at h
    obtain rfl := Option.some.inj h
    obtain ⟨_, hF⟩ := Bool.and_eq_true_iff.1 hc
    unfold ryF at hF
    unfold ryB
    rw [List.length_append, lowN_len]
    by_cases he : r.err = 0
    · rw [if_pos he] at hF ⊢
      have := fdB_le op hl hK hraw hF
      omega
    · rw [if_neg he]; simp
theorem en513 : enR 9 { rp0 with err := 513 } = some [1, 2] := by decide +kernel
theorem bld513 : Try.prog.built 32 [(0, .int .i64 513)] = some (rpV { rp0 with err := 513 } none none none none 0 0 0 0).toArray := by kernel_rfl
theorem rpI_nil (w : World) (e : Int) : RpI w { rp0 with err := e } none none none none 0 0 0 0 :=
  ⟨⟨rfl, rfl⟩, Src.nil w, Src.nil w, fun _ => rfl, fun _ => rfl, ⟨fun _ => rfl, Nat.le_refl _, by simp [maxLen], 0, 0, fun h => by simp [rp0] at h, fun k hk => by simp [rp0] at hk⟩, ⟨fun _ => rfl, Nat.le_refl _, by simp [maxLen], 0, 0, fun h => by simp [rp0] at h, fun k hk => by simp [rp0] at hk⟩⟩
/-- DeskReplies midway: the reply that came in and the one that is made of it, boxed. -/
structure DP (w wc : World) (g : Nat) (cx cy : List Value) : Prop where
  rx : wc.heap[w.heap.size]? = some (.cells cx.toArray 32 (0, 0))
  ry : wc.heap[g]? = some (.cells cy.toArray 32 (0, 0))
  bel : Below w.heap.size w wc
theorem DP.call {w wc w1 : World} {g : Nat} {cx cy : List Value} (h : DP w wc g cx cy) (hb : Below wc.heap.size wc w1) : DP w w1 g cx cy :=
  ⟨hbel hb h.rx (hlt h.rx), hbel hb h.ry (hlt h.ry), h.bel.trans (hb.mono h.bel.size)⟩
set_option maxRecDepth 100000 in
set_option maxHeartbeats 8000000 in
theorem deskReplies_any (w : World) (op : Int) (o0 : -9223372036854775808 ≤ op) (o1 : op ≤ 9223372036854775807) (r : Rp) (hB : RpB r) (hY : RpY r) (hM : RpM r) (hK : RpK r) (hZ : RpZ r) (vs rs ls cs : Option Addr) (vc rc lc cc : Nat) (hI : RpI w r vs rs ls cs vc rc lc cc) :
    Calls Try.prog 5 #[.int .i64 op, .agg (rpV r vs rs ls cs vc rc lc cc).toArray] w fun e w' => e = .returned (.bool true) ∧ Below w.heap.size w w' := by
  have hb1 := (Below.refl w.heap.size w).alloc (Nat.le_refl _) (.cells (rpV r vs rs ls cs vc rc lc cc).toArray 32)
  have hr1 := hnew w (.cells (rpV r vs rs ls cs vc rc lc cc).toArray 32)
  have SR := hid (show (Try.prog.info? 32).map (·.size) = some (rpV r vs rs ls cs vc rc lc cc).toArray.size from (repSizes hI.l).1)
  have KO := hid (ownReply_any (w.alloc (.cells (rpV r vs rs ls cs vc rc lc cc).toArray 32)) r hM vs rs ls cs vc rc lc cc (hI.below hb1))
  have R1 := hid hr1
  go_enter Try.func5, Try.ntmps5
  go_wp2_with (first | (refine wpList_load_row rfl 32 _ rfl w.heap.size rfl 32 _ (0, 0) _ R1.out Try.underlying32 rfl SR.out ?_) | (go_at_call 21; refine KO.out.mono ?_; rintro e w2 ⟨kv, kvc, kr, krc, ls1, cs1, lc1, cc1, rfl, hO2, hb2⟩; refine Hid.out ?_))
  refine hid ?_
  have hB2 := hb1.trans (hb2.mono hb1.size)
  have hr2 := hbel hb2 hr1 (hlt hr1)
  clear KO R1 hb1 hr1 hb2
  have SR1 := hid (show (Try.prog.info? 32).map (·.size) = some (rpV r (some ⟨kv, 0, none⟩) (some ⟨kr, 0, none⟩) ls1 cs1 kvc krc lc1 cc1).toArray.size from (repSizes hI.l).1)
  have SL1 := hid (show (Try.prog.info? 32).map (·.size) = some (rpV r (some ⟨kv, 0, none⟩) (some ⟨kr, 0, none⟩) ls1 cs1 kvc krc lc1 cc1).length from (repSizes hI.l).2.1)
  have SE1 := hid (show (rpC rp0 (.slice none 0 0) (.slice none 0 0) (.slice none 0 0) (.slice none 0 0)).length = (rpV r (some ⟨kv, 0, none⟩) (some ⟨kr, 0, none⟩) ls1 cs1 kvc krc lc1 cc1).length from (repSizes hI.l).2.2)
  have C1 := hid (show ∀ v ∈ rpV r (some ⟨kv, 0, none⟩) (some ⟨kr, 0, none⟩) ls1 cs1 kvc krc lc1 cc1, v.oneCell' = true from rpC_one rfl rfl rfl rfl)
  go_wp2_with (first | (refine wpList_allocV allocRep rfl rfl ?_) | (refine wpList_storeRowW rfl 32 _ _ rfl w2.heap.size (rpV r (some ⟨kv, 0, none⟩) (some ⟨kr, 0, none⟩) ls1 cs1 kvc krc lc1 cc1) rfl rfl 32 _ (hnew w2 (.cells (rpC rp0 (.slice none 0 0) (.slice none 0 0) (.slice none 0 0) (.slice none 0 0)).toArray 32)) SL1.out SE1.out C1.out ?_; intro w3 hr3 hk3; refine Hid.out ?_))
  refine hid ?_
  have hb3 : Below w2.heap.size w2 w3 := ((Below.refl w2.heap.size w2).alloc (Nat.le_refl _) _).trans (hk3.below_g (Nat.le_refl _) (by simp))
  have D3 : DP w w3 w2.heap.size (rpV r vs rs ls cs vc rc lc cc) (rpV r (some ⟨kv, 0, none⟩) (some ⟨kr, 0, none⟩) ls1 cs1 kvc krc lc1 cc1) := ⟨hbel hb3 hr2 (hlt hr2), hr3, hB2.trans (hb3.mono hB2.size)⟩
  have hO3 := hO2.below hb3
  generalize w2.heap.size = G at *
  clear hr2 hr3 hk3 hb3 hB2 hO2 SL1 SE1 C1
  have KE := hid (encodeR_any w3 op o0 o1 r hB _ _ _ _ _ _ _ _ hO3.inn)
  have RY := hid D3.ry
  go_wp2_with (first | (refine wpList_load_row rfl 32 _ rfl G rfl 32 _ (0, 0) _ RY.out Try.underlying32 rfl SR1.out ?_) | (go_at_call 22; refine KE.out.mono ?_; rintro e w4 ⟨v4, rfl, O4, hb4⟩; refine Hid.out ?_))
  refine hid ?_
  have D4 := D3.call hb4
  have hO4 := hO3.below hb4
  clear KE RY D3 hO3 hb4
  have KQ := hid (refReply_any w4 op o0 o1 r hB vs rs ls cs vc rc lc cc (hI.below D4.bel))
  have RX := hid D4.rx
  go_wp2_with (first | (refine wpList_load_row rfl 32 _ rfl w.heap.size rfl 32 _ (0, 0) _ RX.out Try.underlying32 rfl SR.out ?_) | (go_at_call 23; refine KQ.out.mono ?_; rintro e w5 ⟨v5, rfl, O5, hb5⟩; refine Hid.out ?_))
  refine hid ?_
  have D5 := D4.call hb5
  have hO5 := hO4.below hb5
  have O4a := O4.below hb5 (Nat.le_refl _)
  clear KQ RX D4 hO4 hb5 O4
  have hyE := enR_bys op hY hZ
  have HLE := hid (fun b (h : enR op r = some b) => enR_len op hI.l hK hB.raw h)
  have HDE := hid (fun b (h : enR op r = some b) => dc_en op r hI.l hK b h)
  generalize hE : enR op r = E at *
  replace hE := hid hE
  obtain ⟨s4, c4, rfl, S4, n4⟩ := O4a.form
  obtain ⟨s5, c5, rfl, S5, n5⟩ := O5.form
  have KS := hid (same_self w5 (E.getD []) hyE _ rfl s4 s5 c4 c5 S4 S5)
  go_wp2_with fail
  refine KS.out.mono ?_
  rintro e w' ⟨rfl, hw'⟩
  obtain rfl := hw'.symm
  clear KS
  have KU := hid (spared_yes w5 r hY kv kvc kr krc ls1 cs1 lc1 cc1 hO5 vs rs ls cs vc rc lc cc (hI.below D5.bel))
  have RX := hid D5.rx
  have RY := hid D5.ry
  go_wp2_with (first | (refine wpList_load_row_w (by rfl) 32 _ rfl G rfl 32 _ (0, 0) _ RY.out Try.underlying32 rfl SR1.out ?_) | (refine wpList_load_row_w (by rfl) 32 _ rfl w.heap.size rfl 32 _ (0, 0) _ RX.out Try.underlying32 rfl SR.out ?_) | (go_at_call 25; refine KU.out.mono ?_; rintro e w6 ⟨rfl, hb6⟩; refine Hid.out ?_))
  refine hid ?_
  have hB6 := (D5.call hb6).bel
  have S6 := S4.below hb6 (Nat.le_refl _)
  have S7 := S5.below hb6 (Nat.le_refl _)
  clear KU RX RY D5 hO5 O4a O5 hb6 S4 S5 SR SR1
  cases E with
  | none =>
    simp only [Option.getD_none, ecode, Option.isSome_none, Bool.false_eq_true, if_false]
    have KE := hid (encodeR_any w6 9 (by omega) (by omega) { rp0 with err := 513 } ⟨by simp, by simp [rp0], ⟨by simp [rp0, nf0], by simp [rp0, nf0], by simp [rp0, nf0], by simp [rp0, nf0], by simp [rp0, nf0], by simp [rp0, nf0]⟩, by simp [rp0]⟩ none none none none 0 0 0 0 (rpI_nil w6 513))
    rw [en513] at KE
    have B5 := hid bld513
    go_wp2_with (first | (refine wpList_built (by rfl) 32 _ rfl _ rfl _ B5.out ?_) | (go_at_call 22; refine KE.out.mono ?_; rintro e w8 ⟨v8, rfl, O8, hb8⟩; refine Hid.out ?_))
    refine hid ?_
    simp only [Option.getD_some, ecode, Option.isSome_some, if_true] at O8 ⊢
    obtain ⟨s8, c8, rfl, S8, n8⟩ := O8.form
    have hB8 := hB6.trans (hb8.mono hB6.size)
    have hb9 := (Below.refl w8.heap.size w8).alloc (Nat.le_refl _) (.cells (ints .u8 [1, 2]).toArray 5)
    have HB9 := hid (hB8.trans (hb9.mono hB8.size))
    have KM := hid (same_self (w8.alloc (.cells (ints .u8 [1, 2]).toArray 5)) [1, 2] (fun x hx => by simp at hx; omega) _ rfl s8 (some ⟨w8.heap.size, 0, none⟩) c8 2 (S8.below hb9 (Nat.le_refl _)) (src_new w8 [1, 2] 5 (0, 0) (by simp [maxLen])))
    clear KE B5 O8 hb8 hb9 hB8 S8
    go_wp2_with (first | (go_at_call 24; refine KM.out.mono ?_; rintro e w' ⟨rfl, rfl⟩))
    go_ret
    exact ⟨rfl, HB9.out⟩
  | some b =>
    obtain ⟨hl1, hl2⟩ := HLE.out b rfl
    obtain ⟨q, hq⟩ := HDE.out b rfl
    simp only [Option.getD_some] at hyE S6 S7
    obtain ⟨hBq, hYq⟩ := dcP_facts op b hyE hl1
    have HT := dc_tl op b
    rw [hq] at hYq HT
    simp only [Option.getD_some] at hYq
    have HY := hid hYq
    obtain ⟨b6, o6, hb6', hsp6, hsrc6⟩ := S6.2.2
    obtain rfl := hsp6 hl2
    have KD := hid (decodeR_any w6 b hyE b6 o6 c4 S6 hl1 op o0 o1)
    rw [hq] at KD
    simp only [Option.getD_some, ecode, Option.isSome_some, if_true] at KD ⊢
    have KT := hid (fun (w8 : World) (h8 : Below w6.heap.size w6 w8) => told_any w8 s5 c5 b hyE (S7.below h8 (Nat.le_refl _)) hl1 op o0 o1)
    rw [← HT] at KT
    simp only [Option.getD_some, ecode, Option.isSome_some, if_true] at KT
    clear hb6' hsp6 hsrc6 hBq hYq HT HLE HDE hyE
    replace hq := hid hq
    go_wp2_with fail
    refine KD.out.mono ?_
    clear KD
    rintro e w8 ⟨vv, rv, lv, cv, rfl, ⟨ml, mc, Q8⟩, hB8⟩
    obtain ⟨vs8, rs8, ls8, cs8, vc8, rc8, lc8, cc8, hq8, I8⟩ := Q8.inn
    rw [hq8]
    have SR8 := hid (show (Try.prog.info? 32).map (·.size) = some (rpV q vs8 rs8 ls8 cs8 vc8 rc8 lc8 cc8).toArray.size from (repSizes I8.l).1)
    have SL8 := hid (show (Try.prog.info? 32).map (·.size) = some (rpV q vs8 rs8 ls8 cs8 vc8 rc8 lc8 cc8).length from (repSizes I8.l).2.1)
    have SE8 := hid (show (rpC rp0 (.slice none 0 0) (.slice none 0 0) (.slice none 0 0) (.slice none 0 0)).length = (rpV q vs8 rs8 ls8 cs8 vc8 rc8 lc8 cc8).length from (repSizes I8.l).2.2)
    have C8 := hid (show ∀ v ∈ rpV q vs8 rs8 ls8 cs8 vc8 rc8 lc8 cc8, v.oneCell' = true from rpC_one rfl rfl rfl rfl)
    clear hq8 Q8
    go_wp2_with (first | (refine wpList_allocV allocRep rfl rfl ?_) | (refine wpList_storeRowW rfl 32 _ _ rfl w8.heap.size (rpV q vs8 rs8 ls8 cs8 vc8 rc8 lc8 cc8) rfl rfl 32 _ (hnew w8 (.cells (rpC rp0 (.slice none 0 0) (.slice none 0 0) (.slice none 0 0) (.slice none 0 0)).toArray 32)) SL8.out SE8.out C8.out ?_; intro w9 hr9 hk9; refine Hid.out ?_))
    refine hid ?_
    have hb9 : Below w8.heap.size w8 w9 := ((Below.refl w8.heap.size w8).alloc (Nat.le_refl _) _).trans (hk9.below_g (Nat.le_refl _) (by simp))
    have h69 := hB8.trans (hb9.mono hB8.size)
    have hB9 := hB6.trans (h69.mono hB6.size)
    have I9 := I8.below hb9
    have KA := hid (KT.out w9 h69)
    clear KT hb9 hk9 hB8 I8 SL8 SE8 C8
    go_wp2_with fail
    refine KA.out.mono ?_
    clear KA
    rintro e wa ⟨vv', rv', lv', cv', rfl, ⟨ml', mc', Qa⟩, hBa⟩
    obtain ⟨vsa, rsa, lsa, csa, vca, rca, lca, cca, hqa, Ia⟩ := Qa.inn
    rw [hqa]
    have hra := hbel hBa hr9 (hlt hr9)
    have Ia9 := I9.below hBa
    have hBa' := hB9.trans (hBa.mono hB9.size)
    have SRa := hid (show (Try.prog.info? 32).map (·.size) = some (rpV q vsa rsa lsa csa vca rca lca cca).toArray.size from (repSizes Ia.l).1)
    have SLa := hid (show (Try.prog.info? 32).map (·.size) = some (rpV q vsa rsa lsa csa vca rca lca cca).length from (repSizes Ia.l).2.1)
    have SEa := hid (show (rpC rp0 (.slice none 0 0) (.slice none 0 0) (.slice none 0 0) (.slice none 0 0)).length = (rpV q vsa rsa lsa csa vca rca lca cca).length from (repSizes Ia.l).2.2)
    have Ca := hid (show ∀ v ∈ rpV q vsa rsa lsa csa vca rca lca cca, v.oneCell' = true from rpC_one rfl rfl rfl rfl)
    clear hqa Qa
    go_wp2_with (first | (refine wpList_allocV allocRep rfl rfl ?_) | (refine wpList_storeRowW rfl 32 _ _ rfl wa.heap.size (rpV q vsa rsa lsa csa vca rca lca cca) rfl rfl 32 _ (hnew wa (.cells (rpC rp0 (.slice none 0 0) (.slice none 0 0) (.slice none 0 0) (.slice none 0 0)).toArray 32)) SLa.out SEa.out Ca.out ?_; intro wb hrb hkb; refine Hid.out ?_))
    refine hid ?_
    have hbb : Below wa.heap.size wa wb := ((Below.refl wa.heap.size wa).alloc (Nat.le_refl _) _).trans (hkb.below_g (Nat.le_refl _) (by simp))
    have hBb := hBa'.trans (hbb.mono hBa'.size)
    have J1 := Ia9.below hbb
    have J2 := Ia.below hbb
    have Rb := hid hrb
    have R9 := hid (hbel hbb hra (hlt hra))
    have KM := hid (sameReply_yes wb q HY.out vs8 rs8 ls8 cs8 vc8 rc8 lc8 cc8 J1 vsa rsa lsa csa vca rca lca cca J2)
    clear hr9 hra hrb hB9 hBa hBa' hbb hkb I9 Ia Ia9 J1 J2 SLa SEa Ca h69
    go_wp2_with (first | (refine wpList_load_row_w (by rfl) 32 _ rfl w8.heap.size rfl 32 _ (0, 0) _ R9.out Try.underlying32 rfl SR8.out ?_) | (refine wpList_load_row_w (by rfl) 32 _ rfl wa.heap.size rfl 32 _ (0, 0) _ Rb.out Try.underlying32 rfl SRa.out ?_) | (go_at_call 12; refine KM.out.mono ?_; rintro e wc ⟨rfl, hbc⟩))
    go_ret
    exact ⟨rfl, hBb.trans (hbc.mono hBb.size)⟩
end Go.Proofs.Ytenfklcgkfaajaa
