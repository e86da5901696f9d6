import Derived.Test.YthdjgpdgedhonaaDk16
namespace Go.Proofs.Ythdjgpdgedhonaa
set_option linter.unusedVariables false
set_option linter.unusedSimpArgs false
open Go.RowKit
attribute [local go_sem ↓] Go.wp_at_zero Go.wp_at_succ

theorem Rmy.keeps {w w1 : World} {g k cap : Nat} {zs : List Int} (h : Rmy w k cap zs) (hk : Keeps g w w1) (hne : k ≠ g) : Rmy w1 k cap zs := ⟨hk.src h.1 hne, Nat.lt_of_lt_of_le h.2 hk.size⟩
/-- DeskRequests midway: the request that came in, boxed, and the one that is made of it. -/
structure DQ (w wc : World) (cs : List Value) (op ver oth lim : Int) (kv hv bv : Value) : Prop where
  rx : wc.heap[w.heap.size]? = some (.cells cs.toArray 24 (0, 0))
  ry : wc.heap[w.heap.size + 1]? = some (.cells (rqC op ver oth lim kv hv bv).toArray 24 (0, 0))
  bel : Below w.heap.size w wc
  sz : w.heap.size + 2 ≤ wc.heap.size
theorem DQ.call {w wc w1 : World} {cs : List Value} {op ver oth lim : Int} {kv hv bv : Value} (h : DQ w wc cs op ver oth lim kv hv bv) (hb : Below wc.heap.size wc w1) : DQ w w1 cs op ver oth lim kv hv bv :=
  ⟨hbel hb h.rx (hlt h.rx), hbel hb h.ry (hlt h.ry), h.bel.trans (hb.mono h.bel.size), Nat.le_trans h.sz hb.size⟩
theorem DQ.put {w wc w1 : World} {cs : List Value} {op ver oth lim op' ver' oth' lim' : Int} {kv hv bv kv' hv' bv' : Value} (h : DQ w wc cs op ver oth lim kv hv bv) (row : w1.heap[w.heap.size + 1]? = some (.cells (rqC op' ver' oth' lim' kv' hv' bv').toArray 24 (0, 0))) (k : Keeps (w.heap.size + 1) wc w1) : DQ w w1 cs op' ver' oth' lim' kv' hv' bv' :=
  ⟨k.heap h.rx (by omega), row, h.bel.trans (k.below_g (by omega) h.bel.size), Nat.le_trans h.sz k.size⟩
theorem DQ.xc {w wc : World} {op ver oth lim o1 v1 t1 l1 : Int} {kv hv bv k1 h1 b1 : Value} (h : DQ w wc (rqC o1 v1 t1 l1 k1 h1 b1) op ver oth lim kv hv bv) :
    wc.cell? ⟨w.heap.size, 4, none⟩ = some k1 ∧ wc.cell? ⟨w.heap.size, 5, none⟩ = some h1 ∧ wc.cell? ⟨w.heap.size, 6, none⟩ = some b1 := by
  refine ⟨?_, ?_, ?_⟩ <;> (rw [cell_of_row _ _ _ _ _ _ h.rx]; rfl)
theorem DQ.yc {w wc : World} {cs : List Value} {op ver oth lim : Int} {kv hv bv : Value} (h : DQ w wc cs op ver oth lim kv hv bv) :
    wc.cell? ⟨w.heap.size + 1, 4, none⟩ = some kv ∧ wc.cell? ⟨w.heap.size + 1, 5, none⟩ = some hv ∧ wc.cell? ⟨w.heap.size + 1, 6, none⟩ = some bv := by
  refine ⟨?_, ?_, ?_⟩ <;> (rw [cell_of_row _ _ _ _ _ _ h.ry]; rfl)
theorem encP_8 : encP ⟨8, 0, 0, 0, [], [], []⟩ = some [8] := by decide +kernel
theorem encB_bys {q : Rq} (hk : knO q.op = true) (hY : RqY q) : Bys (encB (shO q.op) q) := by
  have hx : 1 ≤ q.op ∧ q.op ≤ 9 := by unfold knO at hk; simpa using hk
  unfold encB opt
  refine Bys.append (Bys.append (Bys.append (Bys.append (Bys.append (Bys.append (Bys.cons (by omega) Bys.nil) ?_) ?_) ?_) ?_) ?_) ?_
  all_goals (split <;> first | exact hY.key | exact hY.high | exact hY.batch | exact lowN_bys _ _ | exact Bys.nil)
theorem encP_bys {q : Rq} (hY : RqY q) : Bys ((encP q).getD []) := by
  unfold encP
  split
  · rename_i h
    exact encB_bys (Bool.and_eq_true_iff.1 h).1 hY
  · exact Bys.nil
theorem encP_len {q : Rq} {b : List Int} (h : encP q = some b) : b.length ≤ 12000 ∧ 0 < b.length := by
  have a := ask_enc q b h
  unfold askP at a
  cases hk : askOk b with
  | false => rw [hk] at a; cases a
  | true => unfold askOk at hk; rw [decide_eq_true_iff] at hk; omega
set_option maxRecDepth 100000 in
set_option maxHeartbeats 8000000 in
theorem deskRequests_any (w : World) (q : Rq) (hB : RqB q) (hY : RqY q) (ks hs bs : Option Addr) (kc hc bc : Nat) (hI : RqIn w q ks hs bs kc hc bc) (l1 : q.key.length ≤ 140737488351232) (l2 : q.high.length ≤ 140737488351232) (l3 : q.batch.length ≤ 140737488351232) :
    Calls Try.prog 4 #[.agg (rqV q ks hs bs kc hc bc).toArray] w fun e w' => e = .returned (.bool true) ∧ Below w.heap.size w w' := by
  have hr1 := hnew w (.cells (rqV q ks hs bs kc hc bc).toArray 24)
  have hs1 : (w.alloc (.cells (rqV q ks hs bs kc hc bc).toArray 24)).heap.size = w.heap.size + 1 := by simp
  have hr2 := hnew (w.alloc (.cells (rqV q ks hs bs kc hc bc).toArray 24)) (.cells (rqC 0 0 0 0 (.slice none 0 0) (.slice none 0 0) (.slice none 0 0)).toArray 24)
  rw [hs1] at hr2
  go_enter Try.func4, Try.ntmps4
  go_wp2_with (first | (refine wpList_load_row rfl 24 _ rfl w.heap.size rfl 24 _ (0, 0) _ hr1 Try.underlying24 rfl Try.sizeRq ?_) | (refine wpList_storeRowW rfl 24 _ _ rfl (w.heap.size + 1) (rqV q ks hs bs kc hc bc) rfl rfl 24 _ hr2 Try.sizeRq rfl (rqV_one _ _ _ _ _ _ _) ?_; intro w2 hy2 hk2; refine Hid.out ?_))
  refine hid ?_
  have D2 : DQ w w2 (rqV q ks hs bs kc hc bc) q.op q.ver q.oth q.lim (.slice ks q.key.length kc) (.slice hs q.high.length hc) (.slice bs q.batch.length bc) := by
    have hb : Below w.heap.size w ((w.alloc (.cells (rqV q ks hs bs kc hc bc).toArray 24)).alloc (.cells (rqC 0 0 0 0 (.slice none 0 0) (.slice none 0 0) (.slice none 0 0)).toArray 24)) := ((Below.refl _ _).alloc (Nat.le_refl _) _).alloc (by simp) _
    exact ⟨hk2.heap (hold hr1) (by omega), hy2, hb.trans (hk2.below_g (by omega) (by simp; omega)), by have := hk2.size; simp at this; omega⟩
  clear hr1 hr2 hs1 hy2 hk2
  obtain ⟨xa2, xb2, xc2⟩ := D2.xc
  have KR := hid (roomy_any w2 q.key ks kc (hI.sk.below D2.bel (Nat.le_refl _)) hI.nk l1)
  go_wp2_with fail
  refine KR.out.mono ?_
  clear KR
  rintro e w3 ⟨k3, c3, rfl, hk3, R3, hb3⟩
  have D3 := D2.call hb3
  have n3 : k3 ≠ w.heap.size + 1 := by have := D2.sz; omega
  have Y3 := hid D3.ry
  go_wp2_with (first | (refine wpList_storeW rfl 22 _ _ rfl (w.heap.size + 1) 4 _ rfl rfl _ 24 Y3.out (by simp [rqC]) Try.sizeBy rfl rfl ?_; intro w4 hy4 hk4; refine Hid.out ?_))
  refine hid ?_
  have D4 : DQ w w4 (rqV q ks hs bs kc hc bc) q.op q.ver q.oth q.lim (.slice (some ⟨k3, 0, none⟩) q.key.length c3) (.slice hs q.high.length hc) (.slice bs q.batch.length bc) := D3.put hy4 hk4
  have R4 := R3.keeps hk4 n3
  clear D2 D3 Y3 R3 hb3 hy4 hk4 xa2 xb2 xc2 hk3
  obtain ⟨xa4, xb4, xc4⟩ := D4.xc
  have KR := hid (roomy_any w4 q.high hs hc (hI.sh.below D4.bel (Nat.le_refl _)) hI.nh l2)
  go_wp2_with fail
  refine KR.out.mono ?_
  clear KR
  rintro e w5 ⟨k5, c5, rfl, hk5, R5, hb5⟩
  have D5 := D4.call hb5
  have n5 : k5 ≠ w.heap.size + 1 := by have := D4.sz; omega
  have Y5 := hid D5.ry
  have R5a := R4.below hb5 (Nat.le_refl _)
  go_wp2_with (first | (refine wpList_storeW rfl 22 _ _ rfl (w.heap.size + 1) 5 _ rfl rfl _ 24 Y5.out (by simp [rqC]) Try.sizeBy rfl rfl ?_; intro w6 hy6 hk6; refine Hid.out ?_))
  refine hid ?_
  have D6 : DQ w w6 (rqV q ks hs bs kc hc bc) q.op q.ver q.oth q.lim (.slice (some ⟨k3, 0, none⟩) q.key.length c3) (.slice (some ⟨k5, 0, none⟩) q.high.length c5) (.slice bs q.batch.length bc) := D5.put hy6 hk6
  have R6 := R5.keeps hk6 n5
  have R6a := R5a.keeps hk6 n3
  clear D4 D5 Y5 R5 R5a R4 hb5 hy6 hk6 xa4 xb4 xc4 hk5
  obtain ⟨xa6, xb6, xc6⟩ := D6.xc
  have KR := hid (roomy_any w6 q.batch bs bc (hI.sb.below D6.bel (Nat.le_refl _)) hI.nb l3)
  go_wp2_with fail
  refine KR.out.mono ?_
  clear KR
  rintro e w7 ⟨k7, c7, rfl, hk7, R7, hb7⟩
  have D7 := D6.call hb7
  have n7 : k7 ≠ w.heap.size + 1 := by have := D6.sz; omega
  have Y7 := hid D7.ry
  have R7a := R6.below hb7 (Nat.le_refl _)
  have R7b := R6a.below hb7 (Nat.le_refl _)
  go_wp2_with (first | (refine wpList_storeW rfl 22 _ _ rfl (w.heap.size + 1) 6 _ rfl rfl _ 24 Y7.out (by simp [rqC]) Try.sizeBy rfl rfl ?_; intro w8 hy8 hk8; refine Hid.out ?_))
  refine hid ?_
  have D8 : DQ w w8 (rqV q ks hs bs kc hc bc) q.op q.ver q.oth q.lim (.slice (some ⟨k3, 0, none⟩) q.key.length c3) (.slice (some ⟨k5, 0, none⟩) q.high.length c5) (.slice (some ⟨k7, 0, none⟩) q.batch.length c7) := D7.put hy8 hk8
  have P3 := R7b.keeps hk8 n3
  have P5 := R7a.keeps hk8 n5
  have P7 := R7.keeps hk8 n7
  clear D6 D7 Y7 R7 R7a R7b R6 R6a hb7 hy8 hk8 xa6 xb6 xc6 hk7 n3 n5 n7
  have M8 : RqIn w8 q (some ⟨k3, 0, none⟩) (some ⟨k5, 0, none⟩) (some ⟨k7, 0, none⟩) c3 c5 c7 := ⟨P3.src, P5.src, P7.src, (fun h => by cases h), (fun h => by cases h), (fun h => by cases h)⟩
  have KE := hid (encode_any w8 q hB _ _ _ c3 c5 c7 M8)
  have Y8 := hid D8.ry
  go_wp2_with (first | (refine wpList_load_row rfl 24 _ rfl (w.heap.size + 1) rfl 24 _ (0, 0) _ Y8.out Try.underlying24 rfl Try.sizeRq ?_) | (go_at_call 10; refine KE.out.mono ?_; rintro e w9 ⟨v9, rfl, O9, hb9⟩; refine Hid.out ?_))
  refine hid ?_
  have D9 := D8.call hb9
  have Q3 := P3.below hb9 (Nat.le_refl _)
  have Q5 := P5.below hb9 (Nat.le_refl _)
  have Q7 := P7.below hb9 (Nat.le_refl _)
  have M9 := M8.below hb9
  have KQ := hid (refReq_any w9 q hB ks hs bs kc hc bc (hI.below D9.bel))
  have X9 := hid D9.rx
  clear KE Y8 D8 P3 P5 P7 M8
  go_wp2_with (first | (refine wpList_load_row rfl 24 _ rfl w.heap.size rfl 24 _ (0, 0) _ X9.out Try.underlying24 rfl Try.sizeRq ?_) | (go_at_call 13; refine KQ.out.mono ?_; rintro e w10 ⟨v10, rfl, O10, hb10⟩; refine Hid.out ?_))
  refine hid ?_
  have D10 := D9.call hb10
  have R3 := Q3.below hb10 (Nat.le_refl _)
  have R5 := Q5.below hb10 (Nat.le_refl _)
  have R7 := Q7.below hb10 (Nat.le_refl _)
  have M10 := M9.below hb10
  have O9a := O9.below hb10 (Nat.le_refl _)
  have hyE := encP_bys hY
  have HLE := hid (fun b (h : encP q = some b) => encP_len h)
  have HAE := hid (fun b (h : encP q = some b) => ask_enc q b h)
  clear KQ X9 D9 Q3 Q5 Q7 M9 O9
  generalize hE : encP q = E at *
  replace hE := hid hE
  obtain ⟨s9, c9, rfl, S9, n9⟩ := O9a.form
  obtain ⟨s10, c10, rfl, S10, n10⟩ := O10.form
  have KS := hid (same_self w10 (E.getD []) hyE _ rfl s9 s10 c9 c10 S9 S10)
  go_wp2_with fail
  refine KS.out.mono ?_
  rintro e w' ⟨rfl, hw'⟩
  obtain rfl := hw'.symm
  clear KS
  have KR := hid (sameRequest_yes w10 q hY _ _ _ c3 c5 c7 M10 ks hs bs kc hc bc (hI.below D10.bel))
  have X10 := hid D10.rx
  have Y10 := hid D10.ry
  go_wp2_with (first | (refine wpList_load_row_w (by rfl) 24 _ rfl (w.heap.size + 1) rfl 24 _ (0, 0) _ Y10.out Try.underlying24 rfl Try.sizeRq ?_) | (refine wpList_load_row_w (by rfl) 24 _ rfl w.heap.size rfl 24 _ (0, 0) _ X10.out Try.underlying24 rfl Try.sizeRq ?_) | (go_at_call 9; refine KR.out.mono ?_; rintro e w11 ⟨rfl, hb11⟩; refine Hid.out ?_))
  refine hid ?_
  have D11 := D10.call hb11
  have T3 := R3.below hb11 (Nat.le_refl _)
  have T5 := R5.below hb11 (Nat.le_refl _)
  have T7 := R7.below hb11 (Nat.le_refl _)
  have S11 := S9.below hb11 (Nat.le_refl _)
  have S12 := S10.below hb11 (Nat.le_refl _)
  clear KR X10 Y10 R3 R5 R7 M10 D10 S9 S10 O9a O10 hb9 hb10 hb11
  obtain ⟨ya, yb, yc⟩ := D11.yc
  obtain ⟨xa, xb, xc⟩ := D11.xc
  have KU := hid (untouched_yes w11 q.key hY.key k3 c3 T3 ks kc (hI.sk.below D11.bel (Nat.le_refl _)))
  go_wp2_with fail
  refine KU.out.mono ?_
  rintro e w12 ⟨rfl, hb12⟩
  have D12 := D11.call hb12
  have T5a := T5.below hb12 (Nat.le_refl _)
  have T7a := T7.below hb12 (Nat.le_refl _)
  have S13 := S11.below hb12 (Nat.le_refl _)
  have S14 := S12.below hb12 (Nat.le_refl _)
  clear KU D11 T3 T5 T7 S11 S12 ya yb yc xa xb xc hb12
  obtain ⟨ya, yb, yc⟩ := D12.yc
  obtain ⟨xa, xb, xc⟩ := D12.xc
  have KU := hid (untouched_yes w12 q.high hY.high k5 c5 T5a hs hc (hI.sh.below D12.bel (Nat.le_refl _)))
  go_wp2_with fail
  refine KU.out.mono ?_
  rintro e w13 ⟨rfl, hb13⟩
  have D13 := D12.call hb13
  have T7b := T7a.below hb13 (Nat.le_refl _)
  have S15 := S13.below hb13 (Nat.le_refl _)
  have S16 := S14.below hb13 (Nat.le_refl _)
  clear KU D12 T5a T7a S13 S14 ya yb yc xa xb xc hb13
  obtain ⟨ya, yb, yc⟩ := D13.yc
  obtain ⟨xa, xb, xc⟩ := D13.xc
  have KU := hid (untouched_yes w13 q.batch hY.batch k7 c7 T7b bs bc (hI.sb.below D13.bel (Nat.le_refl _)))
  go_wp2_with fail
  refine KU.out.mono ?_
  rintro e w14 ⟨rfl, hb14⟩
  have hB14 := (D13.call hb14).bel
  have S17 := S15.below hb14 (Nat.le_refl _)
  have S18 := S16.below hb14 (Nat.le_refl _)
  clear KU D13 T7b S15 S16 ya yb yc xa xb xc hb14
  cases E with
  | none =>
    simp only [Option.getD_none, ecode, Option.isSome_none, Bool.false_eq_true, if_false]
    have KE := hid (encode_any w14 ⟨8, 0, 0, 0, [], [], []⟩ ⟨by simp, by simp, by simp, by simp⟩ none none none 0 0 0 ⟨Src.nil _, Src.nil _, Src.nil _, fun _ => rfl, fun _ => rfl, fun _ => rfl⟩)
    rw [encP_8] at KE
    go_wp2_with (first | (go_at_call 10; refine KE.out.mono ?_; rintro e w15 ⟨v15, rfl, O15, hb15⟩; refine Hid.out ?_))
    refine hid ?_
    simp only [Option.getD_some, ecode, Option.isSome_some, if_true] at O15 ⊢
    obtain ⟨s15, c15, rfl, S15, n15⟩ := O15.form
    obtain ⟨hc15, hm15, b15, o15, hb15', hsp15, hsrc15⟩ := S15
    obtain rfl := hsp15 (by simp)
    have c0 := hsrc15 0 (by simp)
    simp only [List.getD_cons_zero, Nat.add_zero] at c0
    have hB15 := hB14.trans (hb15.mono hB14.size)
    clear hsrc15 hsp15 KE O15
    go_wp2
    go_ret
    exact ⟨rfl, hB15⟩
  | some b =>
    obtain ⟨hl1, hl2⟩ := HLE.out b rfl
    have hA := HAE.out b rfl
    simp only [Option.getD_some] at hyE S17 S18
    have HDA := dec_ask b hyE
    rw [hA] at HDA
    obtain ⟨hYq, hBq⟩ := rdQ_bys hyE
    have HY := hid hYq
    clear hYq hBq
    obtain ⟨b17, o17, hb17, hsp17, hsrc17⟩ := S17.2.2
    obtain rfl := hsp17 hl2
    clear hsrc17 hsp17 hb17
    have KD := hid (decode_any w14 b hyE b17 o17 c9 S17 (by omega))
    rw [HDA] at KD
    have HA := hid hA
    clear hA HDA
    simp only [Option.getD_some, ecode, Option.isSome_some, if_true] at KD ⊢
    generalize hq2 : askQ b = q2 at *
    replace hq2 := hid hq2
    go_wp2_with fail
    refine KD.out.mono ?_
    rintro e w15 ⟨v15, rfl, Q15, hb15⟩
    obtain ⟨k15, h15, b15, rfl, a1, a2, a3⟩ := Q15
    have C15 := hid (rqC_one (op := q2.op) (ver := q2.ver) (oth := q2.oth) (lim := q2.lim) a1.cells.2 a2.cells.2 a3.cells.2)
    have hB15 := hB14.trans (hb15.mono hB14.size)
    go_wp2_with (first | (refine wpList_storeRowW rfl 24 _ _ rfl w15.heap.size (rqC q2.op q2.ver q2.oth q2.lim k15 h15 b15) rfl rfl 24 _ (hnew w15 (.cells (rqC 0 0 0 0 (.slice none 0 0) (.slice none 0 0) (.slice none 0 0)).toArray 24)) Try.sizeRq rfl C15.out ?_; intro w16 hr16 hk16; refine Hid.out ?_))
    refine hid ?_
    have hb16 : Below w15.heap.size w15 w16 := ((Below.refl w15.heap.size w15).alloc (Nat.le_refl _) _).trans (hk16.below_g (Nat.le_refl _) (by simp))
    have hB16 := hB15.trans (hb16.mono hB15.size)
    have Q16 := RqOwn.below (show RqOwn w15 w14.heap.size (.agg (rqC q2.op q2.ver q2.oth q2.lim k15 h15 b15).toArray) q2 from ⟨k15, h15, b15, rfl, a1, a2, a3⟩) hb16
    have KA := hid (asked_any w16 b hyE s10 c10 (S18.below (hb15.trans (hb16.mono hb15.size)) (Nat.le_refl _)) (by omega))
    rw [HA.out] at KA
    simp only [Option.getD_some, ecode, Option.isSome_some, if_true] at KA
    clear KD hB15 hb16 hk16 a1 a2 a3 S17 S18 hb15
    go_wp2_with fail
    refine KA.out.mono ?_
    rintro e w17 ⟨v17, rfl, Q17, hb17⟩
    have hr17 := hbel hb17 hr16 (hlt hr16)
    have Q16a := Q16.below hb17
    have hB17 := hB16.trans (hb17.mono hB16.size)
    obtain ⟨k17, h17, b17', rfl, a1, a2, a3⟩ := Q17
    have C17 := hid (rqC_one (op := q2.op) (ver := q2.ver) (oth := q2.oth) (lim := q2.lim) a1.cells.2 a2.cells.2 a3.cells.2)
    go_wp2_with (first | (refine wpList_storeRowW rfl 24 _ _ rfl w17.heap.size (rqC q2.op q2.ver q2.oth q2.lim k17 h17 b17') rfl rfl 24 _ (hnew w17 (.cells (rqC 0 0 0 0 (.slice none 0 0) (.slice none 0 0) (.slice none 0 0)).toArray 24)) Try.sizeRq rfl C17.out ?_; intro w18 hr18 hk18; refine Hid.out ?_))
    refine hid ?_
    have hb18 : Below w17.heap.size w17 w18 := ((Below.refl w17.heap.size w17).alloc (Nat.le_refl _) _).trans (hk18.below_g (Nat.le_refl _) (by simp))
    have hB18 := hB17.trans (hb18.mono hB17.size)
    have Z1 := Q16a.below hb18
    have Z2 := RqOwn.below (show RqOwn w17 w16.heap.size (.agg (rqC q2.op q2.ver q2.oth q2.lim k17 h17 b17').toArray) q2 from ⟨k17, h17, b17', rfl, a1, a2, a3⟩) hb18
    have R15 := hid (hbel hb18 hr17 (hlt hr17))
    have R18 := hid hr18
    obtain ⟨ya, yb, yc, yd, ye, yf, ez1, I1⟩ := Z1.open
    obtain ⟨za, zb, zc, zd, ze, zf, ez2, I2⟩ := Z2.open
    have KM := hid (sameRequest_yes w18 q2 HY.out ya yb yc yd ye yf I1 za zb zc zd ze zf I2)
    rw [← ez1, ← ez2] at KM
    clear KA hB17 hB16 hb17 hr16 hr17 hr18 hk18 Q16 Q16a a1 a2 a3 Z1 Z2 I1 I2 ez1 ez2
    go_wp2_with (first | (refine wpList_load_row_w (by rfl) 24 _ rfl w15.heap.size rfl 24 _ (0, 0) _ R15.out Try.underlying24 rfl Try.sizeRq ?_) | (refine wpList_load_row_w (by rfl) 24 _ rfl w17.heap.size rfl 24 _ (0, 0) _ R18.out Try.underlying24 rfl Try.sizeRq ?_) | (go_at_call 9; refine KM.out.mono ?_; rintro e w19 ⟨rfl, hb19⟩))
    go_ret
    exact ⟨rfl, hB18.trans (hb19.mono hB18.size)⟩
end Go.Proofs.Ythdjgpdgedhonaa
