import Derived.Test.YtlhmhpkgdcdjkaaZc2
namespace Go.Proofs.Ytlhmhpkgdcdjkaa
set_option linter.unusedVariables false
set_option linter.unusedSimpArgs false
open Go.RowKit
attribute [local go_sem ↓] Go.wp_at_zero Go.wp_at_succ

theorem appendAns_any (w : World) (p : Pf) (h : WellP p) (s1 : Option Addr) (c1 : Nat) (hS : Src w s1 c1 p.vs) (hnil : s1 = none → c1 = 0) :
    Calls Try.prog 17 #[.slice none 0 0, .bool p.f, .slice s1 p.vs.length c1] w fun e w' => ∃ v, e = .returned v ∧ Own w' w.heap.size v (ansP p) ∧ Below w.heap.size w w' := by
  cases hf : p.f with
  | false =>
    have := appendAns_f w s1 p.vs.length c1
    rwa [show [0] = ansP p by unfold ansP; rw [if_neg (by rw [hf]; simp)]] at this
  | true =>
    have := appendAns_t w p.vs s1 c1 hS hnil h.len
    rwa [show [1, (p.vs.length : Int) % 256, (p.vs.length : Int) / 256] ++ p.vs = ansP p by unfold ansP; rw [if_pos hf]] at this
theorem flat_take (ss : List (List Int)) (k : Nat) (h : k < ss.length) : (ss.take (k + 1)).flatten = (ss.take k).flatten ++ ss.getD k [] := by
  rw [List.take_succ_eq_append_getElem h, List.flatten_append, List.flatten_singleton, List.getD_eq_getElem?_getD, List.getElem?_eq_getElem h]; rfl
theorem flat_take_len (ss : List (List Int)) (k : Nat) (h : ∀ d ∈ ss, d.length = 32) : ((ss.take k).flatten).length ≤ 32 * ss.length := by
  rw [flat_len32 _ (fun d hd => h d (List.mem_of_mem_take hd)), List.length_take]; omega
set_option maxRecDepth 100000 in
set_option maxHeartbeats 2000000 in
theorem encode_no (w : World) (p : Pf) (ok : PfOk p) (y : PfY p) (s1 s2 : Option Addr) (c1 c2 : Nat) (hv : p.vs.length ≤ 9223372036854775807) (hs : p.ss.length ≤ 9223372036854775807) (hw : ¬ WellP p) :
    Calls Try.prog 8 #[.agg (pfC p (.slice s1 p.vs.length c1) (.slice s2 p.ss.length c2)).toArray] w fun e w' => e = .returned (.tuple #[.slice none 0 0, .int .i64 120]) ∧ Below w.heap.size w w' := by
  have d0 := (BK.nil w).alloc (pfC p (.slice s1 p.vs.length c1) (.slice s2 p.ss.length c2)) 26
  have r0 := d0.row (.head _)
  have LS := hid (show (Try.prog.info? 26).map (·.size) = some (pfC p (.slice s1 p.vs.length c1) (.slice s2 p.ss.length c2)).toArray.size by rw [Try.sizeP, List.size_toArray, pfC_len ok])
  have KW := hid (fun w1 => wellFormed_any w1 p ok y s1 s2 c1 c2 hv hs)
  rw [decide_eq_false hw] at KW
  generalize pfC p (.slice s1 p.vs.length c1) (.slice s2 p.ss.length c2) = C at *
  go_enter Try.func8, Try.ntmps8
  go_wp2_with (first | refine wpList_load_row rfl 26 _ rfl _ rfl 26 _ _ _ r0 Try.underlying26 rfl LS.out ?_)
  refine (KW.out _).mono ?_
  rintro e w2 ⟨rfl, hb2⟩
  go_wp2
  exact bodyPost_ret (results_tmp2 Try.results8 _ _ _) rfl ⟨rfl, (d0.call hb2).1⟩
set_option maxRecDepth 100000 in
set_option maxHeartbeats 2000000 in
theorem encode_yes (w : World) (p : Pf) (ok : PfOk p) (y : PfY p) (s1 s2 : Option Addr) (c1 c2 : Nat) (hS : Src w s1 c1 p.vs) (hnil : s1 = none → c1 = 0) (hT : SrcD w s2 c2 p.ss) (hw : WellP p) :
    Calls Try.prog 8 #[.agg (pfC p (.slice s1 p.vs.length c1) (.slice s2 p.ss.length c2)).toArray] w fun e w' => ∃ v, e = .returned (.tuple #[v, .int .i64 0]) ∧ Own w' w.heap.size v (encP p) ∧ Below w.heap.size w w' := by
  have hv := hw.len
  have hm := (encP_len ok hw).2.2
  have ha := ansP_len hw
  have d0 := (BK.nil w).alloc (pfC p (.slice s1 p.vs.length c1) (.slice s2 p.ss.length c2)) 26
  have r0 := d0.row (.head _)
  have LS := hid (show (Try.prog.info? 26).map (·.size) = some (pfC p (.slice s1 p.vs.length c1) (.slice s2 p.ss.length c2)).toArray.size by rw [Try.sizeP, List.size_toArray, pfC_len ok])
  have KW := hid (fun w1 => wellFormed_any w1 p ok y s1 s2 c1 c2 (by omega) (by omega))
  rw [decide_eq_true hw] at KW
  have KA := hid (fun w1 (h : Src w1 s1 c1 p.vs) => appendAns_any w1 p hw s1 c1 h hnil)
  have k0 := hid (pfC_f p (.slice s1 p.vs.length c1) (.slice s2 p.ss.length c2))
  have k1 := hid (pfC_v p (.slice s1 p.vs.length c1) (.slice s2 p.ss.length c2))
  have k34 := hid (pfC_s ok (.slice s1 p.vs.length c1) (.slice s2 p.ss.length c2))
  have kb := hid (pfC_b p (.slice s1 p.vs.length c1) (.slice s2 p.ss.length c2))
  have HB := hid ok.bs
  have FT := hid (fun k (h : k < p.ss.length) => flat_take p.ss k h)
  have FL := hid (fun k => flat_take_len p.ss k ok.ss)
  have FA := hid (show ansP p ++ (p.bs ++ (p.ss.take p.ss.length).flatten) = encP p by rw [List.take_length]; rfl)
  have DL := hid (fun j (hj : j < p.ss.length) => hT.dlen j hj)
  have AD := hid allocDg
  have LZ := hid (show (ints .u8 zB).length = 32 from rfl)
  have hm' := hid hm
  have ha' := hid ha.2
  clear hv hm ha
  generalize pfC p (.slice s1 p.vs.length c1) (.slice s2 p.ss.length c2) = C at *
  generalize hA : ansP p = AP at *
  clear hA
  go_enter Try.func8, Try.ntmps8
  go_wp2_with (first | refine wpList_load_row rfl 26 _ rfl _ rfl 26 _ _ _ r0 Try.underlying26 rfl LS.out ?_)
  refine (KW.out _).mono ?_
  rintro e w2 ⟨rfl, hb2⟩
  have d2 := d0.call hb2
  have e0 := d2.cell (.head _) k0.out
  have e1 := d2.cell (.head _) k1.out
  clear r0 d0
  go_wp2_with fail
  refine (KA.out _ (hS.below d2.1 (Nat.le_refl _))).mono ?_
  rintro e w3 ⟨v3, rfl, hO3, hb3⟩
  have d3 := d2.call hb3
  have hz3 := hb3.size
  have hz2 := d2.lt (.head _)
  have hSb : Src w3 (some ⟨w.heap.size, 2, none⟩) 32 p.bs := src_rng (d3.rng (.head _) kb.out) (d3.lt (.head _)) 32 (by rw [HB.out]; exact Nat.le_refl _) (by simp [maxLen])
  clear e0 e1
  go_wp2_with (first
    | (at_builtin; refine wpList_append_wide rfl (.tmp 15) (.tmp 17) rfl w2.heap.size _ AP p.bs rfl hO3 (some ⟨w.heap.size, 2, none⟩) 32 (by rw [HB.out]; rfl) (fun h => by cases h) hSb (by have := HB.out; have := ha'.out; omega) hz3 ?_; intro v4 w4 hO4 hg4 hd4; refine Hid.out ?_))
  refine hid ?_
  have hb4 := grown_keeps hg4 (fun k hk => (hO3.block k hk).1) hz3
  have d4 : BK w w4 [(w.heap.size, C, 26)] := ⟨d3.1.trans (hb4.mono (by omega)), fun x hx => by
    simp only [List.mem_cons, List.not_mem_nil, or_false] at hx
    subst hx
    exact hbel hb4 (d3.row (.head _)) hz2⟩
  have e34 := d4.cell (.head _) k34.out
  have hz4 : w2.heap.size ≤ w4.heap.size := Nat.le_trans hz3 hb4.size
  have HB4 : Below w2.heap.size w2 w4 := hb3.trans hb4
  clear hSb hg4 hd4
  have i1 : (p.ss.length : Int) ≤ 256 := by have := hm'.out; omega
  go_wp2
  have hO4' : Own w4 w2.heap.size v4 (AP ++ (p.bs ++ (p.ss.take 0).flatten)) := by rw [List.take_zero, List.flatten_nil, List.append_nil]; exact hO4
  have hwB : w.heap.size ≤ w2.heap.size := by omega
  generalize w2.heap.size = B at *
  go_loopw [4, 22] (fun v i wr => ∃ k : Nat, k ≤ p.ss.length ∧ i = .int .i64 k ∧ Own wr B v (AP ++ (p.bs ++ (p.ss.take k).flatten)) ∧ Below w.heap.size w wr ∧ B ≤ wr.heap.size) (fun _ i _ => p.ss.length - (intOf i).toNat)
  case atStart => exact ⟨0, by omega, rfl, hO4', d4.1, hz4⟩
  case round =>
    clear hO4' hO4 d4 e34 hz4 HB4
    obtain ⟨k, hk, rfl, hO, hB, hz⟩ := hrel
    by_cases hlt : k < p.ss.length
    · have ik : (k : Int) < (p.ss.length : Int) := by omega
      have TT := hT.below hB (Nat.le_refl _)
      obtain ⟨b, o, rfl, hbl, hR⟩ := TT.at (by omega)
      have rg := hR k hlt
      have dl := DL.out k hlt
      have HF := hid (FT.out k hlt)
      have HL := hid (FL.out k)
      have LD := hid (show (Try.prog.info? 43).map (·.size) = some (ints .u8 (p.ss.getD k [])).length by rw [Try.sizeD, ints_len, dl])
      have L2 := hid (show (ints .u8 (p.ss.getD k [])).length = 32 by rw [ints_len, dl])
      have hSd := hid (fun w1 => src_new w1 (p.ss.getD k []) 43 (0, 0) (by rw [dl]; simp [maxLen]))
      rw [dl] at hSd
      have dl' := hid dl
      clear dl hR TT
      generalize p.ss.getD k [] = d at *
      generalize (p.ss.take k).flatten = Fk at *
      generalize hm0 : p.ss.length = m at *
      have hm2 := hid hm0
      clear hm0
      go_wp2_with (first
        | refine wpList_load_mid_w (by rfl) 43 _ (by rfl) b (o + k * 32) (by rfl) _ _ rg Try.underlying43 rfl LD.out ?_
        | (refine wpList_new AD.out LZ.out Try.sizeD rfl rfl rfl _ _ rfl rfl (ints .u8 d) rfl rfl L2.out (ints_one _ _) ?_; refine Hid.out ?_))
      refine hid ?_
      have S5 := hSd.out wr
      have O5 := own_pushes hO (.cells (ints .u8 d).toArray 43)
      have B5 := hB.alloc hB.size (.cells (ints .u8 d).toArray 43)
      have z5 : B ≤ (wr.alloc (.cells (ints .u8 d).toArray 43)).heap.size := by simp; omega
      clear rg hO hB
      go_wp2_with (first
        | (at_builtin; refine wpList_append_wide rfl (.tmp 26) (.tmp 27) rfl B _ (AP ++ (p.bs ++ Fk)) d rfl O5 (some ⟨wr.heap.size, 0, none⟩) 32 (by rw [dl'.out]; rfl) (fun h => by cases h) S5 (by have := ha'.out; have := HB.out; have := HL.out; have := dl'.out; have := hm'.out; simp only [List.length_append]; omega) z5 ?_; intro v6 w6 hO6 hg6 hd6; refine Hid.out ?_))
      refine hid ?_
      have b6 := grown_keeps hg6 (fun k hk => (O5.block k hk).1) z5
      have z6 := Nat.le_trans z5 b6.size
      have BB6 := B5.trans (b6.mono hwB)
      clear S5 O5 B5 z5
      go_wp2
      go_roundw
      case rel => exact ⟨k + 1, by omega, by go_num, (by rw [HF.out, ← List.append_assoc p.bs, ← List.append_assoc AP]; exact hO6), BB6, z6⟩
      case measure => simp [intOf]; omega
    · obtain rfl : k = p.ss.length := by omega
      rw [FA.out] at hO
      go_wp2
      refine bodyPost_ret (results_tmp2 Try.results8 _ _ _) rfl ?_
      exact ⟨_, rfl, own_lower hO hwB, hB⟩
theorem encode_any (w : World) (p : Pf) (ok : PfOk p) (y : PfY p) (s1 s2 : Option Addr) (c1 c2 : Nat) (hS : Src w s1 c1 p.vs) (hnil : s1 = none → c1 = 0) (hT : SrcD w s2 c2 p.ss) :
    Calls Try.prog 8 #[.agg (pfC p (.slice s1 p.vs.length c1) (.slice s2 p.ss.length c2)).toArray] w fun e w' => ∃ v, e = .returned (.tuple #[v, .int .i64 (encE p)]) ∧ Own w' w.heap.size v (encL p) ∧ Below w.heap.size w w' := by
  by_cases hw : WellP p
  · have := encode_yes w p ok y s1 s2 c1 c2 hS hnil hT hw
    unfold encE encL
    rw [if_pos hw, if_pos hw]; exact this
  · have h1 := hS.1
    have h2 := hS.2.1
    have h3 := hT.1
    have h4 := hT.2.1
    unfold maxLen at h2 h4
    refine (encode_no w p ok y s1 s2 c1 c2 (by omega) (by omega) hw).mono ?_
    rintro e w2 ⟨rfl, hb⟩
    unfold encE encL
    rw [if_neg hw, if_neg hw]
    exact ⟨_, rfl, Own.nil _ _, hb⟩
end Go.Proofs.Ytlhmhpkgdcdjkaa
