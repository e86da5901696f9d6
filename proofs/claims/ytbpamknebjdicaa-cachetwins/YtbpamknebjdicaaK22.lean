import Derived.Test.YtbpamknebjdicaaK21
namespace Go.Proofs.Ytbpamknebjdicaa
set_option linter.unusedVariables false
set_option linter.unusedSimpArgs false
open Go.RowKit
attribute [local go_sem ↓] Go.wp_at_zero Go.wp_at_succ

theorem row_tally0 {w : World} {g : Nat} {a b c d e : Int} (h : w.heap[g]? = some (.cells #[.int .i64 (a + 1), .int .i64 b, .int .i64 c, .int .i64 d, .int .i64 e] 26 (0, 0))) : w.cell? ⟨g, 0, none⟩ = some (.int .i64 (a + 1)) ∧ w.frozen? ⟨g, 0, none⟩ = false ∧ (w.setCell ⟨g, 0, none⟩ (.int .i64 a)).heap[g]? = some (.cells #[.int .i64 a, .int .i64 b, .int .i64 c, .int .i64 d, .int .i64 e] 26 (0, 0)) :=
  ⟨by rw [cell_of_row _ _ _ _ _ _ h]; rfl, frozen_of_row _ _ _ _ _ h, (heap_setCell_same _ g 0 _ _ _ h).trans rfl⟩
theorem tally_eq (a b c d e : Int) (w : World) : (Op.equalIn 10000 26 (.agg #[.int .i64 a, .int .i64 b, .int .i64 c, .int .i64 d, .int .i64 e]) (.agg #[.int .i64 a, .int .i64 b, .int .i64 c, .int .i64 d, .int .i64 e])).run Try.prog w = .ok true w := by
  go_simp
theorem tallyGuard : Try.prog.eqGuardType Try.prog.depth 26 = false := by kernel_rfl
set_option maxRecDepth 100000 in
set_option maxHeartbeats 4000000 in
theorem twins_walk (w : World) (r : Int) (ac : List OP) (hok : ∀ q ∈ ac, OpOk q) (sp : Option Addr) (cap : Nat) (hA : Ops w w.heap.size sp ac) (hl : ac.length ≤ 4398046510976) :
    Calls Try.prog 6 #[.int .i64 r, .slice sp ac.length cap] w fun e w' => e = .returned (.bool true) ∧ Below w.heap.size w w' := by
  have HN1 := hid (New_any w r)
  have HN2 := hid (fun w1 => K2.New_any w1 r)
  have hv1 : ((newA r).hold 3 4).val 3 = some 4 := rfl
  have hT1 : Tw (((newA r).hold 3 4).get 3) ((newA r).hold 3 4) := rfl
  have HT1 := hid hT1
  have HA := hid hA
  have HOK := hid hok
  have i0 : (ac.length : Int) ≤ 9223372036854775807 := by omega
  have HBO := build_op
  clear hA hok hT1
  generalize newA r = a0 at *
  have HV1 := hid hv1
  clear hv1
  generalize hW : w.heap.size = W at *
  have HH1 := hid (fun w2 F p (x : CA w2 W F p 0 a0) => Hold_any w2 W F p 0 a0 x 3 4 (by unfold wfK; omega) (by omega))
  have HH2 := hid (fun w2 F p (x : K2.CA w2 W F p 0 a0) => K2.Hold_any w2 W F p 0 a0 x 3 4 (by unfold wfK; omega) (by omega))
  have HGT := hid (fun w2 F p (x : CA w2 W F p 1 (a0.hold 3 4)) => Get_any w2 W F p 1 _ x 3 (by unfold wfK; omega) (by omega))
  rw [HV1.out] at HGT
  have HPT := hid (fun w2 => path_any w2 3)
  have HWD := hid (fun w2 => word_any w2 4)
  simp only [argK, argV, K2.argK, argP, K2.argV, Option.getD_some, Option.isSome_some] at HH1 HH2 HGT
  generalize (ints .u8 (pathL 3)).toArray = P3 at *
  generalize wordB 4 = W4 at *
  go_enter Try.func6, Try.ntmps6
  go_wp2_with (first
    | (go_at_call 8; refine HN1.out.mono ?_; rintro e w1 ⟨rfl, hc, hb⟩; have HC1 := hid hc; have HB1 := hid hb; have HN3 := hid (HN2.out w1); clear hc hb HN1 HN2)
    | (go_at_call 18; refine HN3.out.mono ?_; rintro e w2 ⟨rfl, hc, hb⟩; have HQ := hid (hc.rebase (b2 := W) (by have := HC1.out.base; exact this)); have HP := hid (HC1.out.below hb); have HAP := hid (show Apart [W + 1, W] [w1.heap.size + 1, w1.heap.size] from fun k hk e => by have := (HC1.out.lt k hk).2; simp at e; omega); have HB2 := hid (HB1.out.trans (hb.mono HC1.out.base)); clear hc hb HN3; generalize w1.heap.size + 1 = Q at *; have HH3 := hid (HH1.out w2 _ _ HP.out); clear HH1 HC1)
    | (go_at_call 13; refine HH3.out.mono ?_; rintro e w3 ⟨rfl, hx⟩; obtain ⟨F3, x1, x2, x3, x4, x5⟩ := tx_left HP.out HQ.out HAP.out hx; have HP3 := hid x1; have HQ3 := hid x2; have HA3 := hid x3; have HB3 := hid (HB2.out.trans x4); clear HP HQ HAP HB2 HH3 hx x1 x2 x3 x4 x5)
    | (go_at_call 20; refine (HPT.out w3).mono ?_; rintro e y1 ⟨rfl, hy1⟩; have HY1 := hid hy1; clear hy1 HPT)
    | (go_at_call 21; refine (HWD.out y1).mono ?_; rintro e y2 ⟨rfl, hy2⟩; have HY2 := hid (HY1.out.trans (hy2.mono HY1.out.size)); have HP4 := hid (HP3.out.below HY2.out); have HQ4 := hid (HQ3.out.below HY2.out); have HB4 := hid (HB3.out.trans (HY2.out.mono HP3.out.base)); have HH4 := hid (HH2.out y2 _ _ HQ4.out); clear hy2 HWD HY1 HY2 HP3 HQ3 HB3 HH2)
    | (go_at_call 19; refine HH4.out.mono ?_; rintro e w5 ⟨rfl, hx⟩; obtain ⟨G5, x1, x2, x3, x4, x5⟩ := tx_right HP4.out HQ4.out HA3.out hx; have HP5 := hid x1; have HQ5 := hid x2; have HA5 := hid x3; have HB5 := hid (HB4.out.trans x4); have HG5 := hid (HGT.out w5 _ _ x1); clear HP4 HQ4 HA3 HB4 HH4 HGT hx x1 x2 x3 x4 x5)
    | (go_at_call 12; refine HG5.out.mono ?_; rintro e w6 ⟨rfl, hx⟩; obtain ⟨F6, x1, x2, x3, x4, x5⟩ := tx_left HP5.out HQ5.out HA5.out hx; have HB6 := hid (HB5.out.trans x4); have HTW := hid (twin_any w6 W (W + 1) Q 2 F6 G5 _ _ x1 (x2.mono (show 1 ≤ 2 by omega)) x3 HT1.out ⟨2, 0, 3, 0⟩ (by unfold OpOk I64; simp) (by omega)); clear HP5 HQ5 HA5 HB5 HG5 hx x1 x2 x3 x4 x5)
    | (go_at_call 22; refine HTW.out.mono ?_; rintro e w7 ⟨rfl, hx⟩; have HZ7 := hid hx; clear hx HTW))
  go_loopw [8, 9] (fun _ iv wr => ∃ (k : Nat) (F G : List Nat) (a b : AS Int Int), k ≤ ac.length ∧ iv = .int .i64 k ∧ CA wr W F (W + 1) (3 + k) a ∧ K2.CA wr W G Q (3 + k) b ∧ Apart F G ∧ Tw a b ∧ Below W w wr) (fun _ iv _ => ac.length - (intOf iv).toNat)
  case atStart =>
    obtain ⟨F, G, a, b, x1, x2, x3, x4, x5⟩ := HZ7.out
    exact ⟨0, F, G, a, b, by omega, rfl, x1, x2, x3, x4, HB6.out.trans x5⟩
  case round =>
    obtain ⟨k, F, G, a, b, hk, rfl, hP, hQ, hAp, hTw, hB⟩ := hrel
    by_cases hlt : k < ac.length
    · have i1 : (k : Int) < (ac.length : Int) := by omega
      obtain ⟨bb, oo, rfl, hbb, hrg⟩ := HA.out.at hB k hlt
      have HRG := hid hrg
      have HNE := hid (twin_any wr W (W + 1) Q (3 + k) F G a b hP hQ hAp hTw (ac.getD k dO) (op_mem HOK.out k hlt) (by omega))
      have HB := hid hB
      clear hrg hP hQ hAp hTw hB
      generalize ac.getD k dO = o at *
      go_wp2_with (first
        | (refine wpList_load_mid_w (by rfl) 37 (.tmp 54) (by rfl) bb (oo + k * 4) (by rfl) (opL o) _ (by exact HRG.out) Try.underlying37 rfl (by rw [size_op]; rfl) ?_)
        | (go_at_call 22; refine HNE.out.mono ?_; rintro e w2 ⟨rfl, hx⟩; have HZ := hid hx; clear hx HNE))
      go_roundw
      case rel =>
        obtain ⟨F', G', a', b', y1, y2, y3, y4, y5⟩ := HZ.out
        exact ⟨k + 1, F', G', a', b', by omega, by go_num, y1, y2, y3, y4, HB.out.trans y5⟩
      case measure => simp [intOf]; omega
    · obtain rfl : k = ac.length := by omega
      have HTA := hid (Tally_any wr W F (W + 1) _ a hP)
      have HTB := hid (fun w2 (x : Below wr.heap.size wr w2) => K2.Tally_any w2 W G Q _ b (hQ.below x))
      have HK1 := hid (fun w2 (x : Below wr.heap.size wr w2) => Keys_any w2 W F (W + 1) _ a (hP.below x) (by omega))
      have HK2 := hid (fun w2 (x : Below wr.heap.size wr w2) => K2.Keys_any w2 W G Q _ b (hQ.below x) (by omega))
      have HL1 := hid (fun w2 (x : Below wr.heap.size wr w2) => Held_any w2 W F (W + 1) _ a (hP.below x) (by omega))
      have HL2 := hid (fun w2 (x : Below wr.heap.size wr w2) => K2.Held_any w2 W G Q _ b (hQ.below x) (by omega))
      have hti : (((b.tot : Nat) : Int)) ≤ 4398046510979 := by
        obtain ⟨m, n, s, L, rfl, _, _, _, h2, _⟩ := hQ
        omega
      have hh1 : ((b.hits : Nat) : Int) ≤ 4398046510979 := by unfold AS.tot at hti; omega
      have hh0 : 0 ≤ ((b.hits : Nat) : Int) := by omega
      have HB := hid hB
      have HWB := hid hP.base
      have hTw' : a = { b with hits := b.hits + 1 } := hTw
      subst hTw'
      simp only at HTA HK1 HL1
      rw [show ((b.hits + 1 : Nat) : Int) = ((b.hits : Nat) : Int) + 1 by push_cast; rfl] at HTA
      clear hP hQ hAp hTw hB hlt hk hti
      have HPS := hid (fun w2 (zs : List Int) sp sq c d x y => paths_yes w2 zs sp sq c d x y)
      generalize b.clean.map (·.1) = lc at *
      generalize b.held.map (·.1) = lh at *
      generalize ((b.hits : Nat) : Int) = t0 at *
      generalize (b.misses : Int) = t1 at *
      generalize (b.gone : Int) = t2 at *
      generalize (b.clean.length : Int) = t3 at *
      generalize (b.held.length : Int) = t4 at *
      have HEQ := tally_eq t0 t1 t2 t3 t4
      have HGD := tallyGuard
      go_wp2_with (first
        | (go_at_call 10; refine HTA.out.mono ?_; rintro e w2 ⟨rfl, hb2⟩; have HB2 := hid hb2; clear HTA hb2)
        | (refine wpList_store_row (by rfl) 26 (.tmp 10) (.tmp 60) (by rfl) w2.heap.size #[.int .i64 (t0 + 1), .int .i64 t1, .int .i64 t2, .int .i64 t3, .int .i64 t4] (by rfl) (by rfl) 26 _ (by exact hnew _ _) (tal2N (t0 + 1) t1 t2 t3 t4) (tal2Z (t0 + 1) t1 t2 t3 t4) (tal2O (t0 + 1) t1 t2 t3 t4) ?_; rw [setRow_alloc]; have HB3 := hid (HB2.out.alloc HB2.out.size (.cells #[.int .i64 (t0 + 1), .int .i64 t1, .int .i64 t2, .int .i64 t3, .int .i64 t4] 26)); have HR3 := hid (hnew w2 (.cells #[.int .i64 (t0 + 1), .int .i64 t1, .int .i64 t2, .int .i64 t3, .int .i64 t4] 26)); have HG1 := hid HB2.out.size; generalize w2.alloc (.cells #[.int .i64 (t0 + 1), .int .i64 t1, .int .i64 t2, .int .i64 t3, .int .i64 t4] 26) = w3 at *; generalize w2.heap.size = g1 at *; have HT3 := hid (HTB.out w3 HB3.out); clear HTB HB2)
        | (go_at_call 23; refine HT3.out.mono ?_; rintro e w4 ⟨rfl, hb4⟩; have HB4 := hid (HB3.out.trans (hb4.mono HB3.out.size)); have HR4 := hid ((hb4.block g1 (hlt HR3.out)).trans HR3.out); clear HT3 hb4 HB3 HR3)
        | (refine wpList_store_row (by rfl) 26 (.tmp 11) (.tmp 62) (by rfl) w4.heap.size #[.int .i64 t0, .int .i64 t1, .int .i64 t2, .int .i64 t3, .int .i64 t4] (by rfl) (by rfl) 26 _ (by exact hnew _ _) (tal2N t0 t1 t2 t3 t4) (tal2Z t0 t1 t2 t3 t4) (tal2O t0 t1 t2 t3 t4) ?_; rw [setRow_alloc]; have HB5 := hid (HB4.out.alloc HB4.out.size (.cells #[.int .i64 t0, .int .i64 t1, .int .i64 t2, .int .i64 t3, .int .i64 t4] 26)); have HR5 := hid (hnew w4 (.cells #[.int .i64 t0, .int .i64 t1, .int .i64 t2, .int .i64 t3, .int .i64 t4] 26)); have HS5 := hid (show (w4.alloc (.cells #[.int .i64 t0, .int .i64 t1, .int .i64 t2, .int .i64 t3, .int .i64 t4] 26)).heap[g1]? = _ from hold HR4.out); have HN5 := hid (show w4.heap.size ≠ g1 by have := hlt HR4.out; omega); generalize w4.alloc (.cells #[.int .i64 t0, .int .i64 t1, .int .i64 t2, .int .i64 t3, .int .i64 t4] 26) = w5 at *; generalize w4.heap.size = g2 at *; obtain ⟨cc, ff, hr6⟩ := row_tally0 HS5.out; have HR6 := hid hr6; have HQ6 := hid ((heap_setCell_other w5 ⟨g1, 0, none⟩ g2 (.int .i64 t0) HN5.out).trans HR5.out); have HB6' := hid (setCell_below HB5.out HG1.out 0 (.int .i64 t0)); have HK3 := hid (HK1.out _ HB6'.out); clear HB4 HR4 HK1 hr6 HS5 HR5)
        | (refine wpList_load_row_w (by rfl) 26 (.tmp 10) (by rfl) g1 (by rfl) 26 #[.int .i64 t0, .int .i64 t1, .int .i64 t2, .int .i64 t3, .int .i64 t4] _ _ (by exact HR6.out) Try.underlying26 rfl (tal2N t0 t1 t2 t3 t4) ?_)
        | (refine wpList_load_row_w (by rfl) 26 (.tmp 11) (by rfl) g2 (by rfl) 26 #[.int .i64 t0, .int .i64 t1, .int .i64 t2, .int .i64 t3, .int .i64 t4] _ _ (by exact HQ6.out) Try.underlying26 rfl (tal2N t0 t1 t2 t3 t4) ?_)
        | (go_at_call 11; refine HK3.out.mono ?_; rintro e w7 ⟨v7, rfl, hO7, hb7⟩; obtain ⟨sp7, cp7, ef, hs7⟩ := hO7.src; rw [ef]; have HS7 := hid hs7; have HB7 := hid (HB6'.out.trans (hb7.mono HB6'.out.size)); have HK4 := hid (HK2.out w7 HB7.out); clear HK3 HK2 hO7 hs7 hb7 ef HB6')
        | (go_at_call 25; refine HK4.out.mono ?_; rintro e w8 ⟨v8, rfl, hO8, hb8⟩; obtain ⟨sp8, cp8, eg, hs8⟩ := hO8.src; rw [eg]; have HB8 := hid (HB7.out.trans (hb8.mono HB7.out.size)); have HP8 := hid (HPS.out w8 _ sp7 sp8 cp7 cp8 (HS7.out.below hb8) hs8); clear HK4 hO8 hs8 hb8 eg HB7 HS7)
        | (go_at_call 24; refine HP8.out.mono ?_; rintro e w9 ⟨rfl, hb9⟩; have HB9 := hid (HB8.out.trans (hb9.mono HB8.out.size)); have HL3 := hid (HL1.out w9 HB9.out); clear HP8 hb9 HB8 HL1)
        | (go_at_call 17; refine HL3.out.mono ?_; rintro e x1 ⟨v1, rfl, hO1, hb1⟩; obtain ⟨sp1, cp1, eh, hs1⟩ := hO1.src; rw [eh]; have HS1 := hid hs1; have HBa := hid (HB9.out.trans (hb1.mono HB9.out.size)); have HL4 := hid (HL2.out x1 HBa.out); clear HL3 HL2 hO1 hs1 hb1 eh HB9)
        | (go_at_call 26; refine HL4.out.mono ?_; rintro e x2 ⟨v2, rfl, hO2, hb2⟩; obtain ⟨sp2, cp2, ei, hs2⟩ := hO2.src; rw [ei]; have HBb := hid (HBa.out.trans (hb2.mono HBa.out.size)); have HPb := hid (HPS.out x2 _ sp1 sp2 cp1 cp2 (HS1.out.below hb2) hs2); clear HL4 hO2 hs2 hb2 ei HBa HS1)
        | (go_at_call 24; refine HPb.out.mono ?_; rintro e x3 ⟨rfl, hb3⟩; have HBc := hid (HBb.out.trans (hb3.mono HBb.out.size)); clear HPb hb3 HBb))
      go_ret
      exact ⟨rfl, HB.out.trans (HBc.out.mono HWB.out)⟩
end Go.Proofs.Ytbpamknebjdicaa
