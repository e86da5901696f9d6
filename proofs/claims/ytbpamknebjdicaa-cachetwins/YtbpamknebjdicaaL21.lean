import Derived.Test.YtbpamknebjdicaaL20
namespace Go.Proofs.Ytbpamknebjdicaa
set_option linter.unusedVariables false
set_option linter.unusedSimpArgs false
open Go.RowKit
attribute [local go_sem ↓] Go.wp_at_zero Go.wp_at_succ

theorem CK.rebase {w : World} {base b2 p m n : Nat} {s : CSi} (h : CK w base p m n s) (hb : b2 ≤ base) : CK w b2 p m n s :=
  ⟨h.cell, h.ents, h.mp, h.kwf, Nat.le_trans hb h.bp, Nat.le_trans hb h.bm, fun b q => Nat.le_trans hb (h.bb b q)⟩
theorem CA.rebase {w : World} {base b2 : Nat} {F : List Nat} {p N : Nat} {a : AS Int Int} (h : CA w base F p N a) (hb : b2 ≤ base) : CA w b2 F p N a := by
  obtain ⟨m, n, s, L, rfl, h, r⟩ := h
  exact ⟨m, n, s, L, rfl, h.rebase hb, r⟩
theorem field_tally (a b c d e : Int) (w : World) : (Instr.field 26 (.agg #[.int .i64 a, .int .i64 b, .int .i64 c, .int .i64 d, .int .i64 e]) 3).run Try.prog w = .ok (.int .i64 d) w := by kernel_rfl
theorem newA_hold (room : Int) : (newA room).hold 5 6 = { newA room with held := [(5, 6)] } := rfl
theorem newA_incl {r s : Int} (h : 0 ≤ r ∧ r ≤ 4096 ∧ r ≤ s) : Incl (newA r) (newA s) := ⟨by simp only [newA]; omega, rfl, List.Sublist.slnil, by simp only [newA, List.length_nil]; omega⟩
set_option maxRecDepth 100000 in
set_option maxHeartbeats 2000000 in
theorem nest_in (w : World) (r m : Int) (h1 : 0 ≤ r ∧ r ≤ 4096) (h2 : 0 ≤ m ∧ m ≤ 4096) (ac : List OP) (hok : ∀ q ∈ ac, OpOk q) (sp : Option Addr) (cap : Nat) (hA : Ops w w.heap.size sp ac) (hl : ac.length ≤ 4398046510976) :
    Calls Try.prog 5 #[.int .i64 r, .int .i64 m, .slice sp ac.length cap] w fun e w' => e = .returned (.bool true) ∧ Below w.heap.size w w' := by
  have HN1 := hid (New_any w r)
  have HN2 := hid (fun w1 => New_any w1 (r + m))
  have hI0 := newA_incl (r := r) (s := r + m) ⟨h1.1, h1.2, by omega⟩
  have hra : (((newA r).room : Nat) : Int) = r := by simp only [newA]; omega
  have hrb : (((newA (r + m)).room : Nat) : Int) ≤ r + m := by simp only [newA]; omega
  have hI1 := hI0.hold 5 6
  have hv1 : ((newA r).hold 5 6).val 5 = some 6 := rfl
  have hI2 : Incl (((newA r).hold 5 6).get 5) ((newA (r + m)).hold 5 6) := ⟨hI1.room, hI1.held, hI1.sub, hI1.len⟩
  have hr2 : (((newA r).hold 5 6).get 5).room = (newA r).room := rfl
  have hr3 : ((newA (r + m)).hold 5 6).room = (newA (r + m)).room := rfl
  have b1 : ¬ (r < 0) := by omega
  have b2 : ¬ (m < 0) := by omega
  have b3 : ¬ (4096 < r) := by omega
  have b4 : ¬ (4096 < m) := by omega
  have HI2 := hid hI2
  have HRA := hid hra
  have HRB := hid hrb
  have HR2 := hid hr2
  have HR3 := hid hr3
  have HA := hid hA
  have HOK := hid hok
  have i0 : (ac.length : Int) ≤ 9223372036854775807 := by omega
  have b5 : r ≤ 4096 := h1.2
  have b6 : m ≤ 4096 := h2.2
  clear hI0 hI1 hI2 hra hrb hr2 hr3 hA hok h1 h2
  generalize newA r = a0 at *
  generalize newA (r + m) = c0 at *
  have HV1 := hid hv1
  clear hv1
  generalize hW : w.heap.size = W at *
  have HH1 := hid (fun w2 F p (x : CA w2 W F p 0 a0) => Hold_any w2 W F p 0 a0 x 5 6 (by unfold wfK; omega) (by omega))
  have HH2 := hid (fun w2 F p (x : CA w2 W F p 0 c0) => Hold_any w2 W F p 0 c0 x 5 6 (by unfold wfK; omega) (by omega))
  have HGT := hid (fun w2 F p (x : CA w2 W F p 1 (a0.hold 5 6)) => Get_any w2 W F p 1 _ x 5 (by unfold wfK; omega) (by omega))
  rw [HV1.out] at HGT
  simp only [argK, argV, Option.getD_some, Option.isSome_some] at HH1 HH2 HGT
  go_enter Try.func5, Try.ntmps5
  go_wp2_with (first
    | (go_at_call 8; refine HN1.out.mono ?_; rintro e w1 ⟨rfl, hc, hb⟩; have HC1 := hid hc; have HB1 := hid hb; have HN3 := hid (HN2.out w1); clear hc hb HN1 HN2)
    | (go_at_call 8; refine HN3.out.mono ?_; rintro e w2 ⟨rfl, hc, hb⟩; have HQ := hid (hc.rebase (b2 := W) (by have := HC1.out.base; exact this)); have HP := hid (HC1.out.below hb); have HAP := hid (show Apart [W + 1, W] [w1.heap.size + 1, w1.heap.size] from fun k hk e => by have := (HC1.out.lt k hk).2; simp at e; omega); have HB2 := hid (HB1.out.trans (hb.mono HC1.out.base)); clear hc hb HN3; generalize w1.heap.size + 1 = Q at *; have HH3 := hid (HH1.out w2 _ _ HP.out); clear HH1 HC1)
    | (go_at_call 13; refine HH3.out.mono ?_; rintro e w3 ⟨rfl, hx⟩; obtain ⟨F3, x1, x2, x3, x4, x5⟩ := nx_left HP.out HQ.out HAP.out hx; have HP3 := hid x1; have HQ3 := hid x2; have HA3 := hid x3; have HB3 := hid (HB2.out.trans x4); have HH4 := hid (HH2.out w3 _ _ x2); clear HP HQ HAP HB2 HH3 HH2 hx x1 x2 x3 x4 x5)
    | (go_at_call 13; refine HH4.out.mono ?_; rintro e w4 ⟨rfl, hx⟩; obtain ⟨G4, x1, x2, x3, x4, x5⟩ := nx_right HP3.out HQ3.out HA3.out hx; have HP4 := hid x1; have HQ4 := hid x2; have HA4 := hid x3; have HB4 := hid (HB3.out.trans x4); have HG4 := hid (HGT.out w4 _ _ x1); clear HP3 HQ3 HA3 HB3 HH4 HGT hx x1 x2 x3 x4 x5)
    | (go_at_call 12; refine HG4.out.mono ?_; rintro e w5 ⟨rfl, hx⟩; obtain ⟨F5, x1, x2, x3, x4, x5⟩ := nx_left HP4.out HQ4.out HA4.out hx; have HP5 := hid x1; have HQ5 := hid (x2.mono (show 1 ≤ 2 by omega)); have HA5 := hid x3; have HB5 := hid (HB4.out.trans x4); clear HP4 HQ4 HA4 HB4 HG4 hx x1 x2 x3 x4 x5))
  go_loopw [10, 11] (fun _ iv wr => ∃ (k : Nat) (F G : List Nat) (a b : AS Int Int), k ≤ ac.length ∧ iv = .int .i64 k ∧ CA wr W F (W + 1) (2 + k) a ∧ CA wr W G Q (2 + k) b ∧ Apart F G ∧ Incl a b ∧ a.room = a0.room ∧ b.room = c0.room ∧ Below W w wr) (fun _ iv _ => ac.length - (intOf iv).toNat)
  case atStart => exact ⟨0, _, _, _, _, by omega, rfl, HP5.out, HQ5.out, HA5.out, HI2.out, HR2.out, HR3.out, HB5.out⟩
  case round =>
    obtain ⟨k, F, G, a, b, hk, rfl, hP, hQ, hAp, hInc, hra, hrb, hB⟩ := hrel
    by_cases hlt : k < ac.length
    · have i1 : (k : Int) < (ac.length : Int) := by omega
      obtain ⟨bb, oo, rfl, hbb, hrg⟩ := HA.out.at hB k hlt
      have HRG := hid hrg
      have HNE := hid (nested_any wr W (W + 1) Q (2 + k) F G a b hP hQ hAp hInc (ac.getD k dO) (op_mem HOK.out k hlt) (by omega))
      have HB := hid hB
      have HRR := hid (And.intro hra hrb)
      clear hrg hP hQ hAp hInc hra hrb hB
      generalize ac.getD k dO = o at *
      go_wp2_with (first
        | (refine wpList_load_mid_w (by rfl) 37 (.tmp 65) (by rfl) bb (oo + k * 4) (by rfl) (opL o) _ (by exact HRG.out) Try.underlying37 rfl (by rw [size_op]; rfl) ?_)
        | (go_at_call 14; refine HNE.out.mono ?_; rintro e w2 ⟨rfl, hx⟩; have HZ := hid hx; clear hx HNE))
      go_roundw
      case rel =>
        obtain ⟨F', G', a', b', y1, y2, y3, y4, y5, y6, y7⟩ := HZ.out
        exact ⟨k + 1, F', G', a', b', by omega, by go_num, y1, y2, y3, y4, y5.trans HRR.out.1, y6.trans HRR.out.2, HB.out.trans y7⟩
      case measure => simp [intOf]; omega
    · obtain rfl : k = ac.length := by omega
      have hla : ((a.clean.map (·.1)).length : Int) ≤ r := by
        have := hP.le.1; have := HRA.out; rw [List.length_map]; omega
      have hlb : ((b.clean.map (·.1)).length : Int) ≤ r + m := by
        have := hQ.le.1; have := HRB.out; rw [List.length_map]; omega
      have HK1 := hid (Keys_any wr W F (W + 1) _ a hP (by omega))
      have HK2 := hid (fun w2 (x : Below wr.heap.size wr w2) => Keys_any w2 W G Q _ b (hQ.below x) (by omega))
      have HL1 := hid (fun w2 (x : Below wr.heap.size wr w2) => Held_any w2 W F (W + 1) _ a (hP.below x) (by omega))
      have HL2 := hid (fun w2 (x : Below wr.heap.size wr w2) => Held_any w2 W G Q _ b (hQ.below x) (by omega))
      have HTL := hid (fun w2 (x : Below wr.heap.size wr w2) => Tally_any w2 W F (W + 1) _ a (hP.below x))
      rw [show ((a.clean.length : Nat) : Int) = ((a.clean.map (·.1)).length : Int) by rw [List.length_map]] at HTL
      have HWI := hid (fun w2 sp sq c d (x : SrcI w2 sp (a.clean.map (·.1))) (y : SrcI w2 sq (b.clean.map (·.1))) => within_yes w2 _ _ sp sq c d x y (fun z hz => by
        obtain ⟨e, he, rfl⟩ := List.mem_map.1 hz
        exact List.mem_map.2 ⟨e, hInc.sub.subset he, rfl⟩))
      have HSA := hid (fun w2 sp sq c d (x : SrcI w2 sp (a.held.map (·.1))) (y : SrcI w2 sq (b.held.map (·.1))) => (by
        have := same_any w2 _ _ sp sq c d x y
        rw [decide_eq_true (by rw [hInc.held])] at this
        exact this : Calls Try.prog 16 #[.slice sp (a.held.map (·.1)).length c, .slice sq (b.held.map (·.1)).length d] w2 fun e w' => e = .returned (.bool true) ∧ Below w2.heap.size w2 w'))
      have HB := hid hB
      have HWB := hid hP.base
      have HFT := field_tally
      clear hP hQ hAp hInc hra hrb hB hlt hk
      generalize a.clean.map (·.1) = la at *
      generalize b.clean.map (·.1) = lb at *
      generalize a.held.map (·.1) = ha at *
      generalize b.held.map (·.1) = hb at *
      generalize (a.hits : Int) = t0 at *
      generalize (a.misses : Int) = t1 at *
      generalize (a.gone : Int) = t2 at *
      generalize (a.held.length : Int) = t4 at *
      go_wp2_with (first
        | (go_at_call 11; refine HK1.out.mono ?_; rintro e w2 ⟨v2, rfl, hO2, hb2⟩; obtain ⟨sp2, cp2, ef, hs2⟩ := hO2.src; rw [ef]; have HS2 := hid hs2; have HB2 := hid hb2; have HK3 := hid (HK2.out w2 hb2); clear HK1 HK2 hO2 hs2 hb2 ef)
        | (go_at_call 11; refine HK3.out.mono ?_; rintro e w3 ⟨v3, rfl, hO3, hb3⟩; obtain ⟨sp3, cp3, eg, hs3⟩ := hO3.src; rw [eg]; have HB3 := hid (HB2.out.trans (hb3.mono HB2.out.size)); have HW4 := hid (HWI.out w3 sp2 sp3 cp2 cp3 (HS2.out.below hb3) hs3); clear HK3 hO3 hs3 hb3 eg HS2 HWI HB2)
        | (go_at_call 15; refine HW4.out.mono ?_; rintro e w4 ⟨rfl, hb4⟩; have HB4 := hid (HB3.out.trans (hb4.mono HB3.out.size)); have HL3 := hid (HL1.out w4 HB4.out); clear HW4 hb4 HB3 HL1)
        | (go_at_call 17; refine HL3.out.mono ?_; rintro e w5 ⟨v5, rfl, hO5, hb5⟩; obtain ⟨sp5, cp5, eh, hs5⟩ := hO5.src; rw [eh]; have HS5 := hid hs5; have HB5 := hid (HB4.out.trans (hb5.mono HB4.out.size)); have HL4 := hid (HL2.out w5 HB5.out); clear HL3 HL2 hO5 hs5 hb5 eh HB4)
        | (go_at_call 17; refine HL4.out.mono ?_; rintro e w6 ⟨v6, rfl, hO6, hb6⟩; obtain ⟨sp6, cp6, ei, hs6⟩ := hO6.src; rw [ei]; have HB6 := hid (HB5.out.trans (hb6.mono HB5.out.size)); have HS7 := hid (HSA.out w6 sp5 sp6 cp5 cp6 (HS5.out.below hb6) hs6); clear HL4 hO6 hs6 hb6 ei HS5 HSA HB5)
        | (go_at_call 16; refine HS7.out.mono ?_; rintro e w7 ⟨rfl, hb7⟩; have HB7 := hid (HB6.out.trans (hb7.mono HB6.out.size)); have HT7 := hid (HTL.out w7 HB7.out); clear HS7 hb7 HB6 HTL)
        | (go_at_call 10; refine HT7.out.mono ?_; rintro e w8 ⟨rfl, hb8⟩; have HB8 := hid (HB7.out.trans (hb8.mono HB7.out.size)); clear HT7 hb8 HB7))
      go_ret
      exact ⟨rfl, HB.out.trans (HB8.out.mono HWB.out)⟩
set_option maxHeartbeats 1000000 in
theorem nest_walk (w : World) (r m : Int) (ac : List OP) (hok : ∀ q ∈ ac, OpOk q) (sp : Option Addr) (cap : Nat) (hA : Ops w w.heap.size sp ac) (hl : ac.length ≤ 4398046510976) :
    Calls Try.prog 5 #[.int .i64 r, .int .i64 m, .slice sp ac.length cap] w fun e w' => e = .returned (.bool true) ∧ Below w.heap.size w w' := by
  by_cases h1 : r < 0
  · go_enter Try.func5, Try.ntmps5
    go_wp2
    go_ret
    exact ⟨rfl, Below.refl _ _⟩
  by_cases h2 : m < 0
  · go_enter Try.func5, Try.ntmps5
    go_wp2
    go_ret
    exact ⟨rfl, Below.refl _ _⟩
  by_cases h3 : 4096 < r
  · go_enter Try.func5, Try.ntmps5
    go_wp2
    go_ret
    exact ⟨rfl, Below.refl _ _⟩
  by_cases h4 : 4096 < m
  · go_enter Try.func5, Try.ntmps5
    go_wp2
    go_ret
    exact ⟨rfl, Below.refl _ _⟩
  exact nest_in w r m (by omega) (by omega) ac hok sp cap hA hl
end Go.Proofs.Ytbpamknebjdicaa
