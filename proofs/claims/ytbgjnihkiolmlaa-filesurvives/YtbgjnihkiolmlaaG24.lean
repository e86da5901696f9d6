import Derived.Test.YtbgjnihkiolmlaaG23
import Derived.Test.YtbgjnihkiolmlaaG10
namespace Go.Proofs.Ytbgjnihkiolmlaa
set_option linter.unusedVariables false
set_option linter.unusedSimpArgs false
open Go.RowKit
attribute [local go_sem ↓] Go.wp_at_zero Go.wp_at_succ


theorem again_in (w : World) (base : Nat) (F : List Nat) (p : Nat) (D : DS) (h : DA w base F p D) (hbw : base ≤ w.heap.size) (G : List Nat) (gb : Nat) (B : Bk) (hb : BA w base G gb B) (hap : Apart F G) (n c : Nat) (hcr : Cr D B n c) (hc : c ≤ 1000) (fs : List Int) (hfb : Bts fs) (sp : Option Addr) (cap : Nat) (hS : Src w sp cap fs) (hsb : ∀ a, 0 < fs.length → sp = some a → a.block ∉ F) :
    Calls Try.prog 30 #[.pointer (some ⟨gb, 0, none⟩), .pointer (some ⟨p, 0, none⟩), .slice sp fs.length cap] w fun e w' => ∃ (g : Nat) (D' : DS) (s' : Sup) (nx' : Nat) (ep' : Int) (B' : Bk) (F' : List Nat), e = .returned (.pointer (some ⟨g, 0, none⟩)) ∧ w.heap.size ≤ g ∧ DA w' base F' p D' ∧ FK w' g p s' nx' ep' ∧ BA w' base G gb B' ∧ Apart F' G ∧ Fr (F ++ G) w w' ∧ Gr w F F' ∧ Lv D' s' nx' ep' B' n (c + 1) ∧ D'.armed = 0 := by
  obtain ⟨s2, o, m, hg, hv, hp, hm, hmn, hml, hpg, hE | ⟨hI, hE⟩⟩ := hcr.all fs
  · by_cases hI : 0 < B.im
    · exact again_b w base F p D h hbw G gb B hb hap n c hcr hc fs hfb sp cap hS hsb s2 o m hg hv hp hm hmn hml hpg hE hI
    · exact again_a w base F p D h hbw G gb B hb hap n c hcr hc fs hfb sp cap hS hsb s2 o m hg hv hp hm hmn hml hpg hE hI
  · exact again_c w base F p D h hbw G gb B hb hap n c hcr hc fs hfb sp cap hS hsb s2 o m hg hv hp hm hmn hml hpg hE hI
/-! Acts that came in. -/
structure AC where
  kind : Int
  N : Int
  load : List Int
def dA : AC := ⟨0, 0, []⟩
def AcOk (a : AC) : Prop := (-9223372036854775808 ≤ a.N ∧ a.N ≤ 9223372036854775807) ∧ Byts a.load ∧ a.load.length ≤ 140737488355000
def actL (a : AC) (tp : Option Addr) (tc : Nat) : List Value := [.int .i64 a.kind, .int .i64 a.N, .slice tp a.load.length tc]
def Acs (w : World) (B : Nat) (sp : Option Addr) (ac : List AC) : Prop := ∃ b o, (0 < ac.length → b < B ∧ sp = some ⟨b, o, none⟩) ∧ ∀ i, i < ac.length → ∃ tp tc, w.rangeAt b (o + i * 3) (actL (ac.getD i dA) tp tc) ∧ Src w tp tc (ac.getD i dA).load ∧ (0 < (ac.getD i dA).load.length → ∀ a, tp = some a → a.block < B)
theorem Acs.at {w w1 : World} {B : Nat} {sp : Option Addr} {ac : List AC} (h : Acs w B sp ac) (hb : Below B w w1) (i : Nat) (hi : i < ac.length) : ∃ b o tp tc, sp = some ⟨b, o, none⟩ ∧ b < B ∧ w1.rangeAt b (o + i * 3) (actL (ac.getD i dA) tp tc) ∧ Src w1 tp tc (ac.getD i dA).load := by
  obtain ⟨b, o, h1, h2⟩ := h
  obtain ⟨q1, q2⟩ := h1 (by omega)
  obtain ⟨tp, tc, q3, q4, q5⟩ := h2 i hi
  exact ⟨b, o, tp, tc, q2, q1, rng_below q3 hb q1, q4.below' hb q5⟩
def Fss (w : World) (B : Nat) (sp : Option Addr) (fss : List (List Int)) : Prop := ∃ b o, (0 < fss.length → b < B ∧ sp = some ⟨b, o, none⟩) ∧ ∀ i, i < fss.length → ∃ sp' cap', w.cell? ⟨b, o + i, none⟩ = some (.slice sp' (fss.getD i []).length cap') ∧ Src w sp' cap' (fss.getD i []) ∧ (0 < (fss.getD i []).length → ∀ a, sp' = some a → a.block < B)
theorem Fss.at {w w1 : World} {B : Nat} {sp : Option Addr} {fss : List (List Int)} (h : Fss w B sp fss) (hb : Below B w w1) (i : Nat) (hi : i < fss.length) : ∃ b o sp' cap', sp = some ⟨b, o, none⟩ ∧ w1.cell? ⟨b, o + i, none⟩ = some (.slice sp' (fss.getD i []).length cap') ∧ Src w1 sp' cap' (fss.getD i []) ∧ (0 < (fss.getD i []).length → ∀ a, sp' = some a → a.block < B) ∧ b < B := by
  obtain ⟨b, o, h1, h2⟩ := h
  obtain ⟨q1, q2⟩ := h1 (by omega)
  obtain ⟨sp', cap', q3, q4, q5⟩ := h2 i hi
  exact ⟨b, o, sp', cap', q2, (hb.cell (p := ⟨b, o + i, none⟩) q1).trans q3, q4.below' hb q5, q5, q1⟩
theorem size_fact : (Try.prog.info? 50).map (·.size) = some 3 := by kernel_rfl
theorem build_book (w : World) : (Instr.build 48 #[(2, .int .i64 2), (3, .int .i64 1)]).run Try.prog w = .ok (.agg (bcells (.slice none 0 0) (.slice none 0 0) bk0)) w := by kernel_rfl
/-- The state of a walk between two acts. -/
structure SS (w wr : World) (base p gb n c g : Nat) (D : DS) (s : Sup) (nx : Nat) (ep : Int) (B : Bk) (F G : List Nat) : Prop where
  da : DA wr base F p D
  fk : FK wr g p s nx ep
  ba : BA wr base G gb B
  ap : Apart F G
  ng : g ∉ G
  bg : base ≤ g
  lv : Lv D s nx ep B n c
  bl : Below base w wr
  bw : base ≤ w.heap.size
theorem SS.step {w wr w2 : World} {base p gb n c g : Nat} {D : DS} {s : Sup} {nx : Nat} {ep : Int} {B : Bk} {F G : List Nat} (h : SS w wr base p gb n c g D s nx ep B F G) {Z : Prop} {er : Int} (ha : AO base p g gb F G wr n c ep Z er w2) :
    ∃ (D' : DS) (s' : Sup) (nx' : Nat) (B' : Bk) (F' G' : List Nat), (er = 0 ∧ SS w w2 base p gb n (c + 1) g D' s' nx' ep B' F' G' ∨ er = 2 ∧ DA w2 base F' p D' ∧ FK w2 g p s' nx' ep ∧ BA w2 base G' gb B' ∧ Apart F' G' ∧ D'.power = false ∧ D'.epoch = ep ∧ Cr D' B' n (c + 1) ∧ Below base w w2) ∧ (Z → er = 0 ∧ D'.armed = 0) := by
  obtain ⟨D', s', nx', B', F', G', q1, q2, q3, q4, q5, q6, q7, q8, q9⟩ := ha
  have hbl : Below base w w2 := h.bl.trans (q5.below (fun k hk => by
    rcases List.mem_cons.1 hk with e | e
    · rw [e]; exact h.bg
    · rcases List.mem_append.1 e with e | e
      · exact (h.da.lt k e).1
      · exact (h.ba.lt k e).1) (Nat.le_trans h.bw h.bl.size))
  have hng : g ∉ G' := fun e => by
    rcases q7 g e with x | x
    · exact h.ng x
    · have := hlt_ h.fk; omega
  refine ⟨D', s', nx', B', F', G', ?_, q8⟩
  rcases q9 with ⟨e0, l⟩ | ⟨e2, p1, p2, l⟩
  · exact Or.inl ⟨e0, ⟨q1, q2, q3, q4, hng, h.bg, l, hbl, h.bw⟩⟩
  · exact Or.inr ⟨e2, q1, q2, q3, q4, p1, p2, l, hbl⟩
theorem getD_memA (l : List AC) (i : Nat) (hi : i < l.length) : l.getD i dA ∈ l := by
  rw [List.getD_eq_getElem?_getD, List.getElem?_eq_getElem hi]; exact List.getElem_mem hi
theorem getD_memF (l : List (List Int)) (i : Nat) (hi : i < l.length) : l.getD i [] ∈ l := by
  rw [List.getD_eq_getElem?_getD, List.getElem?_eq_getElem hi]; exact List.getElem_mem hi
theorem SS.more {w wr : World} {base p gb n c g : Nat} {D : DS} {s : Sup} {nx : Nat} {ep : Int} {B : Bk} {F G : List Nat} (h : SS w wr base p gb n c g D s nx ep B F G) : SS w wr base p gb n (c + 1) g D s nx ep B F G := ⟨h.da, h.fk, h.ba, h.ap, h.ng, h.bg, h.lv.more, h.bl, h.bw⟩
theorem SS.start {w w1 : World} {base p g n : Nat} {D : DS} {s : Sup} {nx : Nat} {ep : Int} {F : List Nat} (hD : DA w1 base F p D) (hK : FK w1 g p s nx ep) (hg : base ≤ g) (hl : Lv D s nx ep bk0 n 0) (hB : Below base w w1) (hw : base ≤ w.heap.size) :
    SS w (w1.alloc (.cells (bcells (.slice none 0 0) (.slice none 0 0) bk0) 48)) base p w1.heap.size n (2 * 0) g D s nx ep bk0 F [w1.heap.size] := by
  have hb := below_new w1 (.cells (bcells (.slice none 0 0) (.slice none 0 0) bk0) 48)
  refine ⟨hD.below hb, hK.below hb, ⟨.slice none 0 0, .slice none 0 0, [], ?_⟩, ?_, ?_, hg, hl, hB.trans (hb.mono (Nat.le_trans hw hB.size)), hw⟩
  · refine ⟨hnew _ _, List.mem_singleton.2 rfl, ownsRow_none _ _ _ _, fun k e => by simp [Value.ownBlock] at e, ownsRow_none _ _ _ _, fun k e => by simp [Value.ownBlock] at e, rfl, fun i hi => by simp [bk0] at hi, fun i hi => by simp [bk0] at hi, fun k hk => ?_⟩
    rw [List.mem_singleton.1 hk]
    exact ⟨Nat.le_trans hw hB.size, by simp⟩
  · intro k hk e
    rw [List.mem_singleton.1 e] at hk
    have := (hD.lt _ hk).2; omega
  · intro e
    have := hlt_ hK
    rw [List.mem_singleton.1 e] at this; omega
set_option maxRecDepth 100000 in
set_option maxHeartbeats 4000000 in
theorem survives_in (w : World) (n : Nat) (wd : Int) (hn : 3 ≤ n ∧ n ≤ 64) (hw : 1 ≤ wd ∧ wd ≤ 32) (ac : List AC) (hok : ∀ a ∈ ac, AcOk a) (sp : Option Addr) (cap : Nat) (hA : Acs w w.heap.size sp ac) (hal : (ac.length : Int) ≤ 9223372036854775807) (fss : List (List Int)) (hfb : ∀ f ∈ fss, Bts f) (sq : Option Addr) (caq : Nat) (hF : Fss w w.heap.size sq fss) (hfl : (fss.length : Int) ≤ 9223372036854775807) :
    Calls Try.prog 6 #[.int .i64 n, .int .i64 wd, .slice sp ac.length cap, .slice sq fss.length caq] w fun e w' => e = .returned (.bool true) ∧ Below w.heap.size w w' := by
  have HFT := hid (fits_yes w n wd ⟨by omega, by omega, hw.1, hw.2⟩)
  have HFR := hid (fresh_in w n wd hn hw)
  obtain ⟨base, hbase⟩ : ∃ base, base = w.heap.size := ⟨_, rfl⟩
  rw [← hbase] at HFR hA hF ⊢
  have BW := hid (show base ≤ w.heap.size by omega)
  have HA := hid hA
  have HFS := hid hF
  have HOK := hid hok
  have HFB := hid hfb
  have HBK := build_book
  clear hA hF hok hfb hbase hn hw
  go_enter Try.func6, Try.ntmps6
  go_wp2_with (first | (go_at_call 9; refine HFT.out.mono ?_; rintro e w0 ⟨rfl, rfl⟩))
  refine HFR.out.mono ?_
  rintro e w1 ⟨p, g, F, D, rfl, hD1, hK1, hg1, hlv1, harm1, hB1⟩
  have HD1 := hid hD1
  have HK1 := hid hK1
  have HG1 := hid hg1
  have HLV1 := hid hlv1
  have HB1 := hid hB1
  clear hD1 hK1 hg1 hlv1 harm1 hB1 HFR HFT
  go_wp2
  have hb2 := below_new w1 (.cells (bcells (.slice none 0 0) (.slice none 0 0) bk0) 48)
  have HS0 := hid (SS.start HD1.out HK1.out HG1.out HLV1.out HB1.out BW.out)
  generalize hgb : w1.heap.size = gb at *
  clear hb2 HBK HD1 HK1 HG1 HLV1 HB1
  go_loopw [10, 12, 13, 14, 15, 16] (fun fv cv iv _ _ _ wr => ∃ (i cr g : Nat) (D : DS) (s : Sup) (nx : Nat) (ep : Int) (B : Bk) (F G : List Nat), i ≤ ac.length ∧ i ≤ 200 ∧ cr ≤ i ∧ fv = .pointer (some ⟨g, 0, none⟩) ∧ cv = .int .i64 cr ∧ iv = .int .i64 i ∧ SS w wr base p gb n (2 * i) g D s nx ep B F G) (fun _ _ iv _ _ _ _ => ac.length - (intOf iv).toNat)
  case atStart => exact ⟨0, 0, g, D, _, 2, _, _, F, _, by omega, by omega, by omega, rfl, rfl, rfl, HS0.out⟩
  case round =>
    clear HS0
    obtain ⟨i, cr, g, D, s, nx, ep, B, F, G, hi, hi2, hcr, rfl, rfl, rfl, hS⟩ := hrel
    have j0 : (i : Int) ≤ 200 := by omega
    have j1 : (cr : Int) ≤ 200 := by omega
    by_cases hlt : i < ac.length ∧ i < 200
    · have k1 : (i : Int) < (ac.length : Int) := by omega
      have k2 : (i : Int) < 200 := by omega
      have k3 : i < ac.length := hlt.1
      have k4 : i < 200 := hlt.2
      obtain ⟨b, o, tp, tc, rfl, hbb, hrg, hsr⟩ := HA.out.at hS.bl i hlt.1
      have hai := HOK.out (ac.getD i dA) (getD_memA ac i hlt.1)
      have HACT := hid (acts_in wr base F p D hS.da (Nat.le_trans hS.bw hS.bl.size) g s nx ep hS.fk G gb B hS.ba hS.ap hS.ng n (2 * i) hS.lv (by omega) (ac.getD i dA).kind (ac.getD i dA).N hai.1 (ac.getD i dA).load hai.2.1 tp tc hsr hai.2.2)
      have HRG := hid hrg
      have HS := hid hS
      clear hS hrg hsr hai hlt
      generalize ac.getD i dA = A at *
      go_wp2_with (first | (refine wpList_load_mid_w (by rfl) 50 (.tmp 47) (by rfl) b (o + i * 3) (by rfl) (actL A tp tc) _ (by exact HRG.out) Try.underlying50 rfl (by rw [size_fact]; rfl) ?_))
      refine HACT.out.mono ?_
      rintro e w3 ⟨er, rfl, hao⟩
      obtain ⟨D', s', nx', B', F', G', hcase, _⟩ := HS.out.step hao
      clear hao HACT HRG
      rcases hcase with ⟨rfl, hS2⟩ | ⟨rfl, hD3, hK3, hB3, hA3, hp3, he3, hcr3, hbl3⟩
      · have HS2 := hid hS2
        clear hS2 HS
        go_wp2
        refine ⟨⟨i + 1, cr, g, D', s', nx', ep, B', F', G', by omega, by omega, by omega, rfl, rfl, by go_num, by have := HS2.out.more; rw [show 2 * (i + 1) = 2 * i + 1 + 1 by omega]; exact this⟩, by simp [intOf]; omega⟩
      · have HL := hid (Live_any w3 base F' p D' hD3 g s' nx' ep hK3)
        rw [show liveF D' ep = 2 by unfold liveF; rw [if_neg (fun q => q he3), if_neg (by rw [hp3]; decide)]] at HL
        have HD3 := hid hD3
        have HB3 := hid hB3
        have HA3 := hid hA3
        have HCR3 := hid hcr3
        have HBL3 := hid hbl3
        clear hD3 hK3 hB3 hA3 hp3 he3 hcr3 hbl3
        by_cases hz : fss.length = 0
        · have hz0 : (fss.length : Int) = 0 := by omega
          have HZ := hid hz
          clear hz
          go_wp2_with (first | (go_at_call 19; refine HL.out.mono ?_; rintro e w4 ⟨rfl, hb4⟩; have HB4 := hid hb4; clear hb4))
          have HAG := hid (again_in w4 base F' p D' (HD3.out.below HB4.out) (Nat.le_trans BW.out (Nat.le_trans HBL3.out.size HB4.out.size)) G' gb B' (HB3.out.below HB4.out) HA3.out n (2 * i + 1) HCR3.out (by omega) [] (fun x hx => by cases hx) none 0 (Src.nil _) (fun a h => by simp at h))
          refine HAG.out.mono ?_
          rintro e w5 ⟨g5, D5, s5, nx5, ep5, B5, F5, rfl, hg5, hD5, hK5, hB5, hA5, hfr5, hgr5, hlv5, harm5⟩
          have HS5 := hid (show SS w w5 base p gb n (2 * i + 1 + 1) g5 D5 s5 nx5 ep5 B5 F5 G' from ⟨hD5, hK5, hB5, hA5, fun e => by have := ((HB3.out.below HB4.out).lt _ e).2; omega, by have := HBL3.out.size; have := HB4.out.size; have := BW.out; omega, hlv5, (HBL3.out.trans (HB4.out.mono (Nat.le_trans BW.out HBL3.out.size))).trans (hfr5.below (fun k hk => by rcases List.mem_append.1 hk with x | x; exact (HD3.out.lt k x).1; exact (HB3.out.lt k x).1) (Nat.le_trans BW.out (Nat.le_trans HBL3.out.size HB4.out.size))), BW.out⟩)
          clear hg5 hD5 hK5 hB5 hA5 hfr5 hgr5 hlv5 harm5 HAG HL
          go_wp2
          refine ⟨⟨i + 1, cr + 1, g5, D5, s5, nx5, ep5, B5, F5, G', by omega, by omega, by omega, rfl, by go_num, by go_num, by rw [show 2 * (i + 1) = 2 * i + 1 + 1 by omega]; exact HS5.out⟩, by simp [intOf]; omega⟩
        · obtain ⟨fb, fo, hf1, hf2⟩ := HFS.out
          obtain ⟨hfb1, rfl⟩ := hf1 (by omega)
          obtain ⟨sp2, cap2, hc2, hs2, hbk2⟩ := hf2 (cr % fss.length) (Nat.mod_lt _ (by omega))
          have hmod : ((cr : Int)).tmod (fss.length : Int) = ((cr % fss.length : Nat) : Int) := by rw [Int.tmod_eq_emod_of_nonneg (by omega)]; rfl
          have hml : cr % fss.length < fss.length := Nat.mod_lt _ (by omega)
          have hml2 : ((cr % fss.length : Nat) : Int) < (fss.length : Int) := by omega
          have hml3 : ((cr % fss.length : Nat) : Int) ≤ 200 := by have := Nat.mod_le cr fss.length; omega
          have hz1 : 0 < (fss.length : Int) := by omega
          have hz2 : (fss.length : Int) ≠ 0 := by omega
          have HC2 := hid hc2
          have HS2 := hid hs2
          have HK2 := hid hbk2
          have HF2 := hid (HFB.out _ (getD_memF fss (cr % fss.length) hml))
          have HFB1 := hid hfb1
          have hwm : IntKind.i64.wrap ((cr % fss.length : Nat) : Int) = ((cr % fss.length : Nat) : Int) := wrap_nat _ (by omega)
          clear hz hf1 hf2 hc2 hs2 hbk2 hfb1
          generalize fss.getD (cr % fss.length) [] = fz at *
          generalize cr % fss.length = jm at *
          go_wp2_with (first | (go_at_call 19; refine HL.out.mono ?_; rintro e w4 ⟨rfl, hb4⟩; have HB4 := hid hb4; have cz : w4.cell? ⟨fb, fo + jm, none⟩ = some (.slice sp2 fz.length cap2) := ((HBL3.out.trans (hb4.mono (Nat.le_trans BW.out HBL3.out.size))).cell (p := ⟨fb, fo + jm, none⟩) HFB1.out).trans HC2.out; clear hb4))
          have hbl4 := HBL3.out.trans (HB4.out.mono (Nat.le_trans BW.out HBL3.out.size))
          have HAG := hid (again_in w4 base F' p D' (HD3.out.below HB4.out) (Nat.le_trans BW.out (Nat.le_trans HBL3.out.size HB4.out.size)) G' gb B' (HB3.out.below HB4.out) HA3.out n (2 * i + 1) HCR3.out (by omega) fz HF2.out sp2 cap2 (HS2.out.below' hbl4 HK2.out) (fun a h e x => by have := HK2.out h a e; have := (HD3.out.lt _ x).1; omega))
          clear hbl4
          refine HAG.out.mono ?_
          rintro e w5 ⟨g5, D5, s5, nx5, ep5, B5, F5, rfl, hg5, hD5, hK5, hB5, hA5, hfr5, hgr5, hlv5, harm5⟩
          have HS5 := hid (show SS w w5 base p gb n (2 * i + 1 + 1) g5 D5 s5 nx5 ep5 B5 F5 G' from ⟨hD5, hK5, hB5, hA5, fun e => by have := ((HB3.out.below HB4.out).lt _ e).2; omega, by have := HBL3.out.size; have := HB4.out.size; have := BW.out; omega, hlv5, (HBL3.out.trans (HB4.out.mono (Nat.le_trans BW.out HBL3.out.size))).trans (hfr5.below (fun k hk => by rcases List.mem_append.1 hk with x | x; exact (HD3.out.lt k x).1; exact (HB3.out.lt k x).1) (Nat.le_trans BW.out (Nat.le_trans HBL3.out.size HB4.out.size))), BW.out⟩)
          clear hg5 hD5 hK5 hB5 hA5 hfr5 hgr5 hlv5 harm5 HAG HL
          go_wp2
          refine ⟨⟨i + 1, cr + 1, g5, D5, s5, nx5, ep5, B5, F5, G', by omega, by omega, by omega, rfl, by go_num, by go_num, by rw [show 2 * (i + 1) = 2 * i + 1 + 1 by omega]; exact HS5.out⟩, by simp [intOf]; omega⟩
    · have HS := hid hS
      have HAG := hid (again_in wr base F p D hS.da (Nat.le_trans hS.bw hS.bl.size) G gb B hS.ba hS.ap n (2 * i) hS.lv.crash (by omega) [] (fun x hx => by cases hx) none 0 (Src.nil _) (fun a h => by simp at h))
      clear hS
      by_cases hx : i < ac.length
      · have k1 : (i : Int) < (ac.length : Int) := by omega
        have k2 : ¬ (i : Int) < 200 := by omega
        have k3 : i < ac.length := hx
        have k4 : ¬ i < 200 := by omega
        clear hlt
        go_wp2_with fail
        refine HAG.out.mono ?_
        rintro e w5 ⟨g5, D5, s5, nx5, ep5, B5, F5, rfl, hg5, hD5, hK5, hB5, hA5, hfr5, hgr5, hlv5, harm5⟩
        have HBE := hid (HS.out.bl.trans (hfr5.below (fun k hk => by rcases List.mem_append.1 hk with x | x; exact (HS.out.da.lt k x).1; exact (HS.out.ba.lt k x).1) (Nat.le_trans BW.out HS.out.bl.size)))
        clear hg5 hD5 hK5 hB5 hA5 hfr5 hgr5 hlv5 harm5 HAG
        go_wp2
        go_ret
        exact ⟨rfl, HBE.out⟩
      · have k1 : ¬ (i : Int) < (ac.length : Int) := by omega
        clear hlt
        go_wp2_with fail
        refine HAG.out.mono ?_
        rintro e w5 ⟨g5, D5, s5, nx5, ep5, B5, F5, rfl, hg5, hD5, hK5, hB5, hA5, hfr5, hgr5, hlv5, harm5⟩
        have HBE := hid (HS.out.bl.trans (hfr5.below (fun k hk => by rcases List.mem_append.1 hk with x | x; exact (HS.out.da.lt k x).1; exact (HS.out.ba.lt k x).1) (Nat.le_trans BW.out HS.out.bl.size)))
        clear hg5 hD5 hK5 hB5 hA5 hfr5 hgr5 hlv5 harm5 HAG
        go_wp2
        go_ret
        exact ⟨rfl, HBE.out⟩
end Go.Proofs.Ytbgjnihkiolmlaa
