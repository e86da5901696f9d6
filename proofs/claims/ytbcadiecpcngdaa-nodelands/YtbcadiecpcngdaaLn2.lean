import Derived.Test.YtbcadiecpcngdaaLn1
import Derived.Test.YtbcadiecpcngdaaMs9
namespace Go.Proofs.Ytbcadiecpcngdaa
set_option linter.unusedVariables false
set_option linter.unusedSimpArgs false
open Go.RowKit
attribute [local go_sem ↓] Go.wp_at_zero Go.wp_at_succ

/-- The nodes that came in, each by its number. -/
def NSf (w : World) (sp : Option Addr) (m : Nat) (f : Nat → Nd) (fs : Nat → Option Addr) (fc : Nat → Nat) : Prop := ∃ b o, (0 < m → b < w.heap.size ∧ sp = some ⟨b, o, none⟩) ∧ ∀ i, i < m → w.rangeAt b (o + i * 102) (ndC (f i) (.slice (fs i) (f i).vs.length (fc i))) ∧ NdOk (f i) ∧ NdY (f i) ∧ Src w (fs i) (fc i) (f i).vs ∧ (fs i = none → fc i = 0) ∧ (f i).vs.length ≤ 140737488351232
theorem Pgn.grow' {f : Nat → Nd} {B : Bk} {nx nx' : Nat} {P : List Nat} (h : Pgn f B nx P) (hle : nx ≤ nx') (hl : nx' - 2 ≤ B.Ls.length ∧ nx' - 2 ≤ B.Ks.length) (kd : Int) (l : List Int) : Pgn f { B with Ls := B.Ls.take (nx' - 2) ++ [l], Ks := B.Ks.take (nx' - 2) ++ [kd] } nx P := fun j hj => by
  rcases h j hj with x | ⟨h1, h2, h3, h4, h5⟩
  · exact Or.inl x
  · refine Or.inr ⟨h1, h2, h3, ?_, ?_⟩
    · show (B.Ks.take (nx' - 2) ++ [kd]).getD _ 0 = _
      rw [getD_takeZ _ _ _ _ _ (by omega) hl.2]; exact h4
    · show (B.Ls.take (nx' - 2) ++ [l]).getD _ [] = _
      rw [getD_takeZ _ _ _ _ _ (by omega) hl.1]; exact h5
theorem right_kind {n : Nd} (h : RightP n) : kindOk n.kd = true := by
  rcases h with h | h <;> (have := h.1; unfold kindOk; simp; omega)
theorem encL_lenL {n : Nd} (ok : NdOk n) : (encL n).length ≤ 160 := by
  unfold encL; split
  · rename_i h; exact load_len ok h
  · simp
theorem encL_bysL {n : Nd} (yn : NdY n) : Byts (encL n) := by
  unfold encL; split
  · exact loadP_bys yn
  · intro x hx; cases hx
set_option maxRecDepth 100000 in
set_option maxHeartbeats 4000000 in
theorem lands_in (w : World) (wd : Int) (hw : 1 ≤ wd ∧ wd ≤ 32) (m1 m2 : Nat) (hm : m1 + m2 ≤ 64) (sp1 sp2 : Option Addr) (cap1 cap2 : Nat) (f1 f2 : Nat → Nd) (fs1 fs2 : Nat → Option Addr) (fc1 fc2 : Nat → Nat) (h1 : NSf w sp1 m1 f1 fs1 fc1) (h2 : NSf w sp2 m2 f2 fs2 fc2) (fa : List Int) (hfa : Bts fa) (spf : Option Addr) (capf : Nat) (hS : Src w spf capf fa) :
    Calls Try.prog 3 #[.int .i64 wd, .slice sp1 m1 cap1, .slice sp2 m2 cap2, .slice spf fa.length capf] w fun e w' => e = .returned (.bool true) ∧ Below w.heap.size w w' := by
  obtain ⟨b1, o1, hb1, hr1⟩ := h1
  obtain ⟨b2, o2, hb2, hr2⟩ := h2
  obtain ⟨n, hn⟩ : ∃ n, n = 3 + m1 + m2 := ⟨_, rfl⟩
  have HNW := hid (show Calls Try.prog 4 #[.int .i64 (3 + (m1 : Int) + (m2 : Int))] w fun e w' => ∃ p F, e = .returned (.tuple #[.pointer (some ⟨p, 0, none⟩), .int .i64 0]) ∧ DA w' w.heap.size F p (newD (List.replicate (256 * n) 0)) ∧ Below w.heap.size w w' by
    have := New_ok w n (by omega) (by omega)
    rwa [show (n : Int) = 3 + (m1 : Int) + (m2 : Int) by omega] at this)
  obtain ⟨Z, hZ⟩ : ∃ Z : List Int, Z = List.replicate (256 * n) 0 := ⟨_, rfl⟩
  rw [← hZ] at HNW
  have okN : DsOk (newD Z) := by rw [hZ]; exact newD_ok (by omega) (by omega) List.length_replicate (bts_rep _)
  have npN : (newD Z).np = n := by
    show Z.length / 256 = n
    rw [hZ, List.length_replicate]; omega
  have pz : ∀ q, q < n → pgO Z q = zz 256 := fun q hq => by rw [hZ]; exact pgO_zero n q hq
  have RN := hid (show Rest (newD Z) n 0 from ⟨okN, npN, rfl, rfl, rfl, rfl, (by decide : (0 : Int) ≤ 1000), (by decide : (0 : Int) ≤ 1000), (by decide : (0 : Int) ≤ 1000)⟩)
  have BN := hid (show Blank (pgO (newD Z).img 0) (pgO (newD Z).img 1) from by show Blank (pgO Z 0) (pgO Z 1); rw [pz 0 (by omega), pz 1 (by omega)]; exact zz_blank)
  have i1 := hw.1
  have i2 := hw.2
  have j0 : (m1 : Int) + (m2 : Int) ≤ 64 := by omega
  have HW := hid hw
  have HM := hid hm
  have HNE := hid hn
  have HR1 := hid hr1
  have HR2 := hid hr2
  have HB1 := hid hb1
  have HB2 := hid hb2
  have HFA := hid hfa
  have HSF := hid hS
  have NPN := hid npN
  obtain ⟨s1, hs1⟩ : ∃ s1, s1 = fS n wd 1 := ⟨_, rfl⟩
  have HS1 := hid hs1
  have AN := hid allocNd
  have L0 := hid (show (ndC nd0 (.slice none 0 0)).length = 102 from rfl)
  clear hw hm hn hZ okN npN pz hr1 hr2 hb1 hb2 hfa hS hs1
  go_enter Try.func3, Try.ntmps3
  go_wp2_with fail
  refine HNW.out.mono ?_
  rintro e w1 ⟨p, F, rfl, hD1, hB1⟩
  have HFT := hid (Format_rest w1 w.heap.size F p (newD Z) hD1 hB1.size n 0 RN.out wd HW.out BN.out)
  have HD1 := hid hD1
  have HBl1 := hid hB1
  clear hD1 hB1 HNW
  go_wp2_with fail
  refine HFT.out.mono ?_
  rintro e w2 ⟨rfl, D2, hFm, hnp2, hN2⟩
  obtain ⟨F2, hDA2, hB2, _⟩ := Nx.go HD1.out HBl1.out (Nat.le_refl _) hN2
  have hgd := hFm.good HW.out
  rw [show ({ newD Z with reads := (newD Z).reads + 2 } : DS).np = (newD Z).np from rfl, NPN.out, ← HS1.out] at hgd
  have HOP := hid (Open_ok w2 w.heap.size F2 p D2 hDA2 hFm.pw (by rw [hFm.reads]; exact (by decide : (0 + 2 : Int) < 3999999999999999999)) (by rw [hFm.epoch]; exact (by decide : (0 : Int) < 4000000000000000000)) s1 (hgd.chooses hFm.ops) (by rw [hnp2, HS1.out]; rfl))
  have HFm := hid hFm
  have HNP2 := hid hnp2
  have HDA2 := hid hDA2
  have HBl2 := hid hB2
  clear hFm hnp2 hN2 hDA2 hB2 hgd HFT
  go_wp2_with fail
  refine HOP.out.mono ?_
  rintro e w6 ⟨g, rfl, hg, hK6, hD6, hF6⟩
  have hB6 := Fr.go HDA2.out HBl2.out (Nat.le_refl _) hF6
  have hep2 : D2.epoch = 0 := HFm.out.epoch
  rw [hep2] at hK6
  rw [show s1.ma = 2 by rw [HS1.out]; rfl] at hK6
  have hlv := fresh_lv (D0 := newD Z) HW.out (by have := HM.out; have := HNE.out; omega) HFm.out HNP2.out NPN.out ⟨rfl, rfl, rfl, rfl, rfl⟩ hD6.ok
  rw [← HS1.out] at hlv
  have HS6 := hid (show LNs w w6 w.heap.size p g n 0 _ s1 2 (0 + 1) bk0 F2 (.slice none 0 0) [] from ⟨hD6, hK6, hlv.1, hlv.2, Nat.le_trans HBl2.out.size hg, OwnN.nil _ _, hB6, Nat.le_refl _⟩)
  clear hg hK6 hD6 hF6 HOP hep2 hlv hB6 HFm HNP2 HDA2 HBl2 HBl1 HD1 NPN RN BN HS1
  go_wp2
  go_loopw [12, 13, 14, 15, 16, 17, 18] (fun v iv _ _ _ _ _ wr => ∃ (i : Nat) (D : DS) (s : Sup) (nx : Nat) (B : Bk) (F : List Nat) (P : List Nat), i ≤ m1 ∧ iv = .int .i64 i ∧ P.length = i ∧ nx ≤ 2 + i ∧ LNs w wr w.heap.size p g n i D s nx (0 + 1) B F v P ∧ Pgn f1 B nx P) (fun _ iv _ _ _ _ _ _ => m1 - (intOf iv).toNat)
  case atStart => exact ⟨0, _, s1, 2, bk0, F2, [], by omega, rfl, rfl, by omega, HS6.out, fun j hj => by simp at hj⟩
  case round =>
    clear HS6
    obtain ⟨i, D, s, nx, B, F, P, hi, rfl, hPl, hnx, hS, hP⟩ := hrel
    obtain ⟨spP, capP, hv⟩ := hS.ow.form
    subst hv
    have HS := hid hS
    have HP := hid hP
    have HPL := hid hPl
    have hm := HM.out
    have hne := HNE.out
    by_cases hlt1 : i < m1
    · have k1 : (i : Int) < (m1 : Int) := by omega
      obtain ⟨hbb, rfl⟩ := HB1.out (by omega)
      obtain ⟨rj0, ok, yn, hSs, hnil, hvl⟩ := HR1.out i hlt1
      have RJ := hid rj0
      have SN := hid (show (Try.prog.info? 39).map (·.size) = some (ndC (f1 i) (.slice (fs1 i) (f1 i).vs.length (fc1 i))).length by rw [Try.sizeNd, ndC_len ok])
      have rj := rng_below rj0 hS.bl hbb
      have HSS := hid hSs
      have KE := hid (encode_any wr (f1 i) ok (fs1 i) (fc1 i) (hSs.below hS.bl (Nat.le_refl _)) hnil)
      have KR := hid (fun w1 => right_any w1 (f1 i) ok (fs1 i) (fc1 i) (by omega))
      have LM := hid (fun v => ndC_len ok v)
      have hK0 : ∀ v, (ndC (f1 i) v)[0]? = some (.int .i64 (f1 i).kd) := fun v => rfl
      have K0 := hid hK0
      have lL := encL_lenL ok
      have lB := hid (encL_bysL yn)
      clear hS hP hPl hK0 rj0 hSs ok yn
      go_wp2_with (first | refine wpList_load_mid_w (by rfl) 39 _ (by rfl) b1 (o1 + i * 102) (by rfl) _ _ rj Try.underlying39 rfl SN.out ?_)
      refine KE.out.mono ?_
      rintro e w3 ⟨v3, rfl, hO3, hb3⟩
      obtain ⟨s3, c3, rfl, S3, n3⟩ := hO3.form
      have HS3 := hid (HS.out.below hb3)
      have rj := rng_below RJ.out HS3.out.bl hbb
      clear HS KE hb3 hO3
      by_cases hr : RightP (f1 i)
      · have eE : encE (f1 i) = 0 := by unfold encE; rw [if_pos hr]
        have eL : encL (f1 i) = loadP (f1 i) := by unfold encL; rw [if_pos hr]
        have KRt := KR
        rw [decide_eq_true hr] at KRt
        rw [eL] at S3 lL lB ⊢
        rw [eE]
        have HKD := hid (right_kind hr)
        have HRI := hid hr
        clear eE eL hr
        go_wp2_with (first | refine wpList_load_mid_w (by rfl) 39 _ (by rfl) b1 (o1 + i * 102) (by rfl) _ _ rj Try.underlying39 rfl SN.out ?_)
        refine (KRt.out _).mono ?_
        rintro e w4 ⟨rfl, hb4⟩
        have HS4 := hid (HS3.out.below hb4)
        have c0 : w4.cell? ⟨b1, o1 + i * 102, none⟩ = some (.int .i64 (f1 i).kd) := rng_below RJ.out HS4.out.bl hbb 0 _ (K0.out _)
        have HAP := hid (HS4.out.append (by omega) (by omega) (f1 i).kd HKD.out (loadP (f1 i)) lB.out (by omega) s3 c3 (S3.below hb4 (Nat.le_refl _)))
        clear hb4 S3 n3 rj HS3 KRt KR
        go_wp2_with fail
        refine HAP.out.mono ?_
        rintro e w5 ⟨rfl, D5, F5, hS5⟩
        have KL := hid (show P.length + 1 ≤ 17592186044416 by rw [HPL.out]; omega)
        have bS : w.heap.size ≤ w5.heap.size := hS5.bl.size
        have OW := hS5.ow
        have HS5 := hid hS5
        have hln := HS4.out.lv.len
        have HPG := hid ((HP.out.grow ⟨hln.2.1, by rw [hln.1]; exact hln.2.1⟩ (f1 i).kd (loadP (f1 i))).snoc nx (Or.inr ⟨by obtain ⟨m', hm0, hm1, hm2⟩ := sup_ma HS4.out.lv.val HS4.out.lv.pg; have := HS4.out.lv.hnx; omega, by omega, by rw [HPL.out]; exact HRI.out, by rw [HPL.out]; exact getD_takeL _ _ _ _ (by rw [hln.1]; exact hln.2.1), by rw [HPL.out]; exact getD_takeL _ _ _ _ hln.2.1⟩))
        clear hS5 HAP HS4 c0 hln
        go_wp2_with (first | (at_builtin; refine wpList_pushN rfl (.tmp 113) (.tmp 115) rfl w.heap.size _ P nx rfl OW rfl KL.out bS _ _ ?_; intro v' w' q1 q2 q3 q4))
        go_roundw
        case rel => exact ⟨i + 1, D5, s, nx + 1, _, F5, P ++ [nx], by omega, by go_num, by simp [HPL.out], by omega, HS5.out.push q1 q2 q3, HPG.out⟩
        case measure => simp [intOf]; omega
      · have eE : encE (f1 i) = 90 := by unfold encE; rw [if_neg hr]
        have KRf := KR
        rw [decide_eq_false hr] at KRf
        rw [eE]
        have HRI := hid hr
        clear eE hr
        go_wp2_with (first | refine wpList_load_mid_w (by rfl) 39 _ (by rfl) b1 (o1 + i * 102) (by rfl) _ _ rj Try.underlying39 rfl SN.out ?_)
        refine (KRf.out _).mono ?_
        rintro e w4 ⟨rfl, hb4⟩
        have hS4 := HS3.out.below hb4
        have HS4 := hid hS4.more
        have KL := hid (show P.length + 1 ≤ 17592186044416 by rw [HPL.out]; omega)
        have bS : w.heap.size ≤ w4.heap.size := hS4.bl.size
        have OW := hS4.ow
        have HPG := hid (HP.out.snoc 0 (Or.inl ⟨rfl, by rw [HPL.out]; exact HRI.out⟩))
        clear hb4 S3 n3 rj HS3 KRf KR hS4
        go_wp2_with (first | (at_builtin; refine wpList_pushN rfl (.tmp 113) (.tmp 115) rfl w.heap.size _ P 0 rfl OW rfl KL.out bS _ _ ?_; intro v' w' q1 q2 q3 q4))
        go_roundw
        case rel => exact ⟨i + 1, D, s, nx, _, F, P ++ [0], by omega, by go_num, by simp [HPL.out], by omega, HS4.out.push q1 q2 q3, HPG.out⟩
        case measure => simp [intOf]; omega
    · obtain rfl : m1 = i := by omega
      have HPB := hid (hS.publish (by omega))
      clear hS hP hlt1 hPl
      go_wp2_with fail
      refine HPB.out.mono ?_
      rintro e w3 ⟨rfl, D3, F3, hS3⟩
      have HS3 := hid hS3
      have HP3 := hid (show Pgn f1 { B with mrk := nx, hd := 0, gn := B.gn + 1 } nx P from HP.out)
      obtain ⟨s2, hs2⟩ : ∃ s2, s2 = nextS s nx 0 := ⟨_, rfl⟩
      rw [← hs2] at HS3
      have HMA := hid (show s2.ma = (nx : Int) by rw [hs2]; rfl)
      clear hS3 HPB HS HP hs2
      go_wp2
      go_loopw [19, 20, 21] (fun iv _ _ wr => ∃ (j : Nat) (D : DS) (nx' : Nat) (B : Bk) (F : List Nat), j ≤ m2 ∧ iv = .int .i64 j ∧ nx ≤ nx' ∧ nx' ≤ nx + j ∧ LNs w wr w.heap.size p g n (m1 + 1 + j) D s2 nx' (0 + 1) B F (.slice spP P.length capP) P ∧ Pgn f1 B nx P) (fun iv _ _ _ => m2 - (intOf iv).toNat)
      case atStart => exact ⟨0, D3, nx, _, F3, by omega, rfl, Nat.le_refl _, by omega, HS3.out, HP3.out⟩
      case round =>
        clear HS3 HP3
        obtain ⟨j, D, nx', B, F, hj, rfl, hx1, hx2, hS, hP⟩ := hrel
        have HS := hid hS
        have HP := hid hP
        by_cases hlt2 : j < m2
        · have k2 : (j : Int) < (m2 : Int) := by omega
          obtain ⟨hbb, rfl⟩ := HB2.out (by omega)
          obtain ⟨rj0, ok, yn, hSs, hnil, hvl⟩ := HR2.out j hlt2
          have SN := hid (show (Try.prog.info? 39).map (·.size) = some (ndC (f2 j) (.slice (fs2 j) (f2 j).vs.length (fc2 j))).length by rw [Try.sizeNd, ndC_len ok])
          have rj := rng_below rj0 hS.bl hbb
          have KE := hid (encode_any wr (f2 j) ok (fs2 j) (fc2 j) (hSs.below hS.bl (Nat.le_refl _)) hnil)
          have lL := encL_lenL ok
          have lB := hid (encL_bysL yn)
          clear hS hP rj0 hSs ok yn
          go_wp2_with (first | refine wpList_load_mid_w (by rfl) 39 _ (by rfl) b2 (o2 + j * 102) (by rfl) _ _ rj Try.underlying39 rfl SN.out ?_)
          refine KE.out.mono ?_
          rintro e w5 ⟨v5, rfl, hO5, hb5⟩
          obtain ⟨s5, c5, rfl, S5, n5⟩ := hO5.form
          have hS5 := HS.out.below hb5
          have HAP := hid (hS5.append (by omega) (by omega) 1 rfl (encL (f2 j)) lB.out (by omega) s5 c5 S5)
          have hln := hS5.lv.len
          have HPG := hid (HP.out.grow' hx1 ⟨hln.2.1, by rw [hln.1]; exact hln.2.1⟩ 1 (encL (f2 j)))
          clear hS5 HS HP hO5 hb5 S5 n5 rj KE hln
          go_wp2_with fail
          refine HAP.out.mono ?_
          rintro e w7 ⟨rfl, D7, F7, hS7⟩
          have HS7 := hid hS7
          clear hS7 HAP
          go_wp2
          go_roundw
          case rel => exact ⟨j + 1, D7, nx' + 1, _, F7, by omega, by go_num, by omega, by omega, HS7.out, HPG.out⟩
          case measure => simp [intOf]; omega
        · obtain rfl : m2 = j := by omega
          have HCR := hid (hS.crash (by omega) fa HFA.out spf capf HSF.out (fun a hp e => by
            obtain ⟨_, _, b, o, h3, h4, _⟩ := HSF.out
            have := h4 hp
            rw [this] at e
            cases e
            exact h3 hp))
          clear hS hP hlt2
          go_wp2_with fail
          refine HCR.out.mono ?_
          rintro e w5 ⟨rfl, F5, hD5, hO5, hB5⟩
          have HCO := hid (crash_open HS.out.lv (by omega) nx HMA.out fa hD5 (B := B))
          have HD5 := hid hD5
          have HO5 := hid hO5
          have HB5 := hid hB5
          clear hD5 hO5 hB5 HCR
          go_wp2_with fail
          refine HCO.out.mono ?_
          rintro e w7 ⟨g2, rfl, hg2, D7, hRO, hK7, hD7, hF7⟩
          have HRO := hid hRO
          have hO7 := HO5.out.heap (w1 := w7) fun k e => hF7.block k (by obtain ⟨cur, hc⟩ := HO5.out.ty e; exact hlt hc) (own_notin HO5.out HD5.out e)
          have HO7 := hid hO7
          have HK7 := hid hK7
          have HD7 := hid hD7
          have HB7 := hid (Fr.go HD5.out HB5.out (Nat.le_refl _) hF7)
          have HPGS := hid HS.out.lv.pgs
          have HNP := hid (show nx ≤ n from by have := HS.out.lv.hnx; omega)
          clear hO7 hK7 hD7 hF7 hg2 HCO HD5 HO5 HB5 hRO HS
          go_wp2
          generalize D.epoch + 1 + 1 = ep9 at *
          go_loopw [22, 23, 24, 25, 26, 27] (fun iv _ _ _ _ _ wr => ∃ (i : Nat) (x : Int), i ≤ m1 ∧ iv = .int .i64 i ∧ x ≤ 2000000 + i ∧ DA wr w.heap.size F5 p { D7 with reads := x } ∧ FK wr g2 p s2 nx ep9 ∧ OwnN wr w.heap.size (.slice spP P.length capP) P ∧ Below w.heap.size w wr) (fun iv _ _ _ _ _ _ => m1 - (intOf iv).toNat)
          case atStart => exact ⟨0, D7.reads, by omega, rfl, by have := HRO.out.rs; omega, HD7.out, HK7.out, HO7.out, HB7.out⟩
          case round =>
            clear HD7 HK7 HO7 HB7
            obtain ⟨i, x, hi, rfl, hx, hD, hK, hO, hB⟩ := hrel
            by_cases hlt3 : i < m1
            · have k3 : (i : Int) < (m1 : Int) := by omega
              obtain ⟨hbb, rfl⟩ := HB1.out (by omega)
              obtain ⟨rj0, ok, yn, hSs, hnil, hvl⟩ := HR1.out i hlt3
              obtain ⟨gv, cv, hv, cP, _⟩ := hO.at i (by rw [HPL.out]; exact hlt3)
              cases hv
              have k4 : (i : Int) < (P.length : Int) := by rw [HPL.out]; omega
              have k5 : i < P.length := by rw [HPL.out]; omega
              rcases HP.out i (by rw [HPL.out]; exact hlt3) with ⟨z0, _⟩ | ⟨z1, z2, hr, zk, zl⟩
              · rw [z0] at cP
                clear rj0 ok yn hSs hnil
                go_wp2
                go_roundw
                case rel => exact ⟨i + 1, x, by omega, by go_num, by omega, hD, hK, hO, hB⟩
                case measure => simp [intOf]; omega
              · obtain ⟨n0, hn0⟩ : ∃ n0, n0 = f1 i := ⟨_, rfl⟩
                obtain ⟨s0, hs0⟩ : ∃ s0, s0 = fs1 i := ⟨_, rfl⟩
                obtain ⟨c0, hc0⟩ : ∃ c0, c0 = fc1 i := ⟨_, rfl⟩
                rw [← hn0, ← hs0, ← hc0] at rj0
                rw [← hn0] at ok yn hSs hvl hr zk zl
                rw [← hs0, ← hc0] at hSs
                obtain ⟨q, hq⟩ : ∃ q, q = P.getD i 0 := ⟨_, rfl⟩
                rw [← hq] at cP z1 z2 zk zl
                have hu : unpackF q (({ D7 with reads := x } : DS).readOf q) = (n0.kd, loadP n0, 0) := by
                  have e := HPGS.out q z1 (by omega)
                  rw [← HRO.out.rd q z2, zk, zl] at e
                  exact e
                have HRD := hid (FRead_ok wr w.heap.size F5 p _ hD g2 s2 nx ep9 hK (show liveF { D7 with reads := x } ep9 = 0 from HRO.out.lv) q ⟨z1, by omega, by show q < D7.np; rw [HRO.out.np]; have := HNP.out; omega⟩ (by show x < _; omega) _ _ hu q rfl)
                have jq : ¬ ((q : Int) = 0) := by omega
                have HDk := hid hD
                have HKk := hid hK
                have HOk := hid hO
                have HBk := hid hB
                have RJ := hid rj0
                have HSS := hid hSs
                have SN := hid (show (Try.prog.info? 39).map (·.size) = some (ndC n0 (.slice s0 n0.vs.length c0)).length by rw [Try.sizeNd, ndC_len ok])
                have LM := hid (fun v => ndC_len ok v)
                have OM := hid (fun s m c => ndC_one n0 (.slice s m c) rfl)
                have hd0 := dec_load ok hr
                have eV : decV n0.kd (loadP n0) = n0 := by unfold decV; rw [hd0]; rfl
                have eD : decE n0.kd (loadP n0) = 0 := by unfold decE; rw [hd0]; rfl
                have KD := hid (fun w1 s c (h : Src w1 s c (loadP n0)) => decode_any w1 n0.kd (loadP n0) (loadP_bys yn) s c h)
                unfold DecP at KD
                rw [eV, eD] at KD
                have KSN := hid (fun w1 s3 c3 (h3 : Src w1 s3 c3 n0.vs) (h4 : Src w1 s0 c0 n0.vs) => sameNode_self w1 n0 ok s3 s0 c3 c0 h3 h4)
                clear hD hK hO hB rj0 hSs hu hd0 eV eD hnil hn0 hs0 hc0 hq zk zl hr yn ok
                generalize ndC n0 = NF at *
                go_wp2_with fail
                refine HRD.out.mono ?_
                rintro e w3 ⟨v3, rfl, hO3, hD3, hK3, hF3⟩
                obtain ⟨s9, c9, rfl, S9, n9⟩ := hO3.form
                have HD3 := hid hD3
                have HK3 := hid hK3
                have HO3 := hid (HOk.out.heap (w1 := w3) fun k e => hF3.block k (by obtain ⟨cur, hc⟩ := HOk.out.ty e; exact hlt hc) (own_notin HOk.out HDk.out e))
                have HB3 := hid (Fr.go HDk.out HBk.out (Nat.le_refl _) hF3)
                have HKD := hid (KD.out _ _ _ S9)
                clear hO3 hD3 hK3 hF3 S9 n9 HRD HDk HKk HOk HBk KD cP
                go_wp2_with fail
                refine HKD.out.mono ?_
                rintro e w4 ⟨s3, c3, rfl, hO4, hb4⟩
                obtain ⟨s3', c3', e3, S3, n3⟩ := hO4.form
                cases e3
                have HD4 := hid (HD3.out.below hb4)
                have HK4 := hid (HK3.out.below hb4)
                have HO4 := hid (HO3.out.below hb4)
                have HB4 := hid (HB3.out.trans (hb4.mono HB3.out.size))
                clear hO4 hb4 n3 HD3 HK3 HO3 HB3 HKD
                go_wp2_with (first
                  | (refine wpList_new AN.out L0.out Try.sizeNd rfl rfl rfl _ _ rfl rfl (NF (.slice s3 n0.vs.length c3)) rfl rfl (LM.out _) (OM.out _ _ _) ?_; refine Hid.out ?_))
                refine hid ?_
                have bl5 : Below w4.heap.size w4 (w4.alloc (.cells (NF (.slice s3 n0.vs.length c3)).toArray 39)) := (Below.refl _ _).alloc (Nat.le_refl _) _
                have hr5 := hnew w4 (.cells (NF (.slice s3 n0.vs.length c3)).toArray 39)
                have S3 := S3.below bl5 (Nat.le_refl _)
                have HD5 := hid (HD4.out.below bl5)
                have HK5 := hid (HK4.out.below bl5)
                have HO5 := hid (HO4.out.below bl5)
                have HB5 := hid (HB4.out.trans (bl5.mono HB4.out.size))
                clear bl5 HD4 HK4 HO4 HB4
                generalize w4.alloc (.cells (NF (.slice s3 n0.vs.length c3)).toArray 39) = wd at *
                generalize w4.heap.size = gm at *
                have HGM := hid (hlt hr5)
                have HBB3 := hid (show b1 < wd.heap.size from Nat.lt_of_lt_of_le hbb HB5.out.size)
                have RJ3 := hid (rng_below RJ.out HB5.out hbb)
                have RM := hid (show wd.rangeAt gm 0 (NF (.slice s3 n0.vs.length c3)) from fun j v hv => by rw [Nat.zero_add, cell_of_row _ _ _ _ _ _ hr5]; simpa using hv)
                have SM := hid (show (Try.prog.info? 39).map (·.size) = some (NF (.slice s3 n0.vs.length c3)).length by rw [Try.sizeNd, LM.out])
                have HSO := hid (HSS.out.below HB5.out (Nat.le_refl _))
                clear hr5
                go_wp2_with fail
                refine wp_region_noPanic ?_
                refine wp_region_held_drew (S := fun w' => Below wd.heap.size wd w') (by kernel_rfl) (Below.refl _ _).drew (fun hHeld => ?_)
                refine wpAnyH_take (i := 0) (oi := { dst := some 178, op := Op.move (Operand.tmp 25), type := 25, pos := "outright.go:239", after := #[], guard := none }) (v := .int .i64 0) rfl (by kernel_rfl) (by kernel_rfl) (by kernel_rfl) (fun _ _ _ h => h) (Or.inl ⟨by rfl, by intro w hS; go_simp⟩) hHeld ?_
                try simp only [Act.put, List.setIfInBounds_toArray, List.set_cons_zero, List.set_cons_succ]
                refine wpAnyH_take (i := 1) (oi := { dst := some 179, op := Op.binOp BinOp.neq 25 (Operand.tmp 178) (Operand.const (Value.int IntKind.i64 0)) 25, type := 4, pos := "outright.go:239", after := #[{ on := 0, ground := Ground.data }], guard := none }) (v := .bool false) rfl (by kernel_rfl) (by kernel_rfl) (by kernel_rfl) (fun _ _ _ h => h) (Or.inl ⟨by rfl, by intro w hS; go_simp⟩) hHeld ?_
                try simp only [Act.put, List.setIfInBounds_toArray, List.set_cons_zero, List.set_cons_succ]
                refine wpAnyH_take (i := 2) (oi := { dst := some 180, op := Op.move (Operand.tmp 179), type := 4, pos := "outright.go:239", after := #[{ on := 1, ground := Ground.data }], guard := none }) (v := .bool false) rfl (by kernel_rfl) (by kernel_rfl) (by kernel_rfl) (fun _ _ _ h => h) (Or.inl ⟨by rfl, by intro w hS; go_simp⟩) hHeld ?_
                try simp only [Act.put, List.setIfInBounds_toArray, List.set_cons_zero, List.set_cons_succ]
                refine wpAnyH_take (i := 3) (oi := { dst := some 181, op := Op.move (Operand.tmp 27), type := 25, pos := "outright.go:239", after := #[{ on := 2, ground := Ground.guard }], guard := some (2, false) }) (v := .int .i64 0) rfl (by kernel_rfl) (by kernel_rfl) (by kernel_rfl) (fun _ _ _ h => h) (Or.inl ⟨by rfl, by intro w hS; go_simp⟩) hHeld ?_
                try simp only [Act.put, List.setIfInBounds_toArray, List.set_cons_zero, List.set_cons_succ]
                refine wpAnyH_take (i := 4) (oi := { dst := some 182, op := Op.binOp BinOp.neq 25 (Operand.tmp 181) (Operand.const (Value.int IntKind.i64 0)) 25, type := 4, pos := "outright.go:239", after := #[{ on := 3, ground := Ground.data }, { on := 2, ground := Ground.guard }], guard := some (2, false) }) (v := .bool false) rfl (by kernel_rfl) (by kernel_rfl) (by kernel_rfl) (fun _ _ _ h => h) (Or.inl ⟨by rfl, by intro w hS; go_simp⟩) hHeld ?_
                try simp only [Act.put, List.setIfInBounds_toArray, List.set_cons_zero, List.set_cons_succ]
                refine wpAnyH_take (i := 5) (oi := { dst := some 183, op := Op.pick (Operand.tmp 180) (Operand.const (Value.bool true)) (Operand.tmp 182), type := 4, pos := "outright.go:239", after := #[{ on := 2, ground := Ground.data }, { on := 4, ground := Ground.data }], guard := none }) (v := .bool false) rfl (by kernel_rfl) (by kernel_rfl) (by kernel_rfl) (fun _ _ _ h => h) (Or.inl ⟨by rfl, by intro w hS; go_simp⟩) hHeld ?_
                try simp only [Act.put, List.setIfInBounds_toArray, List.set_cons_zero, List.set_cons_succ]
                refine wpAnyH_take (i := 6) (oi := { dst := some 184, op := Op.move (Operand.tmp 183), type := 4, pos := "outright.go:239", after := #[{ on := 5, ground := Ground.data }, { on := 2, ground := Ground.chain }], guard := none }) (v := .bool false) rfl (by kernel_rfl) (by kernel_rfl) (by kernel_rfl) (fun _ _ _ h => h) (Or.inl ⟨by rfl, by intro w hS; go_simp⟩) hHeld ?_
                try simp only [Act.put, List.setIfInBounds_toArray, List.set_cons_zero, List.set_cons_succ]
                refine wpAnyH_take (i := 7) (oi := { dst := some 185, op := Op.load 39 (Operand.tmp 26), type := 39, pos := "outright.go:239", after := #[{ on := 6, ground := Ground.guard }], guard := some (6, false) }) (v := .agg (NF (.slice s3 n0.vs.length c3)).toArray) rfl (by kernel_rfl) (by kernel_rfl) (by kernel_rfl) (fun _ _ _ h => h) (yieldsIf_load_mid (by rfl) 39 _ rfl gm (0) rfl (NF (.slice s3 n0.vs.length c3)) _ (fun w hS => (rng_below RM.out hS HGM.out)) Try.underlying39 rfl SM.out) hHeld ?_
                try simp only [Act.put, List.setIfInBounds_toArray, List.set_cons_zero, List.set_cons_succ]
                refine wpAnyH_take (i := 8) (oi := { dst := some 186, op := Op.move (Operand.tmp 1), type := 22, pos := "outright.go:239", after := #[{ on := 6, ground := Ground.guard }], guard := some (6, false) }) (v := .slice (some ⟨b1, o1, none⟩) m1 cap1) rfl (by kernel_rfl) (by kernel_rfl) (by kernel_rfl) (fun _ _ _ h => h) (Or.inl ⟨by rfl, by intro w hS; go_simp⟩) hHeld ?_
                try simp only [Act.put, List.setIfInBounds_toArray, List.set_cons_zero, List.set_cons_succ]
                refine wpAnyH_take (i := 9) (oi := { dst := some 187, op := Op.move (Operand.tmp 22), type := 3, pos := "outright.go:239", after := #[{ on := 6, ground := Ground.guard }], guard := some (6, false) }) (v := .int .i64 i) rfl (by kernel_rfl) (by kernel_rfl) (by kernel_rfl) (fun _ _ _ h => h) (Or.inl ⟨by rfl, by intro w hS; go_simp⟩) hHeld ?_
                try simp only [Act.put, List.setIfInBounds_toArray, List.set_cons_zero, List.set_cons_succ]
                refine wpAnyH_take (i := 10) (oi := { dst := some 188, op := Op.indexAddr 22 (Operand.tmp 186) (Operand.tmp 187), type := 0, pos := "outright.go:239", after := #[{ on := 8, ground := Ground.data }, { on := 9, ground := Ground.data }, { on := 6, ground := Ground.guard }], guard := some (6, false) }) (v := .pointer (some ⟨b1, o1 + i * 102, none⟩)) rfl (by kernel_rfl) (by kernel_rfl) (by kernel_rfl) (fun _ _ _ h => h) (Or.inl ⟨by rfl, by intro w hS; go_simp⟩) hHeld ?_
                try simp only [Act.put, List.setIfInBounds_toArray, List.set_cons_zero, List.set_cons_succ]
                refine wpAnyH_take (i := 11) (oi := { dst := some 189, op := Op.load 39 (Operand.tmp 188), type := 39, pos := "outright.go:239", after := #[{ on := 10, ground := Ground.data }, { on := 6, ground := Ground.guard }], guard := some (6, false) }) (v := .agg (NF (.slice s0 n0.vs.length c0)).toArray) rfl (by kernel_rfl) (by kernel_rfl) (by kernel_rfl) (fun _ _ _ h => h) (yieldsIf_load_mid (by rfl) 39 _ rfl b1 (o1 + i * 102) rfl (NF (.slice s0 n0.vs.length c0)) _ (fun w hS => (rng_below RJ3.out hS HBB3.out)) Try.underlying39 rfl SN.out) hHeld ?_
                try simp only [Act.put, List.setIfInBounds_toArray, List.set_cons_zero, List.set_cons_succ]
                refine wpAnyH_ready (rs := [12]) (by kernel_rfl) (by simp) ?_
                refine (AllReadyH.cons (o := { dst := some 190, op := Op.call { callee := Callee.value (Operand.func 14), args := #[Operand.tmp 185, Operand.tmp 189], argTypes := #[39, 39] }, type := 4, pos := "outright.go:239", after := #[{ on := 7, ground := Ground.data }, { on := 11, ground := Ground.data }, { on := 6, ground := Ground.chain }, { on := 6, ground := Ground.guard }], guard := some (6, false) }) rfl (fun K hK => ?_) AllReadyH.nil)
                go_simp
                go_at_call 14
                refine (KSN.out _ _ _ (S3.below hHeld (Nat.le_refl _)) (HSO.out.below hHeld (Nat.le_refl _))).mono ?_
                rintro e w4 ⟨rfl, hb4⟩
                go_wp2_with fail
                refine hK.out _ _ (hHeld.trans (hb4.mono hHeld.size)) (fun hHeld2 => ?_)
                clear hK K hHeld
                have hHeld := hHeld2
                clear hHeld2
                clear hb4
                try simp only [Act.put, List.setIfInBounds_toArray, List.set_cons_zero, List.set_cons_succ]
                refine wpAnyH_take (i := 13) (oi := { dst := some 191, op := Op.unOp UnOp.not 4 (Operand.tmp 190), type := 4, pos := "outright.go:239", after := #[{ on := 12, ground := Ground.data }, { on := 6, ground := Ground.guard }], guard := some (6, false) }) (v := .bool false) rfl (by kernel_rfl) (by kernel_rfl) (by kernel_rfl) (fun _ _ _ h => h) (Or.inl ⟨by rfl, by intro w hS; go_simp⟩) hHeld ?_
                try simp only [Act.put, List.setIfInBounds_toArray, List.set_cons_zero, List.set_cons_succ]
                refine wpAnyH_take (i := 14) (oi := { dst := some 192, op := Op.pick (Operand.tmp 184) (Operand.const (Value.bool true)) (Operand.tmp 191), type := 4, pos := "outright.go:239", after := #[{ on := 6, ground := Ground.data }, { on := 13, ground := Ground.data }], guard := none }) (v := .bool false) rfl (by kernel_rfl) (by kernel_rfl) (by kernel_rfl) (fun _ _ _ h => h) (Or.inl ⟨by rfl, by intro w hS; go_simp⟩) hHeld ?_
                try simp only [Act.put, List.setIfInBounds_toArray, List.set_cons_zero, List.set_cons_succ]
                refine wpAnyH_done (by kernel_rfl) ?_ _
                refine NoPanic.normal ?_
                have hf := hHeld
                clear hHeld
                have HD6 := hid (HD5.out.below hf)
                have HK6 := hid (HK5.out.below hf)
                have HO6 := hid (HO5.out.below hf)
                have HB6 := hid (HB5.out.trans (hf.mono HB5.out.size))
                clear hf
                go_wp2
                go_roundw
                case rel => exact ⟨i + 1, x + 1, by omega, by go_num, by push_cast; omega, HD6.out, HK6.out, HO6.out, HB6.out⟩
                case measure => simp [intOf]; omega
            · obtain rfl : m1 = i := by omega
              clear hlt3
              go_wp2
              go_ret
              exact ⟨rfl, hB⟩
end Go.Proofs.Ytbcadiecpcngdaa
