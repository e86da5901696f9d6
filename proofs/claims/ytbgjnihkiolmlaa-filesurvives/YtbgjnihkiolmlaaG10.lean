import Derived.Test.YtbgjnihkiolmlaaG9
namespace Go.Proofs.Ytbgjnihkiolmlaa
set_option linter.unusedVariables false
set_option linter.unusedSimpArgs false
open Go.RowKit
attribute [local go_sem ↓] Go.wp_at_zero Go.wp_at_succ

theorem Src.below' {w w1 : World} {B : Nat} {sp : Option Addr} {cap : Nat} {zs : List Int} (h : Src w sp cap zs) (hb : Below B w w1) (hB : 0 < zs.length → ∀ a, sp = some a → a.block < B) : Src w1 sp cap zs := by
  obtain ⟨h1, h2, b, o, h3, h4, h5⟩ := h
  refine ⟨h1, h2, b, o, fun hp => Nat.lt_of_lt_of_le (h3 hp) hb.size, h4, fun j hj => ?_⟩
  have : b < B := hB (by omega) _ (h4 (by omega))
  exact (hb.cell (p := ⟨b, o + j, none⟩) this).trans (h5 j hj)
set_option maxRecDepth 100000 in
set_option maxHeartbeats 2000000 in
theorem begins_in (w : World) (n : Nat) (wd ot at_ : Int) (hn : 3 ≤ n ∧ n ≤ 64) (hw : 1 ≤ wd ∧ wd ≤ 32) (hot : 1 ≤ ot ∧ ot ≤ 32) (ha : -9223372036854775808 ≤ at_ ∧ at_ ≤ 9223372036854775807) (fs : List Int) (hfb : Bts fs) (sp : Option Addr) (cap : Nat) (hS : Src w sp cap fs) (hsb : ∀ a, 0 < fs.length → sp = some a → a.block < w.heap.size) :
    Calls Try.prog 3 #[.int .i64 n, .int .i64 wd, .int .i64 ot, .int .i64 at_, .slice sp fs.length cap] w fun e w' => e = .returned (.bool true) ∧ Below w.heap.size w w' := by
  have HFT := hid (fits_yes w n wd ⟨by omega, by omega, hw.1, hw.2⟩)
  obtain ⟨m, hm⟩ : ∃ m, m = at_ % 5 := ⟨_, rfl⟩
  have hm1 : 0 ≤ m ∧ m ≤ 4 := by omega
  have HPL := hid (fun w1 => (show Calls Try.prog 11 #[.int .i64 at_, .int .i64 5] w1 fun e w' => e = .returned (.int .i64 m) ∧ w1 = w' from by rw [hm]; exact place_any w1 at_ 5 (by decide) (by decide) ha.1 ha.2 5 rfl))
  have HNW := hid (New_ok w n hn.1 (by omega))
  obtain ⟨Z, hZ⟩ : ∃ Z : List Int, Z = List.replicate (256 * n) 0 := ⟨_, rfl⟩
  rw [← hZ] at HNW
  have okN : DsOk (newD Z) := by rw [hZ]; exact newD_ok hn.1 (by omega) List.length_replicate (bts_rep _)
  have npN : (newD Z).np = n := by
    show Z.length / 256 = n
    rw [hZ, List.length_replicate]; omega
  have pz : ∀ q, q < n → pgO Z q = zz 256 := fun q hq => by rw [hZ]; exact pgO_zero n q hq
  have i1 := hw.1
  have i2 := hw.2
  have i3 := hot.1
  have i4 := hot.2
  have j0 : (n : Int) ≤ 64 := by omega
  have HW := hid hw
  have HO := hid hot
  have HS := hid hS
  have HSB := hid hsb
  obtain ⟨B, hBB⟩ : ∃ B, B = w.heap.size := ⟨_, rfl⟩
  rw [← hBB] at HNW HSB ⊢
  have B0 := hid (show B ≤ w.heap.size by omega)
  have BB := hid hBB
  obtain ⟨m0, m4⟩ := hm1
  have OKN := hid okN
  have NPN := hid npN
  have PZ := hid pz
  clear hw hot ha hS hsb hm hZ hBB okN npN pz
  go_enter Try.func3, Try.ntmps3
  go_wp2_with (first | (go_at_call 9; refine HFT.out.mono ?_; rintro e w0 ⟨rfl, rfl⟩))
  refine HNW.out.mono ?_
  rintro e w1 ⟨p, F, rfl, hD1, hB1⟩
  have HD1 := hid hD1
  have HB1 := hid hB1
  clear hD1 hB1 HNW HFT
  go_wp2_with (first | (go_at_call 11; refine (HPL.out w1).mono ?_; rintro e w0 ⟨rfl, rfl⟩))
  refine (Arm_any w1 B F p (newD Z) HD1.out (1 + m) (by omega)).mono ?_
  rintro e w2 ⟨rfl, hN2⟩
  obtain ⟨D2, hD2⟩ : ∃ D2, D2 = (newD Z).arm (1 + m) := ⟨_, rfl⟩
  rw [← hD2] at hN2
  have a2 : D2 = { newD Z with armed := 1 + m } := by
    rw [hD2]; unfold DS.arm; rw [show max (1 + m) 0 = 1 + m by omega]; rfl
  obtain ⟨F2, hDA2, hB2, _⟩ := Nx.go HD1.out HB1.out B0.out hN2
  have HDA2 := hid hDA2
  have HB2 := hid hB2
  have E2 := hid a2
  clear hN2 hDA2 hB2 hD2 a2 HPL HD1 HB1
  go_wp2_with fail
  have ok2 : DsOk D2 := HDA2.out.ok
  have np2 : D2.np = n := by rw [E2.out]; exact NPN.out
  have bl2 : Blank (pgO D2.img 0) (pgO D2.img 1) := by rw [E2.out]; show Blank (pgO Z 0) (pgO Z 1); rw [PZ.out 0 (by omega), PZ.out 1 (by omega)]; exact zz_blank
  have ops2 : D2.ops = [] := by rw [E2.out]; rfl
  have pw2 : D2.power = true := by rw [E2.out]; rfl
  have rd2 : D2.reads = 0 ∧ D2.writes = 0 ∧ D2.syncs = 0 := by rw [E2.out]; exact ⟨rfl, rfl, rfl⟩
  have bud2 : Bud D2 4 := ⟨pw2, by rw [ops2]; decide, by rw [rd2.2.1]; decide, by rw [rd2.2.2]; decide⟩
  have okr : DsOk { D2 with reads := D2.reads + 2 } := ⟨ok2.n, ok2.bts, ok2.ops, by show 0 ≤ D2.reads + 2 ∧ D2.reads + 2 ≤ _; rw [rd2.1]; decide, ok2.writes, ok2.syncs, ok2.epoch, ok2.armed⟩
  have hall := fmt_all (D := { D2 with reads := D2.reads + 2 }) okr ops2 pw2 ⟨bud2.pw, bud2.ops, bud2.writes, bud2.syncs⟩ wd HW.out bl2
  have ar2 : D2.armed = 1 + m := by rw [E2.out]
  have ep2 : D2.epoch = 0 := by rw [E2.out]; rfl
  refine (Format_ok w2 B F2 p D2 HDA2.out (Nat.le_trans B0.out HB2.out.size) pw2 (by rw [rd2.1]; decide) bud2 wd HW.out (fS D2.np wd 0) (fS D2.np wd 1) rfl rfl (by rw [bl2.chooses ops2])).mono ?_
  rintro e w3 ⟨rfl, hN3⟩
  change ((D2.armed = 0 ∨ 4 < D2.armed) → (runS { D2 with reads := D2.reads + 2 } [.lay (fS D2.np wd 0) 0 0, .sync, .lay (fS D2.np wd 1) 0 0, .sync]).2 = 0 ∧ Fm (runS { D2 with reads := D2.reads + 2 } [.lay (fS D2.np wd 0) 0 0, .sync, .lay (fS D2.np wd 1) 0 0, .sync]).1 { D2 with reads := D2.reads + 2 } wd) ∧ ((1 ≤ D2.armed ∧ D2.armed ≤ 4) → (runS { D2 with reads := D2.reads + 2 } [.lay (fS D2.np wd 0) 0 0, .sync, .lay (fS D2.np wd 1) 0 0, .sync]).2 = 2 ∧ DsOk (runS { D2 with reads := D2.reads + 2 } [.lay (fS D2.np wd 0) 0 0, .sync, .lay (fS D2.np wd 1) 0 0, .sync]).1 ∧ (runS { D2 with reads := D2.reads + 2 } [.lay (fS D2.np wd 0) 0 0, .sync, .lay (fS D2.np wd 1) 0 0, .sync]).1.np = D2.np ∧ (runS { D2 with reads := D2.reads + 2 } [.lay (fS D2.np wd 0) 0 0, .sync, .lay (fS D2.np wd 1) 0 0, .sync]).1.epoch = D2.epoch ∧ (runS { D2 with reads := D2.reads + 2 } [.lay (fS D2.np wd 0) 0 0, .sync, .lay (fS D2.np wd 1) 0 0, .sync]).1.reads = D2.reads + 2 ∧ (runS { D2 with reads := D2.reads + 2 } [.lay (fS D2.np wd 0) 0 0, .sync, .lay (fS D2.np wd 1) 0 0, .sync]).1.writes ≤ D2.writes + 2 ∧ (runS { D2 with reads := D2.reads + 2 } [.lay (fS D2.np wd 0) 0 0, .sync, .lay (fS D2.np wd 1) 0 0, .sync]).1.syncs ≤ D2.syncs + 2 ∧ ∀ fs : List Int, Half (pgO ((runS { D2 with reads := D2.reads + 2 } [.lay (fS D2.np wd 0) 0 0, .sync, .lay (fS D2.np wd 1) 0 0, .sync]).1.crashed fs).img 0) (pgO ((runS { D2 with reads := D2.reads + 2 } [.lay (fS D2.np wd 0) 0 0, .sync, .lay (fS D2.np wd 1) 0 0, .sync]).1.crashed fs).img 1) (fS D2.np wd 0) (fS D2.np wd 1)) at hall
  rw [np2] at hall hN3 ⊢
  obtain ⟨R, hR⟩ : ∃ R, R = runS { D2 with reads := D2.reads + 2 } [.lay (fS n wd 0) 0 0, .sync, .lay (fS n wd 1) 0 0, .sync] := ⟨_, rfl⟩
  rw [← hR] at hall hN3 ⊢
  obtain ⟨F3, hDA3, hB3, _⟩ := Nx.go HDA2.out HB2.out B0.out hN3
  have HDA3 := hid hDA3
  have HB3 := hid hB3
  have S3 := hid (HS.out.below' HB3.out (fun h a e => HSB.out a h e))
  have SB3 := hid (show ∀ a, 0 < fs.length → sp = some a → a.block ∉ F3 from fun a h1 h2 e => by have := HSB.out a h1 h2; have := (HDA3.out.lt _ e).1; omega)
  by_cases hm4 : m ≤ 3
  · obtain ⟨q1, q2, q3, q4, q5, q6, q7, q8⟩ := hall.2 ⟨by rw [ar2]; omega, by rw [ar2]; omega⟩
    have R4 := hid (crash_rest (ep := 0) q2 q3 (q4.trans ep2) (by decide) (by rw [q5, rd2.1]; decide) (by rw [rd2.2.1] at q6; omega) (by rw [rd2.2.2] at q7; omega) fs)
    have HH := hid (q8 fs)
    have HRD := hid (show (R.1.crashed fs).reads ≤ 10 by show R.1.reads ≤ 10; rw [q5, rd2.1]; decide)
    have HWD := hid (show (R.1.crashed fs).writes ≤ 10 by show R.1.writes ≤ 10; rw [rd2.2.1] at q6; omega)
    have HSD := hid (show (R.1.crashed fs).syncs ≤ 10 by show R.1.syncs ≤ 10; rw [rd2.2.2] at q7; omega)
    have HCR := hid (Crash_any w3 B F3 p R.1 HDA3.out (by rw [q4, ep2]; decide) fs hfb sp cap S3.out SB3.out)
    rw [q1]
    clear hall hN3 hDA3 hB3 q1 q2 q3 q4 q5 q6 q7 q8 rd2 ep2 ar2 okr bud2 pw2 ops2 bl2 np2 ok2 HDA2 HB2 E2
    go_wp2_with fail
    refine HCR.out.mono ?_
    rintro e w4 ⟨rfl, hN4⟩
    obtain ⟨D4, hD4⟩ : ∃ D4, D4 = R.1.crashed fs := ⟨_, rfl⟩
    rw [← hD4] at hN4 R4 HH HRD HWD HSD
    obtain ⟨F4, hDA4, hB4, _⟩ := Nx.go HDA3.out HB3.out B0.out hN4
    have HDA4 := hid hDA4
    have HB4 := hid hB4
    have HE4 := hid (Epoch_any w4 B F4 p D4 hDA4)
    rw [R4.out.epoch] at HE4
    clear hN4 hDA4 hB4 HCR HDA3 HB3 S3 SB3 hD4
    go_wp2_with (first | (go_at_call 15; refine HE4.out.mono ?_; rintro e w0 ⟨rfl, rfl⟩))
    rcases HH.out with hbl | hgd
    · refine (Open_bad w4 B F4 p D4 HDA4.out R4.out.pw (by have := R4.out.reads; omega) 55 (by rw [hbl.chooses R4.out.ops]) (by decide)).mono ?_
      rintro e w5 ⟨rfl, hD5, hF5⟩
      have HB5 := hid (Fr.go HDA4.out HB4.out B0.out hF5)
      have HD5 := hid hD5
      have R5 := hid (show Rest { D4 with reads := D4.reads + 2 } n (0 + 1) from ⟨hD5.ok, R4.out.np, R4.out.ops, R4.out.pw, R4.out.arm, R4.out.epoch, by show D4.reads + 2 ≤ 1000; have := HRD.out; omega, R4.out.writes, R4.out.syncs⟩)
      have HE5 := hid (Epoch_any w5 B F4 p _ hD5)
      rw [R5.out.epoch] at HE5
      have HF5 := hid (Format_rest w5 B F4 p _ hD5 (Nat.le_trans B0.out HB5.out.size) n (0 + 1) R5.out ot HO.out hbl)
      have HRD5 := hid (show ({ D4 with reads := D4.reads + 2 } : DS).reads ≤ 12 by show D4.reads + 2 ≤ 12; have := HRD.out; omega)
      have HW5 := hid (show ({ D4 with reads := D4.reads + 2 } : DS).writes ≤ 10 from HWD.out)
      have HS5 := hid (show ({ D4 with reads := D4.reads + 2 } : DS).syncs ≤ 10 from HSD.out)
      have HNP5 := hid (show ({ D4 with reads := D4.reads + 2 } : DS).np = n from R4.out.np)
      generalize ({ D4 with reads := D4.reads + 2 } : DS) = D5 at *
      clear hD5 hF5 hbl HH HDA4 HB4 HE4 R4 HRD
      go_wp2_with (first | (go_at_call 15; refine HE5.out.mono ?_; rintro e w0 ⟨rfl, rfl⟩))
      refine HF5.out.mono ?_
      rintro e w8 ⟨rfl, D8, hFm, hnp8, hN8⟩
      obtain ⟨F8, hDA8, hB8, _⟩ := Nx.go HD5.out HB5.out B0.out hN8
      have HDA8 := hid hDA8
      have HB8 := hid hB8
      have R8 := hid (show Rest D8 n (0 + 1) from ⟨hFm.ok, hnp8, hFm.ops, hFm.pw, by rw [hFm.arm]; show (if D5.armed = 0 then (0 : Int) else _) = 0; rw [if_pos R5.out.arm], hFm.epoch.trans R5.out.epoch, by rw [hFm.reads]; show D5.reads + 2 ≤ 1000; have := HRD5.out; omega, by rw [hFm.writes]; show D5.writes + 2 ≤ 1000; have := HW5.out; omega, by rw [hFm.syncs]; show D5.syncs + 2 ≤ 1000; have := HS5.out; omega⟩)
      have HE8 := hid (Epoch_any w8 B F8 p D8 hDA8)
      rw [R8.out.epoch] at HE8
      have HG := hid (hFm.good HO.out)
      rw [show ({ D5 with reads := D5.reads + 2 } : DS).np = D5.np from rfl, HNP5.out] at HG
      clear hFm hnp8 hN8 hDA8 hB8 HF5 HE5 HD5 HB5 R5 HRD5
      go_wp2_with (first | (go_at_call 15; refine HE8.out.mono ?_; rintro e w0 ⟨rfl, rfl⟩))
      refine (Open_ok w8 B F8 p D8 HDA8.out R8.out.pw (by have := R8.out.reads; omega) (by rw [R8.out.epoch]; decide) (fS n ot 1) (HG.out.chooses R8.out.ops) (by rw [R8.out.np]; exact rfl)).mono ?_
      rintro e w6 ⟨g, rfl, hg, hK6, hD6, hF6⟩
      rw [R8.out.epoch] at hK6 hD6
      have HB6 := hid (Fr.go HDA8.out HB8.out B0.out hF6)
      have HC6 := hid (show chooseF (({ D8 with reads := D8.reads + 2, epoch := (0 + 1) + 1 } : DS).readOf 0) (({ D8 with reads := D8.reads + 2, epoch := (0 + 1) + 1 } : DS).readOf 1) = ((fS n ot 1), 0) from HG.out.chooses R8.out.ops)
      have HD6 := hid hD6
      have HK6 := hid hK6
      clear hg hK6 hD6 hF6
      have HE6 := hid (Epoch_any w6 B F8 p _ HD6.out)
      have HT6 := hid (Format_taken w6 B F8 p _ HD6.out R8.out.pw (by show D8.reads + 2 < _; have := R8.out.reads; omega) ot HO.out (by rw [HC6.out]; exact (by decide : (0 : Int) ≠ 55)))
      go_wp2_with (first | (go_at_call 15; refine HE6.out.mono ?_; rintro e w0 ⟨rfl, rfl⟩))
      refine HT6.out.mono ?_
      rintro e w7 ⟨rfl, hD7, hF7⟩
      have HK7 := hid (HK6.out.other HD6.out hF7)
      have HB7 := hid (Fr.go HD6.out HB6.out B0.out hF7)
      have HD7 := hid hD7
      clear hD7 hF7 HT6 HE6
      have HS7 := hid (FSuper_any w7 g p (fS n ot 1) _ _ HK7.out)
      have HN7 := hid (fun (w8 : World) (hb : Below w7.heap.size w7 w8) => FNext_any w8 g p (fS n ot 1) _ _ (HK7.out.below hb))
      have HL7 := hid (fun (w8 : World) (hb : Below w7.heap.size w7 w8) => (Live_any w8 B F8 p _ (HD7.out.below hb) g (fS n ot 1) _ _ (HK7.out.below hb)))
      have HLV := hid (show liveF { ({ D8 with reads := D8.reads + 2, epoch := (0 + 1) + 1 } : DS) with reads := D8.reads + 2 + 2 } ((0 + 1) + 1) = 0 by unfold liveF; rw [if_neg (fun q => q rfl), if_pos R8.out.pw])
      have KQ : ∀ w : World, (Op.equalIn 10000 37 (.agg (supC (fS n ot 1))) (.agg #[.int .i64 ot, .int .i64 1, .int .i64 2, .int .i64 0, .int .i64 (n : Int)])).run Try.prog w = .ok true w := fun w => by
        have := eqSup (fS n ot 1) (fS n ot 1) w
        rw [show decide ((fS n ot 1) = (fS n ot 1)) = true from decide_eq_true rfl] at this
        exact this
      have KG := guardU
      go_wp2_with (first
        | (go_at_call 17; refine HS7.out.mono ?_; rintro e w8 ⟨rfl, hb8⟩)
        | (go_at_call 18; refine (HN7.out w8 hb8).mono ?_; rintro e w9 ⟨rfl, rfl⟩)
        | (go_at_call 19; refine (HL7.out w8 hb8).mono ?_; rw [HLV.out]; rintro e w9 ⟨rfl, hb9⟩))
      go_ret
      exact ⟨rfl, HB7.out.trans ((hb8.trans (hb9.mono hb8.size)).mono (Nat.le_trans B0.out HB7.out.size))⟩
    · have HG := hid hgd
      clear hgd HH
      refine (Open_ok w4 B F4 p D4 HDA4.out R4.out.pw (by have := R4.out.reads; omega) (by rw [R4.out.epoch]; decide) (fS n wd 1) (HG.out.chooses R4.out.ops) (by rw [R4.out.np]; exact rfl)).mono ?_
      rintro e w6 ⟨g, rfl, hg, hK6, hD6, hF6⟩
      rw [R4.out.epoch] at hK6 hD6
      have HB6 := hid (Fr.go HDA4.out HB4.out B0.out hF6)
      have HC6 := hid (show chooseF (({ D4 with reads := D4.reads + 2, epoch := (0 + 1) + 1 } : DS).readOf 0) (({ D4 with reads := D4.reads + 2, epoch := (0 + 1) + 1 } : DS).readOf 1) = ((fS n wd 1), 0) from HG.out.chooses R4.out.ops)
      have HD6 := hid hD6
      have HK6 := hid hK6
      clear hg hK6 hD6 hF6
      have HE6 := hid (Epoch_any w6 B F4 p _ HD6.out)
      have HT6 := hid (Format_taken w6 B F4 p _ HD6.out R4.out.pw (by show D4.reads + 2 < _; have := R4.out.reads; omega) wd HW.out (by rw [HC6.out]; exact (by decide : (0 : Int) ≠ 55)))
      go_wp2_with (first | (go_at_call 15; refine HE6.out.mono ?_; rintro e w0 ⟨rfl, rfl⟩))
      refine HT6.out.mono ?_
      rintro e w7 ⟨rfl, hD7, hF7⟩
      have HK7 := hid (HK6.out.other HD6.out hF7)
      have HB7 := hid (Fr.go HD6.out HB6.out B0.out hF7)
      have HD7 := hid hD7
      clear hD7 hF7 HT6 HE6
      have HS7 := hid (FSuper_any w7 g p (fS n wd 1) _ _ HK7.out)
      have HN7 := hid (fun (w8 : World) (hb : Below w7.heap.size w7 w8) => FNext_any w8 g p (fS n wd 1) _ _ (HK7.out.below hb))
      have HL7 := hid (fun (w8 : World) (hb : Below w7.heap.size w7 w8) => (Live_any w8 B F4 p _ (HD7.out.below hb) g (fS n wd 1) _ _ (HK7.out.below hb)))
      have HLV := hid (show liveF { ({ D4 with reads := D4.reads + 2, epoch := (0 + 1) + 1 } : DS) with reads := D4.reads + 2 + 2 } ((0 + 1) + 1) = 0 by unfold liveF; rw [if_neg (fun q => q rfl), if_pos R4.out.pw])
      have KQ : ∀ w : World, (Op.equalIn 10000 37 (.agg (supC (fS n wd 1))) (.agg #[.int .i64 wd, .int .i64 1, .int .i64 2, .int .i64 0, .int .i64 (n : Int)])).run Try.prog w = .ok true w := fun w => by
        have := eqSup (fS n wd 1) (fS n wd 1) w
        rw [show decide ((fS n wd 1) = (fS n wd 1)) = true from decide_eq_true rfl] at this
        exact this
      have KG := guardU
      go_wp2_with (first
        | (go_at_call 17; refine HS7.out.mono ?_; rintro e w8 ⟨rfl, hb8⟩)
        | (go_at_call 18; refine (HN7.out w8 hb8).mono ?_; rintro e w9 ⟨rfl, rfl⟩)
        | (go_at_call 19; refine (HL7.out w8 hb8).mono ?_; rw [HLV.out]; rintro e w9 ⟨rfl, hb9⟩))
      go_ret
      exact ⟨rfl, HB7.out.trans ((hb8.trans (hb9.mono hb8.size)).mono (Nat.le_trans B0.out HB7.out.size))⟩
  · obtain rfl : m = 4 := by omega
    obtain ⟨q1, q2⟩ := hall.1 (Or.inr (by rw [ar2]; decide))
    have R4 := hid (crash_rest (ep := 0) q2.ok (q2.np.trans np2) (q2.epoch.trans ep2) (by decide) (by rw [q2.reads]; show D2.reads + 2 ≤ 1000; rw [rd2.1]; decide) (by rw [q2.writes]; show D2.writes + 2 ≤ 1000; rw [rd2.2.1]; decide) (by rw [q2.syncs]; show D2.syncs + 2 ≤ 1000; rw [rd2.2.2]; decide) fs)
    have hgd : Good (fS n wd 1) (fS n wd 0) (pgO (R.1.crashed fs).img 0) (pgO (R.1.crashed fs).img 1) := by
      have e : (R.1.crashed fs).img = R.1.img := by
        show crashTo R.1.img R.1.ops fs R.1.ops.length = _
        rw [q2.ops]; rfl
      have := q2.good HW.out
      rw [show ({ D2 with reads := D2.reads + 2 } : DS).np = D2.np from rfl, np2] at this
      rw [e]; exact this
    have HG := hid hgd
    have HCR := hid (Crash_any w3 B F3 p R.1 HDA3.out (by rw [q2.epoch]; show D2.epoch < _; rw [ep2]; decide) fs hfb sp cap S3.out SB3.out)
    rw [q1]
    clear hall hN3 hDA3 hB3 q1 q2 rd2 ep2 ar2 okr bud2 pw2 ops2 bl2 np2 ok2 HDA2 HB2 E2 hgd
    go_wp2_with fail
    refine HCR.out.mono ?_
    rintro e w4 ⟨rfl, hN4⟩
    obtain ⟨D4, hD4⟩ : ∃ D4, D4 = R.1.crashed fs := ⟨_, rfl⟩
    rw [← hD4] at hN4 R4 HG
    obtain ⟨F4, hDA4, hB4, _⟩ := Nx.go HDA3.out HB3.out B0.out hN4
    have HDA4 := hid hDA4
    have HB4 := hid hB4
    have HE4 := hid (Epoch_any w4 B F4 p D4 hDA4)
    rw [R4.out.epoch] at HE4
    clear hN4 hDA4 hB4 HCR HDA3 HB3 S3 SB3 hD4
    go_wp2_with (first | (go_at_call 15; refine HE4.out.mono ?_; rintro e w0 ⟨rfl, rfl⟩))
    refine (Open_ok w4 B F4 p D4 HDA4.out R4.out.pw (by have := R4.out.reads; omega) (by rw [R4.out.epoch]; decide) (fS n wd 1) (HG.out.chooses R4.out.ops) (by rw [R4.out.np]; exact rfl)).mono ?_
    rintro e w6 ⟨g, rfl, hg, hK6, hD6, hF6⟩
    rw [R4.out.epoch] at hK6 hD6
    have HB6 := hid (Fr.go HDA4.out HB4.out B0.out hF6)
    have HC6 := hid (show chooseF (({ D4 with reads := D4.reads + 2, epoch := (0 + 1) + 1 } : DS).readOf 0) (({ D4 with reads := D4.reads + 2, epoch := (0 + 1) + 1 } : DS).readOf 1) = ((fS n wd 1), 0) from HG.out.chooses R4.out.ops)
    have HD6 := hid hD6
    have HK6 := hid hK6
    clear hg hK6 hD6 hF6
    have HE6 := hid (Epoch_any w6 B F4 p _ HD6.out)
    have HT6 := hid (Format_taken w6 B F4 p _ HD6.out R4.out.pw (by show D4.reads + 2 < _; have := R4.out.reads; omega) wd HW.out (by rw [HC6.out]; exact (by decide : (0 : Int) ≠ 55)))
    go_wp2_with (first | (go_at_call 15; refine HE6.out.mono ?_; rintro e w0 ⟨rfl, rfl⟩))
    refine HT6.out.mono ?_
    rintro e w7 ⟨rfl, hD7, hF7⟩
    have HK7 := hid (HK6.out.other HD6.out hF7)
    have HB7 := hid (Fr.go HD6.out HB6.out B0.out hF7)
    have HD7 := hid hD7
    clear hD7 hF7 HT6 HE6
    have HS7 := hid (FSuper_any w7 g p (fS n wd 1) _ _ HK7.out)
    have HN7 := hid (fun (w8 : World) (hb : Below w7.heap.size w7 w8) => FNext_any w8 g p (fS n wd 1) _ _ (HK7.out.below hb))
    have HL7 := hid (fun (w8 : World) (hb : Below w7.heap.size w7 w8) => (Live_any w8 B F4 p _ (HD7.out.below hb) g (fS n wd 1) _ _ (HK7.out.below hb)))
    have HLV := hid (show liveF { ({ D4 with reads := D4.reads + 2, epoch := (0 + 1) + 1 } : DS) with reads := D4.reads + 2 + 2 } ((0 + 1) + 1) = 0 by unfold liveF; rw [if_neg (fun q => q rfl), if_pos R4.out.pw])
    have KQ : ∀ w : World, (Op.equalIn 10000 37 (.agg (supC (fS n wd 1))) (.agg #[.int .i64 wd, .int .i64 1, .int .i64 2, .int .i64 0, .int .i64 (n : Int)])).run Try.prog w = .ok true w := fun w => by
      have := eqSup (fS n wd 1) (fS n wd 1) w
      rw [show decide ((fS n wd 1) = (fS n wd 1)) = true from decide_eq_true rfl] at this
      exact this
    have KG := guardU
    go_wp2_with (first
      | (go_at_call 17; refine HS7.out.mono ?_; rintro e w8 ⟨rfl, hb8⟩)
      | (go_at_call 18; refine (HN7.out w8 hb8).mono ?_; rintro e w9 ⟨rfl, rfl⟩)
      | (go_at_call 19; refine (HL7.out w8 hb8).mono ?_; rw [HLV.out]; rintro e w9 ⟨rfl, hb9⟩))
    go_ret
    exact ⟨rfl, HB7.out.trans ((hb8.trans (hb9.mono hb8.size)).mono (Nat.le_trans B0.out HB7.out.size))⟩
end Go.Proofs.Ytbgjnihkiolmlaa
