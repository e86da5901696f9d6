import Derived.Test.YtpjfpepjledlmaaGreatDoorPr3
namespace Go.Proofs.YtpjfpepjledlmaaGreatDoor
set_option linter.unusedVariables false
set_option linter.unusedSimpArgs false
open Go.RowKit
open Go.Proofs.YtpjfpepjledlmaaGreatDoor.Ca (Ct ct0 ctC argV AS)
attribute [local go_sem ↓] Go.wp_at_zero Go.wp_at_succ

/-- The disk crashes; the old store is stale. -/
theorem SK.crash2 {w : World} {base : Nat} {S : Sto} (h : SK w base S) (hep : S.D.epoch = S.ep) (he : S.D.epoch < 100000) (fs : List Int) (hfb : Bts fs) (sp : Option Addr) (cap : Nat) (hS : Src w sp cap fs) (hsb : ∀ a, 0 < fs.length → sp = some a → a.block ∉ S.F) :
    Calls Tryz.prog 11 #[.pointer (some ⟨S.p, 0, none⟩), .slice sp fs.length cap] w fun e w' => ∃ F', e = .returned (.int .i64 S.D.ops.length) ∧ DA w' base F' S.p (S.D.crashed fs) ∧ (∀ w1, Below w'.heap.size w' w1 → Calls Tryz.prog 20 #[.pointer (some ⟨S.st, 0, none⟩)] w1 fun e w2 => e = .returned (.int .i64 3) ∧ Below w1.heap.size w1 w2) ∧ (∀ k, k < w.heap.size → k ∉ S.F → w'.heap[k]? = w.heap[k]?) ∧ Below base w w' := by
  refine (Crash_any w base S.F S.p S.D h.da (by omega) fs hfb sp cap hS hsb).mono ?_
  rintro e w' ⟨rfl, F', hD', hF', hG'⟩
  have hb := hF'.below (fun k hk => (h.in_lt (by simp [hk])).1) h.base
  refine ⟨F', rfl, hD', fun w1 hb1 => ?_, fun k hk hn => hF'.block k hk hn, hb⟩
  have r0 : w'.heap[S.st]? = some (.cells (stC S.g S.pc S.sv).toArray 70 (0, 0)) := (hF'.block S.st h.lt_st h.st_apart.2.1).trans h.sk
  have r1 : w1.heap[S.st]? = some (.cells (stC S.g S.pc S.sv).toArray 70 (0, 0)) := (hb1.block S.st (hlt_ r0)).trans r0
  have f0 := h.fk.other h.da hF'
  have f1 : FK w1 S.g S.p S.s S.nx S.ep := (hb1.block S.g (hlt_ f0)).trans f0
  have := oLive_min w1 base F' S.st S.g S.p S.s S.nx S.ep (S.D.crashed fs) (by rw [cell_of_row _ _ _ _ _ _ r1]; rfl) f1 (hD'.of_heap fun k hk => hb1.block k (hD'.lt k hk).2)
  rw [show liveF (S.D.crashed fs) S.ep = 3 by unfold liveF; rw [if_pos (by show S.D.epoch + 1 ≠ S.ep; omega)]] at this
  exact this
theorem SK.fp_lo {w : World} {base : Nat} {S : Sto} (h : SK w base S) {k : Nat} (hk : k ∈ S.fp) : base ≤ k := (h.in_lt (by rcases (Sto.mem S k).1 hk with e | e | e | e | e | e <;> simp [e])).1
/-- A store over a fresh disk. -/
structure Q0 (w : World) (base : Nat) (S : Sto) : Prop where
  sk : SK w base S
  lv : liveF S.D S.ep = 0
  ma : S.s.ma = 2
  nx : S.nx = 2
  vs : S.vs = []
  N : S.N = 0
  pw : S.D.power = true
  np : S.D.np = 8
  ep : 0 ≤ S.D.epoch ∧ S.D.epoch ≤ 1000
set_option maxRecDepth 100000 in
set_option maxHeartbeats 2000000 in
theorem opened_any (w : World) (base : Nat) (F : List Nat) (p : Nat) (D : DS) (h : DA w base F p D) (hbw : base ≤ w.heap.size) (s : Sup) (hch : chooseF (D.readOf 0) (D.readOf 1) = (s, 0)) (hpg : s.pg = (D.np : Int)) (hma : s.ma = 2) (hpw : D.power = true) (hnp : D.np = 8) (hrd : D.reads ≤ 1000) (hep : 0 ≤ D.epoch ∧ D.epoch ≤ 100) (room : Int) (hr : 1 ≤ room ∧ room ≤ 4096) :
    Calls Tryz.prog 19 #[.pointer (some ⟨p, 0, none⟩), .int .i64 room] w fun e w' => ∃ S, e = .returned (.pointer (some ⟨S.st, 0, none⟩)) ∧ S.p = p ∧ Q0 w' base S ∧ Below base w w' := by
  have HOP := hid (Open_ok w base F p D h hpw (by omega) (by omega) s hch hpg)
  have HH := hid h
  have HBW := hid hbw
  have HX := hid (And.intro hma (And.intro hpw (And.intro hnp hep)))
  clear h hbw hch hpg hma hpw hnp hrd hep
  go_enter Tryz.func19, Tryz.ntmps19
  go_wp2_with fail
  refine HOP.out.mono ?_
  rintro _ w3 ⟨g, rfl, hg, hf, hD3, hF3⟩
  have HBg := hid (show base ≤ g by have := HBW.out; omega)
  have HB3 := hid (hF3.below (fun k hk => (HH.out.lt k hk).1) HBW.out)
  have HNW := hid (oNew_any w3 base F p { D with reads := D.reads + 2, epoch := D.epoch + 1 } hD3 g s s.ma (D.epoch + 1) hf HBg.out (by
    unfold liveF; rw [if_neg (by simp), if_pos HX.out.2.1]) room (by omega) 2 HX.out.1)
  have HD3 := hid hD3
  clear hg hf hD3 hF3 HOP
  go_wp2_with fail
  refine HNW.out.mono ?_
  rintro _ w4 ⟨st, pc, FC, rfl, hK4, _, _, hF4⟩
  have HB4 := hid (HB3.out.trans (hF4.below (fun k hk => by
    rcases List.mem_cons.1 hk with e | e
    · rw [e]; exact HBg.out
    · exact (HD3.out.lt k e).1) (Nat.le_trans HBW.out HB3.out.size)))
  have HK4 := hid hK4
  clear hK4 hF4 HNW
  go_wp2
  go_ret
  obtain ⟨x1, x2, x3, x4⟩ := HX.out
  refine ⟨_, rfl, rfl, ⟨HK4.out, ?_, x1, rfl, rfl, rfl, x2, x3, ?_⟩, HB4.out⟩
  · show liveF { D with reads := D.reads + 2, epoch := D.epoch + 1 } (D.epoch + 1) = 0
    unfold liveF; rw [if_neg (by simp), if_pos x2]
  · show 0 ≤ D.epoch + 1 ∧ D.epoch + 1 ≤ 1000; omega
set_option maxRecDepth 100000 in
set_option maxHeartbeats 2000000 in
theorem fresh_any (w : World) (wd room : Int) (hw : 1 ≤ wd ∧ wd ≤ 32) (hr : 1 ≤ room ∧ room ≤ 4096) :
    Calls Tryz.prog 7 #[.int .i64 8, .int .i64 wd, .int .i64 room] w fun e w' => ∃ S, e = .returned (.tuple #[.pointer (some ⟨S.p, 0, none⟩), .pointer (some ⟨S.st, 0, none⟩)]) ∧ Q0 w' w.heap.size S ∧ Below w.heap.size w w' := by
  have HNW := New_ok w 8 (by omega) (by omega)
  rw [show ((8 : Nat) : Int) = 8 from rfl] at HNW
  obtain ⟨Z, hZ⟩ : ∃ Z : List Int, Z = List.replicate (256 * 8) 0 := ⟨_, rfl⟩
  rw [← hZ] at HNW
  replace HNW := hid HNW
  have okN : DsOk (newD Z) := by rw [hZ]; exact newD_ok (n := 8) (by omega) (by omega) List.length_replicate (bts_rep _)
  have npN : (newD Z).np = 8 := by
    show Z.length / 256 = 8
    rw [hZ, List.length_replicate]
  have pz : ∀ q, q < 8 → pgO Z q = zz 256 := fun q hq => by rw [hZ]; exact pgO_zero 8 q hq
  have RN := hid (show Rest (newD Z) 8 0 from ⟨okN, npN, rfl, rfl, rfl, rfl, (by decide : (0 : Int) ≤ 1000), (by decide : (0 : Int) ≤ 1000), (by decide : (0 : Int) ≤ 1000)⟩)
  have BN := hid (show Blank (pgO (newD Z).img 0) (pgO (newD Z).img 1) from by show Blank (pgO Z 0) (pgO Z 1); rw [pz 0 (by omega), pz 1 (by omega)]; exact zz_blank)
  have HW := hid hw
  have HR := hid hr
  obtain ⟨B, hBB⟩ : ∃ B, B = w.heap.size := ⟨_, rfl⟩
  rw [← hBB] at HNW ⊢
  have B0 := hid (show B ≤ w.heap.size by omega)
  have NPN := hid npN
  clear hw hr hZ hBB okN npN pz
  go_enter Tryz.func7, Tryz.ntmps7
  go_wp2_with fail
  refine HNW.out.mono ?_
  rintro e w1 ⟨p, F, rfl, hD1, hB1⟩
  have HD1 := hid hD1
  have HB1 := hid hB1
  have HFT := hid (Format_rest w1 B F p (newD Z) hD1 (Nat.le_trans B0.out hB1.size) 8 0 RN.out wd HW.out BN.out)
  clear hD1 hB1 HNW
  go_wp2_with fail
  refine HFT.out.mono ?_
  rintro e w2 ⟨rfl, D2, hFm, hnp2, hN2⟩
  obtain ⟨F2, hDA2, hB2, _⟩ := Nx.go HD1.out HB1.out B0.out hN2
  have hgd := hFm.good HW.out
  rw [show ({ newD Z with reads := (newD Z).reads + 2 } : DS).np = (newD Z).np from rfl, NPN.out] at hgd
  have HOP := hid (opened_any w2 B F2 p D2 hDA2 (Nat.le_trans B0.out hB2.size) (fS 8 wd 1) (hgd.chooses hFm.ops) (by rw [hnp2]; rfl) rfl hFm.pw hnp2 (by have := hFm.reads; rw [this]; show (0 : Int) + 2 ≤ 1000; decide) (by rw [hFm.epoch]; exact ⟨(by decide : (0 : Int) ≤ 0), (by decide : (0 : Int) ≤ 100)⟩) room HR.out)
  have HB2 := hid hB2
  clear hFm hnp2 hN2 hDA2 hB2 hgd HFT
  go_wp2_with fail
  refine HOP.out.mono ?_
  rintro e w3 ⟨S, rfl, hp, hQ, hb3⟩
  have HP := hid hp
  have HQ := hid hQ
  have HB3 := hid (HB2.out.trans hb3)
  clear hp hQ hb3 HOP
  go_wp2
  go_ret2
  exact ⟨S, by rw [HP.out]; rfl, HQ.out, HB3.out⟩
theorem live_00 {D : DS} {ep : Int} (h : liveF D ep = 0) : D.epoch = ep := by
  unfold liveF at h
  by_cases q : D.epoch ≠ ep
  · rw [if_pos q] at h; cases h
  · exact Classical.not_not.1 q
/-- The disk is armed, and loses power at its next act. -/
theorem Q1.arm {w : World} {base : Nat} {S : Sto} {st p n : Nat} (h : Q1 w base S st p n) :
    Calls Tryz.prog 9 #[.pointer (some ⟨p, 0, none⟩), .int .i64 1] w fun e w' => e = .returned (.tuple #[]) ∧ ∃ S', Q1 w' base S' st p n ∧ S'.D.armed = 1 ∧ Below base w w' := by
  have harm : S.D.arm 1 = { S.D with armed := 1 } := by unfold DS.arm; rw [if_pos h.pw]; rfl
  have A1 := Arm_any w base S.F S.p S.D h.sk.da 1 (by omega)
  rw [h.p] at A1
  refine A1.mono ?_
  rintro e w' ⟨rfl, F7, hD7, hF7, hG7⟩
  have hD7' : DA w' base F7 S.p (S.D.arm 1) := by rw [h.p]; exact hD7
  have hf : FK w' S.g S.p S.s S.s.ma S.ep := by
    have := h.sk.fk.other h.sk.da hF7
    rw [h.nx] at this
    rw [h.ma]; exact this
  have hK := h.sk.disked (F' := F7) (D' := S.D.arm 1) hD7' 2 h.ma hf (hF7.wide S.g) hG7 (fun x _ => by rw [harm]; rfl)
  refine ⟨rfl, _, ⟨hK, h.st, h.p, ?_, h.ma, rfl, h.vs, h.N, ?_, ?_⟩, ?_, hF7.below (fun k hk => (h.sk.in_lt (by simp [hk])).1) h.sk.base⟩
  · show liveF (S.D.arm 1) S.ep = 0; rw [harm]; exact h.lv
  · show (S.D.arm 1).power = true; rw [harm]; exact h.pw
  · show 0 ≤ (S.D.arm 1).epoch ∧ (S.D.arm 1).epoch ≤ 1000; rw [harm]; exact h.ep
  · show (S.D.arm 1).armed = 1; rw [harm]
theorem Q1.down {w : World} {base : Nat} {S : Sto} {st p n : Nat} (h : Q1 w base S st p n) (ha : S.D.armed = 1) :
    Calls Tryz.prog 10 #[.pointer (some ⟨p, 0, none⟩)] w fun e w' => e = .returned (.int .i64 2) ∧ ∃ S', SK w' base S' ∧ S'.p = p ∧ S'.st = st ∧ S'.D.epoch = S'.ep ∧ S'.D.epoch < 100000 ∧ Tel 20 #[.pointer (some ⟨st, 0, none⟩)] w' 2 ∧ Below base w w' := by
  have hact : S.D.acted = { S.D with armed := 0, power := false } := by unfold DS.acted; rw [if_neg (by rw [ha]; decide), if_pos ha]
  have A1 := Sync_last w base S.F S.p S.D h.sk.da h.pw ha
  rw [h.p] at A1
  refine A1.mono ?_
  rintro e w' ⟨rfl, F7, hD7, hF7, hG7⟩
  have hD7' : DA w' base F7 S.p S.D.acted := by rw [h.p]; exact hD7
  have hf : FK w' S.g S.p S.s S.s.ma S.ep := by
    have := h.sk.fk.other h.sk.da hF7
    rw [h.nx] at this
    rw [h.ma]; exact this
  have hK := h.sk.disked (F' := F7) (D' := S.D.acted) hD7' 2 h.ma hf (hF7.wide S.g) hG7 (fun x _ => by rw [hact]; rfl)
  have hE : S.D.epoch = S.ep := (live_00 h.lv)
  refine ⟨rfl, _, hK, h.p, h.st, ?_, ?_, fun w1 hb => ?_, hF7.below (fun k hk => (h.sk.in_lt (by simp [hk])).1) h.sk.base⟩
  · show S.D.acted.epoch = S.ep; rw [hact]; exact hE
  · show S.D.acted.epoch < 100000; rw [hact]; have := h.ep; show S.D.epoch < 100000; omega
  · have := oLive_any w1 base _ (hK.below hb)
    rw [show liveF S.D.acted S.ep = 2 by rw [hact]; unfold liveF; rw [if_neg (by show ¬ (S.D.epoch ≠ S.ep); simp [hE]), if_neg (by simp)]] at this
    rw [← h.st]; exact this
set_option maxRecDepth 100000 in
set_option maxHeartbeats 2000000 in
theorem fits_yes (w : World) (wd room : Int) (h : 1 ≤ wd ∧ wd ≤ 32 ∧ 1 ≤ room ∧ room ≤ 4096) : Calls Tryz.prog 4 #[.int .i64 wd, .int .i64 room] w fun e w' => e = .returned (.bool true) ∧ w = w' := by
  obtain ⟨h1, h2, h3, h4⟩ := h
  go_enter Tryz.func4, Tryz.ntmps4
  go_wp2
  go_ret
  exact ⟨congrArg (fun b => Ending.returned (Value.bool b)) (by first | rfl | (simp; omega)), rfl⟩
set_option maxRecDepth 100000 in
set_option maxHeartbeats 2000000 in
theorem fits_no (w : World) (wd room : Int) (h : ¬ (1 ≤ wd ∧ wd ≤ 32 ∧ 1 ≤ room ∧ room ≤ 4096)) : Calls Tryz.prog 4 #[.int .i64 wd, .int .i64 room] w fun e w' => e = .returned (.bool false) ∧ w = w' := by
  by_cases h1 : 1 ≤ wd
  · by_cases h2 : wd ≤ 32
    · by_cases h3 : 1 ≤ room
      · have h4 : ¬ room ≤ 4096 := fun q => h ⟨h1, h2, h3, q⟩
        clear h
        go_enter Tryz.func4, Tryz.ntmps4
        go_wp2
        go_ret
        exact ⟨congrArg (fun b => Ending.returned (Value.bool b)) (by first | rfl | (simp; omega)), rfl⟩
      · clear h
        go_enter Tryz.func4, Tryz.ntmps4
        go_wp2
        go_ret
        exact ⟨congrArg (fun b => Ending.returned (Value.bool b)) (by first | rfl | (simp; omega)), rfl⟩
    · clear h
      go_enter Tryz.func4, Tryz.ntmps4
      go_wp2
      go_ret
      exact ⟨congrArg (fun b => Ending.returned (Value.bool b)) (by first | rfl | (simp; omega)), rfl⟩
  · clear h
    go_enter Tryz.func4, Tryz.ntmps4
    go_wp2
    go_ret
    exact ⟨congrArg (fun b => Ending.returned (Value.bool b)) (by first | rfl | (simp; omega)), rfl⟩
end Go.Proofs.YtpjfpepjledlmaaGreatDoor
