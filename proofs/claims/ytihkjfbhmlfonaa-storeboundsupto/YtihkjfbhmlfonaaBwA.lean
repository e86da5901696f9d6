import Derived.Test.YtihkjfbhmlfonaaBw9
namespace Go.Proofs.Ytihkjfbhmlfonaa
set_option linter.unusedVariables false
set_option linter.unusedSimpArgs false
open Go.RowKit
open Go.Proofs.Ytihkjfbhmlfonaa.Ca (Ct ct0 ctC argV AS)
attribute [local go_sem ↓] Go.wp_at_zero Go.wp_at_succ

set_option maxRecDepth 100000 in
set_option maxHeartbeats 1000000 in
theorem opened_rm (w : World) (base : Nat) (F : List Nat) (p : Nat) (D : DS) (h : DA w base F p D) (hbw : base ≤ w.heap.size) (n : Nat) (s o : Sup) (L : List (Int × List Int)) (hs : Hs D n s o L) (b : Nat) (hb : b ≤ 100000) (h1 : D.reads ≤ b) (h2 : D.writes ≤ b) (h3 : D.syncs ≤ b) (h4 : s.ge ≤ b) (h5 : D.epoch ≤ b) (h6 : D.armed = 0) (room : Int) :
    Calls Try.prog 7 #[.pointer (some ⟨p, 0, none⟩), .int .i64 room] w fun e w' => ∃ S', e = .returned (.pointer (some ⟨S'.st, 0, none⟩)) ∧ Sx w' base S' n o L (b + 200) 0 ∧ (S'.vs = [] ∧ S'.p = p ∧ S'.s = s ∧ S'.a.room = (wholeF room 0 4096).toNat) ∧ Below base w w' := by
  have hrb := wholeF_bd room 0 4096 (by omega)
  have HOP := hid (Open_ok w base F p D h hs.pw (by omega) (by omega) s hs.chs (by rw [hs.pg, hs.np]))
  have KR := hid (fun w3 => hwhole_any w3 room 0 4096 (by omega) (by omega) (by omega))
  have HH := hid h
  have HS := hid hs
  have HBW := hid hbw
  have HB := hid (And.intro h1 (And.intro h2 (And.intro h3 (And.intro h4 (And.intro h5 h6)))))
  generalize wholeF room 0 4096 = rm at *
  clear h hs hbw h1 h2 h3 h4 h5 h6
  go_enter Try.func7, Try.ntmps7
  go_wp2_with fail
  refine HOP.out.mono ?_
  rintro _ w3 ⟨g, rfl, hg, hf, hD3, hF3⟩
  have HBg := hid (show base ≤ g by have := HBW.out; omega)
  have HF := hid hf
  have HD3 := hid hD3
  have HB3 := hid (hF3.below (fun k hk => (HH.out.lt k hk).1) HBW.out)
  clear hg hf hD3 hF3 HOP
  go_wp2_with fail
  refine (KR.out w3).mono ?_
  rintro _ wx ⟨rfl, hw⟩
  obtain rfl := hw.symm
  have HNW := hid (oNew_any w3 base F p { D with reads := D.reads + 2, epoch := D.epoch + 1 } HD3.out g s s.ma (D.epoch + 1) HF.out HBg.out (by
    unfold liveF; rw [if_neg (by simp), if_pos HS.out.pw]) rm (by omega) (2 + L.length) HS.out.ma)
  clear KR
  go_wp2_with fail
  refine HNW.out.mono ?_
  rintro _ w4 ⟨st, pc, FC, rfl, hK4, _, _, hF4⟩
  have HB4 := hid (HB3.out.trans (hF4.below (fun k hk => by
    rcases List.mem_cons.1 hk with e | e
    · rw [e]; exact HBg.out
    · exact (HD3.out.lt k e).1) (Nat.le_trans HBW.out HB3.out.size)))
  have HK4 := hid hK4
  clear hK4 hF4 HNW
  go_wp2
  go_ret
  obtain ⟨h1, h2, h3, h4, h5, h6⟩ := HB.out
  refine ⟨_, rfl, ⟨HK4.out, HS.out.reads HK4.out.da.ok rfl rfl HS.out.pw, rfl, ?_, h6, Nat.zero_le _, ?_, ?_, ?_, ?_, ?_⟩, ⟨rfl, rfl, rfl, by show (min (max rm 0) 4096).toNat = rm.toNat; rw [Int.max_eq_left (by omega), Int.min_eq_left (by omega)]⟩, HB4.out⟩
  · show liveF { D with reads := D.reads + 2, epoch := D.epoch + 1 } (D.epoch + 1) = 0
    unfold liveF; rw [if_neg (by simp), if_pos HS.out.pw]
  · show D.reads + 2 ≤ _; omega
  · show D.writes ≤ _; omega
  · show D.syncs ≤ _; omega
  · show s.ge ≤ _; omega
  · show D.epoch + 1 ≤ _; omega
theorem one_stage (w : World) (base : Nat) (S : Sto) (n : Nat) (o : Sup) (L : List (Int × List Int)) (b rm : Nat) (h : Sb w base S n o L b rm) (hb : b ≤ 1000000000) (W : Wr) (c : Nat) (hW : WO w base W c) (hr : RmO W S) (hc : c ≤ 1000000000) (zr : List Int) (h8 : Byts zr) (hl : zr.length ≤ 140737488352000) (at_ nn m_ : Int) (sp : Option Addr) (cap bt : Nat) (hS : Src w sp cap zr) (hlow : 0 < zr.length → ∀ a, sp = some a → a.block < base) :
    Calls Try.prog 11 #[.pointer (some ⟨W.g, 0, none⟩), .pointer (some ⟨S.st, 0, none⟩), .agg (opC 3 at_ nn m_ (.slice sp zr.length cap) bt)] w (OneP w base S n rm b 3 W c) := by
  have hq : (((W.turn : Int) + 1) % 2 == 0) = true ∨ (((W.turn : Int) + 1) % 2 == 0) = false := by
    cases (((W.turn : Int) + 1) % 2 == 0)
    · exact Or.inr rfl
    · exact Or.inl rfl
  rcases hW.rz with z | z <;> rcases hq with q | q
  · exact one_stage_ne w base S n o L b rm h hb W c hW hr hc zr h8 hl z q at_ nn m_ sp _ cap bt rfl hS hlow
  · exact one_stage_no w base S n o L b rm h hb W c hW hr hc zr h8 hl z q at_ nn m_ sp _ cap bt rfl hS hlow
  · exact one_stage_fe w base S n o L b rm h hb W c hW hr hc zr h8 hl z q at_ nn m_ sp _ cap bt rfl hS hlow
  · exact one_stage_fo w base S n o L b rm h hb W c hW hr hc zr h8 hl z q at_ nn m_ sp _ cap bt rfl hS hlow
/-- A step of the law, any kind. -/
theorem one_any (w : World) (base : Nat) (S : Sto) (n : Nat) (o : Sup) (L : List (Int × List Int)) (b rm : Nat) (h : Sb w base S n o L b rm) (hb : b ≤ 1000000000) (W : Wr) (c : Nat) (hW : WO w base W c) (hr : RmO W S) (hc : c ≤ 1000000000) (zr : List Int) (h8 : Byts zr) (hl : zr.length ≤ 140737488352000) (kd : Int) (hk : 2 ≤ kd ∧ kd ≤ 11) (at_ nn m_ : Int) (sp : Option Addr) (cap bt : Nat) (hS : Src w sp cap zr) (hlow : 0 < zr.length → ∀ a, sp = some a → a.block < base) :
    Calls Try.prog 11 #[.pointer (some ⟨W.g, 0, none⟩), .pointer (some ⟨S.st, 0, none⟩), .agg (opC kd at_ nn m_ (.slice sp zr.length cap) bt)] w (OneP w base S n rm b kd W c) := by
  have hk2 : kd = 2 ∨ kd = 3 ∨ kd = 4 ∨ kd = 5 ∨ kd = 6 ∨ kd = 7 ∨ kd = 8 ∨ kd = 9 ∨ kd = 10 ∨ kd = 11 := by omega
  rcases hk2 with rfl | rfl | rfl | rfl | rfl | rfl | rfl | rfl | rfl | rfl
  · exact one_load w base S n o L b rm h hb W c hW hr hc at_ nn m_ sp _ cap bt
  · exact one_stage w base S n o L b rm h hb W c hW hr hc zr h8 hl at_ nn m_ sp cap bt hS hlow
  · exact one_rewind w base S n o L b rm h hb W c hW hr at_ nn m_ sp _ cap bt
  · exact one_flush w base S n o L b rm h hb W c hW hr at_ nn m_ sp _ cap bt
  · exact one_live w base S n o L b rm h hb W c hW hr at_ nn m_ sp _ cap bt
  · exact one_super w base S n o L b rm h hb W c hW hr at_ nn m_ sp _ cap bt
  · exact one_next w base S n o L b rm h hb W c hW hr at_ nn m_ sp _ cap bt
  · exact one_staged w base S n o L b rm h hb W c hW hr at_ nn m_ sp _ cap bt
  · exact one_pages w base S n o L b rm h hb W c hW hr at_ nn m_ sp _ cap bt
  · exact one_tally w base S n o L b rm h hb W c hW hr at_ nn m_ sp _ cap bt
end Go.Proofs.Ytihkjfbhmlfonaa
