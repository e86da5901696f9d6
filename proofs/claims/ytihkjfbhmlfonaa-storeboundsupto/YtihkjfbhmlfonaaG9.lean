import Derived.Test.YtihkjfbhmlfonaaG8
namespace Go.Proofs.Ytihkjfbhmlfonaa
set_option linter.unusedVariables false
set_option linter.unusedSimpArgs false
open Go.RowKit
attribute [local go_sem ↓] Go.wp_at_zero Go.wp_at_succ


theorem emod_tmod (x : Int) (n : Nat) (hn : 0 < n) : x % n = if x.tmod n < 0 then x.tmod n + n else x.tmod n := by
  have hd := Int.mul_tdiv_add_tmod x n
  have hb1 := Int.lt_tmod_of_pos x (show (0 : Int) < n by omega)
  have hb2 := Int.tmod_lt_of_pos x (show (0 : Int) < n by omega)
  have e : x % n = x.tmod n % n := by
    conv => lhs; rw [← hd]
    rw [Int.add_comm, Int.add_mul_emod_self_left]
  rw [e]
  split
  · rw [← Int.add_emod_right, Int.emod_eq_of_lt (by omega) (by omega)]
  · rw [Int.emod_eq_of_lt (by omega) hb2]
/-! From step to step. -/
theorem Nx.go {B : Nat} {F : List Nat} {p : Nat} {w w0 w' : World} {D D' : DS} (hD : DA w B F p D) (hB : Below B w0 w) (h0 : B ≤ w0.heap.size) (h : Nx B F p w D' w') : ∃ F', DA w' B F' p D' ∧ Below B w0 w' ∧ Fr F w w' := by
  obtain ⟨F', q1, q2, q3⟩ := h
  exact ⟨F', q1, hB.trans (q2.below (fun k hk => (hD.lt k hk).1) (Nat.le_trans h0 hB.size)), q2⟩
theorem Fr.go {B : Nat} {F : List Nat} {p : Nat} {w w0 w' : World} {D : DS} (hD : DA w B F p D) (hB : Below B w0 w) (h0 : B ≤ w0.heap.size) (h : Fr F w w') : Below B w0 w' := hB.trans (h.below (fun k hk => (hD.lt k hk).1) (Nat.le_trans h0 hB.size))
theorem zz_blank : Blank (zz 256) (zz 256) := ⟨zz 192, zz 192, zz_len _, zz_len _, by decide +kernel, Or.inl (by decide +kernel)⟩
/-- A disk at rest. -/
structure Rest (D : DS) (n : Nat) (ep : Int) : Prop where
  ok : DsOk D
  np : D.np = n
  ops : D.ops = []
  pw : D.power = true
  arm : D.armed = 0
  epoch : D.epoch = ep
  reads : D.reads ≤ 1000
  writes : D.writes ≤ 1000
  syncs : D.syncs ≤ 1000
theorem Rest.bud {D : DS} {n : Nat} {ep : Int} (h : Rest D n ep) : Bud D 4 := ⟨h.pw, by rw [h.ops]; decide, by have := h.writes; omega, by have := h.syncs; omega⟩
theorem crash_rest {D : DS} (hok : DsOk D) {n : Nat} {ep : Int} (hn : D.np = n) (he : D.epoch = ep) (he2 : ep < 1000) (hr : D.reads ≤ 1000) (hw : D.writes ≤ 1000) (hs : D.syncs ≤ 1000) (fs : List Int) : Rest (D.crashed fs) n (ep + 1) :=
  ⟨crashed_ok hok (by omega) fs, (crashed_np hok fs).trans hn, rfl, rfl, rfl, by show D.epoch + 1 = _; omega, hr, hw, hs⟩
theorem Good.chooses {D : DS} {s o : Sup} (ho : D.ops = []) (h : Good s o (pgO D.img 0) (pgO D.img 1)) : chooseF (D.readOf 0) (D.readOf 1) = (s, 0) := by
  rw [readOf_nil ho, readOf_nil ho]; exact h.choose.1
theorem Blank.chooses {D : DS} (ho : D.ops = []) (h : Blank (pgO D.img 0) (pgO D.img 1)) : chooseF (D.readOf 0) (D.readOf 1) = (sup0, 55) := by
  rw [readOf_nil ho, readOf_nil ho]; exact h.choose
theorem Fm.good {D D' : DS} {wd : Int} (h : Fm D' D wd) (hw : 1 ≤ wd ∧ wd ≤ 32) : Good (fS D.np wd 1) (fS D.np wd 0) (pgO D'.img 0) (pgO D'.img 1) := by
  have hn := h.ok.np
  rw [h.np] at hn
  rw [h.p0, h.p1]
  exact Good.first (fS_valid hn.1 hn.2.1 hw ⟨by omega, by omega⟩) (fS_valid hn.1 hn.2.1 hw ⟨by omega, by omega⟩) (fS_fol _ _) rfl List.length_replicate List.length_replicate (rep_byts _) (rep_byts _)
/-- Format on a disk at rest that is blank. -/
theorem Format_rest (w : World) (base : Nat) (F : List Nat) (p : Nat) (D : DS) (h : DA w base F p D) (hbw : base ≤ w.heap.size) (n : Nat) (ep : Int) (hR : Rest D n ep) (wd : Int) (hwd : 1 ≤ wd ∧ wd ≤ 32) (hB : Blank (pgO D.img 0) (pgO D.img 1)) :
    Calls Try.prog 15 #[.pointer (some ⟨p, 0, none⟩), .int .i64 wd] w fun e w' => e = .returned (.int .i64 0) ∧ ∃ D', Fm D' { D with reads := D.reads + 2 } wd ∧ D'.np = n ∧ Nx base F p w D' w' := by
  have hr2 : DsOk { D with reads := D.reads + 2 } := ⟨hR.ok.n, hR.ok.bts, hR.ok.ops, by show 0 ≤ D.reads + 2 ∧ D.reads + 2 ≤ _; have := hR.ok.reads; have := hR.reads; omega, hR.ok.writes, hR.ok.syncs, hR.ok.epoch, hR.ok.armed⟩
  have hbud := hR.bud
  refine (Format_ok w base F p D h hbw hR.pw (by have := hR.reads; omega) hR.bud wd hwd (fS D.np wd 0) (fS D.np wd 1) rfl rfl (by rw [hB.chooses hR.ops])).mono ?_
  rintro e w' ⟨rfl, hN⟩
  obtain ⟨q1, q2⟩ := (fmt_all (D := { D with reads := D.reads + 2 }) hr2 hR.ops hR.pw ⟨hbud.pw, hbud.ops, hbud.writes, hbud.syncs⟩ wd hwd hB).1 (Or.inl hR.arm)
  exact ⟨by rw [show (runS { D with reads := D.reads + 2 } [St.lay (fS D.np wd 0) 0 0, St.sync, St.lay (fS D.np wd 1) 0 0, St.sync]).2 = 0 from q1], _, q2, q2.np.trans hR.np, hN⟩
end Go.Proofs.Ytihkjfbhmlfonaa
