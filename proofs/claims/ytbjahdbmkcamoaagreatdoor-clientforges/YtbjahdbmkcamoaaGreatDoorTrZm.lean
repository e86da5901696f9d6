import Derived.Test.YtbjahdbmkcamoaaGreatDoorTrZ
namespace Go.Proofs.YtbjahdbmkcamoaaGreatDoor
set_option linter.unusedVariables false
set_option linter.unusedSimpArgs false
open Go.RowKit
attribute [local go_sem ↓] Go.wp_at_zero Go.wp_at_succ

set_option maxRecDepth 100000 in
set_option maxHeartbeats 4000000 in
theorem mapped_any (w : World) (cs : List Chg) (sp : Option Addr) (cap b o : Nat) (ms : List MC) (hC : Chs w sp cap cs b o ms) (hok : ∀ c ∈ cs, OkC c) :
    Calls Tryz.prog 5 #[.slice sp cs.length cap] w fun e w' => ∃ v, e = .returned v ∧ OwnE w' w.heap.size v (mapC cs) ∧ Below w.heap.size w w' := by
  have K1 := hid (rNormal_any w cs sp cap b o ms hC hok)
  have K2 := hid (fun w1 sp1 cap1 b1 o1 ms1 (h : Chs w1 sp1 cap1 (NorL cs) b1 o1 ms1) => apply0_any w1 (NorL cs) sp1 cap1 b1 o1 ms1 h (norL_ok hok) (plain_norL cs) (norL_lt cs) (norL_len cs))
  have H0 := hid (show NorE cs ≠ 0 → mapC cs = [] from fun h => by unfold mapC NorL; rw [if_neg (show ¬ wrongC cs 4096 = 0 from h)]; rfl)
  have H1 := hid (show mapC cs = entsC (NorL cs) from rfl)
  generalize mapC cs = M at *
  generalize NorE cs = x at *
  generalize NorL cs = L at *
  go_enter Tryz.func5, Tryz.ntmps5
  go_wp2_with fail
  refine K1.out.mono ?_
  rintro e w1 ⟨v, rfl, hM, hb1⟩
  clear K1
  obtain ⟨sp1, cap1, b1, ms1, rfl, hL, _⟩ := hM.chs
  by_cases hx : x = 0
  · subst hx
    have K3 := hid (K2.out w1 sp1 cap1 b1 0 ms1 hL)
    go_wp2_with (first | (refine K3.out.mono ?_; rintro e w2 ⟨v2, rfl, hO, hb2⟩; refine Hid.out ?_))
    refine hid ?_
    have HO := hid (show OwnE w2 w.heap.size v2 M by obtain ⟨ns, h1, h2⟩ := hO; rw [H1.out]; exact ⟨ns, h1.base hb1.size, h2⟩)
    have HB := hid (hb1.trans (hb2.mono hb1.size))
    clear hO
    go_wp2_with fail
    go_ret
    exact ⟨_, rfl, HO.out, HB.out⟩
  · have i2 : (x != 0) = true := by simpa using hx
    have HM := hid (H0.out hx)
    go_wp2_with fail
    go_ret
    exact ⟨_, rfl, by rw [HM.out]; exact OwnE.nil _ _, hb1⟩
end Go.Proofs.YtbjahdbmkcamoaaGreatDoor
