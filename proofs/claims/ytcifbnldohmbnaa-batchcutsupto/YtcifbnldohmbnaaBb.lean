import Derived.Test.YtcifbnldohmbnaaCw
import Derived.Test.YtcifbnldohmbnaaCx
import Derived.Test.YtcifbnldohmbnaaCy
import Derived.Test.YtcifbnldohmbnaaCz3
namespace Go.Proofs.Ytcifbnldohmbnaa
set_option linter.unusedVariables false
set_option linter.unusedSimpArgs false
open Go.RowKit
attribute [local go_sem ↓] Go.wp_at_zero Go.wp_at_succ

theorem byts_num2 {n : Nat} (h : n < 65536) : Byts (num2 n) := by
  intro x hx
  simp only [num2, List.mem_cons, List.not_mem_nil, or_false] at hx
  rcases hx with rfl | rfl
  · exact ⟨by omega, by omega⟩
  · exact ⟨by omega, by omega⟩
theorem byts_lay {cs : List Chg} (hok : ∀ c ∈ cs, OkC c) (hw : wrongC cs 64 = 0) : Byts (layC cs) := by
  obtain ⟨h1, h2, _⟩ := wrong_zero.1 hw
  intro x hx
  unfold layC at hx
  rcases List.mem_append.1 hx with h | h
  · exact byts_num2 (by omega) x h
  · obtain ⟨l, hl, hxl⟩ := List.mem_flatten.1 h
    obtain ⟨c, hc, rfl⟩ := List.mem_map.1 hl
    obtain ⟨_, hk, hv, _⟩ := hok c hc
    have hvl := not_long h2 c hc
    unfold lay1 at hxl
    cases hd : c.del with
    | true =>
      simp only [hd, if_true, List.mem_cons] at hxl
      rcases hxl with rfl | hxl
      · exact ⟨by decide, by decide⟩
      · exact hk x hxl
    | false =>
      simp only [hd, Bool.false_eq_true, if_false, List.mem_cons, List.mem_append] at hxl
      rcases hxl with rfl | hxl | hxl | hxl
      · exact ⟨by decide, by decide⟩
      · exact hk x hxl
      · exact byts_num2 (by have := hvl hd; omega) x hxl
      · exact hv x hxl
set_option maxRecDepth 100000 in
set_option maxHeartbeats 2000000 in
theorem back_walk (w : World) (cs : List Chg) (sp : Option Addr) (cap b o : Nat) (ms : List MC) (hC : Chs w sp cap cs b o ms) (hok : ∀ c ∈ cs, OkC c) (hlen : cs.length ≤ 2199023255488)
    (zs : List Int) (rp : Option Addr) (rcap : Nat) (hS : Src w rp rcap zs) (hy : Byts zs) (hzl : zs.length ≤ 140737488351232) :
    Calls Try.prog 5 #[.slice sp cs.length cap, .slice rp zs.length rcap] w fun e w' => e = .returned (.bool true) ∧ Below w.heap.size w w' := by
  have hvl : ∀ c ∈ cs, c.val.length ≤ 140737488351232 := fun c hc => (hok c hc).2.2.2
  have hkl : ∀ c ∈ cs, c.key.length = 32 := fun c hc => (hok c hc).1
  have K1 := hid (copyChanges_any w cs sp cap b o ms hC hvl (by omega))
  go_enter Try.func5, Try.ntmps5
  go_wp2_with fail
  refine K1.out.mono ?_
  rintro e w1 ⟨v1, rfl, hM1, hB1⟩
  obtain ⟨s1, c1, b1, ms1, rfl, hC1, _⟩ := hM1.chs
  have K2 := hid (Build_any w1 cs s1 c1 b1 0 ms1 hC1)
  clear K1 hM1 hC1
  go_wp2_with fail
  refine K2.out.mono ?_
  rintro e w2 ⟨v2, rfl, hO2, hB2⟩
  have hB3 : Below w.heap.size w w2 := hB1.trans (hB2.mono hB1.size)
  have K3 := right_any w2 cs sp cap b o ms (hC.below hB3) 64
  clear K2 hB1 hB2
  obtain ⟨s2, c2, rfl, hS2, _⟩ := id hO2.form
  by_cases hw : wrongC cs 64 = 0
  · have hbv : buildV cs = layC cs := by rw [buildV, if_pos hw]
    rw [hbv] at hS2 ⊢
    rw [decide_eq_true hw] at K3
    rw [hw]
    have K3 := hid K3
    have hlp := lay_parse hkl hw
    have hyl := byts_lay hok hw
    have KP := hid (show ∀ w', Below w2.heap.size w2 w' → _ from fun w' hb' => Parse_any w' (layC cs) s2 c2 (hS2.below hb' (Nat.le_refl _)) hyl)
    rw [hlp] at KP
    clear hlp hyl hO2 hS2 hbv hw
    generalize (layC cs).length = ll at *
    go_wp2_with fail
    refine K3.out.mono ?_
    rintro e w3 ⟨rfl, hb3⟩
    have hB4 : Below w.heap.size w w3 := hB3.trans (hb3.mono hB3.size)
    have K4 := hid (KP.out w3 hb3)
    clear K3 KP hb3 hB3
    go_wp2_with fail
    refine K4.out.mono ?_
    rintro e w4 ⟨v4, rfl, hM4, hb4⟩
    have hB5 : Below w.heap.size w w4 := hB4.trans (hb4.mono hB4.size)
    have K5 := hid (bare_any w4 cs sp cap b o ms (hC.below hB5) hvl (by omega))
    clear K4 hb4 hB4
    obtain ⟨s4, c4, b4, ms4, rfl, hC4, _⟩ := hM4.chs
    go_wp2_with fail
    refine K5.out.mono ?_
    rintro e w5 ⟨v5, rfl, hM5, hb5⟩
    obtain ⟨s5, c5, b5, ms5, rfl, hC5, _⟩ := hM5.chs
    have hB6 : Below w.heap.size w w5 := hB5.trans (hb5.mono hB5.size)
    have K6 := sameChanges_any w5 (cs.map plainC) (cs.map plainC) s4 s5 c4 c5 b4 0 b5 0 ms4 ms5 (hC4.below hb5) hC5
    rw [eqL_self] at K6
    simp only [List.length_map] at K6 ⊢
    have K6 := hid K6
    clear K5 hb5 hB5 hM4 hC4 hM5 hC5
    go_wp2_with fail
    refine K6.out.mono ?_
    rintro e wk ⟨rfl, hb6⟩
    have hBk : Below w.heap.size w wk := hB6.trans (hb6.mono hB6.size)
    clear K6 hb6 hB6
    have KA := hid (copyBytes_any wk zs rp rcap (hS.below hBk (Nat.le_refl _)) (by omega))
    go_wp2_with fail
    refine KA.out.mono ?_
    rintro e wA ⟨vA, rfl, hOA, hBA⟩
    obtain ⟨sA, cA, rfl, hSA, _⟩ := id hOA.form
    have hBk2 : Below w.heap.size w wA := hBk.trans (hBA.mono hBk.size)
    have KP := hid (Parse_any wA zs sA cA hSA hy)
    clear KA hBk hBA
    go_wp2_with fail
    refine KP.out.mono ?_
    rintro e wB ⟨vT, rfl, hMT, hBB⟩
    have hBk3 : Below w.heap.size w wB := hBk2.trans (hBB.mono hBk2.size)
    clear KP hBk2 hBB hOA hSA
    obtain ⟨sT, cT, bT, msT, rfl, hCT, _⟩ := hMT.chs
    by_cases hpe : (parseC zs).e = 0
    · obtain ⟨k1, k2, k3, k4⟩ := parse_back (z := zs) hy hpe
      rw [hpe, k3]
      have KB := hid (Build_any wB (parseC zs).cs sT cT bT 0 msT hCT)
      rw [k1] at KB
      have HV := hid (show buildV (parseC zs).cs = zs by rw [buildV, if_pos k1]; exact k2)
      have HR := hid (show ∀ w', Below w.heap.size w w' → Chs w' sT cT (parseC zs).cs bT 0 msT → Calls Try.prog 13 #[.slice sT (parseC zs).cs.length cT, .int .i64 64] w' fun e w'' => e = .returned (.bool true) ∧ Below w'.heap.size w' w'' from fun w' _ hc => by
        have := right_any w' (parseC zs).cs sT cT bT 0 msT hc 64
        rw [decide_eq_true k1] at this
        exact this)
      clear k1 k2 k3 k4 hpe
      generalize (parseC zs).cs = tc at *
      go_wp2_with fail
      refine KB.out.mono ?_
      rintro e wC ⟨vC, rfl, hOC, hBC⟩
      rw [HV.out] at hOC
      obtain ⟨sC, cC, rfl, hSC, _⟩ := id hOC.form
      have hBk4 : Below w.heap.size w wC := hBk3.trans (hBC.mono hBk3.size)
      have KS := hid (sameBytes_any wC zs zs sC rp cC rcap hSC (hS.below hBk4 (Nat.le_refl _)))
      rw [decide_eq_true rfl] at KS
      have hCT2 := hCT.below hBC
      clear KB hOC hSC hBk3 hMT hBC hCT
      go_wp2_with fail
      refine KS.out.mono ?_
      rintro e wD ⟨rfl, hBD⟩
      have hBk5 : Below w.heap.size w wD := hBk4.trans (hBD.mono hBk4.size)
      have KR := hid (HR.out wD hBk5 (hCT2.below hBD))
      clear KS HR hBk4 hBD hCT2
      go_wp2_with fail
      refine KR.out.mono ?_
      rintro e wE ⟨rfl, hBE⟩
      go_wp2
      go_ret
      exact ⟨rfl, hBk5.trans (hBE.mono hBk5.size)⟩
    · have hnil := parse_err hpe
      rw [hnil]
      generalize (parseC zs).e = pe at *
      generalize (parseC zs).at' = pa at *
      clear hnil hCT hMT
      go_wp2
      go_ret
      exact ⟨rfl, hBk3⟩
  · have hbv : buildV cs = [] := by rw [buildV, if_neg hw]
    rw [hbv]
    rw [decide_eq_false hw] at K3
    have K3 := hid K3
    have hwn : ¬ wrongC cs 64 = 0 := hw
    clear hbv hO2 hS2 hw
    generalize wrongC cs 64 = wr at *
    go_wp2_with fail
    refine K3.out.mono ?_
    rintro e wk ⟨rfl, hb3⟩
    have hBk : Below w.heap.size w wk := hB3.trans (hb3.mono hB3.size)
    clear K3 hb3 hB3
    have KA := hid (copyBytes_any wk zs rp rcap (hS.below hBk (Nat.le_refl _)) (by omega))
    go_wp2_with fail
    refine KA.out.mono ?_
    rintro e wA ⟨vA, rfl, hOA, hBA⟩
    obtain ⟨sA, cA, rfl, hSA, _⟩ := id hOA.form
    have hBk2 : Below w.heap.size w wA := hBk.trans (hBA.mono hBk.size)
    have KP := hid (Parse_any wA zs sA cA hSA hy)
    clear KA hBk hBA
    go_wp2_with fail
    refine KP.out.mono ?_
    rintro e wB ⟨vT, rfl, hMT, hBB⟩
    have hBk3 : Below w.heap.size w wB := hBk2.trans (hBB.mono hBk2.size)
    clear KP hBk2 hBB hOA hSA
    obtain ⟨sT, cT, bT, msT, rfl, hCT, _⟩ := hMT.chs
    by_cases hpe : (parseC zs).e = 0
    · obtain ⟨k1, k2, k3, k4⟩ := parse_back (z := zs) hy hpe
      rw [hpe, k3]
      have KB := hid (Build_any wB (parseC zs).cs sT cT bT 0 msT hCT)
      rw [k1] at KB
      have HV := hid (show buildV (parseC zs).cs = zs by rw [buildV, if_pos k1]; exact k2)
      have HR := hid (show ∀ w', Below w.heap.size w w' → Chs w' sT cT (parseC zs).cs bT 0 msT → Calls Try.prog 13 #[.slice sT (parseC zs).cs.length cT, .int .i64 64] w' fun e w'' => e = .returned (.bool true) ∧ Below w'.heap.size w' w'' from fun w' _ hc => by
        have := right_any w' (parseC zs).cs sT cT bT 0 msT hc 64
        rw [decide_eq_true k1] at this
        exact this)
      clear k1 k2 k3 k4 hpe
      generalize (parseC zs).cs = tc at *
      go_wp2_with fail
      refine KB.out.mono ?_
      rintro e wC ⟨vC, rfl, hOC, hBC⟩
      rw [HV.out] at hOC
      obtain ⟨sC, cC, rfl, hSC, _⟩ := id hOC.form
      have hBk4 : Below w.heap.size w wC := hBk3.trans (hBC.mono hBk3.size)
      have KS := hid (sameBytes_any wC zs zs sC rp cC rcap hSC (hS.below hBk4 (Nat.le_refl _)))
      rw [decide_eq_true rfl] at KS
      have hCT2 := hCT.below hBC
      clear KB hOC hSC hBk3 hMT hBC hCT
      go_wp2_with fail
      refine KS.out.mono ?_
      rintro e wD ⟨rfl, hBD⟩
      have hBk5 : Below w.heap.size w wD := hBk4.trans (hBD.mono hBk4.size)
      have KR := hid (HR.out wD hBk5 (hCT2.below hBD))
      clear KS HR hBk4 hBD hCT2
      go_wp2_with fail
      refine KR.out.mono ?_
      rintro e wE ⟨rfl, hBE⟩
      go_wp2
      go_ret
      exact ⟨rfl, hBk5.trans (hBE.mono hBk5.size)⟩
    · have hnil := parse_err hpe
      rw [hnil]
      generalize (parseC zs).e = pe at *
      generalize (parseC zs).at' = pa at *
      clear hnil hCT hMT
      go_wp2
      go_ret
      exact ⟨rfl, hBk3⟩
end Go.Proofs.Ytcifbnldohmbnaa
