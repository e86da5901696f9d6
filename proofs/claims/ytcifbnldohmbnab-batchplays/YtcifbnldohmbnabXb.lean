import Derived.Test.YtcifbnldohmbnabXa
import Derived.Test.YtcifbnldohmbnabVh
namespace Go.Proofs.Ytcifbnldohmbnab
set_option linter.unusedVariables false
set_option linter.unusedSimpArgs false
open Go.RowKit
attribute [local go_sem ↓] Go.wp_at_zero Go.wp_at_succ

/-- What asked has to tell, whatever it is asked of two lists and their copies. -/
def AskedOk (kind : Int) : Prop := ∀ (w : World) (A B : List Chg) (s1 s2 s3 s4 : Option Addr) (c1 c2 c3 c4 b1 b2 b3 b4 o1 o2 o3 o4 : Nat) (m1 m2 m3 m4 : List MC), Chs w s1 c1 A b1 o1 m1 → Chs w s2 c2 B b2 o2 m2 → Chs w s3 c3 A b3 o3 m3 → Chs w s4 c4 B b4 o4 m4 → (∀ c ∈ A, OkC c) → (∀ c ∈ B, OkC c) →
  Calls Try.prog 23 #[.int .i64 kind, .slice s1 A.length c1, .slice s2 B.length c2, .slice s3 A.length c3, .slice s4 B.length c4] w fun e w' => e = .returned (.bool true) ∧ Below w.heap.size w w'
set_option maxRecDepth 100000 in
set_option maxHeartbeats 1000000 in
theorem asked_build : AskedOk 4 := by
  intro w A B s1 s2 s3 s4 c1 c2 c3 c4 b1 b2 b3 b4 o1 o2 o3 o4 m1 m2 m3 m4 h1 h2 h3 h4 okA okB
  have K1 := hid (Build_any w A s1 c1 b1 o1 m1 h1)
  go_enter Try.func23, Try.ntmps23
  go_wp2_with fail
  refine K1.out.mono ?_
  rintro e w1 ⟨v1, rfl, hO1, hb1⟩
  clear K1
  obtain ⟨sp1, cap1, rfl, hS1, _⟩ := id hO1.form
  have K2 := hid (rBuild_any w1 A s3 c3 b3 o3 m3 (h3.below hb1) okA)
  go_wp2_with fail
  refine K2.out.mono ?_
  rintro e w2 ⟨v2, rfl, hO2, hb2⟩
  clear K2
  obtain ⟨sp2, cap2, rfl, hS2, _⟩ := id hO2.form
  have K3 := sameBytes_any w2 (buildV A) (buildV A) sp1 sp2 cap1 cap2 (hS1.below hb2 (Nat.le_refl _)) hS2
  rw [decide_eq_true rfl] at K3
  have K3 := hid K3
  generalize wrongC A 64 = ee at *
  generalize (buildV A).length = ll at *
  clear hO1 hO2 hS1 hS2
  go_wp2_with fail
  refine K3.out.mono ?_
  rintro e w3 ⟨rfl, hb3⟩
  clear K3
  have hbw := hb1.trans (hb2.mono hb1.size)
  go_wp2
  go_ret
  exact ⟨rfl, hbw.trans (hb3.mono hbw.size)⟩
set_option maxRecDepth 100000 in
set_option maxHeartbeats 1000000 in
theorem asked_normal : AskedOk 6 := by
  intro w A B s1 s2 s3 s4 c1 c2 c3 c4 b1 b2 b3 b4 o1 o2 o3 o4 m1 m2 m3 m4 h1 h2 h3 h4 okA okB
  have K1 := hid (Normal_any w A s1 c1 b1 o1 m1 h1 okA)
  go_enter Try.func23, Try.ntmps23
  go_wp2_with fail
  refine K1.out.mono ?_
  rintro e w1 ⟨v1, rfl, hM1, _, hb1⟩
  clear K1
  obtain ⟨sp1, cap1, x1, q1, rfl, hS1, _⟩ := hM1.chs
  have K2 := hid (rNormal_any w1 A s3 c3 b3 o3 m3 (h3.below hb1) okA)
  clear hM1
  go_wp2_with fail
  refine K2.out.mono ?_
  rintro e w2 ⟨v2, rfl, hM2, hb2⟩
  clear K2
  obtain ⟨sp2, cap2, x2, q2, rfl, hS2, _⟩ := hM2.chs
  have K3 := hid (same_to (hS1.below hb2) hS2)
  clear hM2 hS1 hS2
  generalize NorE A = ee at *
  generalize NorL A = ll at *
  go_wp2_with fail
  refine K3.out.mono ?_
  rintro e w3 ⟨rfl, hb3⟩
  clear K3
  have hbw := hb1.trans (hb2.mono hb1.size)
  go_wp2
  go_ret
  exact ⟨rfl, hbw.trans (hb3.mono hbw.size)⟩
set_option maxRecDepth 100000 in
set_option maxHeartbeats 1000000 in
theorem asked_fold : AskedOk 7 := by
  intro w A B s1 s2 s3 s4 c1 c2 c3 c4 b1 b2 b3 b4 o1 o2 o3 o4 m1 m2 m3 m4 h1 h2 h3 h4 okA okB
  have K1 := hid (Fold_any w A B s1 s2 c1 c2 b1 o1 b2 o2 m1 m2 h1 h2 okA okB)
  go_enter Try.func23, Try.ntmps23
  go_wp2_with fail
  refine K1.out.mono ?_
  rintro e w1 ⟨v1, rfl, hM1, hb1⟩
  clear K1
  obtain ⟨sp1, cap1, x1, q1, rfl, hS1, _⟩ := hM1.chs
  have K2 := hid (rFold_any w1 A B s3 s4 c3 c4 b3 o3 b4 o4 m3 m4 (h3.below hb1) (h4.below hb1) okA okB)
  clear hM1
  go_wp2_with fail
  refine K2.out.mono ?_
  rintro e w2 ⟨v2, rfl, hM2, hb2⟩
  clear K2
  obtain ⟨sp2, cap2, x2, q2, rfl, hS2, _⟩ := hM2.chs
  have K3 := hid (same_to (hS1.below hb2) hS2)
  clear hM2 hS1 hS2
  generalize FolE A B = ee at *
  generalize FolL A B = ll at *
  go_wp2_with fail
  refine K3.out.mono ?_
  rintro e w3 ⟨rfl, hb3⟩
  clear K3
  have hbw := hb1.trans (hb2.mono hb1.size)
  go_wp2
  go_ret
  exact ⟨rfl, hbw.trans (hb3.mono hbw.size)⟩
end Go.Proofs.Ytcifbnldohmbnab
