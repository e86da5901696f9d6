import Derived.Test.YtaoongjdneaccaaDoorNk
namespace Go.Proofs.YtaoongjdneaccaaDoor
set_option linter.unusedVariables false
set_option linter.unusedSimpArgs false
open Go.RowKit
attribute [local go_sem ↓] Go.wp_at_zero Go.wp_at_succ

theorem page_known : (pageP 1 2 [97, 98, 99]).getD 0 0 = 1 ∧ (pageP 1 2 [97, 98, 99]).getD 1 0 = 3 ∧ (pageP 1 2 [97, 98, 99]).getD 2 0 = 2 ∧ (pageP 1 2 [97, 98, 99]).getD 6 0 = 97 ∧ (pageP 1 2 [97, 98, 99]).getD 8 0 = 99 ∧ (pageP 1 2 [97, 98, 99]).getD 252 0 = 149 ∧ (pageP 1 2 [97, 98, 99]).getD 253 0 = 73 ∧ (pageP 1 2 [97, 98, 99]).getD 254 0 = 117 ∧ (pageP 1 2 [97, 98, 99]).getD 255 0 = 75 := by decide +kernel
theorem super_known : (superF ⟨27, 0, 2, 0, 16⟩).2 = 0 ∧ (superF ⟨27, 0, 2, 0, 16⟩).1.length = 256 ∧ (superF ⟨27, 0, 2, 0, 16⟩).1.getD 0 0 = 76 ∧ (superF ⟨27, 0, 2, 0, 16⟩).1.getD 3 0 = 49 ∧ (superF ⟨27, 0, 2, 0, 16⟩).1.getD 4 0 = 27 ∧ (superF ⟨27, 0, 2, 0, 16⟩).1.getD 16 0 = 2 ∧ (superF ⟨27, 0, 2, 0, 16⟩).1.getD 24 0 = 16 ∧ (superF ⟨27, 0, 2, 0, 16⟩).1.getD 60 0 = 152 ∧ (superF ⟨27, 0, 2, 0, 16⟩).1.getD 61 0 = 41 ∧ (superF ⟨27, 0, 2, 0, 16⟩).1.getD 62 0 = 106 ∧ (superF ⟨27, 0, 2, 0, 16⟩).1.getD 63 0 = 92 := by decide +kernel
set_option maxRecDepth 100000 in
set_option maxHeartbeats 1000000 in
theorem known_any (w : World) : Calls Tryd.prog 4 #[] w fun e w' => e = .returned (.bool true) ∧ Below w.heap.size w w' := by
  have r1 : (w.alloc (.cells #[.int .u8 97, .int .u8 98, .int .u8 99] 5 (3, 4))).heap[w.heap.size]? = some (.cells (ints .u8 [97, 98, 99]).toArray 5 (3, 4)) := hnew w _
  have b1 := below_new w (.cells #[.int .u8 97, .int .u8 98, .int .u8 99] 5 (3, 4))
  have hpk := pack_ok (w.alloc (.cells #[.int .u8 97, .int .u8 98, .int .u8 99] 5 (3, 4))) 1 2 [97, 98, 99] (by intro x hx; simp at hx; omega) rfl rfl (by decide) (some ⟨w.heap.size, 0, none⟩) 3 (src_rowf r1 3 (by decide) (by decide))
  obtain ⟨k0, k1, k2, k3, k4, k5, k6, k7, k8⟩ := page_known
  have hpl := pageP_len 1 2 [97, 98, 99] (by decide)
  generalize pageP 1 2 [97, 98, 99] = P at *
  rw [show ([97, 98, 99] : List Int).length = 3 from rfl] at hpk
  have kc := fun (w : World) (C : Array Value) (n c : Nat) => Lib.run_convert_bytes_const (P := Tryd.prog) w 29 5 C n c Tryd.underlying29 Tryd.underlying5
  clear r1
  go_enter Tryd.func4, Tryd.ntmps4
  go_wp2_with fail
  refine hpk.mono ?_
  rintro e w2 ⟨g, rfl, hg, hr, hB⟩
  have B2 := b1.trans (hB.mono b1.size)
  have c0 := cell_ints hr 0 (by omega)
  have c1 := cell_ints hr 1 (by omega)
  have c2 := cell_ints hr 2 (by omega)
  have c3 := cell_ints hr 6 (by omega)
  have c4 := cell_ints hr 8 (by omega)
  have c5 := cell_ints hr 252 (by omega)
  have c6 := cell_ints hr 253 (by omega)
  have c7 := cell_ints hr 254 (by omega)
  have c8 := cell_ints hr 255 (by omega)
  rw [k0] at c0
  rw [k1] at c1
  rw [k2] at c2
  rw [k3] at c3
  rw [k4] at c4
  rw [k5] at c5
  rw [k6] at c6
  rw [k7] at c7
  rw [k8] at c8
  clear k0 k1 k2 k3 k4 k5 k6 k7 k8 hr hB b1 hpk hpl hg
  go_wp2
  go_ret
  exact ⟨rfl, B2⟩
set_option maxRecDepth 100000 in
set_option maxHeartbeats 1000000 in
theorem knownSuper_any (w : World) : Calls Tryd.prog 5 #[] w fun e w' => e = .returned (.bool true) ∧ Below w.heap.size w w' := by
  have hpk := packSuper_any w ⟨27, 0, 2, 0, 16⟩
  unfold supC at hpk
  simp only at hpk
  obtain ⟨kz, hpl, k0, k1, k2, k3, k4, k5, k6, k7, k8⟩ := super_known
  generalize superF ⟨27, 0, 2, 0, 16⟩ = P at *
  rw [kz] at hpk
  go_enter Tryd.func5, Tryd.ntmps5
  go_wp2_with fail
  refine hpk.mono ?_
  rintro e w2 ⟨v, rfl, hN, B2⟩
  rcases hN with ⟨_, h0⟩ | ⟨_, g, rfl, hg, hr⟩
  · rw [h0] at hpl; simp at hpl
  have c0 := cell_ints hr 0 (by omega)
  have c1 := cell_ints hr 3 (by omega)
  have c2 := cell_ints hr 4 (by omega)
  have c3 := cell_ints hr 16 (by omega)
  have c4 := cell_ints hr 24 (by omega)
  have c5 := cell_ints hr 60 (by omega)
  have c6 := cell_ints hr 61 (by omega)
  have c7 := cell_ints hr 62 (by omega)
  have c8 := cell_ints hr 63 (by omega)
  rw [k0] at c0
  rw [k1] at c1
  rw [k2] at c2
  rw [k3] at c3
  rw [k4] at c4
  rw [k5] at c5
  rw [k6] at c6
  rw [k7] at c7
  rw [k8] at c8
  rw [hpl]
  clear k0 k1 k2 k3 k4 k5 k6 k7 k8 hr hpk hpl hg kz
  go_wp2
  go_ret
  exact ⟨rfl, B2⟩
end Go.Proofs.YtaoongjdneaccaaDoor
