import Derived.Test.YtcibcakgheegbaaE4t
namespace Go.Proofs.Ytcibcakgheegbaa
set_option linter.unusedVariables false
set_option linter.unusedSimpArgs false
open Go.RowKit
attribute [local go_sem ↓] Go.wp_at_zero Go.wp_at_succ

set_option maxRecDepth 100000 in
set_option maxHeartbeats 1000000 in
theorem bits_any (w : World) (a b : List Int) (ha : Bts a) (hb : Bts b) (sp tp : Option Addr) (cap dap : Nat) (hS : Src w sp cap a) (hT : Src w tp dap b) (L : Nat) (hla : a.length = L) (hlb : b.length = L) (hL : L ≤ 1048576) :
    Calls Try.prog 27 #[.slice sp L cap, .slice tp L dap] w fun e w' => e = .returned (.int .i64 (dif a b L)) ∧ Below w.heap.size w w' := by
  obtain ⟨hc, hm, b1, o1, hb1, hsp, hsrc⟩ := hS
  obtain ⟨hc2, hm2, b2, o2, hb2, hsp2, hsrc2⟩ := hT
  rw [hla] at hb1 hsp hsrc
  rw [hlb] at hb2 hsp2 hsrc2
  have i0 : (L : Int) ≤ 1048576 := by omega
  clear hla hlb hc hm hc2 hm2
  go_enter Try.func27, Try.ntmps27
  go_wp2
  go_loopw [5, 6] (fun nv iv wr => ∃ i : Nat, i ≤ L ∧ iv = .int .i64 i ∧ nv = .int .i64 (dif a b i) ∧ Below w.heap.size w wr) (fun _ iv _ => L - (intOf iv).toNat)
  case atStart => exact ⟨0, by omega, rfl, rfl, Below.refl _ _⟩
  case round =>
    obtain ⟨i, hi, rfl, rfl, hB⟩ := hrel
    by_cases hlt : i < L
    · have i1 : (i : Int) < (L : Int) := by omega
      obtain rfl := hsp (by omega)
      obtain rfl := hsp2 (by omega)
      obtain ⟨x, hx, x8⟩ := byte_nat ha i
      obtain ⟨y, hy, y8⟩ := byte_nat hb i
      have c0 := (hB.cell (p := ⟨b1, o1 + i, none⟩) (hb1 (by omega))).trans (hsrc i hlt)
      have c1 := (hB.cell (p := ⟨b2, o2 + i, none⟩) (hb2 (by omega))).trans (hsrc2 i hlt)
      rw [hx] at c0
      rw [hy] at c1
      obtain ⟨z, hz⟩ : ∃ z, z = x ^^^ y := ⟨_, rfl⟩
      have hxy : bits .xor .u8 (x : Int) (y : Int) = (z : Int) := by rw [xor_u8 x y x8 y8, hz]
      have z8 : z < 256 := by rw [hz]; exact Nat.xor_lt_two_pow (n := 8) (by omega) (by omega)
      have hdl := dif_le a b (i + 1)
      have HD := hid (show dif a b i + pc z = dif a b (i + 1) by rw [dif_succ, xorAt, hx, hy, hz]; rfl)
      have HHB := hid hB
      clear hx hy hz hsrc hsrc2 hsp hsp2
      generalize dif a b i = c at *
      go_wp2
      go_quiet (fail)
      go_wp2
      clear c0 c1
      have hB2 := below_drewN HHB.out nq
      go_loopw [5, 7] (fun nv zv wr => ∃ (z' c' : Nat), z' < 256 ∧ zv = .int .u8 z' ∧ nv = .int .i64 c' ∧ c' + pc z' = dif a b (i + 1) ∧ Below w.heap.size w wr) (fun _ zv _ => (intOf zv).toNat)
      case atStart => exact ⟨z, c, z8, rfl, rfl, HD.out, hB2⟩
      case round =>
        clear hB2 HD
        obtain ⟨z', c', z8', rfl, rfl, hcd, hB3⟩ := hrel
        have HCD := hid hcd
        by_cases hz0 : 0 < z'
        · obtain ⟨e1, e2⟩ := pc_step z' z8' hz0
          have i2 : (0 : Int) < (z' : Int) := by omega
          have i3 : (z' : Int) < 256 := by omega
          have ic : (c' : Int) ≤ 10000000 := by omega
          obtain ⟨z2, hz2⟩ : ∃ z2, z2 = z' &&& (z' - 1) := ⟨_, rfl⟩
          have hsub : ((z' : Int) - 1) = ((z' - 1 : Nat) : Int) := by omega
          have hand : bits .and .u8 (z' : Int) ((z' : Int) - 1) = (z2 : Int) := by rw [hsub, and_u8 z' _ z8' (by omega), hz2]
          have HN := hid (show c' + 1 + pc z2 = dif a b (i + 1) by rw [hz2]; omega)
          have hzl : z2 < z' := by rw [hz2]; exact e2
          clear hcd e1 e2 hz2 hsub
          go_wp2
          go_roundw
          case rel => exact ⟨z2, c' + 1, by omega, rfl, by go_num, HN.out, hB3⟩
          case measure => simp [intOf]; omega
        · obtain rfl : z' = 0 := by omega
          have i2 : ¬ (0 : Int) < ((0 : Nat) : Int) := by decide
          rw [pc_zero] at hcd
          have HN := hid (show c' = dif a b (i + 1) by omega)
          clear hcd hz0
          go_wp2
          go_roundw
          case rel => exact ⟨i + 1, by omega, by go_num, by rw [HN.out], hB3⟩
          case measure => simp [intOf]; omega
    · obtain rfl : i = L := by omega
      clear hlt
      go_wp2
      go_ret
      exact ⟨rfl, hB⟩
end Go.Proofs.Ytcibcakgheegbaa
