import Derived.Test.YtblcpcfonnaiiaaDoorD1f
namespace Go.Proofs.YtblcpcfonnaiiaaDoor
set_option linter.unusedVariables false
set_option linter.unusedSimpArgs false
open Go.RowKit
attribute [local go_sem ↓] Go.wp_at_zero Go.wp_at_succ

theorem hc_set_block (st bk : List Int) (tk : Int) (j : Nat) (x : Int) (h1 : st.length = 8) (h2 : bk.length = 64) (hj : j < 64) : (hcells st bk tk).set (8 + j) (.int .u8 x) = hcells st (bk.set j x) tk := by
  have e1 : (ints .u32 st).length = 8 := by rw [ints_len, h1]
  have e2 : (ints .u8 bk).length = 64 := by rw [ints_len, h2]
  unfold hcells
  rw [List.set_append_right _ _ (by omega), e1, show 8 + j - 8 = j by omega, List.set_append_left _ _ (by omega)]
  simp [ints, List.map_set]
theorem hc_set_taken (st bk : List Int) (tk tk' : Int) (h1 : st.length = 8) (h2 : bk.length = 64) : (hcells st bk tk).set 72 (.int .u64 tk') = hcells st bk tk' := by
  have e1 : (ints .u32 st).length = 8 := by rw [ints_len, h1]
  have e2 : (ints .u8 bk).length = 64 := by rw [ints_len, h2]
  unfold hcells
  rw [List.set_append_right _ _ (by omega), e1, List.set_append_right _ _ (by omega), e2]
  rfl
theorem Hs.setB {w : World} {g : Nat} {st bk : List Int} {tk : Int} (h : Hs w g st bk tk) (j : Nat) (x : Int) (hj : j < 64) : w.setCell ⟨g, 8 + j, none⟩ (.int .u8 x) = w.setRow g (hcells st (bk.set j x) tk).toArray ∧ Hs (w.setRow g (hcells st (bk.set j x) tk).toArray) g st (bk.set j x) tk := by
  refine ⟨?_, setRow_heap _ _ _ _ _ _ h.1, h.2.1, by simp [h.2.2]⟩
  rw [setCell_eq_setRow w g _ _ _ _ _ h.1, ← hc_set_block st bk tk j x h.2.1 h.2.2 hj]; simp
theorem Hs.setT {w : World} {g : Nat} {st bk : List Int} {tk : Int} (h : Hs w g st bk tk) (tk' : Int) : w.setCell ⟨g, 72, none⟩ (.int .u64 tk') = w.setRow g (hcells st bk tk').toArray ∧ Hs (w.setRow g (hcells st bk tk').toArray) g st bk tk' := by
  refine ⟨?_, setRow_heap _ _ _ _ _ _ h.1, h.2.1, h.2.2⟩
  rw [setCell_eq_setRow w g _ _ _ _ _ h.1, ← hc_set_taken st bk tk tk' h.2.1 h.2.2]; simp
theorem Hs.cellB {w : World} {g : Nat} {st bk : List Int} {tk : Int} (h : Hs w g st bk tk) (j : Nat) (hj : j < 64) : w.cell? ⟨g, 8 + j, none⟩ = some (.int .u8 (bk.getD j 0)) := h.block j _ (ints_get .u8 bk j (by rw [h.2.2]; exact hj))
theorem Hs.fz {w : World} {g : Nat} {st bk : List Int} {tk : Int} (h : Hs w g st bk tk) (j : Nat) : w.frozen? ⟨g, j, none⟩ = false := frozen_of_row _ _ _ _ _ h.1

/-- The i-th byte of the length, from below. -/
def lb (L : Int) (i : Nat) : Int := IntKind.u8.wrap (L / 2 ^ (8 * (i : Int)).toNat)
def lenTo (bk : List Int) (L : Int) : Nat → List Int
  | 0 => bk
  | n + 1 => (lenTo bk L n).set (63 - n) (lb L n)
theorem lenTo_len (bk : List Int) (L : Int) : ∀ n, (lenTo bk L n).length = bk.length
  | 0 => rfl
  | n + 1 => by rw [lenTo, List.length_set, lenTo_len bk L n]
def lenBits (tk : Int) : Int := IntKind.u64.wrap (tk * 8)
theorem lenBits_bd (tk : Int) : 0 ≤ lenBits tk ∧ lenBits tk ≤ 18446744073709551615 := bounds_u64 (wf_wrap .u64 _)

theorem glob_drew {w : World} (h : Glob w) : Glob w.drew := h

set_option maxRecDepth 100000 in
set_option maxHeartbeats 1000000 in
theorem pad_lo (w : World) (g : Nat) (st bk : List Int) (tk : Int) (h : Hs w g st bk tk) (hbd : Bd8 st) (hG : Glob w) (hg : 4 ≤ g) (h0 : 0 ≤ tk) (h1 : tk ≤ 18446744073709551615)
    (a : Nat) (HA : Hid (tk % 64 = a)) (ha : (a : Int) < 56) (L : Int) (HL : Hid (IntKind.u64.wrap (tk * 8) = L)) (hL0 : 0 ≤ L) (hL1 : L ≤ 18446744073709551615) (bk1 : List Int) (HB : Hid (bk.set a 128 = bk1)) :
    Calls Tryd.prog 39 #[.pointer (some ⟨g, 0, none⟩)] w fun e w' => e = .returned (.tuple #[]) ∧ Hs w' g (mixF st (lenTo bk1 L 8)) z64 tk ∧ Keeps g w w' := by
  have KF := hid (filled_any w g st bk tk h h0 h1)
  rw [HA.out] at KF
  have a1 : (a : Int) < 64 := by omega
  have a2 : a < 64 := by omega
  have cB := h.cellB a a2
  have fB := h.fz (8 + a)
  obtain ⟨e1, hs1⟩ := h.setB a 128 a2
  rw [HB.out] at e1 hs1
  have cT : (w.setCell ⟨g, 8 + a, none⟩ (.int .u8 128)).cell? ⟨g, 72, none⟩ = some (.int .u64 tk) := by rw [e1]; exact hs1.taken
  have E1 := hid e1
  clear e1
  have ha' : ((56 : Int) ≤ (a : Int)) = False := by simp; omega
  go_enter Tryd.func39, Tryd.ntmps39
  go_wp2_with fail
  refine KF.out.mono ?_
  rintro e w' ⟨rfl, rfl⟩
  go_wp2
  rw [E1.out, HL.out]
  have k1 : Keeps g w' (w'.setRow g (hcells st bk1 tk).toArray) := (Keeps.refl g w').setRow _
  generalize w'.setRow g (hcells st bk1 tk).toArray = w1 at *
  clear h cB fB cT E1 KF HA HL HB ha'
  go_loopw [4, 21] (fun _ i wr => ∃ n : Nat, n ≤ 8 ∧ i = .int .i64 n ∧ Hs wr g st (lenTo bk1 L n) tk ∧ Keeps g w' wr) (fun _ i _ => 8 - (intOf i).toNat)
  case atStart => exact ⟨0, by omega, rfl, hs1, k1⟩
  case round =>
    clear hs1 k1
    obtain ⟨n, hn, rfl, hs, hk⟩ := hrel
    by_cases hlt : n < 8
    · have i1 : (n : Int) < 8 := by omega
      have i2 : (n : Int) ≤ 63 := by omega
      have i3 : 63 - (n : Int) < 64 := by omega
      have r1 : IntKind.i64.wrap (63 - (n : Int)) = 63 - (n : Int) := wrap_i64_id _ (by omega) (by omega)
      have r2 : IntKind.i64.wrap (8 * (n : Int)) = 8 * (n : Int) := wrap_i64_id _ (by omega) (by omega)
      have cB := hs.cellB (63 - n) (by omega)
      have fB := hs.fz (8 + (63 - n))
      go_wp2
      go_region_held3 (fun w' => True) (trivial) (fail)
      obtain ⟨e2, h2⟩ := hs.setB (63 - n) (lb L n) (by omega)
      have k2 : Keeps g w' (wr.setRow g (hcells st ((lenTo bk1 L n).set (63 - n) (lb L n)) tk).toArray) := hk.setRow _
      rw [show IntKind.u8.wrap (L / 2 ^ (8 * (n : Int)).toNat) = lb L n from rfl, e2]
      rw [show (lenTo bk1 L n).set (63 - n) (lb L n) = lenTo bk1 L (n + 1) from rfl] at h2 k2 ⊢
      generalize wr.setRow g (hcells st (lenTo bk1 L (n + 1)) tk).toArray = w2 at *
      clear e2
      go_wp2
      go_roundw
      case rel => exact ⟨n + 1, by omega, by go_num, h2, k2.drew⟩
      case measure => simp [intOf]; omega
    · obtain rfl : n = 8 := by omega
      go_wp2_with fail
      refine (mixBlock_any wr g st (lenTo bk1 L 8) tk hs hbd (hk.glob hG hg)).mono ?_
      rintro e w3 ⟨rfl, h3, k3⟩
      go_wp2
      go_end0
      exact ⟨rfl, h3, hk.trans k3⟩

set_option maxRecDepth 100000 in
set_option maxHeartbeats 1000000 in
theorem pad_hi (w : World) (g : Nat) (st bk : List Int) (tk : Int) (h : Hs w g st bk tk) (hbd : Bd8 st) (hG : Glob w) (hg : 4 ≤ g) (h0 : 0 ≤ tk) (h1 : tk ≤ 18446744073709551615)
    (a : Nat) (HA : Hid (tk % 64 = a)) (ha : (56 : Int) ≤ (a : Int)) (a1 : (a : Int) < 64) (L : Int) (HL : Hid (IntKind.u64.wrap (tk * 8) = L)) (hL0 : 0 ≤ L) (hL1 : L ≤ 18446744073709551615) (bk1 : List Int) (HB : Hid (bk.set a 128 = bk1)) :
    Calls Tryd.prog 39 #[.pointer (some ⟨g, 0, none⟩)] w fun e w' => e = .returned (.tuple #[]) ∧ Hs w' g (mixF (mixF st bk1) (lenTo z64 L 8)) z64 tk ∧ Keeps g w w' := by
  have KF := hid (filled_any w g st bk tk h h0 h1)
  rw [HA.out] at KF
  have a2 : a < 64 := by omega
  have cB := h.cellB a a2
  have fB := h.fz (8 + a)
  obtain ⟨e1, hs1⟩ := h.setB a 128 a2
  rw [HB.out] at e1 hs1
  have cT : (w.setCell ⟨g, 8 + a, none⟩ (.int .u8 128)).cell? ⟨g, 72, none⟩ = some (.int .u64 tk) := by rw [e1]; exact hs1.taken
  have E1 := hid e1
  clear e1
  go_enter Tryd.func39, Tryd.ntmps39
  go_wp2_with fail
  refine KF.out.mono ?_
  rintro e w' ⟨rfl, rfl⟩
  go_wp2_with fail
  rw [E1.out]
  have k0 : Keeps g w' (w'.setRow g (hcells st bk1 tk).toArray) := (Keeps.refl g w').setRow _
  generalize w'.setRow g (hcells st bk1 tk).toArray = w0 at *
  refine (mixBlock_any w0 g st bk1 tk hs1 hbd (k0.glob hG hg)).mono ?_
  rintro e w1 ⟨rfl, hs2, k2⟩
  have k1 := k0.trans k2
  have hbd2 := mixF_bd st bk1
  have cT2 := hs2.taken
  clear cT hs1 k0 k2
  have hs1 := hs2
  clear hs2
  go_wp2
  rw [HL.out]
  clear h cB fB cT2 E1 KF HA HL
  go_loopw [4, 21] (fun _ i wr => ∃ n : Nat, n ≤ 8 ∧ i = .int .i64 n ∧ Hs wr g (mixF st bk1) (lenTo z64 L n) tk ∧ Keeps g w' wr) (fun _ i _ => 8 - (intOf i).toNat)
  case atStart => exact ⟨0, by omega, rfl, hs1, k1⟩
  case round =>
    clear hs1 k1
    obtain ⟨n, hn, rfl, hs, hk⟩ := hrel
    by_cases hlt : n < 8
    · have i1 : (n : Int) < 8 := by omega
      have i2 : (n : Int) ≤ 63 := by omega
      have i3 : 63 - (n : Int) < 64 := by omega
      have r1 : IntKind.i64.wrap (63 - (n : Int)) = 63 - (n : Int) := wrap_i64_id _ (by omega) (by omega)
      have r2 : IntKind.i64.wrap (8 * (n : Int)) = 8 * (n : Int) := wrap_i64_id _ (by omega) (by omega)
      have cB := hs.cellB (63 - n) (by omega)
      have fB := hs.fz (8 + (63 - n))
      go_wp2
      go_region_held3 (fun w' => True) (trivial) (fail)
      obtain ⟨e2, h2⟩ := hs.setB (63 - n) (lb L n) (by omega)
      have k2 : Keeps g w' (wr.setRow g (hcells (mixF st bk1) ((lenTo z64 L n).set (63 - n) (lb L n)) tk).toArray) := hk.setRow _
      rw [show IntKind.u8.wrap (L / 2 ^ (8 * (n : Int)).toNat) = lb L n from rfl, e2]
      rw [show (lenTo z64 L n).set (63 - n) (lb L n) = lenTo z64 L (n + 1) from rfl] at h2 k2 ⊢
      generalize wr.setRow g (hcells (mixF st bk1) (lenTo z64 L (n + 1)) tk).toArray = w2 at *
      clear e2
      go_wp2
      go_roundw
      case rel => exact ⟨n + 1, by omega, by go_num, h2, k2.drew⟩
      case measure => simp [intOf]; omega
    · obtain rfl : n = 8 := by omega
      go_wp2_with fail
      refine (mixBlock_any wr g (mixF st bk1) (lenTo z64 L 8) tk hs hbd2 (hk.glob hG hg)).mono ?_
      rintro e w3 ⟨rfl, h3, k3⟩
      go_wp2
      go_end0
      exact ⟨rfl, h3, hk.trans k3⟩

end Go.Proofs.YtblcpcfonnaiiaaDoor
