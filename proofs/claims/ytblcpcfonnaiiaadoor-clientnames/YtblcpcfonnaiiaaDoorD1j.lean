import Derived.Test.YtblcpcfonnaiiaaDoorD1i
namespace Go.Proofs.YtblcpcfonnaiiaaDoor
set_option linter.unusedVariables false
set_option linter.unusedSimpArgs false
open Go.RowKit
attribute [local go_sem ↓] Go.wp_at_zero Go.wp_at_succ

theorem HsT_full {w : World} {g : Nat} {M r y : List Int} (hr : restOf M = r) (h : r.length + y.length = 64) (hs : Hs w g (mixF (stOf M) (padz (r ++ y) 64)) z64 ((M.length : Int) + (y.length : Int))) : HsT w g (M ++ y) := by
  subst hr
  obtain ⟨e1, e2⟩ := text_full M y h
  unfold HsT
  rw [e1, e2, List.length_append, Int.natCast_add]
  rwa [padz_full _ _ (by simpa using h)] at hs
theorem HsT_part {w : World} {g : Nat} {M r y : List Int} (hr : restOf M = r) (h : r.length + y.length < 64) (hs : Hs w g (stOf M) (padz (r ++ y) 64) ((M.length : Int) + (y.length : Int))) : HsT w g (M ++ y) := by
  subst hr
  obtain ⟨e1, e2⟩ := text_part M y h
  unfold HsT
  rwa [e1, e2, List.length_append, Int.natCast_add]

def lenOf : Value → Nat | .slice _ l _ => l | _ => 0

set_option maxRecDepth 100000 in
set_option maxHeartbeats 1000000 in
theorem write_any (w : World) (g : Nat) (m zs : List Int) (b o : Nat) (sp : Option Addr) (cap : Nat) (h : HsT w g m) (hG : Glob w) (hg4 : 4 ≤ g) (hlen : m.length + zs.length ≤ 4611686018427387904)
    (hsp : 0 < zs.length → sp = some ⟨b, o, none⟩) (hbg : b ≠ g) (hcap : zs.length ≤ cap) (hcap2 : cap ≤ maxLen) (hsrc : ∀ j, j < zs.length → w.cell? ⟨b, o + j, none⟩ = some (.int .u8 (zs.getD j 0))) :
    Calls Tryd.prog 20 #[.pointer (some ⟨g, 0, none⟩), .slice sp zs.length cap] w fun e w' => e = .returned (.tuple #[]) ∧ HsT w' g (m ++ zs) ∧ Keeps g w w' := by
  unfold maxLen at hcap2
  go_enter Tryd.func20, Tryd.ntmps20
  go_wp2
  go_loopw [1, 4] (fun v _ wr => ∃ (k L : Nat) (sp' : Option Addr) (cap' : Nat), k + L = zs.length ∧ v = .slice sp' L cap' ∧ L ≤ cap' ∧ cap' ≤ cap ∧ (0 < L → sp' = some ⟨b, o + k, none⟩) ∧ HsT wr g (m ++ zs.take k) ∧ Keeps g w wr) (fun v _ _ => lenOf v)
  case atStart => exact ⟨0, zs.length, sp, cap, by omega, rfl, hcap, Nat.le_refl _, hsp, by simpa using h, Keeps.refl _ _⟩
  case round =>
    obtain ⟨k, L, sp', cap', hkL, rfl, hLc, hcc, hsp', hT, hk⟩ := hrel
    by_cases hL : 0 < L
    · obtain rfl := hsp' hL
      clear hsp'
      have hM : (m ++ zs.take k).length = m.length + k := by simp; omega
      have htake : ∀ n, n ≤ L → m ++ zs.take (k + n) = (m ++ zs.take k) ++ (zs.drop k).take n := fun n hn => by
        rw [List.take_add, List.append_assoc]
      have hcell : ∀ j, j < L → wr.cell? ⟨b, o + k + j, none⟩ = some (.int .u8 (zs.getD (k + j) 0)) := fun j hj => by
        have h1 := hsrc (k + j) (by omega)
        rw [← Nat.add_assoc] at h1
        have hb : b < w.heap.size := block_lt_of_cell h1
        rw [← h1]; exact World.cell?_of_block (w := w) (hk.block b hb hbg)
      generalize hMM : m ++ zs.take k = M at *
      have hMl : M.length ≤ 4611686018427387904 := by omega
      have hrl := restOf_len M
      have hst := stOf_len M
      have hbd := stOf_bd M
      unfold HsT at hT
      generalize hn : min L (64 - (restOf M).length) = n at *
      have hn0 : 0 < n := by omega
      have hnL : n ≤ L := by omega
      have hn64 : (restOf M).length + n ≤ 64 := by omega
      have HN := hid hn
      clear hn
      have hy : ((zs.drop k).take n).length = n := by simp; omega
      have hyg : ∀ j, j < n → ((zs.drop k).take n).getD j 0 = zs.getD (k + j) 0 := fun j hj => by
        simp [List.getElem?_take, hj]
      generalize hyy : (zs.drop k).take n = y at *
      generalize hrr : restOf M = r at *
      have i0 : (0 : Int) < (L : Int) := by omega
      have KF := hid (filled_any wr.drew g _ _ _ hT (by omega) (by omega))
      have rlt : r.length < 64 := by omega
      rw [show ((M.length : Int) % 64) = ((r.length : Nat) : Int) by omega] at KF
      have hsrcY : ∀ j v, (ints .u8 y)[j]? = some v → wr.drew.cell? ((⟨b, o + k, none⟩ : Addr).add j) = some v := fun j v hv => by
        have hj : j < y.length := by have := (List.getElem?_eq_some_iff.1 hv).1; rwa [ints_len] at this
        rw [ints_get .u8 y j hj, hyg j (by omega)] at hv
        rw [Addr.add_mid, ← hv]; exact hcell j (by omega)
      have hfit : 8 + r.length + (ints .u8 y).length ≤ (hcells (stOf M) (padz r 64) M.length).length := by
        rw [hcells_len _ _ _ hst (padz_len _ _ (by omega)), ints_len]; omega
      have hspl := hc_splice (stOf M) r y M.length hst (by omega)
      have hyn : (ints .u8 y).length = Nat.min L (64 - r.length) := by rw [ints_len, hy]; exact HN.out.symm
      have HYN := hid hyn
      clear hyn
      have HM := hid hM
      have HMM := hid hMM
      have HRL := hid hrl
      have HY := hid hy
      have HYY := hid hyy
      have HRR := hid hrr
      have HNN := HN.out
      have HTK := hid htake
      generalize hrl2 : r.length = rl at *
      have HR2 := hid hrl2
      have i1 : (rl : Int) ≤ 64 := by omega
      have i3 : ¬ 64 = rl := by omega
      have i2 : (0 : Int) ≤ (rl : Int) := by omega
      clear hM hMM hrl hy hyy hrr hrl2 hyg hcell htake hsrc HNN
      go_wp2
      go_region_held3 (fun w' => True) (trivial) (first | (go_at_call 37; refine KF.out.mono ?_; rintro e w' ⟨rfl, rfl⟩) | (refine step_copy_row ?_ (.tmp 13) (.tmp 14) 22 22 ?_ 5 Tryd.underlying22 Tryd.size5 ⟨b, o + k, none⟩ (64 - rl) (64 - rl) L cap' g (8 + rl) ?_ ?_ (hcells (stOf M) (padz r 64) M.length) 77 ?_ (ints .u8 y) HYN.out hsrcY hfit (ints_one _ _) ?_; rfl; rfl; rfl; rfl; exact hT.1))
      rw [hspl]
      have hT2 : Hs (wr.drew.setRow g (hcells (stOf M) (padz (r ++ y) 64) M.length).toArray) g (stOf M) (padz (r ++ y) 64) M.length := ⟨setRow_heap _ _ _ _ _ _ (show wr.drew.heap[g]? = _ from hT.1), hst, padz_len _ _ (by have := HY.out; have := HR2.out; simp; omega)⟩
      have hk2 : Keeps g w (wr.drew.setRow g (hcells (stOf M) (padz (r ++ y) 64) M.length).toArray) := hk.drew.setRow _
      clear hspl hsrcY hfit hT hk KF
      generalize wr.drew.setRow g (hcells (stOf M) (padz (r ++ y) 64) M.length).toArray = w2 at *
      have cT := hT2.taken
      have fT := hT2.fz 72
      have i4 : (n : Int) ≤ (L : Int) := by omega
      have i5 : (n : Int) ≤ (cap' : Int) := by omega
      rw [show (ints .u8 y).length = n by rw [ints_len]; exact HY.out]
      clear HYN
      obtain ⟨e3, hT3⟩ := hT2.setT ((M.length : Int) + (n : Int))
      have hk3 := hk2.setRow (hcells (stOf M) (padz (r ++ y) 64) ((M.length : Int) + (n : Int))).toArray
      have E3 := hid e3
      clear e3
      have hGr : Glob w := hG
      by_cases hfull : rl + n = 64
      · have hz : ((M.length : Int) + (n : Int)) % 64 = 0 := by have := HRL.out; omega
        have HZ := hid hz
        clear hz
        go_wp2_with fail
        all_goals
          rw [E3.out]
          generalize w2.setRow g (hcells (stOf M) (padz (r ++ y) 64) ((M.length : Int) + (n : Int))).toArray = w3 at *
          refine (filled_any w3 g _ _ _ hT3 (by omega) (by omega)).mono ?_
          rintro e w4 ⟨rfl, rfl⟩
          rw [HZ.out]
          go_wp2_with fail
          refine (mixBlock_any w4 g _ _ _ hT3 hbd (hk3.glob hG hg4)).mono ?_
          rintro e w5 ⟨rfl, hT5, hk5⟩
          go_wp2
          go_roundw
          case rel => exact ⟨k + n, L - n, _, _, by omega, rfl, by omega, by omega, (fun hp => by first | (exfalso; omega) | rw [Nat.add_assoc]), by rw [HTK.out n hnL, HYY.out]; exact HsT_full HRR.out (by have := HY.out; have := HR2.out; omega) (by rw [HY.out]; exact hT5), hk3.trans hk5⟩
          case measure => simp [lenOf]; omega
      · have hz : ((((M.length : Int) + (n : Int)) % 64) == 0) = false := by have := HRL.out; simp; omega
        go_wp2_with fail
        all_goals
          rw [E3.out]
          generalize w2.setRow g (hcells (stOf M) (padz (r ++ y) 64) ((M.length : Int) + (n : Int))).toArray = w3 at *
          refine (filled_any w3 g _ _ _ hT3 (by omega) (by omega)).mono ?_
          rintro e w4 ⟨rfl, rfl⟩
          go_wp2
          go_roundw
          case rel => exact ⟨k + n, L - n, _, _, by omega, rfl, by omega, by omega, (fun hp => by first | (exfalso; omega) | rw [Nat.add_assoc]), by rw [HTK.out n hnL, HYY.out]; exact HsT_part HRR.out (by have := HY.out; have := HR2.out; omega) (by rw [HY.out]; exact hT3), hk3⟩
          case measure => simp [lenOf]; omega
    · obtain rfl : L = 0 := by omega
      obtain rfl : k = zs.length := by omega
      rw [List.take_length] at hT
      go_wp2
      go_end0
      exact ⟨rfl, hT, hk⟩
end Go.Proofs.YtblcpcfonnaiiaaDoor
