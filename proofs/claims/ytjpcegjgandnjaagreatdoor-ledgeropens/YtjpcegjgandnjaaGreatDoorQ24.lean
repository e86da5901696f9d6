import Derived.Test.YtjpcegjgandnjaaGreatDoorQ23
import Derived.Test.YtjpcegjgandnjaaGreatDoorQ21
namespace Go.Proofs.YtjpcegjgandnjaaGreatDoor
set_option linter.unusedVariables false
set_option linter.unusedSimpArgs false
open Go.RowKit
attribute [local go_sem ↓] Go.wp_at_zero Go.wp_at_succ

theorem HsT_full {w : World} {g : Nat} {M r y : List Int} (hr : restOf M = r) (h : r.length + y.length = 64) (hs : Hsh w g (mixF (stOf M) (padz (r ++ y) 64)) z64 ((M.length : Int) + (y.length : Int))) : HsT w g (M ++ y) := by
  subst hr
  obtain ⟨e1, e2⟩ := text_full M y h
  unfold HsT
  rw [e1, e2, List.length_append, Int.natCast_add]
  rwa [padz_full _ _ (by simpa using h)] at hs
theorem HsT_part {w : World} {g : Nat} {M r y : List Int} (hr : restOf M = r) (h : r.length + y.length < 64) (hs : Hsh w g (stOf M) (padz (r ++ y) 64) ((M.length : Int) + (y.length : Int))) : HsT w g (M ++ y) := by
  subst hr
  obtain ⟨e1, e2⟩ := text_part M y h
  unfold HsT
  rwa [e1, e2, List.length_append, Int.natCast_add]

def lenOf : Value → Nat | .slice _ l _ => l | _ => 0

set_option maxRecDepth 100000 in
set_option maxHeartbeats 1000000 in
theorem write_any (w : World) (g : Nat) (m zs : List Int) (b o : Nat) (sp : Option Addr) (cap : Nat) (h : HsT w g m) (hG : Glob w) (hg4 : 22 ≤ g) (hlen : m.length + zs.length ≤ 4611686018427387904)
    (hsp : 0 < zs.length → sp = some ⟨b, o, none⟩) (hbg : b ≠ g) (hcap : zs.length ≤ cap) (hcap2 : cap ≤ maxLen) (hsrc : ∀ j, j < zs.length → w.cell? ⟨b, o + j, none⟩ = some (.int .u8 (zs.getD j 0))) :
    Calls Tryz.prog 55 #[.pointer (some ⟨g, 0, none⟩), .slice sp zs.length cap] w fun e w' => e = .returned (.tuple #[]) ∧ HsT w' g (m ++ zs) ∧ Keeps g w w' := by
  unfold maxLen at hcap2
  go_enter Tryz.func55, Tryz.ntmps55
  go_wp2
  go_loopw [1, 4] (fun v _ wr => ∃ (k L : Nat) (sp' : Option Addr) (cap' : Nat), k + L = zs.length ∧ v = .slice sp' L cap' ∧ L ≤ cap' ∧ cap' ≤ cap ∧ (0 < L → sp' = some ⟨b, o + k, none⟩) ∧ HsT wr g (m ++ zs.take k) ∧ Keeps g w wr) (fun v _ _ => lenOf v)
  case atStart => exact ⟨0, zs.length, sp, cap, by omega, rfl, hcap, Nat.le_refl _, hsp, by simpa using h, Keeps.refl _ _⟩
  case round =>
    obtain ⟨k, L, sp', cap', hkL, rfl, hLc, hcc, hsp', hT, hk⟩ := hrel
    by_cases hL : 0 < L
    · obtain rfl := hsp' hL
      clear hsp'
      have hM : (m ++ zs.take k).length = m.length + k := by simp; omega
      have htake : ∀ n, n ≤ L → m ++ zs.take (k + n) = (m ++ zs.take k) ++ (zs.drop k).take n := fun n hn => by
        rw [List.take_add, List.append_assoc]
      have hcell : ∀ j, j < L → wr.cell? ⟨b, o + k + j, none⟩ = some (.int .u8 (zs.getD (k + j) 0)) := fun j hj => by
        have h1 := hsrc (k + j) (by omega)
        rw [← Nat.add_assoc] at h1
        have hb : b < w.heap.size := block_lt_of_cell h1
        rw [← h1]; exact World.cell?_of_block (w := w) (hk.block b hb hbg)
      generalize hMM : m ++ zs.take k = M at *
      have hMl : M.length ≤ 4611686018427387904 := by omega
      have hrl := restOf_len M
      have hst := stOf_len M
      have hbd := stOf_bd M
      unfold HsT at hT
      generalize hn : min L (64 - (restOf M).length) = n at *
      have hn0 : 0 < n := by omega
      have hnL : n ≤ L := by omega
      have hn64 : (restOf M).length + n ≤ 64 := by omega
      have HN := hid hn
      clear hn
      have hy : ((zs.drop k).take n).length = n := by simp; omega
      have hyg : ∀ j, j < n → ((zs.drop k).take n).getD j 0 = zs.getD (k + j) 0 := fun j hj => by
        simp [List.getElem?_take, hj]
      generalize hyy : (zs.drop k).take n = y at *
      generalize hrr : restOf M = r at *
      have i0 : (0 : Int) < (L : Int) := by omega
      have KF := hid (filled_any wr.drew g _ _ _ hT (by omega) (by omega))
      have rlt : r.length < 64 := by omega
      rw [show ((M.length : Int) % 64) = ((r.length : Nat) : Int) by omega] at KF
      have hsrcY : ∀ j v, (ints .u8 y)[j]? = some v → wr.drew.cell? ((⟨b, o + k, none⟩ : Addr).add j) = some v := fun j v hv => by
        have hj : j < y.length := by have := (List.getElem?_eq_some_iff.1 hv).1; rwa [ints_len] at this
        rw [ints_get .u8 y j hj, hyg j (by omega)] at hv
        rw [Addr.add_mid, ← hv]; exact hcell j (by omega)
      have hfit : 8 + r.length + (ints .u8 y).length ≤ (hcells (stOf M) (padz r 64) M.length).length := by
        rw [hcells_len _ _ _ hst (padz_len _ _ (by omega)), ints_len]; omega
      have hspl := hc_splice (stOf M) r y M.length hst (by omega)
      have hyn : (ints .u8 y).length = Nat.min L (64 - r.length) := by rw [ints_len, hy]; exact HN.out.symm
      have HYN := hid hyn
      clear hyn
      have HM := hid hM
      have HMM := hid hMM
      have HRL := hid hrl
      have HY := hid hy
      have HYY := hid hyy
      have HRR := hid hrr
      have HNN := HN.out
      have HTK := hid htake
      generalize hrl2 : r.length = rl at *
      have HR2 := hid hrl2
      have i1 : (rl : Int) ≤ 64 := by omega
      have i3 : ¬ 64 = rl := by omega
      have i2 : (0 : Int) ≤ (rl : Int) := by omega
      clear hM hMM hrl hy hyy hrr hrl2 hyg hcell htake hsrc HNN
      go_wp2
      go_region_held3 (fun w' => True) (trivial) (first | (go_at_call 85; refine KF.out.mono ?_; rintro e w' ⟨rfl, rfl⟩) | (refine step_copy_row ?_ (.tmp 13) (.tmp 14) 45 45 ?_ 5 Tryz.underlying45 Tryz.size5 ⟨b, o + k, none⟩ (64 - rl) (64 - rl) L cap' g (8 + rl) ?_ ?_ (hcells (stOf M) (padz r 64) M.length) 180 ?_ (ints .u8 y) HYN.out hsrcY hfit (ints_one _ _) ?_; rfl; rfl; rfl; rfl; exact hT.1))
      rw [hspl]
      have hT2 : Hsh (wr.drew.setRow g (hcells (stOf M) (padz (r ++ y) 64) M.length).toArray) g (stOf M) (padz (r ++ y) 64) M.length := ⟨setRow_heap _ _ _ _ _ _ (show wr.drew.heap[g]? = _ from hT.1), hst, padz_len _ _ (by have := HY.out; have := HR2.out; simp; omega)⟩
      have hk2 : Keeps g w (wr.drew.setRow g (hcells (stOf M) (padz (r ++ y) 64) M.length).toArray) := hk.drew.setRow _
      clear hspl hsrcY hfit hT hk KF
      generalize wr.drew.setRow g (hcells (stOf M) (padz (r ++ y) 64) M.length).toArray = w2 at *
      have cT := hT2.taken
      have fT := hT2.fz 72
      have i4 : (n : Int) ≤ (L : Int) := by omega
      have i5 : (n : Int) ≤ (cap' : Int) := by omega
      rw [show (ints .u8 y).length = n by rw [ints_len]; exact HY.out]
      clear HYN
      obtain ⟨e3, hT3⟩ := hT2.setT ((M.length : Int) + (n : Int))
      have hk3 := hk2.setRow (hcells (stOf M) (padz (r ++ y) 64) ((M.length : Int) + (n : Int))).toArray
      have E3 := hid e3
      clear e3
      have hGr : Glob w := hG
      by_cases hfull : rl + n = 64
      · have hz : ((M.length : Int) + (n : Int)) % 64 = 0 := by have := HRL.out; omega
        have HZ := hid hz
        clear hz
        go_wp2_with fail
        all_goals
          rw [E3.out]
          generalize w2.setRow g (hcells (stOf M) (padz (r ++ y) 64) ((M.length : Int) + (n : Int))).toArray = w3 at *
          refine (filled_any w3 g _ _ _ hT3 (by omega) (by omega)).mono ?_
          rintro e w4 ⟨rfl, rfl⟩
          rw [HZ.out]
          go_wp2_with fail
          refine (mixBlock_any w4 g _ _ _ hT3 hbd (hk3.glob hG hg4)).mono ?_
          rintro e w5 ⟨rfl, hT5, hk5⟩
          go_wp2
          go_roundw
          case rel => exact ⟨k + n, L - n, _, _, by omega, rfl, by omega, by omega, (fun hp => by first | (exfalso; omega) | rw [Nat.add_assoc]), by rw [HTK.out n hnL, HYY.out]; exact HsT_full HRR.out (by have := HY.out; have := HR2.out; omega) (by rw [HY.out]; exact hT5), hk3.trans hk5⟩
          case measure => simp [lenOf]; omega
      · have hz : ((((M.length : Int) + (n : Int)) % 64) == 0) = false := by have := HRL.out; simp; omega
        go_wp2_with fail
        all_goals
          rw [E3.out]
          generalize w2.setRow g (hcells (stOf M) (padz (r ++ y) 64) ((M.length : Int) + (n : Int))).toArray = w3 at *
          refine (filled_any w3 g _ _ _ hT3 (by omega) (by omega)).mono ?_
          rintro e w4 ⟨rfl, rfl⟩
          go_wp2
          go_roundw
          case rel => exact ⟨k + n, L - n, _, _, by omega, rfl, by omega, by omega, (fun hp => by first | (exfalso; omega) | rw [Nat.add_assoc]), by rw [HTK.out n hnL, HYY.out]; exact HsT_part HRR.out (by have := HY.out; have := HR2.out; omega) (by rw [HY.out]; exact hT3), hk3⟩
          case measure => simp [lenOf]; omega
    · obtain rfl : L = 0 := by omega
      obtain rfl : k = zs.length := by omega
      rw [List.take_length] at hT
      go_wp2
      go_end0
      exact ⟨rfl, hT, hk⟩
end Go.Proofs.YtjpcegjgandnjaaGreatDoor
namespace Go.Proofs.YtjpcegjgandnjaaGreatDoor
set_option linter.unusedVariables false
set_option linter.unusedSimpArgs false
open Go.RowKit
attribute [local go_sem ↓] Go.wp_at_zero Go.wp_at_succ

/-- Write, whatever the slice is, so long as it isn't the hasher's own memory. -/
theorem writeS_any (w : World) (g : Nat) (m zs : List Int) (sp : Option Addr) (cap : Nat) (h : HsT w g m) (hG : Glob w) (hg4 : 22 ≤ g) (hlen : m.length + zs.length ≤ 4611686018427387904)
    (hs : ∃ b o, b ≠ g ∧ (0 < zs.length → sp = some ⟨b, o, none⟩) ∧ ∀ j, j < zs.length → w.cell? ⟨b, o + j, none⟩ = some (.int .u8 (zs.getD j 0))) (hc : zs.length ≤ cap) (hm : cap ≤ maxLen) :
    Calls Tryz.prog 55 #[.pointer (some ⟨g, 0, none⟩), .slice sp zs.length cap] w fun e w' => e = .returned (.tuple #[]) ∧ HsT w' g (m ++ zs) ∧ Keeps g w w' := by
  obtain ⟨b, o, h1, h2, h3⟩ := hs
  exact write_any w g m zs b o sp cap h hG hg4 hlen h2 h1 hc hm h3

set_option maxRecDepth 100000 in
set_option maxHeartbeats 400000 in
theorem dsum_any (w : World) (zs : List Int) (sp : Option Addr) (cap : Nat) (hS : Src w sp cap zs) (hG : Glob w) (hlen : zs.length ≤ 4611686018427387904) :
    Calls Tryz.prog 32 #[.slice sp zs.length cap] w fun e w' => e = .returned (.agg (ints .u8 (sha zs)).toArray) ∧ Below w.heap.size w w' := by
  have hw0 := hG.1
  obtain ⟨hc, hm, b0, o0, hb0, hsp0, hsrc0⟩ := hS
  obtain ⟨b, o, hb, hsp, hsrc⟩ : ∃ b o, b < w.heap.size ∧ (0 < zs.length → sp = some ⟨b, o, none⟩) ∧ ∀ j, j < zs.length → w.cell? ⟨b, o + j, none⟩ = some (.int .u8 (zs.getD j 0)) := by
    by_cases hz : 0 < zs.length
    · exact ⟨b0, o0, hb0 hz, hsp0, hsrc0⟩
    · exact ⟨0, 0, by omega, fun h => absurd h hz, fun j hj => by omega⟩
  clear hsrc0 hsp0 hb0
  have hB1 : Below w.heap.size w (w.alloc (Obj.cells (ints .u8 z32).toArray 34)) := (Below.refl _ _).alloc (Nat.le_refl _) _
  have hG1 := hG.below hB1 hw0
  have d0 := hnew w (Obj.cells (ints .u8 z32).toArray 34)
  have hsz : (w.alloc (Obj.cells (ints .u8 z32).toArray 34)).heap.size = w.heap.size + 1 := by simp
  go_enter Tryz.func32, Tryz.ntmps32
  go_wp2_with fail
  show Calls Tryz.prog 54 _ (w.alloc (Obj.cells (ints .u8 z32).toArray 34)) _
  generalize w.alloc (Obj.cells (ints .u8 z32).toArray 34) = w1 at *
  refine (new_any w1 hG1).mono ?_
  rintro e w2 ⟨rfl, hw2⟩
  have hB2 : Below w.heap.size w w2 := by rw [hw2]; exact hB1.alloc (by omega) _
  have d2 : HsT w2 (w.heap.size + 1) [] := by have := hnew w1 (.cells (hcells fTab z64 0).toArray 180); rw [← hw2, hsz] at this; exact HsT.nil this
  have f2 : w2.heap[w.heap.size]? = some (Obj.cells (ints .u8 z32).toArray 34) := by rw [hw2]; exact hold d0
  have hG2 := hG.below hB2 hw0
  rw [hsz]
  clear hw2 hB1 hG1 d0 hsz
  go_wp2_with fail
  refine (writeS_any w2 (w.heap.size + 1) [] zs sp cap d2 hG2 (by omega) (by simpa using hlen) ⟨b, o, by omega, hsp, fun j hj => (hB2.cell (p := ⟨b, o + j, none⟩) hb).trans (hsrc j hj)⟩ hc hm).mono ?_
  rintro e w3 ⟨rfl, d3, k3⟩
  rw [List.nil_append] at d3
  have hB3 : Below w.heap.size w w3 := hB2.trans (k3.below_g (by omega) hB2.size)
  have f3 := k3.heap f2 (by omega)
  have hG3 := hG.below hB3 hw0
  clear d2 f2 hG2 hB2 k3
  go_wp2_with fail
  refine (hsumT_any w3 (w.heap.size + 1) zs d3 hG3 hlen).mono ?_
  rintro e w4 ⟨rfl, hb4⟩
  have f4 := hbel hb4 f3 (hlt f3)
  have hB4 : Below w.heap.size w w4 := hB3.trans (hb4.mono hB3.size)
  have hsl := sha_len zs
  have ho := all_oneCell_toArray (ints_one .u8 (sha zs))
  have hz32 : z32.length = 32 := rfl
  clear f3 hb4 d3 hG3 hB3
  go_wp2_with (first | refine wpList_store_row rfl 34 _ _ rfl _ _ rfl rfl 34 _ f4 (by rw [Tryz.size34, ints_size, hsl]) (by rw [ints_size, ints_size, hsl, hz32]) ho ?_)
  exact bodyPost_ret (v := .agg (ints .u8 (sha zs)).toArray) (results_cell_row Tryz.results32 _ _ w.heap.size 34 _ _ _ rfl (setRow_heap _ _ _ _ _ _ f4) Tryz.underlying34 rfl (by rw [Tryz.size34, ints_size, hsl])) rfl ⟨rfl, below_setRow hB4 (Nat.le_refl _) _⟩
end Go.Proofs.YtjpcegjgandnjaaGreatDoor
namespace Go.Proofs.YtjpcegjgandnjaaGreatDoor
open Go.RowKit
attribute [local go_sem ↓] Go.wp_at_zero Go.wp_at_succ

def zero32 : List Value := List.replicate 32 (.int .u8 0)
def cutV (cs : List Value) (n : Nat) : List Value := splice zero32 0 (cs.take n)


theorem zero32_len : zero32.length = 32 := by simp [zero32]
theorem cutV_len (cs : List Value) (n : Nat) (hl : cs.length = 32) : (cutV cs n).length = 32 := by
  unfold cutV; rw [length_splice _ _ _ (by rw [zero32_len]; simp; omega), zero32_len]
theorem cutV_one (cs : List Value) (n : Nat) (h1 : ∀ v ∈ cs, v.oneCell' = true) : ∀ v ∈ cutV cs n, v.oneCell' = true := by
  intro v hv
  simp only [cutV, splice, List.take_zero, List.nil_append, List.mem_append] at hv
  rcases hv with hv | hv
  · exact h1 v (List.mem_of_mem_take hv)
  · have := List.mem_of_mem_drop hv
    simp [zero32] at this; subst this; rfl

/-- How many bytes Cut keeps. -/
def kept (k : Int) : Nat := (min (max k 0) 32).toNat
theorem kept_le (k : Int) : kept k ≤ 32 := by unfold kept; omega

set_option maxRecDepth 100000 in
set_option maxHeartbeats 400000 in
theorem cut_mid (cs : List Value) (hl : cs.length = 32) (h1 : ∀ v ∈ cs, v.oneCell' = true) (n : Nat) (hn : n ≤ 32) (w : World) :
    Calls Tryz.prog 31 #[.agg cs.toArray, .int .i64 n] w fun e w' => e = .returned (.agg (cutV cs n).toArray) ∧ Below w.heap.size w w' := by
  have i0 : (0 : Int) ≤ n := by omega
  have i1 : (n : Int) ≤ 32 := by omega
  go_enter Tryz.func31, Tryz.ntmps31
  go_wp2
  go_region_held3 (fun w' => True) (trivial) ((refine step_copy_splice (by rfl) _ _ _ _ (by rfl) 5 Tryz.underlying45 Tryz.size5 _ _ _ _ _ _ (by rfl) (by rfl) (w.heap.size + 1 + 1) 0 zero32 34 (by exact heap3_new w _ _ _) (cs.take n) (by rw [List.length_take, hl]) (by exact fun _ => ⟨rfl, _, rfl, fun j v hv => by rw [Addr.add_mid, Nat.zero_add]; simp [cell_of_row _ _ _ _ _ _ (heap3_old w _ _ _), List.getElem?_take] at hv ⊢; exact hv.2⟩) (by rw [zero32_len]; simp; omega) (by exact fun v hv => h1 v (List.mem_of_mem_take hv)) (w.heap.size + 1 + 1) _ (by exact Below.refl _ _) (by omega) ?_; intro w1 hg1 hb1))
  have hc : w1.heap[w.heap.size + 1 + 1]? = some (Obj.cells (cutV cs n).toArray 34) := hg1
  have hr : w1.heap[w.heap.size + 1]? = some (Obj.cells zero32.toArray 34) := (hb1.block _ (by omega)).trans (heap3_mid w _ _ _)
  have hb : Below w.heap.size w w1 := (below3 w _ _ _).drew.trans (hb1.mono (by omega))
  have hs : w.heap.size + 1 + 1 < w1.heap.size := (Array.getElem?_eq_some_iff.1 hc).1
  clear hg1 hb1
  have hz : (cutV cs n).length = 32 := cutV_len cs n hl
  have ho := all_oneCell_toArray (cutV_one cs n h1)
  go_wp2_with (first | refine wpList_load_row rfl 34 _ rfl _ rfl 34 _ _ _ hc Tryz.underlying34 rfl (by rw [Tryz.size34]; simp [hz]) ?_ | refine wpList_store_row rfl 34 _ _ rfl _ _ rfl rfl 34 _ hr (by rw [Tryz.size34]; simp [hz]) (by simp [hz, zero32_len]) ho ?_)
  exact bodyPost_ret (v := .agg (cutV cs n).toArray) (results_cell_row Tryz.results31 _ _ (w.heap.size + 1) 34 _ _ _ rfl (setRow_heap _ _ _ _ _ _ hr) Tryz.underlying34 rfl (by rw [Tryz.size34]; simp [hz])) rfl ⟨rfl, below_setRow hb (by omega) _⟩

set_option maxRecDepth 100000 in
set_option maxHeartbeats 400000 in
theorem cut_low (cs : List Value) (hl : cs.length = 32) (h1 : ∀ v ∈ cs, v.oneCell' = true) (k : Int) (hk : k < 0) (w : World) :
    Calls Tryz.prog 31 #[.agg cs.toArray, .int .i64 k] w fun e w' => e = .returned (.agg (cutV cs 0).toArray) ∧ Below w.heap.size w w' := by
  go_enter Tryz.func31, Tryz.ntmps31
  go_wp2
  go_region_held3 (fun w' => True) (trivial) ((refine step_copy_splice (by rfl) _ _ _ _ (by rfl) 5 Tryz.underlying45 Tryz.size5 _ _ _ _ _ _ (by rfl) (by rfl) (w.heap.size + 1 + 1) 0 zero32 34 (by exact heap3_new w _ _ _) (cs.take 0) (by rw [List.length_take, hl]) (by exact fun hp => absurd hp (by simp)) (by simp) (by exact fun v hv => h1 v (List.mem_of_mem_take hv)) (w.heap.size + 1 + 1) _ (by exact Below.refl _ _) (by omega) ?_; intro w1 hg1 hb1))
  have hc : w1.heap[w.heap.size + 1 + 1]? = some (Obj.cells (cutV cs 0).toArray 34) := hg1
  have hr : w1.heap[w.heap.size + 1]? = some (Obj.cells zero32.toArray 34) := (hb1.block _ (by omega)).trans (heap3_mid w _ _ _)
  have hb : Below w.heap.size w w1 := (below3 w _ _ _).drew.trans (hb1.mono (by omega))
  have hs : w.heap.size + 1 + 1 < w1.heap.size := (Array.getElem?_eq_some_iff.1 hc).1
  clear hg1 hb1
  have hz : (cutV cs 0).length = 32 := cutV_len cs 0 hl
  have ho := all_oneCell_toArray (cutV_one cs 0 h1)
  go_wp2_with (first | refine wpList_load_row rfl 34 _ rfl _ rfl 34 _ _ _ hc Tryz.underlying34 rfl (by rw [Tryz.size34]; simp [hz]) ?_ | refine wpList_store_row rfl 34 _ _ rfl _ _ rfl rfl 34 _ hr (by rw [Tryz.size34]; simp [hz]) (by simp [hz, zero32_len]) ho ?_)
  exact bodyPost_ret (v := .agg (cutV cs 0).toArray) (results_cell_row Tryz.results31 _ _ (w.heap.size + 1) 34 _ _ _ rfl (setRow_heap _ _ _ _ _ _ hr) Tryz.underlying34 rfl (by rw [Tryz.size34]; simp [hz])) rfl ⟨rfl, below_setRow hb (by omega) _⟩

set_option maxRecDepth 100000 in
set_option maxHeartbeats 400000 in
theorem cut_high (cs : List Value) (hl : cs.length = 32) (h1 : ∀ v ∈ cs, v.oneCell' = true) (k : Int) (hk : 32 < k) (w : World) :
    Calls Tryz.prog 31 #[.agg cs.toArray, .int .i64 k] w fun e w' => e = .returned (.agg (cutV cs 32).toArray) ∧ Below w.heap.size w w' := by
  have i0 : (0 : Int) < k := by omega
  go_enter Tryz.func31, Tryz.ntmps31
  go_wp2
  go_region_held3 (fun w' => True) (trivial) ((refine step_copy_splice (by rfl) _ _ _ _ (by rfl) 5 Tryz.underlying45 Tryz.size5 _ _ _ _ _ _ (by rfl) (by rfl) (w.heap.size + 1 + 1) 0 zero32 34 (by exact heap3_new w _ _ _) (cs.take 32) (by rw [List.length_take, hl]) (by exact fun _ => ⟨rfl, _, rfl, fun j v hv => by rw [Addr.add_mid, Nat.zero_add]; simp [cell_of_row _ _ _ _ _ _ (heap3_old w _ _ _), List.getElem?_take] at hv ⊢; exact hv.2⟩) (by rw [zero32_len]; simp; omega) (by exact fun v hv => h1 v (List.mem_of_mem_take hv)) (w.heap.size + 1 + 1) _ (by exact Below.refl _ _) (by omega) ?_; intro w1 hg1 hb1))
  have hc : w1.heap[w.heap.size + 1 + 1]? = some (Obj.cells (cutV cs 32).toArray 34) := hg1
  have hr : w1.heap[w.heap.size + 1]? = some (Obj.cells zero32.toArray 34) := (hb1.block _ (by omega)).trans (heap3_mid w _ _ _)
  have hb : Below w.heap.size w w1 := (below3 w _ _ _).drew.trans (hb1.mono (by omega))
  have hs : w.heap.size + 1 + 1 < w1.heap.size := (Array.getElem?_eq_some_iff.1 hc).1
  clear hg1 hb1
  have hz : (cutV cs 32).length = 32 := cutV_len cs 32 hl
  have ho := all_oneCell_toArray (cutV_one cs 32 h1)
  go_wp2_with (first | refine wpList_load_row rfl 34 _ rfl _ rfl 34 _ _ _ hc Tryz.underlying34 rfl (by rw [Tryz.size34]; simp [hz]) ?_ | refine wpList_store_row rfl 34 _ _ rfl _ _ rfl rfl 34 _ hr (by rw [Tryz.size34]; simp [hz]) (by simp [hz, zero32_len]) ho ?_)
  exact bodyPost_ret (v := .agg (cutV cs 32).toArray) (results_cell_row Tryz.results31 _ _ (w.heap.size + 1) 34 _ _ _ rfl (setRow_heap _ _ _ _ _ _ hr) Tryz.underlying34 rfl (by rw [Tryz.size34]; simp [hz])) rfl ⟨rfl, below_setRow hb (by omega) _⟩

theorem cut_any (cs : List Value) (hl : cs.length = 32) (h1 : ∀ v ∈ cs, v.oneCell' = true) (k : Int) (w : World) :
    Calls Tryz.prog 31 #[.agg cs.toArray, .int .i64 k] w fun e w' => e = .returned (.agg (cutV cs (kept k)).toArray) ∧ Below w.heap.size w w' := by
  by_cases a : k < 0
  · rw [show kept k = 0 by unfold kept; omega]; exact cut_low cs hl h1 k a w
  · by_cases b : 32 < k
    · rw [show kept k = 32 by unfold kept; omega]; exact cut_high cs hl h1 k b w
    · obtain ⟨n, rfl⟩ := Int.eq_ofNat_of_zero_le (by omega : 0 ≤ k)
      rw [show kept (n : Int) = n by unfold kept; omega]; exact cut_mid cs hl h1 n (by omega) w
end Go.Proofs.YtjpcegjgandnjaaGreatDoor
namespace Go.Proofs.YtjpcegjgandnjaaGreatDoor
set_option linter.unusedVariables false
set_option linter.unusedSimpArgs false
open Go.RowKit
attribute [local go_sem ↓] Go.wp_at_zero Go.wp_at_succ

def branchT (n : Nat) (l r : List Int) : List Int := 1 :: (l.take n ++ r.take n)
/-- Three slices in a block. -/
theorem rws3 {w : World} {B t : Nat} {fr : Nat × Nat} {s1 s2 s3 : Option Addr} {c1 c2 c3 : Nat} {z1 z2 z3 : List Int} (h : w.heap[B]? = some (.cells #[.slice s1 z1.length c1, .slice s2 z2.length c2, .slice s3 z3.length c3] t fr))
    (h1 : Src w s1 c1 z1) (h2 : Src w s2 c2 z2) (h3 : Src w s3 c3 z3) (n1 : s1 = none → c1 = 0) (n2 : s2 = none → c2 = 0) (n3 : s3 = none → c3 = 0) : Rws w (some ⟨B, 0, none⟩) [z1, z2, z3] := by
  refine ⟨B, 0, hlt h, fun _ => rfl, fun r hr => ?_⟩
  match r, hr with
  | 0, _ => exact ⟨s1, c1, by rw [cell_of_row _ _ _ _ _ _ h]; rfl, n1, h1⟩
  | 1, _ => exact ⟨s2, c2, by rw [cell_of_row _ _ _ _ _ _ h]; rfl, n2, h2⟩
  | 2, _ => exact ⟨s3, c3, by rw [cell_of_row _ _ _ _ _ _ h]; rfl, n3, h3⟩
  | n + 3, h => exact absurd h (by simp)
theorem Own.lower {w : World} {b0 b1 : Nat} {v : Value} {zs : List Int} (h : Own w b1 v zs) (hb : b0 ≤ b1) : Own w b0 v zs := by
  refine ⟨h.1, ?_⟩
  rcases h.2 with h2 | ⟨g, cap, cur, rfl, hg, r⟩
  · exact Or.inl h2
  · exact Or.inr ⟨g, cap, cur, rfl, Nat.le_trans hb hg, r⟩
/-- The front of an array. -/
theorem src_arr {w : World} {g t : Nat} {zs : List Int} (h : w.heap[g]? = some (.cells (ints .u8 zs).toArray t (0, 0))) (n cap : Nat) (hn : n ≤ zs.length) (hc : n ≤ cap) (hm : cap ≤ maxLen) : Src w (some ⟨g, 0, none⟩) cap (zs.take n) := by
  have hl : (zs.take n).length = n := by simp; omega
  refine ⟨by omega, hm, g, 0, fun _ => hlt h, fun _ => rfl, fun j hj => ?_⟩
  rw [Nat.zero_add, cell_ints h j (by omega), List.getD_eq_getElem?_getD, List.getD_eq_getElem?_getD, List.getElem?_take, if_pos (by omega)]

/-- The world of BranchText's call of Concat. -/
theorem bconcat (w w3 : World) (ls rs : List Int) (hl : ls.length = 32) (hr : rs.length = 32) (n : Nat) (hn : n ≤ 32) (z : List Int) (hz : branchT n ls rs = z)
    (h3 : w3 = ((((w.alloc (.cells (ints .u8 ls).toArray 34)).alloc (.cells (ints .u8 rs).toArray 34)).alloc (.cells #[.int .u8 1] 5)).alloc (.cells #[.slice (some ⟨w.heap.size + 1 + 1, 0, none⟩) 1 1, .slice (some ⟨w.heap.size, 0, none⟩) n 32, .slice (some ⟨w.heap.size + 1, 0, none⟩) n 32] 45)).drew) :
    Calls Tryz.prog 89 #[.slice (some ⟨w.heap.size + 1 + 1 + 1, 0, none⟩) 3 3] w3 fun e w' => ∃ spv capv, e = .returned (.slice spv z.length capv) ∧ Own w' w.heap.size (.slice spv z.length capv) z ∧ Below w.heap.size w w' := by
  have hB := (((((Below.refl w.heap.size w).alloc (Nat.le_refl _) (.cells (ints .u8 ls).toArray 34)).alloc (by simp) (.cells (ints .u8 rs).toArray 34)).alloc (by simp; omega) (.cells #[.int .u8 1] 5)).alloc (by simp; omega) (.cells #[.slice (some ⟨w.heap.size + 1 + 1, 0, none⟩) 1 1, .slice (some ⟨w.heap.size, 0, none⟩) n 32, .slice (some ⟨w.heap.size + 1, 0, none⟩) n 32] 45)).drew
  have g0 : w3.heap[w.heap.size]? = some (.cells (ints .u8 ls).toArray 34) := by rw [h3]; exact hold (hold (hold (hnew w _)))
  have g1 : w3.heap[w.heap.size + 1]? = some (.cells (ints .u8 rs).toArray 34) := by rw [h3]; exact hold (hold (by have := hnew (w.alloc (.cells (ints .u8 ls).toArray 34)) (.cells (ints .u8 rs).toArray 34); simpa using this))
  have g2 : w3.heap[w.heap.size + 1 + 1]? = some (.cells (ints .u8 [1]).toArray 5) := by
    rw [h3]
    have := hnew ((w.alloc (.cells (ints .u8 ls).toArray 34)).alloc (.cells (ints .u8 rs).toArray 34)) (.cells #[.int .u8 1] 5)
    rw [show ((w.alloc (.cells (ints .u8 ls).toArray 34)).alloc (.cells (ints .u8 rs).toArray 34)).heap.size = w.heap.size + 1 + 1 by simp] at this
    exact hold this
  have g3 : w3.heap[w.heap.size + 1 + 1 + 1]? = some (.cells #[.slice (some ⟨w.heap.size + 1 + 1, 0, none⟩) 1 1, .slice (some ⟨w.heap.size, 0, none⟩) n 32, .slice (some ⟨w.heap.size + 1, 0, none⟩) n 32] 45) := by
    rw [h3]
    have := hnew (((w.alloc (.cells (ints .u8 ls).toArray 34)).alloc (.cells (ints .u8 rs).toArray 34)).alloc (.cells #[.int .u8 1] 5)) (.cells #[.slice (some ⟨w.heap.size + 1 + 1, 0, none⟩) 1 1, .slice (some ⟨w.heap.size, 0, none⟩) n 32, .slice (some ⟨w.heap.size + 1, 0, none⟩) n 32] 45)
    rw [show (((w.alloc (.cells (ints .u8 ls).toArray 34)).alloc (.cells (ints .u8 rs).toArray 34)).alloc (.cells #[.int .u8 1] 5)).heap.size = w.heap.size + 1 + 1 + 1 by simp] at this
    exact this
  rw [← h3] at hB
  have el : (ls.take n).length = n := by simp; omega
  have er : (rs.take n).length = n := by simp; omega
  have hR : Rws w3 (some ⟨w.heap.size + 1 + 1 + 1, 0, none⟩) [[1], ls.take n, rs.take n] := by
    refine rws3 (c1 := 1) (c2 := 32) (c3 := 32) (by rw [el, er]; exact g3) ?_ ?_ ?_ (fun h => by cases h) (fun h => by cases h) (fun h => by cases h)
    · exact src_row (zs := [1]) (tl := []) g2 1 (by simp) (by simp [maxLen])
    · exact src_arr g0 n 32 (by omega) (by omega) (by simp [maxLen])
    · exact src_arr g1 n 32 (by omega) (by omega) (by simp [maxLen])
  have e0 : ([[1], ls.take n, rs.take n] : List (List Int)).flatten = z := by rw [← hz]; simp [branchT]
  have hc := concat_any w3 [[1], ls.take n, rs.take n] (some ⟨w.heap.size + 1 + 1 + 1, 0, none⟩) 3 hR (by simp) (by simp; omega)
  rw [show ([[1], ls.take n, rs.take n] : List (List Int)).length = 3 from rfl, e0] at hc
  refine hc.mono ?_
  rintro e w4 ⟨v, rfl, hO, hB4⟩
  obtain ⟨spv, capv, rfl, -, -⟩ := hO.form
  exact ⟨spv, capv, rfl, hO.lower hB.size, hB.trans (hB4.mono hB.size)⟩
set_option maxRecDepth 100000 in
set_option maxHeartbeats 400000 in
theorem branchText_mid (w : World) (n : Nat) (hn : n ≤ 32) (ls rs : List Int) (hl : ls.length = 32) (hr : rs.length = 32) :
    Calls Tryz.prog 57 #[.int .i64 n, .agg (ints .u8 ls).toArray, .agg (ints .u8 rs).toArray] w fun e w' => ∃ v, e = .returned v ∧ Own w' w.heap.size v (branchT n ls rs) ∧ Below w.heap.size w w' := by
  have i0 : (0 : Int) ≤ n := by omega
  have i1 : (n : Int) ≤ 32 := by omega
  obtain ⟨z, hz⟩ : ∃ z, branchT n ls rs = z := ⟨_, rfl⟩
  rw [hz]
  have HC := hid (fun w3 => bconcat w w3 ls rs hl hr n hn z hz)
  clear hz
  go_enter Tryz.func57, Tryz.ntmps57
  go_wp2
  go_region_held3 (fun w' => True) (trivial) (first | (go_at_call 89; refine (HC.out _ (by rfl)).mono ?_; rintro e w4 ⟨spv, capv, rfl, hO, hB4⟩))
  go_wp2
  go_ret
  exact ⟨_, rfl, hO, hB4⟩
set_option maxRecDepth 100000 in
set_option maxHeartbeats 400000 in
theorem branchText_low (w : World) (k : Int) (hk : k < 0) (ls rs : List Int) (hl : ls.length = 32) (hr : rs.length = 32) :
    Calls Tryz.prog 57 #[.int .i64 k, .agg (ints .u8 ls).toArray, .agg (ints .u8 rs).toArray] w fun e w' => ∃ v, e = .returned v ∧ Own w' w.heap.size v (branchT 0 ls rs) ∧ Below w.heap.size w w' := by
  obtain ⟨z, hz⟩ : ∃ z, branchT 0 ls rs = z := ⟨_, rfl⟩
  rw [hz]
  have HC := hid (fun w3 => bconcat w w3 ls rs hl hr 0 (by omega) z hz)
  clear hz
  go_enter Tryz.func57, Tryz.ntmps57
  go_wp2
  go_region_held3 (fun w' => True) (trivial) (first | (go_at_call 89; refine (HC.out _ (by rfl)).mono ?_; rintro e w4 ⟨spv, capv, rfl, hO, hB4⟩))
  go_wp2
  go_ret
  exact ⟨_, rfl, hO, hB4⟩
set_option maxRecDepth 100000 in
set_option maxHeartbeats 400000 in
theorem branchText_high (w : World) (k : Int) (hk : 32 < k) (ls rs : List Int) (hl : ls.length = 32) (hr : rs.length = 32) :
    Calls Tryz.prog 57 #[.int .i64 k, .agg (ints .u8 ls).toArray, .agg (ints .u8 rs).toArray] w fun e w' => ∃ v, e = .returned v ∧ Own w' w.heap.size v (branchT 32 ls rs) ∧ Below w.heap.size w w' := by
  have i0 : (0 : Int) < k := by omega
  obtain ⟨z, hz⟩ : ∃ z, branchT 32 ls rs = z := ⟨_, rfl⟩
  rw [hz]
  have HC := hid (fun w3 => bconcat w w3 ls rs hl hr 32 (by omega) z hz)
  clear hz
  go_enter Tryz.func57, Tryz.ntmps57
  go_wp2
  go_region_held3 (fun w' => True) (trivial) (first | (go_at_call 89; refine (HC.out _ (by rfl)).mono ?_; rintro e w4 ⟨spv, capv, rfl, hO, hB4⟩))
  go_wp2
  go_ret
  exact ⟨_, rfl, hO, hB4⟩
theorem branchText_any (w : World) (k : Int) (ls rs : List Int) (hl : ls.length = 32) (hr : rs.length = 32) :
    Calls Tryz.prog 57 #[.int .i64 k, .agg (ints .u8 ls).toArray, .agg (ints .u8 rs).toArray] w fun e w' => ∃ v, e = .returned v ∧ Own w' w.heap.size v (branchT (kept k) ls rs) ∧ Below w.heap.size w w' := by
  by_cases a : k < 0
  · rw [show kept k = 0 by unfold kept; omega]; exact branchText_low w k a ls rs hl hr
  · by_cases b : 32 < k
    · rw [show kept k = 32 by unfold kept; omega]; exact branchText_high w k b ls rs hl hr
    · obtain ⟨n, rfl⟩ := Int.eq_ofNat_of_zero_le (by omega : 0 ≤ k)
      rw [show kept (n : Int) = n by unfold kept; omega]; exact branchText_mid w n (by omega) ls rs hl hr
end Go.Proofs.YtjpcegjgandnjaaGreatDoor
namespace Go.Proofs.YtjpcegjgandnjaaGreatDoor
set_option linter.unusedVariables false
set_option linter.unusedSimpArgs false
open Go.RowKit
attribute [local go_sem ↓] Go.wp_at_zero Go.wp_at_succ

/-- A digest cut. -/
def cutZ (zs : List Int) (n : Nat) : List Int := splice (List.replicate 32 0) 0 (zs.take n)
theorem cutV_ints (zs : List Int) (n : Nat) : cutV (ints .u8 zs) n = ints .u8 (cutZ zs n) := by
  simp [cutV, cutZ, ints, splice, zero32, List.map_take]
theorem cutZ_len (zs : List Int) (n : Nat) (h : zs.length = 32) : (cutZ zs n).length = 32 := by
  unfold cutZ; rw [length_splice _ _ _ (by simp; omega)]; simp
def branchD (k : Int) (l r : List Int) : List Int := cutZ (sha (branchT (kept k) l r)) (kept k)
def emptyD (k : Int) : Nat → List Int
  | 0 => cutZ (sha [2]) (kept k)
  | h + 1 => branchD k (emptyD k h) (emptyD k h)
theorem branchD_len (k : Int) (l r : List Int) : (branchD k l r).length = 32 := cutZ_len _ _ (sha_len _)
theorem emptyD_len (k : Int) : ∀ h, (emptyD k h).length = 32
  | 0 => cutZ_len _ _ (sha_len _)
  | h + 1 => branchD_len _ _ _
theorem cutD_any (zs : List Int) (hl : zs.length = 32) (k : Int) (w : World) :
    Calls Tryz.prog 31 #[.agg (ints .u8 zs).toArray, .int .i64 k] w fun e w' => e = .returned (.agg (ints .u8 (cutZ zs (kept k))).toArray) ∧ Below w.heap.size w w' := by
  have := cut_any (ints .u8 zs) (by rw [ints_len, hl]) (ints_one _ _) k w
  rwa [cutV_ints] at this
/-- A height as it counts. -/
def hgt (k : Int) : Nat := (min (max k 0) 256).toNat
theorem hgt_le (k : Int) : hgt k ≤ 256 := by unfold hgt; omega
set_option maxRecDepth 100000 in
set_option maxHeartbeats 400000 in
theorem within_any (k : Int) (w : World) : Calls Tryz.prog 33 #[.int .i64 k] w fun e w' => e = .returned (.int .i64 (hgt k)) ∧ w' = w := by
  by_cases a : k < 0
  · rw [show hgt k = 0 by unfold hgt; omega]
    go_enter Tryz.func33, Tryz.ntmps33
    go_wp2
    go_ret
    exact ⟨rfl, rfl⟩
  · by_cases b : 256 < k
    · rw [show hgt k = 256 by unfold hgt; omega]
      have i0 : (0 : Int) < k := by omega
      go_enter Tryz.func33, Tryz.ntmps33
      go_wp2
      go_ret
      exact ⟨rfl, rfl⟩
    · obtain ⟨n, rfl⟩ := Int.eq_ofNat_of_zero_le (by omega : 0 ≤ k)
      rw [show hgt (n : Int) = n by unfold hgt; omega]
      have i0 : (0 : Int) ≤ n := by omega
      have i1 : (n : Int) ≤ 256 := by omega
      go_enter Tryz.func33, Tryz.ntmps33
      go_wp2
      go_ret
      exact ⟨rfl, rfl⟩

set_option maxRecDepth 100000 in
set_option maxHeartbeats 400000 in
theorem branch_any (w : World) (hG : Glob w) (k : Int) (ls rs : List Int) (hl : ls.length = 32) (hr : rs.length = 32) :
    Calls Tryz.prog 34 #[.int .i64 k, .agg (ints .u8 ls).toArray, .agg (ints .u8 rs).toArray] w fun e w' => e = .returned (.agg (ints .u8 (branchD k ls rs)).toArray) ∧ Below w.heap.size w w' := by
  obtain ⟨D, hD⟩ : ∃ D, branchD k ls rs = D := ⟨_, rfl⟩
  have hDl : D.length = 32 := by rw [← hD]; exact branchD_len _ _ _
  rw [hD]
  have HD := hid hD
  clear hD
  have hz32 : z32.length = 32 := rfl
  have hB1 := ((((Below.refl w.heap.size w).alloc (Nat.le_refl _) (.cells (ints .u8 ls).toArray 34)).alloc (by simp) (.cells (ints .u8 rs).toArray 34)).alloc (by simp; omega) (.cells (ints .u8 z32).toArray 34))
  have g0 : (((w.alloc (.cells (ints .u8 ls).toArray 34)).alloc (.cells (ints .u8 rs).toArray 34)).alloc (.cells (ints .u8 z32).toArray 34)).heap[w.heap.size]? = some (.cells (ints .u8 ls).toArray 34) := by
    have h := hnew w (.cells (ints .u8 ls).toArray 34)
    exact hold (hold (h))
  have g1 : (((w.alloc (.cells (ints .u8 ls).toArray 34)).alloc (.cells (ints .u8 rs).toArray 34)).alloc (.cells (ints .u8 z32).toArray 34)).heap[w.heap.size + 1]? = some (.cells (ints .u8 rs).toArray 34) := by
    have h := hnew (w.alloc (.cells (ints .u8 ls).toArray 34)) (.cells (ints .u8 rs).toArray 34)
    rw [show (w.alloc (.cells (ints .u8 ls).toArray 34)).heap.size = w.heap.size + 1 by simp] at h
    exact hold (h)
  have g2 : (((w.alloc (.cells (ints .u8 ls).toArray 34)).alloc (.cells (ints .u8 rs).toArray 34)).alloc (.cells (ints .u8 z32).toArray 34)).heap[w.heap.size + 1 + 1]? = some (.cells (ints .u8 z32).toArray 34) := by
    have h := hnew ((w.alloc (.cells (ints .u8 ls).toArray 34)).alloc (.cells (ints .u8 rs).toArray 34)) (.cells (ints .u8 z32).toArray 34)
    rw [show ((w.alloc (.cells (ints .u8 ls).toArray 34)).alloc (.cells (ints .u8 rs).toArray 34)).heap.size = w.heap.size + 1 + 1 by simp] at h
    exact h
  have hs1 : (((w.alloc (.cells (ints .u8 ls).toArray 34)).alloc (.cells (ints .u8 rs).toArray 34)).alloc (.cells (ints .u8 z32).toArray 34)).heap.size = w.heap.size + 1 + 1 + 1 := by simp
  go_enter Tryz.func34, Tryz.ntmps34
  go_wp2_with (first | refine wpList_load_row rfl 34 _ rfl _ rfl 34 _ _ _ g0 Tryz.underlying34 rfl (by rw [ints_size, hl]; rfl) ?_ | refine wpList_load_row rfl 34 _ rfl _ rfl 34 _ _ _ g1 Tryz.underlying34 rfl (by rw [ints_size, hr]; rfl) ?_)
  show Calls Tryz.prog 57 _ (((w.alloc (.cells (ints .u8 ls).toArray 34)).alloc (.cells (ints .u8 rs).toArray 34)).alloc (.cells (ints .u8 z32).toArray 34)) _
  generalize (((w.alloc (.cells (ints .u8 ls).toArray 34)).alloc (.cells (ints .u8 rs).toArray 34)).alloc (.cells (ints .u8 z32).toArray 34)) = w1 at *
  have hG1 := hG.below hB1 hG.1
  refine (branchText_any w1 k ls rs hl hr).mono ?_
  rintro e w2 ⟨v, rfl, hO, hB2⟩
  obtain ⟨spv, capv, rfl, hSv, hnv⟩ := hO.form
  have hB2' : Below w.heap.size w w2 := hB1.trans (hB2.mono (by omega))
  have hG2 := hG.below hB2' hG.1
  have KD := hid (dsum_any w2 _ spv capv hSv hG2 (by have := kept_le k; simp only [branchT, List.length_cons, List.length_append, List.length_take]; omega))
  have q2 := hbel hB2 g2 (hlt g2)
  have hs2 := hB2.size
  clear hO hSv hG1 hG2 hB2 hB1 g0 g1 g2
  generalize hX : branchT (kept k) ls rs = X at *
  have HX := hid hX
  clear hX
  go_wp2_with fail
  refine KD.out.mono ?_
  rintro e w3 ⟨rfl, hB3⟩
  have q3 := hbel hB3 q2 (hlt q2)
  have hB3' := hB2'.trans (hB3.mono (by omega))
  have hs3 := hB3.size
  have KC := hid (cutD_any (sha X) (sha_len X) k w3)
  rw [show cutZ (sha X) (kept k) = D by rw [← HD.out, ← HX.out]; rfl] at KC
  clear KD hB3 hB2' q2
  go_wp2_with fail
  refine KC.out.mono ?_
  rintro e w4 ⟨rfl, hB4⟩
  have q4 := hbel hB4 q3 (hlt q3)
  have hB4' := hB3'.trans (hB4.mono (by omega))
  have ho := all_oneCell_toArray (ints_one .u8 D)
  clear KC hB4 hB3' q3
  go_wp2_with (first | refine wpList_store_row rfl 34 _ _ rfl _ _ rfl rfl 34 _ q4 (by rw [Tryz.size34, ints_size, hDl]) (by rw [ints_size, ints_size, hDl, hz32]) ho ?_)
  exact bodyPost_ret (v := .agg (ints .u8 D).toArray) (results_cell_row Tryz.results34 _ _ (w.heap.size + 1 + 1) 34 _ _ _ rfl (setRow_heap _ _ _ _ _ _ q4) Tryz.underlying34 rfl (by rw [Tryz.size34, ints_size, hDl])) rfl ⟨rfl, below_setRow hB4' (by omega) _⟩
end Go.Proofs.YtjpcegjgandnjaaGreatDoor
namespace Go.Proofs.YtjpcegjgandnjaaGreatDoor
set_option linter.unusedVariables false
set_option linter.unusedSimpArgs false
open Go.RowKit
attribute [local go_sem ↓] Go.wp_at_zero Go.wp_at_succ

theorem branch_to (w : World) (hG : Glob w) (k : Int) (ls rs D : List Int) (hl : ls.length = 32) (hr : rs.length = 32) (hD : branchD k ls rs = D) :
    Calls Tryz.prog 34 #[.int .i64 k, .agg (ints .u8 ls).toArray, .agg (ints .u8 rs).toArray] w fun e w' => e = .returned (.agg (ints .u8 D).toArray) ∧ Below w.heap.size w w' := by
  rw [← hD]; exact branch_any w hG k ls rs hl hr
/-- A block of a digest, filled anew. -/
theorem dig_set {w : World} {g t : Nat} {D E : List Int} (h : w.heap[g]? = some (.cells (ints .u8 D).toArray t (0, 0))) : (w.setRow g (ints .u8 E).toArray).heap[g]? = some (.cells (ints .u8 E).toArray t (0, 0)) := setRow_heap _ _ _ _ _ _ h

set_option maxRecDepth 100000 in
set_option maxHeartbeats 1000000 in
theorem empty_any (w : World) (hG : Glob w) (k h : Int) :
    Calls Tryz.prog 10 #[.int .i64 k, .int .i64 h] w fun e w' => e = .returned (.agg (ints .u8 (emptyD k (hgt h))).toArray) ∧ Below w.heap.size w w' := by
  have hz32 : z32.length = 32 := rfl
  have KW := hid (within_any h)
  have hn := hgt_le h
  generalize hgt h = n at *
  have hB1 := ((Below.refl w.heap.size w).alloc (Nat.le_refl _) (.cells (ints .u8 z32).toArray 34)).alloc (by simp) (.cells #[.int .u8 2] 5)
  have g0 : ((w.alloc (.cells (ints .u8 z32).toArray 34)).alloc (.cells #[.int .u8 2] 5)).heap[w.heap.size]? = some (.cells (ints .u8 z32).toArray 34) := hold (hnew w _)
  have g1 : ((w.alloc (.cells (ints .u8 z32).toArray 34)).alloc (.cells #[.int .u8 2] 5)).heap[w.heap.size + 1]? = some (.cells (ints .u8 ([2] ++ [])).toArray 5) := by
    have h := hnew (w.alloc (.cells (ints .u8 z32).toArray 34)) (.cells #[.int .u8 2] 5)
    rw [show (w.alloc (.cells (ints .u8 z32).toArray 34)).heap.size = w.heap.size + 1 by simp] at h
    exact h
  go_enter Tryz.func10, Tryz.ntmps10
  go_wp2_with fail
  show Calls Tryz.prog 32 _ ((w.alloc (.cells (ints .u8 z32).toArray 34)).alloc (.cells #[.int .u8 2] 5)) _
  generalize ((w.alloc (.cells (ints .u8 z32).toArray 34)).alloc (.cells #[.int .u8 2] 5)) = w1 at *
  have hS1 : Src w1 (some ⟨w.heap.size + 1, 0, none⟩) 1 [2] := src_row g1 1 (by simp) (by simp [maxLen])
  refine (dsum_any w1 [2] _ 1 hS1 (hG.below hB1 hG.1) (by simp)).mono ?_
  rintro e w2 ⟨rfl, hB2⟩
  have q2 := hbel hB2 g0 (hlt g0)
  have hB2' := hB1.trans (hB2.mono hB1.size)
  have hsl := sha_len [2]
  have HE := hid (show cutZ (sha [2]) (kept k) = emptyD k 0 from rfl)
  generalize sha [2] = S at *
  clear hS1 g0 g1 hB2 hB1
  go_wp2_with fail
  refine (cutD_any S hsl k w2).mono ?_
  rintro e w3 ⟨rfl, hB3⟩
  have q3 := hold (o := .cells (ints .u8 z32).toArray 34) (hbel hB3 q2 (hlt q2))
  have r3 := hnew w3 (.cells (ints .u8 z32).toArray 34)
  have hB3' := (hB2'.trans (hB3.mono hB2'.size))
  have hE3 : w.heap.size < w3.heap.size := Nat.lt_of_lt_of_le (hlt q2) hB3.size
  have hB4' := hB3'.alloc (by omega) (.cells (ints .u8 z32).toArray 34)
  rw [HE.out]
  clear hB3 hB2' q2 HE hB3'
  have hcl := emptyD_len k 0
  have ho := all_oneCell_toArray (ints_one .u8 (emptyD k 0))
  go_wp2_with (first | refine wpList_store_row rfl 34 _ _ rfl _ _ rfl rfl 34 _ r3 (by rw [Tryz.size34, ints_size, hcl]) (by rw [ints_size, ints_size, hcl, hz32]) ho ?_ | (go_at_call 33; refine (KW.out _).mono ?_; rintro e w5 ⟨rfl, rfl⟩))
  have hbs := below_setRow hB4' (Nat.le_of_lt hE3) (ints .u8 (emptyD k 0)).toArray
  have q5 := (setRow_other (w3.alloc (.cells (ints .u8 z32).toArray 34)) w3.heap.size w.heap.size (ints .u8 (emptyD k 0)).toArray (by omega)).trans q3
  have r5 := dig_set (E := emptyD k 0) r3
  generalize w3.heap.size = E at *
  clear q3 r3 hB4' ho hcl
  go_loopw [12] (fun i wr => ∃ j : Nat, j ≤ n ∧ i = .int .i64 j ∧ wr.heap[w.heap.size]? = some (.cells (ints .u8 z32).toArray 34) ∧ wr.heap[E]? = some (.cells (ints .u8 (emptyD k j)).toArray 34) ∧ Below w.heap.size w wr) (fun i _ => n - (intOf i).toNat)
  case atStart => exact ⟨0, by omega, rfl, q5, r5, hbs⟩
  case round =>
    clear q5 r5 hbs
    obtain ⟨j, hj, rfl, q, r, hB⟩ := hrel
    have hcl := emptyD_len k j
    by_cases hlt' : j < n
    · have i1 : (j : Int) < (n : Int) := by omega
      have i2 : (n : Int) ≤ 256 := by omega
      have hGr := hG.below hB hG.1
      have hcl2 := emptyD_len k (j + 1)
      have KB := hid (branch_to wr hGr k (emptyD k j) (emptyD k j) (emptyD k (j + 1)) hcl hcl rfl)
      generalize hD2 : emptyD k (j + 1) = D2 at *
      have HD2 := hid hD2
      clear hD2
      generalize emptyD k j = D1 at *
      go_wp2_with (first | refine wpList_load_row rfl 34 _ rfl _ rfl 34 _ _ _ r Tryz.underlying34 rfl (by rw [ints_size, hcl]; rfl) ?_)
      refine KB.out.mono ?_
      rintro e w7 ⟨rfl, hB7⟩
      have q7 := hbel hB7 q (hlt q)
      have r7 := hbel hB7 r (hlt r)
      have hB7' := hB.trans (hB7.mono hB.size)
      have ho := all_oneCell_toArray (ints_one .u8 D2)
      clear KB hB7 q r
      go_wp2_with (first | refine wpList_store_row rfl 34 _ _ rfl _ _ rfl rfl 34 _ r7 (by rw [Tryz.size34, ints_size, hcl2]) (by rw [ints_size, ints_size, hcl2, hcl]) ho ?_)
      go_roundw
      case rel => exact ⟨j + 1, by omega, by go_num, (setRow_other _ _ _ _ (by omega)).trans q7, (by rw [HD2.out]; exact dig_set r7), below_setRow hB7' (by omega) _⟩
      case measure => simp [intOf]; omega
    · obtain rfl : j = n := by omega
      clear hlt'
      generalize hD1 : emptyD k j = D1 at *
      have HD1 := hid hD1
      clear hD1
      have ho := all_oneCell_toArray (ints_one .u8 D1)
      go_wp2_with (first | refine wpList_load_row rfl 34 _ rfl _ rfl 34 _ _ _ r Tryz.underlying34 rfl (by rw [ints_size, hcl]; rfl) ?_ | refine wpList_store_row rfl 34 _ _ rfl _ _ rfl rfl 34 _ q (by rw [Tryz.size34, ints_size, hcl]) (by rw [ints_size, ints_size, hcl, hz32]) ho ?_)
      exact bodyPost_ret (v := .agg (ints .u8 D1).toArray) (results_cell_row Tryz.results10 _ _ w.heap.size 34 _ _ _ rfl (setRow_heap _ _ _ _ _ _ q) Tryz.underlying34 rfl (by rw [Tryz.size34, ints_size, hcl])) rfl ⟨by rw [HD1.out], below_setRow hB (by omega) _⟩
end Go.Proofs.YtjpcegjgandnjaaGreatDoor
