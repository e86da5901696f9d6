import Derived.Test.YtlhmhpkgdcdjkaaVt9
namespace Go.Proofs.Ytlhmhpkgdcdjkaa
set_option linter.unusedVariables false
set_option linter.unusedSimpArgs false
open Go.RowKit
attribute [local go_sem ↓] Go.wp_at_zero Go.wp_at_succ

/-- What roomy lays behind a list of n bytes. -/
def tailN (n : Nat) : List Int := (List.range 100).map fun i => (101 + ((n + i : Nat) : Int) - (n : Int))
theorem tailN_len (n : Nat) : (tailN n).length = 100 := by simp [tailN]
def full (zs : List Int) : List Int := zs ++ tailN zs.length
theorem full_len (zs : List Int) : (full zs).length = zs.length + 100 := by simp [full, tailN_len]
theorem full_lo (zs : List Int) (i : Nat) (h : i < zs.length) : (full zs).getD i 0 = zs.getD i 0 := by
  unfold full; rw [List.getD_eq_getElem?_getD, List.getElem?_append_left h, List.getD_eq_getElem?_getD]
theorem full_hi (zs : List Int) (i : Nat) (h : ¬ i < zs.length) (h2 : i < zs.length + 100) : (full zs).getD i 0 = 101 + (i : Int) - (zs.length : Int) := by
  unfold full
  rw [List.getD_eq_getElem?_getD, List.getElem?_append_right (by omega), tailN, List.getElem?_map, List.getElem?_range (by omega)]
  simp only [Option.map_some, Option.getD_some]
  rw [show zs.length + (i - zs.length) = i by omega]
theorem take_snoc' (zs : List Int) (k : Nat) (h : k < zs.length) : zs.take (k + 1) = zs.take k ++ [zs.getD k 0] := by
  rw [List.take_succ_eq_append_getElem h, List.getD_eq_getElem?_getD, List.getElem?_eq_getElem h]; rfl
set_option maxRecDepth 100000 in
set_option maxHeartbeats 1000000 in
theorem roomy_any (w : World) (zs : List Int) (sp : Option Addr) (cap : Nat) (hS : Src w sp cap zs) (hlen : zs.length ≤ 140737488351232) :
    Calls Try.prog 21 #[.slice sp zs.length cap] w fun e w' => e = .returned (.slice (some ⟨w.heap.size, 0, none⟩) (zs.length + 100) (zs.length + 100)) ∧ w'.heap[w.heap.size]? = some (.cells (ints .u8 (full zs)).toArray 5) ∧ Below w.heap.size w w' := by
  obtain ⟨i5, hi5, hz5, hs5, hy5⟩ := Try.info5
  obtain ⟨hc, hm, b, o, hb, hsp, hsrc⟩ := hS
  have HI := hid hi5
  clear hi5
  have i1 : (zs.length : Int) ≤ 140737488351232 := by omega
  have K1 := hid (show i5.bytes * (zs.length + 100) ≤ 281474976710656 by rw [hy5]; omega)
  have K2 := hid (show zs.length + 100 ≤ maxLen by unfold maxLen; omega)
  have hfl := full_len zs
  have HF := hid hfl
  clear hfl
  unfold maxLen at hm
  go_enter Try.func21, Try.ntmps21
  go_wp2_with (first
    | (refine wpList_make_full _ rfl _ _ 22 rfl w.heap.size 5 i5 (.int .u8 0) 1 Try.underlying22 HI.out hz5 hs5 .i64 .i64 _ _ (zs.length + 100) rfl rfl (by push_cast; rfl) (by push_cast; rfl) K1.out K2.out (Nat.le_refl _) ?_; intro w1 hO1 hg1; have hB1 := grown_keeps hg1 (fun k hk => by cases hk) (Nat.le_refl w.heap.size); have hr1 := made_row hO1; clear hO1 hg1))
  go_loopw [4] (fun i wr => ∃ k : Nat, k ≤ zs.length + 100 ∧ i = .int .i64 k ∧ wr.heap[w.heap.size]? = some (.cells (ints .u8 (padz ((full zs).take k) (zs.length + 100))).toArray 5) ∧ Below w.heap.size w wr) (fun i _ => zs.length + 100 - (intOf i).toNat)
  case atStart => exact ⟨0, Nat.zero_le _, rfl, hr1, hB1⟩
  case round =>
    clear hr1 hB1
    obtain ⟨k, hk, rfl, hr, hB⟩ := hrel
    by_cases hlt' : k < zs.length + 100
    · have htl : ((full zs).take k).length = k := by rw [List.length_take, HF.out]; omega
      have hps := padz_set ((full zs).take k) (zs.length + 100) ((full zs).getD k 0) (by omega)
      rw [htl, ← take_snoc' (full zs) k (by rw [HF.out]; exact hlt')] at hps
      have hcl := cell_ints hr k (by rw [padz_len _ _ (by omega)]; omega)
      have fz : wr.frozen? ⟨w.heap.size, k, none⟩ = false := frozen_of_row _ _ _ _ _ hr
      have hq := heap_set_ints hr k ((full zs).getD k 0)
      rw [hps] at hq
      have hBs := hB.setCell (p := ⟨w.heap.size, k, none⟩) (Nat.le_refl _) (.int .u8 ((full zs).getD k 0))
      have i2 : (k : Int) < (zs.length : Int) + 100 := by omega
      clear hps htl
      by_cases hkl : k < zs.length
      · have i3 : (k : Int) < (zs.length : Int) := by omega
        obtain rfl := hsp (by omega)
        have c0 := (hB.cell (p := ⟨b, o + k, none⟩) (hb (by omega))).trans (hsrc k hkl)
        rw [full_lo zs k hkl] at hq hBs
        have HQ := hid hq
        clear hq
        generalize zs.getD k 0 = x at *
        generalize (padz ((full zs).take k) (zs.length + 100)).getD k 0 = y at *
        clear hr
        go_wp2
        go_roundw
        case rel => exact ⟨k + 1, by omega, by go_num, HQ.out, hBs⟩
        case measure => simp [intOf]; omega
      · have i3 : ¬ ((k : Int) < (zs.length : Int)) := by omega
        rw [full_hi zs k hkl hlt'] at hq hBs
        have HQ := hid hq
        clear hq
        generalize (padz ((full zs).take k) (zs.length + 100)).getD k 0 = y at *
        clear hr
        go_wp2
        go_roundw
        case rel => exact ⟨k + 1, by omega, by go_num, HQ.out, hBs⟩
        case measure => simp [intOf]; omega
    · obtain rfl : zs.length + 100 = k := by omega
      rw [List.take_of_length_le (by rw [HF.out]; exact Nat.le_refl _), padz_full _ _ HF.out] at hr
      clear hlt'
      go_wp2
      go_ret
      exact ⟨rfl, hr, hB⟩
end Go.Proofs.Ytlhmhpkgdcdjkaa
