import Derived.Test.YtcifbnldohmbnabCn
namespace Go.Proofs.Ytcifbnldohmbnab
set_option linter.unusedVariables false
set_option linter.unusedSimpArgs false
open Go.RowKit
attribute [local go_sem ↓] Go.wp_at_zero Go.wp_at_succ

/-! A list with a hundred bytes behind it. -/
def tail100 : List Int := (List.range 100).map fun k => ((101 + k : Nat) : Int)
theorem tail100_len : tail100.length = 100 := by simp [tail100]
def rm (zs : List Int) : List Int := zs ++ tail100
theorem rm_len (zs : List Int) : (rm zs).length = zs.length + 100 := by simp [rm, tail100_len]
theorem rm_lo {zs : List Int} {i : Nat} (h : i < zs.length) : (rm zs).getD i 0 = zs.getD i 0 := by
  rw [rm, List.getD_eq_getElem?_getD, List.getElem?_append_left h, ← List.getD_eq_getElem?_getD]
theorem rm_hi {zs : List Int} {i : Nat} (h : zs.length ≤ i) (h2 : i < zs.length + 100) : (rm zs).getD i 0 = 101 + (i : Int) - (zs.length : Int) := by
  rw [rm, List.getD_eq_getElem?_getD, List.getElem?_append_right h, tail100, List.getElem?_map, List.getElem?_range (by omega)]
  simp; omega
theorem take_nxt (K : List Int) (j : Nat) (hj : j < K.length) : K.take (j + 1) = K.take j ++ [K.getD j 0] := by
  rw [List.take_succ_eq_append_getElem hj, List.getD_eq_getElem?_getD, List.getElem?_eq_getElem hj]; rfl
set_option maxRecDepth 100000 in
set_option maxHeartbeats 400000 in
theorem roomy_any (w : World) (zs : List Int) (sp : Option Addr) (cap : Nat) (hS : Src w sp cap zs) (hlen : zs.length ≤ 140737488355000) :
    Calls Try.prog 25 #[.slice sp zs.length cap] w fun e w' => e = .returned (.slice (some ⟨w.heap.size, 0, none⟩) (zs.length + 100) (zs.length + 100)) ∧ w'.heap[w.heap.size]? = some (.cells (ints .u8 (rm zs)).toArray 5 (0, 0)) ∧ Below w.heap.size w w' := by
  obtain ⟨hc, hm, b, o, hb, hsp, hsrc⟩ := hS
  have i0 : (zs.length : Int) ≤ 140737488355000 := by omega
  obtain ⟨i5, hi5, hz5, hs5, hy5⟩ := Try.info5
  have HI := hid hi5
  have K1 := hid (show i5.bytes * (zs.length + 100) ≤ 281474976710656 by rw [hy5]; omega)
  have K2 := hid (show zs.length + 100 ≤ maxLen by unfold maxLen; omega)
  clear hi5 hy5
  go_enter Try.func25, Try.ntmps25
  go_wp2_with (first
    | (refine wpList_make_full _ rfl _ _ 27 rfl w.heap.size 5 i5 (.int .u8 0) 1 Try.underlying27 HI.out hz5 hs5 .i64 .i64 _ _ (zs.length + 100) rfl rfl (by push_cast; rfl) (by push_cast; rfl) K1.out K2.out (Nat.le_refl _) ?_; intro w1 hO1 hg1; have hB1 := grown_keeps hg1 (fun k hk => by cases hk) (Nat.le_refl w.heap.size); have hr1 := made_row hO1; clear hg1 hO1))
  clear K1 K2 HI hz5 hs5
  go_loopw [4] (fun i wr => ∃ k : Nat, k ≤ zs.length + 100 ∧ i = .int .i64 k ∧ wr.heap[w.heap.size]? = some (.cells (ints .u8 (padz ((rm zs).take k) (zs.length + 100))).toArray 5 (0, 0)) ∧ Below w.heap.size w wr) (fun i _ => zs.length + 100 - (intOf i).toNat)
  case atStart => exact ⟨0, by omega, rfl, hr1, hB1⟩
  case round =>
    clear hr1 hB1
    obtain ⟨k, hk, rfl, hr, hB⟩ := hrel
    by_cases hlt : k < zs.length + 100
    · have i1 : (k : Int) < (zs.length : Int) + 100 := by omega
      have hl := rm_len zs
      have hlk : ((rm zs).take k).length = k := by rw [List.length_take]; omega
      have fz := frozen_of_row _ _ k _ _ hr
      have c2 := cell_ints hr k (by rw [padz_len _ _ (by omega)]; exact hlt)
      have FIN := hid (show ∀ y : Int, y = (rm zs).getD k 0 → (wr.setCell ⟨w.heap.size, k, none⟩ (.int .u8 y)).heap[w.heap.size]? = some (.cells (ints .u8 (padz ((rm zs).take (k + 1)) (zs.length + 100))).toArray 5 (0, 0)) ∧ Below w.heap.size w (wr.setCell ⟨w.heap.size, k, none⟩ (.int .u8 y)) from by
        rintro y rfl
        refine ⟨?_, hB.setCell (by simp) _⟩
        rw [heap_set_ints hr]
        have := padz_set ((rm zs).take k) (zs.length + 100) ((rm zs).getD k 0) (by omega)
        rw [hlk] at this
        rw [this, take_nxt (rm zs) k (by omega)])
      generalize (padz ((rm zs).take k) (zs.length + 100)).getD k 0 = y0 at *
      clear hl hlk
      by_cases hz : k < zs.length
      · have i2 : (k : Int) < (zs.length : Int) := by omega
        obtain rfl := hsp (by omega)
        have c0 := (hB.cell (p := ⟨b, o + k, none⟩) (hb (by omega))).trans (hsrc k hz)
        rw [rm_lo hz] at FIN
        generalize zs.getD k 0 = x at *
        go_wp2
        go_roundw
        case rel => exact ⟨k + 1, by omega, by go_num, (FIN.out x rfl).1, (FIN.out x rfl).2⟩
        case measure => simp [intOf]; omega
      · have i2 : (zs.length : Int) ≤ (k : Int) := by omega
        rw [rm_hi (by omega) hlt] at FIN
        have HW := hid (show IntKind.u8.wrap (101 + (k : Int) - (zs.length : Int)) = 101 + (k : Int) - (zs.length : Int) by rw [IntKind.wrap_u8]; omega)
        go_wp2
        go_roundw
        case rel => exact ⟨k + 1, by omega, by go_num, (FIN.out _ rfl).1, (FIN.out _ rfl).2⟩
        case measure => simp [intOf]; omega
    · obtain rfl : k = zs.length + 100 := by omega
      rw [List.take_of_length_le (by rw [rm_len]; exact Nat.le_refl _), padz_full _ _ (rm_len zs)] at hr
      clear hlt
      have i1 : ¬ ((zs.length + 100 : Nat) : Int) < (zs.length : Int) + 100 := by omega
      go_wp2
      go_ret
      exact ⟨rfl, hr, hB⟩
set_option maxRecDepth 100000 in
set_option maxHeartbeats 400000 in
theorem roomyIs_any (w : World) (zs ys : List Int) (sp tp : Option Addr) (cap dap : Nat) (hS : Src w sp cap zs) (hT : Src w tp dap ys) (hlen : ys.length ≤ 140737488355000) :
    Calls Try.prog 30 #[.slice sp zs.length cap, .slice tp ys.length dap] w fun e w' => e = .returned (.bool (decide (zs = rm ys))) ∧ Below w.heap.size w w' := by
  go_enter Try.func30, Try.ntmps30
  go_wp2_with fail
  refine (roomy_any w ys tp dap hT hlen).mono ?_
  rintro e w1 ⟨rfl, hr, hB⟩
  have hS1 := hS.below hB (Nat.le_refl _)
  have hT1 : Src w1 (some ⟨w.heap.size, 0, none⟩) (ys.length + 100) (rm ys) := src_row (tl := []) (by rw [List.append_nil]; exact hr) _ (by rw [rm_len]; exact Nat.le_refl _) (by unfold maxLen; omega)
  have KC := hid (sameBytes_any w1 zs (rm ys) sp _ cap _ hS1 hT1)
  rw [rm_len] at KC
  go_wp2_with fail
  refine KC.out.mono ?_
  rintro e w2 ⟨rfl, hB2⟩
  go_wp2
  go_ret
  exact ⟨rfl, hB.trans (hB2.mono hB.size)⟩
end Go.Proofs.Ytcifbnldohmbnab
