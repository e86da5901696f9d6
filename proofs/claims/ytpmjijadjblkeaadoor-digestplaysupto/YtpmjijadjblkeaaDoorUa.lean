import Derived.Test.YtpmjijadjblkeaaDoorTy
import Derived.Laws.CopyOwn
namespace Go.Proofs.YtpmjijadjblkeaaDoor
set_option linter.unusedVariables false
set_option linter.unusedSimpArgs false
open Go.RowKit
attribute [local go_sem ↓] Go.wp_at_zero Go.wp_at_succ

theorem made_bytes (n : Nat) : (madeCells (Value.int IntKind.u8 0).cells n).toList = ints .u8 (padz [] n) := by
  have hz : (Value.int IntKind.u8 0).cells = #[.int .u8 0] := rfl
  rw [hz]
  apply List.ext_getElem
  · simp [madeCells, ints, padz]
  · intro i h1 h2
    simp [madeCells, ints, padz, Nat.mod_one]
theorem made_row {w1 : World} {base g n : Nat} (h : w1.ownsRow base 5 1 (.slice (some ⟨g, 0, none⟩) n n) n (madeCells (Value.int IntKind.u8 0).cells (n * 1)).toList) : w1.heap[g]? = some (.cells (ints .u8 (padz [] n)).toArray 5 (0, 0)) := by
  obtain ⟨h1, ⟨hv, _⟩ | ⟨g', cap, cur, hv, hg, hh, hc, hm, hs, ht⟩⟩ := h
  · cases hv
  · simp only [Value.slice.injEq, Option.some.injEq, Addr.mk.injEq] at hv
    obtain ⟨⟨rfl, _⟩, _, rfl⟩ := hv
    rw [Nat.mul_one, made_bytes] at ht
    rw [hh, ← ht, List.take_of_length_le (by simp [hs])]
/-- The 80 bytes behind. -/
def tail80 : List Int := List.replicate 80 165
set_option maxRecDepth 100000 in
set_option maxHeartbeats 400000 in
theorem roomy_any (w : World) (zs : List Int) (sp : Option Addr) (cap : Nat) (hS : Src w sp cap zs) (hlen : zs.length ≤ 140737488351232) :
    Calls Tryd.prog 16 #[.slice sp zs.length cap] w fun e w' => e = .returned (.slice (some ⟨w.heap.size, 0, none⟩) (zs.length + 80) (zs.length + 80)) ∧ w'.heap[w.heap.size]? = some (.cells (ints .u8 (zs ++ tail80)).toArray 5) ∧ Below w.heap.size w w' := by
  obtain ⟨i5, hi5, hz5, hs5, hy5⟩ := Tryd.info5
  obtain ⟨hc, hm, b, o, hb, hsp, hsrc⟩ := hS
  have HI := hid hi5
  clear hi5
  have i1 : (zs.length : Int) ≤ 140737488351232 := by omega
  have K1 := hid (show i5.bytes * (zs.length + 80) ≤ 281474976710656 by rw [hy5]; omega)
  have K2 := hid (show zs.length + 80 ≤ maxLen by unfold maxLen; omega)
  go_enter Tryd.func16, Tryd.ntmps16
  have hcs : (ints .u8 zs).length = Nat.min zs.length (zs.length + 80) := by rw [ints_len]; exact (Nat.min_eq_left (by omega)).symm
  have KC := hid hcs
  have KF := hid (show 0 + (ints .u8 zs).length ≤ (ints .u8 (padz [] (zs.length + 80))).length by rw [ints_len, ints_len, padz_len _ _ (by simp)]; omega)
  have KO := hid (ints_one .u8 zs)
  have KP : ∀ w1 : World, Below w.heap.size w w1 → 0 < (ints .u8 zs).length → ∃ ad, sp = some ad ∧ ∀ j v, (ints .u8 zs)[j]? = some v → w1.cell? (ad.add j) = some v := by
    intro w1 hB hpos
    rw [ints_len] at hpos
    refine ⟨_, hsp hpos, fun j v hv => ?_⟩
    have hj : j < zs.length := by have := (List.getElem?_eq_some_iff.1 hv).1; rwa [ints_len] at this
    rw [ints_get .u8 zs j hj] at hv
    cases hv
    rw [show (⟨b, o, none⟩ : Addr).add j = ⟨b, o + j, none⟩ by simp [Addr.add]]
    exact (hB.cell (p := ⟨b, o + j, none⟩) hb).trans (hsrc j hj)
  have KP' := hid KP
  have hsl : splice (ints .u8 (padz [] (zs.length + 80))) 0 (ints .u8 zs) = ints .u8 (padz (zs ++ []) (zs.length + 80)) := by
    simp [splice, ints, padz]
  have KS := hid hsl
  clear hsl hcs KP
  go_wp2_with (first
    | (refine wpList_make_full _ rfl _ _ 26 rfl w.heap.size 5 i5 (.int .u8 0) 1 Tryd.underlying26 HI.out hz5 hs5 .i64 .i64 _ _ (zs.length + 80) rfl rfl (by push_cast; rfl) (by push_cast; rfl) K1.out K2.out (Nat.le_refl _) ?_; intro w1 hO1 hg1; have hB1 := grown_keeps hg1 (fun k hk => by cases hk) (Nat.le_refl w.heap.size); have hr1 := made_row hO1; clear hg1 hO1)
    | (refine wpList_copy_splice rfl (.tmp 9) (.tmp 10) 26 26 rfl 5 Tryd.underlying26 Tryd.size5 (some ⟨w.heap.size, 0, none⟩) sp (zs.length + 80) (zs.length + 80) zs.length cap rfl rfl w.heap.size 0 (ints .u8 (padz [] (zs.length + 80))) 5 hr1 (ints .u8 zs) KC.out (fun h => ⟨rfl, KP'.out _ hB1 h⟩) KF.out KO.out w.heap.size w hB1 (Nat.le_refl _) ?_; intro w2 hr2 hB2))
  rw [KS.out] at hr2
  clear hr1 hB1 KC KF KO KP' KS K1 K2
  go_loopw [4] (fun i wr => ∃ k : Nat, k ≤ 80 ∧ i = .int .i64 (zs.length + k : Nat) ∧ wr.heap[w.heap.size]? = some (.cells (ints .u8 (padz (zs ++ List.replicate k 165) (zs.length + 80))).toArray 5) ∧ Below w.heap.size w wr) (fun i _ => zs.length + 80 - (intOf i).toNat)
  case atStart => exact ⟨0, by omega, rfl, hr2.out, hB2⟩
  case round =>
    clear hr2 hB2
    obtain ⟨k, hk, rfl, hr, hB⟩ := hrel
    have hl : (zs ++ List.replicate k 165).length = zs.length + k := by simp
    by_cases hlt : k < 80
    · have hps := padz_set (zs ++ List.replicate k 165) (zs.length + 80) 165 (by omega)
      have hcl := cell_ints hr (zs.length + k) (by rw [padz_len _ _ (by omega)]; omega)
      have fz : wr.frozen? ⟨w.heap.size, zs.length + k, none⟩ = false := frozen_of_row _ _ _ _ _ hr
      rw [hl, List.append_assoc, ← List.replicate_succ'] at hps
      have i2 : (k : Int) < 80 := by omega
      have KPs := hid hps
      replace hl := hid hl
      clear hps
      generalize (padz (zs ++ List.replicate k 165) (zs.length + 80)).getD (zs.length + k) 0 = x at *
      go_wp2
      go_roundw
      case rel => exact ⟨k + 1, by omega, by push_cast; rw [← Int.add_assoc], (by have := heap_set_ints hr (zs.length + k) 165; rw [KPs.out] at this; exact this), hB.setCell (Nat.le_refl _) _⟩
      case measure => simp [intOf]; omega
    · obtain rfl : k = 80 := by omega
      have i2 : ¬ (((zs.length + 80 : Nat) : Int) < (zs.length : Int) + 80) := by omega
      rw [padz_full _ _ hl, show zs ++ List.replicate 80 165 = zs ++ tail80 from rfl] at hr
      clear hl hlt
      go_wp2
      go_ret
      exact ⟨rfl, hr, hB⟩
end Go.Proofs.YtpmjijadjblkeaaDoor
