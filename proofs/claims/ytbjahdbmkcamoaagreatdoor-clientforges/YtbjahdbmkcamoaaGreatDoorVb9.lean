import Derived.Test.YtbjahdbmkcamoaaGreatDoorVa9
import Derived.Test.YtbjahdbmkcamoaaGreatDoorNb
namespace Go.Proofs.YtbjahdbmkcamoaaGreatDoor
set_option linter.unusedVariables false
set_option linter.unusedSimpArgs false
open Go.RowKit
attribute [local go_sem ↓] Go.wp_at_zero Go.wp_at_succ

def leafT (ks vs : List Int) : List Int := 0 :: (ks ++ vs)
def branchT (n : Nat) (l r : List Int) : List Int := 1 :: (l.take n ++ r.take n)
/-- Three slices in a block. -/
theorem rws3 {w : World} {B t : Nat} {fr : Nat × Nat} {s1 s2 s3 : Option Addr} {c1 c2 c3 : Nat} {z1 z2 z3 : List Int} (h : w.heap[B]? = some (.cells #[.slice s1 z1.length c1, .slice s2 z2.length c2, .slice s3 z3.length c3] t fr))
    (h1 : Src w s1 c1 z1) (h2 : Src w s2 c2 z2) (h3 : Src w s3 c3 z3) (n1 : s1 = none → c1 = 0) (n2 : s2 = none → c2 = 0) (n3 : s3 = none → c3 = 0) : Rws w (some ⟨B, 0, none⟩) [z1, z2, z3] := by
  refine ⟨B, 0, hlt h, fun _ => rfl, fun r hr => ?_⟩
  match r, hr with
  | 0, _ => exact ⟨s1, c1, by rw [cell_of_row _ _ _ _ _ _ h]; rfl, n1, h1⟩
  | 1, _ => exact ⟨s2, c2, by rw [cell_of_row _ _ _ _ _ _ h]; rfl, n2, h2⟩
  | 2, _ => exact ⟨s3, c3, by rw [cell_of_row _ _ _ _ _ _ h]; rfl, n3, h3⟩
  | n + 3, h => exact absurd h (by simp)
theorem Own.lower {w : World} {b0 b1 : Nat} {v : Value} {zs : List Int} (h : Own w b1 v zs) (hb : b0 ≤ b1) : Own w b0 v zs := by
  refine ⟨h.1, ?_⟩
  rcases h.2 with h2 | ⟨g, cap, cur, rfl, hg, r⟩
  · exact Or.inl h2
  · exact Or.inr ⟨g, cap, cur, rfl, Nat.le_trans hb hg, r⟩
/-- The front of an array. -/
theorem src_arr {w : World} {g t : Nat} {zs : List Int} (h : w.heap[g]? = some (.cells (ints .u8 zs).toArray t (0, 0))) (n cap : Nat) (hn : n ≤ zs.length) (hc : n ≤ cap) (hm : cap ≤ maxLen) : Src w (some ⟨g, 0, none⟩) cap (zs.take n) := by
  have hl : (zs.take n).length = n := by simp; omega
  refine ⟨by omega, hm, g, 0, fun _ => hlt h, fun _ => rfl, fun j hj => ?_⟩
  rw [Nat.zero_add, cell_ints h j (by omega), List.getD_eq_getElem?_getD, List.getD_eq_getElem?_getD, List.getElem?_take, if_pos (by omega)]

set_option maxRecDepth 100000 in
set_option maxHeartbeats 400000 in
theorem leafText_any (w : World) (ks vs : List Int) (hk : ks.length = 32) (sp : Option Addr) (cap : Nat) (hS : Src w sp cap vs) (hnil : sp = none → cap = 0) (hlen : vs.length ≤ 140737488351232) :
    Calls Tryz.prog 73 #[.agg (ints .u8 ks).toArray, .slice sp vs.length cap] w fun e w' => ∃ v, e = .returned v ∧ Own w' w.heap.size v (leafT ks vs) ∧ Below w.heap.size w w' := by
  have hB := ((Below.refl w.heap.size w).alloc (Nat.le_refl _) (.cells (ints .u8 ks).toArray 24)).alloc (by simp) (.cells #[.int .u8 0] 5)
  have hB := hB.alloc (by simp; omega) (.cells #[.slice (some ⟨w.heap.size + 1, 0, none⟩) 1 1, .slice (some ⟨w.heap.size, 0, none⟩) 32 32, .slice sp vs.length cap] 30)
  have h0 := heap3_old w (.cells (ints .u8 ks).toArray 24) (.cells #[.int .u8 0] 5) (.cells #[.slice (some ⟨w.heap.size + 1, 0, none⟩) 1 1, .slice (some ⟨w.heap.size, 0, none⟩) 32 32, .slice sp vs.length cap] 30)
  have h1 := heap3_mid w (.cells (ints .u8 ks).toArray 24) (.cells #[.int .u8 0] 5) (.cells #[.slice (some ⟨w.heap.size + 1, 0, none⟩) 1 1, .slice (some ⟨w.heap.size, 0, none⟩) 32 32, .slice sp vs.length cap] 30)
  have h2 := heap3_new w (.cells (ints .u8 ks).toArray 24) (.cells #[.int .u8 0] 5) (.cells #[.slice (some ⟨w.heap.size + 1, 0, none⟩) 1 1, .slice (some ⟨w.heap.size, 0, none⟩) 32 32, .slice sp vs.length cap] 30)
  obtain ⟨z, hz⟩ : ∃ z, leafT ks vs = z := ⟨_, rfl⟩
  rw [hz]
  have HZ := hid hz
  clear hz
  go_enter Tryz.func73, Tryz.ntmps73
  go_wp2_with fail
  show Calls Tryz.prog 76 _ (((w.alloc (.cells (ints .u8 ks).toArray 24)).alloc (.cells #[.int .u8 0] 5)).alloc (.cells #[.slice (some ⟨w.heap.size + 1, 0, none⟩) 1 1, .slice (some ⟨w.heap.size, 0, none⟩) 32 32, .slice sp vs.length cap] 30)) _
  generalize (((w.alloc (.cells (ints .u8 ks).toArray 24)).alloc (.cells #[.int .u8 0] 5)).alloc (.cells #[.slice (some ⟨w.heap.size + 1, 0, none⟩) 1 1, .slice (some ⟨w.heap.size, 0, none⟩) 32 32, .slice sp vs.length cap] 30)) = w3 at *
  have hR : Rws w3 (some ⟨w.heap.size + 1 + 1, 0, none⟩) [[0], ks, vs] := by
    refine rws3 (c1 := 1) (c2 := 32) (c3 := cap) (by rw [hk]; exact h2) ?_ ?_ (hS.below hB (Nat.le_refl _)) (fun h => by cases h) (fun h => by cases h) hnil
    · exact src_row (zs := [0]) (tl := []) h1 1 (by simp) (by simp [maxLen])
    · have := src_arr h0 32 32 (by omega) (by omega) (by simp [maxLen])
      rwa [List.take_of_length_le (by omega)] at this
  have hc := concat_any w3 [[0], ks, vs] (some ⟨w.heap.size + 1 + 1, 0, none⟩) 3 hR (by simp) (by simp [hk]; omega)
  rw [show ([[0], ks, vs] : List (List Int)).length = 3 from rfl] at hc
  refine hc.mono ?_
  rintro e w4 ⟨v, rfl, hO, hB4⟩
  have hsz := hB.size
  have e0 : ([[0], ks, vs] : List (List Int)).flatten = z := by rw [← HZ.out]; simp [leafT]
  rw [e0] at hO
  clear e0
  obtain ⟨spv, capv, rfl, -, -⟩ := hO.form
  go_wp2
  go_ret
  exact ⟨_, rfl, hO.lower hsz, hB.trans (hB4.mono hsz)⟩
/-- The world of BranchText's call of Concat. -/
theorem bconcat (w w3 : World) (ls rs : List Int) (hl : ls.length = 32) (hr : rs.length = 32) (n : Nat) (hn : n ≤ 32) (z : List Int) (hz : branchT n ls rs = z)
    (h3 : w3 = ((((w.alloc (.cells (ints .u8 ls).toArray 28)).alloc (.cells (ints .u8 rs).toArray 28)).alloc (.cells #[.int .u8 1] 5)).alloc (.cells #[.slice (some ⟨w.heap.size + 1 + 1, 0, none⟩) 1 1, .slice (some ⟨w.heap.size, 0, none⟩) n 32, .slice (some ⟨w.heap.size + 1, 0, none⟩) n 32] 30)).drew) :
    Calls Tryz.prog 76 #[.slice (some ⟨w.heap.size + 1 + 1 + 1, 0, none⟩) 3 3] w3 fun e w' => ∃ spv capv, e = .returned (.slice spv z.length capv) ∧ Own w' w.heap.size (.slice spv z.length capv) z ∧ Below w.heap.size w w' := by
  have hB := (((((Below.refl w.heap.size w).alloc (Nat.le_refl _) (.cells (ints .u8 ls).toArray 28)).alloc (by simp) (.cells (ints .u8 rs).toArray 28)).alloc (by simp; omega) (.cells #[.int .u8 1] 5)).alloc (by simp; omega) (.cells #[.slice (some ⟨w.heap.size + 1 + 1, 0, none⟩) 1 1, .slice (some ⟨w.heap.size, 0, none⟩) n 32, .slice (some ⟨w.heap.size + 1, 0, none⟩) n 32] 30)).drew
  have g0 : w3.heap[w.heap.size]? = some (.cells (ints .u8 ls).toArray 28) := by rw [h3]; exact hold (hold (hold (hnew w _)))
  have g1 : w3.heap[w.heap.size + 1]? = some (.cells (ints .u8 rs).toArray 28) := by rw [h3]; exact hold (hold (by have := hnew (w.alloc (.cells (ints .u8 ls).toArray 28)) (.cells (ints .u8 rs).toArray 28); simpa using this))
  have g2 : w3.heap[w.heap.size + 1 + 1]? = some (.cells (ints .u8 [1]).toArray 5) := by
    rw [h3]
    have := hnew ((w.alloc (.cells (ints .u8 ls).toArray 28)).alloc (.cells (ints .u8 rs).toArray 28)) (.cells #[.int .u8 1] 5)
    rw [show ((w.alloc (.cells (ints .u8 ls).toArray 28)).alloc (.cells (ints .u8 rs).toArray 28)).heap.size = w.heap.size + 1 + 1 by simp] at this
    exact hold this
  have g3 : w3.heap[w.heap.size + 1 + 1 + 1]? = some (.cells #[.slice (some ⟨w.heap.size + 1 + 1, 0, none⟩) 1 1, .slice (some ⟨w.heap.size, 0, none⟩) n 32, .slice (some ⟨w.heap.size + 1, 0, none⟩) n 32] 30) := by
    rw [h3]
    have := hnew (((w.alloc (.cells (ints .u8 ls).toArray 28)).alloc (.cells (ints .u8 rs).toArray 28)).alloc (.cells #[.int .u8 1] 5)) (.cells #[.slice (some ⟨w.heap.size + 1 + 1, 0, none⟩) 1 1, .slice (some ⟨w.heap.size, 0, none⟩) n 32, .slice (some ⟨w.heap.size + 1, 0, none⟩) n 32] 30)
    rw [show (((w.alloc (.cells (ints .u8 ls).toArray 28)).alloc (.cells (ints .u8 rs).toArray 28)).alloc (.cells #[.int .u8 1] 5)).heap.size = w.heap.size + 1 + 1 + 1 by simp] at this
    exact this
  rw [← h3] at hB
  have el : (ls.take n).length = n := by simp; omega
  have er : (rs.take n).length = n := by simp; omega
  have hR : Rws w3 (some ⟨w.heap.size + 1 + 1 + 1, 0, none⟩) [[1], ls.take n, rs.take n] := by
    refine rws3 (c1 := 1) (c2 := 32) (c3 := 32) (by rw [el, er]; exact g3) ?_ ?_ ?_ (fun h => by cases h) (fun h => by cases h) (fun h => by cases h)
    · exact src_row (zs := [1]) (tl := []) g2 1 (by simp) (by simp [maxLen])
    · exact src_arr g0 n 32 (by omega) (by omega) (by simp [maxLen])
    · exact src_arr g1 n 32 (by omega) (by omega) (by simp [maxLen])
  have e0 : ([[1], ls.take n, rs.take n] : List (List Int)).flatten = z := by rw [← hz]; simp [branchT]
  have hc := concat_any w3 [[1], ls.take n, rs.take n] (some ⟨w.heap.size + 1 + 1 + 1, 0, none⟩) 3 hR (by simp) (by simp; omega)
  rw [show ([[1], ls.take n, rs.take n] : List (List Int)).length = 3 from rfl, e0] at hc
  refine hc.mono ?_
  rintro e w4 ⟨v, rfl, hO, hB4⟩
  obtain ⟨spv, capv, rfl, -, -⟩ := hO.form
  exact ⟨spv, capv, rfl, hO.lower hB.size, hB.trans (hB4.mono hB.size)⟩
set_option maxRecDepth 100000 in
set_option maxHeartbeats 400000 in
theorem branchText_mid (w : World) (n : Nat) (hn : n ≤ 32) (ls rs : List Int) (hl : ls.length = 32) (hr : rs.length = 32) :
    Calls Tryz.prog 49 #[.int .i64 n, .agg (ints .u8 ls).toArray, .agg (ints .u8 rs).toArray] w fun e w' => ∃ v, e = .returned v ∧ Own w' w.heap.size v (branchT n ls rs) ∧ Below w.heap.size w w' := by
  have i0 : (0 : Int) ≤ n := by omega
  have i1 : (n : Int) ≤ 32 := by omega
  obtain ⟨z, hz⟩ : ∃ z, branchT n ls rs = z := ⟨_, rfl⟩
  rw [hz]
  have HC := hid (fun w3 => bconcat w w3 ls rs hl hr n hn z hz)
  clear hz
  go_enter Tryz.func49, Tryz.ntmps49
  go_wp2
  go_region_held3 (fun w' => True) (trivial) (first | (go_at_call 76; refine (HC.out _ (by rfl)).mono ?_; rintro e w4 ⟨spv, capv, rfl, hO, hB4⟩))
  go_wp2
  go_ret
  exact ⟨_, rfl, hO, hB4⟩
set_option maxRecDepth 100000 in
set_option maxHeartbeats 400000 in
theorem branchText_low (w : World) (k : Int) (hk : k < 0) (ls rs : List Int) (hl : ls.length = 32) (hr : rs.length = 32) :
    Calls Tryz.prog 49 #[.int .i64 k, .agg (ints .u8 ls).toArray, .agg (ints .u8 rs).toArray] w fun e w' => ∃ v, e = .returned v ∧ Own w' w.heap.size v (branchT 0 ls rs) ∧ Below w.heap.size w w' := by
  obtain ⟨z, hz⟩ : ∃ z, branchT 0 ls rs = z := ⟨_, rfl⟩
  rw [hz]
  have HC := hid (fun w3 => bconcat w w3 ls rs hl hr 0 (by omega) z hz)
  clear hz
  go_enter Tryz.func49, Tryz.ntmps49
  go_wp2
  go_region_held3 (fun w' => True) (trivial) (first | (go_at_call 76; refine (HC.out _ (by rfl)).mono ?_; rintro e w4 ⟨spv, capv, rfl, hO, hB4⟩))
  go_wp2
  go_ret
  exact ⟨_, rfl, hO, hB4⟩
set_option maxRecDepth 100000 in
set_option maxHeartbeats 400000 in
theorem branchText_high (w : World) (k : Int) (hk : 32 < k) (ls rs : List Int) (hl : ls.length = 32) (hr : rs.length = 32) :
    Calls Tryz.prog 49 #[.int .i64 k, .agg (ints .u8 ls).toArray, .agg (ints .u8 rs).toArray] w fun e w' => ∃ v, e = .returned v ∧ Own w' w.heap.size v (branchT 32 ls rs) ∧ Below w.heap.size w w' := by
  have i0 : (0 : Int) < k := by omega
  obtain ⟨z, hz⟩ : ∃ z, branchT 32 ls rs = z := ⟨_, rfl⟩
  rw [hz]
  have HC := hid (fun w3 => bconcat w w3 ls rs hl hr 32 (by omega) z hz)
  clear hz
  go_enter Tryz.func49, Tryz.ntmps49
  go_wp2
  go_region_held3 (fun w' => True) (trivial) (first | (go_at_call 76; refine (HC.out _ (by rfl)).mono ?_; rintro e w4 ⟨spv, capv, rfl, hO, hB4⟩))
  go_wp2
  go_ret
  exact ⟨_, rfl, hO, hB4⟩
theorem branchText_any (w : World) (k : Int) (ls rs : List Int) (hl : ls.length = 32) (hr : rs.length = 32) :
    Calls Tryz.prog 49 #[.int .i64 k, .agg (ints .u8 ls).toArray, .agg (ints .u8 rs).toArray] w fun e w' => ∃ v, e = .returned v ∧ Own w' w.heap.size v (branchT (kept k) ls rs) ∧ Below w.heap.size w w' := by
  by_cases a : k < 0
  · rw [show kept k = 0 by unfold kept; omega]; exact branchText_low w k a ls rs hl hr
  · by_cases b : 32 < k
    · rw [show kept k = 32 by unfold kept; omega]; exact branchText_high w k b ls rs hl hr
    · obtain ⟨n, rfl⟩ := Int.eq_ofNat_of_zero_le (by omega : 0 ≤ k)
      rw [show kept (n : Int) = n by unfold kept; omega]; exact branchText_mid w n (by omega) ls rs hl hr
end Go.Proofs.YtbjahdbmkcamoaaGreatDoor
