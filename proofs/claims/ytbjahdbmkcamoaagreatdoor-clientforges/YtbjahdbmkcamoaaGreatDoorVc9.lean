import Derived.Test.YtbjahdbmkcamoaaGreatDoorVb9
namespace Go.Proofs.YtbjahdbmkcamoaaGreatDoor
set_option linter.unusedVariables false
set_option linter.unusedSimpArgs false
open Go.RowKit
attribute [local go_sem ↓] Go.wp_at_zero Go.wp_at_succ

/-- A digest cut. -/
def cutZ (zs : List Int) (n : Nat) : List Int := splice (List.replicate 32 0) 0 (zs.take n)
theorem cutV_ints (zs : List Int) (n : Nat) : cutV (ints .u8 zs) n = ints .u8 (cutZ zs n) := by
  simp [cutV, cutZ, ints, splice, zero32, List.map_take]
theorem cutZ_len (zs : List Int) (n : Nat) (h : zs.length = 32) : (cutZ zs n).length = 32 := by
  unfold cutZ; rw [length_splice _ _ _ (by simp; omega)]; simp
def leafD (k : Int) (ks vs : List Int) : List Int := cutZ (sha (leafT ks vs)) (kept k)
def branchD (k : Int) (l r : List Int) : List Int := cutZ (sha (branchT (kept k) l r)) (kept k)
def emptyD (k : Int) : Nat → List Int
  | 0 => cutZ (sha [2]) (kept k)
  | h + 1 => branchD k (emptyD k h) (emptyD k h)
theorem leafD_len (k : Int) (ks vs : List Int) : (leafD k ks vs).length = 32 := cutZ_len _ _ (sha_len _)
theorem branchD_len (k : Int) (l r : List Int) : (branchD k l r).length = 32 := cutZ_len _ _ (sha_len _)
theorem emptyD_len (k : Int) : ∀ h, (emptyD k h).length = 32
  | 0 => cutZ_len _ _ (sha_len _)
  | h + 1 => branchD_len _ _ _
theorem cutD_any (zs : List Int) (hl : zs.length = 32) (k : Int) (w : World) :
    Calls Tryz.prog 12 #[.agg (ints .u8 zs).toArray, .int .i64 k] w fun e w' => e = .returned (.agg (ints .u8 (cutZ zs (kept k))).toArray) ∧ Below w.heap.size w w' := by
  have := cut_any (ints .u8 zs) (by rw [ints_len, hl]) (ints_one _ _) k w
  rwa [cutV_ints] at this
/-- A height as it counts. -/
def hgt (k : Int) : Nat := (min (max k 0) 256).toNat
theorem hgt_le (k : Int) : hgt k ≤ 256 := by unfold hgt; omega
set_option maxRecDepth 100000 in
set_option maxHeartbeats 400000 in
theorem within_any (k : Int) (w : World) : Calls Tryz.prog 83 #[.int .i64 k] w fun e w' => e = .returned (.int .i64 (hgt k)) ∧ w' = w := by
  by_cases a : k < 0
  · rw [show hgt k = 0 by unfold hgt; omega]
    go_enter Tryz.func83, Tryz.ntmps83
    go_wp2
    go_ret
    exact ⟨rfl, rfl⟩
  · by_cases b : 256 < k
    · rw [show hgt k = 256 by unfold hgt; omega]
      have i0 : (0 : Int) < k := by omega
      go_enter Tryz.func83, Tryz.ntmps83
      go_wp2
      go_ret
      exact ⟨rfl, rfl⟩
    · obtain ⟨n, rfl⟩ := Int.eq_ofNat_of_zero_le (by omega : 0 ≤ k)
      rw [show hgt (n : Int) = n by unfold hgt; omega]
      have i0 : (0 : Int) ≤ n := by omega
      have i1 : (n : Int) ≤ 256 := by omega
      go_enter Tryz.func83, Tryz.ntmps83
      go_wp2
      go_ret
      exact ⟨rfl, rfl⟩

set_option maxRecDepth 100000 in
set_option maxHeartbeats 400000 in
theorem leaf_any (w : World) (hG : Glob w) (k : Int) (ks vs : List Int) (hk : ks.length = 32) (sp : Option Addr) (cap : Nat) (hS : Src w sp cap vs) (hnil : sp = none → cap = 0) (hlen : vs.length ≤ 140737488351232) :
    Calls Tryz.prog 74 #[.int .i64 k, .agg (ints .u8 ks).toArray, .slice sp vs.length cap] w fun e w' => e = .returned (.agg (ints .u8 (leafD k ks vs)).toArray) ∧ Below w.heap.size w w' := by
  obtain ⟨D, hD⟩ : ∃ D, leafD k ks vs = D := ⟨_, rfl⟩
  have hDl : D.length = 32 := by rw [← hD]; exact leafD_len _ _ _
  rw [hD]
  have HD := hid hD
  clear hD
  have hz32 : z32.length = 32 := rfl
  have hB1 := (((Below.refl w.heap.size w).alloc (Nat.le_refl _) (.cells (ints .u8 ks).toArray 24)).alloc (by simp) (.cells (ints .u8 z32).toArray 28))
  have g0 : ((w.alloc (.cells (ints .u8 ks).toArray 24)).alloc (.cells (ints .u8 z32).toArray 28)).heap[w.heap.size]? = some (.cells (ints .u8 ks).toArray 24) := by
    have h := hnew w (.cells (ints .u8 ks).toArray 24)
    exact hold (h)
  have g1 : ((w.alloc (.cells (ints .u8 ks).toArray 24)).alloc (.cells (ints .u8 z32).toArray 28)).heap[w.heap.size + 1]? = some (.cells (ints .u8 z32).toArray 28) := by
    have h := hnew (w.alloc (.cells (ints .u8 ks).toArray 24)) (.cells (ints .u8 z32).toArray 28)
    rw [show (w.alloc (.cells (ints .u8 ks).toArray 24)).heap.size = w.heap.size + 1 by simp] at h
    exact h
  have hs1 : ((w.alloc (.cells (ints .u8 ks).toArray 24)).alloc (.cells (ints .u8 z32).toArray 28)).heap.size = w.heap.size + 1 + 1 := by simp
  go_enter Tryz.func74, Tryz.ntmps74
  go_wp2_with (first | refine wpList_load_row rfl 24 _ rfl _ rfl 24 _ _ _ g0 Tryz.underlying24 rfl (by rw [ints_size, hk]; rfl) ?_)
  show Calls Tryz.prog 73 _ ((w.alloc (.cells (ints .u8 ks).toArray 24)).alloc (.cells (ints .u8 z32).toArray 28)) _
  generalize ((w.alloc (.cells (ints .u8 ks).toArray 24)).alloc (.cells (ints .u8 z32).toArray 28)) = w1 at *
  have hG1 := hG.below hB1 hG.1
  refine (leafText_any w1 ks vs hk sp cap (hS.below hB1 (Nat.le_refl _)) hnil hlen).mono ?_
  rintro e w2 ⟨v, rfl, hO, hB2⟩
  obtain ⟨spv, capv, rfl, hSv, hnv⟩ := hO.form
  have hB2' : Below w.heap.size w w2 := hB1.trans (hB2.mono (by omega))
  have hG2 := hG.below hB2' hG.1
  have KD := hid (dsum_any w2 _ spv capv hSv hG2 (by simp only [leafT, List.length_cons, List.length_append, hk]; omega))
  have q2 := hbel hB2 g1 (hlt g1)
  have hs2 := hB2.size
  clear hO hSv hG1 hG2 hB2 hB1 g0 g1
  generalize hX : leafT ks vs = X at *
  have HX := hid hX
  clear hX
  go_wp2_with fail
  refine KD.out.mono ?_
  rintro e w3 ⟨rfl, hB3⟩
  have q3 := hbel hB3 q2 (hlt q2)
  have hB3' := hB2'.trans (hB3.mono (by omega))
  have hs3 := hB3.size
  have KC := hid (cutD_any (sha X) (sha_len X) k w3)
  rw [show cutZ (sha X) (kept k) = D by rw [← HD.out, ← HX.out]; rfl] at KC
  clear KD hB3 hB2' q2
  go_wp2_with fail
  refine KC.out.mono ?_
  rintro e w4 ⟨rfl, hB4⟩
  have q4 := hbel hB4 q3 (hlt q3)
  have hB4' := hB3'.trans (hB4.mono (by omega))
  have ho := all_oneCell_toArray (ints_one .u8 D)
  clear KC hB4 hB3' q3
  go_wp2_with (first | refine wpList_store_row rfl 28 _ _ rfl _ _ rfl rfl 28 _ q4 (by rw [Tryz.size28, ints_size, hDl]) (by rw [ints_size, ints_size, hDl, hz32]) ho ?_)
  exact bodyPost_ret (v := .agg (ints .u8 D).toArray) (results_cell_row Tryz.results74 _ _ (w.heap.size + 1) 28 _ _ _ rfl (setRow_heap _ _ _ _ _ _ q4) Tryz.underlying28 rfl (by rw [Tryz.size28, ints_size, hDl])) rfl ⟨rfl, below_setRow hB4' (by omega) _⟩
set_option maxRecDepth 100000 in
set_option maxHeartbeats 400000 in
theorem branch_any (w : World) (hG : Glob w) (k : Int) (ls rs : List Int) (hl : ls.length = 32) (hr : rs.length = 32) :
    Calls Tryz.prog 68 #[.int .i64 k, .agg (ints .u8 ls).toArray, .agg (ints .u8 rs).toArray] w fun e w' => e = .returned (.agg (ints .u8 (branchD k ls rs)).toArray) ∧ Below w.heap.size w w' := by
  obtain ⟨D, hD⟩ : ∃ D, branchD k ls rs = D := ⟨_, rfl⟩
  have hDl : D.length = 32 := by rw [← hD]; exact branchD_len _ _ _
  rw [hD]
  have HD := hid hD
  clear hD
  have hz32 : z32.length = 32 := rfl
  have hB1 := ((((Below.refl w.heap.size w).alloc (Nat.le_refl _) (.cells (ints .u8 ls).toArray 28)).alloc (by simp) (.cells (ints .u8 rs).toArray 28)).alloc (by simp; omega) (.cells (ints .u8 z32).toArray 28))
  have g0 : (((w.alloc (.cells (ints .u8 ls).toArray 28)).alloc (.cells (ints .u8 rs).toArray 28)).alloc (.cells (ints .u8 z32).toArray 28)).heap[w.heap.size]? = some (.cells (ints .u8 ls).toArray 28) := by
    have h := hnew w (.cells (ints .u8 ls).toArray 28)
    exact hold (hold (h))
  have g1 : (((w.alloc (.cells (ints .u8 ls).toArray 28)).alloc (.cells (ints .u8 rs).toArray 28)).alloc (.cells (ints .u8 z32).toArray 28)).heap[w.heap.size + 1]? = some (.cells (ints .u8 rs).toArray 28) := by
    have h := hnew (w.alloc (.cells (ints .u8 ls).toArray 28)) (.cells (ints .u8 rs).toArray 28)
    rw [show (w.alloc (.cells (ints .u8 ls).toArray 28)).heap.size = w.heap.size + 1 by simp] at h
    exact hold (h)
  have g2 : (((w.alloc (.cells (ints .u8 ls).toArray 28)).alloc (.cells (ints .u8 rs).toArray 28)).alloc (.cells (ints .u8 z32).toArray 28)).heap[w.heap.size + 1 + 1]? = some (.cells (ints .u8 z32).toArray 28) := by
    have h := hnew ((w.alloc (.cells (ints .u8 ls).toArray 28)).alloc (.cells (ints .u8 rs).toArray 28)) (.cells (ints .u8 z32).toArray 28)
    rw [show ((w.alloc (.cells (ints .u8 ls).toArray 28)).alloc (.cells (ints .u8 rs).toArray 28)).heap.size = w.heap.size + 1 + 1 by simp] at h
    exact h
  have hs1 : (((w.alloc (.cells (ints .u8 ls).toArray 28)).alloc (.cells (ints .u8 rs).toArray 28)).alloc (.cells (ints .u8 z32).toArray 28)).heap.size = w.heap.size + 1 + 1 + 1 := by simp
  go_enter Tryz.func68, Tryz.ntmps68
  go_wp2_with (first | refine wpList_load_row rfl 28 _ rfl _ rfl 28 _ _ _ g0 Tryz.underlying28 rfl (by rw [ints_size, hl]; rfl) ?_ | refine wpList_load_row rfl 28 _ rfl _ rfl 28 _ _ _ g1 Tryz.underlying28 rfl (by rw [ints_size, hr]; rfl) ?_)
  show Calls Tryz.prog 49 _ (((w.alloc (.cells (ints .u8 ls).toArray 28)).alloc (.cells (ints .u8 rs).toArray 28)).alloc (.cells (ints .u8 z32).toArray 28)) _
  generalize (((w.alloc (.cells (ints .u8 ls).toArray 28)).alloc (.cells (ints .u8 rs).toArray 28)).alloc (.cells (ints .u8 z32).toArray 28)) = w1 at *
  have hG1 := hG.below hB1 hG.1
  refine (branchText_any w1 k ls rs hl hr).mono ?_
  rintro e w2 ⟨v, rfl, hO, hB2⟩
  obtain ⟨spv, capv, rfl, hSv, hnv⟩ := hO.form
  have hB2' : Below w.heap.size w w2 := hB1.trans (hB2.mono (by omega))
  have hG2 := hG.below hB2' hG.1
  have KD := hid (dsum_any w2 _ spv capv hSv hG2 (by have := kept_le k; simp only [branchT, List.length_cons, List.length_append, List.length_take]; omega))
  have q2 := hbel hB2 g2 (hlt g2)
  have hs2 := hB2.size
  clear hO hSv hG1 hG2 hB2 hB1 g0 g1 g2
  generalize hX : branchT (kept k) ls rs = X at *
  have HX := hid hX
  clear hX
  go_wp2_with fail
  refine KD.out.mono ?_
  rintro e w3 ⟨rfl, hB3⟩
  have q3 := hbel hB3 q2 (hlt q2)
  have hB3' := hB2'.trans (hB3.mono (by omega))
  have hs3 := hB3.size
  have KC := hid (cutD_any (sha X) (sha_len X) k w3)
  rw [show cutZ (sha X) (kept k) = D by rw [← HD.out, ← HX.out]; rfl] at KC
  clear KD hB3 hB2' q2
  go_wp2_with fail
  refine KC.out.mono ?_
  rintro e w4 ⟨rfl, hB4⟩
  have q4 := hbel hB4 q3 (hlt q3)
  have hB4' := hB3'.trans (hB4.mono (by omega))
  have ho := all_oneCell_toArray (ints_one .u8 D)
  clear KC hB4 hB3' q3
  go_wp2_with (first | refine wpList_store_row rfl 28 _ _ rfl _ _ rfl rfl 28 _ q4 (by rw [Tryz.size28, ints_size, hDl]) (by rw [ints_size, ints_size, hDl, hz32]) ho ?_)
  exact bodyPost_ret (v := .agg (ints .u8 D).toArray) (results_cell_row Tryz.results68 _ _ (w.heap.size + 1 + 1) 28 _ _ _ rfl (setRow_heap _ _ _ _ _ _ q4) Tryz.underlying28 rfl (by rw [Tryz.size28, ints_size, hDl])) rfl ⟨rfl, below_setRow hB4' (by omega) _⟩
end Go.Proofs.YtbjahdbmkcamoaaGreatDoor
