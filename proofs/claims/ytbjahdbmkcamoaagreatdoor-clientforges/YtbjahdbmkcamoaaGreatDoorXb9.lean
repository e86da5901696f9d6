import Derived.Test.YtbjahdbmkcamoaaGreatDoorXa9
import Derived.Test.YtbjahdbmkcamoaaGreatDoorNc
namespace Go.Proofs.YtbjahdbmkcamoaaGreatDoor
set_option linter.unusedVariables false
set_option linter.unusedSimpArgs false
open Go.RowKit
attribute [local go_sem ↓] Go.wp_at_zero Go.wp_at_succ

/-- The tables of both sides. -/
def Gb (w : World) : Prop := Glob w ∧ GlobR w
theorem Gb.below {w w1 : World} {B : Nat} (h : Gb w) (hb : Below B w w1) (hB : 4 ≤ B) : Gb w1 := ⟨h.1.below hb hB, h.2.below hb (by omega)⟩
theorem Gb.keep {w w1 : World} (h : Gb w) (hb : Below w.heap.size w w1) : Gb w1 := h.below hb h.1.1
theorem rcutD_any (zs : List Int) (hl : zs.length = 32) (k : Int) (w : World) :
    Calls Tryz.prog 57 #[.agg (ints .u8 zs).toArray, .int .i64 k] w fun e w' => e = .returned (.agg (ints .u8 (cutZ zs (kept k))).toArray) ∧ Below w.heap.size w w' := by
  have := ref_any (ints .u8 zs) (by rw [ints_len, hl]) (ints_one _ _) k w
  rwa [cutV_ints] at this
set_option maxRecDepth 100000 in
set_option maxHeartbeats 400000 in
theorem xcut_any (w : World) (hG : Gb w) (k : Int) (zs D : List Int) (sp : Option Addr) (cap : Nat) (hS : Src w sp cap zs) (hnil : sp = none → cap = 0) (hlen : zs.length ≤ 140737488354000) (hD : cutZ (sha zs) (kept k) = D) :
    Calls Tryz.prog 31 #[.slice sp zs.length cap, .int .i64 k] w fun e w' => e = .returned (.agg (ints .u8 D).toArray) ∧ Below w.heap.size w w' := by
  have hDl : D.length = 32 := by rw [← hD]; exact cutZ_len _ _ (sha_len _)
  have HD := hid hD
  clear hD
  have hz32 : z32.length = 32 := rfl
  have hB1 := ((Below.refl w.heap.size w).alloc (Nat.le_refl _) (.cells (ints .u8 z32).toArray 28))
  have g0 : (w.alloc (.cells (ints .u8 z32).toArray 28)).heap[w.heap.size]? = some (.cells (ints .u8 z32).toArray 28) := by
    have h := hnew w (.cells (ints .u8 z32).toArray 28)
    exact h
  have hs1 : (w.alloc (.cells (ints .u8 z32).toArray 28)).heap.size = w.heap.size + 1 := by simp
  go_enter Tryz.func31, Tryz.ntmps31
  go_wp2_with fail
  show Calls Tryz.prog 56 _ (w.alloc (.cells (ints .u8 z32).toArray 28)) _
  generalize (w.alloc (.cells (ints .u8 z32).toArray 28)) = w1 at *
  have hG1 := hG.keep hB1
  refine (rsum_any w1 zs sp cap (hS.below hB1 (Nat.le_refl _)) hnil hlen hG1.1.1 hG1.2).mono ?_
  rintro e w2 ⟨rfl, hB2⟩
  have hsl := sha_len zs
  have KC := hid (fun w3 => rcutD_any (sha zs) hsl k w3)
  rw [HD.out] at KC
  generalize sha zs = S at *
  have q2 := hold (o := .cells (ints .u8 S).toArray 28) (hbel hB2 g0 (hlt g0))
  have s2 := hnew w2 (.cells (ints .u8 S).toArray 28)
  have hB2' := (hB1.trans (hB2.mono hB1.size)).alloc (by have := hB2.size; omega) (.cells (ints .u8 S).toArray 28)
  clear hB2 g0 hB1 hG1
  go_wp2_with (first | (refine wpList_store_row rfl 28 _ _ rfl _ _ rfl rfl 28 _ (by exact hnew _ (.cells (ints .u8 z32).toArray 28)) (by rw [Tryz.size28, ints_size, hsl]) (by rw [ints_size, ints_size, hsl]; rfl) (all_oneCell_toArray (ints_one .u8 _)) ?_; rw [setRow_alloc]) | refine wpList_load_row rfl 28 _ rfl _ rfl 28 _ _ _ s2 Tryz.underlying28 rfl (by rw [ints_size, hsl]; rfl) ?_)
  generalize w2.alloc (.cells (ints .u8 S).toArray 28) = w3 at *
  refine (KC.out w3).mono ?_
  rintro e w4 ⟨rfl, hB4⟩
  have q4 := hbel hB4 q2 (hlt q2)
  have hB4' := hB2'.trans (hB4.mono hB2'.size)
  clear hB4 hB2' q2 s2
  go_wp2_with (first | refine wpList_store_row rfl 28 _ _ rfl _ _ rfl rfl 28 _ q4 (by rw [Tryz.size28, ints_size, hDl]) (by rw [ints_size, ints_size, hDl, hz32]) (all_oneCell_toArray (ints_one .u8 _)) ?_)
  exact bodyPost_ret (v := .agg (ints .u8 D).toArray) (results_cell_row Tryz.results31 _ _ (w.heap.size) 28 _ _ _ rfl (setRow_heap _ _ _ _ _ _ q4) Tryz.underlying28 rfl (by rw [Tryz.size28, ints_size, hDl])) rfl ⟨rfl, below_setRow hB4' (by omega) _⟩
set_option maxRecDepth 100000 in
set_option maxHeartbeats 400000 in
theorem xleaf_any (w : World) (hG : Gb w) (k : Int) (ks vs : List Int) (hk : ks.length = 32) (sp : Option Addr) (cap : Nat) (hS : Src w sp cap vs) (hlen : vs.length ≤ 140737488353000) :
    Calls Tryz.prog 33 #[.int .i64 k, .agg (ints .u8 ks).toArray, .slice sp vs.length cap] w fun e w' => e = .returned (.agg (ints .u8 (leafD k ks vs)).toArray) ∧ Below w.heap.size w w' := by
  obtain ⟨D, hD⟩ : ∃ D, leafD k ks vs = D := ⟨_, rfl⟩
  have hDl : D.length = 32 := by rw [← hD]; exact leafD_len _ _ _
  rw [hD]
  have HD := hid hD
  clear hD
  have hz32 : z32.length = 32 := rfl
  have hB1 := (((Below.refl w.heap.size w).alloc (Nat.le_refl _) (.cells (ints .u8 ks).toArray 24)).alloc (by simp) (.cells (ints .u8 z32).toArray 28))
  have g0 : ((w.alloc (.cells (ints .u8 ks).toArray 24)).alloc (.cells (ints .u8 z32).toArray 28)).heap[w.heap.size]? = some (.cells (ints .u8 ks).toArray 24) := by
    have h := hnew w (.cells (ints .u8 ks).toArray 24)
    exact hold (h)
  have g1 : ((w.alloc (.cells (ints .u8 ks).toArray 24)).alloc (.cells (ints .u8 z32).toArray 28)).heap[w.heap.size + 1]? = some (.cells (ints .u8 z32).toArray 28) := by
    have h := hnew (w.alloc (.cells (ints .u8 ks).toArray 24)) (.cells (ints .u8 z32).toArray 28)
    rw [show (w.alloc (.cells (ints .u8 ks).toArray 24)).heap.size = w.heap.size + 1 by simp] at h
    exact h
  have hs1 : ((w.alloc (.cells (ints .u8 ks).toArray 24)).alloc (.cells (ints .u8 z32).toArray 28)).heap.size = w.heap.size + 1 + 1 := by simp
  go_enter Tryz.func33, Tryz.ntmps33
  go_wp2_with (first | refine wpList_load_row rfl 24 _ rfl _ rfl 24 _ _ _ g0 Tryz.underlying24 rfl (by rw [ints_size, hk]; rfl) ?_)
  show Calls Tryz.prog 59 _ ((w.alloc (.cells (ints .u8 ks).toArray 24)).alloc (.cells (ints .u8 z32).toArray 28)) _
  generalize ((w.alloc (.cells (ints .u8 ks).toArray 24)).alloc (.cells (ints .u8 z32).toArray 28)) = w1 at *
  refine (xleafText_any w1 ks vs hk sp cap (hS.below hB1 (Nat.le_refl _)) hlen).mono ?_
  rintro e w2 ⟨v, rfl, hO, hB2⟩
  obtain ⟨spv, capv, rfl, hSv, hnv⟩ := hO.form
  have hB2' : Below w.heap.size w w2 := hB1.trans (hB2.mono (by omega))
  have KD := hid (xcut_any w2 (hG.keep hB2') k _ D spv capv hSv hnv (by simp only [leafT, List.length_cons, List.length_append, hk]; omega) HD.out)
  have q2 := hbel hB2 g1 (hlt g1)
  have hs2 := hB2.size
  clear hO hSv hB2 hB1 g0 g1
  generalize hX : leafT ks vs = X at *
  clear hX HD
  go_wp2_with fail
  refine KD.out.mono ?_
  rintro e w3 ⟨rfl, hB3⟩
  have q3 := hbel hB3 q2 (hlt q2)
  have hB3' := hB2'.trans (hB3.mono (by omega))
  clear KD hB3 hB2' q2
  go_wp2_with (first | refine wpList_store_row rfl 28 _ _ rfl _ _ rfl rfl 28 _ q3 (by rw [Tryz.size28, ints_size, hDl]) (by rw [ints_size, ints_size, hDl, hz32]) (all_oneCell_toArray (ints_one .u8 _)) ?_)
  exact bodyPost_ret (v := .agg (ints .u8 D).toArray) (results_cell_row Tryz.results33 _ _ (w.heap.size + 1) 28 _ _ _ rfl (setRow_heap _ _ _ _ _ _ q3) Tryz.underlying28 rfl (by rw [Tryz.size28, ints_size, hDl])) rfl ⟨rfl, below_setRow hB3' (by omega) _⟩
set_option maxRecDepth 100000 in
set_option maxHeartbeats 400000 in
theorem xbranch_any (w : World) (hG : Gb w) (k : Int) (ls rs : List Int) (hl : ls.length = 32) (hr : rs.length = 32) :
    Calls Tryz.prog 32 #[.int .i64 k, .agg (ints .u8 ls).toArray, .agg (ints .u8 rs).toArray] w fun e w' => e = .returned (.agg (ints .u8 (branchD k ls rs)).toArray) ∧ Below w.heap.size w w' := by
  obtain ⟨D, hD⟩ : ∃ D, branchD k ls rs = D := ⟨_, rfl⟩
  have hDl : D.length = 32 := by rw [← hD]; exact branchD_len _ _ _
  rw [hD]
  have HD := hid hD
  clear hD
  have hz32 : z32.length = 32 := rfl
  have hB1 := ((((Below.refl w.heap.size w).alloc (Nat.le_refl _) (.cells (ints .u8 ls).toArray 28)).alloc (by simp) (.cells (ints .u8 rs).toArray 28)).alloc (by simp; omega) (.cells (ints .u8 z32).toArray 28))
  have g0 : (((w.alloc (.cells (ints .u8 ls).toArray 28)).alloc (.cells (ints .u8 rs).toArray 28)).alloc (.cells (ints .u8 z32).toArray 28)).heap[w.heap.size]? = some (.cells (ints .u8 ls).toArray 28) := by
    have h := hnew w (.cells (ints .u8 ls).toArray 28)
    exact hold (hold (h))
  have g1 : (((w.alloc (.cells (ints .u8 ls).toArray 28)).alloc (.cells (ints .u8 rs).toArray 28)).alloc (.cells (ints .u8 z32).toArray 28)).heap[w.heap.size + 1]? = some (.cells (ints .u8 rs).toArray 28) := by
    have h := hnew (w.alloc (.cells (ints .u8 ls).toArray 28)) (.cells (ints .u8 rs).toArray 28)
    rw [show (w.alloc (.cells (ints .u8 ls).toArray 28)).heap.size = w.heap.size + 1 by simp] at h
    exact hold (h)
  have g2 : (((w.alloc (.cells (ints .u8 ls).toArray 28)).alloc (.cells (ints .u8 rs).toArray 28)).alloc (.cells (ints .u8 z32).toArray 28)).heap[w.heap.size + 1 + 1]? = some (.cells (ints .u8 z32).toArray 28) := by
    have h := hnew ((w.alloc (.cells (ints .u8 ls).toArray 28)).alloc (.cells (ints .u8 rs).toArray 28)) (.cells (ints .u8 z32).toArray 28)
    rw [show ((w.alloc (.cells (ints .u8 ls).toArray 28)).alloc (.cells (ints .u8 rs).toArray 28)).heap.size = w.heap.size + 1 + 1 by simp] at h
    exact h
  have hs1 : (((w.alloc (.cells (ints .u8 ls).toArray 28)).alloc (.cells (ints .u8 rs).toArray 28)).alloc (.cells (ints .u8 z32).toArray 28)).heap.size = w.heap.size + 1 + 1 + 1 := by simp
  go_enter Tryz.func32, Tryz.ntmps32
  go_wp2_with (first | refine wpList_load_row rfl 28 _ rfl _ rfl 28 _ _ _ g0 Tryz.underlying28 rfl (by rw [ints_size, hl]; rfl) ?_ | refine wpList_load_row rfl 28 _ rfl _ rfl 28 _ _ _ g1 Tryz.underlying28 rfl (by rw [ints_size, hr]; rfl) ?_)
  show Calls Tryz.prog 58 _ (((w.alloc (.cells (ints .u8 ls).toArray 28)).alloc (.cells (ints .u8 rs).toArray 28)).alloc (.cells (ints .u8 z32).toArray 28)) _
  generalize (((w.alloc (.cells (ints .u8 ls).toArray 28)).alloc (.cells (ints .u8 rs).toArray 28)).alloc (.cells (ints .u8 z32).toArray 28)) = w1 at *
  refine (xbranchText_any w1 k ls rs hl hr).mono ?_
  rintro e w2 ⟨v, rfl, hO, hB2⟩
  obtain ⟨spv, capv, rfl, hSv, hnv⟩ := hO.form
  have hB2' : Below w.heap.size w w2 := hB1.trans (hB2.mono (by omega))
  have KD := hid (xcut_any w2 (hG.keep hB2') k _ D spv capv hSv hnv (by have := kept_le k; simp only [branchT, List.length_cons, List.length_append, List.length_take]; omega) HD.out)
  have q2 := hbel hB2 g2 (hlt g2)
  have hs2 := hB2.size
  clear hO hSv hB2 hB1 g0 g1 g2
  generalize hX : branchT (kept k) ls rs = X at *
  clear hX HD
  go_wp2_with fail
  refine KD.out.mono ?_
  rintro e w3 ⟨rfl, hB3⟩
  have q3 := hbel hB3 q2 (hlt q2)
  have hB3' := hB2'.trans (hB3.mono (by omega))
  clear KD hB3 hB2' q2
  go_wp2_with (first | refine wpList_store_row rfl 28 _ _ rfl _ _ rfl rfl 28 _ q3 (by rw [Tryz.size28, ints_size, hDl]) (by rw [ints_size, ints_size, hDl, hz32]) (all_oneCell_toArray (ints_one .u8 _)) ?_)
  exact bodyPost_ret (v := .agg (ints .u8 D).toArray) (results_cell_row Tryz.results32 _ _ (w.heap.size + 1 + 1) 28 _ _ _ rfl (setRow_heap _ _ _ _ _ _ q3) Tryz.underlying28 rfl (by rw [Tryz.size28, ints_size, hDl])) rfl ⟨rfl, below_setRow hB3' (by omega) _⟩
theorem xbranch_to (w : World) (hG : Gb w) (k : Int) (ls rs D : List Int) (hl : ls.length = 32) (hr : rs.length = 32) (hD : branchD k ls rs = D) :
    Calls Tryz.prog 32 #[.int .i64 k, .agg (ints .u8 ls).toArray, .agg (ints .u8 rs).toArray] w fun e w' => e = .returned (.agg (ints .u8 D).toArray) ∧ Below w.heap.size w w' := by
  rw [← hD]; exact xbranch_any w hG k ls rs hl hr
end Go.Proofs.YtbjahdbmkcamoaaGreatDoor
