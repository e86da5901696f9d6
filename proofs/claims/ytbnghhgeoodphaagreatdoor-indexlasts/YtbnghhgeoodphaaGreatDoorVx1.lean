import Derived.Test.YtbnghhgeoodphaaGreatDoorVa9
import Derived.Test.YtbnghhgeoodphaaGreatDoorDb1
namespace Go.Proofs.YtbnghhgeoodphaaGreatDoor
set_option maxRecDepth 100000
set_option maxHeartbeats 40000000
set_option linter.unusedVariables false
set_option linter.unusedSimpArgs false
open Go.RowKit
attribute [local go_sem ↓] Go.wp_at_zero Go.wp_at_succ
def branchT (n : Nat) (l r : List Int) : List Int := 1 :: (l.take n ++ r.take n)
theorem rws3 {w : World} {B t : Nat} {fr : Nat × Nat} {s1 s2 s3 : Option Addr} {c1 c2 c3 : Nat} {z1 z2 z3 : List Int} (h : w.heap[B]? = some (.cells #[.slice s1 z1.length c1, .slice s2 z2.length c2, .slice s3 z3.length c3] t fr))
   (h1 : Src w s1 c1 z1) (h2 : Src w s2 c2 z2) (h3 : Src w s3 c3 z3) (n1 : s1 = none -> c1 = 0) (n2 : s2 = none -> c2 = 0) (n3 : s3 = none -> c3 = 0) : Rws w (some ⟨B, 0, none⟩) [z1, z2, z3] := by
 refine ⟨B, 0, hlt h, fun _ => rfl, fun r hr => ?_⟩
 match r, hr with
 | 0, _ => exact ⟨s1, c1, by rw [cell_of_row _ _ _ _ _ _ h]; rfl, n1, h1⟩
 | 1, _ => exact ⟨s2, c2, by rw [cell_of_row _ _ _ _ _ _ h]; rfl, n2, h2⟩
 | 2, _ => exact ⟨s3, c3, by rw [cell_of_row _ _ _ _ _ _ h]; rfl, n3, h3⟩
 | n + 3, h => exact absurd h (by simp)
theorem Own.lower {w : World} {b0 b1 : Nat} {v : Value} {zs : List Int} (h : Own w b1 v zs) (hb : b0 <= b1) : Own w b0 v zs := by
 refine ⟨h.1, ?_⟩
 rcases h.2 with h2 | ⟨g, cap, cur, rfl, hg, r⟩
 · exact Or.inl h2
 · exact Or.inr ⟨g, cap, cur, rfl, Nat.le_trans hb hg, r⟩
theorem src_arr {w : World} {g t : Nat} {zs : List Int} (h : w.heap[g]? = some (.cells (ints .u8 zs).toArray t (0, 0))) (n cap : Nat) (hn : n <= zs.length) (hc : n <= cap) (hm : cap <= maxLen) : Src w (some ⟨g, 0, none⟩) cap (zs.take n) := by
 have hl : (zs.take n).length = n := by simp; omega
 refine ⟨by omega, hm, g, 0, fun _ => hlt h, fun _ => rfl, fun j hj => ?_⟩
 rw [Nat.zero_add, cell_ints h j (by omega), List.getD_eq_getElem?_getD, List.getD_eq_getElem?_getD, List.getElem?_take, if_pos (by omega)]
theorem bconcat (w w3 : World) (ls rs : List Int) (hl : ls.length = 32) (hr : rs.length = 32) (n : Nat) (hn : n <= 32) (z : List Int) (hz : branchT n ls rs = z)
   (h3 : w3 = ((((w.alloc (.cells (ints .u8 ls).toArray 47)).alloc (.cells (ints .u8 rs).toArray 47)).alloc (.cells #[.int .u8 1] 5)).alloc (.cells #[.slice (some ⟨w.heap.size + 1 + 1, 0, none⟩) 1 1, .slice (some ⟨w.heap.size, 0, none⟩) n 32, .slice (some ⟨w.heap.size + 1, 0, none⟩) n 32] 58)).drew) :
   Calls Tryz.prog 120 #[.slice (some ⟨w.heap.size + 1 + 1 + 1, 0, none⟩) 3 3] w3 fun e w' => ∃ spv capv, e = .returned (.slice spv z.length capv) /\ Own w' w.heap.size (.slice spv z.length capv) z /\ Below w.heap.size w w' := by
 have hB := (((((Below.refl w.heap.size w).alloc (Nat.le_refl _) (.cells (ints .u8 ls).toArray 47)).alloc (by simp) (.cells (ints .u8 rs).toArray 47)).alloc (by simp; omega) (.cells #[.int .u8 1] 5)).alloc (by simp; omega) (.cells #[.slice (some ⟨w.heap.size + 1 + 1, 0, none⟩) 1 1, .slice (some ⟨w.heap.size, 0, none⟩) n 32, .slice (some ⟨w.heap.size + 1, 0, none⟩) n 32] 58)).drew
 have g0 : w3.heap[w.heap.size]? = some (.cells (ints .u8 ls).toArray 47) := by rw [h3]; exact hold (hold (hold (hnew w _)))
 have g1 : w3.heap[w.heap.size + 1]? = some (.cells (ints .u8 rs).toArray 47) := by rw [h3]; exact hold (hold (by have := hnew (w.alloc (.cells (ints .u8 ls).toArray 47)) (.cells (ints .u8 rs).toArray 47); simpa using this))
 have g2 : w3.heap[w.heap.size + 1 + 1]? = some (.cells (ints .u8 [1]).toArray 5) := by
   rw [h3]
   have := hnew ((w.alloc (.cells (ints .u8 ls).toArray 47)).alloc (.cells (ints .u8 rs).toArray 47)) (.cells #[.int .u8 1] 5)
   rw [show ((w.alloc (.cells (ints .u8 ls).toArray 47)).alloc (.cells (ints .u8 rs).toArray 47)).heap.size = w.heap.size + 1 + 1 by simp] at this
   exact hold this
 have g3 : w3.heap[w.heap.size + 1 + 1 + 1]? = some (.cells #[.slice (some ⟨w.heap.size + 1 + 1, 0, none⟩) 1 1, .slice (some ⟨w.heap.size, 0, none⟩) n 32, .slice (some ⟨w.heap.size + 1, 0, none⟩) n 32] 58) := by
   rw [h3]
   have := hnew (((w.alloc (.cells (ints .u8 ls).toArray 47)).alloc (.cells (ints .u8 rs).toArray 47)).alloc (.cells #[.int .u8 1] 5)) (.cells #[.slice (some ⟨w.heap.size + 1 + 1, 0, none⟩) 1 1, .slice (some ⟨w.heap.size, 0, none⟩) n 32, .slice (some ⟨w.heap.size + 1, 0, none⟩) n 32] 58)
   rw [show (((w.alloc (.cells (ints .u8 ls).toArray 47)).alloc (.cells (ints .u8 rs).toArray 47)).alloc (.cells #[.int .u8 1] 5)).heap.size = w.heap.size + 1 + 1 + 1 by simp] at this
   exact this
 rw [<- h3] at hB
 have el : (ls.take n).length = n := by simp; omega
 have er : (rs.take n).length = n := by simp; omega
 have hR : Rws w3 (some ⟨w.heap.size + 1 + 1 + 1, 0, none⟩) [[1], ls.take n, rs.take n] := by
   refine rws3 (c1 := 1) (c2 := 32) (c3 := 32) (by rw [el, er]; exact g3) ?_ ?_ ?_ (fun h => by cases h) (fun h => by cases h) (fun h => by cases h)
   · exact src_row (zs := [1]) (tl := []) g2 1 (by simp) (by simp [maxLen])
   · exact src_arr g0 n 32 (by omega) (by omega) (by simp [maxLen])
   · exact src_arr g1 n 32 (by omega) (by omega) (by simp [maxLen])
 have e0 : ([[1], ls.take n, rs.take n] : List (List Int)).flatten = z := by rw [<- hz]; simp [branchT]
 have hc := concat_any w3 [[1], ls.take n, rs.take n] (some ⟨w.heap.size + 1 + 1 + 1, 0, none⟩) 3 hR (by simp) (by simp; omega)
 rw [show ([[1], ls.take n, rs.take n] : List (List Int)).length = 3 from rfl, e0] at hc
 refine hc.mono ?_
 rintro e w4 ⟨v, rfl, hO, hB4⟩
 obtain ⟨spv, capv, rfl, -, -⟩ := hO.form
 exact ⟨spv, capv, rfl, hO.lower hB.size, hB.trans (hB4.mono hB.size)⟩
theorem branchText_mid (w : World) (n : Nat) (hn : n <= 32) (ls rs : List Int) (hl : ls.length = 32) (hr : rs.length = 32) :
   Calls Tryz.prog 90 #[.int .i64 n, .agg (ints .u8 ls).toArray, .agg (ints .u8 rs).toArray] w fun e w' => ∃ v, e = .returned v /\ Own w' w.heap.size v (branchT n ls rs) /\ Below w.heap.size w w' := by
 have i0 : (0 : Int) <= n := by omega
 have i1 : (n : Int) <= 32 := by omega
 obtain ⟨z, hz⟩ : ∃ z, branchT n ls rs = z := ⟨_, rfl⟩
 rw [hz]
 have HC := hid (fun w3 => bconcat w w3 ls rs hl hr n hn z hz)
 clear hz
 go_enter Tryz.func90, Tryz.ntmps90
 go_wp2
 go_region_held3 (fun w' => True) (trivial) (first | (go_at_call 120; refine (HC.out _ (by rfl)).mono ?_; rintro e w4 ⟨spv, capv, rfl, hO, hB4⟩))
 go_wp2
 go_ret
 exact ⟨_, rfl, hO, hB4⟩
theorem branchText_low (w : World) (k : Int) (hk : k < 0) (ls rs : List Int) (hl : ls.length = 32) (hr : rs.length = 32) :
   Calls Tryz.prog 90 #[.int .i64 k, .agg (ints .u8 ls).toArray, .agg (ints .u8 rs).toArray] w fun e w' => ∃ v, e = .returned v /\ Own w' w.heap.size v (branchT 0 ls rs) /\ Below w.heap.size w w' := by
 obtain ⟨z, hz⟩ : ∃ z, branchT 0 ls rs = z := ⟨_, rfl⟩
 rw [hz]
 have HC := hid (fun w3 => bconcat w w3 ls rs hl hr 0 (by omega) z hz)
 clear hz
 go_enter Tryz.func90, Tryz.ntmps90
 go_wp2
 go_region_held3 (fun w' => True) (trivial) (first | (go_at_call 120; refine (HC.out _ (by rfl)).mono ?_; rintro e w4 ⟨spv, capv, rfl, hO, hB4⟩))
 go_wp2
 go_ret
 exact ⟨_, rfl, hO, hB4⟩
theorem branchText_high (w : World) (k : Int) (hk : 32 < k) (ls rs : List Int) (hl : ls.length = 32) (hr : rs.length = 32) :
   Calls Tryz.prog 90 #[.int .i64 k, .agg (ints .u8 ls).toArray, .agg (ints .u8 rs).toArray] w fun e w' => ∃ v, e = .returned v /\ Own w' w.heap.size v (branchT 32 ls rs) /\ Below w.heap.size w w' := by
 have i0 : (0 : Int) < k := by omega
 obtain ⟨z, hz⟩ : ∃ z, branchT 32 ls rs = z := ⟨_, rfl⟩
 rw [hz]
 have HC := hid (fun w3 => bconcat w w3 ls rs hl hr 32 (by omega) z hz)
 clear hz
 go_enter Tryz.func90, Tryz.ntmps90
 go_wp2
 go_region_held3 (fun w' => True) (trivial) (first | (go_at_call 120; refine (HC.out _ (by rfl)).mono ?_; rintro e w4 ⟨spv, capv, rfl, hO, hB4⟩))
 go_wp2
 go_ret
 exact ⟨_, rfl, hO, hB4⟩
theorem branchText_any (w : World) (k : Int) (ls rs : List Int) (hl : ls.length = 32) (hr : rs.length = 32) :
   Calls Tryz.prog 90 #[.int .i64 k, .agg (ints .u8 ls).toArray, .agg (ints .u8 rs).toArray] w fun e w' => ∃ v, e = .returned v /\ Own w' w.heap.size v (branchT (kept k) ls rs) /\ Below w.heap.size w w' := by
 by_cases a : k < 0
 · rw [show kept k = 0 by unfold kept; omega]; exact branchText_low w k a ls rs hl hr
 · by_cases b : 32 < k
   · rw [show kept k = 32 by unfold kept; omega]; exact branchText_high w k b ls rs hl hr
   · obtain ⟨n, rfl⟩ := Int.eq_ofNat_of_zero_le (by omega : 0 <= k)
     rw [show kept (n : Int) = n by unfold kept; omega]; exact branchText_mid w n (by omega) ls rs hl hr
def cutZ (zs : List Int) (n : Nat) : List Int := splice (List.replicate 32 0) 0 (zs.take n)
theorem cutV_ints (zs : List Int) (n : Nat) : cutV (ints .u8 zs) n = ints .u8 (cutZ zs n) := by
 simp [cutV, cutZ, ints, splice, zero32, List.map_take]
theorem cutZ_len (zs : List Int) (n : Nat) (h : zs.length = 32) : (cutZ zs n).length = 32 := by
 unfold cutZ; rw [length_splice _ _ _ (by simp; omega)]; simp
def branchD (k : Int) (l r : List Int) : List Int := cutZ (sha (branchT (kept k) l r)) (kept k)
def emptyD (k : Int) : Nat -> List Int
 | 0 => cutZ (sha [2]) (kept k)
 | h + 1 => branchD k (emptyD k h) (emptyD k h)
theorem branchD_len (k : Int) (l r : List Int) : (branchD k l r).length = 32 := cutZ_len _ _ (sha_len _)
theorem emptyD_len (k : Int) : ∀ h, (emptyD k h).length = 32
 | 0 => cutZ_len _ _ (sha_len _)
 | h + 1 => branchD_len _ _ _
theorem cutD_any (zs : List Int) (hl : zs.length = 32) (k : Int) (w : World) :
   Calls Tryz.prog 58 #[.agg (ints .u8 zs).toArray, .int .i64 k] w fun e w' => e = .returned (.agg (ints .u8 (cutZ zs (kept k))).toArray) /\ Below w.heap.size w w' := by
 have := cut_any (ints .u8 zs) (by rw [ints_len, hl]) (ints_one _ _) k w
 rwa [cutV_ints] at this
def hgt (k : Int) : Nat := (min (max k 0) 256).toNat
theorem hgt_le (k : Int) : hgt k <= 256 := by unfold hgt; omega
theorem within_any (k : Int) (w : World) : Calls Tryz.prog 60 #[.int .i64 k] w fun e w' => e = .returned (.int .i64 (hgt k)) /\ w' = w := by
 by_cases a : k < 0
 · rw [show hgt k = 0 by unfold hgt; omega]
   go_enter Tryz.func60, Tryz.ntmps60
   go_wp2
   go_ret
   exact ⟨rfl, rfl⟩
 · by_cases b : 256 < k
   · rw [show hgt k = 256 by unfold hgt; omega]
     have i0 : (0 : Int) < k := by omega
     go_enter Tryz.func60, Tryz.ntmps60
     go_wp2
     go_ret
     exact ⟨rfl, rfl⟩
   · obtain ⟨n, rfl⟩ := Int.eq_ofNat_of_zero_le (by omega : 0 <= k)
     rw [show hgt (n : Int) = n by unfold hgt; omega]
     have i0 : (0 : Int) <= n := by omega
     have i1 : (n : Int) <= 256 := by omega
     go_enter Tryz.func60, Tryz.ntmps60
     go_wp2
     go_ret
     exact ⟨rfl, rfl⟩
theorem branch_any (w : World) (hG : Glob w) (k : Int) (ls rs : List Int) (hl : ls.length = 32) (hr : rs.length = 32) :
   Calls Tryz.prog 61 #[.int .i64 k, .agg (ints .u8 ls).toArray, .agg (ints .u8 rs).toArray] w fun e w' => e = .returned (.agg (ints .u8 (branchD k ls rs)).toArray) /\ Below w.heap.size w w' := by
 obtain ⟨D, hD⟩ : ∃ D, branchD k ls rs = D := ⟨_, rfl⟩
 have hDl : D.length = 32 := by rw [<- hD]; exact branchD_len _ _ _
 rw [hD]
 have HD := hid hD
 clear hD
 have hz32 : z32.length = 32 := rfl
 have hB1 := ((((Below.refl w.heap.size w).alloc (Nat.le_refl _) (.cells (ints .u8 ls).toArray 47)).alloc (by simp) (.cells (ints .u8 rs).toArray 47)).alloc (by simp; omega) (.cells (ints .u8 z32).toArray 47))
 have g0 : (((w.alloc (.cells (ints .u8 ls).toArray 47)).alloc (.cells (ints .u8 rs).toArray 47)).alloc (.cells (ints .u8 z32).toArray 47)).heap[w.heap.size]? = some (.cells (ints .u8 ls).toArray 47) := by
   have h := hnew w (.cells (ints .u8 ls).toArray 47)
   exact hold (hold (h))
 have g1 : (((w.alloc (.cells (ints .u8 ls).toArray 47)).alloc (.cells (ints .u8 rs).toArray 47)).alloc (.cells (ints .u8 z32).toArray 47)).heap[w.heap.size + 1]? = some (.cells (ints .u8 rs).toArray 47) := by
   have h := hnew (w.alloc (.cells (ints .u8 ls).toArray 47)) (.cells (ints .u8 rs).toArray 47)
   rw [show (w.alloc (.cells (ints .u8 ls).toArray 47)).heap.size = w.heap.size + 1 by simp] at h
   exact hold (h)
 have g2 : (((w.alloc (.cells (ints .u8 ls).toArray 47)).alloc (.cells (ints .u8 rs).toArray 47)).alloc (.cells (ints .u8 z32).toArray 47)).heap[w.heap.size + 1 + 1]? = some (.cells (ints .u8 z32).toArray 47) := by
   have h := hnew ((w.alloc (.cells (ints .u8 ls).toArray 47)).alloc (.cells (ints .u8 rs).toArray 47)) (.cells (ints .u8 z32).toArray 47)
   rw [show ((w.alloc (.cells (ints .u8 ls).toArray 47)).alloc (.cells (ints .u8 rs).toArray 47)).heap.size = w.heap.size + 1 + 1 by simp] at h
   exact h
 have hs1 : (((w.alloc (.cells (ints .u8 ls).toArray 47)).alloc (.cells (ints .u8 rs).toArray 47)).alloc (.cells (ints .u8 z32).toArray 47)).heap.size = w.heap.size + 1 + 1 + 1 := by simp
 go_enter Tryz.func61, Tryz.ntmps61
 go_wp2_with (first | refine wpList_load_row rfl 47 _ rfl _ rfl 47 _ _ _ g0 Tryz.underlying47 rfl (by rw [ints_size, hl]; rfl) ?_ | refine wpList_load_row rfl 47 _ rfl _ rfl 47 _ _ _ g1 Tryz.underlying47 rfl (by rw [ints_size, hr]; rfl) ?_)
 show Calls Tryz.prog 90 _ (((w.alloc (.cells (ints .u8 ls).toArray 47)).alloc (.cells (ints .u8 rs).toArray 47)).alloc (.cells (ints .u8 z32).toArray 47)) _
 generalize (((w.alloc (.cells (ints .u8 ls).toArray 47)).alloc (.cells (ints .u8 rs).toArray 47)).alloc (.cells (ints .u8 z32).toArray 47)) = w1 at *
 have hG1 := hG.below hB1 hG.1
 refine (branchText_any w1 k ls rs hl hr).mono ?_
 rintro e w2 ⟨v, rfl, hO, hB2⟩
 obtain ⟨spv, capv, rfl, hSv, hnv⟩ := hO.form
 have hB2' : Below w.heap.size w w2 := hB1.trans (hB2.mono (by omega))
 have hG2 := hG.below hB2' hG.1
 have KD := hid (dsum_any w2 _ spv capv hSv hG2 (by have := kept_le k; simp only [branchT, List.length_cons, List.length_append, List.length_take]; omega))
 have q2 := hbel hB2 g2 (hlt g2)
 have hs2 := hB2.size
 clear hO hSv hG1 hG2 hB2 hB1 g0 g1 g2
 generalize hX : branchT (kept k) ls rs = X at *
 have HX := hid hX
 clear hX
 go_wp2_with fail
 refine KD.out.mono ?_
 rintro e w3 ⟨rfl, hB3⟩
 have q3 := hbel hB3 q2 (hlt q2)
 have hB3' := hB2'.trans (hB3.mono (by omega))
 have hs3 := hB3.size
 have KC := hid (cutD_any (sha X) (sha_len X) k w3)
 rw [show cutZ (sha X) (kept k) = D by rw [<- HD.out, <- HX.out]; rfl] at KC
 clear KD hB3 hB2' q2
 go_wp2_with fail
 refine KC.out.mono ?_
 rintro e w4 ⟨rfl, hB4⟩
 have q4 := hbel hB4 q3 (hlt q3)
 have hB4' := hB3'.trans (hB4.mono (by omega))
 have ho := all_oneCell_toArray (ints_one .u8 D)
 clear KC hB4 hB3' q3
 go_wp2_with (first | refine wpList_store_row rfl 47 _ _ rfl _ _ rfl rfl 47 _ q4 (by rw [Tryz.size47, ints_size, hDl]) (by rw [ints_size, ints_size, hDl, hz32]) ho ?_)
 exact bodyPost_ret (v := .agg (ints .u8 D).toArray) (results_cell_row Tryz.results61 _ _ (w.heap.size + 1 + 1) 47 _ _ _ rfl (setRow_heap _ _ _ _ _ _ q4) Tryz.underlying47 rfl (by rw [Tryz.size47, ints_size, hDl])) rfl ⟨rfl, below_setRow hB4' (by omega) _⟩
theorem branch_to (w : World) (hG : Glob w) (k : Int) (ls rs D : List Int) (hl : ls.length = 32) (hr : rs.length = 32) (hD : branchD k ls rs = D) :
   Calls Tryz.prog 61 #[.int .i64 k, .agg (ints .u8 ls).toArray, .agg (ints .u8 rs).toArray] w fun e w' => e = .returned (.agg (ints .u8 D).toArray) /\ Below w.heap.size w w' := by
 rw [<- hD]; exact branch_any w hG k ls rs hl hr
theorem dig_set {w : World} {g t : Nat} {D E : List Int} (h : w.heap[g]? = some (.cells (ints .u8 D).toArray t (0, 0))) : (w.setRow g (ints .u8 E).toArray).heap[g]? = some (.cells (ints .u8 E).toArray t (0, 0)) := setRow_heap _ _ _ _ _ _ h
theorem empty_any (w : World) (hG : Glob w) (k h : Int) :
   Calls Tryz.prog 27 #[.int .i64 k, .int .i64 h] w fun e w' => e = .returned (.agg (ints .u8 (emptyD k (hgt h))).toArray) /\ Below w.heap.size w w' := by
 have hz32 : z32.length = 32 := rfl
 have KW := hid (within_any h)
 have hn := hgt_le h
 generalize hgt h = n at *
 have hB1 := ((Below.refl w.heap.size w).alloc (Nat.le_refl _) (.cells (ints .u8 z32).toArray 47)).alloc (by simp) (.cells #[.int .u8 2] 5)
 have g0 : ((w.alloc (.cells (ints .u8 z32).toArray 47)).alloc (.cells #[.int .u8 2] 5)).heap[w.heap.size]? = some (.cells (ints .u8 z32).toArray 47) := hold (hnew w _)
 have g1 : ((w.alloc (.cells (ints .u8 z32).toArray 47)).alloc (.cells #[.int .u8 2] 5)).heap[w.heap.size + 1]? = some (.cells (ints .u8 ([2] ++ [])).toArray 5) := by
   have h := hnew (w.alloc (.cells (ints .u8 z32).toArray 47)) (.cells #[.int .u8 2] 5)
   rw [show (w.alloc (.cells (ints .u8 z32).toArray 47)).heap.size = w.heap.size + 1 by simp] at h
   exact h
 go_enter Tryz.func27, Tryz.ntmps27
 go_wp2_with fail
 show Calls Tryz.prog 59 _ ((w.alloc (.cells (ints .u8 z32).toArray 47)).alloc (.cells #[.int .u8 2] 5)) _
 generalize ((w.alloc (.cells (ints .u8 z32).toArray 47)).alloc (.cells #[.int .u8 2] 5)) = w1 at *
 have hS1 : Src w1 (some ⟨w.heap.size + 1, 0, none⟩) 1 [2] := src_row g1 1 (by simp) (by simp [maxLen])
 refine (dsum_any w1 [2] _ 1 hS1 (hG.below hB1 hG.1) (by simp)).mono ?_
 rintro e w2 ⟨rfl, hB2⟩
 have q2 := hbel hB2 g0 (hlt g0)
 have hB2' := hB1.trans (hB2.mono hB1.size)
 have hsl := sha_len [2]
 have HE := hid (show cutZ (sha [2]) (kept k) = emptyD k 0 from rfl)
 generalize sha [2] = S at *
 clear hS1 g0 g1 hB2 hB1
 go_wp2_with fail
 refine (cutD_any S hsl k w2).mono ?_
 rintro e w3 ⟨rfl, hB3⟩
 have q3 := hold (o := .cells (ints .u8 z32).toArray 47) (hbel hB3 q2 (hlt q2))
 have r3 := hnew w3 (.cells (ints .u8 z32).toArray 47)
 have hB3' := (hB2'.trans (hB3.mono hB2'.size))
 have hE3 : w.heap.size < w3.heap.size := Nat.lt_of_lt_of_le (hlt q2) hB3.size
 have hB4' := hB3'.alloc (by omega) (.cells (ints .u8 z32).toArray 47)
 rw [HE.out]
 clear hB3 hB2' q2 HE hB3'
 have hcl := emptyD_len k 0
 have ho := all_oneCell_toArray (ints_one .u8 (emptyD k 0))
 go_wp2_with (first | refine wpList_store_row rfl 47 _ _ rfl _ _ rfl rfl 47 _ r3 (by rw [Tryz.size47, ints_size, hcl]) (by rw [ints_size, ints_size, hcl, hz32]) ho ?_ | (go_at_call 60; refine (KW.out _).mono ?_; rintro e w5 ⟨rfl, rfl⟩))
 have hbs := below_setRow hB4' (Nat.le_of_lt hE3) (ints .u8 (emptyD k 0)).toArray
 have q5 := (setRow_other (w3.alloc (.cells (ints .u8 z32).toArray 47)) w3.heap.size w.heap.size (ints .u8 (emptyD k 0)).toArray (by omega)).trans q3
 have r5 := dig_set (E := emptyD k 0) r3
 generalize w3.heap.size = E at *
 clear q3 r3 hB4' ho hcl
 go_loopw [12] (fun i wr => ∃ j : Nat, j <= n /\ i = .int .i64 j /\ wr.heap[w.heap.size]? = some (.cells (ints .u8 z32).toArray 47) /\ wr.heap[E]? = some (.cells (ints .u8 (emptyD k j)).toArray 47) /\ Below w.heap.size w wr) (fun i _ => n - (intOf i).toNat)
 case atStart => exact ⟨0, by omega, rfl, q5, r5, hbs⟩
 case round =>
   clear q5 r5 hbs
   obtain ⟨j, hj, rfl, q, r, hB⟩ := hrel
   have hcl := emptyD_len k j
   by_cases hlt' : j < n
   · have i1 : (j : Int) < (n : Int) := by omega
     have i2 : (n : Int) <= 256 := by omega
     have hGr := hG.below hB hG.1
     have hcl2 := emptyD_len k (j + 1)
     have KB := hid (branch_to wr hGr k (emptyD k j) (emptyD k j) (emptyD k (j + 1)) hcl hcl rfl)
     generalize hD2 : emptyD k (j + 1) = D2 at *
     have HD2 := hid hD2
     clear hD2
     generalize emptyD k j = D1 at *
     go_wp2_with (first | refine wpList_load_row rfl 47 _ rfl _ rfl 47 _ _ _ r Tryz.underlying47 rfl (by rw [ints_size, hcl]; rfl) ?_)
     refine KB.out.mono ?_
     rintro e w7 ⟨rfl, hB7⟩
     have q7 := hbel hB7 q (hlt q)
     have r7 := hbel hB7 r (hlt r)
     have hB7' := hB.trans (hB7.mono hB.size)
     have ho := all_oneCell_toArray (ints_one .u8 D2)
     clear KB hB7 q r
     go_wp2_with (first | refine wpList_store_row rfl 47 _ _ rfl _ _ rfl rfl 47 _ r7 (by rw [Tryz.size47, ints_size, hcl2]) (by rw [ints_size, ints_size, hcl2, hcl]) ho ?_)
     go_roundw
     case rel => exact ⟨j + 1, by omega, by go_num, (setRow_other _ _ _ _ (by omega)).trans q7, (by rw [HD2.out]; exact dig_set r7), below_setRow hB7' (by omega) _⟩
     case measure => simp [intOf]; omega
   · obtain rfl : j = n := by omega
     clear hlt'
     generalize hD1 : emptyD k j = D1 at *
     have HD1 := hid hD1
     clear hD1
     have ho := all_oneCell_toArray (ints_one .u8 D1)
     go_wp2_with (first | refine wpList_load_row rfl 47 _ rfl _ rfl 47 _ _ _ r Tryz.underlying47 rfl (by rw [ints_size, hcl]; rfl) ?_ | refine wpList_store_row rfl 47 _ _ rfl _ _ rfl rfl 47 _ q (by rw [Tryz.size47, ints_size, hcl]) (by rw [ints_size, ints_size, hcl, hz32]) ho ?_)
     exact bodyPost_ret (v := .agg (ints .u8 D1).toArray) (results_cell_row Tryz.results27 _ _ w.heap.size 47 _ _ _ rfl (setRow_heap _ _ _ _ _ _ q) Tryz.underlying47 rfl (by rw [Tryz.size47, ints_size, hcl])) rfl ⟨by rw [HD1.out], below_setRow hB (by omega) _⟩
end Go.Proofs.YtbnghhgeoodphaaGreatDoor
