import Derived.Test.YtbjahdbmkcamoaaGreatDoorVe9
namespace Go.Proofs.YtbjahdbmkcamoaaGreatDoor
set_option linter.unusedVariables false
set_option linter.unusedSimpArgs false
open Go.RowKit
attribute [local go_sem ↓] Go.wp_at_zero Go.wp_at_succ

set_option maxRecDepth 100000 in
set_option maxHeartbeats 400000 in
theorem xwithin_any (k lo hi : Int) (h : lo ≤ hi) (w : World) : Calls Tryz.prog 60 #[.int .i64 k, .int .i64 lo, .int .i64 hi] w fun e w' => e = .returned (.int .i64 (min (max k lo) hi)) ∧ w' = w := by
  by_cases a : k < lo
  · rw [show min (max k lo) hi = lo by omega]
    go_enter Tryz.func60, Tryz.ntmps60
    go_wp2
    go_ret
    exact ⟨rfl, rfl⟩
  · by_cases b : hi < k
    · rw [show min (max k lo) hi = hi by omega]
      go_enter Tryz.func60, Tryz.ntmps60
      go_wp2
      go_ret
      exact ⟨rfl, rfl⟩
    · rw [show min (max k lo) hi = k by omega]
      go_enter Tryz.func60, Tryz.ntmps60
      go_wp2
      go_ret
      exact ⟨rfl, rfl⟩
theorem take_snoc (zs : List Int) (k : Nat) (h : k < zs.length) : zs.take (k + 1) = zs.take k ++ [zs.getD k 0] := by
  rw [List.take_succ_eq_append_getElem h, List.getD_eq_getElem?_getD, List.getElem?_eq_getElem h]; rfl
theorem own_one (w : World) (base : Nat) (x : Int) (h : base ≤ w.heap.size) : Own (w.alloc (.cells #[.int .u8 x] 5)) base (.slice (some ⟨w.heap.size, 0, none⟩) 1 1) [x] :=
  ⟨rfl, Or.inr ⟨w.heap.size, 1, _, rfl, h, hnew w _, Nat.le_refl _, by simp [maxLen], rfl, rfl⟩⟩
theorem Own.low {w : World} {b0 b1 : Nat} {v : Value} {zs : List Int} (h : Own w b1 v zs) (hb : b0 ≤ b1) : Own w b0 v zs := h.lower hb
set_option maxRecDepth 100000 in
set_option maxHeartbeats 1000000 in
theorem xleafText_any (w : World) (ks vs : List Int) (hk : ks.length = 32) (sp : Option Addr) (cap : Nat) (hS : Src w sp cap vs) (hlen : vs.length ≤ 140737488353000) :
    Calls Tryz.prog 59 #[.agg (ints .u8 ks).toArray, .slice sp vs.length cap] w fun e w' => ∃ v, e = .returned v ∧ Own w' w.heap.size v (leafT ks vs) ∧ Below w.heap.size w w' := by
  obtain ⟨hc, hm, b, o, hb, hsp, hsrc⟩ := hS
  unfold maxLen at hm
  have i0 : (vs.length : Int) ≤ 140737488353000 := by omega
  have hA := (Below.refl w.heap.size w).alloc (Nat.le_refl _) (.cells (ints .u8 ks).toArray 24)
  have hO1 := own_one (w.alloc (.cells (ints .u8 ks).toArray 24)) (w.heap.size + 1) 0 (by simp)
  have hB1 := (Below.refl (w.heap.size + 1) (w.alloc (.cells (ints .u8 ks).toArray 24))).alloc (by simp) (.cells #[.int .u8 0] 5)
  rw [show (w.alloc (.cells (ints .u8 ks).toArray 24)).heap.size = w.heap.size + 1 by simp] at hO1
  have HL := hid (show leafT ks vs = [0] ++ ks.take 32 ++ vs.take vs.length by rw [List.take_length, List.take_of_length_le (by omega)]; simp [leafT])
  go_enter Tryz.func59, Tryz.ntmps59
  go_wp2
  go_loopw [5, 6] (fun v i wr => ∃ k : Nat, k ≤ 32 ∧ i = .int .i64 k ∧ Own wr (w.heap.size + 1) v ([0] ++ ks.take k) ∧ Below (w.heap.size + 1) (w.alloc (.cells (ints .u8 ks).toArray 24)) wr) (fun _ i _ => 32 - (intOf i).toNat)
  case atStart => exact ⟨0, Nat.zero_le _, rfl, hO1, hB1⟩
  case round =>
    clear hO1 hB1
    obtain ⟨k, hkn, rfl, hO, hB⟩ := hrel
    by_cases hlt' : k < 32
    · have i1 : (k : Int) < 32 := by omega
      have c0 := cell_ints (hbel hB (hnew w (.cells (ints .u8 ks).toArray 24)) (by omega)) k (by omega)
      have HT := hid (take_snoc ks k (by omega))
      generalize ks.getD k 0 = x at *
      obtain ⟨zk, hzk⟩ : ∃ zk, zk = [0] ++ ks.take k := ⟨_, rfl⟩
      have KL := hid (show zk.length + 1 ≤ 140737488355328 by rw [hzk]; simp only [List.length_append, List.length_take, List.length_cons, List.length_nil]; omega)
      rw [← hzk] at hO
      have HZ := hid hzk
      clear hzk
      obtain ⟨spv, capv, rfl, -, -⟩ := hO.form
      have HBs := hid hB.size
      go_wp2_with (first | (at_builtin; refine wpList_push_any rfl (.tmp 13) (.tmp 17) rfl (w.heap.size + 1) _ _ x rfl hO rfl KL.out (by have := HBs.out; simp at this ⊢; omega) _ _ ?_; intro v2 w2 hO2 hB2))
      go_roundw
      case rel => exact ⟨k + 1, by omega, by go_num, by have h2 := hO2; rw [HZ.out] at h2; rw [HT.out]; simpa using h2, hB.trans hB2⟩
      case measure => simp [intOf]; omega
    · obtain rfl : 32 = k := by omega
      clear hlt'
      obtain ⟨spv, capv, rfl, -, -⟩ := hO.form
      go_wp2
      go_loopw [5, 7] (fun v i wr => ∃ k : Nat, k ≤ vs.length ∧ i = .int .i64 k ∧ Own wr (w.heap.size + 1) v (([0] ++ ks.take 32) ++ vs.take k) ∧ Below (w.heap.size + 1) (w.alloc (.cells (ints .u8 ks).toArray 24)) wr) (fun _ i _ => vs.length - (intOf i).toNat)
      case atStart => exact ⟨0, Nat.zero_le _, rfl, by rw [show vs.take 0 = [] from rfl, List.append_nil]; exact hO, hB⟩
      case round =>
        clear hO hB
        obtain ⟨k, hkn, rfl, hO, hB⟩ := hrel
        by_cases hlt' : k < vs.length
        · have i1 : (k : Int) < ((vs.length : Nat) : Int) := by omega
          obtain rfl := hsp (by omega)
          have c0 := ((hA.trans (hB.mono (by omega))).cell (p := ⟨b, o + k, none⟩) (hb (by omega))).trans (hsrc k hlt')
          have HT := hid (take_snoc vs k (hlt'))
          generalize vs.getD k 0 = x at *
          obtain ⟨zk, hzk⟩ : ∃ zk, zk = ([0] ++ ks.take 32) ++ vs.take k := ⟨_, rfl⟩
          have KL := hid (show zk.length + 1 ≤ 140737488355328 by rw [hzk]; simp only [List.length_append, List.length_take, List.length_cons, List.length_nil]; omega)
          rw [← hzk] at hO
          have HZ := hid hzk
          clear hzk
          obtain ⟨spv, capv, rfl, -, -⟩ := hO.form
          have HBs := hid hB.size
          go_wp2_with (first | (at_builtin; refine wpList_push_any rfl (.tmp 25) (.tmp 30) rfl (w.heap.size + 1) _ _ x rfl hO rfl KL.out (by have := HBs.out; simp at this ⊢; omega) _ _ ?_; intro v2 w2 hO2 hB2))
          go_roundw
          case rel => exact ⟨k + 1, by omega, by go_num, by have h2 := hO2; rw [HZ.out] at h2; rw [HT.out]; simpa using h2, hB.trans hB2⟩
          case measure => simp [intOf]; omega
        · obtain rfl : vs.length = k := by omega
          clear hlt'
          obtain ⟨spv, capv, rfl, -, -⟩ := hO.form
          go_wp2
          go_ret
          exact ⟨_, rfl, (by rw [HL.out]; exact hO.low (by omega)), (hA.trans (hB.mono (by omega)))⟩
set_option maxRecDepth 100000 in
set_option maxHeartbeats 1000000 in
theorem xbranchText_any (w : World) (wd : Int) (ls rs : List Int) (hl : ls.length = 32) (hr : rs.length = 32) :
    Calls Tryz.prog 58 #[.int .i64 wd, .agg (ints .u8 ls).toArray, .agg (ints .u8 rs).toArray] w fun e w' => ∃ v, e = .returned v ∧ Own w' w.heap.size v (branchT (kept wd) ls rs) ∧ Below w.heap.size w w' := by
  have KW := hid (fun w1 => xwithin_any wd 0 32 (by decide) w1)
  rw [show min (max wd 0) 32 = ((kept wd : Nat) : Int) by unfold kept; omega] at KW
  have hn := kept_le wd
  generalize kept wd = n at *
  have i0 : (n : Int) ≤ 32 := by omega
  have hA := ((Below.refl w.heap.size w).alloc (Nat.le_refl _) (.cells (ints .u8 ls).toArray 28)).alloc (by simp) (.cells (ints .u8 rs).toArray 28)
  have g0 : ((w.alloc (.cells (ints .u8 ls).toArray 28)).alloc (.cells (ints .u8 rs).toArray 28)).heap[w.heap.size]? = some (.cells (ints .u8 ls).toArray 28) := hold (hnew w _)
  have g1 : ((w.alloc (.cells (ints .u8 ls).toArray 28)).alloc (.cells (ints .u8 rs).toArray 28)).heap[w.heap.size + 1]? = some (.cells (ints .u8 rs).toArray 28) := by
    have h := hnew (w.alloc (.cells (ints .u8 ls).toArray 28)) (.cells (ints .u8 rs).toArray 28)
    rwa [show (w.alloc (.cells (ints .u8 ls).toArray 28)).heap.size = w.heap.size + 1 by simp] at h
  have hO1 := own_one ((w.alloc (.cells (ints .u8 ls).toArray 28)).alloc (.cells (ints .u8 rs).toArray 28)) (w.heap.size + 1 + 1) 1 (by simp)
  have hB1 := (Below.refl (w.heap.size + 1 + 1) ((w.alloc (.cells (ints .u8 ls).toArray 28)).alloc (.cells (ints .u8 rs).toArray 28))).alloc (by simp) (.cells #[.int .u8 1] 5)
  rw [show ((w.alloc (.cells (ints .u8 ls).toArray 28)).alloc (.cells (ints .u8 rs).toArray 28)).heap.size = w.heap.size + 1 + 1 by simp] at hO1
  have HL := hid (show branchT n ls rs = [1] ++ ls.take n ++ rs.take n by simp [branchT])
  go_enter Tryz.func58, Tryz.ntmps58
  go_wp2_with (first | (go_at_call 60; refine (KW.out _).mono ?_; rintro e w5 ⟨rfl, hw5⟩; obtain rfl := hw5.symm))
  go_loopw [8, 9] (fun v i wr => ∃ k : Nat, k ≤ n ∧ i = .int .i64 k ∧ Own wr (w.heap.size + 1 + 1) v ([1] ++ ls.take k) ∧ Below (w.heap.size + 1 + 1) ((w.alloc (.cells (ints .u8 ls).toArray 28)).alloc (.cells (ints .u8 rs).toArray 28)) wr) (fun _ i _ => n - (intOf i).toNat)
  case atStart => exact ⟨0, Nat.zero_le _, rfl, hO1, hB1⟩
  case round =>
    clear hO1 hB1
    obtain ⟨k, hkn, rfl, hO, hB⟩ := hrel
    by_cases hlt' : k < n
    · have i1 : (k : Int) < ((n : Nat) : Int) := by omega
      have c0 := cell_ints (hbel hB g0 (by omega)) k (by omega)
      have HT := hid (take_snoc ls k (by omega))
      generalize ls.getD k 0 = x at *
      obtain ⟨zk, hzk⟩ : ∃ zk, zk = [1] ++ ls.take k := ⟨_, rfl⟩
      have KL := hid (show zk.length + 1 ≤ 140737488355328 by rw [hzk]; simp only [List.length_append, List.length_take, List.length_cons, List.length_nil]; omega)
      rw [← hzk] at hO
      have HZ := hid hzk
      clear hzk
      obtain ⟨spv, capv, rfl, -, -⟩ := hO.form
      have HBs := hid hB.size
      go_wp2_with (first | (at_builtin; refine wpList_push_any rfl (.tmp 19) (.tmp 23) rfl (w.heap.size + 1 + 1) _ _ x rfl hO rfl KL.out (by have := HBs.out; simp at this ⊢; omega) _ _ ?_; intro v2 w2 hO2 hB2))
      go_roundw
      case rel => exact ⟨k + 1, by omega, by go_num, by have h2 := hO2; rw [HZ.out] at h2; rw [HT.out]; simpa using h2, hB.trans hB2⟩
      case measure => simp [intOf]; omega
    · obtain rfl : n = k := by omega
      clear hlt'
      obtain ⟨spv, capv, rfl, -, -⟩ := hO.form
      go_wp2
      go_loopw [8, 10] (fun v i wr => ∃ k : Nat, k ≤ n ∧ i = .int .i64 k ∧ Own wr (w.heap.size + 1 + 1) v (([1] ++ ls.take n) ++ rs.take k) ∧ Below (w.heap.size + 1 + 1) ((w.alloc (.cells (ints .u8 ls).toArray 28)).alloc (.cells (ints .u8 rs).toArray 28)) wr) (fun _ i _ => n - (intOf i).toNat)
      case atStart => exact ⟨0, Nat.zero_le _, rfl, by rw [show rs.take 0 = [] from rfl, List.append_nil]; exact hO, hB⟩
      case round =>
        clear hO hB
        obtain ⟨k, hkn, rfl, hO, hB⟩ := hrel
        by_cases hlt' : k < n
        · have i1 : (k : Int) < ((n : Nat) : Int) := by omega
          have c0 := cell_ints (hbel hB g1 (by omega)) k (by omega)
          have HT := hid (take_snoc rs k (by omega))
          generalize rs.getD k 0 = x at *
          obtain ⟨zk, hzk⟩ : ∃ zk, zk = ([1] ++ ls.take n) ++ rs.take k := ⟨_, rfl⟩
          have KL := hid (show zk.length + 1 ≤ 140737488355328 by rw [hzk]; simp only [List.length_append, List.length_take, List.length_cons, List.length_nil]; omega)
          rw [← hzk] at hO
          have HZ := hid hzk
          clear hzk
          obtain ⟨spv, capv, rfl, -, -⟩ := hO.form
          have HBs := hid hB.size
          go_wp2_with (first | (at_builtin; refine wpList_push_any rfl (.tmp 30) (.tmp 34) rfl (w.heap.size + 1 + 1) _ _ x rfl hO rfl KL.out (by have := HBs.out; simp at this ⊢; omega) _ _ ?_; intro v2 w2 hO2 hB2))
          go_roundw
          case rel => exact ⟨k + 1, by omega, by go_num, by have h2 := hO2; rw [HZ.out] at h2; rw [HT.out]; simpa using h2, hB.trans hB2⟩
          case measure => simp [intOf]; omega
        · obtain rfl : n = k := by omega
          clear hlt'
          obtain ⟨spv, capv, rfl, -, -⟩ := hO.form
          go_wp2
          go_ret
          exact ⟨_, rfl, (by rw [HL.out]; exact hO.low (by omega)), (hA.trans (hB.mono (by omega)))⟩
end Go.Proofs.YtbjahdbmkcamoaaGreatDoor
