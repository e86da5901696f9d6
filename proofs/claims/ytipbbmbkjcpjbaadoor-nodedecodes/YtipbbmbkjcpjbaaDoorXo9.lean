import Derived.Test.YtipbbmbkjcpjbaaDoorXj9
namespace Go.Proofs.YtipbbmbkjcpjbaaDoor
set_option linter.unusedVariables false
set_option linter.unusedSimpArgs false
open Go.RowKit
attribute [local go_sem ↓] Go.wp_at_zero Go.wp_at_succ

set_option maxRecDepth 100000 in
set_option maxHeartbeats 8000000 in
theorem plays_ltext (w : World) (hG : Gb w) (o : NOp) (ok : NOk o) (hkd : o.kd = 3) (hV : VOk w o) :
    Calls Tryd.prog 7 #[.agg (opC o).toArray] w fun e w' => e = .returned (.bool true) ∧ Below w.heap.size w w' := by
  obtain ⟨zs, sp, cap, hov, hSz, hnz, hlz⟩ := hV
  have d0 := NR.box (w := w) ok
  have c0 := d0.ck
  rw [hkd] at c0
  have cv := d0.cv
  rw [hov] at cv
  have HK := hid hkd
  have KVP := hid (fun w1 (h : Gb w1) (xs : List Int) gl spv capv hL hI hn hl => value_text w1 h o ok hkd xs gl spv capv hL hI hn hl)
  have hSz1 := hSz.below d0.2.1 (Nat.le_refl _)
  have i0 : (zs.length : Int) ≤ 140737488351232 := by omega
  have hos : (w.alloc (.cells (opC o).toArray 32)).heap.size = w.heap.size + 1 := by simp
  clear hkd hov hSz
  go_enter Tryd.func7, Tryd.ntmps7
  go_wp2_with fail
  generalize w.alloc (.cells (opC o).toArray 32) = w1 at *
  refine (copyBytes_any w1 zs sp cap hSz1 (by omega)).mono ?_
  rintro e w2 ⟨v, rfl, hO2, hb2⟩
  have d2 := d0.call hb2
  have c2 := d2.ck
  rw [HK.out] at c2
  obtain ⟨spv, capv, g, rest, rfl, hnv, hcv, hcm, hgb, hOt⟩ := hO2.ot
  have hSi := hOt.src rfl hcv hcm
  have hg2 : 0 < zs.length → g < w2.heap.size := fun h => hlt (hOt h).2
  have KRo := hid (roomy_any w2 zs spv capv hSi hlz)
  obtain ⟨xs, hxe⟩ : ∃ xs, xs = zs := ⟨_, rfl⟩
  replace hOt : Ot zs.length spv g rest xs w2 := by rw [hxe]; exact hOt
  have hxl : xs.length = zs.length := by rw [hxe]
  have HXE := hid hxe
  clear hxe hSi hO2 c0 cv hSz1
  generalize zs.length = N at *
  go_wp2_with fail
  refine KRo.out.mono ?_
  rintro e w3 ⟨rfl, hgl, hb3⟩
  have dr := d2.call hb3
  replace hOt := hOt.below hb3
  rw [← HXE.out] at hgl
  have hgs : w.heap.size ≤ g := by omega
  have hgls : w.heap.size ≤ w2.heap.size := by have := hb2.size; omega
  have hsl : w.heap.size ≠ w2.heap.size := by have := hb2.size; omega
  have hsg : w.heap.size ≠ g := by omega
  clear KRo HXE d2 d0 c2 hb3
  generalize w2.heap.size = gl at *
  have HNE := hid (show 0 < N → gl ≠ g from fun h => by have := hg2 h; omega)
  clear hg2
  go_wp2
  go_loopw [5] (fun iv wr => ∃ (j : Nat) (xs : List Int), j ≤ 3 ∧ iv = .int .i64 j ∧ xs.length = N ∧ Ot N spv g rest xs wr ∧ wr.heap[gl]? = some (.cells (ints .u8 (full xs)).toArray 5) ∧ NR w wr w.heap.size o) (fun iv _ => 3 - (intOf iv).toNat)
  case atStart => exact ⟨0, xs, by omega, rfl, hxl, hOt, hgl, dr⟩
  case round =>
    clear hOt hgl dr hxl xs
    obtain ⟨j, xs, hj, rfl, hxl, hOt, hgl, dr⟩ := hrel
    match j, hj with
    | 0, _ =>
      rw [show ((0 : Nat) : Int) = 0 from rfl]
      go_wp2
      go_loopw [6] (fun kv wr => ∃ (k : Nat) (xs : List Int), k ≤ N ∧ kv = .int .i64 k ∧ xs.length = N ∧ Ot N spv g rest xs wr ∧ wr.heap[gl]? = some (.cells (ints .u8 (full xs)).toArray 5) ∧ NR w wr w.heap.size o) (fun kv _ => N - (intOf kv).toNat)
      case atStart => exact ⟨0, xs, Nat.zero_le _, rfl, hxl, hOt, hgl, dr⟩
      case round =>
        clear hOt hgl dr hxl xs
        obtain ⟨k, xs, hk, rfl, hxl, hOt, hgl, dr⟩ := hrel
        by_cases hlt2 : k < N
        · have i1 : (k : Int) < (N : Int) := by omega
          go_wp2
          go_roundw
          case rel => exact ⟨k + 1, xs, by omega, by go_num, hxl, hOt, hgl, dr⟩
          case measure => simp [intOf]; omega
        · obtain rfl : k = N := by omega
          clear hlt2
          have g0 := dr.2.2
          have hSi := hOt.src hxl hcv hcm
          have hSl : Src wr (some ⟨gl, 0, none⟩) (xs.length + 100) (full xs) := src_row (tl := []) (by rw [List.append_nil]; exact hgl) (xs.length + 100) (by rw [full_len]; exact Nat.le_refl _) (by unfold maxLen; omega)
          have KV := hid (KVP.out wr (dr.gb hG) xs gl spv capv hSl hSi hnv (by omega))
          rw [hxl] at KV
          clear hSi hSl
          go_wp2_with (first | refine wpList_load_row rfl 32 _ rfl _ rfl 32 _ _ _ g0 Tryd.underlying32 rfl (by rw [Tryd.sizeOp, opC_size ok]) ?_)
          refine KV.out.mono ?_
          rintro e w3 ⟨rfl, hb3⟩
          have d3 := dr.call hb3
          have hOt3 := hOt.below hb3
          have hgl3 := hbel hb3 hgl (hlt hgl)
          go_wp2
          go_roundw
          case rel => exact ⟨1, xs, by omega, by go_num, hxl, hOt3, hgl3, d3⟩
          case measure => simp [intOf]
    | 1, _ =>
      rw [show ((1 : Nat) : Int) = 1 from rfl]
      go_wp2
      go_loopw [6] (fun kv wr => ∃ (k : Nat) (xs : List Int), k ≤ N ∧ kv = .int .i64 k ∧ xs.length = N ∧ Ot N spv g rest xs wr ∧ wr.heap[gl]? = some (.cells (ints .u8 (full xs)).toArray 5) ∧ NR w wr w.heap.size o) (fun kv _ => N - (intOf kv).toNat)
      case atStart => exact ⟨0, xs, Nat.zero_le _, rfl, hxl, hOt, hgl, dr⟩
      case round =>
        clear hOt hgl dr hxl xs
        obtain ⟨k, xs, hk, rfl, hxl, hOt, hgl, dr⟩ := hrel
        by_cases hlt2 : k < N
        · have i1 : (k : Int) < (N : Int) := by omega
          obtain ⟨M, hM⟩ : ∃ M : Nat, (N : Int) / 2 = (M : Int) := ⟨N / 2, by omega⟩
          by_cases hq : k = M
          · subst hq
            obtain ⟨rfl, hg⟩ := hOt (by omega)
            have cx : wr.cell? ⟨g, k, none⟩ = some (.int .u8 (xs.getD k 0)) := by
              rw [cell_of_row _ _ _ _ _ _ hg]
              have := ints_get .u8 xs k (by omega)
              simp only [List.getElem?_toArray]
              rw [List.getElem?_append_left (by rw [ints_len]; omega), this]
            have fx : wr.frozen? ⟨g, k, none⟩ = false := frozen_of_row _ _ _ _ _ hg
            have cl := cell_ints hgl k (by rw [full_len]; omega)
            rw [full_lo xs k (by omega)] at cl
            have HS := hid (full_set xs k (bits .xor .u8 (xs.getD k 0) 1) (by omega))
            have hl2 : (xs.set k (bits .xor .u8 (xs.getD k 0) 1)).length = N := by rw [List.length_set, hxl]
            have hOt2 := Ot.set hOt k (bits .xor .u8 (xs.getD k 0) 1) (by omega)
            generalize xs.getD k 0 = x at *
            have cl2 : (wr.setCell ⟨g, k, none⟩ (.int .u8 (bits .xor .u8 x 1))).cell? ⟨gl, k, none⟩ = some (.int .u8 x) := by rw [cell_of_row _ _ _ _ _ _ (heap_set_far hgl ⟨g, k, none⟩ (.int .u8 (bits .xor .u8 x 1)) (HNE.out (by omega)))]; rw [cell_of_row _ _ _ _ _ _ hgl] at cl; exact cl
            have fl2 : (wr.setCell ⟨g, k, none⟩ (.int .u8 (bits .xor .u8 x 1))).frozen? ⟨gl, k, none⟩ = false := frozen_of_row _ _ _ _ _ (heap_set_far hgl ⟨g, k, none⟩ (.int .u8 (bits .xor .u8 x 1)) (HNE.out (by omega)))
            have hgl2 := heap_set_ints (heap_set_far hgl ⟨g, k, none⟩ (.int .u8 (bits .xor .u8 x 1)) (HNE.out (by omega))) k (bits .xor .u8 x 1)
            rw [← HS.out] at hgl2
            have hOt3 := hOt2.of_heap (w1 := (wr.setCell ⟨g, k, none⟩ (.int .u8 (bits .xor .u8 x 1))).setCell ⟨gl, k, none⟩ (.int .u8 (bits .xor .u8 x 1))) (fun o ho => heap_set_far ho ⟨gl, k, none⟩ (.int .u8 (bits .xor .u8 x 1)) (Ne.symm (HNE.out (by omega))))
            have dr2 : NR w ((wr.setCell ⟨g, k, none⟩ (.int .u8 (bits .xor .u8 x 1))).setCell ⟨gl, k, none⟩ (.int .u8 (bits .xor .u8 x 1))) w.heap.size o := ⟨dr.1, (dr.2.1.setCell (p := ⟨g, k, none⟩) hgs (.int .u8 (bits .xor .u8 x 1))).setCell (p := ⟨gl, k, none⟩) hgls (.int .u8 (bits .xor .u8 x 1)), heap_set_far (heap_set_far dr.2.2 ⟨g, k, none⟩ (.int .u8 (bits .xor .u8 x 1)) hsg) ⟨gl, k, none⟩ (.int .u8 (bits .xor .u8 x 1)) hsl⟩
            generalize hxs2 : xs.set k (bits .xor .u8 x 1) = xs2 at *
            clear hOt2 hxs2 HS cl hgl hg
            go_wp2
            go_roundw
            case rel => exact ⟨k + 1, xs2, by omega, by go_num, hl2, hOt3, hgl2, dr2⟩
            case measure => simp [intOf]; omega
          · have hq2 : ¬ ((k : Int) = (M : Int)) := by omega
            go_wp2
            go_roundw
            case rel => exact ⟨k + 1, xs, by omega, by go_num, hxl, hOt, hgl, dr⟩
            case measure => simp [intOf]; omega
        · obtain rfl : k = N := by omega
          clear hlt2
          have g0 := dr.2.2
          have hSi := hOt.src hxl hcv hcm
          have hSl : Src wr (some ⟨gl, 0, none⟩) (xs.length + 100) (full xs) := src_row (tl := []) (by rw [List.append_nil]; exact hgl) (xs.length + 100) (by rw [full_len]; exact Nat.le_refl _) (by unfold maxLen; omega)
          have KV := hid (KVP.out wr (dr.gb hG) xs gl spv capv hSl hSi hnv (by omega))
          rw [hxl] at KV
          clear hSi hSl
          go_wp2_with (first | refine wpList_load_row rfl 32 _ rfl _ rfl 32 _ _ _ g0 Tryd.underlying32 rfl (by rw [Tryd.sizeOp, opC_size ok]) ?_)
          refine KV.out.mono ?_
          rintro e w3 ⟨rfl, hb3⟩
          have d3 := dr.call hb3
          have hOt3 := hOt.below hb3
          have hgl3 := hbel hb3 hgl (hlt hgl)
          go_wp2
          go_roundw
          case rel => exact ⟨2, xs, by omega, by go_num, hxl, hOt3, hgl3, d3⟩
          case measure => simp [intOf]
    | 2, _ =>
      rw [show ((2 : Nat) : Int) = 2 from rfl]
      go_wp2
      go_loopw [6] (fun kv wr => ∃ (k : Nat) (xs : List Int), k ≤ N ∧ kv = .int .i64 k ∧ xs.length = N ∧ Ot N spv g rest xs wr ∧ wr.heap[gl]? = some (.cells (ints .u8 (full xs)).toArray 5) ∧ NR w wr w.heap.size o) (fun kv _ => N - (intOf kv).toNat)
      case atStart => exact ⟨0, xs, Nat.zero_le _, rfl, hxl, hOt, hgl, dr⟩
      case round =>
        clear hOt hgl dr hxl xs
        obtain ⟨k, xs, hk, rfl, hxl, hOt, hgl, dr⟩ := hrel
        by_cases hlt2 : k < N
        · have i1 : (k : Int) < (N : Int) := by omega
          obtain ⟨rfl, hg⟩ := hOt (by omega)
          have cx : wr.cell? ⟨g, k, none⟩ = some (.int .u8 (xs.getD k 0)) := by
            rw [cell_of_row _ _ _ _ _ _ hg]
            have := ints_get .u8 xs k (by omega)
            simp only [List.getElem?_toArray]
            rw [List.getElem?_append_left (by rw [ints_len]; omega), this]
          have fx : wr.frozen? ⟨g, k, none⟩ = false := frozen_of_row _ _ _ _ _ hg
          have cl := cell_ints hgl k (by rw [full_len]; omega)
          rw [full_lo xs k (by omega)] at cl
          have HS := hid (full_set xs k (bits .xor .u8 (xs.getD k 0) 1) (by omega))
          have hl2 : (xs.set k (bits .xor .u8 (xs.getD k 0) 1)).length = N := by rw [List.length_set, hxl]
          have hOt2 := Ot.set hOt k (bits .xor .u8 (xs.getD k 0) 1) (by omega)
          generalize xs.getD k 0 = x at *
          have cl2 : (wr.setCell ⟨g, k, none⟩ (.int .u8 (bits .xor .u8 x 1))).cell? ⟨gl, k, none⟩ = some (.int .u8 x) := by rw [cell_of_row _ _ _ _ _ _ (heap_set_far hgl ⟨g, k, none⟩ (.int .u8 (bits .xor .u8 x 1)) (HNE.out (by omega)))]; rw [cell_of_row _ _ _ _ _ _ hgl] at cl; exact cl
          have fl2 : (wr.setCell ⟨g, k, none⟩ (.int .u8 (bits .xor .u8 x 1))).frozen? ⟨gl, k, none⟩ = false := frozen_of_row _ _ _ _ _ (heap_set_far hgl ⟨g, k, none⟩ (.int .u8 (bits .xor .u8 x 1)) (HNE.out (by omega)))
          have hgl2 := heap_set_ints (heap_set_far hgl ⟨g, k, none⟩ (.int .u8 (bits .xor .u8 x 1)) (HNE.out (by omega))) k (bits .xor .u8 x 1)
          rw [← HS.out] at hgl2
          have hOt3 := hOt2.of_heap (w1 := (wr.setCell ⟨g, k, none⟩ (.int .u8 (bits .xor .u8 x 1))).setCell ⟨gl, k, none⟩ (.int .u8 (bits .xor .u8 x 1))) (fun o ho => heap_set_far ho ⟨gl, k, none⟩ (.int .u8 (bits .xor .u8 x 1)) (Ne.symm (HNE.out (by omega))))
          have dr2 : NR w ((wr.setCell ⟨g, k, none⟩ (.int .u8 (bits .xor .u8 x 1))).setCell ⟨gl, k, none⟩ (.int .u8 (bits .xor .u8 x 1))) w.heap.size o := ⟨dr.1, (dr.2.1.setCell (p := ⟨g, k, none⟩) hgs (.int .u8 (bits .xor .u8 x 1))).setCell (p := ⟨gl, k, none⟩) hgls (.int .u8 (bits .xor .u8 x 1)), heap_set_far (heap_set_far dr.2.2 ⟨g, k, none⟩ (.int .u8 (bits .xor .u8 x 1)) hsg) ⟨gl, k, none⟩ (.int .u8 (bits .xor .u8 x 1)) hsl⟩
          generalize hxs2 : xs.set k (bits .xor .u8 x 1) = xs2 at *
          clear hOt2 hxs2 HS cl hgl hg
          go_wp2
          go_roundw
          case rel => exact ⟨k + 1, xs2, by omega, by go_num, hl2, hOt3, hgl2, dr2⟩
          case measure => simp [intOf]; omega
        · obtain rfl : k = N := by omega
          clear hlt2
          have g0 := dr.2.2
          have hSi := hOt.src hxl hcv hcm
          have hSl : Src wr (some ⟨gl, 0, none⟩) (xs.length + 100) (full xs) := src_row (tl := []) (by rw [List.append_nil]; exact hgl) (xs.length + 100) (by rw [full_len]; exact Nat.le_refl _) (by unfold maxLen; omega)
          have KV := hid (KVP.out wr (dr.gb hG) xs gl spv capv hSl hSi hnv (by omega))
          rw [hxl] at KV
          clear hSi hSl
          go_wp2_with (first | refine wpList_load_row rfl 32 _ rfl _ rfl 32 _ _ _ g0 Tryd.underlying32 rfl (by rw [Tryd.sizeOp, opC_size ok]) ?_)
          refine KV.out.mono ?_
          rintro e w3 ⟨rfl, hb3⟩
          have d3 := dr.call hb3
          have hOt3 := hOt.below hb3
          have hgl3 := hbel hb3 hgl (hlt hgl)
          go_wp2
          go_roundw
          case rel => exact ⟨3, xs, by omega, by go_num, hxl, hOt3, hgl3, d3⟩
          case measure => simp [intOf]
    | 3, _ =>
      rw [show ((3 : Nat) : Int) = 3 from rfl]
      go_wp2
      go_ret
      exact ⟨rfl, dr.2.1⟩
    | n + 4, h => exact absurd h (by omega)
set_option maxRecDepth 100000 in
set_option maxHeartbeats 8000000 in
theorem plays_leaf (w : World) (hG : Gb w) (o : NOp) (ok : NOk o) (hkd : o.kd = 5) (hV : VOk w o) :
    Calls Tryd.prog 7 #[.agg (opC o).toArray] w fun e w' => e = .returned (.bool true) ∧ Below w.heap.size w w' := by
  obtain ⟨zs, sp, cap, hov, hSz, hnz, hlz⟩ := hV
  have d0 := NR.box (w := w) ok
  have c0 := d0.ck
  rw [hkd] at c0
  have cv := d0.cv
  rw [hov] at cv
  have HK := hid hkd
  have KVP := hid (fun w1 (h : Gb w1) (xs : List Int) gl spv capv hL hI hn hl => value_leaf w1 h o ok hkd xs gl spv capv hL hI hn hl)
  have hSz1 := hSz.below d0.2.1 (Nat.le_refl _)
  have i0 : (zs.length : Int) ≤ 140737488351232 := by omega
  have hos : (w.alloc (.cells (opC o).toArray 32)).heap.size = w.heap.size + 1 := by simp
  clear hkd hov hSz
  go_enter Tryd.func7, Tryd.ntmps7
  go_wp2_with fail
  generalize w.alloc (.cells (opC o).toArray 32) = w1 at *
  refine (copyBytes_any w1 zs sp cap hSz1 (by omega)).mono ?_
  rintro e w2 ⟨v, rfl, hO2, hb2⟩
  have d2 := d0.call hb2
  have c2 := d2.ck
  rw [HK.out] at c2
  obtain ⟨spv, capv, g, rest, rfl, hnv, hcv, hcm, hgb, hOt⟩ := hO2.ot
  have hSi := hOt.src rfl hcv hcm
  have hg2 : 0 < zs.length → g < w2.heap.size := fun h => hlt (hOt h).2
  have KRo := hid (roomy_any w2 zs spv capv hSi hlz)
  obtain ⟨xs, hxe⟩ : ∃ xs, xs = zs := ⟨_, rfl⟩
  replace hOt : Ot zs.length spv g rest xs w2 := by rw [hxe]; exact hOt
  have hxl : xs.length = zs.length := by rw [hxe]
  have HXE := hid hxe
  clear hxe hSi hO2 c0 cv hSz1
  generalize zs.length = N at *
  go_wp2_with fail
  refine KRo.out.mono ?_
  rintro e w3 ⟨rfl, hgl, hb3⟩
  have dr := d2.call hb3
  replace hOt := hOt.below hb3
  rw [← HXE.out] at hgl
  have hgs : w.heap.size ≤ g := by omega
  have hgls : w.heap.size ≤ w2.heap.size := by have := hb2.size; omega
  have hsl : w.heap.size ≠ w2.heap.size := by have := hb2.size; omega
  have hsg : w.heap.size ≠ g := by omega
  clear KRo HXE d2 d0 c2 hb3
  generalize w2.heap.size = gl at *
  have HNE := hid (show 0 < N → gl ≠ g from fun h => by have := hg2 h; omega)
  clear hg2
  go_wp2
  go_loopw [5] (fun iv wr => ∃ (j : Nat) (xs : List Int), j ≤ 3 ∧ iv = .int .i64 j ∧ xs.length = N ∧ Ot N spv g rest xs wr ∧ wr.heap[gl]? = some (.cells (ints .u8 (full xs)).toArray 5) ∧ NR w wr w.heap.size o) (fun iv _ => 3 - (intOf iv).toNat)
  case atStart => exact ⟨0, xs, by omega, rfl, hxl, hOt, hgl, dr⟩
  case round =>
    clear hOt hgl dr hxl xs
    obtain ⟨j, xs, hj, rfl, hxl, hOt, hgl, dr⟩ := hrel
    match j, hj with
    | 0, _ =>
      rw [show ((0 : Nat) : Int) = 0 from rfl]
      go_wp2
      go_loopw [6] (fun kv wr => ∃ (k : Nat) (xs : List Int), k ≤ N ∧ kv = .int .i64 k ∧ xs.length = N ∧ Ot N spv g rest xs wr ∧ wr.heap[gl]? = some (.cells (ints .u8 (full xs)).toArray 5) ∧ NR w wr w.heap.size o) (fun kv _ => N - (intOf kv).toNat)
      case atStart => exact ⟨0, xs, Nat.zero_le _, rfl, hxl, hOt, hgl, dr⟩
      case round =>
        clear hOt hgl dr hxl xs
        obtain ⟨k, xs, hk, rfl, hxl, hOt, hgl, dr⟩ := hrel
        by_cases hlt2 : k < N
        · have i1 : (k : Int) < (N : Int) := by omega
          go_wp2
          go_roundw
          case rel => exact ⟨k + 1, xs, by omega, by go_num, hxl, hOt, hgl, dr⟩
          case measure => simp [intOf]; omega
        · obtain rfl : k = N := by omega
          clear hlt2
          have g0 := dr.2.2
          have hSi := hOt.src hxl hcv hcm
          have hSl : Src wr (some ⟨gl, 0, none⟩) (xs.length + 100) (full xs) := src_row (tl := []) (by rw [List.append_nil]; exact hgl) (xs.length + 100) (by rw [full_len]; exact Nat.le_refl _) (by unfold maxLen; omega)
          have KV := hid (KVP.out wr (dr.gb hG) xs gl spv capv hSl hSi hnv (by omega))
          rw [hxl] at KV
          clear hSi hSl
          go_wp2_with (first | refine wpList_load_row rfl 32 _ rfl _ rfl 32 _ _ _ g0 Tryd.underlying32 rfl (by rw [Tryd.sizeOp, opC_size ok]) ?_)
          refine KV.out.mono ?_
          rintro e w3 ⟨rfl, hb3⟩
          have d3 := dr.call hb3
          have hOt3 := hOt.below hb3
          have hgl3 := hbel hb3 hgl (hlt hgl)
          go_wp2
          go_roundw
          case rel => exact ⟨1, xs, by omega, by go_num, hxl, hOt3, hgl3, d3⟩
          case measure => simp [intOf]
    | 1, _ =>
      rw [show ((1 : Nat) : Int) = 1 from rfl]
      go_wp2
      go_loopw [6] (fun kv wr => ∃ (k : Nat) (xs : List Int), k ≤ N ∧ kv = .int .i64 k ∧ xs.length = N ∧ Ot N spv g rest xs wr ∧ wr.heap[gl]? = some (.cells (ints .u8 (full xs)).toArray 5) ∧ NR w wr w.heap.size o) (fun kv _ => N - (intOf kv).toNat)
      case atStart => exact ⟨0, xs, Nat.zero_le _, rfl, hxl, hOt, hgl, dr⟩
      case round =>
        clear hOt hgl dr hxl xs
        obtain ⟨k, xs, hk, rfl, hxl, hOt, hgl, dr⟩ := hrel
        by_cases hlt2 : k < N
        · have i1 : (k : Int) < (N : Int) := by omega
          obtain ⟨M, hM⟩ : ∃ M : Nat, (N : Int) / 2 = (M : Int) := ⟨N / 2, by omega⟩
          by_cases hq : k = M
          · subst hq
            obtain ⟨rfl, hg⟩ := hOt (by omega)
            have cx : wr.cell? ⟨g, k, none⟩ = some (.int .u8 (xs.getD k 0)) := by
              rw [cell_of_row _ _ _ _ _ _ hg]
              have := ints_get .u8 xs k (by omega)
              simp only [List.getElem?_toArray]
              rw [List.getElem?_append_left (by rw [ints_len]; omega), this]
            have fx : wr.frozen? ⟨g, k, none⟩ = false := frozen_of_row _ _ _ _ _ hg
            have cl := cell_ints hgl k (by rw [full_len]; omega)
            rw [full_lo xs k (by omega)] at cl
            have HS := hid (full_set xs k (bits .xor .u8 (xs.getD k 0) 1) (by omega))
            have hl2 : (xs.set k (bits .xor .u8 (xs.getD k 0) 1)).length = N := by rw [List.length_set, hxl]
            have hOt2 := Ot.set hOt k (bits .xor .u8 (xs.getD k 0) 1) (by omega)
            generalize xs.getD k 0 = x at *
            have cl2 : (wr.setCell ⟨g, k, none⟩ (.int .u8 (bits .xor .u8 x 1))).cell? ⟨gl, k, none⟩ = some (.int .u8 x) := by rw [cell_of_row _ _ _ _ _ _ (heap_set_far hgl ⟨g, k, none⟩ (.int .u8 (bits .xor .u8 x 1)) (HNE.out (by omega)))]; rw [cell_of_row _ _ _ _ _ _ hgl] at cl; exact cl
            have fl2 : (wr.setCell ⟨g, k, none⟩ (.int .u8 (bits .xor .u8 x 1))).frozen? ⟨gl, k, none⟩ = false := frozen_of_row _ _ _ _ _ (heap_set_far hgl ⟨g, k, none⟩ (.int .u8 (bits .xor .u8 x 1)) (HNE.out (by omega)))
            have hgl2 := heap_set_ints (heap_set_far hgl ⟨g, k, none⟩ (.int .u8 (bits .xor .u8 x 1)) (HNE.out (by omega))) k (bits .xor .u8 x 1)
            rw [← HS.out] at hgl2
            have hOt3 := hOt2.of_heap (w1 := (wr.setCell ⟨g, k, none⟩ (.int .u8 (bits .xor .u8 x 1))).setCell ⟨gl, k, none⟩ (.int .u8 (bits .xor .u8 x 1))) (fun o ho => heap_set_far ho ⟨gl, k, none⟩ (.int .u8 (bits .xor .u8 x 1)) (Ne.symm (HNE.out (by omega))))
            have dr2 : NR w ((wr.setCell ⟨g, k, none⟩ (.int .u8 (bits .xor .u8 x 1))).setCell ⟨gl, k, none⟩ (.int .u8 (bits .xor .u8 x 1))) w.heap.size o := ⟨dr.1, (dr.2.1.setCell (p := ⟨g, k, none⟩) hgs (.int .u8 (bits .xor .u8 x 1))).setCell (p := ⟨gl, k, none⟩) hgls (.int .u8 (bits .xor .u8 x 1)), heap_set_far (heap_set_far dr.2.2 ⟨g, k, none⟩ (.int .u8 (bits .xor .u8 x 1)) hsg) ⟨gl, k, none⟩ (.int .u8 (bits .xor .u8 x 1)) hsl⟩
            generalize hxs2 : xs.set k (bits .xor .u8 x 1) = xs2 at *
            clear hOt2 hxs2 HS cl hgl hg
            go_wp2
            go_roundw
            case rel => exact ⟨k + 1, xs2, by omega, by go_num, hl2, hOt3, hgl2, dr2⟩
            case measure => simp [intOf]; omega
          · have hq2 : ¬ ((k : Int) = (M : Int)) := by omega
            go_wp2
            go_roundw
            case rel => exact ⟨k + 1, xs, by omega, by go_num, hxl, hOt, hgl, dr⟩
            case measure => simp [intOf]; omega
        · obtain rfl : k = N := by omega
          clear hlt2
          have g0 := dr.2.2
          have hSi := hOt.src hxl hcv hcm
          have hSl : Src wr (some ⟨gl, 0, none⟩) (xs.length + 100) (full xs) := src_row (tl := []) (by rw [List.append_nil]; exact hgl) (xs.length + 100) (by rw [full_len]; exact Nat.le_refl _) (by unfold maxLen; omega)
          have KV := hid (KVP.out wr (dr.gb hG) xs gl spv capv hSl hSi hnv (by omega))
          rw [hxl] at KV
          clear hSi hSl
          go_wp2_with (first | refine wpList_load_row rfl 32 _ rfl _ rfl 32 _ _ _ g0 Tryd.underlying32 rfl (by rw [Tryd.sizeOp, opC_size ok]) ?_)
          refine KV.out.mono ?_
          rintro e w3 ⟨rfl, hb3⟩
          have d3 := dr.call hb3
          have hOt3 := hOt.below hb3
          have hgl3 := hbel hb3 hgl (hlt hgl)
          go_wp2
          go_roundw
          case rel => exact ⟨2, xs, by omega, by go_num, hxl, hOt3, hgl3, d3⟩
          case measure => simp [intOf]
    | 2, _ =>
      rw [show ((2 : Nat) : Int) = 2 from rfl]
      go_wp2
      go_loopw [6] (fun kv wr => ∃ (k : Nat) (xs : List Int), k ≤ N ∧ kv = .int .i64 k ∧ xs.length = N ∧ Ot N spv g rest xs wr ∧ wr.heap[gl]? = some (.cells (ints .u8 (full xs)).toArray 5) ∧ NR w wr w.heap.size o) (fun kv _ => N - (intOf kv).toNat)
      case atStart => exact ⟨0, xs, Nat.zero_le _, rfl, hxl, hOt, hgl, dr⟩
      case round =>
        clear hOt hgl dr hxl xs
        obtain ⟨k, xs, hk, rfl, hxl, hOt, hgl, dr⟩ := hrel
        by_cases hlt2 : k < N
        · have i1 : (k : Int) < (N : Int) := by omega
          obtain ⟨rfl, hg⟩ := hOt (by omega)
          have cx : wr.cell? ⟨g, k, none⟩ = some (.int .u8 (xs.getD k 0)) := by
            rw [cell_of_row _ _ _ _ _ _ hg]
            have := ints_get .u8 xs k (by omega)
            simp only [List.getElem?_toArray]
            rw [List.getElem?_append_left (by rw [ints_len]; omega), this]
          have fx : wr.frozen? ⟨g, k, none⟩ = false := frozen_of_row _ _ _ _ _ hg
          have cl := cell_ints hgl k (by rw [full_len]; omega)
          rw [full_lo xs k (by omega)] at cl
          have HS := hid (full_set xs k (bits .xor .u8 (xs.getD k 0) 1) (by omega))
          have hl2 : (xs.set k (bits .xor .u8 (xs.getD k 0) 1)).length = N := by rw [List.length_set, hxl]
          have hOt2 := Ot.set hOt k (bits .xor .u8 (xs.getD k 0) 1) (by omega)
          generalize xs.getD k 0 = x at *
          have cl2 : (wr.setCell ⟨g, k, none⟩ (.int .u8 (bits .xor .u8 x 1))).cell? ⟨gl, k, none⟩ = some (.int .u8 x) := by rw [cell_of_row _ _ _ _ _ _ (heap_set_far hgl ⟨g, k, none⟩ (.int .u8 (bits .xor .u8 x 1)) (HNE.out (by omega)))]; rw [cell_of_row _ _ _ _ _ _ hgl] at cl; exact cl
          have fl2 : (wr.setCell ⟨g, k, none⟩ (.int .u8 (bits .xor .u8 x 1))).frozen? ⟨gl, k, none⟩ = false := frozen_of_row _ _ _ _ _ (heap_set_far hgl ⟨g, k, none⟩ (.int .u8 (bits .xor .u8 x 1)) (HNE.out (by omega)))
          have hgl2 := heap_set_ints (heap_set_far hgl ⟨g, k, none⟩ (.int .u8 (bits .xor .u8 x 1)) (HNE.out (by omega))) k (bits .xor .u8 x 1)
          rw [← HS.out] at hgl2
          have hOt3 := hOt2.of_heap (w1 := (wr.setCell ⟨g, k, none⟩ (.int .u8 (bits .xor .u8 x 1))).setCell ⟨gl, k, none⟩ (.int .u8 (bits .xor .u8 x 1))) (fun o ho => heap_set_far ho ⟨gl, k, none⟩ (.int .u8 (bits .xor .u8 x 1)) (Ne.symm (HNE.out (by omega))))
          have dr2 : NR w ((wr.setCell ⟨g, k, none⟩ (.int .u8 (bits .xor .u8 x 1))).setCell ⟨gl, k, none⟩ (.int .u8 (bits .xor .u8 x 1))) w.heap.size o := ⟨dr.1, (dr.2.1.setCell (p := ⟨g, k, none⟩) hgs (.int .u8 (bits .xor .u8 x 1))).setCell (p := ⟨gl, k, none⟩) hgls (.int .u8 (bits .xor .u8 x 1)), heap_set_far (heap_set_far dr.2.2 ⟨g, k, none⟩ (.int .u8 (bits .xor .u8 x 1)) hsg) ⟨gl, k, none⟩ (.int .u8 (bits .xor .u8 x 1)) hsl⟩
          generalize hxs2 : xs.set k (bits .xor .u8 x 1) = xs2 at *
          clear hOt2 hxs2 HS cl hgl hg
          go_wp2
          go_roundw
          case rel => exact ⟨k + 1, xs2, by omega, by go_num, hl2, hOt3, hgl2, dr2⟩
          case measure => simp [intOf]; omega
        · obtain rfl : k = N := by omega
          clear hlt2
          have g0 := dr.2.2
          have hSi := hOt.src hxl hcv hcm
          have hSl : Src wr (some ⟨gl, 0, none⟩) (xs.length + 100) (full xs) := src_row (tl := []) (by rw [List.append_nil]; exact hgl) (xs.length + 100) (by rw [full_len]; exact Nat.le_refl _) (by unfold maxLen; omega)
          have KV := hid (KVP.out wr (dr.gb hG) xs gl spv capv hSl hSi hnv (by omega))
          rw [hxl] at KV
          clear hSi hSl
          go_wp2_with (first | refine wpList_load_row rfl 32 _ rfl _ rfl 32 _ _ _ g0 Tryd.underlying32 rfl (by rw [Tryd.sizeOp, opC_size ok]) ?_)
          refine KV.out.mono ?_
          rintro e w3 ⟨rfl, hb3⟩
          have d3 := dr.call hb3
          have hOt3 := hOt.below hb3
          have hgl3 := hbel hb3 hgl (hlt hgl)
          go_wp2
          go_roundw
          case rel => exact ⟨3, xs, by omega, by go_num, hxl, hOt3, hgl3, d3⟩
          case measure => simp [intOf]
    | 3, _ =>
      rw [show ((3 : Nat) : Int) = 3 from rfl]
      go_wp2
      go_ret
      exact ⟨rfl, dr.2.1⟩
    | n + 4, h => exact absurd h (by omega)
theorem VOk.below {w w1 : World} {o : NOp} (h : VOk w o) (hb : Below w.heap.size w w1) : VOk w1 o := by
  obtain ⟨zs, sp, cap, h1, h2, h3, h4⟩ := h
  exact ⟨zs, sp, cap, h1, h2.below hb (Nat.le_refl _), h3, h4⟩
end Go.Proofs.YtipbbmbkjcpjbaaDoor
