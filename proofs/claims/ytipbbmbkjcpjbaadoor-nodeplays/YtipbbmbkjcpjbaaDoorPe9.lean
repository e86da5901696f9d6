import Derived.Test.YtipbbmbkjcpjbaaDoorPd9
import Derived.Test.YtipbbmbkjcpjbaaDoorXo9
import Derived.Test.YtipbbmbkjcpjbaaDoorXn9
namespace Go.Proofs.YtipbbmbkjcpjbaaDoor
set_option linter.unusedVariables false
set_option linter.unusedSimpArgs false
open Go.RowKit
attribute [local go_sem ↓] Go.wp_at_zero Go.wp_at_succ

theorem Bys.setx {xs : List Int} (h : Bys xs) (k : Nat) (x : Int) : Bys (xs.set k (bits .xor .u8 x 1)) := fun y hy => by
  rcases List.mem_or_eq_of_mem_set hy with h1 | rfl
  · exact h y h1
  · have := bounds_u8 (wf_bits .xor .u8 x 1); omega
/-- What a step's lists are. -/
def VYk (w : World) (o : NOp) : Prop := (∃ (zs : List Int) (sp : Option Addr) (cap : Nat), o.v = .slice sp zs.length cap ∧ Src w sp cap zs ∧ (sp = none → cap = 0) ∧ zs.length ≤ 140737488351232 ∧ Bys zs) ∧
  (∃ (m : Nd) (sp : Option Addr) (cap : Nat), o.nd = ndC m (.slice sp m.vs.length cap) ∧ NdOk m ∧ Src w sp cap m.vs ∧ (sp = none → cap = 0) ∧ m.vs.length ≤ 140737488351232 ∧ Bys m.vs)
theorem VYk.vok {w : World} {o : NOp} (h : VYk w o) : VOk w o := by
  obtain ⟨⟨zs, sp, cap, h1, h2, h3, h4, _⟩, _⟩ := h
  exact ⟨zs, sp, cap, h1, h2, h3, h4⟩
theorem VYk.below {w w1 : World} {o : NOp} (h : VYk w o) (hb : Below w.heap.size w w1) : VYk w1 o := by
  obtain ⟨⟨zs, sp, cap, h1, h2, h3, h4, h5⟩, ⟨m, sp', cap', g1, g2, g3, g4, g5, g6⟩⟩ := h
  exact ⟨⟨zs, sp, cap, h1, h2.below hb (Nat.le_refl _), h3, h4, h5⟩, ⟨m, sp', cap', g1, g2, g3.below hb (Nat.le_refl _), g4, g5, g6⟩⟩
set_option maxRecDepth 100000 in
set_option maxHeartbeats 8000000 in
theorem plays_dec (w : World) (hG : Gb w) (o : NOp) (ok : NOk o) (hkd : o.kd = 2) (hV : VYk w o) :
    Calls Tryd.prog 7 #[.agg (opC o).toArray] w fun e w' => e = .returned (.bool true) ∧ Below w.heap.size w w' := by
  obtain ⟨⟨zs, sp, cap, hov, hSz, hnz, hlz, yz⟩, _⟩ := hV
  have d0 := NR.box (w := w) ok
  have c0 := d0.ck
  rw [hkd] at c0
  have cv := d0.cv
  rw [hov] at cv
  have HK := hid hkd
  have KVP := hid (fun w1 (xs : List Int) (yx : Bys xs) gl spv capv hL hI hn hl => value_dec w1 o ok hkd xs yx gl spv capv hL hI hn hl)
  have hSz1 := hSz.below d0.2.1 (Nat.le_refl _)
  have i0 : (zs.length : Int) ≤ 140737488351232 := by omega
  have hos : (w.alloc (.cells (opC o).toArray 32)).heap.size = w.heap.size + 1 := by simp
  clear hkd hov hSz
  go_enter Tryd.func7, Tryd.ntmps7
  go_wp2_with fail
  generalize w.alloc (.cells (opC o).toArray 32) = w1 at *
  refine (copyBytes_any w1 zs sp cap hSz1 (by omega)).mono ?_
  rintro e w2 ⟨v, rfl, hO2, hb2⟩
  have d2 := d0.call hb2
  have c2 := d2.ck
  rw [HK.out] at c2
  obtain ⟨spv, capv, g, rest, rfl, hnv, hcv, hcm, hgb, hOt⟩ := hO2.ot
  have hSi := hOt.src rfl hcv hcm
  have hg2 : 0 < zs.length → g < w2.heap.size := fun h => hlt (hOt h).2
  have KRo := hid (roomy_any w2 zs spv capv hSi hlz)
  obtain ⟨xs, hxe⟩ : ∃ xs, xs = zs := ⟨_, rfl⟩
  replace hOt : Ot zs.length spv g rest xs w2 := by rw [hxe]; exact hOt
  have hxl : xs.length = zs.length := by rw [hxe]
  have yx : Bys xs := by rw [hxe]; exact yz
  have HXE := hid hxe
  clear hxe hSi hO2 c0 cv hSz1
  generalize zs.length = N at *
  go_wp2_with fail
  refine KRo.out.mono ?_
  rintro e w3 ⟨rfl, hgl, hb3⟩
  have dr := d2.call hb3
  replace hOt := hOt.below hb3
  rw [← HXE.out] at hgl
  have hgs : w.heap.size ≤ g := by omega
  have hgls : w.heap.size ≤ w2.heap.size := by have := hb2.size; omega
  have hsl : w.heap.size ≠ w2.heap.size := by have := hb2.size; omega
  have hsg : w.heap.size ≠ g := by omega
  clear KRo HXE d2 d0 c2 hb3
  generalize w2.heap.size = gl at *
  have HNE := hid (show 0 < N → gl ≠ g from fun h => by have := hg2 h; omega)
  clear hg2
  go_wp2
  go_loopw [5] (fun iv wr => ∃ (j : Nat) (xs : List Int), j ≤ 3 ∧ iv = .int .i64 j ∧ (xs.length = N ∧ Bys xs) ∧ Ot N spv g rest xs wr ∧ wr.heap[gl]? = some (.cells (ints .u8 (full xs)).toArray 5) ∧ NR w wr w.heap.size o) (fun iv _ => 3 - (intOf iv).toNat)
  case atStart => exact ⟨0, xs, by omega, rfl, ⟨hxl, yx⟩, hOt, hgl, dr⟩
  case round =>
    clear hOt hgl dr hxl yx xs
    obtain ⟨j, xs, hj, rfl, ⟨hxl, yx⟩, hOt, hgl, dr⟩ := hrel
    match j, hj with
    | 0, _ =>
      rw [show ((0 : Nat) : Int) = 0 from rfl]
      go_wp2
      go_loopw [6] (fun kv wr => ∃ (k : Nat) (xs : List Int), k ≤ N ∧ kv = .int .i64 k ∧ (xs.length = N ∧ Bys xs) ∧ Ot N spv g rest xs wr ∧ wr.heap[gl]? = some (.cells (ints .u8 (full xs)).toArray 5) ∧ NR w wr w.heap.size o) (fun kv _ => N - (intOf kv).toNat)
      case atStart => exact ⟨0, xs, Nat.zero_le _, rfl, ⟨hxl, yx⟩, hOt, hgl, dr⟩
      case round =>
        clear hOt hgl dr hxl yx xs
        obtain ⟨k, xs, hk, rfl, ⟨hxl, yx⟩, hOt, hgl, dr⟩ := hrel
        by_cases hlt2 : k < N
        · have i1 : (k : Int) < (N : Int) := by omega
          go_wp2
          go_roundw
          case rel => exact ⟨k + 1, xs, by omega, by go_num, ⟨hxl, yx⟩, hOt, hgl, dr⟩
          case measure => simp [intOf]; omega
        · obtain rfl : k = N := by omega
          clear hlt2
          have g0 := dr.2.2
          have hSi := hOt.src hxl hcv hcm
          have hSl : Src wr (some ⟨gl, 0, none⟩) (xs.length + 100) (full xs) := src_row (tl := []) (by rw [List.append_nil]; exact hgl) (xs.length + 100) (by rw [full_len]; exact Nat.le_refl _) (by unfold maxLen; omega)
          have KV := hid (KVP.out wr xs yx gl spv capv hSl hSi hnv (by omega))
          rw [hxl] at KV
          clear hSi hSl
          go_wp2_with (first | refine wpList_load_row rfl 32 _ rfl _ rfl 32 _ _ _ g0 Tryd.underlying32 rfl (by rw [Tryd.sizeOp, opC_size ok]) ?_)
          refine KV.out.mono ?_
          rintro e w3 ⟨rfl, hb3⟩
          have d3 := dr.call hb3
          have hOt3 := hOt.below hb3
          have hgl3 := hbel hb3 hgl (hlt hgl)
          go_wp2
          go_roundw
          case rel => exact ⟨1, xs, by omega, by go_num, ⟨hxl, yx⟩, hOt3, hgl3, d3⟩
          case measure => simp [intOf]
    | 1, _ =>
      rw [show ((1 : Nat) : Int) = 1 from rfl]
      go_wp2
      go_loopw [6] (fun kv wr => ∃ (k : Nat) (xs : List Int), k ≤ N ∧ kv = .int .i64 k ∧ (xs.length = N ∧ Bys xs) ∧ Ot N spv g rest xs wr ∧ wr.heap[gl]? = some (.cells (ints .u8 (full xs)).toArray 5) ∧ NR w wr w.heap.size o) (fun kv _ => N - (intOf kv).toNat)
      case atStart => exact ⟨0, xs, Nat.zero_le _, rfl, ⟨hxl, yx⟩, hOt, hgl, dr⟩
      case round =>
        clear hOt hgl dr hxl yx xs
        obtain ⟨k, xs, hk, rfl, ⟨hxl, yx⟩, hOt, hgl, dr⟩ := hrel
        by_cases hlt2 : k < N
        · have i1 : (k : Int) < (N : Int) := by omega
          obtain ⟨M, hM⟩ : ∃ M : Nat, (N : Int) / 2 = (M : Int) := ⟨N / 2, by omega⟩
          by_cases hq : k = M
          · subst hq
            obtain ⟨rfl, hg⟩ := hOt (by omega)
            have cx : wr.cell? ⟨g, k, none⟩ = some (.int .u8 (xs.getD k 0)) := by
              rw [cell_of_row _ _ _ _ _ _ hg]
              have := ints_get .u8 xs k (by omega)
              simp only [List.getElem?_toArray]
              rw [List.getElem?_append_left (by rw [ints_len]; omega), this]
            have fx : wr.frozen? ⟨g, k, none⟩ = false := frozen_of_row _ _ _ _ _ hg
            have cl := cell_ints hgl k (by rw [full_len]; omega)
            rw [full_lo xs k (by omega)] at cl
            have HS := hid (full_set xs k (bits .xor .u8 (xs.getD k 0) 1) (by omega))
            have hl2 : (xs.set k (bits .xor .u8 (xs.getD k 0) 1)).length = N := by rw [List.length_set, hxl]
            have y2 : Bys (xs.set k (bits .xor .u8 (xs.getD k 0) 1)) := yx.setx k _
            have hOt2 := Ot.set hOt k (bits .xor .u8 (xs.getD k 0) 1) (by omega)
            generalize xs.getD k 0 = x at *
            have cl2 : (wr.setCell ⟨g, k, none⟩ (.int .u8 (bits .xor .u8 x 1))).cell? ⟨gl, k, none⟩ = some (.int .u8 x) := by rw [cell_of_row _ _ _ _ _ _ (heap_set_far hgl ⟨g, k, none⟩ (.int .u8 (bits .xor .u8 x 1)) (HNE.out (by omega)))]; rw [cell_of_row _ _ _ _ _ _ hgl] at cl; exact cl
            have fl2 : (wr.setCell ⟨g, k, none⟩ (.int .u8 (bits .xor .u8 x 1))).frozen? ⟨gl, k, none⟩ = false := frozen_of_row _ _ _ _ _ (heap_set_far hgl ⟨g, k, none⟩ (.int .u8 (bits .xor .u8 x 1)) (HNE.out (by omega)))
            have hgl2 := heap_set_ints (heap_set_far hgl ⟨g, k, none⟩ (.int .u8 (bits .xor .u8 x 1)) (HNE.out (by omega))) k (bits .xor .u8 x 1)
            rw [← HS.out] at hgl2
            have hOt3 := hOt2.of_heap (w1 := (wr.setCell ⟨g, k, none⟩ (.int .u8 (bits .xor .u8 x 1))).setCell ⟨gl, k, none⟩ (.int .u8 (bits .xor .u8 x 1))) (fun o ho => heap_set_far ho ⟨gl, k, none⟩ (.int .u8 (bits .xor .u8 x 1)) (Ne.symm (HNE.out (by omega))))
            have dr2 : NR w ((wr.setCell ⟨g, k, none⟩ (.int .u8 (bits .xor .u8 x 1))).setCell ⟨gl, k, none⟩ (.int .u8 (bits .xor .u8 x 1))) w.heap.size o := ⟨dr.1, (dr.2.1.setCell (p := ⟨g, k, none⟩) hgs (.int .u8 (bits .xor .u8 x 1))).setCell (p := ⟨gl, k, none⟩) hgls (.int .u8 (bits .xor .u8 x 1)), heap_set_far (heap_set_far dr.2.2 ⟨g, k, none⟩ (.int .u8 (bits .xor .u8 x 1)) hsg) ⟨gl, k, none⟩ (.int .u8 (bits .xor .u8 x 1)) hsl⟩
            generalize hxs2 : xs.set k (bits .xor .u8 x 1) = xs2 at *
            clear hOt2 hxs2 HS cl hgl hg
            go_wp2
            go_roundw
            case rel => exact ⟨k + 1, xs2, by omega, by go_num, ⟨hl2, y2⟩, hOt3, hgl2, dr2⟩
            case measure => simp [intOf]; omega
          · have hq2 : ¬ ((k : Int) = (M : Int)) := by omega
            go_wp2
            go_roundw
            case rel => exact ⟨k + 1, xs, by omega, by go_num, ⟨hxl, yx⟩, hOt, hgl, dr⟩
            case measure => simp [intOf]; omega
        · obtain rfl : k = N := by omega
          clear hlt2
          have g0 := dr.2.2
          have hSi := hOt.src hxl hcv hcm
          have hSl : Src wr (some ⟨gl, 0, none⟩) (xs.length + 100) (full xs) := src_row (tl := []) (by rw [List.append_nil]; exact hgl) (xs.length + 100) (by rw [full_len]; exact Nat.le_refl _) (by unfold maxLen; omega)
          have KV := hid (KVP.out wr xs yx gl spv capv hSl hSi hnv (by omega))
          rw [hxl] at KV
          clear hSi hSl
          go_wp2_with (first | refine wpList_load_row rfl 32 _ rfl _ rfl 32 _ _ _ g0 Tryd.underlying32 rfl (by rw [Tryd.sizeOp, opC_size ok]) ?_)
          refine KV.out.mono ?_
          rintro e w3 ⟨rfl, hb3⟩
          have d3 := dr.call hb3
          have hOt3 := hOt.below hb3
          have hgl3 := hbel hb3 hgl (hlt hgl)
          go_wp2
          go_roundw
          case rel => exact ⟨2, xs, by omega, by go_num, ⟨hxl, yx⟩, hOt3, hgl3, d3⟩
          case measure => simp [intOf]
    | 2, _ =>
      rw [show ((2 : Nat) : Int) = 2 from rfl]
      go_wp2
      go_loopw [6] (fun kv wr => ∃ (k : Nat) (xs : List Int), k ≤ N ∧ kv = .int .i64 k ∧ (xs.length = N ∧ Bys xs) ∧ Ot N spv g rest xs wr ∧ wr.heap[gl]? = some (.cells (ints .u8 (full xs)).toArray 5) ∧ NR w wr w.heap.size o) (fun kv _ => N - (intOf kv).toNat)
      case atStart => exact ⟨0, xs, Nat.zero_le _, rfl, ⟨hxl, yx⟩, hOt, hgl, dr⟩
      case round =>
        clear hOt hgl dr hxl yx xs
        obtain ⟨k, xs, hk, rfl, ⟨hxl, yx⟩, hOt, hgl, dr⟩ := hrel
        by_cases hlt2 : k < N
        · have i1 : (k : Int) < (N : Int) := by omega
          obtain ⟨rfl, hg⟩ := hOt (by omega)
          have cx : wr.cell? ⟨g, k, none⟩ = some (.int .u8 (xs.getD k 0)) := by
            rw [cell_of_row _ _ _ _ _ _ hg]
            have := ints_get .u8 xs k (by omega)
            simp only [List.getElem?_toArray]
            rw [List.getElem?_append_left (by rw [ints_len]; omega), this]
          have fx : wr.frozen? ⟨g, k, none⟩ = false := frozen_of_row _ _ _ _ _ hg
          have cl := cell_ints hgl k (by rw [full_len]; omega)
          rw [full_lo xs k (by omega)] at cl
          have HS := hid (full_set xs k (bits .xor .u8 (xs.getD k 0) 1) (by omega))
          have hl2 : (xs.set k (bits .xor .u8 (xs.getD k 0) 1)).length = N := by rw [List.length_set, hxl]
          have y2 : Bys (xs.set k (bits .xor .u8 (xs.getD k 0) 1)) := yx.setx k _
          have hOt2 := Ot.set hOt k (bits .xor .u8 (xs.getD k 0) 1) (by omega)
          generalize xs.getD k 0 = x at *
          have cl2 : (wr.setCell ⟨g, k, none⟩ (.int .u8 (bits .xor .u8 x 1))).cell? ⟨gl, k, none⟩ = some (.int .u8 x) := by rw [cell_of_row _ _ _ _ _ _ (heap_set_far hgl ⟨g, k, none⟩ (.int .u8 (bits .xor .u8 x 1)) (HNE.out (by omega)))]; rw [cell_of_row _ _ _ _ _ _ hgl] at cl; exact cl
          have fl2 : (wr.setCell ⟨g, k, none⟩ (.int .u8 (bits .xor .u8 x 1))).frozen? ⟨gl, k, none⟩ = false := frozen_of_row _ _ _ _ _ (heap_set_far hgl ⟨g, k, none⟩ (.int .u8 (bits .xor .u8 x 1)) (HNE.out (by omega)))
          have hgl2 := heap_set_ints (heap_set_far hgl ⟨g, k, none⟩ (.int .u8 (bits .xor .u8 x 1)) (HNE.out (by omega))) k (bits .xor .u8 x 1)
          rw [← HS.out] at hgl2
          have hOt3 := hOt2.of_heap (w1 := (wr.setCell ⟨g, k, none⟩ (.int .u8 (bits .xor .u8 x 1))).setCell ⟨gl, k, none⟩ (.int .u8 (bits .xor .u8 x 1))) (fun o ho => heap_set_far ho ⟨gl, k, none⟩ (.int .u8 (bits .xor .u8 x 1)) (Ne.symm (HNE.out (by omega))))
          have dr2 : NR w ((wr.setCell ⟨g, k, none⟩ (.int .u8 (bits .xor .u8 x 1))).setCell ⟨gl, k, none⟩ (.int .u8 (bits .xor .u8 x 1))) w.heap.size o := ⟨dr.1, (dr.2.1.setCell (p := ⟨g, k, none⟩) hgs (.int .u8 (bits .xor .u8 x 1))).setCell (p := ⟨gl, k, none⟩) hgls (.int .u8 (bits .xor .u8 x 1)), heap_set_far (heap_set_far dr.2.2 ⟨g, k, none⟩ (.int .u8 (bits .xor .u8 x 1)) hsg) ⟨gl, k, none⟩ (.int .u8 (bits .xor .u8 x 1)) hsl⟩
          generalize hxs2 : xs.set k (bits .xor .u8 x 1) = xs2 at *
          clear hOt2 hxs2 HS cl hgl hg
          go_wp2
          go_roundw
          case rel => exact ⟨k + 1, xs2, by omega, by go_num, ⟨hl2, y2⟩, hOt3, hgl2, dr2⟩
          case measure => simp [intOf]; omega
        · obtain rfl : k = N := by omega
          clear hlt2
          have g0 := dr.2.2
          have hSi := hOt.src hxl hcv hcm
          have hSl : Src wr (some ⟨gl, 0, none⟩) (xs.length + 100) (full xs) := src_row (tl := []) (by rw [List.append_nil]; exact hgl) (xs.length + 100) (by rw [full_len]; exact Nat.le_refl _) (by unfold maxLen; omega)
          have KV := hid (KVP.out wr xs yx gl spv capv hSl hSi hnv (by omega))
          rw [hxl] at KV
          clear hSi hSl
          go_wp2_with (first | refine wpList_load_row rfl 32 _ rfl _ rfl 32 _ _ _ g0 Tryd.underlying32 rfl (by rw [Tryd.sizeOp, opC_size ok]) ?_)
          refine KV.out.mono ?_
          rintro e w3 ⟨rfl, hb3⟩
          have d3 := dr.call hb3
          have hOt3 := hOt.below hb3
          have hgl3 := hbel hb3 hgl (hlt hgl)
          go_wp2
          go_roundw
          case rel => exact ⟨3, xs, by omega, by go_num, ⟨hxl, yx⟩, hOt3, hgl3, d3⟩
          case measure => simp [intOf]
    | 3, _ =>
      rw [show ((3 : Nat) : Int) = 3 from rfl]
      go_wp2
      go_ret
      exact ⟨rfl, dr.2.1⟩
    | n + 4, h => exact absurd h (by omega)
set_option maxRecDepth 100000 in
set_option maxHeartbeats 8000000 in
theorem plays_enc (w : World) (hG : Gb w) (o : NOp) (ok : NOk o) (hkd : o.kd = 1) (hV : VYk w o) :
    Calls Tryd.prog 7 #[.agg (opC o).toArray] w fun e w' => e = .returned (.bool true) ∧ Below w.heap.size w w' := by
  obtain ⟨⟨zs0, sp0, cap0, hov, hSz0, hnz0, hlz0, _⟩, ⟨m, sp, cap, hnd, hm, hSz, hnz, hlz, yz⟩⟩ := hV
  have hcn : (opC o)[202]? = some (.slice sp m.vs.length cap) := opC_nd ok 101 _ (by rw [hnd]; exact ndC_v hm _)
  have KVP := hid (fun w1 (xs : List Int) (yx : Bys xs) gl spv capv hL hI hn hl => value_enc w1 o ok hkd m hm (.slice sp m.vs.length cap) rfl hnd xs yx gl spv capv hL hI hn hl)
  clear hnd
  obtain ⟨zs, hzs⟩ : ∃ zs, zs = m.vs := ⟨_, rfl⟩
  rw [← hzs] at hcn hSz hlz yz
  clear hzs
  have d0 := NR.box (w := w) ok
  have c0 := d0.ck
  rw [hkd] at c0
  have cv := d0.cv
  rw [hov] at cv
  have HK := hid hkd
  have hSz1 := hSz0.below d0.2.1 (Nat.le_refl _)
  have HCN := hid hcn
  have i0 : (zs.length : Int) ≤ 140737488351232 := by omega
  have hos : (w.alloc (.cells (opC o).toArray 32)).heap.size = w.heap.size + 1 := by simp
  clear hkd hov hcn
  go_enter Tryd.func7, Tryd.ntmps7
  go_wp2_with fail
  generalize w.alloc (.cells (opC o).toArray 32) = w1 at *
  refine (copyBytes_any w1 zs0 sp0 cap0 hSz1 (by omega)).mono ?_
  rintro e w15 ⟨v15, rfl, hO15, hb15⟩
  have d15 := d0.call hb15
  have c15 := d15.ck
  rw [HK.out] at c15
  have cn15 := d15.cell HCN.out
  have hz15 := hb15.size
  have hSz2 := hSz.below d15.2.1 (Nat.le_refl _)
  clear hO15 hSz1 hSz c0 cv
  go_wp2_with fail
  refine (copyBytes_any w15 zs sp cap hSz2 (by omega)).mono ?_
  rintro e w2 ⟨v, rfl, hO2, hb2⟩
  have d2 := d15.call hb2
  have c2 := d2.ck
  rw [HK.out] at c2
  obtain ⟨spv, capv, g, rest, rfl, hnv, hcv, hcm, hgb, hOt⟩ := hO2.ot
  have hSi := hOt.src rfl hcv hcm
  have hg2 : 0 < zs.length → g < w2.heap.size := fun h => hlt (hOt h).2
  have KRo := hid (roomy_any w2 zs spv capv hSi hlz)
  obtain ⟨xs, hxe⟩ : ∃ xs, xs = zs := ⟨_, rfl⟩
  replace hOt : Ot zs.length spv g rest xs w2 := by rw [hxe]; exact hOt
  have hxl : xs.length = zs.length := by rw [hxe]
  have yx : Bys xs := by rw [hxe]; exact yz
  have HXE := hid hxe
  clear hxe hSi hO2 c15 cn15 hSz2
  generalize zs.length = N at *
  go_wp2_with fail
  refine KRo.out.mono ?_
  rintro e w3 ⟨rfl, hgl, hb3⟩
  have dr := d2.call hb3
  replace hOt := hOt.below hb3
  rw [← HXE.out] at hgl
  have hgs : w.heap.size ≤ g := by omega
  have hgls : w.heap.size ≤ w2.heap.size := by have := hb2.size; omega
  have hsl : w.heap.size ≠ w2.heap.size := by have := hb2.size; omega
  have hsg : w.heap.size ≠ g := by omega
  clear KRo HXE d2 d0 c2 hb3
  generalize w2.heap.size = gl at *
  have HNE := hid (show 0 < N → gl ≠ g from fun h => by have := hg2 h; omega)
  clear hg2
  go_wp2
  go_loopw [5] (fun iv wr => ∃ (j : Nat) (xs : List Int), j ≤ 3 ∧ iv = .int .i64 j ∧ (xs.length = N ∧ Bys xs) ∧ Ot N spv g rest xs wr ∧ wr.heap[gl]? = some (.cells (ints .u8 (full xs)).toArray 5) ∧ NR w wr w.heap.size o) (fun iv _ => 3 - (intOf iv).toNat)
  case atStart => exact ⟨0, xs, by omega, rfl, ⟨hxl, yx⟩, hOt, hgl, dr⟩
  case round =>
    clear hOt hgl dr hxl yx xs
    obtain ⟨j, xs, hj, rfl, ⟨hxl, yx⟩, hOt, hgl, dr⟩ := hrel
    match j, hj with
    | 0, _ =>
      rw [show ((0 : Nat) : Int) = 0 from rfl]
      go_wp2
      go_loopw [6] (fun kv wr => ∃ (k : Nat) (xs : List Int), k ≤ N ∧ kv = .int .i64 k ∧ (xs.length = N ∧ Bys xs) ∧ Ot N spv g rest xs wr ∧ wr.heap[gl]? = some (.cells (ints .u8 (full xs)).toArray 5) ∧ NR w wr w.heap.size o) (fun kv _ => N - (intOf kv).toNat)
      case atStart => exact ⟨0, xs, Nat.zero_le _, rfl, ⟨hxl, yx⟩, hOt, hgl, dr⟩
      case round =>
        clear hOt hgl dr hxl yx xs
        obtain ⟨k, xs, hk, rfl, ⟨hxl, yx⟩, hOt, hgl, dr⟩ := hrel
        by_cases hlt2 : k < N
        · have i1 : (k : Int) < (N : Int) := by omega
          go_wp2
          go_roundw
          case rel => exact ⟨k + 1, xs, by omega, by go_num, ⟨hxl, yx⟩, hOt, hgl, dr⟩
          case measure => simp [intOf]; omega
        · obtain rfl : k = N := by omega
          clear hlt2
          have g0 := dr.2.2
          have hSi := hOt.src hxl hcv hcm
          have hSl : Src wr (some ⟨gl, 0, none⟩) (xs.length + 100) (full xs) := src_row (tl := []) (by rw [List.append_nil]; exact hgl) (xs.length + 100) (by rw [full_len]; exact Nat.le_refl _) (by unfold maxLen; omega)
          have KV := hid (KVP.out wr xs yx gl spv capv hSl hSi hnv (by omega))
          rw [hxl] at KV
          clear hSi hSl
          go_wp2_with (first | refine wpList_load_row rfl 32 _ rfl _ rfl 32 _ _ _ g0 Tryd.underlying32 rfl (by rw [Tryd.sizeOp, opC_size ok]) ?_)
          refine KV.out.mono ?_
          rintro e w3 ⟨rfl, hb3⟩
          have d3 := dr.call hb3
          have hOt3 := hOt.below hb3
          have hgl3 := hbel hb3 hgl (hlt hgl)
          go_wp2
          go_roundw
          case rel => exact ⟨1, xs, by omega, by go_num, ⟨hxl, yx⟩, hOt3, hgl3, d3⟩
          case measure => simp [intOf]
    | 1, _ =>
      rw [show ((1 : Nat) : Int) = 1 from rfl]
      go_wp2
      go_loopw [6] (fun kv wr => ∃ (k : Nat) (xs : List Int), k ≤ N ∧ kv = .int .i64 k ∧ (xs.length = N ∧ Bys xs) ∧ Ot N spv g rest xs wr ∧ wr.heap[gl]? = some (.cells (ints .u8 (full xs)).toArray 5) ∧ NR w wr w.heap.size o) (fun kv _ => N - (intOf kv).toNat)
      case atStart => exact ⟨0, xs, Nat.zero_le _, rfl, ⟨hxl, yx⟩, hOt, hgl, dr⟩
      case round =>
        clear hOt hgl dr hxl yx xs
        obtain ⟨k, xs, hk, rfl, ⟨hxl, yx⟩, hOt, hgl, dr⟩ := hrel
        by_cases hlt2 : k < N
        · have i1 : (k : Int) < (N : Int) := by omega
          obtain ⟨M, hM⟩ : ∃ M : Nat, (N : Int) / 2 = (M : Int) := ⟨N / 2, by omega⟩
          by_cases hq : k = M
          · subst hq
            obtain ⟨rfl, hg⟩ := hOt (by omega)
            have cx : wr.cell? ⟨g, k, none⟩ = some (.int .u8 (xs.getD k 0)) := by
              rw [cell_of_row _ _ _ _ _ _ hg]
              have := ints_get .u8 xs k (by omega)
              simp only [List.getElem?_toArray]
              rw [List.getElem?_append_left (by rw [ints_len]; omega), this]
            have fx : wr.frozen? ⟨g, k, none⟩ = false := frozen_of_row _ _ _ _ _ hg
            have cl := cell_ints hgl k (by rw [full_len]; omega)
            rw [full_lo xs k (by omega)] at cl
            have HS := hid (full_set xs k (bits .xor .u8 (xs.getD k 0) 1) (by omega))
            have hl2 : (xs.set k (bits .xor .u8 (xs.getD k 0) 1)).length = N := by rw [List.length_set, hxl]
            have y2 : Bys (xs.set k (bits .xor .u8 (xs.getD k 0) 1)) := yx.setx k _
            have hOt2 := Ot.set hOt k (bits .xor .u8 (xs.getD k 0) 1) (by omega)
            generalize xs.getD k 0 = x at *
            have cl2 : (wr.setCell ⟨g, k, none⟩ (.int .u8 (bits .xor .u8 x 1))).cell? ⟨gl, k, none⟩ = some (.int .u8 x) := by rw [cell_of_row _ _ _ _ _ _ (heap_set_far hgl ⟨g, k, none⟩ (.int .u8 (bits .xor .u8 x 1)) (HNE.out (by omega)))]; rw [cell_of_row _ _ _ _ _ _ hgl] at cl; exact cl
            have fl2 : (wr.setCell ⟨g, k, none⟩ (.int .u8 (bits .xor .u8 x 1))).frozen? ⟨gl, k, none⟩ = false := frozen_of_row _ _ _ _ _ (heap_set_far hgl ⟨g, k, none⟩ (.int .u8 (bits .xor .u8 x 1)) (HNE.out (by omega)))
            have hgl2 := heap_set_ints (heap_set_far hgl ⟨g, k, none⟩ (.int .u8 (bits .xor .u8 x 1)) (HNE.out (by omega))) k (bits .xor .u8 x 1)
            rw [← HS.out] at hgl2
            have hOt3 := hOt2.of_heap (w1 := (wr.setCell ⟨g, k, none⟩ (.int .u8 (bits .xor .u8 x 1))).setCell ⟨gl, k, none⟩ (.int .u8 (bits .xor .u8 x 1))) (fun o ho => heap_set_far ho ⟨gl, k, none⟩ (.int .u8 (bits .xor .u8 x 1)) (Ne.symm (HNE.out (by omega))))
            have dr2 : NR w ((wr.setCell ⟨g, k, none⟩ (.int .u8 (bits .xor .u8 x 1))).setCell ⟨gl, k, none⟩ (.int .u8 (bits .xor .u8 x 1))) w.heap.size o := ⟨dr.1, (dr.2.1.setCell (p := ⟨g, k, none⟩) hgs (.int .u8 (bits .xor .u8 x 1))).setCell (p := ⟨gl, k, none⟩) hgls (.int .u8 (bits .xor .u8 x 1)), heap_set_far (heap_set_far dr.2.2 ⟨g, k, none⟩ (.int .u8 (bits .xor .u8 x 1)) hsg) ⟨gl, k, none⟩ (.int .u8 (bits .xor .u8 x 1)) hsl⟩
            generalize hxs2 : xs.set k (bits .xor .u8 x 1) = xs2 at *
            clear hOt2 hxs2 HS cl hgl hg
            go_wp2
            go_roundw
            case rel => exact ⟨k + 1, xs2, by omega, by go_num, ⟨hl2, y2⟩, hOt3, hgl2, dr2⟩
            case measure => simp [intOf]; omega
          · have hq2 : ¬ ((k : Int) = (M : Int)) := by omega
            go_wp2
            go_roundw
            case rel => exact ⟨k + 1, xs, by omega, by go_num, ⟨hxl, yx⟩, hOt, hgl, dr⟩
            case measure => simp [intOf]; omega
        · obtain rfl : k = N := by omega
          clear hlt2
          have g0 := dr.2.2
          have hSi := hOt.src hxl hcv hcm
          have hSl : Src wr (some ⟨gl, 0, none⟩) (xs.length + 100) (full xs) := src_row (tl := []) (by rw [List.append_nil]; exact hgl) (xs.length + 100) (by rw [full_len]; exact Nat.le_refl _) (by unfold maxLen; omega)
          have KV := hid (KVP.out wr xs yx gl spv capv hSl hSi hnv (by omega))
          rw [hxl] at KV
          clear hSi hSl
          go_wp2_with (first | refine wpList_load_row rfl 32 _ rfl _ rfl 32 _ _ _ g0 Tryd.underlying32 rfl (by rw [Tryd.sizeOp, opC_size ok]) ?_)
          refine KV.out.mono ?_
          rintro e w3 ⟨rfl, hb3⟩
          have d3 := dr.call hb3
          have hOt3 := hOt.below hb3
          have hgl3 := hbel hb3 hgl (hlt hgl)
          go_wp2
          go_roundw
          case rel => exact ⟨2, xs, by omega, by go_num, ⟨hxl, yx⟩, hOt3, hgl3, d3⟩
          case measure => simp [intOf]
    | 2, _ =>
      rw [show ((2 : Nat) : Int) = 2 from rfl]
      go_wp2
      go_loopw [6] (fun kv wr => ∃ (k : Nat) (xs : List Int), k ≤ N ∧ kv = .int .i64 k ∧ (xs.length = N ∧ Bys xs) ∧ Ot N spv g rest xs wr ∧ wr.heap[gl]? = some (.cells (ints .u8 (full xs)).toArray 5) ∧ NR w wr w.heap.size o) (fun kv _ => N - (intOf kv).toNat)
      case atStart => exact ⟨0, xs, Nat.zero_le _, rfl, ⟨hxl, yx⟩, hOt, hgl, dr⟩
      case round =>
        clear hOt hgl dr hxl yx xs
        obtain ⟨k, xs, hk, rfl, ⟨hxl, yx⟩, hOt, hgl, dr⟩ := hrel
        by_cases hlt2 : k < N
        · have i1 : (k : Int) < (N : Int) := by omega
          obtain ⟨rfl, hg⟩ := hOt (by omega)
          have cx : wr.cell? ⟨g, k, none⟩ = some (.int .u8 (xs.getD k 0)) := by
            rw [cell_of_row _ _ _ _ _ _ hg]
            have := ints_get .u8 xs k (by omega)
            simp only [List.getElem?_toArray]
            rw [List.getElem?_append_left (by rw [ints_len]; omega), this]
          have fx : wr.frozen? ⟨g, k, none⟩ = false := frozen_of_row _ _ _ _ _ hg
          have cl := cell_ints hgl k (by rw [full_len]; omega)
          rw [full_lo xs k (by omega)] at cl
          have HS := hid (full_set xs k (bits .xor .u8 (xs.getD k 0) 1) (by omega))
          have hl2 : (xs.set k (bits .xor .u8 (xs.getD k 0) 1)).length = N := by rw [List.length_set, hxl]
          have y2 : Bys (xs.set k (bits .xor .u8 (xs.getD k 0) 1)) := yx.setx k _
          have hOt2 := Ot.set hOt k (bits .xor .u8 (xs.getD k 0) 1) (by omega)
          generalize xs.getD k 0 = x at *
          have cl2 : (wr.setCell ⟨g, k, none⟩ (.int .u8 (bits .xor .u8 x 1))).cell? ⟨gl, k, none⟩ = some (.int .u8 x) := by rw [cell_of_row _ _ _ _ _ _ (heap_set_far hgl ⟨g, k, none⟩ (.int .u8 (bits .xor .u8 x 1)) (HNE.out (by omega)))]; rw [cell_of_row _ _ _ _ _ _ hgl] at cl; exact cl
          have fl2 : (wr.setCell ⟨g, k, none⟩ (.int .u8 (bits .xor .u8 x 1))).frozen? ⟨gl, k, none⟩ = false := frozen_of_row _ _ _ _ _ (heap_set_far hgl ⟨g, k, none⟩ (.int .u8 (bits .xor .u8 x 1)) (HNE.out (by omega)))
          have hgl2 := heap_set_ints (heap_set_far hgl ⟨g, k, none⟩ (.int .u8 (bits .xor .u8 x 1)) (HNE.out (by omega))) k (bits .xor .u8 x 1)
          rw [← HS.out] at hgl2
          have hOt3 := hOt2.of_heap (w1 := (wr.setCell ⟨g, k, none⟩ (.int .u8 (bits .xor .u8 x 1))).setCell ⟨gl, k, none⟩ (.int .u8 (bits .xor .u8 x 1))) (fun o ho => heap_set_far ho ⟨gl, k, none⟩ (.int .u8 (bits .xor .u8 x 1)) (Ne.symm (HNE.out (by omega))))
          have dr2 : NR w ((wr.setCell ⟨g, k, none⟩ (.int .u8 (bits .xor .u8 x 1))).setCell ⟨gl, k, none⟩ (.int .u8 (bits .xor .u8 x 1))) w.heap.size o := ⟨dr.1, (dr.2.1.setCell (p := ⟨g, k, none⟩) hgs (.int .u8 (bits .xor .u8 x 1))).setCell (p := ⟨gl, k, none⟩) hgls (.int .u8 (bits .xor .u8 x 1)), heap_set_far (heap_set_far dr.2.2 ⟨g, k, none⟩ (.int .u8 (bits .xor .u8 x 1)) hsg) ⟨gl, k, none⟩ (.int .u8 (bits .xor .u8 x 1)) hsl⟩
          generalize hxs2 : xs.set k (bits .xor .u8 x 1) = xs2 at *
          clear hOt2 hxs2 HS cl hgl hg
          go_wp2
          go_roundw
          case rel => exact ⟨k + 1, xs2, by omega, by go_num, ⟨hl2, y2⟩, hOt3, hgl2, dr2⟩
          case measure => simp [intOf]; omega
        · obtain rfl : k = N := by omega
          clear hlt2
          have g0 := dr.2.2
          have hSi := hOt.src hxl hcv hcm
          have hSl : Src wr (some ⟨gl, 0, none⟩) (xs.length + 100) (full xs) := src_row (tl := []) (by rw [List.append_nil]; exact hgl) (xs.length + 100) (by rw [full_len]; exact Nat.le_refl _) (by unfold maxLen; omega)
          have KV := hid (KVP.out wr xs yx gl spv capv hSl hSi hnv (by omega))
          rw [hxl] at KV
          clear hSi hSl
          go_wp2_with (first | refine wpList_load_row rfl 32 _ rfl _ rfl 32 _ _ _ g0 Tryd.underlying32 rfl (by rw [Tryd.sizeOp, opC_size ok]) ?_)
          refine KV.out.mono ?_
          rintro e w3 ⟨rfl, hb3⟩
          have d3 := dr.call hb3
          have hOt3 := hOt.below hb3
          have hgl3 := hbel hb3 hgl (hlt hgl)
          go_wp2
          go_roundw
          case rel => exact ⟨3, xs, by omega, by go_num, ⟨hxl, yx⟩, hOt3, hgl3, d3⟩
          case measure => simp [intOf]
    | 3, _ =>
      rw [show ((3 : Nat) : Int) = 3 from rfl]
      go_wp2
      go_ret
      exact ⟨rfl, dr.2.1⟩
    | n + 4, h => exact absurd h (by omega)
set_option maxRecDepth 100000 in
set_option maxHeartbeats 400000 in
theorem nodeEncodes_up (w : World) (hG : Gb w) (ops : List NOp) (sp : Option Addr) (cap : Nat) (hS : SC w sp ops) (hok : ∀ o ∈ ops, NOk o) (hlen : (ops.length : Int) ≤ 9223372036854775807)
    (hp : ∀ o ∈ ops, 1 ≤ o.kd → o.kd ≤ 1 → ∀ w1, Below w.heap.size w w1 → Calls Tryd.prog 7 #[.agg (opC o).toArray] w1 fun e w' => e = .returned (.bool true) ∧ Below w1.heap.size w1 w') :
    Calls Tryd.prog 3 #[.slice sp ops.length cap] w fun e w' => e = .returned (.bool true) ∧ Below w.heap.size w w' := by
  have KU := hid (upTo_any w hG ops sp cap hS hok hlen 1 1 hp)
  clear hp hok hS
  generalize ops.length = n at *
  go_enter Tryd.func3, Tryd.ntmps3
  go_wp2_with fail
  refine KU.out.mono ?_
  rintro e w1 ⟨rfl, hb⟩
  go_wp2
  go_ret
  exact ⟨rfl, hb⟩
set_option maxRecDepth 100000 in
set_option maxHeartbeats 400000 in
theorem nodeDecodes_up (w : World) (hG : Gb w) (ops : List NOp) (sp : Option Addr) (cap : Nat) (hS : SC w sp ops) (hok : ∀ o ∈ ops, NOk o) (hlen : (ops.length : Int) ≤ 9223372036854775807)
    (hp : ∀ o ∈ ops, 2 ≤ o.kd → o.kd ≤ 2 → ∀ w1, Below w.heap.size w w1 → Calls Tryd.prog 7 #[.agg (opC o).toArray] w1 fun e w' => e = .returned (.bool true) ∧ Below w1.heap.size w1 w') :
    Calls Tryd.prog 4 #[.slice sp ops.length cap] w fun e w' => e = .returned (.bool true) ∧ Below w.heap.size w w' := by
  have KU := hid (upTo_any w hG ops sp cap hS hok hlen 2 2 hp)
  clear hp hok hS
  generalize ops.length = n at *
  go_enter Tryd.func4, Tryd.ntmps4
  go_wp2_with fail
  refine KU.out.mono ?_
  rintro e w1 ⟨rfl, hb⟩
  go_wp2
  go_ret
  exact ⟨rfl, hb⟩
set_option maxRecDepth 100000 in
set_option maxHeartbeats 400000 in
theorem nodePlays_up (w : World) (hG : Gb w) (ops : List NOp) (sp : Option Addr) (cap : Nat) (hS : SC w sp ops) (hok : ∀ o ∈ ops, NOk o) (hlen : (ops.length : Int) ≤ 9223372036854775807)
    (hp : ∀ o ∈ ops, 1 ≤ o.kd → o.kd ≤ 8 → ∀ w1, Below w.heap.size w w1 → Calls Tryd.prog 7 #[.agg (opC o).toArray] w1 fun e w' => e = .returned (.bool true) ∧ Below w1.heap.size w1 w') :
    Calls Tryd.prog 5 #[.slice sp ops.length cap] w fun e w' => e = .returned (.bool true) ∧ Below w.heap.size w w' := by
  have KU := hid (upTo_any w hG ops sp cap hS hok hlen 1 8 hp)
  clear hp hok hS
  generalize ops.length = n at *
  go_enter Tryd.func5, Tryd.ntmps5
  go_wp2_with fail
  refine KU.out.mono ?_
  rintro e w1 ⟨rfl, hb⟩
  go_wp2
  go_ret
  exact ⟨rfl, hb⟩
theorem nodeEncodes_any (w : World) (hG : Gb w) (ops : List NOp) (sp : Option Addr) (cap : Nat) (hS : SC w sp ops) (hok : ∀ o ∈ ops, NOk o ∧ VYk w o) (hlen : (ops.length : Int) ≤ 9223372036854775807) :
    Calls Tryd.prog 3 #[.slice sp ops.length cap] w fun e w' => e = .returned (.bool true) ∧ Below w.heap.size w w' :=
  nodeEncodes_up w hG ops sp cap hS (fun o h => (hok o h).1) hlen fun o ho h1 h2 w1 hb => plays_enc w1 (hG.keep hb) o (hok o ho).1 (by omega) ((hok o ho).2.below hb)
theorem nodeDecodes_any (w : World) (hG : Gb w) (ops : List NOp) (sp : Option Addr) (cap : Nat) (hS : SC w sp ops) (hok : ∀ o ∈ ops, NOk o ∧ VYk w o) (hlen : (ops.length : Int) ≤ 9223372036854775807) :
    Calls Tryd.prog 4 #[.slice sp ops.length cap] w fun e w' => e = .returned (.bool true) ∧ Below w.heap.size w w' :=
  nodeDecodes_up w hG ops sp cap hS (fun o h => (hok o h).1) hlen fun o ho h1 h2 w1 hb => plays_dec w1 (hG.keep hb) o (hok o ho).1 (by omega) ((hok o ho).2.below hb)
theorem nodePlays_any (w : World) (hG : Gb w) (ops : List NOp) (sp : Option Addr) (cap : Nat) (hS : SC w sp ops) (hok : ∀ o ∈ ops, NOk o ∧ VYk w o) (hlen : (ops.length : Int) ≤ 9223372036854775807) :
    Calls Tryd.prog 5 #[.slice sp ops.length cap] w fun e w' => e = .returned (.bool true) ∧ Below w.heap.size w w' :=
  nodePlays_up w hG ops sp cap hS (fun o h => (hok o h).1) hlen fun o ho h1 h2 w1 hb => by
    have ok := (hok o ho).1
    have hv := (hok o ho).2.below hb
    have g := hG.keep hb
    by_cases k1 : o.kd = 1
    · exact plays_enc w1 g o ok k1 hv
    by_cases k2 : o.kd = 2
    · exact plays_dec w1 g o ok k2 hv
    by_cases k3 : o.kd = 3
    · exact plays_ltext w1 g o ok k3 hv.vok
    by_cases k4 : o.kd = 4
    · exact plays_btext w1 g o ok k4
    by_cases k5 : o.kd = 5
    · exact plays_leaf w1 g o ok k5 hv.vok
    by_cases k6 : o.kd = 6
    · exact plays_branch w1 g o ok k6
    by_cases k7 : o.kd = 7
    · exact plays_empty w1 g o ok k7
    · exact plays_climb w1 g o ok (by omega)
end Go.Proofs.YtipbbmbkjcpjbaaDoor
