import Derived.Test.YtblcpcfonnaiiaaDoorClC
namespace Go.Proofs.YtblcpcfonnaiiaaDoor
set_option linter.unusedVariables false
set_option linter.unusedSimpArgs false
open Go.RowKit
attribute [local go_sem ↓] Go.wp_at_zero Go.wp_at_succ

theorem built_ck' (k : Int) (rs ks : List Value) (hr : rs.length = 32) (hk : ks.length = 32) (s s2 : Option Addr) (n c n2 c2 : Nat) : Tryd.prog.built 50 [(0, .agg ([Value.int .i64 k] ++ (rs ++ [Value.slice s n c])).toArray), (1, .agg ks.toArray), (2, .slice s2 n2 c2)] = some (([Value.int .i64 k] ++ (rs ++ [Value.slice s n c])) ++ (ks ++ [Value.slice s2 n2 c2]) ++ (pfC pf0 (.slice none 0 0) (.slice none 0 0) ++ [Value.slice none 0 0])).toArray := by
  obtain ⟨x0, x1, x2, x3, x4, x5, x6, x7, x8, x9, x10, x11, x12, x13, x14, x15, x16, x17, x18, x19, x20, x21, x22, x23, x24, x25, x26, x27, x28, x29, x30, x31, rfl⟩ := list32b hk
  obtain ⟨y0, y1, y2, y3, y4, y5, y6, y7, y8, y9, y10, y11, y12, y13, y14, y15, y16, y17, y18, y19, y20, y21, y22, y23, y24, y25, y26, y27, y28, y29, y30, y31, rfl⟩ := list32b hr
  kernel_rfl
theorem built_ck (k : Int) (root ks : List Int) (hr : root.length = 32) (hk : ks.length = 32) (s s2 : Option Addr) (n c n2 c2 : Nat) : Tryd.prog.built 50 [(0, .agg (tmC k root (.slice s n c)).toArray), (1, .agg (ints .u8 ks).toArray), (2, .slice s2 n2 c2)] = some (ckC k root ks (.slice s n c) (.slice s2 n2 c2) (pfC pf0 (.slice none 0 0) (.slice none 0 0)) (.slice none 0 0)).toArray := built_ck' k _ _ (by rw [ints_len, hr]) (by rw [ints_len, hk]) s s2 n c n2 c2
theorem Tryd.sizeKy : (Tryd.prog.info? 31).map (·.size) = some 32 := by kernel_rfl
set_option maxRecDepth 100000 in
set_option maxHeartbeats 4000000 in
theorem taken_any (w : World) (k : Int) (root ks : List Int) (hr : root.length = 32) (hk : ks.length = 32) (s s2 : Option Addr) (n c n2 c2 : Nat) :
    Calls Tryd.prog 23 #[.agg (tmC k root (.slice s n c)).toArray, .agg (ints .u8 ks).toArray, .slice s2 n2 c2] w fun e w' => ∃ g, e = .returned (.pointer (some ⟨g, 0, none⟩)) ∧ w.heap.size ≤ g ∧ w'.heap[g]? = some (.cells (ckC k root ks (.slice s n c) (.slice s2 n2 c2) (pfC pf0 (.slice none 0 0) (.slice none 0 0)) (.slice none 0 0)).toArray 50 (0, 0)) ∧ Below w.heap.size w w' := by
  have BC := hid (built_ck k root ks hr hk s s2 n c n2 c2)
  have d0 := ((BK.nil w).alloc (tmC k root (.slice s n c)) 41).alloc (ints .u8 ks) 31
  rw [show (w.alloc (.cells (tmC k root (.slice s n c)).toArray 41)).heap.size = w.heap.size + 1 by simp] at d0
  have LT := hid (show (Tryd.prog.info? 41).map (·.size) = some (tmC k root (.slice s n c)).toArray.size by rw [Tryd.sizeTm, List.size_toArray, tmC_len hr])
  have LK := hid (show (Tryd.prog.info? 31).map (·.size) = some (ints .u8 ks).toArray.size by rw [Tryd.sizeKy, List.size_toArray, ints_len, hk])
  have LC := hid (show (Tryd.prog.info? 50).map (·.size) = some (ckC k root ks (.slice s n c) (.slice s2 n2 c2) (pfC pf0 (.slice none 0 0) (.slice none 0 0)) (.slice none 0 0)).toArray.size by rw [Tryd.sizeCk, List.size_toArray, ckC_len hr hk rfl])
  have r1 := d0.row (.head _)
  have r0 := d0.row (.tail _ (.head _))
  generalize ckC k root ks (.slice s n c) (.slice s2 n2 c2) (pfC pf0 (.slice none 0 0) (.slice none 0 0)) (.slice none 0 0) = C at *
  generalize tmC k root (.slice s n c) = TM at *
  generalize ints .u8 ks = IK at *
  go_enter Tryd.func23, Tryd.ntmps23
  go_wp2_with (first
    | refine wpList_load_row rfl 41 _ rfl _ rfl 41 _ _ _ r0 Tryd.underlying41 rfl LT.out ?_
    | refine wpList_load_row rfl 31 _ rfl _ rfl 31 _ _ _ r1 Tryd.underlying31 rfl LK.out ?_
    | refine wpList_built (by rfl) 50 _ (by rfl) _ (by rfl) _ BC.out ?_)
  go_ret
  have hs : ((w.alloc (.cells TM.toArray 41)).alloc (.cells IK.toArray 31)).heap.size = w.heap.size + 1 + 1 := by simp
  have hn := hnew ((w.alloc (.cells TM.toArray 41)).alloc (.cells IK.toArray 31)) (.cells C.toArray 50)
  rw [hs] at hn
  exact ⟨_, rfl, by omega, hn, d0.1.alloc d0.1.size _⟩
set_option maxRecDepth 100000 in
set_option maxHeartbeats 4000000 in
theorem form_any (w : World) (cb : Nat) (k : Int) (root ks t : List Int) (hr : root.length = 32) (hk : ks.length = 32) (e : Value) (sp : Option Addr) (cap : Nat) (hy : Bys t) (hS : Src w sp cap t)
    (hc : w.heap[cb]? = some (.cells (ckC k root ks e (.slice sp t.length cap) (pfC pf0 (.slice none 0 0) (.slice none 0 0)) (.slice none 0 0)).toArray 50 (0, 0))) :
    Calls Tryd.prog 25 #[.pointer (some ⟨cb, 0, none⟩)] w fun en w' => ∃ s1 c1 s2 c2, en = .returned (.int .i64 (decE t)) ∧
      w'.heap[cb]? = some (.cells (ckC k root ks e (.slice sp t.length cap) (pfC (decV t) (.slice s1 (decV t).vs.length c1) (.slice s2 (decV t).ss.length c2)) (.slice none 0 0)).toArray 50 (0, 0)) ∧
      Own w' w.heap.size (.slice s1 (decV t).vs.length c1) (decV t).vs ∧ OwnD w' w.heap.size (.slice s2 (decV t).ss.length c2) (decV t).ss ∧ Keeps cb w w' := by
  have hok : PfOk (decV t) := by
    unfold decV
    cases hd : decP t with
    | none => exact pf0_ok
    | some p => exact (dec_some hy hd).1
  have KD := hid (fun w1 (h : Src w1 sp cap t) => decode_any w1 t hy sp cap h)
  unfold DecP at KD
  have AP := hid allocPf
  have LZ := hid (show (pfC pf0 (.slice none 0 0) (.slice none 0 0)).length = 35 from rfl)
  have LP := hid (fun v s => pfC_len hok v s)
  have OP := hid (fun s1 s2 n1 c1 n2 c2 => pfC_one (decV t) (.slice s1 n1 c1) (.slice s2 n2 c2) rfl rfl)
  have c66 : w.cell? ⟨cb, 66, none⟩ = some (.slice sp t.length cap) := by rw [cell_of_row _ _ _ _ _ _ hc, List.getElem?_toArray]; exact ckC_r hr hk
  have ST := hid (fun (qc : List Value) (hq : qc.length = 35) => ckC_setp (k := k) (e := e) (r := .slice sp t.length cap) (b := .slice none 0 0) (pc := pfC pf0 (.slice none 0 0) (.slice none 0 0)) hr hk rfl hq)
  have LC := hid (ckC_len (k := k) (e := e) (r := .slice sp t.length cap) (b := .slice none 0 0) (pc := pfC pf0 (.slice none 0 0) (.slice none 0 0)) hr hk rfl)
  generalize ckC k root ks e (.slice sp t.length cap) = CC at *
  generalize decV t = p at *
  generalize decE t = er at *
  generalize pfC pf0 (.slice none 0 0) (.slice none 0 0) = P0 at *
  have hcb := hlt hc
  go_enter Tryd.func25, Tryd.ntmps25
  go_wp2_with fail
  refine (KD.out _ hS).mono ?_
  rintro en w2 ⟨s1, c1, s2, c2, rfl, hO1, hO2, hB2⟩
  have hc2 := hbel hB2 hc hcb
  have LP2 := hid (LP.out (.slice s1 p.vs.length c1) (.slice s2 p.ss.length c2))
  have OP2 := hid (OP.out s1 s2 p.vs.length c1 p.ss.length c2)
  clear LP OP
  generalize hPC : pfC p (.slice s1 p.vs.length c1) (.slice s2 p.ss.length c2) = PC at *
  have HPC := hid hPC
  clear hPC
  go_wp2_with (first
    | (refine wpList_new AP.out LZ.out Tryd.sizeP rfl rfl rfl _ _ rfl rfl PC rfl rfl LP2.out OP2.out ?_; refine Hid.out ?_))
  refine hid ?_
  have r3 := hnew w2 (.cells PC.toArray 48)
  have hB3 : Below w2.heap.size w2 (w2.alloc (.cells PC.toArray 48)) := (Below.refl _ _).alloc (Nat.le_refl _) _
  have hc3 := hbel hB3 hc2 (hlt hc2)
  have hO1' := hO1.below hB3 (Nat.le_refl _)
  have hO2' := hO2.below hB3 (Nat.le_refl _)
  have hK : Keeps cb w (w2.alloc (.cells PC.toArray 48)) := (Keeps.of_below hB2).trans (Keeps.of_below hB3)
  clear hB3 hO1 hO2
  have LQ := hid (show (Tryd.prog.info? 48).map (·.size) = some PC.toArray.size by rw [Tryd.sizeP, List.size_toArray, LP2.out])
  generalize w2.alloc (.cells PC.toArray 48) = w3 at *
  generalize w2.heap.size = G at *
  go_wp2_with (first
    | refine wpList_load_row rfl 48 _ rfl _ rfl 48 _ _ _ r3 Tryd.underlying48 rfl LQ.out ?_
    | (refine wpList_store_mid rfl 48 _ _ rfl cb 67 PC.toArray rfl rfl (by rw [List.size_toArray, LP2.out]; intro i hi; exact ⟨by rw [cell_of_row _ _ _ _ _ _ hc3, List.getElem?_toArray, List.getElem?_eq_getElem (by rw [LC.out]; omega)]; rfl, frozen_of_row _ _ _ _ _ hc3⟩) (by rw [Tryd.sizeP, List.size_toArray, LP2.out]) (all_oneCell_toArray OP2.out) ?_; rw [setCells_row hc3 (by rw [LC.out, List.toList_toArray, LP2.out]; decide) (by rw [List.toList_toArray]; exact OP2.out), List.toList_toArray, ST.out PC LP2.out]))
  go_ret
  refine ⟨s1, c1, s2, c2, rfl, (by rw [HPC.out]; exact setRow_heap _ _ _ _ _ _ hc3), hO1'.of_heap (fun j hj => setRow_other _ cb j _ (by have := (hO1'.block j hj).1; omega)), hO2'.of_heap (fun j hj => setRow_other _ cb j _ (by have := (hO2'.block j hj).1; omega)), hK.setRow _⟩
theorem arrD_l (w : World) (N l : Nat) (h2 : l < 32) : (Instr.sliceAt 29 (.pointer (some ⟨N, 0, none⟩)) (some (.int .i64 (l : Nat))) none none).run Tryd.prog w = .ok (.slice (some ⟨N, l, none⟩) (32 - l) (32 - l)) w := by
  have hl : Tryd.prog.arrayLen 29 = 32 := by kernel_rfl
  have hz : (sizeOf (Tryd.prog.elem 29)).run Tryd.prog w = .ok 1 w := by kernel_rfl
  rw [run_sliceAt_array_l w 29 ⟨N, 0, none⟩ (by kernel_rfl) .i64 l (by omega) (by rw [hl]; omega), hz, hl]
  simp only [Result.andThen_ok, slicedAt, Int.toNat_natCast, Nat.mul_one, if_neg (show ¬ 32 = l by omega), Addr.add_mid, Nat.zero_add]
theorem arrD_32 (w : World) (N : Nat) : (Instr.sliceAt 29 (.pointer (some ⟨N, 0, none⟩)) (some (.int .i64 32)) none none).run Tryd.prog w = .ok (.slice (some ⟨N, 0, none⟩) 0 0) w := by kernel_rfl
theorem fit_none {n : Nat} {d : List Int} (h : ∀ i, n + i < d.length → d.getD (n + i) 0 = 0) : fitB n d = true := by
  refine List.all_eq_true.2 fun x hx => ?_
  rw [List.mem_drop_iff_getElem] at hx
  obtain ⟨i, hi, rfl⟩ := hx
  have := h i (by omega)
  rw [List.getD_eq_getElem?_getD, List.getElem?_eq_getElem (by omega)] at this
  simpa using this
theorem fit_not {n : Nat} {d : List Int} (i : Nat) (hi : n + i < d.length) (h : d.getD (n + i) 0 ≠ 0) : fitB n d = false := by
  cases e : fitB n d with
  | false => rfl
  | true =>
    have := List.all_eq_true.1 e (d[n + i]'hi) (by rw [List.mem_drop_iff_getElem]; exact ⟨i, by omega, rfl⟩)
    rw [List.getD_eq_getElem?_getD, List.getElem?_eq_getElem hi] at h
    exact absurd (by simpa using this) h
set_option maxRecDepth 100000 in
set_option maxHeartbeats 4000000 in
theorem fits_any (w : World) (n : Nat) (hn : n ≤ 32) (root d : List Int) (hr : root.length = 32) (hd : d.length = 32) (e : Value) :
    Calls Tryd.prog 45 #[.agg (tmC n root e).toArray, .agg (ints .u8 d).toArray] w fun en w' => en = .returned (.bool (fitB n d)) ∧ Below w.heap.size w w' := by
  have d0 := ((BK.nil w).alloc (tmC n root e) 41).alloc (ints .u8 d) 29
  rw [show (w.alloc (.cells (tmC n root e).toArray 41)).heap.size = w.heap.size + 1 by simp] at d0
  have c0 := d0.cell (.tail _ (.head _)) (v := .int .i64 n) (j := 0) rfl
  have FN := hid (fit_none (n := n) (d := d))
  have FT := hid (fun i hi h => fit_not (n := n) (d := d) i hi h)
  have CE := hid (fun j (hj : j < 32) => d0.cell (.head _) (ints_get .u8 d j (by omega)))
  generalize tmC n root e = TM at *
  generalize ints .u8 d = ID at *
  by_cases h32 : n = 32
  · subst h32
    rw [FN.out (fun i hi => by omega)]
    rw [show ((32 : Nat) : Int) = 32 from rfl] at c0
    have sl := fun w1 => arrD_32 w1 (w.heap.size + 1)
    go_enter Tryd.func45, Tryd.ntmps45
    go_wp2
    generalize (w.alloc (.cells TM.toArray 41)).alloc (.cells ID.toArray 29) = w1 at *
    go_loopw [6, 11] (fun _ iv wr => iv = .int .i64 0 ∧ wr = w1) (fun _ iv _ => 0)
    case atStart => exact ⟨rfl, rfl⟩
    case round =>
      obtain ⟨rfl, rfl⟩ := hrel
      go_wp2
      go_ret
      exact ⟨rfl, d0.1⟩
  · have hlt : n < 32 := by omega
    have sl := fun w1 => arrD_l w1 (w.heap.size + 1) n hlt
    have hm : 32 - n ≤ 32 := by omega
    obtain ⟨m, hM⟩ : ∃ m, 32 - n = m := ⟨_, rfl⟩
    rw [hM] at sl
    have i2 : (m : Int) ≤ 32 := by omega
    go_enter Tryd.func45, Tryd.ntmps45
    go_wp2
    generalize (w.alloc (.cells TM.toArray 41)).alloc (.cells ID.toArray 29) = w1 at *
    go_loopw [6, 11] (fun _ iv wr => ∃ j : Nat, j ≤ m ∧ iv = .int .i64 j ∧ wr = w1 ∧ ∀ i, i < j → d.getD (n + i) 0 = 0) (fun _ iv _ => m - (intOf iv).toNat)
    case atStart => exact ⟨0, by omega, rfl, rfl, fun i hi => by omega⟩
    case round =>
      obtain ⟨j, hj, rfl, rfl, hz⟩ := hrel
      by_cases hj2 : j < m
      · have i1 : (j : Int) < (m : Int) := by omega
        have cj := CE.out (n + j) (by omega)
        have HZ := hid hz
        have HJ := hid (FT.out j (by omega))
        clear hz FT CE FN
        generalize hXx : d.getD (n + j) 0 = x at *
        have HX := hid hXx
        clear hXx
        by_cases hx : x = 0
        · subst hx
          go_wp2
          go_roundw
          case rel => exact ⟨j + 1, by omega, by go_num, (by first | rfl | trivial), fun i hi => by
            by_cases e : i = j
            · subst e; exact HX.out
            · exact HZ.out i (by omega)⟩
          case measure => simp [intOf]; omega
        · have i3 : (x != 0) = true := by simpa using hx
          go_wp2
          go_ret
          exact ⟨by rw [HJ.out hx]; rfl, d0.1⟩
      · obtain rfl : j = m := by omega
        have HF := hid (FN.out (fun i hi => hz i (by omega)))
        clear FN FT CE hz
        go_wp2
        go_ret
        exact ⟨by rw [HF.out]; rfl, d0.1⟩
end Go.Proofs.YtblcpcfonnaiiaaDoor
