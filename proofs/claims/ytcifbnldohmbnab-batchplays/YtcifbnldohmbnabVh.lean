import Derived.Test.YtcifbnldohmbnabVg
import Derived.Test.YtcifbnldohmbnabCs
namespace Go.Proofs.Ytcifbnldohmbnab
set_option linter.unusedVariables false
set_option linter.unusedSimpArgs false
open Go.RowKit
attribute [local go_sem ↓] Go.wp_at_zero Go.wp_at_succ

theorem own_new2 (w : World) (x y : Int) : Own (w.alloc (.cells #[.int .u8 x, .int .u8 y] 5)) w.heap.size (.slice (some ⟨w.heap.size, 0, none⟩) 2 2) [x, y] :=
  ⟨rfl, Or.inr ⟨w.heap.size, 2, #[.int .u8 x, .int .u8 y], rfl, Nat.le_refl _, hnew w _, Nat.le_refl _, by simp [maxLen], rfl, rfl⟩⟩
theorem grown_cell {w w' : World} {r : Option Nat} {g i : Nat} {x : Option Value} (h : w.grownBy w' r) (hne : some g ≠ r) (hl : g < w.heap.size) (hc : w.cell? ⟨g, i, none⟩ = x) : w'.cell? ⟨g, i, none⟩ = x := by
  rw [← hc]; exact World.cell?_of_block (w := w) (a := ⟨g, i, none⟩) (h.block g hl hne)
set_option maxRecDepth 100000 in
theorem rtwo_any (w : World) (n : Nat) (hn : n < 65536) :
    Calls Try.prog 62 #[.int .i64 n] w fun e w' => ∃ g x0 x1, e = .returned (.slice (some ⟨g, 0, none⟩) 2 2) ∧ num2 n = [x0, x1] ∧ Own w' w.heap.size (.slice (some ⟨g, 0, none⟩) 2 2) [x0, x1] ∧ Below w.heap.size w w' := by
  have i1 : (n : Int) < 65536 := by omega
  have j1 : (n : Int).tmod 256 = (n : Int) % 256 := Int.tmod_eq_emod_of_nonneg (by omega)
  have j2 : (n : Int).tdiv 256 = (n : Int) / 256 := Int.tdiv_eq_ediv_of_nonneg (by omega)
  have HN := hid (show num2 n = [((n : Int) % 256), (n : Int) / 256] by simp [num2])
  go_enter Try.func62, Try.ntmps62
  go_wp2
  go_ret
  exact ⟨w.heap.size, _, _, rfl, HN.out, own_new2 w _ _, (Below.refl _ _).alloc (Nat.le_refl _) _⟩
theorem rng_cell {w : World} {b o : Nat} {k : List Int} (h : w.rangeAt b o (ints .u8 k)) (j : Nat) (hj : j < k.length) : w.cell? ⟨b, o + j, none⟩ = some (.int .u8 (k.getD j 0)) :=
  h j _ (by rw [ints, List.getElem?_map, List.getElem?_eq_getElem hj, List.getD_eq_getElem?_getD, List.getElem?_eq_getElem hj]; rfl)
/-- The bytes of the changes up to the i-th. -/
def layT (cs : List Chg) (i : Nat) : List Int := num2 cs.length ++ ((cs.take i).map lay1).flatten
theorem layT_step (cs : List Chg) (i : Nat) (hi : i < cs.length) : layT cs (i + 1) = layT cs i ++ lay1 (cs.getD i dC) := by
  unfold layT
  rw [take_snoc cs i hi, List.map_append, List.flatten_append, List.append_assoc]; simp
theorem layT_full (cs : List Chg) : layT cs cs.length = layC cs := by unfold layT layC; rw [List.take_length]
theorem layT_len {cs : List Chg} (hw : wrongC cs 64 = 0) (hk : ∀ c ∈ cs, c.key.length = 32) (i : Nat) : (layT cs i).length ≤ 20000 := by
  obtain ⟨h1, h2, _⟩ := wrong_zero.1 hw
  have := flat_le (cs.take i) (fun c hc => lay1_len (hk c (List.mem_of_mem_take hc)) (fun hd => not_long h2 c (List.mem_of_mem_take hc) hd))
  unfold layT
  rw [List.length_append]
  have h3 : (cs.take i).length ≤ 64 := by rw [List.length_take]; omega
  have h4 : (num2 cs.length).length = 2 := rfl
  omega
set_option maxRecDepth 100000 in
set_option maxHeartbeats 4000000 in
theorem rlaid_any (w : World) (cs : List Chg) (sp : Option Addr) (cap b o : Nat) (ms : List MC) (hC : Chs w sp cap cs b o ms) (hw : wrongC cs 64 = 0) :
    Calls Try.prog 52 #[.slice sp cs.length cap] w fun e w' => ∃ v, e = .returned v ∧ Own w' w.heap.size v (layC cs) ∧ Below w.heap.size w w' := by
  obtain ⟨h1, h2, _⟩ := wrong_zero.1 hw
  have hkl : ∀ c ∈ cs, c.key.length = 32 := fun c hc => by
    obtain ⟨i, hi, rfl⟩ := List.mem_iff_getElem.1 hc
    have := (hC.says.2 i hi).2.1
    rwa [List.getD_eq_getElem?_getD, List.getElem?_eq_getElem hi] at this
  have HTL := hid (layT_len hw hkl)
  have HNL := hid (not_long h2)
  have K1 := hid (rtwo_any w cs.length (by omega))
  have i0 : (cs.length : Int) ≤ 64 := by omega
  clear h1 h2 hw hkl
  go_enter Try.func52, Try.ntmps52
  go_wp2_with fail
  refine K1.out.mono ?_
  rintro e w1 ⟨g1, x0, x1, rfl, hnx, hO1, hB1⟩
  clear K1
  have hO0 : Own w1 w.heap.size (.slice (some ⟨g1, 0, none⟩) 2 2) (layT cs 0) := by
    have : layT cs 0 = [x0, x1] := by unfold layT; rw [hnx]; simp
    rw [this]; exact hO1
  clear hnx hO1
  go_wp2
  go_loopw [3, 4] (fun v iv wr => ∃ i : Nat, i ≤ cs.length ∧ iv = .int .i64 i ∧ Own wr w.heap.size v (layT cs i) ∧ Below w.heap.size w wr) (fun _ iv _ => cs.length - (intOf iv).toNat)
  case atStart => exact ⟨0, by omega, rfl, hO0, hB1⟩
  case round =>
    clear hO0 hB1
    obtain ⟨i, hi, rfl, hO, hB⟩ := hrel
    by_cases hlt : i < cs.length
    · have i1 : (i : Int) < (cs.length : Int) := by omega
      obtain ⟨hb, rfl⟩ := hC.pos (by omega)
      obtain ⟨spv, cv, ri, rd, rv, nilv, rs, li, _⟩ := hC.at i hlt
      have HST := hid (layT_step cs i hlt)
      have HP := hid (HTL.out i)
      have HVB := hid (HNL.out (cs.getD i dC) (by rw [List.getD_eq_getElem?_getD, List.getElem?_eq_getElem hlt]; exact List.getElem_mem hlt))
      have HKC := hid (fun j (hj : j < 32) => rng_cell ri j (by omega))
      obtain ⟨_, hvm, bv, ov, hbv, hspv, hsv⟩ := id rs
      clear ri rs
      generalize layT cs i = pre at *
      generalize hcc : cs.getD i dC = c at *
      clear hcc
      have HLK := hid li
      have cd := (hB.cell (p := ⟨b, o + i * 34 + 32, none⟩) hb).trans rd
      have kinds : ∃ kd : Int, kd = if c.del then 2 else 1 := ⟨_, rfl⟩
      obtain ⟨kd, hkd⟩ := kinds
      have HKD := hid hkd
      have HL1 := hid (show pre.length + 1 ≤ 140737488355328 by have := HP.out; omega)
      clear hkd li
      cases hdl : c.del with
      | true =>
        have HK2 := hid (show lay1 c = 2 :: c.key by unfold lay1; rw [if_pos hdl])
        rw [hdl] at cd rd
        clear hdl
        go_wp2_with (first | (at_builtin; refine wpList_push_any rfl (.tmp 23) (.tmp 25) rfl w.heap.size _ pre 2 rfl hO rfl HL1.out hB.size _ _ ?_; intro v2 w2 hO2 hB2))
        go_loopw [3, 6] (fun v jv wr => ∃ j : Nat, j ≤ 32 ∧ jv = .int .i64 j ∧ Own wr w.heap.size v (pre ++ [2] ++ c.key.take j) ∧ Below w.heap.size w wr) (fun _ jv _ => 32 - (intOf jv).toNat)
        case atStart => exact ⟨0, by omega, rfl, by simpa using hO2, hB.trans hB2⟩
        case round =>
          clear hO2 hB2 hO hB cd
          obtain ⟨j, hj, rfl, hO9, hB9⟩ := hrel
          by_cases hlj : j < 32
          · have j1 : (j : Int) < 32 := by omega
            have cx := (hB9.cell (p := ⟨b, o + i * 34 + j, none⟩) hb).trans (HKC.out j hlj)
            have HT := hid (take_next c.key j (by have := HLK.out; omega))
            have HL3 := hid (show (pre ++ [2] ++ c.key.take j).length + 1 ≤ 140737488355328 by have a1 := HP.out; simp only [List.length_append, List.length_cons, List.length_nil, List.length_take]; omega)
            generalize c.key.getD j 0 = y at *
            generalize hzz : pre ++ [2] ++ c.key.take j = zz at *
            have HZZ := hid hzz
            clear hzz
            go_wp2_with (first | (at_builtin; refine wpList_push_any rfl (.tmp 31) (.tmp 39) rfl w.heap.size _ zz y rfl hO9 rfl HL3.out hB9.size _ _ ?_; intro v2 w2 hO2 hB2))
            go_roundw
            case rel => exact ⟨j + 1, by omega, by go_num, (by rw [HT.out, ← List.append_assoc, HZZ.out]; exact hO2), hB9.trans hB2⟩
            case measure => simp [intOf]; omega
          · obtain rfl : j = 32 := by omega
            rw [List.take_of_length_le (by have := HLK.out; omega)] at hO9
            have cd := (hB9.cell (p := ⟨b, o + i * 34 + 32, none⟩) hb).trans rd
            clear hlj hj
            go_wp2
            go_roundw
            case rel => exact ⟨i + 1, by omega, by go_num, (by rw [HST.out, HK2.out]; simpa using hO9), hB9⟩
            case measure => simp [intOf]; omega
      | false =>
        have HK2 := hid (show lay1 c = 1 :: (c.key ++ (num2 c.val.length ++ c.val)) by unfold lay1; rw [if_neg (by rw [hdl]; decide)])
        have HVL := hid (HVB.out hdl)
        rw [hdl] at cd rd
        clear hdl HVB
        go_wp2_with (first | (at_builtin; refine wpList_push_any rfl (.tmp 23) (.tmp 25) rfl w.heap.size _ pre 1 rfl hO rfl HL1.out hB.size _ _ ?_; intro v2 w2 hO2 hB2))
        go_loopw [3, 6] (fun v jv wr => ∃ j : Nat, j ≤ 32 ∧ jv = .int .i64 j ∧ Own wr w.heap.size v (pre ++ [1] ++ c.key.take j) ∧ Below w.heap.size w wr) (fun _ jv _ => 32 - (intOf jv).toNat)
        case atStart => exact ⟨0, by omega, rfl, by simpa using hO2, hB.trans hB2⟩
        case round =>
          clear hO2 hB2 hO hB cd
          obtain ⟨j, hj, rfl, hO9, hB9⟩ := hrel
          by_cases hlj : j < 32
          · have j1 : (j : Int) < 32 := by omega
            have cx := (hB9.cell (p := ⟨b, o + i * 34 + j, none⟩) hb).trans (HKC.out j hlj)
            have HT := hid (take_next c.key j (by have := HLK.out; omega))
            have HL3 := hid (show (pre ++ [1] ++ c.key.take j).length + 1 ≤ 140737488355328 by have a1 := HP.out; simp only [List.length_append, List.length_cons, List.length_nil, List.length_take]; omega)
            generalize c.key.getD j 0 = y at *
            generalize hzz : pre ++ [1] ++ c.key.take j = zz at *
            have HZZ := hid hzz
            clear hzz
            go_wp2_with (first | (at_builtin; refine wpList_push_any rfl (.tmp 31) (.tmp 39) rfl w.heap.size _ zz y rfl hO9 rfl HL3.out hB9.size _ _ ?_; intro v2 w2 hO2 hB2))
            go_roundw
            case rel => exact ⟨j + 1, by omega, by go_num, (by rw [HT.out, ← List.append_assoc, HZZ.out]; exact hO2), hB9.trans hB2⟩
            case measure => simp [intOf]; omega
          · obtain rfl : j = 32 := by omega
            rw [List.take_of_length_le (by have := HLK.out; omega)] at hO9
            have cd := (hB9.cell (p := ⟨b, o + i * 34 + 32, none⟩) hb).trans rd
            have cv := (hB9.cell (p := ⟨b, o + i * 34 + 33, none⟩) hb).trans rv
            have KT := hid (rtwo_any _ c.val.length (by have := HVL.out; omega) : Calls Try.prog 62 #[.int .i64 c.val.length] wr _)
            have HZQ := hid (show (pre ++ [1] ++ c.key).length ≤ 30000 by have a1 := HP.out; have a2 := HLK.out; simp only [List.length_append, List.length_cons, List.length_nil]; omega)
            have ivl : (c.val.length : Int) ≤ 128 := by have := HVL.out; omega
            have HZR0 := hid (show ∀ x0 x1, num2 c.val.length = [x0, x1] → pre ++ lay1 c = pre ++ [1] ++ c.key ++ [x0, x1] ++ c.val by intro x0 x1 hx; rw [HK2.out, hx]; simp)
            generalize pre ++ [1] ++ c.key = zr at *
            obtain ⟨sr, cr, rfl, _, _⟩ := id hO9.form
            clear hlj hj
            go_wp2_with fail
            refine KT.out.mono ?_
            rintro e wA ⟨g7, x0, x1, rfl, hnx, hO7, hb7⟩
            clear KT cd cv
            have hOr := hO9.below hb7 (Nat.le_refl _)
            have hBA : Below w.heap.size w wA := hB9.trans (hb7.mono hB9.size)
            have h7b := (hO7.block g7 rfl)
            have h7l : g7 < wA.heap.size := h7b.2
            have HG7 := hid (show some g7 ≠ (Value.slice sr zr.length cr).ownBlock from fun e => by have := (hO9.block g7 e.symm).2; have := h7b.1; omega)
            obtain ⟨s7, q7, hv7, hS7, _⟩ := id hO7.form
            simp only [Value.slice.injEq] at hv7
            obtain ⟨rfl, _, rfl⟩ := hv7
            obtain ⟨_, _, b7, o7, _, hs7, hc7⟩ := hS7
            have hs7' := hs7 (by simp)
            simp only [Option.some.injEq, Addr.mk.injEq] at hs7'
            obtain ⟨rfl, rfl, _⟩ := hs7'
            have c70 : wA.cell? ⟨g7, 0, none⟩ = some (.int .u8 x0) := hc7 0 (by simp)
            have c71 : wA.cell? ⟨g7, 1, none⟩ = some (.int .u8 x1) := hc7 1 (by simp)
            have HZR := hid (show ∀ (ww : World) v, Own ww w.heap.size v (zr ++ [x0, x1] ++ c.val) → Own ww w.heap.size v (pre ++ lay1 c) from fun ww v h => by rw [HZR0.out x0 x1 hnx]; exact h)
            have HL2 := hid (show zr.length + [x0, x1].length ≤ 140737488351232 by have := HZQ.out; simp; omega)
            clear hb7 hO9 hB9 hO7 hc7 hs7 hnx h7b HZR0
            go_wp2
            refine wp_region_noPanic ?_
            refine wp_region_held_drew (S := fun w' => wA.grownBy w' (Value.slice sr zr.length cr).ownBlock) (by kernel_rfl) (grown_refl' _ _) (fun hHeld => ?_)
            refine wpAnyH_take (i := 0) (oi := { dst := some 53, op := Op.move (Operand.tmp 3), type := 27, pos := "ref.go:161", after := #[], guard := none }) (v := .slice sr zr.length cr) rfl (by kernel_rfl) (by kernel_rfl) (by kernel_rfl) (fun _ _ _ h => h) (Or.inl ⟨by rfl, by intro w hS; go_simp⟩) hHeld ?_
            try simp only [Act.put, List.setIfInBounds_toArray, List.set_cons_zero, List.set_cons_succ]
            refine wpAnyH_take (i := 1) (oi := { dst := some 54, op := Op.move (Operand.tmp 7), type := 27, pos := "ref.go:161", after := #[], guard := none }) (v := .slice (some ⟨g7, 0, none⟩) 2 2) rfl (by kernel_rfl) (by kernel_rfl) (by kernel_rfl) (fun _ _ _ h => h) (Or.inl ⟨by rfl, by intro w hS; go_simp⟩) hHeld ?_
            try simp only [Act.put, List.setIfInBounds_toArray, List.set_cons_zero, List.set_cons_succ]
            refine wpAnyH_take (i := 4) (oi := { dst := some 57, op := Op.move (Operand.tmp 7), type := 27, pos := "ref.go:161", after := #[], guard := none }) (v := .slice (some ⟨g7, 0, none⟩) 2 2) rfl (by kernel_rfl) (by kernel_rfl) (by kernel_rfl) (fun _ _ _ h => h) (Or.inl ⟨by rfl, by intro w hS; go_simp⟩) hHeld ?_
            try simp only [Act.put, List.setIfInBounds_toArray, List.set_cons_zero, List.set_cons_succ]
            refine wpAnyH_take (i := 2) (oi := { dst := some 55, op := Op.indexAddr 27 (Operand.tmp 54) (Operand.const (Value.int IntKind.i64 0)), type := 0, pos := "ref.go:161", after := #[{ on := 1, ground := Ground.data }], guard := none }) (v := .pointer (some ⟨g7, 0 + 0, none⟩)) rfl (by kernel_rfl) (by kernel_rfl) (by kernel_rfl) (fun _ _ _ h => h) (Or.inl ⟨by rfl, by intro w hS; go_simp⟩) hHeld ?_
            try simp only [Act.put, List.setIfInBounds_toArray, List.set_cons_zero, List.set_cons_succ]
            refine wpAnyH_take (i := 5) (oi := { dst := some 58, op := Op.indexAddr 27 (Operand.tmp 57) (Operand.const (Value.int IntKind.i64 1)), type := 0, pos := "ref.go:161", after := #[{ on := 4, ground := Ground.data }], guard := none }) (v := .pointer (some ⟨g7, 0 + 1, none⟩)) rfl (by kernel_rfl) (by kernel_rfl) (by kernel_rfl) (fun _ _ _ h => h) (Or.inl ⟨by rfl, by intro w hS; go_simp⟩) hHeld ?_
            try simp only [Act.put, List.setIfInBounds_toArray, List.set_cons_zero, List.set_cons_succ]
            refine wpAnyH_take (i := 3) (oi := { dst := some 56, op := Op.load 5 (Operand.tmp 55), type := 5, pos := "ref.go:161", after := #[{ on := 2, ground := Ground.data }], guard := none }) (v := .int .u8 x0) rfl (by kernel_rfl) (by kernel_rfl) (by kernel_rfl) (fun _ _ _ h => h) (Or.inl ⟨by rfl, by intro w hS; have hc := grown_cell hS HG7.out h7l c70; go_simp⟩) hHeld ?_
            try simp only [Act.put, List.setIfInBounds_toArray, List.set_cons_zero, List.set_cons_succ]
            refine wpAnyH_take (i := 6) (oi := { dst := some 59, op := Op.load 5 (Operand.tmp 58), type := 5, pos := "ref.go:161", after := #[{ on := 5, ground := Ground.data }], guard := none }) (v := .int .u8 x1) rfl (by kernel_rfl) (by kernel_rfl) (by kernel_rfl) (fun _ _ _ h => h) (Or.inl ⟨by rfl, by intro w hS; have hc := grown_cell hS HG7.out h7l c71; go_simp⟩) hHeld ?_
            try simp only [Act.put, List.setIfInBounds_toArray, List.set_cons_zero, List.set_cons_succ]
            refine wpAnyH_ready (rs := [7]) (by kernel_rfl) (by simp) ?_
            refine (AllReadyH.cons (o := { dst := some 60, op := Op.buildSlice 27 2 #[(0, Operand.tmp 56), (1, Operand.tmp 59)], type := 27, pos := "ref.go:161", after := #[{ on := 3, ground := Ground.data }, { on := 6, ground := Ground.data }], guard := none }) rfl (fun K hK => ?_) AllReadyH.nil)
            go_simp
            refine hK.out _ _ (grown_alloc' hHeld) (fun hHeld2 => ?_)
            clear hK K hHeld
            have hHeld := hHeld2
            clear hHeld2
            try simp only [Act.put, List.setIfInBounds_toArray, List.set_cons_zero, List.set_cons_succ]
            refine wpAnyH_ready (rs := [8]) (by kernel_rfl) (by simp) ?_
            refine (AllReadyH.cons (o := { dst := some 61, op := Op.call { callee := Callee.builtin Builtin.append, args := #[Operand.tmp 53, Operand.tmp 60], argTypes := #[27, 27] }, type := 27, pos := "ref.go:161", after := #[{ on := 0, ground := Ground.data }, { on := 7, ground := Ground.data }], guard := none }) rfl (fun K hK => ?_) AllReadyH.nil)
            refine step_appendB rfl (.tmp 53) (.tmp 60) rfl w.heap.size _ zr [x0, x1] rfl (own_pushes (w := wA.drew) hOr _) (some ⟨wA.heap.size, 0, none⟩) 2 rfl (fun h => by cases h) (src_new wA.drew [x0, x1] _ _ (by simp [maxLen])) HL2.out (by have := hBA.size; simp; omega) ?_
            intro v8 w8 hO8 hg8 hd8
            refine hK.out _ _ (grown_trans hHeld hg8 (Or.inl rfl)) (fun hHeld2 => ?_)
            clear hK K hHeld
            have hHeld := hHeld2
            clear hHeld2
            clear hd8
            try simp only [Act.put, List.setIfInBounds_toArray, List.set_cons_zero, List.set_cons_succ]
            refine wpAnyH_take (i := 9) (oi := { dst := some 3, op := Op.assign (Operand.tmp 61), type := 27, pos := "ref.go:161", after := #[{ on := 8, ground := Ground.data }, { on := 8, ground := Ground.chain }, { on := 0, ground := Ground.phase }, { on := 1, ground := Ground.phase }, { on := 2, ground := Ground.phase }, { on := 3, ground := Ground.phase }, { on := 4, ground := Ground.phase }, { on := 5, ground := Ground.phase }, { on := 6, ground := Ground.phase }, { on := 7, ground := Ground.phase }, { on := 8, ground := Ground.phase }], guard := none }) (v := v8) rfl (by kernel_rfl) (by kernel_rfl) (by kernel_rfl) (fun _ _ _ h => h) (Or.inl ⟨by rfl, by intro w hS; go_simp⟩) hHeld ?_
            try simp only [Act.put, List.setIfInBounds_toArray, List.set_cons_zero, List.set_cons_succ]
            refine wpAnyH_done (by kernel_rfl) ?_ _
            refine NoPanic.normal ?_
            have hgz := hHeld
            clear hHeld
            have hBC : Below w.heap.size w w8 := hBA.trans (grown_keeps hgz (fun k hk => (hOr.block k hk).1) hBA.size)
            clear hgz hOr hg8 c70 c71
            go_wp2
            go_loopw [3, 8] (fun v jv wr => ∃ j : Nat, j ≤ c.val.length ∧ jv = .int .i64 j ∧ Own wr w.heap.size v (zr ++ [x0, x1] ++ c.val.take j) ∧ Below w.heap.size w wr) (fun _ jv _ => c.val.length - (intOf jv).toNat)
            case atStart => exact ⟨0, by omega, rfl, by simpa using hO8, hBC⟩
            case round =>
              clear hO8 hBC
              obtain ⟨j, hj, rfl, hO9, hB9⟩ := hrel
              have cv := (hB9.cell (p := ⟨b, o + i * 34 + 33, none⟩) hb).trans rv
              by_cases hlj : j < c.val.length
              · have j1 : (j : Int) < (c.val.length : Int) := by omega
                obtain rfl := hspv (by omega)
                have cx := (hB9.cell (p := ⟨bv, ov + j, none⟩) (hbv (by omega))).trans (hsv j hlj)
                have HT := hid (take_next c.val j hlj)
                have HL3 := hid (show (zr ++ [x0, x1] ++ c.val.take j).length + 1 ≤ 140737488355328 by have a1 := HL2.out; have a2 := HVL.out; simp only [List.length_append, List.length_cons, List.length_nil, List.length_take] at *; omega)
                generalize c.val.getD j 0 = y at *
                generalize hzz : zr ++ [x0, x1] ++ c.val.take j = zz at *
                have HZZ := hid hzz
                clear hzz
                go_wp2_with (first | (at_builtin; refine wpList_push_any rfl (.tmp 72) (.tmp 81) rfl w.heap.size _ zz y rfl hO9 rfl HL3.out hB9.size _ _ ?_; intro v2 w2 hO2 hB2))
                go_roundw
                case rel => exact ⟨j + 1, by omega, by go_num, (by rw [HT.out, ← List.append_assoc, HZZ.out]; exact hO2), hB9.trans hB2⟩
                case measure => simp [intOf]; omega
              · obtain rfl : j = c.val.length := by omega
                have j1 : ¬ (c.val.length : Int) < (c.val.length : Int) := by omega
                rw [List.take_length] at hO9
                clear hlj
                go_wp2
                go_roundw
                case rel => exact ⟨i + 1, by omega, by go_num, (by rw [HST.out]; exact HZR.out _ _ hO9), hB9⟩
                case measure => simp [intOf]; omega
    · obtain rfl : i = cs.length := by omega
      rw [layT_full] at hO
      clear hlt
      go_wp2
      go_ret
      exact ⟨_, rfl, hO, hB⟩
set_option maxRecDepth 100000 in
set_option maxHeartbeats 1000000 in
theorem rBuild_any (w : World) (cs : List Chg) (sp : Option Addr) (cap b o : Nat) (ms : List MC) (hC : Chs w sp cap cs b o ms) (hok : ∀ c ∈ cs, OkC c) :
    Calls Try.prog 35 #[.slice sp cs.length cap] w fun e w' => ∃ v, e = .returned (.tuple #[v, .int .i64 (wrongC cs 64)]) ∧ Own w' w.heap.size v (buildV cs) ∧ Below w.heap.size w w' := by
  have K1 := hid (rwrong_any w cs sp cap b o ms hC hok 64 (by decide))
  go_enter Try.func35, Try.ntmps35
  go_wp2_with fail
  refine K1.out.mono ?_
  rintro e w1 ⟨rfl, hb1⟩
  clear K1
  by_cases h0 : wrongC cs 64 = 0
  · have K2 := hid (rlaid_any w1 cs sp cap b o ms (hC.below hb1) h0)
    have HE := hid h0
    have HLs := hid (show buildV cs = layC cs by unfold buildV; rw [if_pos h0])
    rw [h0]
    clear h0
    go_wp2_with fail
    refine K2.out.mono ?_
    rintro e w2 ⟨v, rfl, hO, hb2⟩
    clear K2
    go_wp2
    refine bodyPost_ret (results_tmp2 Try.results35 _ _ _) rfl ⟨v, ?_, ?_, hb1.trans (hb2.mono hb1.size)⟩
    · rw [HE.out]; rfl
    · rw [HLs.out]; exact hO.base hb1.size
  · have HLs := hid (show buildV cs = [] by unfold buildV; rw [if_neg h0])
    generalize hww : wrongC cs 64 = ww at *
    have HE := hid hww
    clear hww
    go_wp2
    refine bodyPost_ret (results_tmp2 Try.results35 _ _ _) rfl ⟨.slice none 0 0, ?_, ?_, hb1⟩
    · rw [HE.out]; rfl
    · rw [HLs.out]; exact Own.nil _ _
end Go.Proofs.Ytcifbnldohmbnab
