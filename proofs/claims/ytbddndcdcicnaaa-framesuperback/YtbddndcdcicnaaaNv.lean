import Derived.Test.YtbddndcdcicnaaaNt
namespace Go.Proofs.Ytbddndcdcicnaaa
set_option linter.unusedVariables false
set_option linter.unusedSimpArgs false
open Go.RowKit
attribute [local go_sem ↓] Go.wp_at_zero Go.wp_at_succ

theorem behind_len (X Y ts : List Int) (hX : X.length = 64) (hY : Y.length = 192) (i : Nat) (hi : i ≤ ts.length) (hi2 : i ≤ 192) : (X ++ (ts.take i ++ Y.drop i)).length = 256 := by
  simp [hX, hY]; omega
theorem behind_set (X Y ts : List Int) (hX : X.length = 64) (hY : Y.length = 192) (i : Nat) (hi : i < ts.length) (hi2 : i < 192) : (X ++ (ts.take i ++ Y.drop i)).set (64 + i) (ts.getD i 0) = X ++ (ts.take (i + 1) ++ Y.drop (i + 1)) := by
  have ht : (ts.take i).length = i := by rw [List.length_take]; omega
  rw [List.set_append_right _ _ (by omega), show 64 + i - X.length = i by omega, List.set_append_right _ _ (by omega), ht, Nat.sub_self, List.drop_eq_getElem_cons (by omega), List.set_cons_zero, List.take_succ_eq_append_getElem hi, List.getD_eq_getElem?_getD, List.getElem?_eq_getElem hi, List.append_assoc]
  rfl
set_option maxRecDepth 100000 in
set_option maxHeartbeats 2000000 in
theorem superBack_walk (w : World) (s : Sup) (ts : List Int) (t8 : Byts ts) (tp : Option Addr) (tc : Nat) (hT : Src w tp tc ts) (zs : List Int) (h8 : Byts zs) (sp : Option Addr) (cap : Nat) (hS : Src w sp cap zs) (hlen : zs.length ≤ 140737488355000) :
    Calls Try.prog 3 #[.agg (supC s), .slice tp ts.length tc, .slice sp zs.length cap] w fun e w' => e = .returned (.bool true) ∧ Below w.heap.size w w' := by
  have r0 := hnew w (.cells (supC s) 23)
  have b0 := below_new w (.cells (supC s) 23)
  have KSU := hid (show (Try.prog.info? 23).map (·.size) = some (supC s).size by rw [size_super]; rfl)
  have KSW := hid (show (supC s).all (·.oneCell') = true by simp [supC, Value.oneCell'])
  have KSZ := hid (show (#[.int .i64 0, .int .i64 0, .int .i64 0, .int .i64 0, .int .i64 0] : Array Value).size = (supC s).size from rfl)
  have KQ : ∀ w, (Op.equalIn 10000 23 (.agg (supC s)) (.agg (supC s))).run Try.prog w = .ok true w := fun w => by
    have := eqSup s s w; rwa [show decide (s = s) = true by simp] at this
  have KG := guardU
  have tl : (ts.length : Int) ≤ 9223372036854775807 := by have := hT.1; have := hT.2.1; unfold maxLen at this; omega
  go_enter Try.func3, Try.ntmps3
  go_wp2_with fail
  refine (knownSuper_any _).mono ?_
  rintro e w1 ⟨rfl, b1⟩
  have B1 := b0.trans (b1.mono b0.size)
  have r1 := hbel b1 r0 (hlt r0)
  have hG1 : w.heap.size < w1.heap.size := hlt r1
  clear b1 b0 r0
  cases hv : validS s
  case' false =>
    have hpk := packSuper_bad w1 s hv
    go_wp2_with (first
      | (refine wpList_load_row_w rfl 23 (.tmp 3) rfl w.heap.size rfl 23 (supC s) (0, 0) _ r1 Try.underlying23 rfl KSU.out ?_))
    refine hpk.mono ?_
    rintro e w2 ⟨rfl, b2⟩
    have BW := B1.trans (b2.mono B1.size)
    have hSW := hS.below BW (Nat.le_refl _)
    clear hpk b2 B1 r1 hv
    go_wp2_with fail
  case' true =>
    have hpk := packSuper_ok w1 s hv
    have hX8 := secS_byts s hv
    have hXl := secS_len s
    have hXYl := superP_len s
    have HV := hid hv
    clear hv
    go_wp2_with (first
      | (refine wpList_load_row_w rfl 23 (.tmp 3) rfl w.heap.size rfl 23 (supC s) (0, 0) _ r1 Try.underlying23 rfl KSU.out ?_))
    refine hpk.mono ?_
    rintro e w2 ⟨g, rfl, hg, hr, b2⟩
    have B2 := B1.trans (b2.mono B1.size)
    have r2 := hbel b2 r1 (hlt r1)
    have hgG : g ≠ w.heap.size := by omega
    clear hpk b2 B1 r1
    generalize hX : secS s = X at *
    replace hX := hid hX
    obtain ⟨Y, hY⟩ : ∃ Y : List Int, Y = List.replicate 192 0 := ⟨_, rfl⟩
    rw [← hY] at hXYl hr
    have hYl : Y.length = 192 := by rw [hY, List.length_replicate]
    have hY8 : Byts Y := by rw [hY]; exact rep_byts _
    clear hY
    obtain ⟨hc, hm, tb, tO, htb, htp, htc⟩ := hT
    go_wp2
    go_loopw [9] (fun iv wr => ∃ i : Nat, i ≤ ts.length ∧ i ≤ 192 ∧ iv = .int .i64 i ∧ wr.heap[g]? = some (.cells (ints .u8 (X ++ (ts.take i ++ Y.drop i))).toArray 5 (0, 0)) ∧ wr.heap[w.heap.size]? = some (.cells (supC s) 23 (0, 0)) ∧ Below w.heap.size w wr) (fun iv _ => 192 - (intOf iv).toNat)
    case' atStart => exact ⟨0, by omega, by omega, rfl, hr, r2, B2⟩
    case' round =>
      clear hr r2 B2
      obtain ⟨i, hi, hi2, rfl, hr, r2, B2⟩ := hrel
      have i9 : (i : Int) ≤ 192 := by omega
      by_cases hlt1 : i < ts.length
      case' neg =>
        have e1 : ¬ ((i : Int) < (ts.length : Int)) := by omega
        go_wp2_with fail
        have hcl := behind_len X Y ts hXl hYl i hi hi2
        have hc8 : Byts (X ++ (ts.take i ++ Y.drop i)) := byts_app hX8 (byts_app (t8.take i) (hY8.drop i))
        have hu := unSuper_any wr (X ++ (ts.take i ++ Y.drop i)) hc8 _ 256 (src_rowf hr 256 (by omega) (by decide))
        rw [hcl, unSuper_sec s _ HV.out hcl (by rw [List.take_left' hXl, hX.out])] at hu
        refine hu.mono ?_
        rintro e w3 ⟨rfl, b3⟩
        have r3 := hbel b3 r2 (hlt r2)
        have B3 := B2.trans (b3.mono B2.size)
        have rZ := hnew w3 (.cells (supC s) 23)
        have bZ := below_new w3 (.cells (supC s) 23)
        have r4 := hbel bZ r3 (hlt r3)
        have BW := B3.trans (bZ.mono B3.size)
        have hSW := hS.below BW (Nat.le_refl _)
        clear b3 hu B3 r3 hr r2 B2 bZ hcl hc8
        go_wp2_with (first
          | (refine wpList_store_row rfl 23 _ _ rfl _ (supC s) rfl rfl 23 _ (by exact hnew _ _) KSU.out KSZ.out KSW.out ?_; rw [setRow_alloc]; generalize w3.alloc (.cells (supC s) 23) = w4 at *; generalize w3.heap.size = G3 at *)
          | (refine wpList_load_row_w rfl 23 (.tmp 10) rfl G3 rfl 23 (supC s) (0, 0) _ rZ Try.underlying23 rfl KSU.out ?_)
          | (refine wpList_load_row_w rfl 23 (.tmp 3) rfl w.heap.size rfl 23 (supC s) (0, 0) _ r4 Try.underlying23 rfl KSU.out ?_))
      case' pos =>
        have e1 : (i : Int) < (ts.length : Int) := by omega
        by_cases hlt2 : i < 192
        case' neg =>
          have e2 : ¬ (64 + (i : Int) < 256) := by omega
          go_wp2_with fail
          have hcl := behind_len X Y ts hXl hYl i hi hi2
          have hc8 : Byts (X ++ (ts.take i ++ Y.drop i)) := byts_app hX8 (byts_app (t8.take i) (hY8.drop i))
          have hu := unSuper_any wr (X ++ (ts.take i ++ Y.drop i)) hc8 _ 256 (src_rowf hr 256 (by omega) (by decide))
          rw [hcl, unSuper_sec s _ HV.out hcl (by rw [List.take_left' hXl, hX.out])] at hu
          refine hu.mono ?_
          rintro e w3 ⟨rfl, b3⟩
          have r3 := hbel b3 r2 (hlt r2)
          have B3 := B2.trans (b3.mono B2.size)
          have rZ := hnew w3 (.cells (supC s) 23)
          have bZ := below_new w3 (.cells (supC s) 23)
          have r4 := hbel bZ r3 (hlt r3)
          have BW := B3.trans (bZ.mono B3.size)
          have hSW := hS.below BW (Nat.le_refl _)
          clear b3 hu B3 r3 hr r2 B2 bZ hcl hc8
          go_wp2_with (first
            | (refine wpList_store_row rfl 23 _ _ rfl _ (supC s) rfl rfl 23 _ (by exact hnew _ _) KSU.out KSZ.out KSW.out ?_; rw [setRow_alloc]; generalize w3.alloc (.cells (supC s) 23) = w4 at *; generalize w3.heap.size = G3 at *)
            | (refine wpList_load_row_w rfl 23 (.tmp 10) rfl G3 rfl 23 (supC s) (0, 0) _ rZ Try.underlying23 rfl KSU.out ?_)
            | (refine wpList_load_row_w rfl 23 (.tmp 3) rfl w.heap.size rfl 23 (supC s) (0, 0) _ r4 Try.underlying23 rfl KSU.out ?_))
        case' pos =>
          have e2 : 64 + (i : Int) < 256 := by omega
          obtain rfl := htp (by omega)
          have c0 := (B2.cell (p := ⟨tb, tO + i, none⟩) (htb (by omega))).trans (htc i hlt1)
          have c1 := cell_ints hr (64 + i) (by rw [behind_len X Y ts hXl hYl i hi hi2]; omega)
          have f1 : wr.frozen? ⟨g, 64 + i, none⟩ = false := frozen_of_row _ _ _ _ _ hr
          have HS := hid (behind_set X Y ts hXl hYl i hlt1 hlt2)
          generalize (X ++ (ts.take i ++ Y.drop i)).getD (64 + i) 0 = z0 at *
          generalize ts.getD i 0 = z1 at *
          go_wp2
          go_roundw
          case rel => exact ⟨i + 1, by omega, by omega, by go_num, by rw [← HS.out]; exact heap_set_ints hr _ _, heap_set_far r2 _ _ (fun h => hgG h.symm), B2.setCell (by show w.heap.size ≤ g; omega) _⟩
          case measure => simp [intOf]; omega
  all_goals
    refine (copied_any _ zs sp cap hSW hlen).mono ?_
    rintro e v1 ⟨vv, rfl, hO1, d1⟩
    obtain ⟨rp, rc, rfl, hr1, _⟩ := hO1.form
    have B1 := BW.trans (d1.mono BW.size)
    clear d1 BW hO1
    go_wp2_with fail
    refine (copied_any _ zs rp rc hr1 hlen).mono ?_
    rintro e v2 ⟨vv, rfl, hO2, d2⟩
    obtain ⟨qp, qc, rfl, hq2, _⟩ := hO2.form
    have B2 := B1.trans (d2.mono B1.size)
    have hr2 := hr1.below d2 (Nat.le_refl _)
    clear d2 B1 hO2 hr1
    have hu := unSuper_any v2 zs h8 qp qc hq2
    have HOK := hid (unSuper_ok zs)
    have HBD := hid (unSuper_bad zs)
    generalize unSuperF zs = U at *
    obtain ⟨u, E⟩ := U
    simp only at hu HOK HBD
    go_wp2_with fail
    refine hu.mono ?_
    rintro e v3 ⟨rfl, d3⟩
    have B3 := B2.trans (d3.mono B2.size)
    have hr3 := hr2.below d3 (Nat.le_refl _)
    have KU1 := hid (show (Try.prog.info? 23).map (·.size) = some (supC u).size by rw [size_super]; rfl)
    have KU3 := hid (show (#[.int .i64 0, .int .i64 0, .int .i64 0, .int .i64 0, .int .i64 0] : Array Value).size = (supC u).size from rfl)
    have KU2 := hid (show (supC u).all (·.oneCell') = true by simp [supC, Value.oneCell'])
    have rZ := hnew v3 (.cells (supC u) 23)
    have bZ := below_new v3 (.cells (supC u) 23)
    have B4 := B3.trans (bZ.mono B3.size)
    have hr4 := hr3.below bZ (Nat.le_refl _)
    clear d3 hu B2 B3 hr2 hr3 bZ
    by_cases hE : E = 0
    case' neg =>
      obtain rfl := HBD.out hE
      have KQ0 : ∀ w, (Op.equalIn 10000 23 (.agg (supC sup0)) (.agg #[.int .i64 0, .int .i64 0, .int .i64 0, .int .i64 0, .int .i64 0])).run Try.prog w = .ok true w := fun w => by
        have := eqSup sup0 sup0 w; rwa [show decide (sup0 = sup0) = true by simp] at this
      have hE2 : (E != 0) = true := by simpa using hE
      clear hE
      go_wp2_with (first
        | (refine wpList_store_row rfl 23 _ _ rfl _ (supC sup0) rfl rfl 23 _ (by exact hnew _ _) KU1.out rfl KU2.out ?_; rw [setRow_alloc]; generalize v3.alloc (.cells (supC sup0) 23) = v4 at *; generalize v3.heap.size = G4 at *)
        | (refine wpList_load_row_w rfl 23 (.tmp 13) rfl G4 rfl 23 (supC sup0) (0, 0) _ rZ Try.underlying23 rfl KU1.out ?_))
      go_ret
      exact ⟨rfl, B4⟩
    case' pos =>
      subst hE
      obtain ⟨zl, uv, ut⟩ := HOK.out rfl
      have hpk := fun w' => packSuper_ok w' u uv
      have ul := secS_len u
      have ul2 := superP_len u
      have HPK := hid hpk
      clear hpk
      rw [zl]
      go_wp2_with (first
        | (refine wpList_store_row rfl 23 _ _ rfl _ (supC u) rfl rfl 23 _ (by exact hnew _ _) KU1.out KU3.out KU2.out ?_; rw [setRow_alloc]; generalize v3.alloc (.cells (supC u) 23) = v4 at *; generalize v3.heap.size = G4 at *)
        | (refine wpList_load_row_w rfl 23 (.tmp 13) rfl G4 rfl 23 (supC u) (0, 0) _ rZ Try.underlying23 rfl KU1.out ?_))
      refine (HPK.out v4).mono ?_
      rintro e v5 ⟨gc, rfl, hgc, hrc, d5⟩
      have B5 := B4.trans (d5.mono B4.size)
      have hr5 := hr4.below d5 (Nat.le_refl _)
      obtain ⟨hrc1, hrc2, rb, ro, hrb, hrp, hrs⟩ := hr5
      obtain rfl := hrp (by omega)
      have hsc := src_rowf hrc 256 (by omega) (by decide)
      have hs1 := hsc.mid 0 64 (by omega) (hlt hrc) 256 (by omega) (by decide)
      have hs2 : Src v5 (some ⟨rb, ro + 0, none⟩) rc ((zs.drop 0).take 64) := Src.mid (cap := rc) ⟨hrc1, hrc2, rb, ro, hrb, fun _ => rfl, hrs⟩ 0 64 (by omega) (hrb (by omega)) rc (by omega) hrc2
      rw [List.drop_zero, Nat.add_zero] at hs1 hs2
      rw [List.take_left' ul] at hs1
      rw [ut] at hs2
      have B8 : Below w.heap.size w v5.drew := B5.drew
      have hsm := same_any v5.drew (secS u) (secS u) _ _ _ _ (show Src v5.drew _ _ _ from hs1) (show Src v5.drew _ _ _ from hs2)
      rw [ul, show decide (secS u = secS u) = true by simp] at hsm
      have q1 : (64 : Int) ≤ (rc : Int) := by omega
      have q2 : 64 ≤ rc := by omega
      clear hs1 hs2 hsc hrs hrp d5 B4 hr4 hrc B5
      go_wp2_with fail
  all_goals
    refine wp_region_noPanic ?_
    refine wp_region_held_drew (S := fun w' => True) (by kernel_rfl) trivial (fun hHeld => ?_)
    refine wpAnyH_take (i := 0) (oi := { dst := some 78, op := Op.move (Operand.tmp 16), type := 26, pos := "law.go:275", after := #[], guard := none }) (v := .int .i64 0) rfl (by kernel_rfl) (by kernel_rfl) (by kernel_rfl) (fun _ _ _ h => h) (Or.inl ⟨by rfl, by intro w hS; go_simp⟩) hHeld ?_
    try simp only [Act.put, List.setIfInBounds_toArray, List.set_cons_zero, List.set_cons_succ]
    refine wpAnyH_take (i := 1) (oi := { dst := some 79, op := Op.binOp BinOp.eql 26 (Operand.tmp 78) (Operand.const (Value.int IntKind.i64 0)) 26, type := 4, pos := "law.go:275", after := #[{ on := 0, ground := Ground.data }], guard := none }) (v := .bool true) rfl (by kernel_rfl) (by kernel_rfl) (by kernel_rfl) (fun _ _ _ h => h) (Or.inl ⟨by rfl, by intro w hS; go_simp⟩) hHeld ?_
    try simp only [Act.put, List.setIfInBounds_toArray, List.set_cons_zero, List.set_cons_succ]
    refine wpAnyH_take (i := 2) (oi := { dst := some 80, op := Op.move (Operand.tmp 79), type := 4, pos := "law.go:275", after := #[{ on := 1, ground := Ground.data }], guard := none }) (v := .bool true) rfl (by kernel_rfl) (by kernel_rfl) (by kernel_rfl) (fun _ _ _ h => h) (Or.inl ⟨by rfl, by intro w hS; go_simp⟩) hHeld ?_
    try simp only [Act.put, List.setIfInBounds_toArray, List.set_cons_zero, List.set_cons_succ]
    refine wpAnyH_take (i := 3) (oi := { dst := some 81, op := Op.move (Operand.tmp 15), type := 24, pos := "law.go:275", after := #[{ on := 2, ground := Ground.guard }], guard := some (2, true) }) (v := .slice (some ⟨gc, 0, none⟩) 256 256) rfl (by kernel_rfl) (by kernel_rfl) (by kernel_rfl) (fun _ _ _ h => h) (Or.inl ⟨by rfl, by intro w hS; go_simp⟩) hHeld ?_
    try simp only [Act.put, List.setIfInBounds_toArray, List.set_cons_zero, List.set_cons_succ]
    refine wpAnyH_take (i := 4) (oi := { dst := some 82, op := Op.call { callee := Callee.builtin Builtin.len, args := #[Operand.tmp 81], argTypes := #[24] }, type := 3, pos := "law.go:275", after := #[{ on := 3, ground := Ground.data }, { on := 2, ground := Ground.guard }], guard := some (2, true) }) (v := .int .i64 256) rfl (by kernel_rfl) (by kernel_rfl) (by kernel_rfl) (fun _ _ _ h => h) (Or.inl ⟨by rfl, by intro w hS; go_simp⟩) hHeld ?_
    try simp only [Act.put, List.setIfInBounds_toArray, List.set_cons_zero, List.set_cons_succ]
    refine wpAnyH_take (i := 5) (oi := { dst := some 83, op := Op.binOp BinOp.eql 3 (Operand.tmp 82) (Operand.const (Value.int IntKind.i64 256)) 3, type := 4, pos := "law.go:275", after := #[{ on := 4, ground := Ground.data }, { on := 2, ground := Ground.guard }], guard := some (2, true) }) (v := .bool true) rfl (by kernel_rfl) (by kernel_rfl) (by kernel_rfl) (fun _ _ _ h => h) (Or.inl ⟨by rfl, by intro w hS; go_simp⟩) hHeld ?_
    try simp only [Act.put, List.setIfInBounds_toArray, List.set_cons_zero, List.set_cons_succ]
    refine wpAnyH_take (i := 6) (oi := { dst := some 84, op := Op.pick (Operand.tmp 80) (Operand.tmp 83) (Operand.const (Value.bool false)), type := 4, pos := "law.go:275", after := #[{ on := 2, ground := Ground.data }, { on := 5, ground := Ground.data }], guard := none }) (v := .bool true) rfl (by kernel_rfl) (by kernel_rfl) (by kernel_rfl) (fun _ _ _ h => h) (Or.inl ⟨by rfl, by intro w hS; go_simp⟩) hHeld ?_
    try simp only [Act.put, List.setIfInBounds_toArray, List.set_cons_zero, List.set_cons_succ]
    refine wpAnyH_take (i := 7) (oi := { dst := some 85, op := Op.move (Operand.tmp 84), type := 4, pos := "law.go:275", after := #[{ on := 6, ground := Ground.data }, { on := 2, ground := Ground.chain }], guard := none }) (v := .bool true) rfl (by kernel_rfl) (by kernel_rfl) (by kernel_rfl) (fun _ _ _ h => h) (Or.inl ⟨by rfl, by intro w hS; go_simp⟩) hHeld ?_
    try simp only [Act.put, List.setIfInBounds_toArray, List.set_cons_zero, List.set_cons_succ]
    refine wpAnyH_take (i := 8) (oi := { dst := some 86, op := Op.move (Operand.tmp 12), type := 24, pos := "law.go:275", after := #[{ on := 7, ground := Ground.guard }], guard := some (7, true) }) (v := .slice (some ⟨rb, ro, none⟩) 256 rc) rfl (by kernel_rfl) (by kernel_rfl) (by kernel_rfl) (fun _ _ _ h => h) (Or.inl ⟨by rfl, by intro w hS; go_simp⟩) hHeld ?_
    try simp only [Act.put, List.setIfInBounds_toArray, List.set_cons_zero, List.set_cons_succ]
    refine wpAnyH_take (i := 9) (oi := { dst := some 87, op := Op.call { callee := Callee.builtin Builtin.len, args := #[Operand.tmp 86], argTypes := #[24] }, type := 3, pos := "law.go:275", after := #[{ on := 8, ground := Ground.data }, { on := 7, ground := Ground.guard }], guard := some (7, true) }) (v := .int .i64 256) rfl (by kernel_rfl) (by kernel_rfl) (by kernel_rfl) (fun _ _ _ h => h) (Or.inl ⟨by rfl, by intro w hS; go_simp⟩) hHeld ?_
    try simp only [Act.put, List.setIfInBounds_toArray, List.set_cons_zero, List.set_cons_succ]
    refine wpAnyH_take (i := 10) (oi := { dst := some 88, op := Op.binOp BinOp.eql 3 (Operand.tmp 87) (Operand.const (Value.int IntKind.i64 256)) 3, type := 4, pos := "law.go:275", after := #[{ on := 9, ground := Ground.data }, { on := 7, ground := Ground.guard }], guard := some (7, true) }) (v := .bool true) rfl (by kernel_rfl) (by kernel_rfl) (by kernel_rfl) (fun _ _ _ h => h) (Or.inl ⟨by rfl, by intro w hS; go_simp⟩) hHeld ?_
    try simp only [Act.put, List.setIfInBounds_toArray, List.set_cons_zero, List.set_cons_succ]
    refine wpAnyH_take (i := 11) (oi := { dst := some 89, op := Op.pick (Operand.tmp 85) (Operand.tmp 88) (Operand.const (Value.bool false)), type := 4, pos := "law.go:275", after := #[{ on := 7, ground := Ground.data }, { on := 10, ground := Ground.data }], guard := none }) (v := .bool true) rfl (by kernel_rfl) (by kernel_rfl) (by kernel_rfl) (fun _ _ _ h => h) (Or.inl ⟨by rfl, by intro w hS; go_simp⟩) hHeld ?_
    try simp only [Act.put, List.setIfInBounds_toArray, List.set_cons_zero, List.set_cons_succ]
    refine wpAnyH_take (i := 12) (oi := { dst := some 90, op := Op.move (Operand.tmp 89), type := 4, pos := "law.go:275", after := #[{ on := 11, ground := Ground.data }, { on := 7, ground := Ground.chain }], guard := none }) (v := .bool true) rfl (by kernel_rfl) (by kernel_rfl) (by kernel_rfl) (fun _ _ _ h => h) (Or.inl ⟨by rfl, by intro w hS; go_simp⟩) hHeld ?_
    try simp only [Act.put, List.setIfInBounds_toArray, List.set_cons_zero, List.set_cons_succ]
    refine wpAnyH_take (i := 13) (oi := { dst := some 91, op := Op.move (Operand.tmp 15), type := 24, pos := "law.go:275", after := #[{ on := 12, ground := Ground.guard }], guard := some (12, true) }) (v := .slice (some ⟨gc, 0, none⟩) 256 256) rfl (by kernel_rfl) (by kernel_rfl) (by kernel_rfl) (fun _ _ _ h => h) (Or.inl ⟨by rfl, by intro w hS; go_simp⟩) hHeld ?_
    try simp only [Act.put, List.setIfInBounds_toArray, List.set_cons_zero, List.set_cons_succ]
    refine wpAnyH_take (i := 15) (oi := { dst := some 93, op := Op.move (Operand.tmp 12), type := 24, pos := "law.go:275", after := #[{ on := 12, ground := Ground.guard }], guard := some (12, true) }) (v := .slice (some ⟨rb, ro, none⟩) 256 rc) rfl (by kernel_rfl) (by kernel_rfl) (by kernel_rfl) (fun _ _ _ h => h) (Or.inl ⟨by rfl, by intro w hS; go_simp⟩) hHeld ?_
    try simp only [Act.put, List.setIfInBounds_toArray, List.set_cons_zero, List.set_cons_succ]
    refine wpAnyH_take (i := 14) (oi := { dst := some 92, op := Op.slice 24 (Operand.tmp 91) none (some (Operand.const (Value.int IntKind.i64 64))) none, type := 24, pos := "law.go:275", after := #[{ on := 13, ground := Ground.data }, { on := 12, ground := Ground.guard }], guard := some (12, true) }) (v := .slice (some ⟨gc, 0, none⟩) 64 256) rfl (by kernel_rfl) (by kernel_rfl) (by kernel_rfl) (fun _ _ _ h => h) (Or.inl ⟨by rfl, by intro w hS; go_simp⟩) hHeld ?_
    try simp only [Act.put, List.setIfInBounds_toArray, List.set_cons_zero, List.set_cons_succ]
    refine wpAnyH_take (i := 16) (oi := { dst := some 94, op := Op.slice 24 (Operand.tmp 93) none (some (Operand.const (Value.int IntKind.i64 64))) none, type := 24, pos := "law.go:275", after := #[{ on := 15, ground := Ground.data }, { on := 12, ground := Ground.guard }], guard := some (12, true) }) (v := .slice (some ⟨rb, ro, none⟩) 64 rc) rfl (by kernel_rfl) (by kernel_rfl) (by kernel_rfl) (fun _ _ _ h => h) (Or.inl ⟨by rfl, by intro w hS; go_simp⟩) hHeld ?_
    try simp only [Act.put, List.setIfInBounds_toArray, List.set_cons_zero, List.set_cons_succ]
    refine wpAnyH_ready (rs := [17]) (by kernel_rfl) (by simp) ?_
    refine (AllReadyH.cons (o := { dst := some 95, op := Op.call { callee := Callee.value (Operand.func 13), args := #[Operand.tmp 92, Operand.tmp 94], argTypes := #[24, 24] }, type := 4, pos := "law.go:275", after := #[{ on := 14, ground := Ground.data }, { on := 16, ground := Ground.data }, { on := 12, ground := Ground.chain }, { on := 12, ground := Ground.guard }], guard := some (12, true) }) rfl (fun K hK => ?_) AllReadyH.nil)
    go_simp
    go_at_call 13
    refine hsm.mono ?_
    rintro e v9 ⟨rfl, d9⟩
    have B9 := B8.trans (d9.mono B8.size)
    go_wp2_with fail
    refine hK.out _ _ (trivial) (fun hHeld2 => ?_)
    clear hK K hHeld
    have hHeld := hHeld2
    clear hHeld2
    try simp only [Act.put, List.setIfInBounds_toArray, List.set_cons_zero, List.set_cons_succ]
    refine wpAnyH_take (i := 18) (oi := { dst := some 96, op := Op.pick (Operand.tmp 90) (Operand.tmp 95) (Operand.const (Value.bool false)), type := 4, pos := "law.go:275", after := #[{ on := 12, ground := Ground.data }, { on := 17, ground := Ground.data }], guard := none }) (v := .bool true) rfl (by kernel_rfl) (by kernel_rfl) (by kernel_rfl) (fun _ _ _ h => h) (Or.inl ⟨by rfl, by intro w hS; go_simp⟩) hHeld ?_
    try simp only [Act.put, List.setIfInBounds_toArray, List.set_cons_zero, List.set_cons_succ]
    refine wpAnyH_take (i := 19) (oi := { dst := some 6, op := Op.assign (Operand.tmp 96), type := 4, pos := "law.go:275", after := #[{ on := 18, ground := Ground.data }, { on := 17, ground := Ground.chain }, { on := 0, ground := Ground.phase }, { on := 1, ground := Ground.phase }, { on := 2, ground := Ground.phase }, { on := 3, ground := Ground.phase }, { on := 4, ground := Ground.phase }, { on := 5, ground := Ground.phase }, { on := 6, ground := Ground.phase }, { on := 7, ground := Ground.phase }, { on := 8, ground := Ground.phase }, { on := 9, ground := Ground.phase }, { on := 10, ground := Ground.phase }, { on := 11, ground := Ground.phase }, { on := 12, ground := Ground.phase }, { on := 13, ground := Ground.phase }, { on := 14, ground := Ground.phase }, { on := 15, ground := Ground.phase }, { on := 16, ground := Ground.phase }, { on := 17, ground := Ground.phase }, { on := 18, ground := Ground.phase }], guard := none }) (v := .bool true) rfl (by kernel_rfl) (by kernel_rfl) (by kernel_rfl) (fun _ _ _ h => h) (Or.inl ⟨by rfl, by intro w hS; go_simp⟩) hHeld ?_
    try simp only [Act.put, List.setIfInBounds_toArray, List.set_cons_zero, List.set_cons_succ]
    refine wpAnyH_done (by kernel_rfl) ?_ _
    refine NoPanic.normal ?_
    clear hHeld
    go_wp2
    go_ret
    exact ⟨rfl, B9⟩
end Go.Proofs.Ytbddndcdcicnaaa
