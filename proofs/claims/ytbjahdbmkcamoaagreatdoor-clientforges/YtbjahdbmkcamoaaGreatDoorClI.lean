import Derived.Test.YtbjahdbmkcamoaaGreatDoorClH
namespace Go.Proofs.YtbjahdbmkcamoaaGreatDoor
set_option linter.unusedVariables false
set_option linter.unusedSimpArgs false
open Go.RowKit
attribute [local go_sem ↓] Go.wp_at_zero Go.wp_at_succ

theorem ent_sumAt1 : ∀ (args : Array Value) (w : World), (callFunc 86 args).run Tryz.prog w = .ok (.enter 86 args) w := enters_of Tryz.func86 (by kernel_rfl) rfl
/-- What sumAt's function knows: the height that is asked, the digest found. -/
structure ISum (w0 : World) (hb fb H : Nat) (PT : Nat → List Int) (j : Nat) (F : List Nat) (w : World) : Prop where
  eF : F = [hb, fb]
  ne : hb ≠ fb
  h0 : w0.heap.size ≤ hb
  f0 : w0.heap.size ≤ fb
  hh : w.heap[hb]? = some (.cells #[.int .i64 (H : Nat)] 3 (0, 0))
  ff : w.heap[fb]? = some (.cells (ints .u8 (if H < j then PT H else zB)).toArray 28 (0, 0))
set_option maxRecDepth 100000 in
set_option maxHeartbeats 4000000 in
theorem sumAt1_any (w0 w : World) (hb fb H : Nat) (hH : H ≤ 256) (PT : Nat → List Int) (hP : ∀ h, (PT h).length = 32) (h : Nat) (hh : h ≤ 256) (F : List Nat) (hI : ISum w0 hb fb H PT h F w) :
    Calls Tryz.prog 86 #[.int .i64 (h : Nat), .agg (ints .u8 (PT h)).toArray, .pointer (some ⟨hb, 0, none⟩), .pointer (some ⟨fb, 0, none⟩)] w fun e w2 => e = .returned (.tuple #[]) ∧ ∃ F', ISum w0 hb fb H PT (h + 1) F' w2 ∧ FrC F w w2 ∧ ∀ k ∈ F', k ∈ F ∨ w.heap.size ≤ k := by
  obtain ⟨rfl, hne, h0, f0, rh, rf⟩ := hI
  have hb1 : Below w.heap.size w (w.alloc (.cells (ints .u8 (PT h)).toArray 28)) := (Below.refl _ _).alloc (Nat.le_refl _) _
  have r1 := hnew w (.cells (ints .u8 (PT h)).toArray 28)
  have rh1 := hbel hb1 rh (hlt rh)
  have rf1 := hbel hb1 rf (hlt rf)
  have c1 : (w.alloc (.cells (ints .u8 (PT h)).toArray 28)).cell? ⟨hb, 0, none⟩ = some (.int .i64 (H : Nat)) := by rw [cell_of_row _ _ _ _ _ _ rh1]; rfl
  have LD := hid (show (Tryz.prog.info? 28).map (·.size) = some (ints .u8 (PT h)).toArray.size by rw [Tryz.sizeD, ints_size, hP])
  have LP := hid (show (ints .u8 (PT h)).toArray.size = 32 by rw [ints_size, hP])
  have LF := hid (show (ints .u8 (if H < h then PT H else zB)).toArray.size = 32 by rw [ints_size]; split; exact hP H; rfl)
  have i0 : (H : Int) ≤ 256 := by omega
  have i2 : (h : Int) ≤ 256 := by omega
  have hne2 : hb ≠ w.heap.size := by have := hlt rh; omega
  have hne3 : fb ≠ w.heap.size := by have := hlt rf; omega
  have FR : FrC [hb, fb] w (w.alloc (.cells (ints .u8 (PT h)).toArray 28)) := FrC.of_below hb1
  by_cases e : h = H
  · subst e
    generalize hD : PT h = D at *
    have HD := hid hD
    clear hD
    go_enter Tryz.func86, Tryz.ntmps86
    go_wp2_with (first
      | refine wpList_load_row rfl 28 _ rfl _ rfl 28 _ _ _ r1 Tryz.underlying28 rfl LD.out ?_
      | refine wpList_store_row rfl 28 _ _ rfl fb (ints .u8 D).toArray rfl rfl 28 _ rf1 LD.out (by rw [LP.out, LF.out]) (all_oneCell_toArray (ints_one _ _)) ?_)
    go_end0
    exact ⟨rfl, [hb, fb], ⟨rfl, hne, h0, f0, (setRow_other _ fb hb _ hne).trans rh1, by rw [if_pos (show h < h + 1 by omega), HD.out]; exact setRow_heap _ _ _ _ _ _ rf1⟩, FR.setF fb (by simp) _, fun k q => Or.inl (by simpa using q)⟩
  · have i3 : ¬ ((h : Int) = (H : Int)) := by omega
    have i4 : ((h : Int) == (H : Int)) = false := by simpa using i3
    have HE := hid (show (if H < h + 1 then PT H else zB) = (if H < h then PT H else zB) by by_cases q : H < h; rw [if_pos q, if_pos (by omega)]; rw [if_neg q, if_neg (by omega)])
    go_enter Tryz.func86, Tryz.ntmps86
    go_wp2
    go_end0
    exact ⟨rfl, [hb, fb], ⟨rfl, hne, h0, f0, rh1, by rw [HE.out]; exact rf1⟩, FR, fun k q => Or.inl (by simpa using q)⟩
set_option maxRecDepth 100000 in
set_option maxHeartbeats 4000000 in
theorem sumAt_any (w : World) (hG : Glob w) (cb : Nat) (P : CkP) (n : Nat) (root ks : List Int) (p : Pf) (NB : List (List Int)) (hV : CkV w cb P n root ks p NB) (d : List Int) (hd : d.length = 32) (H : Nat) (hH : H ≤ 256) :
    Calls Tryz.prog 72 #[.pointer (some ⟨cb, 0, none⟩), .agg (ints .u8 d).toArray, .int .i64 (H : Nat)] w fun e w' => e = .returned (.agg (ints .u8 (pth n ks (fun j => NB.getD j []) d H)).toArray) ∧ Below w.heap.size w w' := by
  have AD := hid allocDg
  have hmf : ∀ (fn : Fn) (first cap : Array Value) (w : World), (Instr.makeFunc fn first cap).run Tryz.prog w = .ok (.func fn first cap) w := fun _ _ _ _ => rfl
  have hb3 : Below w.heap.size w (((w.alloc (.cells (ints .u8 d).toArray 28)).alloc (.cells #[.int .i64 (H : Nat)] 3)).alloc (.cells (ints .u8 zB).toArray 28)) := (((Below.refl _ _).alloc (Nat.le_refl _) _).alloc (by simp) _).alloc (by simp; omega) _
  have r0 := hold (o := .cells (ints .u8 zB).toArray 28) (hold (o := .cells #[.int .i64 (H : Nat)] 3) (hnew w (.cells (ints .u8 d).toArray 28)))
  have r1 := hold (o := .cells (ints .u8 zB).toArray 28) (hnew (w.alloc (.cells (ints .u8 d).toArray 28)) (.cells #[.int .i64 (H : Nat)] 3))
  have r2 := hnew ((w.alloc (.cells (ints .u8 d).toArray 28)).alloc (.cells #[.int .i64 (H : Nat)] 3)) (.cells (ints .u8 zB).toArray 28)
  rw [show (w.alloc (.cells (ints .u8 d).toArray 28)).heap.size = w.heap.size + 1 by simp] at r1
  rw [show ((w.alloc (.cells (ints .u8 d).toArray 28)).alloc (.cells #[.int .i64 (H : Nat)] 3)).heap.size = w.heap.size + 2 by simp] at r2
  have LD := hid (show (Tryz.prog.info? 28).map (·.size) = some (ints .u8 d).toArray.size by rw [Tryz.sizeD, ints_size, hd])
  have hP := fun h => pth_len n ks (fun j => NB.getD j []) d hd h
  have KC := hid (fun w1 (hB : Below w.heap.size w w1) (hI : ISum w (w.heap.size + 1) (w.heap.size + 2) H (pth n ks (fun j => NB.getD j []) d) 0 [w.heap.size + 1, w.heap.size + 2] w1) =>
    climb_any w w1 hG cb P n root ks p NB hV hB d hd 86 (.pointer (some ⟨w.heap.size + 1, 0, none⟩)) (.pointer (some ⟨w.heap.size + 2, 0, none⟩)) (fun j F w2 => ISum w (w.heap.size + 1) (w.heap.size + 2) H (pth n ks (fun j => NB.getD j []) d) j F w2) [w.heap.size + 1, w.heap.size + 2] ent_sumAt1
      (fun h F w2 a k hk => by
        obtain ⟨rfl, _, a3, a4, a5, a6⟩ := a
        simp only [List.mem_cons, List.not_mem_nil, or_false] at hk
        rcases hk with rfl | rfl
        · exact ⟨a3, hlt a5⟩
        · exact ⟨a4, hlt a6⟩)
      (fun h F w2 w3 a hk _ => by
        obtain ⟨rfl, a2, a3, a4, a5, a6⟩ := a
        exact ⟨rfl, a2, a3, a4, (hk _ (by simp)).trans a5, (hk _ (by simp)).trans a6⟩)
      (fun h F w2 hh a _ => sumAt1_any w w2 _ _ H hH _ hP h hh F a) hI)
  have HI0 : ISum w (w.heap.size + 1) (w.heap.size + 2) H (pth n ks (fun j => NB.getD j []) d) 0 [w.heap.size + 1, w.heap.size + 2] (((w.alloc (.cells (ints .u8 d).toArray 28)).alloc (.cells #[.int .i64 (H : Nat)] 3)).alloc (.cells (ints .u8 zB).toArray 28)) := ⟨rfl, by omega, by omega, by omega, r1, by rw [if_neg (by omega)]; exact r2⟩
  have hPH := hP H
  generalize pth (n : Int) ks (fun j => NB.getD j []) d = PT at *
  clear hV
  generalize ints .u8 zB = Z at *
  go_enter Tryz.func72, Tryz.ntmps72
  go_wp2_with (first
    | refine wpList_allocV AD.out rfl rfl ?_
    | refine wpList_load_row rfl 28 _ rfl _ rfl 28 _ _ _ r0 Tryz.underlying28 rfl LD.out ?_
    | (refine (KC.out _ hb3 HI0).mono ?_; rintro e w2 ⟨rfl, F2, hI2, hF2, hG2⟩; refine Hid.out ?_))
  refine hid ?_
  obtain ⟨rfl, -, -, -, -, rf⟩ := hI2
  rw [if_pos (by omega)] at rf
  have hB2 : Below w.heap.size w w2 := FrC.below hb3 hF2 (fun x hx => by simp only [List.mem_cons, List.not_mem_nil, or_false] at hx; omega) hb3.size
  have LP := hid (show (Tryz.prog.info? 28).map (·.size) = some (ints .u8 (PT H)).toArray.size by rw [Tryz.sizeD, ints_size, hPH])
  clear KC HI0 hF2 hG2 r0 r1 r2 hb3
  go_wp2_with (first
    | refine wpList_load_row rfl 28 _ rfl _ rfl 28 _ _ _ rf Tryz.underlying28 rfl LP.out ?_
    | refine wpList_store_row rfl 28 _ _ rfl (w.heap.size + 2) (ints .u8 (PT H)).toArray rfl rfl 28 _ rf LP.out rfl (all_oneCell_toArray (ints_one _ _)) ?_)
  exact bodyPost_ret (v := .agg (ints .u8 (PT H)).toArray) (results_cell_row Tryz.results72 _ _ (w.heap.size + 2) 28 _ _ _ rfl (setRow_heap _ _ _ _ _ _ rf) Tryz.underlying28 rfl LP.out) rfl ⟨rfl, below_setRow hB2 (by omega) _⟩
set_option maxRecDepth 100000 in
set_option maxHeartbeats 4000000 in
theorem leads_any (w : World) (hG : Glob w) (cb : Nat) (P : CkP) (n : Nat) (root ks : List Int) (p : Pf) (NB : List (List Int)) (hV : CkV w cb P n root ks p NB) :
    Calls Tryz.prog 43 #[.pointer (some ⟨cb, 0, none⟩)] w fun e w' => e = .returned (.int .i64 (if pth n ks (fun j => NB.getD j []) (footD n ks p.f p.vs) 256 = root then 0 else 131)) ∧ Below w.heap.size w w' := by
  have KF := hid (fun w1 (hG1 : Glob w1) (hV1 : CkV w1 cb P n root ks p NB) => foot_any w1 hG1 cb P n root ks p NB hV1)
  have KS := hid (fun w1 (hG1 : Glob w1) (hV1 : CkV w1 cb P n root ks p NB) => sumAt_any w1 hG1 cb P n root ks p NB hV1 (footD n ks p.f p.vs) (footD_len _ _ _ _) 256 (by omega))
  rw [show (((256 : Nat)) : Int) = 256 from rfl] at KS
  have hPl := pth_len n ks (fun j => NB.getD j []) (footD n ks p.f p.vs) (footD_len _ _ _ _) 256
  have hr := hV.hr
  have gD := Tryz.guardD
  have LR := hid (show (Tryz.prog.info? 28).map (·.size) = some (ints .u8 root).length by rw [Tryz.sizeD, ints_len, hr])
  have hcb := hV.cbl
  have HV := hid hV
  generalize pth n ks (fun j => NB.getD j []) (footD n ks p.f p.vs) 256 = X at *
  generalize footD n ks p.f p.vs = D at *
  by_cases hX : X = root
  · rw [if_pos hX]
    have qE : ∀ w1 : World, (Op.equalIn 10000 28 (.agg (ints .u8 X).toArray) (.agg (ints .u8 root).toArray)).run Tryz.prog w1 = .ok true w1 := fun w1 => by rw [← hX]; exact eqD_self X hPl w1
    clear hX hV
    go_enter Tryz.func43, Tryz.ntmps43
    go_wp2_with fail
    refine wp_region_noPanic ?_
    refine wp_region_held_drew (S := (fun w' => Below w.heap.size w w')) (by kernel_rfl) (Below.refl _ _).drew (fun hHeld => ?_)
    refine wpAnyH_take (i := 0) (oi := { dst := some 3, op := Op.move (Operand.tmp 0), type := 60, pos := "check.go:115", after := #[], guard := none }) (v := .pointer (some ⟨cb, 0, none⟩)) rfl (by kernel_rfl) (by kernel_rfl) (by kernel_rfl) (fun _ _ _ h => h) (Or.inl ⟨by rfl, by intro w hS; go_simp⟩) hHeld ?_
    try simp only [Act.put, List.setIfInBounds_toArray, List.set_cons_zero, List.set_cons_succ]
    refine wpAnyH_take (i := 1) (oi := { dst := some 4, op := Op.move (Operand.tmp 0), type := 60, pos := "check.go:115", after := #[], guard := none }) (v := .pointer (some ⟨cb, 0, none⟩)) rfl (by kernel_rfl) (by kernel_rfl) (by kernel_rfl) (fun _ _ _ h => h) (Or.inl ⟨by rfl, by intro w hS; go_simp⟩) hHeld ?_
    try simp only [Act.put, List.setIfInBounds_toArray, List.set_cons_zero, List.set_cons_succ]
    refine wpAnyH_take (i := 4) (oi := { dst := some 7, op := Op.move (Operand.tmp 0), type := 60, pos := "check.go:115", after := #[], guard := none }) (v := .pointer (some ⟨cb, 0, none⟩)) rfl (by kernel_rfl) (by kernel_rfl) (by kernel_rfl) (fun _ _ _ h => h) (Or.inl ⟨by rfl, by intro w hS; go_simp⟩) hHeld ?_
    try simp only [Act.put, List.setIfInBounds_toArray, List.set_cons_zero, List.set_cons_succ]
    refine wpAnyH_take (i := 5) (oi := { dst := some 8, op := Op.nilCheck (Operand.tmp 7), type := 0, pos := "check.go:115", after := #[{ on := 4, ground := Ground.data }], guard := none }) (v := .pointer (some ⟨cb, 0, none⟩)) rfl (by kernel_rfl) (by kernel_rfl) (by kernel_rfl) (fun _ _ _ h => h) (Or.inl ⟨by rfl, by intro w hS; go_simp⟩) hHeld ?_
    try simp only [Act.put, List.setIfInBounds_toArray, List.set_cons_zero, List.set_cons_succ]
    refine wpAnyH_take (i := 6) (oi := { dst := some 9, op := Op.fieldAddr 64 (Operand.tmp 8) 0, type := 0, pos := "check.go:115", after := #[{ on := 5, ground := Ground.data }], guard := none }) (v := .pointer (some ⟨cb, 0, none⟩)) rfl (by kernel_rfl) (by kernel_rfl) (by kernel_rfl) (fun _ _ _ h => h) (Or.inl ⟨by rfl, by intro w hS; go_simp⟩) hHeld ?_
    try simp only [Act.put, List.setIfInBounds_toArray, List.set_cons_zero, List.set_cons_succ]
    refine wpAnyH_take (i := 7) (oi := { dst := some 10, op := Op.fieldAddr 57 (Operand.tmp 9) 1, type := 0, pos := "check.go:115", after := #[{ on := 6, ground := Ground.data }], guard := none }) (v := .pointer (some ⟨cb, 1, none⟩)) rfl (by kernel_rfl) (by kernel_rfl) (by kernel_rfl) (fun _ _ _ h => h) (Or.inl ⟨by rfl, by intro w hS; go_simp⟩) hHeld ?_
    try simp only [Act.put, List.setIfInBounds_toArray, List.set_cons_zero, List.set_cons_succ]
    refine wpAnyH_take (i := 8) (oi := { dst := some 11, op := Op.load 28 (Operand.tmp 10), type := 28, pos := "check.go:115", after := #[{ on := 7, ground := Ground.data }], guard := none }) (v := .agg (ints .u8 root).toArray) rfl (by kernel_rfl) (by kernel_rfl) (by kernel_rfl) (fun _ _ _ h => h) (yieldsIf_load_mid (by rfl) 28 _ rfl cb (1) rfl (ints .u8 root) _ (fun w hS => rng_below HV.out.rootR hS hcb) Tryz.underlying28 rfl LR.out) hHeld ?_
    try simp only [Act.put, List.setIfInBounds_toArray, List.set_cons_zero, List.set_cons_succ]
    refine wpAnyH_ready (rs := [2]) (by kernel_rfl) (by simp) ?_
    refine (AllReadyH.cons (o := { dst := some 5, op := Op.call { callee := Callee.value (Operand.func 46), args := #[Operand.tmp 4], argTypes := #[60] }, type := 28, pos := "check.go:115", after := #[{ on := 1, ground := Ground.data }], guard := none }) rfl (fun K hK => ?_) AllReadyH.nil)
    go_simp
    go_at_call 46
    refine (KF.out _ (hG.below hHeld hG.1) (HV.out.below hHeld)).mono ?_
    rintro e w4 ⟨rfl, hb4⟩
    go_wp2_with fail
    refine hK.out _ _ (hHeld.trans (hb4.mono hHeld.size)) (fun hHeld2 => ?_)
    clear hK K hHeld
    have hHeld := hHeld2
    clear hHeld2
    clear hb4
    try simp only [Act.put, List.setIfInBounds_toArray, List.set_cons_zero, List.set_cons_succ]
    refine wpAnyH_ready (rs := [3]) (by kernel_rfl) (by simp) ?_
    refine (AllReadyH.cons (o := { dst := some 6, op := Op.call { callee := Callee.value (Operand.func 72), args := #[Operand.tmp 3, Operand.tmp 5, Operand.const (Value.int IntKind.i64 256)], argTypes := #[60, 28, 3] }, type := 28, pos := "check.go:115", after := #[{ on := 0, ground := Ground.data }, { on := 2, ground := Ground.data }, { on := 2, ground := Ground.chain }], guard := none }) rfl (fun K hK => ?_) AllReadyH.nil)
    go_simp
    go_at_call 72
    refine (KS.out _ (hG.below hHeld hG.1) (HV.out.below hHeld)).mono ?_
    rintro e w4 ⟨rfl, hb4⟩
    go_wp2_with fail
    refine hK.out _ _ (hHeld.trans (hb4.mono hHeld.size)) (fun hHeld2 => ?_)
    clear hK K hHeld
    have hHeld := hHeld2
    clear hHeld2
    clear hb4
    try simp only [Act.put, List.setIfInBounds_toArray, List.set_cons_zero, List.set_cons_succ]
    refine wpAnyH_take (i := 9) (oi := { dst := some 12, op := Op.binOp BinOp.neq 28 (Operand.tmp 6) (Operand.tmp 11) 28, type := 4, pos := "check.go:115", after := #[{ on := 3, ground := Ground.data }, { on := 8, ground := Ground.data }], guard := none }) (v := .bool false) rfl (by kernel_rfl) (by kernel_rfl) (by kernel_rfl) (fun _ _ _ h => h) (Or.inl ⟨by rfl, by intro w hS; go_simp⟩) hHeld ?_
    try simp only [Act.put, List.setIfInBounds_toArray, List.set_cons_zero, List.set_cons_succ]
    refine wpAnyH_done (by kernel_rfl) ?_ _
    refine NoPanic.normal ?_
    go_wp2_with fail
    go_ret
    exact ⟨rfl, hHeld⟩
  · rw [if_neg hX]
    have qE := eqD_ne X root hPl hr hX
    clear hX hV
    go_enter Tryz.func43, Tryz.ntmps43
    go_wp2_with fail
    refine wp_region_noPanic ?_
    refine wp_region_held_drew (S := (fun w' => Below w.heap.size w w')) (by kernel_rfl) (Below.refl _ _).drew (fun hHeld => ?_)
    refine wpAnyH_take (i := 0) (oi := { dst := some 3, op := Op.move (Operand.tmp 0), type := 60, pos := "check.go:115", after := #[], guard := none }) (v := .pointer (some ⟨cb, 0, none⟩)) rfl (by kernel_rfl) (by kernel_rfl) (by kernel_rfl) (fun _ _ _ h => h) (Or.inl ⟨by rfl, by intro w hS; go_simp⟩) hHeld ?_
    try simp only [Act.put, List.setIfInBounds_toArray, List.set_cons_zero, List.set_cons_succ]
    refine wpAnyH_take (i := 1) (oi := { dst := some 4, op := Op.move (Operand.tmp 0), type := 60, pos := "check.go:115", after := #[], guard := none }) (v := .pointer (some ⟨cb, 0, none⟩)) rfl (by kernel_rfl) (by kernel_rfl) (by kernel_rfl) (fun _ _ _ h => h) (Or.inl ⟨by rfl, by intro w hS; go_simp⟩) hHeld ?_
    try simp only [Act.put, List.setIfInBounds_toArray, List.set_cons_zero, List.set_cons_succ]
    refine wpAnyH_take (i := 4) (oi := { dst := some 7, op := Op.move (Operand.tmp 0), type := 60, pos := "check.go:115", after := #[], guard := none }) (v := .pointer (some ⟨cb, 0, none⟩)) rfl (by kernel_rfl) (by kernel_rfl) (by kernel_rfl) (fun _ _ _ h => h) (Or.inl ⟨by rfl, by intro w hS; go_simp⟩) hHeld ?_
    try simp only [Act.put, List.setIfInBounds_toArray, List.set_cons_zero, List.set_cons_succ]
    refine wpAnyH_take (i := 5) (oi := { dst := some 8, op := Op.nilCheck (Operand.tmp 7), type := 0, pos := "check.go:115", after := #[{ on := 4, ground := Ground.data }], guard := none }) (v := .pointer (some ⟨cb, 0, none⟩)) rfl (by kernel_rfl) (by kernel_rfl) (by kernel_rfl) (fun _ _ _ h => h) (Or.inl ⟨by rfl, by intro w hS; go_simp⟩) hHeld ?_
    try simp only [Act.put, List.setIfInBounds_toArray, List.set_cons_zero, List.set_cons_succ]
    refine wpAnyH_take (i := 6) (oi := { dst := some 9, op := Op.fieldAddr 64 (Operand.tmp 8) 0, type := 0, pos := "check.go:115", after := #[{ on := 5, ground := Ground.data }], guard := none }) (v := .pointer (some ⟨cb, 0, none⟩)) rfl (by kernel_rfl) (by kernel_rfl) (by kernel_rfl) (fun _ _ _ h => h) (Or.inl ⟨by rfl, by intro w hS; go_simp⟩) hHeld ?_
    try simp only [Act.put, List.setIfInBounds_toArray, List.set_cons_zero, List.set_cons_succ]
    refine wpAnyH_take (i := 7) (oi := { dst := some 10, op := Op.fieldAddr 57 (Operand.tmp 9) 1, type := 0, pos := "check.go:115", after := #[{ on := 6, ground := Ground.data }], guard := none }) (v := .pointer (some ⟨cb, 1, none⟩)) rfl (by kernel_rfl) (by kernel_rfl) (by kernel_rfl) (fun _ _ _ h => h) (Or.inl ⟨by rfl, by intro w hS; go_simp⟩) hHeld ?_
    try simp only [Act.put, List.setIfInBounds_toArray, List.set_cons_zero, List.set_cons_succ]
    refine wpAnyH_take (i := 8) (oi := { dst := some 11, op := Op.load 28 (Operand.tmp 10), type := 28, pos := "check.go:115", after := #[{ on := 7, ground := Ground.data }], guard := none }) (v := .agg (ints .u8 root).toArray) rfl (by kernel_rfl) (by kernel_rfl) (by kernel_rfl) (fun _ _ _ h => h) (yieldsIf_load_mid (by rfl) 28 _ rfl cb (1) rfl (ints .u8 root) _ (fun w hS => rng_below HV.out.rootR hS hcb) Tryz.underlying28 rfl LR.out) hHeld ?_
    try simp only [Act.put, List.setIfInBounds_toArray, List.set_cons_zero, List.set_cons_succ]
    refine wpAnyH_ready (rs := [2]) (by kernel_rfl) (by simp) ?_
    refine (AllReadyH.cons (o := { dst := some 5, op := Op.call { callee := Callee.value (Operand.func 46), args := #[Operand.tmp 4], argTypes := #[60] }, type := 28, pos := "check.go:115", after := #[{ on := 1, ground := Ground.data }], guard := none }) rfl (fun K hK => ?_) AllReadyH.nil)
    go_simp
    go_at_call 46
    refine (KF.out _ (hG.below hHeld hG.1) (HV.out.below hHeld)).mono ?_
    rintro e w4 ⟨rfl, hb4⟩
    go_wp2_with fail
    refine hK.out _ _ (hHeld.trans (hb4.mono hHeld.size)) (fun hHeld2 => ?_)
    clear hK K hHeld
    have hHeld := hHeld2
    clear hHeld2
    clear hb4
    try simp only [Act.put, List.setIfInBounds_toArray, List.set_cons_zero, List.set_cons_succ]
    refine wpAnyH_ready (rs := [3]) (by kernel_rfl) (by simp) ?_
    refine (AllReadyH.cons (o := { dst := some 6, op := Op.call { callee := Callee.value (Operand.func 72), args := #[Operand.tmp 3, Operand.tmp 5, Operand.const (Value.int IntKind.i64 256)], argTypes := #[60, 28, 3] }, type := 28, pos := "check.go:115", after := #[{ on := 0, ground := Ground.data }, { on := 2, ground := Ground.data }, { on := 2, ground := Ground.chain }], guard := none }) rfl (fun K hK => ?_) AllReadyH.nil)
    go_simp
    go_at_call 72
    refine (KS.out _ (hG.below hHeld hG.1) (HV.out.below hHeld)).mono ?_
    rintro e w4 ⟨rfl, hb4⟩
    go_wp2_with fail
    refine hK.out _ _ (hHeld.trans (hb4.mono hHeld.size)) (fun hHeld2 => ?_)
    clear hK K hHeld
    have hHeld := hHeld2
    clear hHeld2
    clear hb4
    try simp only [Act.put, List.setIfInBounds_toArray, List.set_cons_zero, List.set_cons_succ]
    refine wpAnyH_take (i := 9) (oi := { dst := some 12, op := Op.binOp BinOp.neq 28 (Operand.tmp 6) (Operand.tmp 11) 28, type := 4, pos := "check.go:115", after := #[{ on := 3, ground := Ground.data }, { on := 8, ground := Ground.data }], guard := none }) (v := .bool true) rfl (by kernel_rfl) (by kernel_rfl) (by kernel_rfl) (fun _ _ _ h => h) (Or.inl ⟨by rfl, by intro w hS; go_simp⟩) hHeld ?_
    try simp only [Act.put, List.setIfInBounds_toArray, List.set_cons_zero, List.set_cons_succ]
    refine wpAnyH_done (by kernel_rfl) ?_ _
    refine NoPanic.normal ?_
    go_wp2_with fail
    go_ret
    exact ⟨rfl, hHeld⟩
end Go.Proofs.YtbjahdbmkcamoaaGreatDoor
