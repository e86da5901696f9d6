import Derived.Test.YtblcpcfonnaiiaaDoorClP
namespace Go.Proofs.YtblcpcfonnaiiaaDoor
set_option linter.unusedVariables false
set_option linter.unusedSimpArgs false
open Go.RowKit
attribute [local go_sem ↓] Go.wp_at_zero Go.wp_at_succ

set_option maxRecDepth 100000 in
set_option maxHeartbeats 4000000 in
theorem binds_bad (w : World) (hG : Gb w) (k : Int) (root ks p q : List Int) (hr : root.length = 32) (hk : ks.length = 32) (hyk : Bys ks) (sp tp : Option Addr) (cap dap : Nat) (hyp : Bys p) (hyq : Bys q) (hS : Src w sp cap p) (hT : Src w tp dap q) (hw : k < 1 ∨ 32 < k) :
    Calls Tryd.prog 4 #[.int .i64 k, .agg (ints .u8 root).toArray, .agg (ints .u8 ks).toArray, .slice sp p.length cap, .slice tp q.length dap] w fun e w' => e = .returned (.bool true) ∧ Below w.heap.size w w' := by
  have d0 := ((BK.nil w).alloc (ints .u8 root) 29).alloc (ints .u8 ks) 31
  rw [show (w.alloc (.cells (ints .u8 root).toArray 29)).heap.size = w.heap.size + 1 by simp] at d0
  have LR := hid (show (Tryd.prog.info? 29).map (·.size) = some (ints .u8 root).toArray.size by rw [Tryd.sizeD, ints_size, hr])
  have LK := hid (show (Tryd.prog.info? 31).map (·.size) = some (ints .u8 ks).toArray.size by rw [Tryd.sizeKy, ints_size, hk])
  have KX : Hid (∀ w1, Gb w1 → Calls Tryd.prog 6 #[.int .i64 k, .int .i64 256] w1 fun e w' => e = .returned (.agg (ints .u8 (emptyD k 256)).toArray) ∧ Below w1.heap.size w1 w') := hid (fun w1 g1 => by have := xempty_any w1 g1 k 256; rwa [show hgt 256 = 256 from rfl] at this)
  have KV : Hid (∀ w1, Glob w1 → ∀ sp cap, Src w1 sp cap z33 → Calls Tryd.prog 5 #[.int .i64 k, .agg (ints .u8 (emptyD k 256)).toArray, .agg (ints .u8 ks).toArray, .slice sp 33 cap] w1 fun e w' => ∃ s c, e = .returned (.tuple #[.agg (ansC (verF k (emptyD k 256) ks z33) (.slice s (verV k (emptyD k 256) ks z33).length c)).toArray, .int .i64 (verE k (emptyD k 256) ks z33)]) ∧ Own w' w1.heap.size (.slice s (verV k (emptyD k 256) ks z33).length c) (verV k (emptyD k 256) ks z33) ∧ Below w1.heap.size w1 w') := hid (fun w1 g1 sp cap hs => (verify_any w1 g1 k (emptyD k 256) ks z33 (emptyD_len _ _) hk hyk sp cap z33_bys hs).mono (fun e w' h => h))
  have KE := hid (fun w1 (g1 : Glob w1) sp cap tp dap (a1 : Src w1 sp cap p) (a2 : Src w1 tp dap q) => extract_all w1 g1 k root ks p q hr hk hyk sp tp cap dap hyp hyq a1 a2)
  have e1 : verE k (emptyD k 256) ks z33 = 1 := by unfold verE; rw [if_pos hw]
  have e2 : verE k root ks p = 1 := by unfold verE; rw [if_pos hw]
  rw [e1] at KV
  generalize verF k (emptyD k 256) ks z33 = vF at *
  generalize verV k (emptyD k 256) ks z33 = vV at *
  generalize emptyD k 256 = E256 at *
  have HB := hid (show ∀ (w' : World) e, ExP w' k root ks p q e w' → True from fun _ _ _ => trivial)
  by_cases hk1 : k < 1
  · go_enter Tryd.func4, Tryd.ntmps4
    go_wp2_with fail
    refine reg1 w _ hG k root ks hr hk w.heap.size (w.heap.size + 1) 1 vF vV E256 (Nat.le_refl _) d0 KX KV ?_
    rintro ga s c w2 _ _ _ _ _ _ _ _ _ d2 hB2 hg2 r2 hO2
    have rr := d2.row (.tail _ (.head _))
    have rk := d2.row (.head _)
    go_wp2_with (first
      | refine wpList_load_row rfl 29 _ rfl _ rfl 29 _ _ _ rr Tryd.underlying29 rfl LR.out ?_
      | refine wpList_load_row rfl 31 _ rfl _ rfl 31 _ _ _ rk Tryd.underlying31 rfl LK.out ?_
      | (refine (KE.out _ (hG.1.below d2.1 hG.1.1) _ _ _ _ (hS.below d2.1 (Nat.le_refl _)) (hT.below d2.1 (Nat.le_refl _))).mono ?_; rintro e w3 ⟨x, y, ok, s1, d1, s2, d2', rfl, a1, a2, a3, a4⟩; refine Hid.out ?_))
    refine hid ?_
    rcases a3 with ⟨rfl, rfl, rfl, -⟩ | ⟨-, -, -, -, -, -, -, b1, -⟩
    · go_wp2_with fail
      go_ret
      exact ⟨rfl, (d2.call a4).1⟩
    · rw [e2] at b1; exact absurd b1 (by decide)
  · have hk2 : 32 < k := by omega
    go_enter Tryd.func4, Tryd.ntmps4
    go_wp2_with fail
    refine reg1 w _ hG k root ks hr hk w.heap.size (w.heap.size + 1) 1 vF vV E256 (Nat.le_refl _) d0 KX KV ?_
    rintro ga s c w2 _ _ _ _ _ _ _ _ _ d2 hB2 hg2 r2 hO2
    have rr := d2.row (.tail _ (.head _))
    have rk := d2.row (.head _)
    go_wp2_with (first
      | refine wpList_load_row rfl 29 _ rfl _ rfl 29 _ _ _ rr Tryd.underlying29 rfl LR.out ?_
      | refine wpList_load_row rfl 31 _ rfl _ rfl 31 _ _ _ rk Tryd.underlying31 rfl LK.out ?_
      | (refine (KE.out _ (hG.1.below d2.1 hG.1.1) _ _ _ _ (hS.below d2.1 (Nat.le_refl _)) (hT.below d2.1 (Nat.le_refl _))).mono ?_; rintro e w3 ⟨x, y, ok, s1, d1, s2, d2', rfl, a1, a2, a3, a4⟩; refine Hid.out ?_))
    refine hid ?_
    rcases a3 with ⟨rfl, rfl, rfl, -⟩ | ⟨-, -, -, -, -, -, -, b1, -⟩
    · go_wp2_with fail
      go_ret
      exact ⟨rfl, (d2.call a4).1⟩
    · rw [e2] at b1; exact absurd b1 (by decide)
set_option maxRecDepth 100000 in
set_option maxHeartbeats 4000000 in
theorem binds_ok (w : World) (hG : Gb w) (k : Int) (root ks p q : List Int) (hr : root.length = 32) (hk : ks.length = 32) (hyk : Bys ks) (sp tp : Option Addr) (cap dap : Nat) (hyp : Bys p) (hyq : Bys q) (hS : Src w sp cap p) (hT : Src w tp dap q) (hnp : sp = none → cap = 0) (hnq : tp = none → dap = 0) (hlp : p.length ≤ 140737488351232) (hlq : q.length ≤ 140737488351232) (hk1 : 1 ≤ k) (hk2 : k ≤ 32) :
    Calls Tryd.prog 4 #[.int .i64 k, .agg (ints .u8 root).toArray, .agg (ints .u8 ks).toArray, .slice sp p.length cap, .slice tp q.length dap] w fun e w' => e = .returned (.bool true) ∧ Below w.heap.size w w' := by
  have d0 := ((BK.nil w).alloc (ints .u8 root) 29).alloc (ints .u8 ks) 31
  rw [show (w.alloc (.cells (ints .u8 root).toArray 29)).heap.size = w.heap.size + 1 by simp] at d0
  have LR := hid (show (Tryd.prog.info? 29).map (·.size) = some (ints .u8 root).toArray.size by rw [Tryd.sizeD, ints_size, hr])
  have LK := hid (show (Tryd.prog.info? 31).map (·.size) = some (ints .u8 ks).toArray.size by rw [Tryd.sizeKy, ints_size, hk])
  have KX : Hid (∀ w1, Gb w1 → Calls Tryd.prog 6 #[.int .i64 k, .int .i64 256] w1 fun e w' => e = .returned (.agg (ints .u8 (emptyD k 256)).toArray) ∧ Below w1.heap.size w1 w') := hid (fun w1 g1 => by have := xempty_any w1 g1 k 256; rwa [show hgt 256 = 256 from rfl] at this)
  have KV : Hid (∀ w1, Glob w1 → ∀ sp cap, Src w1 sp cap z33 → Calls Tryd.prog 5 #[.int .i64 k, .agg (ints .u8 (emptyD k 256)).toArray, .agg (ints .u8 ks).toArray, .slice sp 33 cap] w1 fun e w' => ∃ s c, e = .returned (.tuple #[.agg (ansC (verF k (emptyD k 256) ks z33) (.slice s (verV k (emptyD k 256) ks z33).length c)).toArray, .int .i64 (verE k (emptyD k 256) ks z33)]) ∧ Own w' w1.heap.size (.slice s (verV k (emptyD k 256) ks z33).length c) (verV k (emptyD k 256) ks z33) ∧ Below w1.heap.size w1 w') := hid (fun w1 g1 sp cap hs => (verify_any w1 g1 k (emptyD k 256) ks z33 (emptyD_len _ _) hk hyk sp cap z33_bys hs).mono (fun e w' h => h))
  have KE := hid (fun w1 (g1 : Glob w1) sp cap tp dap (a1 : Src w1 sp cap p) (a2 : Src w1 tp dap q) => extract_all w1 g1 k root ks p q hr hk hyk sp tp cap dap hyp hyq a1 a2)
  obtain ⟨z1, z2, z3⟩ := ver_z33 (k := k) ks hk1 hk2
  rw [z1, z2, z3] at KV
  have KVp : Hid (∀ w1, Glob w1 → ∀ sp cap, Src w1 sp cap p → Calls Tryd.prog 5 #[.int .i64 k, .agg (ints .u8 root).toArray, .agg (ints .u8 ks).toArray, .slice sp p.length cap] w1 fun e w' => ∃ s c, e = .returned (.tuple #[.agg (ansC (verF k root ks p) (.slice s (verV k root ks p).length c)).toArray, .int .i64 (verE k root ks p)]) ∧ Own w' w1.heap.size (.slice s (verV k root ks p).length c) (verV k root ks p) ∧ Below w1.heap.size w1 w') := hid (fun w1 g1 sp cap hs => (verify_any w1 g1 k root ks p hr hk hyk sp cap hyp hs).mono (fun e w' h => h))
  have KVq : Hid (∀ w1, Glob w1 → ∀ sp cap, Src w1 sp cap q → Calls Tryd.prog 5 #[.int .i64 k, .agg (ints .u8 root).toArray, .agg (ints .u8 ks).toArray, .slice sp q.length cap] w1 fun e w' => ∃ s c, e = .returned (.tuple #[.agg (ansC (verF k root ks q) (.slice s (verV k root ks q).length c)).toArray, .int .i64 (verE k root ks q)]) ∧ Own w' w1.heap.size (.slice s (verV k root ks q).length c) (verV k root ks q) ∧ Below w1.heap.size w1 w') := hid (fun w1 g1 sp cap hs => (verify_any w1 g1 k root ks q hr hk hyk sp cap hyq hs).mono (fun e w' h => h))
  have KCp := hid (fun w1 (a1 : Below w.heap.size w w1) => copied_any w1 p sp cap (hS.below a1 (Nat.le_refl _)) hnp hlp)
  have KCq := hid (fun w1 (a1 : Below w.heap.size w w1) => copied_any w1 q tp dap (hT.below a1 (Nat.le_refl _)) hnq hlq)
  generalize emptyD k 256 = E256 at *
  have i1 : ¬ (k < 1) := by omega
  have i2 : ¬ (32 < k) := by omega
  clear z1 z2 z3
  go_enter Tryd.func4, Tryd.ntmps4
  go_wp2_with fail
  refine reg1 w _ hG k root ks hr hk w.heap.size (w.heap.size + 1) 0 false [] E256 (Nat.le_refl _) d0 KX KV ?_
  rintro ga s c w2 _ _ _ _ _ _ _ _ _ d2 hB2 hg2 r2 hO2
  have cA := cell_ck (C := ansC false (.slice s 0 c)) (j := 0) (v := .bool false) r2 rfl
  clear KX KV d0 hO2 hB2
  go_wp2_with fail
  refine reg7 w w2 hG k root ks p hr hk w.heap.size (w.heap.size + 1) (verE k root ks p) (verF k root ks p) (verV k root ks p) sp cap (Nat.le_refl _) d2 (hid (fun w1 a1 => KCp.out w1 (d2.1.trans (a1.mono d2.1.size)))) KVp ?_
  rintro g7 s7 c7 w3 _ _ _ _ _ _ _ _ _ d3 hB3 hg7 r7 hO7
  clear cA r2 d2 hg2 KVp hB3
  go_wp2_with fail
  refine reg8 w w3 hG k root ks q hr hk w.heap.size (w.heap.size + 1) (verE k root ks q) (verF k root ks q) (verV k root ks q) tp dap (Nat.le_refl _) d3 (hid (fun w1 a1 => KCq.out w1 (d3.1.trans (a1.mono d3.1.size)))) KVq ?_
  rintro g8 s8 c8 w4 _ _ _ _ _ _ _ _ _ d4 hB4 hg8 r8 hO8
  replace r7 := hbel hB4 r7 (hlt r7)
  replace hO7 := hO7.below hB4 (Nat.le_refl _)
  clear d3 KVq hB4 hg7 hg8
  have LK3 := hid (show (Tryd.prog.info? 31).map (·.size) = some (ints .u8 ks).length by rw [Tryd.sizeKy, ints_len, hk])
  have LR3 := hid (show (Tryd.prog.info? 29).map (·.size) = some (ints .u8 root).length by rw [Tryd.sizeD, ints_len, hr])
  go_wp2_with fail
  refine wp_region_noPanic ?_
  refine wp_region_held_drew (S := (fun w' => BK w w' [(w.heap.size + 1, ints .u8 ks, 31), (w.heap.size, ints .u8 root, 29)] ∧ Below w4.heap.size w4 w')) (by kernel_rfl) ⟨d4.drew, (Below.refl _ _).drew⟩ (fun hHeld => ?_)
  refine wpAnyH_take (i := 0) (oi := { dst := some 89, op := Op.move (Operand.tmp 0), type := 3, pos := "law.go:427", after := #[], guard := none }) (v := .int .i64 k) rfl (by kernel_rfl) (by kernel_rfl) (by kernel_rfl) (fun _ _ _ h => h) (Or.inl ⟨by rfl, by intro w hS; go_simp⟩) hHeld ?_
  try simp only [Act.put, List.setIfInBounds_toArray, List.set_cons_zero, List.set_cons_succ]
  refine wpAnyH_take (i := 1) (oi := { dst := some 90, op := Op.load 29 (Operand.tmp 6), type := 29, pos := "law.go:427", after := #[], guard := none }) (v := .agg (ints .u8 root).toArray) rfl (by kernel_rfl) (by kernel_rfl) (by kernel_rfl) (fun _ _ _ h => h) (yieldsIf_load_mid (by rfl) 29 _ rfl w.heap.size (0) rfl (ints .u8 root) _ (fun w hS => hS.1.rng (.tail _ (.head _)) (fun j x hx => by rw [Nat.zero_add]; exact hx)) Tryd.underlying29 rfl LR3.out) hHeld ?_
  try simp only [Act.put, List.setIfInBounds_toArray, List.set_cons_zero, List.set_cons_succ]
  refine wpAnyH_take (i := 2) (oi := { dst := some 91, op := Op.load 31 (Operand.tmp 7), type := 31, pos := "law.go:427", after := #[], guard := none }) (v := .agg (ints .u8 ks).toArray) rfl (by kernel_rfl) (by kernel_rfl) (by kernel_rfl) (fun _ _ _ h => h) (yieldsIf_load_mid (by rfl) 31 _ rfl (w.heap.size + 1) (0) rfl (ints .u8 ks) _ (fun w hS => hS.1.rng (.head _) (fun j x hx => by rw [Nat.zero_add]; exact hx)) Tryd.underlying31 rfl LK3.out) hHeld ?_
  try simp only [Act.put, List.setIfInBounds_toArray, List.set_cons_zero, List.set_cons_succ]
  refine wpAnyH_take (i := 3) (oi := { dst := some 92, op := Op.move (Operand.tmp 3), type := 22, pos := "law.go:427", after := #[], guard := none }) (v := .slice sp p.length cap) rfl (by kernel_rfl) (by kernel_rfl) (by kernel_rfl) (fun _ _ _ h => h) (Or.inl ⟨by rfl, by intro w hS; go_simp⟩) hHeld ?_
  try simp only [Act.put, List.setIfInBounds_toArray, List.set_cons_zero, List.set_cons_succ]
  refine wpAnyH_take (i := 5) (oi := { dst := some 94, op := Op.move (Operand.tmp 4), type := 22, pos := "law.go:427", after := #[], guard := none }) (v := .slice tp q.length dap) rfl (by kernel_rfl) (by kernel_rfl) (by kernel_rfl) (fun _ _ _ h => h) (Or.inl ⟨by rfl, by intro w hS; go_simp⟩) hHeld ?_
  try simp only [Act.put, List.setIfInBounds_toArray, List.set_cons_zero, List.set_cons_succ]
  refine wpAnyH_ready (rs := [4]) (by kernel_rfl) (by simp) ?_
  refine (AllReadyH.cons (o := { dst := some 93, op := Op.call { callee := Callee.value (Operand.func 8), args := #[Operand.tmp 92], argTypes := #[22] }, type := 22, pos := "law.go:427", after := #[{ on := 3, ground := Ground.data }], guard := none }) rfl (fun K hK => ?_) AllReadyH.nil)
  go_simp
  go_at_call 8
  refine (KCp.out _ hHeld.1.1).mono ?_
  rintro e wA ⟨vA, rfl, hOA, hbA⟩
  obtain ⟨sA, cA, rfl, hSA, -⟩ := hOA.form
  go_wp2_with fail
  refine hK.out _ _ (⟨hHeld.1.call hbA, hHeld.2.trans (hbA.mono hHeld.2.size)⟩) (fun hHeld2 => ?_)
  clear hK K hHeld
  have hHeld := hHeld2
  clear hHeld2
  try simp only [Act.put, List.setIfInBounds_toArray, List.set_cons_zero, List.set_cons_succ]
  refine wpAnyH_ready (rs := [6]) (by kernel_rfl) (by simp) ?_
  refine (AllReadyH.cons (o := { dst := some 95, op := Op.call { callee := Callee.value (Operand.func 8), args := #[Operand.tmp 94], argTypes := #[22] }, type := 22, pos := "law.go:427", after := #[{ on := 5, ground := Ground.data }, { on := 4, ground := Ground.chain }], guard := none }) rfl (fun K hK => ?_) AllReadyH.nil)
  go_simp
  go_at_call 8
  refine (KCq.out _ hHeld.1.1).mono ?_
  rintro e wB ⟨vB, rfl, hOB, hbB⟩
  obtain ⟨sB, cB, rfl, hSB, -⟩ := hOB.form
  replace hSA := hSA.below hbB (Nat.le_refl _)
  go_wp2_with fail
  refine hK.out _ _ (⟨hHeld.1.call hbB, hHeld.2.trans (hbB.mono hHeld.2.size)⟩) (fun hHeld2 => ?_)
  clear hK K hHeld
  have hHeld := hHeld2
  clear hHeld2
  try simp only [Act.put, List.setIfInBounds_toArray, List.set_cons_zero, List.set_cons_succ]
  refine wpAnyH_ready (rs := [7]) (by kernel_rfl) (by simp) ?_
  refine (AllReadyH.cons (o := { dst := some 96, op := Op.call { callee := Callee.value (Operand.func 7), args := #[Operand.tmp 89, Operand.tmp 90, Operand.tmp 91, Operand.tmp 93, Operand.tmp 95], argTypes := #[3, 29, 31, 22, 22] }, type := 33, pos := "law.go:427", after := #[{ on := 0, ground := Ground.data }, { on := 1, ground := Ground.data }, { on := 2, ground := Ground.data }, { on := 4, ground := Ground.data }, { on := 6, ground := Ground.data }, { on := 6, ground := Ground.chain }], guard := none }) rfl (fun K hK => ?_) AllReadyH.nil)
  go_simp
  go_at_call 7
  refine (KE.out _ (hG.1.below hHeld.1.1 hG.1.1) _ _ _ _ hSA hSB).mono ?_
  rintro e wE ⟨x, y, ok, s1, d1, s2, d2, rfl, a1, a2, a3, a4⟩
  go_wp2_with fail
  refine hK.out _ _ (⟨hHeld.1.call a4, hHeld.2.trans (a4.mono hHeld.2.size)⟩) (fun hHeld2 => ?_)
  clear hK K hHeld
  have hHeld := hHeld2
  clear hHeld2
  try simp only [Act.put, List.setIfInBounds_toArray, List.set_cons_zero, List.set_cons_succ]
  refine wpAnyH_take (i := 8) (oi := { dst := some 88, op := Op.move (Operand.tmp 96), type := 33, pos := "law.go:427", after := #[{ on := 7, ground := Ground.data }], guard := none }) (v := .tuple #[.slice s1 x.length d1, .slice s2 y.length d2, .bool ok]) rfl (by kernel_rfl) (by kernel_rfl) (by kernel_rfl) (fun _ _ _ h => h) (Or.inl ⟨by rfl, by intro w hS; go_simp⟩) hHeld ?_
  try simp only [Act.put, List.setIfInBounds_toArray, List.set_cons_zero, List.set_cons_succ]
  refine wpAnyH_take (i := 9) (oi := { dst := some 97, op := Op.extract (Operand.tmp 88) 0, type := 22, pos := "law.go:427", after := #[{ on := 8, ground := Ground.data }], guard := none }) (v := .slice s1 x.length d1) rfl (by kernel_rfl) (by kernel_rfl) (by kernel_rfl) (fun _ _ _ h => h) (Or.inl ⟨by rfl, by intro w hS; go_simp⟩) hHeld ?_
  try simp only [Act.put, List.setIfInBounds_toArray, List.set_cons_zero, List.set_cons_succ]
  refine wpAnyH_take (i := 10) (oi := { dst := some 98, op := Op.extract (Operand.tmp 88) 1, type := 22, pos := "law.go:427", after := #[{ on := 8, ground := Ground.data }, { on := 12, ground := Ground.gcOnly Departure.lateStores }], guard := none }) (v := .slice s2 y.length d2) rfl (by kernel_rfl) (by kernel_rfl) (by kernel_rfl) (fun _ _ _ h => h) (Or.inl ⟨by rfl, by intro w hS; go_simp⟩) hHeld ?_
  try simp only [Act.put, List.setIfInBounds_toArray, List.set_cons_zero, List.set_cons_succ]
  refine wpAnyH_take (i := 11) (oi := { dst := some 99, op := Op.extract (Operand.tmp 88) 2, type := 4, pos := "law.go:427", after := #[{ on := 8, ground := Ground.data }, { on := 13, ground := Ground.gcOnly Departure.lateStores }], guard := none }) (v := .bool ok) rfl (by kernel_rfl) (by kernel_rfl) (by kernel_rfl) (fun _ _ _ h => h) (Or.inl ⟨by rfl, by intro w hS; go_simp⟩) hHeld ?_
  try simp only [Act.put, List.setIfInBounds_toArray, List.set_cons_zero, List.set_cons_succ]
  refine wpAnyH_take (i := 12) (oi := { dst := some 20, op := Op.assign (Operand.tmp 97), type := 22, pos := "law.go:427", after := #[{ on := 9, ground := Ground.data }, { on := 7, ground := Ground.chain }, { on := 0, ground := Ground.phase }, { on := 1, ground := Ground.phase }, { on := 2, ground := Ground.phase }, { on := 3, ground := Ground.phase }, { on := 4, ground := Ground.phase }, { on := 5, ground := Ground.phase }, { on := 6, ground := Ground.phase }, { on := 7, ground := Ground.phase }, { on := 8, ground := Ground.phase }, { on := 9, ground := Ground.phase }, { on := 10, ground := Ground.textOnly Departure.lateStores }, { on := 11, ground := Ground.textOnly Departure.lateStores }], guard := none }) (v := .slice s1 x.length d1) rfl (by kernel_rfl) (by kernel_rfl) (by kernel_rfl) (fun _ _ _ h => h) (Or.inl ⟨by rfl, by intro w hS; go_simp⟩) hHeld ?_
  try simp only [Act.put, List.setIfInBounds_toArray, List.set_cons_zero, List.set_cons_succ]
  refine wpAnyH_take (i := 13) (oi := { dst := some 21, op := Op.assign (Operand.tmp 98), type := 22, pos := "law.go:427", after := #[{ on := 10, ground := Ground.data }, { on := 12, ground := Ground.chain }, { on := 0, ground := Ground.phase }, { on := 1, ground := Ground.phase }, { on := 2, ground := Ground.phase }, { on := 3, ground := Ground.phase }, { on := 4, ground := Ground.phase }, { on := 5, ground := Ground.phase }, { on := 6, ground := Ground.phase }, { on := 7, ground := Ground.phase }, { on := 8, ground := Ground.phase }, { on := 9, ground := Ground.phase }, { on := 10, ground := Ground.phase }, { on := 11, ground := Ground.textOnly Departure.lateStores }, { on := 12, ground := Ground.phase }], guard := none }) (v := .slice s2 y.length d2) rfl (by kernel_rfl) (by kernel_rfl) (by kernel_rfl) (fun _ _ _ h => h) (Or.inl ⟨by rfl, by intro w hS; go_simp⟩) hHeld ?_
  try simp only [Act.put, List.setIfInBounds_toArray, List.set_cons_zero, List.set_cons_succ]
  refine wpAnyH_take (i := 14) (oi := { dst := some 22, op := Op.assign (Operand.tmp 99), type := 4, pos := "law.go:427", after := #[{ on := 11, ground := Ground.data }, { on := 13, ground := Ground.chain }, { on := 0, ground := Ground.phase }, { on := 1, ground := Ground.phase }, { on := 2, ground := Ground.phase }, { on := 3, ground := Ground.phase }, { on := 4, ground := Ground.phase }, { on := 5, ground := Ground.phase }, { on := 6, ground := Ground.phase }, { on := 7, ground := Ground.phase }, { on := 8, ground := Ground.phase }, { on := 9, ground := Ground.phase }, { on := 10, ground := Ground.phase }, { on := 11, ground := Ground.phase }, { on := 12, ground := Ground.phase }, { on := 13, ground := Ground.phase }], guard := none }) (v := .bool ok) rfl (by kernel_rfl) (by kernel_rfl) (by kernel_rfl) (fun _ _ _ h => h) (Or.inl ⟨by rfl, by intro w hS; go_simp⟩) hHeld ?_
  try simp only [Act.put, List.setIfInBounds_toArray, List.set_cons_zero, List.set_cons_succ]
  refine wpAnyH_done (by kernel_rfl) ?_ _
  refine NoPanic.normal ?_
  have hd5 := hHeld.1
  replace r7 := hbel hHeld.2 r7 (hlt r7)
  replace r8 := hbel hHeld.2 r8 (hlt r8)
  replace hO7 := hO7.below hHeld.2 (Nat.le_refl _)
  replace hO8 := hO8.below hHeld.2 (Nat.le_refl _)
  clear hHeld
  have f7 := cell_ck (C := ansC (verF k root ks p) (.slice s7 (verV k root ks p).length c7)) (j := 0) (v := .bool (verF k root ks p)) r7 rfl
  have f8 := cell_ck (C := ansC (verF k root ks q) (.slice s8 (verV k root ks q).length c8)) (j := 0) (v := .bool (verF k root ks q)) r8 rfl
  have v7 := cell_ck (C := ansC (verF k root ks p) (.slice s7 (verV k root ks p).length c7)) (j := 1) (v := .slice s7 (verV k root ks p).length c7) r7 rfl
  have v8 := cell_ck (C := ansC (verF k root ks q) (.slice s8 (verV k root ks q).length c8)) (j := 1) (v := .slice s8 (verV k root ks q).length c8) r8 rfl
  have cp := conv_str wE p sp cap (hS.below hd5.1 (Nat.le_refl _))
  have cq := conv_str wE q tp dap (hT.below hd5.1 (Nat.le_refl _))
  have c7' := conv_str wE (verV k root ks p) s7 c7 (Own.srcN hO7)
  have c8' := conv_str wE (verV k root ks q) s8 c8 (Own.srcN hO8)
  clear r7 r8 hO7 hO8 KE KCp KCq
  have hB5 := hd5.1
  rcases a3 with ⟨rfl, rfl, rfl, hno⟩ | ⟨rfl, hxy, bx, by', lx, ly, hcut, e1, e2, hpq⟩
  · by_cases hpq : p = q
    · subst hpq
      generalize verV k root ks p = VV at *
      generalize verF k root ks p = FF at *
      by_cases e1 : verE k root ks p = 0
      · rw [e1]
        clear hno e1
        go_wp2_with fail
        go_ret
        exact ⟨rfl, hB5⟩
      · have i3 : (verE k root ks p != 0) = true := by simpa using e1
        generalize verE k root ks p = EE at *
        clear hno e1
        go_wp2_with fail
        go_ret
        exact ⟨rfl, hB5⟩
    · have hq1 : ((strOfNums p).toList == (strOfNums q).toList) = false := by rw [str_eq hyp hyq]; simpa using hpq
      generalize verV k root ks p = VV at *
      generalize verF k root ks p = FF at *
      by_cases e1 : verE k root ks p = 0
      · have e2 : verE k root ks q ≠ 0 := by
          rcases hno with h | h | h
          · exact absurd e1 h
          · exact h
          · exact absurd h hpq
        have i3 : (verE k root ks q != 0) = true := by simpa using e2
        rw [e1]
        generalize verE k root ks q = EE at *
        clear hno e1 e2
        go_wp2_with fail
        go_ret
        exact ⟨rfl, hB5⟩
      · have i3 : (verE k root ks p != 0) = true := by simpa using e1
        generalize verE k root ks p = EE at *
        clear hno e1
        go_wp2_with fail
        go_ret
        exact ⟨rfl, hB5⟩
  · have hq1 : ((strOfNums p).toList == (strOfNums q).toList) = false := by rw [str_eq hyp hyq]; simpa using hpq
    have hq2 : ((strOfNums x).toList == (strOfNums y).toList) = false := by rw [str_eq bx by']; simpa using hxy
    have cx := conv_str wE x s1 d1 a1
    have cy := conv_str wE y s2 d2 a2
    have gD := Tryd.guardD
    have KS1 := hid (dsum_any wE x s1 d1 a1 (hG.1.below hB5 hG.1.1) (by omega))
    have KS2 := hid (fun w6 (b6 : Below wE.heap.size wE w6) => dsum_any w6 y s2 d2 (a2.below b6 (Nat.le_refl _)) (hG.1.below (hB5.trans (b6.mono hB5.size)) hG.1.1) (by omega))
    have KT1 := hid (fun w6 => cutD_any (sha x) (sha_len x) k w6)
    have KT2 := hid (fun w6 => cutD_any (sha y) (sha_len y) k w6)
    rw [← hcut] at KT2
    have qE := eqD_self (cutZ (sha x) (kept k)) (cutZ_len _ _ (sha_len _))
    rw [e1, e2]
    clear hcut hxy hpq bx by' e1 e2 f7 f8 v7 v8 c7' c8'
    generalize cutZ (sha x) (kept k) = CC at *
    generalize sha x = SX at *
    generalize sha y = SY at *
    go_wp2_with (first | (refine KS1.out.mono ?_; rintro e w6 ⟨rfl, hb6⟩; refine Hid.out ?_))
    refine hid ?_
    go_wp2_with (first | (refine (KT1.out _).mono ?_; rintro e w7 ⟨rfl, hb7⟩; refine Hid.out ?_))
    refine hid ?_
    have hb8 := hb6.trans (hb7.mono hb6.size)
    have KS2' := hid (KS2.out w7 hb8)
    go_wp2_with (first | (refine KS2'.out.mono ?_; rintro e w8 ⟨rfl, hb9⟩; refine Hid.out ?_))
    refine hid ?_
    have hb10 := hb8.trans (hb9.mono hb8.size)
    go_wp2_with (first | (refine (KT2.out _).mono ?_; rintro e w9 ⟨rfl, hb11⟩; refine Hid.out ?_))
    refine hid ?_
    have hb12 := hb10.trans (hb11.mono hb10.size)
    go_wp2_with fail
    go_ret
    exact ⟨rfl, hB5.trans (hb12.mono hB5.size)⟩
theorem clientBinds_any (w : World) (hG : Gb w) (k : Int) (root ks p q : List Int) (hr : root.length = 32) (hk : ks.length = 32) (hyk : Bys ks) (sp tp : Option Addr) (cap dap : Nat) (hyp : Bys p) (hyq : Bys q) (hS : Src w sp cap p) (hT : Src w tp dap q) (hnp : sp = none → cap = 0) (hnq : tp = none → dap = 0) (hlp : p.length ≤ 140737488351232) (hlq : q.length ≤ 140737488351232) :
    Calls Tryd.prog 4 #[.int .i64 k, .agg (ints .u8 root).toArray, .agg (ints .u8 ks).toArray, .slice sp p.length cap, .slice tp q.length dap] w fun e w' => e = .returned (.bool true) ∧ Below w.heap.size w w' := by
  by_cases h : k < 1 ∨ 32 < k
  · exact binds_bad w hG k root ks p q hr hk hyk sp tp cap dap hyp hyq hS hT h
  · exact binds_ok w hG k root ks p q hr hk hyk sp tp cap dap hyp hyq hS hT hnp hnq hlp hlq (by omega) (by omega)
end Go.Proofs.YtblcpcfonnaiiaaDoor
