import Derived.Test.YtcifbnldohmbnabWz
namespace Go.Proofs.Ytcifbnldohmbnab
set_option linter.unusedVariables false
set_option linter.unusedSimpArgs false
open Go.RowKit
attribute [local go_sem ↓] Go.wp_at_zero Go.wp_at_succ

theorem same_to {w : World} {cs : List Chg} {sp tp : Option Addr} {cap dap b o b2 o2 : Nat} {ms ns : List MC} (hC : Chs w sp cap cs b o ms) (hD : Chs w tp dap cs b2 o2 ns) :
    Calls Try.prog 29 #[.slice sp cs.length cap, .slice tp cs.length dap] w fun e w' => e = .returned (.bool true) ∧ Below w.heap.size w w' := by
  have := sameChanges_any w cs cs sp tp cap dap b o b2 o2 ms ns hC hD
  rwa [eqL_self] at this
theorem spare_same {w : World} {base hi g h g2 h2 : Nat} {rs : List RC} (r : Room w base hi g h rs) (hg : RowM w g2 (spM h2)) (hh : w.heap[h2]? = some (.cells (ints .u8 [202]).toArray 5 (0, 0))) :
    Calls Try.prog 29 #[.slice (some ⟨g, rs.length * 34, none⟩) 2 2, .slice (some ⟨g2, 0, none⟩) 2 2] w fun e w' => e = .returned (.bool true) ∧ Below w.heap.size w w' := by
  have h2c : Chs w (some ⟨g2, 0, none⟩) 2 spC g2 0 (spM h2) := sp_chs (n := 0) (fun i hi => by
    have := hg.rng (spM_len _) i (by simp [spM]; omega)
    rw [Nat.zero_add]; exact this) (hlt_ hg) hh
  have := same_to r.spare h2c
  rw [show spC.length = 2 from rfl] at this
  exact this
set_option maxRecDepth 100000 in
set_option maxHeartbeats 2000000 in
theorem roomyAre_any (w : World) (base hi g h : Nat) (rs : List RC) (hr : Room w base hi g h rs) (vv : Value) (hv : OwnS w base vv (rs.map rmV)) (sp : Option Addr) (cap b o : Nat) (ms : List MC) (hC : Chs w sp cap (rs.map Prod.snd) b o ms) :
    Calls Try.prog 24 #[.slice (some ⟨g, 0, none⟩) (rs.length + 2) (rs.length + 2), vv, .slice sp rs.length cap] w fun e w' => e = .returned (.bool true) ∧ Below w.heap.size w w' := by
  have i0 : (rs.length : Int) ≤ 2199023255488 := by have := hr.len; omega
  obtain ⟨sv, cv, bv, hvv, _, _, hbv, hcv⟩ := id hv.at
  rw [List.length_map] at hvv hbv hcv
  subst hvv
  have HWK := hid (show IntKind.i64.wrap ((rs.length : Int) + 2) = (rs.length : Int) + 2 from wrap_i64_id _ (by omega) (by omega))
  have KS1 := hid (fun w' (hb : Below w.heap.size w w') => show Calls Try.prog 29 #[.slice (some ⟨g, 0, none⟩) rs.length (rs.length + 2), .slice sp rs.length cap] w' fun e w'' => e = .returned (.bool true) ∧ Below w'.heap.size w' w'' from by
    have := same_to (hr.below hb).chs (hC.below hb)
    rwa [List.length_map] at this)
  go_enter Try.func24, Try.ntmps24
  go_wp2
  refine wp_region_noPanic ?_
  refine wp_region_held_drew (S := fun w' => Below w.heap.size w w') (by kernel_rfl) (Below.refl _ _).drew (fun hHeld => ?_)
  refine wpAnyH_take (i := 0) (oi := { dst := some 11, op := Op.move (Operand.tmp 0), type := 28, pos := "law.go:113", after := #[], guard := none }) (v := .slice (some ⟨g, 0, none⟩) (rs.length + 2) (rs.length + 2)) rfl (by kernel_rfl) (by kernel_rfl) (by kernel_rfl) (fun _ _ _ h => h) (Or.inl ⟨by rfl, by intro w hS; go_simp⟩) hHeld ?_
  try simp only [Act.put, List.setIfInBounds_toArray, List.set_cons_zero, List.set_cons_succ]
  refine wpAnyH_take (i := 2) (oi := { dst := some 13, op := Op.move (Operand.tmp 7), type := 3, pos := "law.go:113", after := #[], guard := none }) (v := .int .i64 rs.length) rfl (by kernel_rfl) (by kernel_rfl) (by kernel_rfl) (fun _ _ _ h => h) (Or.inl ⟨by rfl, by intro w hS; go_simp⟩) hHeld ?_
  try simp only [Act.put, List.setIfInBounds_toArray, List.set_cons_zero, List.set_cons_succ]
  refine wpAnyH_take (i := 1) (oi := { dst := some 12, op := Op.call { callee := Callee.builtin Builtin.len, args := #[Operand.tmp 11], argTypes := #[28] }, type := 3, pos := "law.go:113", after := #[{ on := 0, ground := Ground.data }], guard := none }) (v := .int .i64 (rs.length + 2)) rfl (by kernel_rfl) (by kernel_rfl) (by kernel_rfl) (fun _ _ _ h => h) (Or.inl ⟨by rfl, by intro w hS; go_simp⟩) hHeld ?_
  try simp only [Act.put, List.setIfInBounds_toArray, List.set_cons_zero, List.set_cons_succ]
  refine wpAnyH_take (i := 3) (oi := { dst := some 14, op := Op.binOp BinOp.add 3 (Operand.tmp 13) (Operand.const (Value.int IntKind.i64 2)) 3, type := 3, pos := "law.go:113", after := #[{ on := 2, ground := Ground.data }], guard := none }) (v := .int .i64 (rs.length + 2)) rfl (by kernel_rfl) (by kernel_rfl) (by kernel_rfl) (fun _ _ _ h => h) (Or.inl ⟨by rfl, by intro w hS; go_simp <;> exact HWK.out⟩) hHeld ?_
  try simp only [Act.put, List.setIfInBounds_toArray, List.set_cons_zero, List.set_cons_succ]
  refine wpAnyH_take (i := 4) (oi := { dst := some 15, op := Op.binOp BinOp.neq 3 (Operand.tmp 12) (Operand.tmp 14) 3, type := 4, pos := "law.go:113", after := #[{ on := 1, ground := Ground.data }, { on := 3, ground := Ground.data }], guard := none }) (v := .bool false) rfl (by kernel_rfl) (by kernel_rfl) (by kernel_rfl) (fun _ _ _ h => h) (Or.inl ⟨by rfl, by intro w hS; go_simp⟩) hHeld ?_
  try simp only [Act.put, List.setIfInBounds_toArray, List.set_cons_zero, List.set_cons_succ]
  refine wpAnyH_take (i := 5) (oi := { dst := some 16, op := Op.move (Operand.tmp 15), type := 4, pos := "law.go:113", after := #[{ on := 4, ground := Ground.data }], guard := none }) (v := .bool false) rfl (by kernel_rfl) (by kernel_rfl) (by kernel_rfl) (fun _ _ _ h => h) (Or.inl ⟨by rfl, by intro w hS; go_simp⟩) hHeld ?_
  try simp only [Act.put, List.setIfInBounds_toArray, List.set_cons_zero, List.set_cons_succ]
  refine wpAnyH_take (i := 6) (oi := { dst := some 17, op := Op.move (Operand.tmp 0), type := 28, pos := "law.go:113", after := #[{ on := 5, ground := Ground.guard }], guard := some (5, false) }) (v := .slice (some ⟨g, 0, none⟩) (rs.length + 2) (rs.length + 2)) rfl (by kernel_rfl) (by kernel_rfl) (by kernel_rfl) (fun _ _ _ h => h) (Or.inl ⟨by rfl, by intro w hS; go_simp⟩) hHeld ?_
  try simp only [Act.put, List.setIfInBounds_toArray, List.set_cons_zero, List.set_cons_succ]
  refine wpAnyH_take (i := 7) (oi := { dst := some 18, op := Op.move (Operand.tmp 7), type := 3, pos := "law.go:113", after := #[{ on := 5, ground := Ground.guard }], guard := some (5, false) }) (v := .int .i64 rs.length) rfl (by kernel_rfl) (by kernel_rfl) (by kernel_rfl) (fun _ _ _ h => h) (Or.inl ⟨by rfl, by intro w hS; go_simp⟩) hHeld ?_
  try simp only [Act.put, List.setIfInBounds_toArray, List.set_cons_zero, List.set_cons_succ]
  refine wpAnyH_take (i := 9) (oi := { dst := some 20, op := Op.move (Operand.tmp 2), type := 28, pos := "law.go:113", after := #[{ on := 5, ground := Ground.guard }], guard := some (5, false) }) (v := .slice sp rs.length cap) rfl (by kernel_rfl) (by kernel_rfl) (by kernel_rfl) (fun _ _ _ h => h) (Or.inl ⟨by rfl, by intro w hS; go_simp⟩) hHeld ?_
  try simp only [Act.put, List.setIfInBounds_toArray, List.set_cons_zero, List.set_cons_succ]
  refine wpAnyH_take (i := 8) (oi := { dst := some 19, op := Op.slice 28 (Operand.tmp 17) none (some (Operand.tmp 18)) none, type := 28, pos := "law.go:113", after := #[{ on := 6, ground := Ground.data }, { on := 7, ground := Ground.data }, { on := 5, ground := Ground.guard }], guard := some (5, false) }) (v := .slice (some ⟨g, 0, none⟩) rs.length (rs.length + 2)) rfl (by kernel_rfl) (by kernel_rfl) (by kernel_rfl) (fun _ _ _ h => h) (Or.inl ⟨by rfl, by intro w hS; go_simp <;> (intro h; omega)⟩) hHeld ?_
  try simp only [Act.put, List.setIfInBounds_toArray, List.set_cons_zero, List.set_cons_succ]
  refine wpAnyH_ready (rs := [10]) (by kernel_rfl) (by simp) ?_
  refine (AllReadyH.cons (o := { dst := some 21, op := Op.call { callee := Callee.value (Operand.func 29), args := #[Operand.tmp 19, Operand.tmp 20], argTypes := #[28, 28] }, type := 4, pos := "law.go:113", after := #[{ on := 8, ground := Ground.data }, { on := 9, ground := Ground.data }, { on := 5, ground := Ground.chain }, { on := 5, ground := Ground.guard }], guard := some (5, false) }) rfl (fun K hK => ?_) AllReadyH.nil)
  go_simp
  go_at_call 29
  refine (KS1.out _ hHeld).mono ?_
  rintro e w5 ⟨rfl, hb4⟩
  go_wp2_with fail
  refine hK.out _ _ (hHeld.trans (hb4.mono hHeld.size)) (fun hHeld2 => ?_)
  clear hK K hHeld
  have hHeld := hHeld2
  clear hHeld2
  clear hb4
  try simp only [Act.put, List.setIfInBounds_toArray, List.set_cons_zero, List.set_cons_succ]
  refine wpAnyH_take (i := 11) (oi := { dst := some 22, op := Op.unOp UnOp.not 4 (Operand.tmp 21), type := 4, pos := "law.go:113", after := #[{ on := 10, ground := Ground.data }, { on := 5, ground := Ground.guard }], guard := some (5, false) }) (v := .bool false) rfl (by kernel_rfl) (by kernel_rfl) (by kernel_rfl) (fun _ _ _ h => h) (Or.inl ⟨by rfl, by intro w hS; go_simp⟩) hHeld ?_
  try simp only [Act.put, List.setIfInBounds_toArray, List.set_cons_zero, List.set_cons_succ]
  refine wpAnyH_take (i := 12) (oi := { dst := some 23, op := Op.pick (Operand.tmp 16) (Operand.const (Value.bool true)) (Operand.tmp 22), type := 4, pos := "law.go:113", after := #[{ on := 5, ground := Ground.data }, { on := 11, ground := Ground.data }], guard := none }) (v := .bool false) rfl (by kernel_rfl) (by kernel_rfl) (by kernel_rfl) (fun _ _ _ h => h) (Or.inl ⟨by rfl, by intro w hS; go_simp⟩) hHeld ?_
  try simp only [Act.put, List.setIfInBounds_toArray, List.set_cons_zero, List.set_cons_succ]
  refine wpAnyH_take (i := 13) (oi := { dst := some 24, op := Op.move (Operand.tmp 23), type := 4, pos := "law.go:113", after := #[{ on := 12, ground := Ground.data }, { on := 10, ground := Ground.chain }], guard := none }) (v := .bool false) rfl (by kernel_rfl) (by kernel_rfl) (by kernel_rfl) (fun _ _ _ h => h) (Or.inl ⟨by rfl, by intro w hS; go_simp⟩) hHeld ?_
  try simp only [Act.put, List.setIfInBounds_toArray, List.set_cons_zero, List.set_cons_succ]
  refine wpAnyH_take (i := 14) (oi := { dst := some 25, op := Op.move (Operand.tmp 0), type := 28, pos := "law.go:113", after := #[{ on := 13, ground := Ground.guard }], guard := some (13, false) }) (v := .slice (some ⟨g, 0, none⟩) (rs.length + 2) (rs.length + 2)) rfl (by kernel_rfl) (by kernel_rfl) (by kernel_rfl) (fun _ _ _ h => h) (Or.inl ⟨by rfl, by intro w hS; go_simp⟩) hHeld ?_
  try simp only [Act.put, List.setIfInBounds_toArray, List.set_cons_zero, List.set_cons_succ]
  refine wpAnyH_take (i := 15) (oi := { dst := some 26, op := Op.move (Operand.tmp 7), type := 3, pos := "law.go:113", after := #[{ on := 13, ground := Ground.guard }], guard := some (13, false) }) (v := .int .i64 rs.length) rfl (by kernel_rfl) (by kernel_rfl) (by kernel_rfl) (fun _ _ _ h => h) (Or.inl ⟨by rfl, by intro w hS; go_simp⟩) hHeld ?_
  try simp only [Act.put, List.setIfInBounds_toArray, List.set_cons_zero, List.set_cons_succ]
  refine wpAnyH_take (i := 16) (oi := { dst := some 27, op := Op.slice 28 (Operand.tmp 25) (some (Operand.tmp 26)) none none, type := 28, pos := "law.go:113", after := #[{ on := 14, ground := Ground.data }, { on := 15, ground := Ground.data }, { on := 13, ground := Ground.guard }], guard := some (13, false) }) (v := .slice (some ⟨g, rs.length * 34, none⟩) 2 2) rfl (by kernel_rfl) (by kernel_rfl) (by kernel_rfl) (fun _ _ _ h => h) (Or.inl ⟨by rfl, by intro w hS; (go_simp <;> first | (intro h; omega) | (rw [Nat.add_sub_cancel_left, if_neg (by omega)]))⟩) hHeld ?_
  try simp only [Act.put, List.setIfInBounds_toArray, List.set_cons_zero, List.set_cons_succ]
  refine wpAnyH_ready (rs := [17]) (by kernel_rfl) (by simp) ?_
  refine (AllReadyH.cons (o := { dst := some 28, op := Op.call { callee := Callee.value (Operand.func 33), args := #[], argTypes := #[] }, type := 28, pos := "law.go:113", after := #[{ on := 13, ground := Ground.chain }, { on := 13, ground := Ground.guard }], guard := some (13, false) }) rfl (fun K hK => ?_) AllReadyH.nil)
  go_simp
  go_at_call 33
  refine (spare_any _).mono ?_
  rintro e w6 ⟨rfl, hg2, h202, hb4⟩
  go_wp2_with fail
  refine hK.out _ _ (hHeld.trans (hb4.mono hHeld.size)) (fun hHeld2 => ?_)
  clear hK K hHeld
  have hHeld := hHeld2
  clear hHeld2
  clear hb4
  try simp only [Act.put, List.setIfInBounds_toArray, List.set_cons_zero, List.set_cons_succ]
  refine wpAnyH_ready (rs := [18]) (by kernel_rfl) (by simp) ?_
  refine (AllReadyH.cons (o := { dst := some 29, op := Op.call { callee := Callee.value (Operand.func 29), args := #[Operand.tmp 27, Operand.tmp 28], argTypes := #[28, 28] }, type := 4, pos := "law.go:113", after := #[{ on := 16, ground := Ground.data }, { on := 17, ground := Ground.data }, { on := 17, ground := Ground.chain }, { on := 13, ground := Ground.guard }], guard := some (13, false) }) rfl (fun K hK => ?_) AllReadyH.nil)
  go_simp
  go_at_call 29
  refine (spare_same (hr.below hHeld) hg2 h202).mono ?_
  rintro e w7 ⟨rfl, hb4⟩
  go_wp2_with fail
  refine hK.out _ _ (hHeld.trans (hb4.mono hHeld.size)) (fun hHeld2 => ?_)
  clear hK K hHeld
  have hHeld := hHeld2
  clear hHeld2
  clear hb4
  try simp only [Act.put, List.setIfInBounds_toArray, List.set_cons_zero, List.set_cons_succ]
  refine wpAnyH_take (i := 19) (oi := { dst := some 30, op := Op.unOp UnOp.not 4 (Operand.tmp 29), type := 4, pos := "law.go:113", after := #[{ on := 18, ground := Ground.data }, { on := 13, ground := Ground.guard }], guard := some (13, false) }) (v := .bool false) rfl (by kernel_rfl) (by kernel_rfl) (by kernel_rfl) (fun _ _ _ h => h) (Or.inl ⟨by rfl, by intro w hS; go_simp⟩) hHeld ?_
  try simp only [Act.put, List.setIfInBounds_toArray, List.set_cons_zero, List.set_cons_succ]
  refine wpAnyH_take (i := 20) (oi := { dst := some 31, op := Op.pick (Operand.tmp 24) (Operand.const (Value.bool true)) (Operand.tmp 30), type := 4, pos := "law.go:113", after := #[{ on := 13, ground := Ground.data }, { on := 19, ground := Ground.data }], guard := none }) (v := .bool false) rfl (by kernel_rfl) (by kernel_rfl) (by kernel_rfl) (fun _ _ _ h => h) (Or.inl ⟨by rfl, by intro w hS; go_simp⟩) hHeld ?_
  try simp only [Act.put, List.setIfInBounds_toArray, List.set_cons_zero, List.set_cons_succ]
  refine wpAnyH_done (by kernel_rfl) ?_ _
  refine NoPanic.normal ?_
  have hBz := hHeld
  clear hHeld
  clear KS1
  go_wp2
  go_loopw [8] (fun kv wr => ∃ k : Nat, k ≤ rs.length ∧ kv = .int .i64 k ∧ Below w.heap.size w wr) (fun kv _ => rs.length - (intOf kv).toNat)
  case atStart => exact ⟨0, by omega, rfl, hBz⟩
  case round =>
    clear hBz
    obtain ⟨k, hk, rfl, hB⟩ := hrel
    by_cases hlt : k < rs.length
    · have i1 : (k : Int) < (rs.length : Int) := by omega
      obtain ⟨rfl, hbw⟩ := hbv (by omega)
      have hlt2 : k < (rs.map Prod.snd).length := by rw [List.length_map]; exact hlt
      obtain ⟨hbb, rfl⟩ := hC.pos (by omega)
      obtain ⟨sp', c', _, _, r3, _, r5, _, _⟩ := hC.at k hlt2
      have hm := getD_mem' rs dR k hlt
      have cvk := hcv k hlt
      rw [getD_map' rmV rs dR undef k hlt] at cvk
      rw [getD_map' Prod.snd rs dR dC k hlt] at r3 r5
      have hok := hr.ok _ hm
      have KR := hid (fun w' (hb : Below w.heap.size w w') => show Calls Try.prog 30 #[.slice (some ⟨(rs.getD k dR).1, 0, none⟩) ((rs.getD k dR).2.val.length + 100) ((rs.getD k dR).2.val.length + 100), .slice sp' (rs.getD k dR).2.val.length c'] w' fun e w'' => e = .returned (.bool true) ∧ Below w'.heap.size w' w'' from by
        have := roomyIs_any w' (rm (rs.getD k dR).2.val) (rs.getD k dR).2.val _ sp' _ c' (rm_srcV ((hr.below hb).val _ hm) hok) (r5.below hb (Nat.le_refl _)) (by have := hok.2.2.2; omega)
        rwa [rm_len, decide_eq_true rfl] at this)
      clear hcv hm hok r5
      unfold rmV at cvk
      generalize (rs.getD k dR).1 = G at *
      generalize (rs.getD k dR).2.val.length = vl at *
      go_wp2
      refine wp_region_noPanic ?_
      refine wp_region_held_drew (S := fun w' => Below w.heap.size w w') (by kernel_rfl) hB.drew (fun hHeld => ?_)
      refine wpAnyH_take (i := 0) (oi := { dst := some 37, op := Op.move (Operand.tmp 1), type := 34, pos := "law.go:117", after := #[], guard := none }) (v := .slice (some ⟨bv, 0, none⟩) rs.length cv) rfl (by kernel_rfl) (by kernel_rfl) (by kernel_rfl) (fun _ _ _ h => h) (Or.inl ⟨by rfl, by intro w hS; go_simp⟩) hHeld ?_
      try simp only [Act.put, List.setIfInBounds_toArray, List.set_cons_zero, List.set_cons_succ]
      refine wpAnyH_take (i := 1) (oi := { dst := some 38, op := Op.move (Operand.tmp 8), type := 3, pos := "law.go:117", after := #[], guard := none }) (v := .int .i64 k) rfl (by kernel_rfl) (by kernel_rfl) (by kernel_rfl) (fun _ _ _ h => h) (Or.inl ⟨by rfl, by intro w hS; go_simp⟩) hHeld ?_
      try simp only [Act.put, List.setIfInBounds_toArray, List.set_cons_zero, List.set_cons_succ]
      refine wpAnyH_take (i := 4) (oi := { dst := some 41, op := Op.move (Operand.tmp 2), type := 28, pos := "law.go:117", after := #[], guard := none }) (v := .slice (some ⟨b, o, none⟩) rs.length cap) rfl (by kernel_rfl) (by kernel_rfl) (by kernel_rfl) (fun _ _ _ h => h) (Or.inl ⟨by rfl, by intro w hS; go_simp⟩) hHeld ?_
      try simp only [Act.put, List.setIfInBounds_toArray, List.set_cons_zero, List.set_cons_succ]
      refine wpAnyH_take (i := 5) (oi := { dst := some 42, op := Op.move (Operand.tmp 8), type := 3, pos := "law.go:117", after := #[], guard := none }) (v := .int .i64 k) rfl (by kernel_rfl) (by kernel_rfl) (by kernel_rfl) (fun _ _ _ h => h) (Or.inl ⟨by rfl, by intro w hS; go_simp⟩) hHeld ?_
      try simp only [Act.put, List.setIfInBounds_toArray, List.set_cons_zero, List.set_cons_succ]
      refine wpAnyH_take (i := 2) (oi := { dst := some 39, op := Op.indexAddr 34 (Operand.tmp 37) (Operand.tmp 38), type := 0, pos := "law.go:117", after := #[{ on := 0, ground := Ground.data }, { on := 1, ground := Ground.data }], guard := none }) (v := .pointer (some ⟨bv, 0 + k, none⟩)) rfl (by kernel_rfl) (by kernel_rfl) (by kernel_rfl) (fun _ _ _ h => h) (Or.inl ⟨by rfl, by intro w hS; go_simp⟩) hHeld ?_
      try simp only [Act.put, List.setIfInBounds_toArray, List.set_cons_zero, List.set_cons_succ]
      refine wpAnyH_take (i := 6) (oi := { dst := some 43, op := Op.indexAddr 28 (Operand.tmp 41) (Operand.tmp 42), type := 0, pos := "law.go:117", after := #[{ on := 4, ground := Ground.data }, { on := 5, ground := Ground.data }], guard := none }) (v := .pointer (some ⟨b, o + k * 34, none⟩)) rfl (by kernel_rfl) (by kernel_rfl) (by kernel_rfl) (fun _ _ _ h => h) (Or.inl ⟨by rfl, by intro w hS; go_simp⟩) hHeld ?_
      try simp only [Act.put, List.setIfInBounds_toArray, List.set_cons_zero, List.set_cons_succ]
      refine wpAnyH_take (i := 3) (oi := { dst := some 40, op := Op.load 27 (Operand.tmp 39), type := 27, pos := "law.go:117", after := #[{ on := 2, ground := Ground.data }], guard := none }) (v := .slice (some ⟨G, 0, none⟩) (vl + 100) (vl + 100)) rfl (by kernel_rfl) (by kernel_rfl) (by kernel_rfl) (fun _ _ _ h => h) (Or.inl ⟨by rfl, by intro w hS; have hc := (hS.cell (p := ⟨bv, k, none⟩) hbw).trans cvk; go_simp⟩) hHeld ?_
      try simp only [Act.put, List.setIfInBounds_toArray, List.set_cons_zero, List.set_cons_succ]
      refine wpAnyH_take (i := 7) (oi := { dst := some 44, op := Op.fieldAddr 52 (Operand.tmp 43) 2, type := 0, pos := "law.go:117", after := #[{ on := 6, ground := Ground.data }], guard := none }) (v := .pointer (some ⟨b, o + k * 34 + 33, none⟩)) rfl (by kernel_rfl) (by kernel_rfl) (by kernel_rfl) (fun _ _ _ h => h) (Or.inl ⟨by rfl, by intro w hS; go_simp⟩) hHeld ?_
      try simp only [Act.put, List.setIfInBounds_toArray, List.set_cons_zero, List.set_cons_succ]
      refine wpAnyH_take (i := 8) (oi := { dst := some 45, op := Op.load 27 (Operand.tmp 44), type := 27, pos := "law.go:117", after := #[{ on := 7, ground := Ground.data }], guard := none }) (v := .slice sp' vl c') rfl (by kernel_rfl) (by kernel_rfl) (by kernel_rfl) (fun _ _ _ h => h) (Or.inl ⟨by rfl, by intro w hS; have hc := (hS.cell (p := ⟨b, o + k * 34 + 33, none⟩) hbb).trans r3; go_simp⟩) hHeld ?_
      try simp only [Act.put, List.setIfInBounds_toArray, List.set_cons_zero, List.set_cons_succ]
      refine wpAnyH_ready (rs := [9]) (by kernel_rfl) (by simp) ?_
      refine (AllReadyH.cons (o := { dst := some 46, op := Op.call { callee := Callee.value (Operand.func 30), args := #[Operand.tmp 40, Operand.tmp 45], argTypes := #[27, 27] }, type := 4, pos := "law.go:117", after := #[{ on := 3, ground := Ground.data }, { on := 8, ground := Ground.data }], guard := none }) rfl (fun K hK => ?_) AllReadyH.nil)
      go_simp
      go_at_call 30
      refine (KR.out _ hHeld).mono ?_
      rintro e w4 ⟨rfl, hb4⟩
      go_wp2_with fail
      refine hK.out _ _ (hHeld.trans (hb4.mono hHeld.size)) (fun hHeld2 => ?_)
      clear hK K hHeld
      have hHeld := hHeld2
      clear hHeld2
      clear hb4
      try simp only [Act.put, List.setIfInBounds_toArray, List.set_cons_zero, List.set_cons_succ]
      refine wpAnyH_take (i := 10) (oi := { dst := some 47, op := Op.unOp UnOp.not 4 (Operand.tmp 46), type := 4, pos := "law.go:117", after := #[{ on := 9, ground := Ground.data }], guard := none }) (v := .bool false) rfl (by kernel_rfl) (by kernel_rfl) (by kernel_rfl) (fun _ _ _ h => h) (Or.inl ⟨by rfl, by intro w hS; go_simp⟩) hHeld ?_
      try simp only [Act.put, List.setIfInBounds_toArray, List.set_cons_zero, List.set_cons_succ]
      refine wpAnyH_done (by kernel_rfl) ?_ _
      refine NoPanic.normal ?_
      have hBy := hHeld
      clear hHeld
      go_wp2
      go_roundw
      case rel => exact ⟨k + 1, by omega, by go_num, hBy⟩
      case measure => simp [intOf]; omega
    · obtain rfl : k = rs.length := by omega
      have i1 : ¬ (rs.length : Int) < (rs.length : Int) := by omega
      clear hlt
      go_wp2
      go_ret
      exact ⟨rfl, hB⟩
end Go.Proofs.Ytcifbnldohmbnab
