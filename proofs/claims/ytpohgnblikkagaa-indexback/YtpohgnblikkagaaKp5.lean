import Derived.Test.YtpohgnblikkagaaKp4
namespace Go.Proofs.Ytpohgnblikkagaa
set_option linter.unusedVariables false
set_option linter.unusedSimpArgs false
open Go.RowKit
attribute [local go_sem ↓] Go.wp_at_zero Go.wp_at_succ

theorem OwnK.el {w : World} {base : Nat} {v : Value} {vs : List Value} (h : OwnK w base v vs) (j : Nat) (hj : j < vs.length) : ∃ b cap, v = .slice (some ⟨b, 0, none⟩) vs.length cap ∧ vs.length ≤ cap ∧ b < w.heap.size ∧ base ≤ b ∧ v.ownBlock = some b ∧ w.cell? ⟨b, j, none⟩ = some (vs.getD j undef) := by
  obtain ⟨sp, cap, b, e, hc, _, hp, hcell⟩ := h.at
  obtain rfl := hp (by omega)
  have ho : v.ownBlock = some b := by rw [e]; rfl
  obtain ⟨q1, q2, _⟩ := h.heap b ho
  exact ⟨b, cap, e, hc, q2, q1, ho, hcell j hj⟩
set_option maxRecDepth 100000 in
set_option maxHeartbeats 1000000 in
theorem untouched_any (w : World) (base B : Nat) (v1 v2 : Value) (L1 L2 : List Value) (zs : List (List Int)) (h : KP w base B v1 v2 L1 L2 zs) (hN : zs.length ≤ 100000000) :
    Calls Try.prog 9 #[.pointer (some ⟨B, 0, none⟩)] w fun e w' => e = .returned (.bool true) ∧ Below w.heap.size w w' := by
  have hBl : B < w.heap.size := hlt h.pk.bk
  obtain ⟨N, hNe⟩ : ∃ N, N = zs.length := ⟨_, rfl⟩
  have i0 : (N : Int) ≤ 100000000 := by omega
  obtain ⟨s1, k1, b1x, hv1, _⟩ := h.pk.o1.at
  rw [h.l1, ← hNe] at hv1
  have C1 := hid h.pk.c1
  rw [hv1] at C1
  have HK := hid h
  have HN := hid hNe
  have HV := hid hv1
  clear h hv1 hN hNe
  go_enter Try.func9, Try.ntmps9
  go_wp2
  go_loopw [3] (fun i wr => ∃ n : Nat, n ≤ N ∧ i = .int .i64 n ∧ Below w.heap.size w wr) (fun i _ => N - (intOf i).toNat)
  case atStart => exact ⟨0, by omega, rfl, Below.refl _ _⟩
  case round =>
    obtain ⟨n, hn, rfl, hB⟩ := hrel
    have c1 := (hB.cell (p := ⟨B, 0, none⟩) hBl).trans C1.out
    by_cases hlt1 : n < N
    · have i1 : (n : Int) < (N : Int) := by omega
      have hnz : n < zs.length := by have := HN.out; omega
      obtain ⟨b1, k1', q1, _, l1, _, _, E1⟩ := HK.out.pk.o1.el n (by rw [HK.out.l1]; exact hnz)
      obtain ⟨b2, k2, q2, _, l2, _, _, E2⟩ := HK.out.pk.o2.el n (by rw [HK.out.l2]; exact hnz)
      have C2 := hid HK.out.pk.c2
      rw [HV.out, HK.out.l1, ← HN.out] at q1
      cases q1
      rw [q2, HK.out.l2, ← HN.out] at C2
      obtain ⟨sp3, c3, g3, S3, _⟩ := (HK.out.e1 n hnz).form
      obtain ⟨sp4, c4, g4, S4, _⟩ := (HK.out.e2 n hnz).form
      rw [g3] at E1
      rw [g4] at E2
      replace E1 := hid E1
      replace E2 := hid E2
      clear g3 g4 q2
      generalize zs.getD n [] = ys at *
      go_wp2
      refine wp_region_noPanic ?_
      refine wp_region_held_drew (S := fun w' => Below w.heap.size w w') (by kernel_rfl) hB.drew (fun hHeld => ?_)
      refine wpAnyH_take (i := 0) (oi := { dst := some 13, op := Op.move (Operand.tmp 0), type := 33, pos := "keeper.go:19", after := #[], guard := none }) (v := .pointer (some ⟨B, 0, none⟩)) rfl (by kernel_rfl) (by kernel_rfl) (by kernel_rfl) (fun _ _ _ h => h) (Or.inl ⟨by rfl, by intro w hS; go_simp⟩) hHeld ?_
      try simp only [Act.put, List.setIfInBounds_toArray, List.set_cons_zero, List.set_cons_succ]
      refine wpAnyH_take (i := 4) (oi := { dst := some 17, op := Op.move (Operand.tmp 3), type := 3, pos := "keeper.go:19", after := #[], guard := none }) (v := .int .i64 n) rfl (by kernel_rfl) (by kernel_rfl) (by kernel_rfl) (fun _ _ _ h => h) (Or.inl ⟨by rfl, by intro w hS; go_simp⟩) hHeld ?_
      try simp only [Act.put, List.setIfInBounds_toArray, List.set_cons_zero, List.set_cons_succ]
      refine wpAnyH_take (i := 7) (oi := { dst := some 20, op := Op.move (Operand.tmp 0), type := 33, pos := "keeper.go:19", after := #[], guard := none }) (v := .pointer (some ⟨B, 0, none⟩)) rfl (by kernel_rfl) (by kernel_rfl) (by kernel_rfl) (fun _ _ _ h => h) (Or.inl ⟨by rfl, by intro w hS; go_simp⟩) hHeld ?_
      try simp only [Act.put, List.setIfInBounds_toArray, List.set_cons_zero, List.set_cons_succ]
      refine wpAnyH_take (i := 11) (oi := { dst := some 24, op := Op.move (Operand.tmp 3), type := 3, pos := "keeper.go:19", after := #[], guard := none }) (v := .int .i64 n) rfl (by kernel_rfl) (by kernel_rfl) (by kernel_rfl) (fun _ _ _ h => h) (Or.inl ⟨by rfl, by intro w hS; go_simp⟩) hHeld ?_
      try simp only [Act.put, List.setIfInBounds_toArray, List.set_cons_zero, List.set_cons_succ]
      refine wpAnyH_take (i := 1) (oi := { dst := some 14, op := Op.nilCheck (Operand.tmp 13), type := 0, pos := "keeper.go:19", after := #[{ on := 0, ground := Ground.data }], guard := none }) (v := .pointer (some ⟨B, 0, none⟩)) rfl (by kernel_rfl) (by kernel_rfl) (by kernel_rfl) (fun _ _ _ h => h) (Or.inl ⟨by rfl, by intro w hS; go_simp⟩) hHeld ?_
      try simp only [Act.put, List.setIfInBounds_toArray, List.set_cons_zero, List.set_cons_succ]
      refine wpAnyH_take (i := 8) (oi := { dst := some 21, op := Op.nilCheck (Operand.tmp 20), type := 0, pos := "keeper.go:19", after := #[{ on := 7, ground := Ground.data }], guard := none }) (v := .pointer (some ⟨B, 0, none⟩)) rfl (by kernel_rfl) (by kernel_rfl) (by kernel_rfl) (fun _ _ _ h => h) (Or.inl ⟨by rfl, by intro w hS; go_simp⟩) hHeld ?_
      try simp only [Act.put, List.setIfInBounds_toArray, List.set_cons_zero, List.set_cons_succ]
      refine wpAnyH_take (i := 2) (oi := { dst := some 15, op := Op.fieldAddr 36 (Operand.tmp 14) 0, type := 0, pos := "keeper.go:19", after := #[{ on := 1, ground := Ground.data }], guard := none }) (v := .pointer (some ⟨B, 0, none⟩)) rfl (by kernel_rfl) (by kernel_rfl) (by kernel_rfl) (fun _ _ _ h => h) (Or.inl ⟨by rfl, by intro w hS; go_simp⟩) hHeld ?_
      try simp only [Act.put, List.setIfInBounds_toArray, List.set_cons_zero, List.set_cons_succ]
      refine wpAnyH_take (i := 9) (oi := { dst := some 22, op := Op.fieldAddr 36 (Operand.tmp 21) 1, type := 0, pos := "keeper.go:19", after := #[{ on := 8, ground := Ground.data }], guard := none }) (v := .pointer (some ⟨B, 1, none⟩)) rfl (by kernel_rfl) (by kernel_rfl) (by kernel_rfl) (fun _ _ _ h => h) (Or.inl ⟨by rfl, by intro w hS; go_simp⟩) hHeld ?_
      try simp only [Act.put, List.setIfInBounds_toArray, List.set_cons_zero, List.set_cons_succ]
      refine wpAnyH_take (i := 3) (oi := { dst := some 16, op := Op.load 34 (Operand.tmp 15), type := 34, pos := "keeper.go:19", after := #[{ on := 2, ground := Ground.data }], guard := none }) (v := .slice (some ⟨b1, 0, none⟩) N k1) rfl (by kernel_rfl) (by kernel_rfl) (by kernel_rfl) (fun _ _ _ h => h) (Or.inl ⟨by rfl, by intro w hS; have hc := hS.cell (p := ⟨B, 0, none⟩) hBl |>.trans C1.out; go_simp⟩) hHeld ?_
      try simp only [Act.put, List.setIfInBounds_toArray, List.set_cons_zero, List.set_cons_succ]
      refine wpAnyH_take (i := 10) (oi := { dst := some 23, op := Op.load 34 (Operand.tmp 22), type := 34, pos := "keeper.go:19", after := #[{ on := 9, ground := Ground.data }], guard := none }) (v := .slice (some ⟨b2, 0, none⟩) N k2) rfl (by kernel_rfl) (by kernel_rfl) (by kernel_rfl) (fun _ _ _ h => h) (Or.inl ⟨by rfl, by intro w hS; have hc := hS.cell (p := ⟨B, 1, none⟩) hBl |>.trans C2.out; go_simp⟩) hHeld ?_
      try simp only [Act.put, List.setIfInBounds_toArray, List.set_cons_zero, List.set_cons_succ]
      refine wpAnyH_take (i := 5) (oi := { dst := some 18, op := Op.indexAddr 34 (Operand.tmp 16) (Operand.tmp 17), type := 0, pos := "keeper.go:19", after := #[{ on := 3, ground := Ground.data }, { on := 4, ground := Ground.data }], guard := none }) (v := .pointer (some ⟨b1, 0 + n, none⟩)) rfl (by kernel_rfl) (by kernel_rfl) (by kernel_rfl) (fun _ _ _ h => h) (Or.inl ⟨by rfl, by intro w hS; go_simp⟩) hHeld ?_
      try simp only [Act.put, List.setIfInBounds_toArray, List.set_cons_zero, List.set_cons_succ]
      refine wpAnyH_take (i := 12) (oi := { dst := some 25, op := Op.indexAddr 34 (Operand.tmp 23) (Operand.tmp 24), type := 0, pos := "keeper.go:19", after := #[{ on := 10, ground := Ground.data }, { on := 11, ground := Ground.data }], guard := none }) (v := .pointer (some ⟨b2, 0 + n, none⟩)) rfl (by kernel_rfl) (by kernel_rfl) (by kernel_rfl) (fun _ _ _ h => h) (Or.inl ⟨by rfl, by intro w hS; go_simp⟩) hHeld ?_
      try simp only [Act.put, List.setIfInBounds_toArray, List.set_cons_zero, List.set_cons_succ]
      refine wpAnyH_take (i := 6) (oi := { dst := some 19, op := Op.load 26 (Operand.tmp 18), type := 26, pos := "keeper.go:19", after := #[{ on := 5, ground := Ground.data }], guard := none }) (v := .slice sp3 ys.length c3) rfl (by kernel_rfl) (by kernel_rfl) (by kernel_rfl) (fun _ _ _ h => h) (Or.inl ⟨by rfl, by intro w hS; have hc := hS.cell (p := ⟨b1, n, none⟩) l1 |>.trans E1.out; go_simp⟩) hHeld ?_
      try simp only [Act.put, List.setIfInBounds_toArray, List.set_cons_zero, List.set_cons_succ]
      refine wpAnyH_take (i := 13) (oi := { dst := some 26, op := Op.load 26 (Operand.tmp 25), type := 26, pos := "keeper.go:19", after := #[{ on := 12, ground := Ground.data }], guard := none }) (v := .slice sp4 ys.length c4) rfl (by kernel_rfl) (by kernel_rfl) (by kernel_rfl) (fun _ _ _ h => h) (Or.inl ⟨by rfl, by intro w hS; have hc := hS.cell (p := ⟨b2, n, none⟩) l2 |>.trans E2.out; go_simp⟩) hHeld ?_
      try simp only [Act.put, List.setIfInBounds_toArray, List.set_cons_zero, List.set_cons_succ]
      refine wpAnyH_ready (rs := [14]) (by kernel_rfl) (by simp) ?_
      refine (AllReadyH.cons (o := { dst := some 27, op := Op.call { callee := Callee.value (Operand.func 8), args := #[Operand.tmp 19, Operand.tmp 26], argTypes := #[26, 26] }, type := 4, pos := "keeper.go:19", after := #[{ on := 6, ground := Ground.data }, { on := 13, ground := Ground.data }], guard := none }) rfl (fun K hK => ?_) AllReadyH.nil)
      go_simp
      go_at_call 8
      refine (same_self _ ys sp3 sp4 c3 c4 (S3.below hHeld (Nat.le_refl _)) (S4.below hHeld (Nat.le_refl _))).mono ?_
      rintro e w4 ⟨rfl, hb4⟩
      go_wp2_with fail
      refine hK.out _ _ (hHeld.trans (hb4.mono hHeld.size)) (fun hHeld2 => ?_)
      clear hK K hHeld
      have hHeld := hHeld2
      clear hHeld2
      try simp only [Act.put, List.setIfInBounds_toArray, List.set_cons_zero, List.set_cons_succ]
      refine wpAnyH_take (i := 15) (oi := { dst := some 28, op := Op.unOp UnOp.not 4 (Operand.tmp 27), type := 4, pos := "keeper.go:19", after := #[{ on := 14, ground := Ground.data }], guard := none }) (v := .bool false) rfl (by kernel_rfl) (by kernel_rfl) (by kernel_rfl) (fun _ _ _ h => h) (Or.inl ⟨by rfl, by intro w hS; go_simp⟩) hHeld ?_
      try simp only [Act.put, List.setIfInBounds_toArray, List.set_cons_zero, List.set_cons_succ]
      refine wpAnyH_done (by kernel_rfl) ?_ _
      refine NoPanic.normal ?_
      have hf := hHeld
      clear hHeld
      go_wp2
      go_roundw
      case rel => exact ⟨n + 1, by omega, by go_num, hf⟩
      case measure => simp [intOf]; omega
    · obtain rfl : n = N := by omega
      clear hlt1
      go_wp2
      go_ret
      exact ⟨rfl, hB⟩
end Go.Proofs.Ytpohgnblikkagaa
