import Derived.Test.YtpohgnblikkagaaKp1
namespace Go.Proofs.Ytpohgnblikkagaa
set_option linter.unusedVariables false
set_option linter.unusedSimpArgs false
open Go.RowKit
attribute [local go_sem ↓] Go.wp_at_zero Go.wp_at_succ

set_option maxRecDepth 100000 in
set_option maxHeartbeats 1000000 in
theorem marked_any (w : World) (ps : List (List Int)) (sp : Option Addr) (cap : Nat) (hR : Rws w sp ps) (hN : ps.length ≤ 1048576000) (hL : ∀ r, r < ps.length → (ps.getD r []).length ≤ 140737488355328) (hM : ∀ r, r < ps.length → ps.getD r [] = mksK r (ps.getD r []).length) :
    Calls Try.prog 17 #[.slice sp ps.length cap] w fun e w' => e = .returned (.bool true) ∧ Below w.heap.size w w' := by
  have i0 : (ps.length : Int) ≤ 1048576000 := by omega
  have HR := hid hR
  have HM := hid hM
  have HL := hid hL
  clear hR hM hL
  go_enter Try.func17, Try.ntmps17
  go_wp2
  go_loopw [3, 4] (fun i kv wr => ∃ n : Nat, n ≤ ps.length ∧ i = .int .i64 n ∧ Below w.heap.size w wr) (fun i _ _ => ps.length - (intOf i).toNat)
  case atStart => exact ⟨0, by omega, rfl, Below.refl _ _⟩
  case round =>
    obtain ⟨n, hn, rfl, hB⟩ := hrel
    by_cases hlt : n < ps.length
    · have i1 : (n : Int) < (ps.length : Int) := by omega
      obtain ⟨b, o, sp2, c2, rfl, c0, hnil, hS, hb⟩ := HR.out.piece (Below.refl _ _) n hlt
      obtain ⟨hc, hm, b2, o2, hb2, hsp, hsrc⟩ := hS
      have C0 := hid c0
      have hln := HL.out n hlt
      have i2 : ((ps.getD n []).length : Int) ≤ 140737488355328 := by omega
      have HSR := hid (fun j (hj : j < (ps.getD n []).length) => (hsrc j hj).trans (by rw [HM.out n hlt, mksK_get _ _ _ hj] : some (Value.int .u8 ((ps.getD n []).getD j 0)) = some (Value.int .u8 (mkK n j))))
      have HB := hid hb2
      have HSP := hid hsp
      clear hsrc hb2 hsp c0
      generalize (ps.getD n []).length = L at *
      go_wp2
      go_loopw [4] (fun i wr => ∃ k : Nat, k ≤ L ∧ i = .int .i64 k ∧ Below w.heap.size w wr) (fun i _ => L - (intOf i).toNat)
      case atStart => exact ⟨0, by omega, rfl, hB⟩
      case round =>
        clear hB
        obtain ⟨k, hk, rfl, hB2⟩ := hrel
        have c0 := (hB2.cell (p := ⟨b, o + n, none⟩) hb).trans C0.out
        by_cases hlk : k < L
        · have i3 : (k : Int) < (L : Int) := by omega
          have C1 := hid (HSR.out k hlk)
          have HB2 := hid (HB.out (by omega))
          obtain rfl := HSP.out (by omega)
          go_wp2
          refine wp_region_noPanic ?_
          refine wp_region_held_drew (S := fun w' => Below w.heap.size w w') (by kernel_rfl) hB2.drew (fun hHeld => ?_)
          refine wpAnyH_take (i := 0) (oi := { dst := some 20, op := Op.move (Operand.tmp 0), type := 34, pos := "keeper.go:33", after := #[], guard := none }) (v := .slice (some ⟨b, o, none⟩) ps.length cap) rfl (by kernel_rfl) (by kernel_rfl) (by kernel_rfl) (fun _ _ _ h => h) (Or.inl ⟨by rfl, by intro w hS; go_simp⟩) hHeld ?_
          try simp only [Act.put, List.setIfInBounds_toArray, List.set_cons_zero, List.set_cons_succ]
          refine wpAnyH_take (i := 1) (oi := { dst := some 21, op := Op.move (Operand.tmp 3), type := 3, pos := "keeper.go:33", after := #[], guard := none }) (v := .int .i64 n) rfl (by kernel_rfl) (by kernel_rfl) (by kernel_rfl) (fun _ _ _ h => h) (Or.inl ⟨by rfl, by intro w hS; go_simp⟩) hHeld ?_
          try simp only [Act.put, List.setIfInBounds_toArray, List.set_cons_zero, List.set_cons_succ]
          refine wpAnyH_take (i := 4) (oi := { dst := some 24, op := Op.move (Operand.tmp 4), type := 3, pos := "keeper.go:33", after := #[], guard := none }) (v := .int .i64 k) rfl (by kernel_rfl) (by kernel_rfl) (by kernel_rfl) (fun _ _ _ h => h) (Or.inl ⟨by rfl, by intro w hS; go_simp⟩) hHeld ?_
          try simp only [Act.put, List.setIfInBounds_toArray, List.set_cons_zero, List.set_cons_succ]
          refine wpAnyH_take (i := 7) (oi := { dst := some 27, op := Op.move (Operand.tmp 3), type := 3, pos := "keeper.go:33", after := #[], guard := none }) (v := .int .i64 n) rfl (by kernel_rfl) (by kernel_rfl) (by kernel_rfl) (fun _ _ _ h => h) (Or.inl ⟨by rfl, by intro w hS; go_simp⟩) hHeld ?_
          try simp only [Act.put, List.setIfInBounds_toArray, List.set_cons_zero, List.set_cons_succ]
          refine wpAnyH_take (i := 8) (oi := { dst := some 28, op := Op.move (Operand.tmp 4), type := 3, pos := "keeper.go:33", after := #[], guard := none }) (v := .int .i64 k) rfl (by kernel_rfl) (by kernel_rfl) (by kernel_rfl) (fun _ _ _ h => h) (Or.inl ⟨by rfl, by intro w hS; go_simp⟩) hHeld ?_
          try simp only [Act.put, List.setIfInBounds_toArray, List.set_cons_zero, List.set_cons_succ]
          refine wpAnyH_take (i := 2) (oi := { dst := some 22, op := Op.indexAddr 34 (Operand.tmp 20) (Operand.tmp 21), type := 0, pos := "keeper.go:33", after := #[{ on := 0, ground := Ground.data }, { on := 1, ground := Ground.data }], guard := none }) (v := .pointer (some ⟨b, o + n, none⟩)) rfl (by kernel_rfl) (by kernel_rfl) (by kernel_rfl) (fun _ _ _ h => h) (Or.inl ⟨by rfl, by intro w hS; go_simp⟩) hHeld ?_
          try simp only [Act.put, List.setIfInBounds_toArray, List.set_cons_zero, List.set_cons_succ]
          refine wpAnyH_take (i := 3) (oi := { dst := some 23, op := Op.load 26 (Operand.tmp 22), type := 26, pos := "keeper.go:33", after := #[{ on := 2, ground := Ground.data }], guard := none }) (v := .slice (some ⟨b2, o2, none⟩) L c2) rfl (by kernel_rfl) (by kernel_rfl) (by kernel_rfl) (fun _ _ _ h => h) (Or.inl ⟨by rfl, by intro w hS; have hc := hS.cell (p := ⟨b, o + n, none⟩) hb |>.trans C0.out; go_simp⟩) hHeld ?_
          try simp only [Act.put, List.setIfInBounds_toArray, List.set_cons_zero, List.set_cons_succ]
          refine wpAnyH_take (i := 5) (oi := { dst := some 25, op := Op.indexAddr 26 (Operand.tmp 23) (Operand.tmp 24), type := 0, pos := "keeper.go:33", after := #[{ on := 3, ground := Ground.data }, { on := 4, ground := Ground.data }], guard := none }) (v := .pointer (some ⟨b2, o2 + k, none⟩)) rfl (by kernel_rfl) (by kernel_rfl) (by kernel_rfl) (fun _ _ _ h => h) (Or.inl ⟨by rfl, by intro w hS; go_simp⟩) hHeld ?_
          try simp only [Act.put, List.setIfInBounds_toArray, List.set_cons_zero, List.set_cons_succ]
          refine wpAnyH_take (i := 6) (oi := { dst := some 26, op := Op.load 5 (Operand.tmp 25), type := 5, pos := "keeper.go:33", after := #[{ on := 5, ground := Ground.data }], guard := none }) (v := .int .u8 (mkK n k)) rfl (by kernel_rfl) (by kernel_rfl) (by kernel_rfl) (fun _ _ _ h => h) (Or.inl ⟨by rfl, by intro w hS; have hc := hS.cell (p := ⟨b2, o2 + k, none⟩) HB2.out |>.trans C1.out; go_simp⟩) hHeld ?_
          try simp only [Act.put, List.setIfInBounds_toArray, List.set_cons_zero, List.set_cons_succ]
          refine wpAnyH_ready (rs := [9]) (by kernel_rfl) (by simp) ?_
          refine (AllReadyH.cons (o := { dst := some 29, op := Op.call { callee := Callee.value (Operand.func 16), args := #[Operand.tmp 27, Operand.tmp 28], argTypes := #[3, 3] }, type := 5, pos := "keeper.go:33", after := #[{ on := 7, ground := Ground.data }, { on := 8, ground := Ground.data }], guard := none }) rfl (fun K hK => ?_) AllReadyH.nil)
          go_simp
          go_at_call 16
          refine (mark_any _ n k (by omega) (by omega)).mono ?_
          rintro e w4 ⟨rfl, rfl⟩
          go_wp2_with fail
          refine hK.out _ _ (hHeld) (fun hHeld2 => ?_)
          clear hK K hHeld
          have hHeld := hHeld2
          clear hHeld2
          try simp only [Act.put, List.setIfInBounds_toArray, List.set_cons_zero, List.set_cons_succ]
          refine wpAnyH_take (i := 10) (oi := { dst := some 30, op := Op.binOp BinOp.neq 5 (Operand.tmp 26) (Operand.tmp 29) 5, type := 4, pos := "keeper.go:33", after := #[{ on := 6, ground := Ground.data }, { on := 9, ground := Ground.data }], guard := none }) (v := .bool false) rfl (by kernel_rfl) (by kernel_rfl) (by kernel_rfl) (fun _ _ _ h => h) (Or.inl ⟨by rfl, by intro w hS; go_simp⟩) hHeld ?_
          try simp only [Act.put, List.setIfInBounds_toArray, List.set_cons_zero, List.set_cons_succ]
          refine wpAnyH_done (by kernel_rfl) ?_ _
          refine NoPanic.normal ?_
          have hf := hHeld
          clear hHeld
          go_wp2
          go_roundw
          case rel => exact ⟨k + 1, by omega, by go_num, hf⟩
          case measure => simp [intOf]; omega
        · have hkn : k = L := by omega
          clear hlk
          subst hkn
          go_wp2
          go_roundw
          case rel => exact ⟨n + 1, by omega, by go_num, hB2⟩
          case measure => simp [intOf]; omega
    · obtain rfl : n = ps.length := by omega
      clear hlt
      go_wp2
      go_ret
      exact ⟨rfl, hB⟩
end Go.Proofs.Ytpohgnblikkagaa
