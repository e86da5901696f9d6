import Derived.Test.YtcifbnldohmbnaaYd
namespace Go.Proofs.Ytcifbnldohmbnaa
set_option linter.unusedVariables false
set_option linter.unusedSimpArgs false
open Go.RowKit
attribute [local go_sem ↓] Go.wp_at_zero Go.wp_at_succ

theorem cmp_same {w : World} (w' : World) (hb : Below w.heap.size w w') {z y : List Int} {s1 s2 : Option Addr} {c1 c2 : Nat} (h1 : Src w s1 c1 z) (h2 : Src w s2 c2 y) (t : Bool) (ht : decide (z = y) = t) {n m : Nat} (hn : z.length = n) (hm : y.length = m) :
    Calls Try.prog 21 #[.slice s1 n c1, .slice s2 m c2] w' fun e w'' => e = .returned (.bool t) ∧ Below w'.heap.size w' w'' := by
  have := sameBytes_any w' z y s1 s2 c1 c2 (h1.below hb (Nat.le_refl _)) (h2.below hb (Nat.le_refl _))
  rwa [ht, hn, hm] at this
set_option maxRecDepth 100000 in
set_option maxHeartbeats 2000000 in
theorem sameMap_any (w : World) (A B : List Ent) (s1 s2 : Option Addr) (c1 c2 b1 b2 : Nat) (m1 m2 : List MG) (h1 : Ens w s1 c1 A b1 m1) (h2 : Ens w s2 c2 B b2 m2) (y1 : SaysGL w m1 A) (y2 : SaysGL w m2 B) (hsm : SameM A B) (hlen : A.length ≤ 1000000) :
    Calls Try.prog 26 #[.slice s1 A.length c1, .slice s2 B.length c2] w fun e w' => e = .returned (.bool true) ∧ Below w.heap.size w w' := by
  have i0 : (A.length : Int) ≤ 1000000 := by omega
  have hl := hsm.len
  have HL := hid hl
  have HSM := hid hsm
  have gk := keyGuard
  rw [← hl]
  clear hl hsm
  go_enter Try.func26, Try.ntmps26
  go_wp2
  go_loopw [5] (fun iv wr => ∃ i : Nat, i ≤ A.length ∧ iv = .int .i64 i ∧ Below w.heap.size w wr) (fun iv _ => A.length - (intOf iv).toNat)
  case atStart => exact ⟨0, by omega, rfl, Below.refl _ _⟩
  case round =>
  obtain ⟨i, hi, rfl, hB0⟩ := hrel
  by_cases hlt : i < A.length
  · have i1 : (i : Int) < (A.length : Int) := by omega
    obtain ⟨hb1, rfl⟩ := h1.pos (by omega)
    have Ri := h1.rd i hlt
    have si := y1.2 i hlt
    have ri := encG_key Ri
    rw [si.1] at ri
    have ci := encG_val Ri (by rw [si.1]; exact si.2.1)
    obtain ⟨_, li, ti, di, e4, _, srci⟩ := si
    rw [e4] at ci
    have hii : (Try.prog.info? 24).map (·.size) = some (ints .u8 (A.getD i dE).key).length := by rw [keySize, ints_len, li]
    have HIN := hid (HSM.out.sub _ (gD_mem A dE i hlt))
    clear Ri e4
    go_wp2
    go_loopw [6, 7] (fun mv jv wr => ∃ (mt : Bool) (j : Nat), mv = .bool mt ∧ j ≤ A.length ∧ jv = .int .i64 j ∧ ((∃ j', j' < j ∧ B.getD j' dE = A.getD i dE) → mt = true) ∧ Below w.heap.size w wr) (fun _ jv _ => A.length - (intOf jv).toNat)
    case atStart => exact ⟨false, 0, rfl, by omega, rfl, fun ⟨j', h, _⟩ => by omega, hB0⟩
    case round =>
    clear hB0
    obtain ⟨mt, j, rfl, hj, rfl, hmt, hB⟩ := hrel
    by_cases hlj : j < A.length
    · have j1 : (j : Int) < (A.length : Int) := by omega
      have hljB : j < B.length := by have := HL.out; omega
      obtain ⟨hb2, rfl⟩ := h2.pos (by omega)
      have Rj := h2.rd j hljB
      have sj := y2.2 j hljB
      have rj := encG_key Rj
      rw [sj.1] at rj
      have cj := encG_val Rj (by rw [sj.1]; exact sj.2.1)
      obtain ⟨_, lj, tj, dj, e4, _, srcj⟩ := sj
      rw [e4] at cj
      have hij : (Try.prog.info? 24).map (·.size) = some (ints .u8 (B.getD j dE).key).length := by rw [keySize, ints_len, lj]
      have HSt := hid (show ((∃ j', j' < j + 1 ∧ B.getD j' dE = A.getD i dE) → true = true) from fun _ => rfl)
      have HSn := hid (show B.getD j dE ≠ A.getD i dE → ((∃ j', j' < j + 1 ∧ B.getD j' dE = A.getD i dE) → mt = true) from fun hne ⟨j', q1, q2⟩ => by
        rcases Nat.lt_succ_iff_lt_or_eq.1 q1 with q | rfl
        · exact hmt ⟨j', q, q2⟩
        · exact absurd q2 hne)
      clear Rj e4 hmt
      have si := ti
      have sj := tj
      by_cases hk : (A.getD i dE).key = (B.getD j dE).key
      · have qe : ∀ w, (Op.equalIn 10000 24 (.agg (ints .u8 (A.getD i dE).key).toArray) (.agg (ints .u8 (B.getD j dE).key).toArray)).run Try.prog w = .ok true w := fun w => by rw [key_eq _ _ li lj, decide_eq_true hk]
        by_cases hv : (A.getD i dE).val = (B.getD j dE).val
        · have KB := hid (fun w' hb => cmp_same (w := w) w' hb srci srcj true (decide_eq_true hv) rfl rfl)
          have HS := HSt
          clear hv hk HSn HSt srci srcj li lj
          generalize (A.getD i dE).key = ki at *
          generalize (B.getD j dE).key = kj at *
          generalize (A.getD i dE).val.length = vi at *
          generalize (B.getD j dE).val.length = vj at *
          go_wp2
          refine wp_region_noPanic ?_
          refine wp_region_held_drew (S := fun w' => Below w.heap.size w w') (by kernel_rfl) hB.drew (fun hHeld => ?_)
          refine wpAnyH_take (i := 0) (oi := { dst := some 25, op := Op.move (Operand.tmp 0), type := 50, pos := "outright.go:197", after := #[], guard := none }) (v := .slice (some ⟨b1, 0, none⟩) A.length c1) rfl (by kernel_rfl) (by kernel_rfl) (by kernel_rfl) (fun _ _ _ h => h) (Or.inl ⟨by rfl, by intro w hS; go_simp⟩) hHeld ?_
          try simp only [Act.put, List.setIfInBounds_toArray, List.set_cons_zero, List.set_cons_succ]
          refine wpAnyH_take (i := 1) (oi := { dst := some 26, op := Op.move (Operand.tmp 5), type := 3, pos := "outright.go:197", after := #[], guard := none }) (v := .int .i64 i) rfl (by kernel_rfl) (by kernel_rfl) (by kernel_rfl) (fun _ _ _ h => h) (Or.inl ⟨by rfl, by intro w hS; go_simp⟩) hHeld ?_
          try simp only [Act.put, List.setIfInBounds_toArray, List.set_cons_zero, List.set_cons_succ]
          refine wpAnyH_take (i := 5) (oi := { dst := some 30, op := Op.move (Operand.tmp 1), type := 50, pos := "outright.go:197", after := #[], guard := none }) (v := .slice (some ⟨b2, 0, none⟩) A.length c2) rfl (by kernel_rfl) (by kernel_rfl) (by kernel_rfl) (fun _ _ _ h => h) (Or.inl ⟨by rfl, by intro w hS; go_simp⟩) hHeld ?_
          try simp only [Act.put, List.setIfInBounds_toArray, List.set_cons_zero, List.set_cons_succ]
          refine wpAnyH_take (i := 6) (oi := { dst := some 31, op := Op.move (Operand.tmp 7), type := 3, pos := "outright.go:197", after := #[], guard := none }) (v := .int .i64 j) rfl (by kernel_rfl) (by kernel_rfl) (by kernel_rfl) (fun _ _ _ h => h) (Or.inl ⟨by rfl, by intro w hS; go_simp⟩) hHeld ?_
          try simp only [Act.put, List.setIfInBounds_toArray, List.set_cons_zero, List.set_cons_succ]
          refine wpAnyH_take (i := 2) (oi := { dst := some 27, op := Op.indexAddr 50 (Operand.tmp 25) (Operand.tmp 26), type := 0, pos := "outright.go:197", after := #[{ on := 0, ground := Ground.data }, { on := 1, ground := Ground.data }], guard := none }) (v := .pointer (some ⟨b1, i * 33, none⟩)) rfl (by kernel_rfl) (by kernel_rfl) (by kernel_rfl) (fun _ _ _ h => h) (Or.inl ⟨by rfl, by intro w hS; go_simp⟩) hHeld ?_
          try simp only [Act.put, List.setIfInBounds_toArray, List.set_cons_zero, List.set_cons_succ]
          refine wpAnyH_take (i := 7) (oi := { dst := some 32, op := Op.indexAddr 50 (Operand.tmp 30) (Operand.tmp 31), type := 0, pos := "outright.go:197", after := #[{ on := 5, ground := Ground.data }, { on := 6, ground := Ground.data }], guard := none }) (v := .pointer (some ⟨b2, j * 33, none⟩)) rfl (by kernel_rfl) (by kernel_rfl) (by kernel_rfl) (fun _ _ _ h => h) (Or.inl ⟨by rfl, by intro w hS; go_simp⟩) hHeld ?_
          try simp only [Act.put, List.setIfInBounds_toArray, List.set_cons_zero, List.set_cons_succ]
          refine wpAnyH_take (i := 3) (oi := { dst := some 28, op := Op.fieldAddr 81 (Operand.tmp 27) 0, type := 0, pos := "outright.go:197", after := #[{ on := 2, ground := Ground.data }], guard := none }) (v := .pointer (some ⟨b1, i * 33, none⟩)) rfl (by kernel_rfl) (by kernel_rfl) (by kernel_rfl) (fun _ _ _ h => h) (Or.inl ⟨by rfl, by intro w hS; go_simp⟩) hHeld ?_
          try simp only [Act.put, List.setIfInBounds_toArray, List.set_cons_zero, List.set_cons_succ]
          refine wpAnyH_take (i := 8) (oi := { dst := some 33, op := Op.fieldAddr 81 (Operand.tmp 32) 0, type := 0, pos := "outright.go:197", after := #[{ on := 7, ground := Ground.data }], guard := none }) (v := .pointer (some ⟨b2, j * 33, none⟩)) rfl (by kernel_rfl) (by kernel_rfl) (by kernel_rfl) (fun _ _ _ h => h) (Or.inl ⟨by rfl, by intro w hS; go_simp⟩) hHeld ?_
          try simp only [Act.put, List.setIfInBounds_toArray, List.set_cons_zero, List.set_cons_succ]
          refine wpAnyH_take (i := 4) (oi := { dst := some 29, op := Op.load 24 (Operand.tmp 28), type := 24, pos := "outright.go:197", after := #[{ on := 3, ground := Ground.data }], guard := none }) (v := .agg (ints .u8 ki).toArray) rfl (by kernel_rfl) (by kernel_rfl) (by kernel_rfl) (fun _ _ _ h => h) (yieldsIf_load_mid (by rfl) 24 _ rfl b1 (i * 33) rfl (ints .u8 ki) _ (fun w hS => rng_below ri hS hb1) Try.underlying24 rfl hii) hHeld ?_
          try simp only [Act.put, List.setIfInBounds_toArray, List.set_cons_zero, List.set_cons_succ]
          refine wpAnyH_take (i := 9) (oi := { dst := some 34, op := Op.load 24 (Operand.tmp 33), type := 24, pos := "outright.go:197", after := #[{ on := 8, ground := Ground.data }], guard := none }) (v := .agg (ints .u8 kj).toArray) rfl (by kernel_rfl) (by kernel_rfl) (by kernel_rfl) (fun _ _ _ h => h) (yieldsIf_load_mid (by rfl) 24 _ rfl b2 (j * 33) rfl (ints .u8 kj) _ (fun w hS => rng_below rj hS hb2) Try.underlying24 rfl hij) hHeld ?_
          try simp only [Act.put, List.setIfInBounds_toArray, List.set_cons_zero, List.set_cons_succ]
          refine wpAnyH_take (i := 10) (oi := { dst := some 35, op := Op.binOp BinOp.eql 24 (Operand.tmp 29) (Operand.tmp 34) 24, type := 4, pos := "outright.go:197", after := #[{ on := 4, ground := Ground.data }, { on := 9, ground := Ground.data }], guard := none }) (v := .bool true) rfl (by kernel_rfl) (by kernel_rfl) (by kernel_rfl) (fun _ _ _ h => h) (Or.inl ⟨by rfl, by intro w hS; go_simp⟩) hHeld ?_
          try simp only [Act.put, List.setIfInBounds_toArray, List.set_cons_zero, List.set_cons_succ]
          refine wpAnyH_take (i := 11) (oi := { dst := some 36, op := Op.move (Operand.tmp 35), type := 4, pos := "outright.go:197", after := #[{ on := 10, ground := Ground.data }], guard := none }) (v := .bool true) rfl (by kernel_rfl) (by kernel_rfl) (by kernel_rfl) (fun _ _ _ h => h) (Or.inl ⟨by rfl, by intro w hS; go_simp⟩) hHeld ?_
          try simp only [Act.put, List.setIfInBounds_toArray, List.set_cons_zero, List.set_cons_succ]
          refine wpAnyH_take (i := 12) (oi := { dst := some 37, op := Op.move (Operand.tmp 0), type := 50, pos := "outright.go:197", after := #[{ on := 11, ground := Ground.guard }], guard := some (11, true) }) (v := .slice (some ⟨b1, 0, none⟩) A.length c1) rfl (by kernel_rfl) (by kernel_rfl) (by kernel_rfl) (fun _ _ _ h => h) (Or.inl ⟨by rfl, by intro w hS; go_simp⟩) hHeld ?_
          try simp only [Act.put, List.setIfInBounds_toArray, List.set_cons_zero, List.set_cons_succ]
          refine wpAnyH_take (i := 13) (oi := { dst := some 38, op := Op.move (Operand.tmp 5), type := 3, pos := "outright.go:197", after := #[{ on := 11, ground := Ground.guard }], guard := some (11, true) }) (v := .int .i64 i) rfl (by kernel_rfl) (by kernel_rfl) (by kernel_rfl) (fun _ _ _ h => h) (Or.inl ⟨by rfl, by intro w hS; go_simp⟩) hHeld ?_
          try simp only [Act.put, List.setIfInBounds_toArray, List.set_cons_zero, List.set_cons_succ]
          refine wpAnyH_take (i := 17) (oi := { dst := some 42, op := Op.move (Operand.tmp 1), type := 50, pos := "outright.go:197", after := #[{ on := 11, ground := Ground.guard }], guard := some (11, true) }) (v := .slice (some ⟨b2, 0, none⟩) A.length c2) rfl (by kernel_rfl) (by kernel_rfl) (by kernel_rfl) (fun _ _ _ h => h) (Or.inl ⟨by rfl, by intro w hS; go_simp⟩) hHeld ?_
          try simp only [Act.put, List.setIfInBounds_toArray, List.set_cons_zero, List.set_cons_succ]
          refine wpAnyH_take (i := 18) (oi := { dst := some 43, op := Op.move (Operand.tmp 7), type := 3, pos := "outright.go:197", after := #[{ on := 11, ground := Ground.guard }], guard := some (11, true) }) (v := .int .i64 j) rfl (by kernel_rfl) (by kernel_rfl) (by kernel_rfl) (fun _ _ _ h => h) (Or.inl ⟨by rfl, by intro w hS; go_simp⟩) hHeld ?_
          try simp only [Act.put, List.setIfInBounds_toArray, List.set_cons_zero, List.set_cons_succ]
          refine wpAnyH_take (i := 14) (oi := { dst := some 39, op := Op.indexAddr 50 (Operand.tmp 37) (Operand.tmp 38), type := 0, pos := "outright.go:197", after := #[{ on := 12, ground := Ground.data }, { on := 13, ground := Ground.data }, { on := 11, ground := Ground.guard }], guard := some (11, true) }) (v := .pointer (some ⟨b1, i * 33, none⟩)) rfl (by kernel_rfl) (by kernel_rfl) (by kernel_rfl) (fun _ _ _ h => h) (Or.inl ⟨by rfl, by intro w hS; go_simp⟩) hHeld ?_
          try simp only [Act.put, List.setIfInBounds_toArray, List.set_cons_zero, List.set_cons_succ]
          refine wpAnyH_take (i := 19) (oi := { dst := some 44, op := Op.indexAddr 50 (Operand.tmp 42) (Operand.tmp 43), type := 0, pos := "outright.go:197", after := #[{ on := 17, ground := Ground.data }, { on := 18, ground := Ground.data }, { on := 11, ground := Ground.guard }], guard := some (11, true) }) (v := .pointer (some ⟨b2, j * 33, none⟩)) rfl (by kernel_rfl) (by kernel_rfl) (by kernel_rfl) (fun _ _ _ h => h) (Or.inl ⟨by rfl, by intro w hS; go_simp⟩) hHeld ?_
          try simp only [Act.put, List.setIfInBounds_toArray, List.set_cons_zero, List.set_cons_succ]
          refine wpAnyH_take (i := 15) (oi := { dst := some 40, op := Op.fieldAddr 81 (Operand.tmp 39) 1, type := 0, pos := "outright.go:197", after := #[{ on := 14, ground := Ground.data }, { on := 11, ground := Ground.guard }], guard := some (11, true) }) (v := .pointer (some ⟨b1, i * 33 + 32, none⟩)) rfl (by kernel_rfl) (by kernel_rfl) (by kernel_rfl) (fun _ _ _ h => h) (Or.inl ⟨by rfl, by intro w hS; go_simp⟩) hHeld ?_
          try simp only [Act.put, List.setIfInBounds_toArray, List.set_cons_zero, List.set_cons_succ]
          refine wpAnyH_take (i := 20) (oi := { dst := some 45, op := Op.fieldAddr 81 (Operand.tmp 44) 1, type := 0, pos := "outright.go:197", after := #[{ on := 19, ground := Ground.data }, { on := 11, ground := Ground.guard }], guard := some (11, true) }) (v := .pointer (some ⟨b2, j * 33 + 32, none⟩)) rfl (by kernel_rfl) (by kernel_rfl) (by kernel_rfl) (fun _ _ _ h => h) (Or.inl ⟨by rfl, by intro w hS; go_simp⟩) hHeld ?_
          try simp only [Act.put, List.setIfInBounds_toArray, List.set_cons_zero, List.set_cons_succ]
          refine wpAnyH_take (i := 16) (oi := { dst := some 41, op := Op.load 30 (Operand.tmp 40), type := 30, pos := "outright.go:197", after := #[{ on := 15, ground := Ground.data }, { on := 11, ground := Ground.guard }], guard := some (11, true) }) (v := .slice ti vi di) rfl (by kernel_rfl) (by kernel_rfl) (by kernel_rfl) (fun _ _ _ h => h) (Or.inl ⟨by rfl, by intro w hS; have hc := (hS.cell (p := ⟨b1, i * 33 + 32, none⟩) hb1).trans ci; go_simp⟩) hHeld ?_
          try simp only [Act.put, List.setIfInBounds_toArray, List.set_cons_zero, List.set_cons_succ]
          refine wpAnyH_take (i := 21) (oi := { dst := some 46, op := Op.load 30 (Operand.tmp 45), type := 30, pos := "outright.go:197", after := #[{ on := 20, ground := Ground.data }, { on := 11, ground := Ground.guard }], guard := some (11, true) }) (v := .slice tj vj dj) rfl (by kernel_rfl) (by kernel_rfl) (by kernel_rfl) (fun _ _ _ h => h) (Or.inl ⟨by rfl, by intro w hS; have hc := (hS.cell (p := ⟨b2, j * 33 + 32, none⟩) hb2).trans cj; go_simp⟩) hHeld ?_
          try simp only [Act.put, List.setIfInBounds_toArray, List.set_cons_zero, List.set_cons_succ]
          refine wpAnyH_ready (rs := [22]) (by kernel_rfl) (by simp) ?_
          refine (AllReadyH.cons (o := { dst := some 47, op := Op.call { callee := Callee.value (Operand.func 21), args := #[Operand.tmp 41, Operand.tmp 46], argTypes := #[30, 30] }, type := 4, pos := "outright.go:197", after := #[{ on := 16, ground := Ground.data }, { on := 21, ground := Ground.data }, { on := 11, ground := Ground.chain }, { on := 11, ground := Ground.guard }], guard := some (11, true) }) rfl (fun K hK => ?_) AllReadyH.nil)
          go_simp
          go_at_call 21
          refine (KB.out _ hHeld).mono ?_
          rintro e w4 ⟨rfl, hb4⟩
          go_wp2_with fail
          refine hK.out _ _ (hHeld.trans (hb4.mono hHeld.size)) (fun hHeld2 => ?_)
          clear hK K hHeld
          have hHeld := hHeld2
          clear hHeld2
          clear hb4
          try simp only [Act.put, List.setIfInBounds_toArray, List.set_cons_zero, List.set_cons_succ]
          refine wpAnyH_take (i := 23) (oi := { dst := some 48, op := Op.pick (Operand.tmp 36) (Operand.tmp 47) (Operand.const (Value.bool false)), type := 4, pos := "outright.go:197", after := #[{ on := 11, ground := Ground.data }, { on := 22, ground := Ground.data }], guard := none }) (v := .bool true) rfl (by kernel_rfl) (by kernel_rfl) (by kernel_rfl) (fun _ _ _ h => h) (Or.inl ⟨by rfl, by intro w hS; go_simp⟩) hHeld ?_
          try simp only [Act.put, List.setIfInBounds_toArray, List.set_cons_zero, List.set_cons_succ]
          refine wpAnyH_done (by kernel_rfl) ?_ _
          refine NoPanic.normal ?_
          have hf := hHeld
          clear hHeld
          go_wp2
          go_roundw
          case rel => exact ⟨true, j + 1, rfl, by omega, by go_num, fun _ => rfl, hf⟩
          case measure => simp [intOf]; omega
        · have KB := hid (fun w' hb => cmp_same (w := w) w' hb srci srcj false (decide_eq_false hv) rfl rfl)
          have HS := hid (HSn.out (fun e => hv (by rw [e])))
          clear hv hk HSn HSt srci srcj li lj
          generalize (A.getD i dE).key = ki at *
          generalize (B.getD j dE).key = kj at *
          generalize (A.getD i dE).val.length = vi at *
          generalize (B.getD j dE).val.length = vj at *
          go_wp2
          refine wp_region_noPanic ?_
          refine wp_region_held_drew (S := fun w' => Below w.heap.size w w') (by kernel_rfl) hB.drew (fun hHeld => ?_)
          refine wpAnyH_take (i := 0) (oi := { dst := some 25, op := Op.move (Operand.tmp 0), type := 50, pos := "outright.go:197", after := #[], guard := none }) (v := .slice (some ⟨b1, 0, none⟩) A.length c1) rfl (by kernel_rfl) (by kernel_rfl) (by kernel_rfl) (fun _ _ _ h => h) (Or.inl ⟨by rfl, by intro w hS; go_simp⟩) hHeld ?_
          try simp only [Act.put, List.setIfInBounds_toArray, List.set_cons_zero, List.set_cons_succ]
          refine wpAnyH_take (i := 1) (oi := { dst := some 26, op := Op.move (Operand.tmp 5), type := 3, pos := "outright.go:197", after := #[], guard := none }) (v := .int .i64 i) rfl (by kernel_rfl) (by kernel_rfl) (by kernel_rfl) (fun _ _ _ h => h) (Or.inl ⟨by rfl, by intro w hS; go_simp⟩) hHeld ?_
          try simp only [Act.put, List.setIfInBounds_toArray, List.set_cons_zero, List.set_cons_succ]
          refine wpAnyH_take (i := 5) (oi := { dst := some 30, op := Op.move (Operand.tmp 1), type := 50, pos := "outright.go:197", after := #[], guard := none }) (v := .slice (some ⟨b2, 0, none⟩) A.length c2) rfl (by kernel_rfl) (by kernel_rfl) (by kernel_rfl) (fun _ _ _ h => h) (Or.inl ⟨by rfl, by intro w hS; go_simp⟩) hHeld ?_
          try simp only [Act.put, List.setIfInBounds_toArray, List.set_cons_zero, List.set_cons_succ]
          refine wpAnyH_take (i := 6) (oi := { dst := some 31, op := Op.move (Operand.tmp 7), type := 3, pos := "outright.go:197", after := #[], guard := none }) (v := .int .i64 j) rfl (by kernel_rfl) (by kernel_rfl) (by kernel_rfl) (fun _ _ _ h => h) (Or.inl ⟨by rfl, by intro w hS; go_simp⟩) hHeld ?_
          try simp only [Act.put, List.setIfInBounds_toArray, List.set_cons_zero, List.set_cons_succ]
          refine wpAnyH_take (i := 2) (oi := { dst := some 27, op := Op.indexAddr 50 (Operand.tmp 25) (Operand.tmp 26), type := 0, pos := "outright.go:197", after := #[{ on := 0, ground := Ground.data }, { on := 1, ground := Ground.data }], guard := none }) (v := .pointer (some ⟨b1, i * 33, none⟩)) rfl (by kernel_rfl) (by kernel_rfl) (by kernel_rfl) (fun _ _ _ h => h) (Or.inl ⟨by rfl, by intro w hS; go_simp⟩) hHeld ?_
          try simp only [Act.put, List.setIfInBounds_toArray, List.set_cons_zero, List.set_cons_succ]
          refine wpAnyH_take (i := 7) (oi := { dst := some 32, op := Op.indexAddr 50 (Operand.tmp 30) (Operand.tmp 31), type := 0, pos := "outright.go:197", after := #[{ on := 5, ground := Ground.data }, { on := 6, ground := Ground.data }], guard := none }) (v := .pointer (some ⟨b2, j * 33, none⟩)) rfl (by kernel_rfl) (by kernel_rfl) (by kernel_rfl) (fun _ _ _ h => h) (Or.inl ⟨by rfl, by intro w hS; go_simp⟩) hHeld ?_
          try simp only [Act.put, List.setIfInBounds_toArray, List.set_cons_zero, List.set_cons_succ]
          refine wpAnyH_take (i := 3) (oi := { dst := some 28, op := Op.fieldAddr 81 (Operand.tmp 27) 0, type := 0, pos := "outright.go:197", after := #[{ on := 2, ground := Ground.data }], guard := none }) (v := .pointer (some ⟨b1, i * 33, none⟩)) rfl (by kernel_rfl) (by kernel_rfl) (by kernel_rfl) (fun _ _ _ h => h) (Or.inl ⟨by rfl, by intro w hS; go_simp⟩) hHeld ?_
          try simp only [Act.put, List.setIfInBounds_toArray, List.set_cons_zero, List.set_cons_succ]
          refine wpAnyH_take (i := 8) (oi := { dst := some 33, op := Op.fieldAddr 81 (Operand.tmp 32) 0, type := 0, pos := "outright.go:197", after := #[{ on := 7, ground := Ground.data }], guard := none }) (v := .pointer (some ⟨b2, j * 33, none⟩)) rfl (by kernel_rfl) (by kernel_rfl) (by kernel_rfl) (fun _ _ _ h => h) (Or.inl ⟨by rfl, by intro w hS; go_simp⟩) hHeld ?_
          try simp only [Act.put, List.setIfInBounds_toArray, List.set_cons_zero, List.set_cons_succ]
          refine wpAnyH_take (i := 4) (oi := { dst := some 29, op := Op.load 24 (Operand.tmp 28), type := 24, pos := "outright.go:197", after := #[{ on := 3, ground := Ground.data }], guard := none }) (v := .agg (ints .u8 ki).toArray) rfl (by kernel_rfl) (by kernel_rfl) (by kernel_rfl) (fun _ _ _ h => h) (yieldsIf_load_mid (by rfl) 24 _ rfl b1 (i * 33) rfl (ints .u8 ki) _ (fun w hS => rng_below ri hS hb1) Try.underlying24 rfl hii) hHeld ?_
          try simp only [Act.put, List.setIfInBounds_toArray, List.set_cons_zero, List.set_cons_succ]
          refine wpAnyH_take (i := 9) (oi := { dst := some 34, op := Op.load 24 (Operand.tmp 33), type := 24, pos := "outright.go:197", after := #[{ on := 8, ground := Ground.data }], guard := none }) (v := .agg (ints .u8 kj).toArray) rfl (by kernel_rfl) (by kernel_rfl) (by kernel_rfl) (fun _ _ _ h => h) (yieldsIf_load_mid (by rfl) 24 _ rfl b2 (j * 33) rfl (ints .u8 kj) _ (fun w hS => rng_below rj hS hb2) Try.underlying24 rfl hij) hHeld ?_
          try simp only [Act.put, List.setIfInBounds_toArray, List.set_cons_zero, List.set_cons_succ]
          refine wpAnyH_take (i := 10) (oi := { dst := some 35, op := Op.binOp BinOp.eql 24 (Operand.tmp 29) (Operand.tmp 34) 24, type := 4, pos := "outright.go:197", after := #[{ on := 4, ground := Ground.data }, { on := 9, ground := Ground.data }], guard := none }) (v := .bool true) rfl (by kernel_rfl) (by kernel_rfl) (by kernel_rfl) (fun _ _ _ h => h) (Or.inl ⟨by rfl, by intro w hS; go_simp⟩) hHeld ?_
          try simp only [Act.put, List.setIfInBounds_toArray, List.set_cons_zero, List.set_cons_succ]
          refine wpAnyH_take (i := 11) (oi := { dst := some 36, op := Op.move (Operand.tmp 35), type := 4, pos := "outright.go:197", after := #[{ on := 10, ground := Ground.data }], guard := none }) (v := .bool true) rfl (by kernel_rfl) (by kernel_rfl) (by kernel_rfl) (fun _ _ _ h => h) (Or.inl ⟨by rfl, by intro w hS; go_simp⟩) hHeld ?_
          try simp only [Act.put, List.setIfInBounds_toArray, List.set_cons_zero, List.set_cons_succ]
          refine wpAnyH_take (i := 12) (oi := { dst := some 37, op := Op.move (Operand.tmp 0), type := 50, pos := "outright.go:197", after := #[{ on := 11, ground := Ground.guard }], guard := some (11, true) }) (v := .slice (some ⟨b1, 0, none⟩) A.length c1) rfl (by kernel_rfl) (by kernel_rfl) (by kernel_rfl) (fun _ _ _ h => h) (Or.inl ⟨by rfl, by intro w hS; go_simp⟩) hHeld ?_
          try simp only [Act.put, List.setIfInBounds_toArray, List.set_cons_zero, List.set_cons_succ]
          refine wpAnyH_take (i := 13) (oi := { dst := some 38, op := Op.move (Operand.tmp 5), type := 3, pos := "outright.go:197", after := #[{ on := 11, ground := Ground.guard }], guard := some (11, true) }) (v := .int .i64 i) rfl (by kernel_rfl) (by kernel_rfl) (by kernel_rfl) (fun _ _ _ h => h) (Or.inl ⟨by rfl, by intro w hS; go_simp⟩) hHeld ?_
          try simp only [Act.put, List.setIfInBounds_toArray, List.set_cons_zero, List.set_cons_succ]
          refine wpAnyH_take (i := 17) (oi := { dst := some 42, op := Op.move (Operand.tmp 1), type := 50, pos := "outright.go:197", after := #[{ on := 11, ground := Ground.guard }], guard := some (11, true) }) (v := .slice (some ⟨b2, 0, none⟩) A.length c2) rfl (by kernel_rfl) (by kernel_rfl) (by kernel_rfl) (fun _ _ _ h => h) (Or.inl ⟨by rfl, by intro w hS; go_simp⟩) hHeld ?_
          try simp only [Act.put, List.setIfInBounds_toArray, List.set_cons_zero, List.set_cons_succ]
          refine wpAnyH_take (i := 18) (oi := { dst := some 43, op := Op.move (Operand.tmp 7), type := 3, pos := "outright.go:197", after := #[{ on := 11, ground := Ground.guard }], guard := some (11, true) }) (v := .int .i64 j) rfl (by kernel_rfl) (by kernel_rfl) (by kernel_rfl) (fun _ _ _ h => h) (Or.inl ⟨by rfl, by intro w hS; go_simp⟩) hHeld ?_
          try simp only [Act.put, List.setIfInBounds_toArray, List.set_cons_zero, List.set_cons_succ]
          refine wpAnyH_take (i := 14) (oi := { dst := some 39, op := Op.indexAddr 50 (Operand.tmp 37) (Operand.tmp 38), type := 0, pos := "outright.go:197", after := #[{ on := 12, ground := Ground.data }, { on := 13, ground := Ground.data }, { on := 11, ground := Ground.guard }], guard := some (11, true) }) (v := .pointer (some ⟨b1, i * 33, none⟩)) rfl (by kernel_rfl) (by kernel_rfl) (by kernel_rfl) (fun _ _ _ h => h) (Or.inl ⟨by rfl, by intro w hS; go_simp⟩) hHeld ?_
          try simp only [Act.put, List.setIfInBounds_toArray, List.set_cons_zero, List.set_cons_succ]
          refine wpAnyH_take (i := 19) (oi := { dst := some 44, op := Op.indexAddr 50 (Operand.tmp 42) (Operand.tmp 43), type := 0, pos := "outright.go:197", after := #[{ on := 17, ground := Ground.data }, { on := 18, ground := Ground.data }, { on := 11, ground := Ground.guard }], guard := some (11, true) }) (v := .pointer (some ⟨b2, j * 33, none⟩)) rfl (by kernel_rfl) (by kernel_rfl) (by kernel_rfl) (fun _ _ _ h => h) (Or.inl ⟨by rfl, by intro w hS; go_simp⟩) hHeld ?_
          try simp only [Act.put, List.setIfInBounds_toArray, List.set_cons_zero, List.set_cons_succ]
          refine wpAnyH_take (i := 15) (oi := { dst := some 40, op := Op.fieldAddr 81 (Operand.tmp 39) 1, type := 0, pos := "outright.go:197", after := #[{ on := 14, ground := Ground.data }, { on := 11, ground := Ground.guard }], guard := some (11, true) }) (v := .pointer (some ⟨b1, i * 33 + 32, none⟩)) rfl (by kernel_rfl) (by kernel_rfl) (by kernel_rfl) (fun _ _ _ h => h) (Or.inl ⟨by rfl, by intro w hS; go_simp⟩) hHeld ?_
          try simp only [Act.put, List.setIfInBounds_toArray, List.set_cons_zero, List.set_cons_succ]
          refine wpAnyH_take (i := 20) (oi := { dst := some 45, op := Op.fieldAddr 81 (Operand.tmp 44) 1, type := 0, pos := "outright.go:197", after := #[{ on := 19, ground := Ground.data }, { on := 11, ground := Ground.guard }], guard := some (11, true) }) (v := .pointer (some ⟨b2, j * 33 + 32, none⟩)) rfl (by kernel_rfl) (by kernel_rfl) (by kernel_rfl) (fun _ _ _ h => h) (Or.inl ⟨by rfl, by intro w hS; go_simp⟩) hHeld ?_
          try simp only [Act.put, List.setIfInBounds_toArray, List.set_cons_zero, List.set_cons_succ]
          refine wpAnyH_take (i := 16) (oi := { dst := some 41, op := Op.load 30 (Operand.tmp 40), type := 30, pos := "outright.go:197", after := #[{ on := 15, ground := Ground.data }, { on := 11, ground := Ground.guard }], guard := some (11, true) }) (v := .slice ti vi di) rfl (by kernel_rfl) (by kernel_rfl) (by kernel_rfl) (fun _ _ _ h => h) (Or.inl ⟨by rfl, by intro w hS; have hc := (hS.cell (p := ⟨b1, i * 33 + 32, none⟩) hb1).trans ci; go_simp⟩) hHeld ?_
          try simp only [Act.put, List.setIfInBounds_toArray, List.set_cons_zero, List.set_cons_succ]
          refine wpAnyH_take (i := 21) (oi := { dst := some 46, op := Op.load 30 (Operand.tmp 45), type := 30, pos := "outright.go:197", after := #[{ on := 20, ground := Ground.data }, { on := 11, ground := Ground.guard }], guard := some (11, true) }) (v := .slice tj vj dj) rfl (by kernel_rfl) (by kernel_rfl) (by kernel_rfl) (fun _ _ _ h => h) (Or.inl ⟨by rfl, by intro w hS; have hc := (hS.cell (p := ⟨b2, j * 33 + 32, none⟩) hb2).trans cj; go_simp⟩) hHeld ?_
          try simp only [Act.put, List.setIfInBounds_toArray, List.set_cons_zero, List.set_cons_succ]
          refine wpAnyH_ready (rs := [22]) (by kernel_rfl) (by simp) ?_
          refine (AllReadyH.cons (o := { dst := some 47, op := Op.call { callee := Callee.value (Operand.func 21), args := #[Operand.tmp 41, Operand.tmp 46], argTypes := #[30, 30] }, type := 4, pos := "outright.go:197", after := #[{ on := 16, ground := Ground.data }, { on := 21, ground := Ground.data }, { on := 11, ground := Ground.chain }, { on := 11, ground := Ground.guard }], guard := some (11, true) }) rfl (fun K hK => ?_) AllReadyH.nil)
          go_simp
          go_at_call 21
          refine (KB.out _ hHeld).mono ?_
          rintro e w4 ⟨rfl, hb4⟩
          go_wp2_with fail
          refine hK.out _ _ (hHeld.trans (hb4.mono hHeld.size)) (fun hHeld2 => ?_)
          clear hK K hHeld
          have hHeld := hHeld2
          clear hHeld2
          clear hb4
          try simp only [Act.put, List.setIfInBounds_toArray, List.set_cons_zero, List.set_cons_succ]
          refine wpAnyH_take (i := 23) (oi := { dst := some 48, op := Op.pick (Operand.tmp 36) (Operand.tmp 47) (Operand.const (Value.bool false)), type := 4, pos := "outright.go:197", after := #[{ on := 11, ground := Ground.data }, { on := 22, ground := Ground.data }], guard := none }) (v := .bool false) rfl (by kernel_rfl) (by kernel_rfl) (by kernel_rfl) (fun _ _ _ h => h) (Or.inl ⟨by rfl, by intro w hS; go_simp⟩) hHeld ?_
          try simp only [Act.put, List.setIfInBounds_toArray, List.set_cons_zero, List.set_cons_succ]
          refine wpAnyH_done (by kernel_rfl) ?_ _
          refine NoPanic.normal ?_
          have hf := hHeld
          clear hHeld
          go_wp2
          go_roundw
          case rel => exact ⟨mt, j + 1, rfl, by omega, by go_num, HS.out, hf⟩
          case measure => simp [intOf]; omega
      · have qe : ∀ w, (Op.equalIn 10000 24 (.agg (ints .u8 (A.getD i dE).key).toArray) (.agg (ints .u8 (B.getD j dE).key).toArray)).run Try.prog w = .ok false w := fun w => by rw [key_eq _ _ li lj, decide_eq_false hk]
        have HS := hid (HSn.out (fun e => hk (by rw [e])))
        clear hk HSn HSt srci srcj li lj
        generalize (A.getD i dE).key = ki at *
        generalize (B.getD j dE).key = kj at *
        go_wp2
        refine wp_region_noPanic ?_
        refine wp_region_held_drew (S := fun w' => Below w.heap.size w w') (by kernel_rfl) hB.drew (fun hHeld => ?_)
        refine wpAnyH_take (i := 0) (oi := { dst := some 25, op := Op.move (Operand.tmp 0), type := 50, pos := "outright.go:197", after := #[], guard := none }) (v := .slice (some ⟨b1, 0, none⟩) A.length c1) rfl (by kernel_rfl) (by kernel_rfl) (by kernel_rfl) (fun _ _ _ h => h) (Or.inl ⟨by rfl, by intro w hS; go_simp⟩) hHeld ?_
        try simp only [Act.put, List.setIfInBounds_toArray, List.set_cons_zero, List.set_cons_succ]
        refine wpAnyH_take (i := 1) (oi := { dst := some 26, op := Op.move (Operand.tmp 5), type := 3, pos := "outright.go:197", after := #[], guard := none }) (v := .int .i64 i) rfl (by kernel_rfl) (by kernel_rfl) (by kernel_rfl) (fun _ _ _ h => h) (Or.inl ⟨by rfl, by intro w hS; go_simp⟩) hHeld ?_
        try simp only [Act.put, List.setIfInBounds_toArray, List.set_cons_zero, List.set_cons_succ]
        refine wpAnyH_take (i := 5) (oi := { dst := some 30, op := Op.move (Operand.tmp 1), type := 50, pos := "outright.go:197", after := #[], guard := none }) (v := .slice (some ⟨b2, 0, none⟩) A.length c2) rfl (by kernel_rfl) (by kernel_rfl) (by kernel_rfl) (fun _ _ _ h => h) (Or.inl ⟨by rfl, by intro w hS; go_simp⟩) hHeld ?_
        try simp only [Act.put, List.setIfInBounds_toArray, List.set_cons_zero, List.set_cons_succ]
        refine wpAnyH_take (i := 6) (oi := { dst := some 31, op := Op.move (Operand.tmp 7), type := 3, pos := "outright.go:197", after := #[], guard := none }) (v := .int .i64 j) rfl (by kernel_rfl) (by kernel_rfl) (by kernel_rfl) (fun _ _ _ h => h) (Or.inl ⟨by rfl, by intro w hS; go_simp⟩) hHeld ?_
        try simp only [Act.put, List.setIfInBounds_toArray, List.set_cons_zero, List.set_cons_succ]
        refine wpAnyH_take (i := 2) (oi := { dst := some 27, op := Op.indexAddr 50 (Operand.tmp 25) (Operand.tmp 26), type := 0, pos := "outright.go:197", after := #[{ on := 0, ground := Ground.data }, { on := 1, ground := Ground.data }], guard := none }) (v := .pointer (some ⟨b1, i * 33, none⟩)) rfl (by kernel_rfl) (by kernel_rfl) (by kernel_rfl) (fun _ _ _ h => h) (Or.inl ⟨by rfl, by intro w hS; go_simp⟩) hHeld ?_
        try simp only [Act.put, List.setIfInBounds_toArray, List.set_cons_zero, List.set_cons_succ]
        refine wpAnyH_take (i := 7) (oi := { dst := some 32, op := Op.indexAddr 50 (Operand.tmp 30) (Operand.tmp 31), type := 0, pos := "outright.go:197", after := #[{ on := 5, ground := Ground.data }, { on := 6, ground := Ground.data }], guard := none }) (v := .pointer (some ⟨b2, j * 33, none⟩)) rfl (by kernel_rfl) (by kernel_rfl) (by kernel_rfl) (fun _ _ _ h => h) (Or.inl ⟨by rfl, by intro w hS; go_simp⟩) hHeld ?_
        try simp only [Act.put, List.setIfInBounds_toArray, List.set_cons_zero, List.set_cons_succ]
        refine wpAnyH_take (i := 3) (oi := { dst := some 28, op := Op.fieldAddr 81 (Operand.tmp 27) 0, type := 0, pos := "outright.go:197", after := #[{ on := 2, ground := Ground.data }], guard := none }) (v := .pointer (some ⟨b1, i * 33, none⟩)) rfl (by kernel_rfl) (by kernel_rfl) (by kernel_rfl) (fun _ _ _ h => h) (Or.inl ⟨by rfl, by intro w hS; go_simp⟩) hHeld ?_
        try simp only [Act.put, List.setIfInBounds_toArray, List.set_cons_zero, List.set_cons_succ]
        refine wpAnyH_take (i := 8) (oi := { dst := some 33, op := Op.fieldAddr 81 (Operand.tmp 32) 0, type := 0, pos := "outright.go:197", after := #[{ on := 7, ground := Ground.data }], guard := none }) (v := .pointer (some ⟨b2, j * 33, none⟩)) rfl (by kernel_rfl) (by kernel_rfl) (by kernel_rfl) (fun _ _ _ h => h) (Or.inl ⟨by rfl, by intro w hS; go_simp⟩) hHeld ?_
        try simp only [Act.put, List.setIfInBounds_toArray, List.set_cons_zero, List.set_cons_succ]
        refine wpAnyH_take (i := 4) (oi := { dst := some 29, op := Op.load 24 (Operand.tmp 28), type := 24, pos := "outright.go:197", after := #[{ on := 3, ground := Ground.data }], guard := none }) (v := .agg (ints .u8 ki).toArray) rfl (by kernel_rfl) (by kernel_rfl) (by kernel_rfl) (fun _ _ _ h => h) (yieldsIf_load_mid (by rfl) 24 _ rfl b1 (i * 33) rfl (ints .u8 ki) _ (fun w hS => rng_below ri hS hb1) Try.underlying24 rfl hii) hHeld ?_
        try simp only [Act.put, List.setIfInBounds_toArray, List.set_cons_zero, List.set_cons_succ]
        refine wpAnyH_take (i := 9) (oi := { dst := some 34, op := Op.load 24 (Operand.tmp 33), type := 24, pos := "outright.go:197", after := #[{ on := 8, ground := Ground.data }], guard := none }) (v := .agg (ints .u8 kj).toArray) rfl (by kernel_rfl) (by kernel_rfl) (by kernel_rfl) (fun _ _ _ h => h) (yieldsIf_load_mid (by rfl) 24 _ rfl b2 (j * 33) rfl (ints .u8 kj) _ (fun w hS => rng_below rj hS hb2) Try.underlying24 rfl hij) hHeld ?_
        try simp only [Act.put, List.setIfInBounds_toArray, List.set_cons_zero, List.set_cons_succ]
        refine wpAnyH_take (i := 10) (oi := { dst := some 35, op := Op.binOp BinOp.eql 24 (Operand.tmp 29) (Operand.tmp 34) 24, type := 4, pos := "outright.go:197", after := #[{ on := 4, ground := Ground.data }, { on := 9, ground := Ground.data }], guard := none }) (v := .bool false) rfl (by kernel_rfl) (by kernel_rfl) (by kernel_rfl) (fun _ _ _ h => h) (Or.inl ⟨by rfl, by intro w hS; go_simp⟩) hHeld ?_
        try simp only [Act.put, List.setIfInBounds_toArray, List.set_cons_zero, List.set_cons_succ]
        refine wpAnyH_take (i := 11) (oi := { dst := some 36, op := Op.move (Operand.tmp 35), type := 4, pos := "outright.go:197", after := #[{ on := 10, ground := Ground.data }], guard := none }) (v := .bool false) rfl (by kernel_rfl) (by kernel_rfl) (by kernel_rfl) (fun _ _ _ h => h) (Or.inl ⟨by rfl, by intro w hS; go_simp⟩) hHeld ?_
        try simp only [Act.put, List.setIfInBounds_toArray, List.set_cons_zero, List.set_cons_succ]
        refine wpAnyH_take (i := 12) (oi := { dst := some 37, op := Op.move (Operand.tmp 0), type := 50, pos := "outright.go:197", after := #[{ on := 11, ground := Ground.guard }], guard := some (11, true) }) (v := undef) rfl (by kernel_rfl) (by kernel_rfl) (by kernel_rfl) (fun _ _ _ h => h) (Or.inr ⟨by rfl, rfl⟩) hHeld ?_
        try simp only [Act.put, List.setIfInBounds_toArray, List.set_cons_zero, List.set_cons_succ]
        refine wpAnyH_take (i := 13) (oi := { dst := some 38, op := Op.move (Operand.tmp 5), type := 3, pos := "outright.go:197", after := #[{ on := 11, ground := Ground.guard }], guard := some (11, true) }) (v := undef) rfl (by kernel_rfl) (by kernel_rfl) (by kernel_rfl) (fun _ _ _ h => h) (Or.inr ⟨by rfl, rfl⟩) hHeld ?_
        try simp only [Act.put, List.setIfInBounds_toArray, List.set_cons_zero, List.set_cons_succ]
        refine wpAnyH_take (i := 17) (oi := { dst := some 42, op := Op.move (Operand.tmp 1), type := 50, pos := "outright.go:197", after := #[{ on := 11, ground := Ground.guard }], guard := some (11, true) }) (v := undef) rfl (by kernel_rfl) (by kernel_rfl) (by kernel_rfl) (fun _ _ _ h => h) (Or.inr ⟨by rfl, rfl⟩) hHeld ?_
        try simp only [Act.put, List.setIfInBounds_toArray, List.set_cons_zero, List.set_cons_succ]
        refine wpAnyH_take (i := 18) (oi := { dst := some 43, op := Op.move (Operand.tmp 7), type := 3, pos := "outright.go:197", after := #[{ on := 11, ground := Ground.guard }], guard := some (11, true) }) (v := undef) rfl (by kernel_rfl) (by kernel_rfl) (by kernel_rfl) (fun _ _ _ h => h) (Or.inr ⟨by rfl, rfl⟩) hHeld ?_
        try simp only [Act.put, List.setIfInBounds_toArray, List.set_cons_zero, List.set_cons_succ]
        refine wpAnyH_take (i := 14) (oi := { dst := some 39, op := Op.indexAddr 50 (Operand.tmp 37) (Operand.tmp 38), type := 0, pos := "outright.go:197", after := #[{ on := 12, ground := Ground.data }, { on := 13, ground := Ground.data }, { on := 11, ground := Ground.guard }], guard := some (11, true) }) (v := undef) rfl (by kernel_rfl) (by kernel_rfl) (by kernel_rfl) (fun _ _ _ h => h) (Or.inr ⟨by rfl, rfl⟩) hHeld ?_
        try simp only [Act.put, List.setIfInBounds_toArray, List.set_cons_zero, List.set_cons_succ]
        refine wpAnyH_take (i := 19) (oi := { dst := some 44, op := Op.indexAddr 50 (Operand.tmp 42) (Operand.tmp 43), type := 0, pos := "outright.go:197", after := #[{ on := 17, ground := Ground.data }, { on := 18, ground := Ground.data }, { on := 11, ground := Ground.guard }], guard := some (11, true) }) (v := undef) rfl (by kernel_rfl) (by kernel_rfl) (by kernel_rfl) (fun _ _ _ h => h) (Or.inr ⟨by rfl, rfl⟩) hHeld ?_
        try simp only [Act.put, List.setIfInBounds_toArray, List.set_cons_zero, List.set_cons_succ]
        refine wpAnyH_take (i := 15) (oi := { dst := some 40, op := Op.fieldAddr 81 (Operand.tmp 39) 1, type := 0, pos := "outright.go:197", after := #[{ on := 14, ground := Ground.data }, { on := 11, ground := Ground.guard }], guard := some (11, true) }) (v := undef) rfl (by kernel_rfl) (by kernel_rfl) (by kernel_rfl) (fun _ _ _ h => h) (Or.inr ⟨by rfl, rfl⟩) hHeld ?_
        try simp only [Act.put, List.setIfInBounds_toArray, List.set_cons_zero, List.set_cons_succ]
        refine wpAnyH_take (i := 20) (oi := { dst := some 45, op := Op.fieldAddr 81 (Operand.tmp 44) 1, type := 0, pos := "outright.go:197", after := #[{ on := 19, ground := Ground.data }, { on := 11, ground := Ground.guard }], guard := some (11, true) }) (v := undef) rfl (by kernel_rfl) (by kernel_rfl) (by kernel_rfl) (fun _ _ _ h => h) (Or.inr ⟨by rfl, rfl⟩) hHeld ?_
        try simp only [Act.put, List.setIfInBounds_toArray, List.set_cons_zero, List.set_cons_succ]
        refine wpAnyH_take (i := 16) (oi := { dst := some 41, op := Op.load 30 (Operand.tmp 40), type := 30, pos := "outright.go:197", after := #[{ on := 15, ground := Ground.data }, { on := 11, ground := Ground.guard }], guard := some (11, true) }) (v := undef) rfl (by kernel_rfl) (by kernel_rfl) (by kernel_rfl) (fun _ _ _ h => h) (Or.inr ⟨by rfl, rfl⟩) hHeld ?_
        try simp only [Act.put, List.setIfInBounds_toArray, List.set_cons_zero, List.set_cons_succ]
        refine wpAnyH_take (i := 21) (oi := { dst := some 46, op := Op.load 30 (Operand.tmp 45), type := 30, pos := "outright.go:197", after := #[{ on := 20, ground := Ground.data }, { on := 11, ground := Ground.guard }], guard := some (11, true) }) (v := undef) rfl (by kernel_rfl) (by kernel_rfl) (by kernel_rfl) (fun _ _ _ h => h) (Or.inr ⟨by rfl, rfl⟩) hHeld ?_
        try simp only [Act.put, List.setIfInBounds_toArray, List.set_cons_zero, List.set_cons_succ]
        refine wpAnyH_take (i := 22) (oi := { dst := some 47, op := Op.call { callee := Callee.value (Operand.func 21), args := #[Operand.tmp 41, Operand.tmp 46], argTypes := #[30, 30] }, type := 4, pos := "outright.go:197", after := #[{ on := 16, ground := Ground.data }, { on := 21, ground := Ground.data }, { on := 11, ground := Ground.chain }, { on := 11, ground := Ground.guard }], guard := some (11, true) }) (v := undef) rfl (by kernel_rfl) (by kernel_rfl) (by kernel_rfl) (fun _ _ _ h => h) (Or.inr ⟨by rfl, rfl⟩) hHeld ?_
        try simp only [Act.put, List.setIfInBounds_toArray, List.set_cons_zero, List.set_cons_succ]
        refine wpAnyH_take (i := 23) (oi := { dst := some 48, op := Op.pick (Operand.tmp 36) (Operand.tmp 47) (Operand.const (Value.bool false)), type := 4, pos := "outright.go:197", after := #[{ on := 11, ground := Ground.data }, { on := 22, ground := Ground.data }], guard := none }) (v := .bool false) rfl (by kernel_rfl) (by kernel_rfl) (by kernel_rfl) (fun _ _ _ h => h) (Or.inl ⟨by rfl, by intro w hS; go_simp⟩) hHeld ?_
        try simp only [Act.put, List.setIfInBounds_toArray, List.set_cons_zero, List.set_cons_succ]
        refine wpAnyH_done (by kernel_rfl) ?_ _
        refine NoPanic.normal ?_
        have hf := hHeld
        clear hHeld
        go_wp2
        go_roundw
        case rel => exact ⟨mt, j + 1, rfl, by omega, by go_num, HS.out, hf⟩
        case measure => simp [intOf]; omega
    · obtain rfl : j = A.length := by omega
      have j1 : ¬ (A.length : Int) < (A.length : Int) := by omega
      obtain rfl : mt = true := hmt (by
        obtain ⟨j', hj', e⟩ := List.mem_iff_getElem.1 HIN.out
        exact ⟨j', by have := HL.out; omega, by rw [List.getD_eq_getElem?_getD, List.getElem?_eq_getElem hj']; exact e⟩)
      clear hlj hmt ci
      go_wp2
      go_roundw
      case rel => exact ⟨i + 1, by omega, by go_num, hB⟩
      case measure => simp [intOf]; omega
  · obtain rfl : i = A.length := by omega
    have i1 : ¬ (A.length : Int) < (A.length : Int) := by omega
    clear hlt
    go_wp2
    go_ret
    exact ⟨rfl, hB0⟩
set_option maxRecDepth 100000 in
set_option maxHeartbeats 1000000 in
theorem rising_any (w : World) (cs : List Chg) (sp : Option Addr) (cap b o : Nat) (ms : List MC) (hC : Chs w sp cap cs b o ms) (hlt0 : cs.Pairwise LtC) (hok : ∀ c ∈ cs, OkC c) (hlen : cs.length ≤ 1000000) :
    Calls Try.prog 27 #[.slice sp cs.length cap] w fun e w' => e = .returned (.bool true) ∧ Below w.heap.size w w' := by
  have i0 : (cs.length : Int) ≤ 1000000 := by omega
  go_enter Try.func27, Try.ntmps27
  go_wp2
  go_loopw [3] (fun v wr => ∃ k : Nat, k ≤ cs.length ∧ v = .int .i64 ((k : Int) + 1) ∧ Below w.heap.size w wr) (fun v _ => cs.length + 1 - (intOf v).toNat)
  case atStart => exact ⟨0, by omega, rfl, Below.refl _ _⟩
  case round =>
  obtain ⟨k, hk, rfl, hB⟩ := hrel
  by_cases hlt : k + 1 < cs.length
  · have i1 : (k : Int) + 1 < (cs.length : Int) := by omega
    have i2 : (k : Int) < (cs.length : Int) := by omega
    obtain ⟨hb, rfl⟩ := hC.pos (by omega)
    obtain ⟨_, _, rj, _, _, _, _, lj, _⟩ := hC.at k (by omega)
    obtain ⟨_, _, ri, _, _, _, _, li, _⟩ := hC.at (k + 1) hlt
    have hij : (Try.prog.info? 24).map (·.size) = some (ints .u8 (cs.getD k dC).key).length := by rw [keySize, ints_len, lj]
    have hii : (Try.prog.info? 24).map (·.size) = some (ints .u8 (cs.getD (k + 1) dC).key).length := by rw [keySize, ints_len, li]
    have HWK := hid (show IntKind.i64.wrap (k : Int) = (k : Int) from wrap_i64_id _ (by omega) (by omega))
    have hcm : cmpK (cs.getD k dC).key (cs.getD (k + 1) dC).key = -1 := by
      have := List.pairwise_iff_getElem.1 hlt0 k (k + 1) (by omega) hlt (by omega)
      rw [List.getD_eq_getElem?_getD, List.getD_eq_getElem?_getD, List.getElem?_eq_getElem hlt, List.getElem?_eq_getElem (show k < cs.length by omega)]
      exact this
    have KC0 := fun w => Compare_any w (cs.getD k dC).key (cs.getD (k + 1) dC).key (hok _ (gD_mem cs dC k (by omega))).2.1 (hok _ (gD_mem cs dC (k + 1) hlt)).2.1 lj li
    rw [hcm] at KC0
    have KC := hid KC0
    clear KC0 hcm
    generalize (cs.getD k dC).key = kj at *
    generalize (cs.getD (k + 1) dC).key = ki at *
    go_wp2
    refine wp_region_noPanic ?_
    refine wp_region_held_drew (S := fun w' => Below w.heap.size w w') (by kernel_rfl) hB.drew (fun hHeld => ?_)
    refine wpAnyH_take (i := 0) (oi := { dst := some 10, op := Op.move (Operand.tmp 0), type := 29, pos := "outright.go:248", after := #[], guard := none }) (v := .slice (some ⟨b, o, none⟩) cs.length cap) rfl (by kernel_rfl) (by kernel_rfl) (by kernel_rfl) (fun _ _ _ h => h) (Or.inl ⟨by rfl, by intro w hS; go_simp⟩) hHeld ?_
    try simp only [Act.put, List.setIfInBounds_toArray, List.set_cons_zero, List.set_cons_succ]
    refine wpAnyH_take (i := 1) (oi := { dst := some 11, op := Op.move (Operand.tmp 3), type := 3, pos := "outright.go:248", after := #[], guard := none }) (v := .int .i64 (k + 1)) rfl (by kernel_rfl) (by kernel_rfl) (by kernel_rfl) (fun _ _ _ h => h) (Or.inl ⟨by rfl, by intro w hS; go_simp⟩) hHeld ?_
    try simp only [Act.put, List.setIfInBounds_toArray, List.set_cons_zero, List.set_cons_succ]
    refine wpAnyH_take (i := 6) (oi := { dst := some 16, op := Op.move (Operand.tmp 0), type := 29, pos := "outright.go:248", after := #[], guard := none }) (v := .slice (some ⟨b, o, none⟩) cs.length cap) rfl (by kernel_rfl) (by kernel_rfl) (by kernel_rfl) (fun _ _ _ h => h) (Or.inl ⟨by rfl, by intro w hS; go_simp⟩) hHeld ?_
    try simp only [Act.put, List.setIfInBounds_toArray, List.set_cons_zero, List.set_cons_succ]
    refine wpAnyH_take (i := 7) (oi := { dst := some 17, op := Op.move (Operand.tmp 3), type := 3, pos := "outright.go:248", after := #[], guard := none }) (v := .int .i64 (k + 1)) rfl (by kernel_rfl) (by kernel_rfl) (by kernel_rfl) (fun _ _ _ h => h) (Or.inl ⟨by rfl, by intro w hS; go_simp⟩) hHeld ?_
    try simp only [Act.put, List.setIfInBounds_toArray, List.set_cons_zero, List.set_cons_succ]
    refine wpAnyH_take (i := 2) (oi := { dst := some 12, op := Op.binOp BinOp.sub 3 (Operand.tmp 11) (Operand.const (Value.int IntKind.i64 1)) 3, type := 3, pos := "outright.go:248", after := #[{ on := 1, ground := Ground.data }], guard := none }) (v := .int .i64 k) rfl (by kernel_rfl) (by kernel_rfl) (by kernel_rfl) (fun _ _ _ h => h) (Or.inl ⟨by rfl, by intro w hS; go_simp <;> exact HWK.out⟩) hHeld ?_
    try simp only [Act.put, List.setIfInBounds_toArray, List.set_cons_zero, List.set_cons_succ]
    refine wpAnyH_take (i := 8) (oi := { dst := some 18, op := Op.indexAddr 29 (Operand.tmp 16) (Operand.tmp 17), type := 0, pos := "outright.go:248", after := #[{ on := 6, ground := Ground.data }, { on := 7, ground := Ground.data }], guard := none }) (v := .pointer (some ⟨b, o + (k + 1) * 34, none⟩)) rfl (by kernel_rfl) (by kernel_rfl) (by kernel_rfl) (fun _ _ _ h => h) (Or.inl ⟨by rfl, by intro w hS; go_simp <;> (intro h; omega)⟩) hHeld ?_
    try simp only [Act.put, List.setIfInBounds_toArray, List.set_cons_zero, List.set_cons_succ]
    refine wpAnyH_take (i := 3) (oi := { dst := some 13, op := Op.indexAddr 29 (Operand.tmp 10) (Operand.tmp 12), type := 0, pos := "outright.go:248", after := #[{ on := 0, ground := Ground.data }, { on := 2, ground := Ground.data }], guard := none }) (v := .pointer (some ⟨b, o + k * 34, none⟩)) rfl (by kernel_rfl) (by kernel_rfl) (by kernel_rfl) (fun _ _ _ h => h) (Or.inl ⟨by rfl, by intro w hS; go_simp⟩) hHeld ?_
    try simp only [Act.put, List.setIfInBounds_toArray, List.set_cons_zero, List.set_cons_succ]
    refine wpAnyH_take (i := 9) (oi := { dst := some 19, op := Op.fieldAddr 40 (Operand.tmp 18) 0, type := 0, pos := "outright.go:248", after := #[{ on := 8, ground := Ground.data }], guard := none }) (v := .pointer (some ⟨b, o + (k + 1) * 34, none⟩)) rfl (by kernel_rfl) (by kernel_rfl) (by kernel_rfl) (fun _ _ _ h => h) (Or.inl ⟨by rfl, by intro w hS; go_simp⟩) hHeld ?_
    try simp only [Act.put, List.setIfInBounds_toArray, List.set_cons_zero, List.set_cons_succ]
    refine wpAnyH_take (i := 4) (oi := { dst := some 14, op := Op.fieldAddr 40 (Operand.tmp 13) 0, type := 0, pos := "outright.go:248", after := #[{ on := 3, ground := Ground.data }], guard := none }) (v := .pointer (some ⟨b, o + k * 34, none⟩)) rfl (by kernel_rfl) (by kernel_rfl) (by kernel_rfl) (fun _ _ _ h => h) (Or.inl ⟨by rfl, by intro w hS; go_simp⟩) hHeld ?_
    try simp only [Act.put, List.setIfInBounds_toArray, List.set_cons_zero, List.set_cons_succ]
    refine wpAnyH_take (i := 10) (oi := { dst := some 20, op := Op.load 24 (Operand.tmp 19), type := 24, pos := "outright.go:248", after := #[{ on := 9, ground := Ground.data }], guard := none }) (v := .agg (ints .u8 ki).toArray) rfl (by kernel_rfl) (by kernel_rfl) (by kernel_rfl) (fun _ _ _ h => h) (yieldsIf_load_mid (by rfl) 24 _ rfl b (o + (k + 1) * 34) rfl (ints .u8 ki) _ (fun w hS => rng_below ri hS hb) Try.underlying24 rfl hii) hHeld ?_
    try simp only [Act.put, List.setIfInBounds_toArray, List.set_cons_zero, List.set_cons_succ]
    refine wpAnyH_take (i := 5) (oi := { dst := some 15, op := Op.load 24 (Operand.tmp 14), type := 24, pos := "outright.go:248", after := #[{ on := 4, ground := Ground.data }], guard := none }) (v := .agg (ints .u8 kj).toArray) rfl (by kernel_rfl) (by kernel_rfl) (by kernel_rfl) (fun _ _ _ h => h) (yieldsIf_load_mid (by rfl) 24 _ rfl b (o + k * 34) rfl (ints .u8 kj) _ (fun w hS => rng_below rj hS hb) Try.underlying24 rfl hij) hHeld ?_
    try simp only [Act.put, List.setIfInBounds_toArray, List.set_cons_zero, List.set_cons_succ]
    refine wpAnyH_ready (rs := [11]) (by kernel_rfl) (by simp) ?_
    refine (AllReadyH.cons (o := { dst := some 21, op := Op.call { callee := Callee.value (Operand.func 12), args := #[Operand.tmp 15, Operand.tmp 20], argTypes := #[24, 24] }, type := 3, pos := "outright.go:248", after := #[{ on := 5, ground := Ground.data }, { on := 10, ground := Ground.data }], guard := none }) rfl (fun K hK => ?_) AllReadyH.nil)
    go_simp
    go_at_call 12
    refine (KC.out _).mono ?_
    rintro e w4 ⟨rfl, hb4⟩
    go_wp2_with fail
    refine hK.out _ _ (hHeld.trans (hb4.mono hHeld.size)) (fun hHeld2 => ?_)
    clear hK K hHeld
    have hHeld := hHeld2
    clear hHeld2
    clear hb4
    try simp only [Act.put, List.setIfInBounds_toArray, List.set_cons_zero, List.set_cons_succ]
    refine wpAnyH_take (i := 12) (oi := { dst := some 22, op := Op.binOp BinOp.neq 3 (Operand.tmp 21) (Operand.const (Value.int IntKind.i64 (-1))) 3, type := 4, pos := "outright.go:248", after := #[{ on := 11, ground := Ground.data }], guard := none }) (v := .bool false) rfl (by kernel_rfl) (by kernel_rfl) (by kernel_rfl) (fun _ _ _ h => h) (Or.inl ⟨by rfl, by intro w hS; go_simp⟩) hHeld ?_
    try simp only [Act.put, List.setIfInBounds_toArray, List.set_cons_zero, List.set_cons_succ]
    refine wpAnyH_done (by kernel_rfl) ?_ _
    refine NoPanic.normal ?_
    have hf := hHeld
    clear hHeld
    go_wp2
    go_roundw
    case rel => exact ⟨k + 1, by omega, by go_num, hf⟩
    case measure => simp [intOf]; omega
  · have i1 : ¬ (k : Int) + 1 < (cs.length : Int) := by omega
    clear hlt
    go_wp2
    go_ret
    exact ⟨rfl, hB⟩
end Go.Proofs.Ytcifbnldohmbnaa
