import Derived.Test.YtcifbnldohmbnaaCf
namespace Go.Proofs.Ytcifbnldohmbnaa
set_option linter.unusedVariables false
set_option linter.unusedSimpArgs false
open Go.RowKit
attribute [local go_sem ↓] Go.wp_at_zero Go.wp_at_succ

/-- A slice of keys: what it reads as. -/
def Kys (w : World) (sp : Option Addr) (ks : List (List Int)) : Prop :=
  ∃ b o, (0 < ks.length → b < w.heap.size ∧ sp = some ⟨b, o, none⟩) ∧ ∀ i, i < ks.length → w.rangeAt b (o + i * 32) (ints .u8 (ks.getD i []))
set_option maxRecDepth 100000 in
set_option maxHeartbeats 1000000 in
theorem path_any (w : World) (ks : List (List Int)) (sp : Option Addr) (cap : Nat) (hK : Kys w sp ks) (hks : ∀ k ∈ ks, k.length = 32 ∧ Byts k) (hlen : ks.length ≤ 140737488355000) :
    Calls Try.prog 3 #[.slice sp ks.length cap] w fun e w' => e = .returned (.bool true) ∧ Below w.heap.size w w' := by
  obtain ⟨b, o, hsp, hr⟩ := hK
  have i0 : (ks.length : Int) ≤ 140737488355000 := by omega
  go_enter Try.func3, Try.ntmps3
  go_wp2
  go_loopw [3] (fun i wr => ∃ n : Nat, n ≤ ks.length ∧ i = .int .i64 n ∧ Below w.heap.size w wr) (fun i _ => ks.length - (intOf i).toNat)
  case atStart => exact ⟨0, by omega, rfl, Below.refl _ _⟩
  case round =>
    obtain ⟨n, hn, rfl, hB⟩ := hrel
    by_cases hlt : n < ks.length
    · have i1 : (n : Int) < (ks.length : Int) := by omega
      obtain ⟨hb, rfl⟩ := hsp (by omega)
      have rg0 := hr n hlt
      have rg := rng_below rg0 hB hb
      obtain ⟨lk, yk⟩ := hks (ks.getD n []) (by rw [List.getD_eq_getElem?_getD, List.getElem?_eq_getElem hlt]; exact List.getElem_mem hlt)
      generalize ks.getD n [] = k at *
      have KR := hid (fun w => rebuilt_any w k lk yk)
      have KM := hid (fun w => Bit_out w k lk (-1) (by omega))
      have KP := hid (fun w => Bit_out w k lk 256 (by omega))
      have gk := keyGuard
      have qk : ∀ w, (Op.equalIn 10000 24 (.agg (ints .u8 k).toArray) (.agg (ints .u8 k).toArray)).run Try.prog w = .ok true w := fun w => by rw [key_eq k k lk lk]; simp
      have keepS : ∀ {u v : World}, (u.rangeAt b (o + n * 32) (ints .u8 k) ∧ Below w.heap.size w u) → Below u.heap.size u v → (v.rangeAt b (o + n * 32) (ints .u8 k) ∧ Below w.heap.size w v) := fun h hb' => ⟨rng_below h.1 hb' (by have := h.2.size; omega), h.2.trans (hb'.mono h.2.size)⟩
      go_wp2
      refine wp_region_noPanic ?_
      refine wp_region_held_drew (S := fun w' => w'.rangeAt b (o + n * 32) (ints .u8 k) ∧ Below w.heap.size w w') (by kernel_rfl) ⟨by simpa using rg, hB.drew⟩ (fun hHeld => ?_)
      refine wpAnyH_take (i := 0) (oi := { dst := some 18, op := Op.move (Operand.tmp 0), type := 22, pos := "outright.go:61", after := #[], guard := none }) (v := .slice (some ⟨b, o, none⟩) ks.length cap) rfl (by kernel_rfl) (by kernel_rfl) (by kernel_rfl) (fun _ _ _ h => h) (Or.inl ⟨by rfl, by intro w hS; go_simp⟩) hHeld ?_
      try simp only [Act.put, List.setIfInBounds_toArray, List.set_cons_zero, List.set_cons_succ]
      refine wpAnyH_take (i := 1) (oi := { dst := some 19, op := Op.move (Operand.tmp 3), type := 3, pos := "outright.go:61", after := #[], guard := none }) (v := .int .i64 n) rfl (by kernel_rfl) (by kernel_rfl) (by kernel_rfl) (fun _ _ _ h => h) (Or.inl ⟨by rfl, by intro w hS; go_simp⟩) hHeld ?_
      try simp only [Act.put, List.setIfInBounds_toArray, List.set_cons_zero, List.set_cons_succ]
      refine wpAnyH_take (i := 2) (oi := { dst := some 20, op := Op.indexAddr 22 (Operand.tmp 18) (Operand.tmp 19), type := 0, pos := "outright.go:61", after := #[{ on := 0, ground := Ground.data }, { on := 1, ground := Ground.data }], guard := none }) (v := .pointer (some ⟨b, o + n * 32, none⟩)) rfl (by kernel_rfl) (by kernel_rfl) (by kernel_rfl) (fun _ _ _ h => h) (Or.inl ⟨by rfl, by intro w hS; go_simp⟩) hHeld ?_
      try simp only [Act.put, List.setIfInBounds_toArray, List.set_cons_zero, List.set_cons_succ]
      refine wpAnyH_take (i := 3) (oi := { dst := some 21, op := Op.load 24 (Operand.tmp 20), type := 24, pos := "outright.go:61", after := #[{ on := 2, ground := Ground.data }], guard := none }) (v := .agg (ints .u8 k).toArray) rfl (by kernel_rfl) (by kernel_rfl) (by kernel_rfl) (fun _ _ _ h => h) (yieldsIf_load_mid (by rfl) 24 _ rfl b (o + n * 32) rfl (ints .u8 k) _ (fun w hS => hS.1) Try.underlying24 rfl (by rw [keySize]; simp [lk, ints])) hHeld ?_
      try simp only [Act.put, List.setIfInBounds_toArray, List.set_cons_zero, List.set_cons_succ]
      refine wpAnyH_take (i := 5) (oi := { dst := some 23, op := Op.move (Operand.tmp 0), type := 22, pos := "outright.go:61", after := #[], guard := none }) (v := .slice (some ⟨b, o, none⟩) ks.length cap) rfl (by kernel_rfl) (by kernel_rfl) (by kernel_rfl) (fun _ _ _ h => h) (Or.inl ⟨by rfl, by intro w hS; go_simp⟩) hHeld ?_
      try simp only [Act.put, List.setIfInBounds_toArray, List.set_cons_zero, List.set_cons_succ]
      refine wpAnyH_take (i := 6) (oi := { dst := some 24, op := Op.move (Operand.tmp 3), type := 3, pos := "outright.go:61", after := #[], guard := none }) (v := .int .i64 n) rfl (by kernel_rfl) (by kernel_rfl) (by kernel_rfl) (fun _ _ _ h => h) (Or.inl ⟨by rfl, by intro w hS; go_simp⟩) hHeld ?_
      try simp only [Act.put, List.setIfInBounds_toArray, List.set_cons_zero, List.set_cons_succ]
      refine wpAnyH_take (i := 7) (oi := { dst := some 25, op := Op.indexAddr 22 (Operand.tmp 23) (Operand.tmp 24), type := 0, pos := "outright.go:61", after := #[{ on := 5, ground := Ground.data }, { on := 6, ground := Ground.data }], guard := none }) (v := .pointer (some ⟨b, o + n * 32, none⟩)) rfl (by kernel_rfl) (by kernel_rfl) (by kernel_rfl) (fun _ _ _ h => h) (Or.inl ⟨by rfl, by intro w hS; go_simp⟩) hHeld ?_
      try simp only [Act.put, List.setIfInBounds_toArray, List.set_cons_zero, List.set_cons_succ]
      refine wpAnyH_take (i := 8) (oi := { dst := some 26, op := Op.load 24 (Operand.tmp 25), type := 24, pos := "outright.go:61", after := #[{ on := 7, ground := Ground.data }], guard := none }) (v := .agg (ints .u8 k).toArray) rfl (by kernel_rfl) (by kernel_rfl) (by kernel_rfl) (fun _ _ _ h => h) (yieldsIf_load_mid (by rfl) 24 _ rfl b (o + n * 32) rfl (ints .u8 k) _ (fun w hS => hS.1) Try.underlying24 rfl (by rw [keySize]; simp [lk, ints])) hHeld ?_
      try simp only [Act.put, List.setIfInBounds_toArray, List.set_cons_zero, List.set_cons_succ]
      refine wpAnyH_ready (rs := [4]) (by kernel_rfl) (by simp) ?_
      refine AllReadyH.cons (o := { dst := some 22, op := Op.call { callee := Callee.value (Operand.func 9), args := #[Operand.tmp 21], argTypes := #[24] }, type := 24, pos := "outright.go:61", after := #[{ on := 3, ground := Ground.data }], guard := none }) rfl (fun K hK => ?_) AllReadyH.nil
      go_simp
      go_at_call 9
      refine (KR.out _).mono ?_
      rintro e w4 ⟨rfl, hb4⟩
      go_wp2_with fail
      refine hK.out _ _ (keepS hHeld hb4) (fun hHeld2 => ?_)
      clear hK K hHeld hb4
      have hHeld := hHeld2
      clear hHeld2
      try simp only [Act.put, List.setIfInBounds_toArray, List.set_cons_zero, List.set_cons_succ]
      refine wpAnyH_take (i := 9) (oi := { dst := some 27, op := Op.binOp BinOp.neq 24 (Operand.tmp 22) (Operand.tmp 26) 24, type := 4, pos := "outright.go:61", after := #[{ on := 4, ground := Ground.data }, { on := 8, ground := Ground.data }], guard := none }) (v := .bool false) rfl (by kernel_rfl) (by kernel_rfl) (by kernel_rfl) (fun _ _ _ h => h) (Or.inl ⟨by rfl, by intro w hS; go_simp⟩) hHeld ?_
      try simp only [Act.put, List.setIfInBounds_toArray, List.set_cons_zero, List.set_cons_succ]
      refine wpAnyH_take (i := 10) (oi := { dst := some 28, op := Op.move (Operand.tmp 27), type := 4, pos := "outright.go:61", after := #[{ on := 9, ground := Ground.data }, { on := 4, ground := Ground.chain }], guard := none }) (v := .bool false) rfl (by kernel_rfl) (by kernel_rfl) (by kernel_rfl) (fun _ _ _ h => h) (Or.inl ⟨by rfl, by intro w hS; go_simp⟩) hHeld ?_
      try simp only [Act.put, List.setIfInBounds_toArray, List.set_cons_zero, List.set_cons_succ]
      refine wpAnyH_take (i := 11) (oi := { dst := some 29, op := Op.move (Operand.tmp 0), type := 22, pos := "outright.go:61", after := #[{ on := 10, ground := Ground.guard }], guard := some (10, false) }) (v := .slice (some ⟨b, o, none⟩) ks.length cap) rfl (by kernel_rfl) (by kernel_rfl) (by kernel_rfl) (fun _ _ _ h => h) (Or.inl ⟨by rfl, by intro w hS; go_simp⟩) hHeld ?_
      try simp only [Act.put, List.setIfInBounds_toArray, List.set_cons_zero, List.set_cons_succ]
      refine wpAnyH_take (i := 12) (oi := { dst := some 30, op := Op.move (Operand.tmp 3), type := 3, pos := "outright.go:61", after := #[{ on := 10, ground := Ground.guard }], guard := some (10, false) }) (v := .int .i64 n) rfl (by kernel_rfl) (by kernel_rfl) (by kernel_rfl) (fun _ _ _ h => h) (Or.inl ⟨by rfl, by intro w hS; go_simp⟩) hHeld ?_
      try simp only [Act.put, List.setIfInBounds_toArray, List.set_cons_zero, List.set_cons_succ]
      refine wpAnyH_take (i := 13) (oi := { dst := some 31, op := Op.indexAddr 22 (Operand.tmp 29) (Operand.tmp 30), type := 0, pos := "outright.go:61", after := #[{ on := 11, ground := Ground.data }, { on := 12, ground := Ground.data }, { on := 10, ground := Ground.guard }], guard := some (10, false) }) (v := .pointer (some ⟨b, o + n * 32, none⟩)) rfl (by kernel_rfl) (by kernel_rfl) (by kernel_rfl) (fun _ _ _ h => h) (Or.inl ⟨by rfl, by intro w hS; go_simp⟩) hHeld ?_
      try simp only [Act.put, List.setIfInBounds_toArray, List.set_cons_zero, List.set_cons_succ]
      refine wpAnyH_take (i := 14) (oi := { dst := some 32, op := Op.load 24 (Operand.tmp 31), type := 24, pos := "outright.go:61", after := #[{ on := 13, ground := Ground.data }, { on := 10, ground := Ground.guard }], guard := some (10, false) }) (v := .agg (ints .u8 k).toArray) rfl (by kernel_rfl) (by kernel_rfl) (by kernel_rfl) (fun _ _ _ h => h) (yieldsIf_load_mid (by rfl) 24 _ rfl b (o + n * 32) rfl (ints .u8 k) _ (fun w hS => hS.1) Try.underlying24 rfl (by rw [keySize]; simp [lk, ints])) hHeld ?_
      try simp only [Act.put, List.setIfInBounds_toArray, List.set_cons_zero, List.set_cons_succ]
      refine wpAnyH_ready (rs := [15]) (by kernel_rfl) (by simp) ?_
      refine AllReadyH.cons (o := { dst := some 33, op := Op.call { callee := Callee.value (Operand.func 10), args := #[Operand.tmp 32, Operand.const (Value.int IntKind.i64 (-1))], argTypes := #[24, 3] }, type := 3, pos := "outright.go:61", after := #[{ on := 14, ground := Ground.data }, { on := 10, ground := Ground.chain }, { on := 10, ground := Ground.guard }], guard := some (10, false) }) rfl (fun K hK => ?_) AllReadyH.nil
      go_simp
      go_at_call 10
      refine (KM.out _).mono ?_
      rintro e w4 ⟨rfl, hb4⟩
      go_wp2_with fail
      refine hK.out _ _ (keepS hHeld hb4) (fun hHeld2 => ?_)
      clear hK K hHeld hb4
      have hHeld := hHeld2
      clear hHeld2
      try simp only [Act.put, List.setIfInBounds_toArray, List.set_cons_zero, List.set_cons_succ]
      refine wpAnyH_take (i := 16) (oi := { dst := some 34, op := Op.binOp BinOp.neq 3 (Operand.tmp 33) (Operand.const (Value.int IntKind.i64 0)) 3, type := 4, pos := "outright.go:61", after := #[{ on := 15, ground := Ground.data }, { on := 10, ground := Ground.guard }], guard := some (10, false) }) (v := .bool false) rfl (by kernel_rfl) (by kernel_rfl) (by kernel_rfl) (fun _ _ _ h => h) (Or.inl ⟨by rfl, by intro w hS; go_simp⟩) hHeld ?_
      try simp only [Act.put, List.setIfInBounds_toArray, List.set_cons_zero, List.set_cons_succ]
      refine wpAnyH_take (i := 17) (oi := { dst := some 35, op := Op.pick (Operand.tmp 28) (Operand.const (Value.bool true)) (Operand.tmp 34), type := 4, pos := "outright.go:61", after := #[{ on := 10, ground := Ground.data }, { on := 16, ground := Ground.data }], guard := none }) (v := .bool false) rfl (by kernel_rfl) (by kernel_rfl) (by kernel_rfl) (fun _ _ _ h => h) (Or.inl ⟨by rfl, by intro w hS; go_simp⟩) hHeld ?_
      try simp only [Act.put, List.setIfInBounds_toArray, List.set_cons_zero, List.set_cons_succ]
      refine wpAnyH_take (i := 18) (oi := { dst := some 36, op := Op.move (Operand.tmp 35), type := 4, pos := "outright.go:61", after := #[{ on := 17, ground := Ground.data }, { on := 15, ground := Ground.chain }], guard := none }) (v := .bool false) rfl (by kernel_rfl) (by kernel_rfl) (by kernel_rfl) (fun _ _ _ h => h) (Or.inl ⟨by rfl, by intro w hS; go_simp⟩) hHeld ?_
      try simp only [Act.put, List.setIfInBounds_toArray, List.set_cons_zero, List.set_cons_succ]
      refine wpAnyH_take (i := 19) (oi := { dst := some 37, op := Op.move (Operand.tmp 0), type := 22, pos := "outright.go:61", after := #[{ on := 18, ground := Ground.guard }], guard := some (18, false) }) (v := .slice (some ⟨b, o, none⟩) ks.length cap) rfl (by kernel_rfl) (by kernel_rfl) (by kernel_rfl) (fun _ _ _ h => h) (Or.inl ⟨by rfl, by intro w hS; go_simp⟩) hHeld ?_
      try simp only [Act.put, List.setIfInBounds_toArray, List.set_cons_zero, List.set_cons_succ]
      refine wpAnyH_take (i := 20) (oi := { dst := some 38, op := Op.move (Operand.tmp 3), type := 3, pos := "outright.go:61", after := #[{ on := 18, ground := Ground.guard }], guard := some (18, false) }) (v := .int .i64 n) rfl (by kernel_rfl) (by kernel_rfl) (by kernel_rfl) (fun _ _ _ h => h) (Or.inl ⟨by rfl, by intro w hS; go_simp⟩) hHeld ?_
      try simp only [Act.put, List.setIfInBounds_toArray, List.set_cons_zero, List.set_cons_succ]
      refine wpAnyH_take (i := 21) (oi := { dst := some 39, op := Op.indexAddr 22 (Operand.tmp 37) (Operand.tmp 38), type := 0, pos := "outright.go:61", after := #[{ on := 19, ground := Ground.data }, { on := 20, ground := Ground.data }, { on := 18, ground := Ground.guard }], guard := some (18, false) }) (v := .pointer (some ⟨b, o + n * 32, none⟩)) rfl (by kernel_rfl) (by kernel_rfl) (by kernel_rfl) (fun _ _ _ h => h) (Or.inl ⟨by rfl, by intro w hS; go_simp⟩) hHeld ?_
      try simp only [Act.put, List.setIfInBounds_toArray, List.set_cons_zero, List.set_cons_succ]
      refine wpAnyH_take (i := 22) (oi := { dst := some 40, op := Op.load 24 (Operand.tmp 39), type := 24, pos := "outright.go:61", after := #[{ on := 21, ground := Ground.data }, { on := 18, ground := Ground.guard }], guard := some (18, false) }) (v := .agg (ints .u8 k).toArray) rfl (by kernel_rfl) (by kernel_rfl) (by kernel_rfl) (fun _ _ _ h => h) (yieldsIf_load_mid (by rfl) 24 _ rfl b (o + n * 32) rfl (ints .u8 k) _ (fun w hS => hS.1) Try.underlying24 rfl (by rw [keySize]; simp [lk, ints])) hHeld ?_
      try simp only [Act.put, List.setIfInBounds_toArray, List.set_cons_zero, List.set_cons_succ]
      refine wpAnyH_ready (rs := [23]) (by kernel_rfl) (by simp) ?_
      refine AllReadyH.cons (o := { dst := some 41, op := Op.call { callee := Callee.value (Operand.func 10), args := #[Operand.tmp 40, Operand.const (Value.int IntKind.i64 256)], argTypes := #[24, 3] }, type := 3, pos := "outright.go:61", after := #[{ on := 22, ground := Ground.data }, { on := 18, ground := Ground.chain }, { on := 18, ground := Ground.guard }], guard := some (18, false) }) rfl (fun K hK => ?_) AllReadyH.nil
      go_simp
      go_at_call 10
      refine (KP.out _).mono ?_
      rintro e w4 ⟨rfl, hb4⟩
      go_wp2_with fail
      refine hK.out _ _ (keepS hHeld hb4) (fun hHeld2 => ?_)
      clear hK K hHeld hb4
      have hHeld := hHeld2
      clear hHeld2
      try simp only [Act.put, List.setIfInBounds_toArray, List.set_cons_zero, List.set_cons_succ]
      refine wpAnyH_take (i := 24) (oi := { dst := some 42, op := Op.binOp BinOp.neq 3 (Operand.tmp 41) (Operand.const (Value.int IntKind.i64 0)) 3, type := 4, pos := "outright.go:61", after := #[{ on := 23, ground := Ground.data }, { on := 18, ground := Ground.guard }], guard := some (18, false) }) (v := .bool false) rfl (by kernel_rfl) (by kernel_rfl) (by kernel_rfl) (fun _ _ _ h => h) (Or.inl ⟨by rfl, by intro w hS; go_simp⟩) hHeld ?_
      try simp only [Act.put, List.setIfInBounds_toArray, List.set_cons_zero, List.set_cons_succ]
      refine wpAnyH_take (i := 25) (oi := { dst := some 43, op := Op.pick (Operand.tmp 36) (Operand.const (Value.bool true)) (Operand.tmp 42), type := 4, pos := "outright.go:61", after := #[{ on := 18, ground := Ground.data }, { on := 24, ground := Ground.data }], guard := none }) (v := .bool false) rfl (by kernel_rfl) (by kernel_rfl) (by kernel_rfl) (fun _ _ _ h => h) (Or.inl ⟨by rfl, by intro w hS; go_simp⟩) hHeld ?_
      try simp only [Act.put, List.setIfInBounds_toArray, List.set_cons_zero, List.set_cons_succ]
      refine wpAnyH_done (by kernel_rfl) ?_ _
      refine NoPanic.normal ?_
      go_wp2
      have hB0 := hHeld.2
      clear hHeld keepS rg qk KR KM KP
      rename_i wq
      go_loopw [4] (fun jv wr => ∃ m : Nat, m ≤ ks.length ∧ jv = .int .i64 m ∧ Below w.heap.size w wr) (fun jv _ => ks.length - (intOf jv).toNat)
      case atStart => exact ⟨0, by omega, rfl, hB0⟩
      case round =>
        clear hB hB0
        obtain ⟨m, hm, rfl, hB⟩ := hrel
        by_cases hml : m < ks.length ∧ m < 8
        · obtain ⟨hm1, hm2⟩ := hml
          have j1 : (m : Int) < (ks.length : Int) := by omega
          have j2 : (m : Int) < 8 := by omega
          have rk := rng_below rg0 hB hb
          have ry := rng_below (hr m hm1) hB hb
          obtain ⟨ly, yy⟩ := hks (ks.getD m []) (by rw [List.getD_eq_getElem?_getD, List.getElem?_eq_getElem hm1]; exact List.getElem_mem hm1)
          generalize ks.getD m [] = y at *
          have hik : (Try.prog.info? 24).map (·.size) = some (ints .u8 k).length := by rw [keySize]; simp [lk, ints]
          have hiy : (Try.prog.info? 24).map (·.size) = some (ints .u8 y).length := by rw [keySize]; simp [ly, ints]
          have sk : (ints .u8 k).toArray.size = 32 := by simp [lk, ints]
          have sy : (ints .u8 y).toArray.size = 32 := by simp [ly, ints]
          have SK := hid sk
          have SY := hid sy
          clear sk sy
          have ok : ∀ v ∈ ints .u8 k, v.oneCell' = true := ints_one _ _
          have oy : ∀ v ∈ ints .u8 y, v.oneCell' = true := ints_one _ _
          have KC := hid (fun w => Common_any w k y yk yy lk ly)
          have ry1 := World.rangeAt_alloc ry (.cells (ints .u8 k).toArray 24)
          go_wp2_with (first
            | refine wpList_load_row rfl 24 _ rfl _ rfl 24 _ _ _ (by exact hold2 wr _ _) Try.underlying24 rfl (by rw [keySize, SK.out]) ?_
            | refine wpList_load_row rfl 24 _ rfl _ rfl 24 _ _ _ (by exact hnew2 wr _ _) Try.underlying24 rfl (by rw [keySize, SY.out]) ?_
            | refine wpList_load_mid rfl 24 _ rfl b (o + n * 32) rfl (ints .u8 k) _ rk Try.underlying24 rfl hik ?_
            | refine wpList_load_mid rfl 24 _ rfl b (o + m * 32) rfl (ints .u8 y) _ ry1 Try.underlying24 rfl hiy ?_
            | (refine wpList_store_row rfl 24 _ _ rfl _ _ rfl rfl 24 _ (by exact hnew _ _) (by rw [keySize, SK.out]) (by rw [SK.out]; rfl) (all_oneCell_toArray ok) ?_; rw [setRow_alloc])
            | (refine wpList_store_row rfl 24 _ _ rfl _ _ rfl rfl 24 _ (by exact hnew2 _ _ _) (by rw [keySize, SY.out]) (by rw [SY.out]; rfl) (all_oneCell_toArray oy) ?_; rw [setRow_alloc2]))
          refine (KC.out _).mono ?_
          rintro e w1 ⟨c, rfl, hcom, hB1⟩
          have e1 := hbel hB1 (hold2 wr _ _) (by simp; omega)
          have e2 := hbel hB1 (hnew2 wr _ _) (by simp)
          have hBw : Below w.heap.size w w1 := ((hB.alloc hB.size _).alloc (by simp; have := hB.size; omega) _).trans (hB1.mono (by simp; have := hB.size; omega))
          have hN := hB.size
          clear KC hB1 hB rk ry ry1
          generalize wr.heap.size = N at *
          have KP := hid (fun w => Compare_any w k y yk yy lk ly)
          have hcl : (c : Int) ≤ 256 := by have := hcom.le; omega
          have hc0 : (0 : Int) ≤ c := by omega
          have qe := key_eq k y lk ly
          have KD : Hid ((decide (k = y) = true ∧ c = 256) ∨ (decide (k = y) = false ∧ c < 256)) := by
            by_cases h : c = 256
            · exact hid (Or.inl ⟨by rw [hcom.all h]; simp, h⟩)
            · have hl := hcom.le
              refine hid (Or.inr ⟨?_, by omega⟩)
              rw [decide_eq_false_iff_not]; rintro rfl
              exact hcom.split (by omega) rfl
          have fin2 : ∀ w', Below w1.heap.size w1 w' → Below w.heap.size w w' := fun w' h => hBw.trans (h.mono hBw.size)
          have FIN := hid fin2
          clear fin2
          have hc : ((c : Int) = 256) = (k = y) := propext ⟨fun h => hcom.all (by omega), fun h => by subst h; rcases Nat.lt_or_ge c 256 with h1 | h1; exact absurd rfl (hcom.split h1); have := hcom.le; omega⟩
          have hbeq : ((c : Int) == 256) = decide (k = y) := by rw [Bool.eq_iff_iff]; simp only [beq_iff_eq, decide_eq_true_eq]; rw [hc]
          have hcn : decide ((256 : Int) < (c : Int)) = false := by rw [decide_eq_false_iff_not]; omega
          have hn0 : decide ((c : Int) < 0) = false := by rw [decide_eq_false_iff_not]; omega
          clear KD hcl hc0
          go_wp2_with (first
            | (refine wpList_load_row_w ?_ 24 (.tmp 5) rfl N rfl 24 (ints .u8 k).toArray (0, 0) _ e1 Try.underlying24 rfl (by rw [keySize, SK.out]) ?_; · first | rfl | simp [Region.wanted, yielded, hcn, hn0])
            | (refine wpList_load_row_w ?_ 24 (.tmp 6) rfl (N + 1) rfl 24 (ints .u8 y).toArray (0, 0) _ e2 Try.underlying24 rfl (by rw [keySize, SY.out]) ?_; · first | rfl | simp [Region.wanted, yielded, hcn, hn0]))
          have hqc := hcom.le
          go_loopw [8] (fun hv wr => ∃ q : Nat, q ≤ c ∧ hv = .int .i64 q ∧ wr.heap[N]? = some (.cells (ints .u8 k).toArray 24) ∧ wr.heap[N + 1]? = some (.cells (ints .u8 y).toArray 24) ∧ Below w.heap.size w wr) (fun hv _ => c - (intOf hv).toNat)
          case atStart => exact ⟨0, by omega, rfl, e1, e2, hBw⟩
          case round =>
            clear e1 e2 hBw FIN
            obtain ⟨q, hq, rfl, f1, f2, f3⟩ := hrel
            by_cases hqc2 : q < c
            · have j3 : (q : Int) < (c : Int) := by omega
              have KA := hid (fun w => Bit_in w k lk yk q (by omega))
              have KB := hid (fun w => Bit_in w y ly yy q (by omega))
              rw [← hcom.same q hqc2] at KB
              generalize bitK k q = bt at *
              have keepS : ∀ {u v : World}, (u.heap[N]? = some (.cells (ints .u8 k).toArray 24) ∧ u.heap[N + 1]? = some (.cells (ints .u8 y).toArray 24) ∧ Below w.heap.size w u) → Below u.heap.size u v → (v.heap[N]? = some (.cells (ints .u8 k).toArray 24) ∧ v.heap[N + 1]? = some (.cells (ints .u8 y).toArray 24) ∧ Below w.heap.size w v) := fun h hb' => ⟨hbel hb' h.1 (hlt_ h.1), hbel hb' h.2.1 (hlt_ h.2.1), h.2.2.trans (hb'.mono h.2.2.size)⟩
              go_wp2
              refine wp_region_noPanic ?_
              refine wp_region_held_drew (S := fun w' => w'.heap[N]? = some (.cells (ints .u8 k).toArray 24) ∧ w'.heap[N + 1]? = some (.cells (ints .u8 y).toArray 24) ∧ Below w.heap.size w w') (by kernel_rfl) ⟨f1, f2, f3.drew⟩ (fun hHeld => ?_)
              refine wpAnyH_take (i := 0) (oi := { dst := some 84, op := Op.load 24 (Operand.tmp 5), type := 24, pos := "outright.go:72", after := #[], guard := none }) (v := .agg (ints .u8 k).toArray) rfl (by kernel_rfl) (by kernel_rfl) (by kernel_rfl) (fun _ _ _ h => h) (yieldsIf_load_mid (by rfl) 24 _ rfl N (0) rfl (ints .u8 k) _ (fun w hS => rng hS.1) Try.underlying24 rfl hik) hHeld ?_
              try simp only [Act.put, List.setIfInBounds_toArray, List.set_cons_zero, List.set_cons_succ]
              refine wpAnyH_take (i := 1) (oi := { dst := some 85, op := Op.move (Operand.tmp 8), type := 3, pos := "outright.go:72", after := #[], guard := none }) (v := .int .i64 q) rfl (by kernel_rfl) (by kernel_rfl) (by kernel_rfl) (fun _ _ _ h => h) (Or.inl ⟨by rfl, by intro w hS; go_simp⟩) hHeld ?_
              try simp only [Act.put, List.setIfInBounds_toArray, List.set_cons_zero, List.set_cons_succ]
              refine wpAnyH_take (i := 3) (oi := { dst := some 87, op := Op.load 24 (Operand.tmp 6), type := 24, pos := "outright.go:72", after := #[], guard := none }) (v := .agg (ints .u8 y).toArray) rfl (by kernel_rfl) (by kernel_rfl) (by kernel_rfl) (fun _ _ _ h => h) (yieldsIf_load_mid (by rfl) 24 _ rfl (N + 1) (0) rfl (ints .u8 y) _ (fun w hS => rng hS.2.1) Try.underlying24 rfl hiy) hHeld ?_
              try simp only [Act.put, List.setIfInBounds_toArray, List.set_cons_zero, List.set_cons_succ]
              refine wpAnyH_take (i := 4) (oi := { dst := some 88, op := Op.move (Operand.tmp 8), type := 3, pos := "outright.go:72", after := #[], guard := none }) (v := .int .i64 q) rfl (by kernel_rfl) (by kernel_rfl) (by kernel_rfl) (fun _ _ _ h => h) (Or.inl ⟨by rfl, by intro w hS; go_simp⟩) hHeld ?_
              try simp only [Act.put, List.setIfInBounds_toArray, List.set_cons_zero, List.set_cons_succ]
              refine wpAnyH_ready (rs := [2]) (by kernel_rfl) (by simp) ?_
              refine (AllReadyH.cons (o := { dst := some 86, op := Op.call { callee := Callee.value (Operand.func 10), args := #[Operand.tmp 84, Operand.tmp 85], argTypes := #[24, 3] }, type := 3, pos := "outright.go:72", after := #[{ on := 0, ground := Ground.data }, { on := 1, ground := Ground.data }], guard := none }) rfl (fun K hK => ?_) AllReadyH.nil)
              go_simp
              go_at_call 10
              refine (KA.out _).mono ?_
              rintro e w4 ⟨rfl, hb4⟩
              go_wp2_with fail
              refine hK.out _ _ (keepS hHeld hb4) (fun hHeld2 => ?_)
              clear hK K hHeld
              have hHeld := hHeld2
              clear hHeld2
              clear hb4
              try simp only [Act.put, List.setIfInBounds_toArray, List.set_cons_zero, List.set_cons_succ]
              refine wpAnyH_ready (rs := [5]) (by kernel_rfl) (by simp) ?_
              refine (AllReadyH.cons (o := { dst := some 89, op := Op.call { callee := Callee.value (Operand.func 10), args := #[Operand.tmp 87, Operand.tmp 88], argTypes := #[24, 3] }, type := 3, pos := "outright.go:72", after := #[{ on := 3, ground := Ground.data }, { on := 4, ground := Ground.data }, { on := 2, ground := Ground.chain }], guard := none }) rfl (fun K hK => ?_) AllReadyH.nil)
              go_simp
              go_at_call 10
              refine (KB.out _).mono ?_
              rintro e w4 ⟨rfl, hb4⟩
              go_wp2_with fail
              refine hK.out _ _ (keepS hHeld hb4) (fun hHeld2 => ?_)
              clear hK K hHeld
              have hHeld := hHeld2
              clear hHeld2
              clear hb4
              try simp only [Act.put, List.setIfInBounds_toArray, List.set_cons_zero, List.set_cons_succ]
              refine wpAnyH_take (i := 6) (oi := { dst := some 90, op := Op.binOp BinOp.neq 3 (Operand.tmp 86) (Operand.tmp 89) 3, type := 4, pos := "outright.go:72", after := #[{ on := 2, ground := Ground.data }, { on := 5, ground := Ground.data }], guard := none }) (v := .bool false) rfl (by kernel_rfl) (by kernel_rfl) (by kernel_rfl) (fun _ _ _ h => h) (Or.inl ⟨by rfl, by intro w hS; go_simp⟩) hHeld ?_
              try simp only [Act.put, List.setIfInBounds_toArray, List.set_cons_zero, List.set_cons_succ]
              refine wpAnyH_done (by kernel_rfl) ?_ _
              refine NoPanic.normal ?_
              have hf := hHeld
              clear hHeld keepS
              go_wp2
              exact ⟨⟨q + 1, by omega, by go_num, hf.1, hf.2.1, hf.2.2⟩, by simp [intOf]; omega⟩

            · obtain rfl : q = c := by omega
              clear hqc2
              have hs1 := hlt_ f1
              go_wp2_with (first
                | refine wpList_load_row rfl 24 _ rfl _ rfl 24 _ _ _ (by exact f1) Try.underlying24 rfl (by rw [keySize, SK.out]) ?_
                | refine wpList_load_row rfl 24 _ rfl _ rfl 24 _ _ _ (by exact f2) Try.underlying24 rfl (by rw [keySize, SY.out]) ?_)
              refine (KP.out _).mono ?_
              rintro e w5 ⟨rfl, hB5⟩
              have e1 := hbel hB5 f1 (hlt_ f1)
              have e2 := hbel hB5 f2 (hlt_ f2)
              have hBw : Below w.heap.size w w5 := f3.trans (hB5.mono f3.size)
              clear f1 f2 f3 hB5 KP
              by_cases hky : k = y
              · have hr0 : cmpK k y = 0 := by rw [hky, cmpK_self]
                have hc' : (q : Int) = 256 := by rw [hc]; exact hky
                rw [hr0]
                clear hc hky hbeq
                go_wp2
                go_roundw
                case rel => exact ⟨m + 1, by omega, by go_num, hBw⟩
                case measure => simp [intOf]; omega
              · have hq2 : q < 256 := by
                  rcases Nat.lt_or_ge q 256 with h | h
                  · exact h
                  · exact absurd (hcom.all (by omega)) hky
                have hc' : ¬ (q : Int) = 256 := by omega
                have hr1 := hcom.order hq2
                have hsp2 := hcom.split hq2
                have KA := hid (fun w => Bit_in w k lk yk q hq2)
                have KB := hid (fun w => Bit_in w y ly yy q hq2)
                have b1 := bitK_01 k q
                have b2 := bitK_01 y q
                rw [hr1]
                clear hc hr1
                generalize bitK k q = x1 at *
                generalize bitK y q = x2 at *
                go_wp2_with (first | refine wpList_load_row rfl 24 _ rfl _ rfl 24 _ _ _ (by exact e1) Try.underlying24 rfl (by rw [keySize, SK.out]) ?_)
                refine (KA.out _).mono ?_
                rintro e w6 ⟨rfl, hB6⟩
                have e3 := hbel hB6 e2 (hlt_ e2)
                have hBx : Below w.heap.size w w6 := hBw.trans (hB6.mono hBw.size)
                clear e1 e2 hBw hB6 KA
                go_wp2_with (first | refine wpList_load_row rfl 24 _ rfl _ rfl 24 _ _ _ (by exact e3) Try.underlying24 rfl (by rw [keySize, SY.out]) ?_)
                refine (KB.out _).mono ?_
                rintro e w7 ⟨rfl, hB7⟩
                have hBy : Below w.heap.size w w7 := hBx.trans (hB7.mono hBx.size)
                clear e3 hBx hB7 KB
                have y1 : IntKind.i64.wrap (x1 - x2) = x1 - x2 := wrap_i64_id _ (by omega) (by omega)
                go_wp2
                go_roundw
                case rel => exact ⟨m + 1, by omega, by go_num, hBy⟩
                case measure => simp [intOf]; omega
        · by_cases h : m < ks.length
          · have j1 : (m : Int) < (ks.length : Int) := by omega
            have j2 : ¬ (m : Int) < 8 := by omega
            go_wp2
            all_goals exact ⟨⟨n + 1, by omega, by go_num, hB⟩, by simp [intOf]; omega⟩
          · have j1 : decide ((m : Int) < (ks.length : Int)) = false := by rw [decide_eq_false_iff_not]; omega
            go_wp2
            all_goals exact ⟨⟨n + 1, by omega, by go_num, hB⟩, by simp [intOf]; omega⟩
    · obtain rfl : n = ks.length := by omega
      clear hlt
      go_wp2
      go_ret
      exact ⟨rfl, hB⟩
end Go.Proofs.Ytcifbnldohmbnaa
