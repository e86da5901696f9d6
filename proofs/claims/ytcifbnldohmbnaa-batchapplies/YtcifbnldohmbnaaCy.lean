import Derived.Test.YtcifbnldohmbnaaCr
import Derived.Test.YtcifbnldohmbnaaMb3
namespace Go.Proofs.Ytcifbnldohmbnaa
set_option linter.unusedVariables false
set_option linter.unusedSimpArgs false
open Go.RowKit
attribute [local go_sem ↓] Go.wp_at_zero Go.wp_at_succ

theorem long_at {cs : List Chg} {i : Nat} (hi : i < cs.length) (hd : (cs.getD i dC).del = false) (hv : 128 < (cs.getD i dC).val.length) : longC cs = true := by
  unfold longC
  rw [List.any_eq_true]
  refine ⟨cs.getD i dC, ?_, by simp only [hd, hv, decide_true]; rfl⟩
  rw [List.getD_eq_getElem?_getD, List.getElem?_eq_getElem hi]; exact List.getElem_mem hi
set_option maxRecDepth 100000 in
set_option maxHeartbeats 2000000 in
theorem right_any (w : World) (cs : List Chg) (sp : Option Addr) (cap b o : Nat) (ms : List MC) (hC : Chs w sp cap cs b o ms) (n : Nat) :
    Calls Try.prog 13 #[.slice sp cs.length cap, .int .i64 n] w fun e w' => e = .returned (.bool (decide (wrongC cs n = 0))) ∧ Below w.heap.size w w' := by
  have hm := hC.mx
  have hle := hC.le
  unfold maxLen at hm
  have i0 : (cs.length : Int) ≤ 9223372036854775807 := by omega
  have gk := keyGuard
  go_enter Try.func13, Try.ntmps13
  by_cases hn : n < cs.length
  · have HR := hid (show decide (wrongC cs n = 0) = false by rw [decide_eq_false]; rw [wrong_zero]; omega)
    have j1 : (n : Int) < (cs.length : Int) := by omega
    generalize decide (wrongC cs n = 0) = rr at *
    go_wp2
    go_ret
    exact ⟨by rw [HR.out]; rfl, Below.refl _ _⟩
  · have j1 : ¬ (n : Int) < (cs.length : Int) := by omega
    go_wp2
    go_loopw [5] (fun v wr => ∃ i : Nat, i ≤ cs.length ∧ v = .int .i64 i ∧ (∀ i', i' < i → (keysC cs).getD i' [] ∉ (keysC cs).take i') ∧ longC (cs.take i) = false ∧ Below w.heap.size w wr) (fun v _ => cs.length - (intOf v).toNat)
    case atStart => exact ⟨0, by omega, rfl, fun i' h => by omega, rfl, Below.refl _ _⟩
    case round =>
      obtain ⟨i, hi, rfl, hfr, hlg, hB0⟩ := hrel
      by_cases hlt : i < cs.length
      · have i1 : (i : Int) < (cs.length : Int) := by omega
        obtain ⟨hb, rfl⟩ := hC.pos (by omega)
        obtain ⟨spi, ci, ri, rd, rv, _, rs, li, _⟩ := hC.at i hlt
        have hii : (Try.prog.info? 24).map (·.size) = some (ints .u8 (cs.getD i dC).key).length := by rw [keySize, ints_len, li]
        have c1 := (hB0.cell (p := ⟨b, o + i * 34 + 32, none⟩) hb).trans rd
        have c2 := (hB0.cell (p := ⟨b, o + i * 34 + 33, none⟩) hb).trans rv
        have HLS := hid (long_split cs i hlt hlg)
        have hvm := rs.2.1
        have hvl := rs.1
        unfold maxLen at hvm
        have i4 : ((cs.getD i dC).val.length : Int) ≤ 9223372036854775807 := by omega
        have HLA := hid (long_at hlt)
        clear rd rv rs hlg
        by_cases hbad : (cs.getD i dC).del = false ∧ 128 < (cs.getD i dC).val.length
        · have HR := hid (show decide (wrongC cs n = 0) = false by rw [decide_eq_false]; rw [wrong_zero, HLA.out hbad.1 hbad.2]; simp)
          obtain ⟨hb1, hb2⟩ := hbad
          rw [hb1] at c1
          have i5 : (128 : Int) < ((cs.getD i dC).val.length : Int) := by omega
          clear HLA HLS hb1 hb2 hfr
          generalize (cs.getD i dC).val.length = vl at *
          go_wp2
          go_ret
          exact ⟨by rw [HR.out]; rfl, hB0⟩
        · have HLF := hid (show longC (cs.take (i + 1)) = false by
            rw [HLS.out]
            cases hd : (cs.getD i dC).del with
            | true => rfl
            | false =>
              have : ¬ 128 < (cs.getD i dC).val.length := fun h => hbad ⟨hd, h⟩
              rw [decide_eq_false this]; rfl)
          have hcase : ((cs.getD i dC).del = true) ∨ ((cs.getD i dC).del = false ∧ ¬ (128 : Int) < ((cs.getD i dC).val.length : Int)) := by
            cases hd : (cs.getD i dC).del with
            | true => exact Or.inl rfl
            | false => exact Or.inr ⟨rfl, fun h => hbad ⟨hd, by omega⟩⟩
          clear HLA HLS hbad
          generalize hvl' : (cs.getD i dC).val.length = vl at *
          generalize hdl' : (cs.getD i dC).del = dl at *
          clear hvl' hdl'
          rcases hcase with rfl | ⟨rfl, hv128⟩
          all_goals
            go_wp2
            go_loopw [6] (fun v wr => ∃ j : Nat, j ≤ i ∧ v = .int .i64 j ∧ (∀ j', j' < j → (cs.getD j' dC).key ≠ (cs.getD i dC).key) ∧ Below w.heap.size w wr) (fun v _ => i - (intOf v).toNat)
            case atStart => exact ⟨0, by omega, rfl, fun j' h => by omega, hB0⟩
            case round =>
              clear hB0 c1 c2
              obtain ⟨j, hj, rfl, hne, hB⟩ := hrel
              by_cases hlj : j < i
              · have i2 : (j : Int) < (i : Int) := by omega
                have i3 : (j : Int) < (cs.length : Int) := by omega
                obtain ⟨_, _, rj, _, _, _, _, lj, _⟩ := hC.at j (by omega)
                have hij : (Try.prog.info? 24).map (·.size) = some (ints .u8 (cs.getD j dC).key).length := by rw [keySize, ints_len, lj]
                by_cases he : (cs.getD i dC).key = (cs.getD j dC).key
                · have HR := hid (show decide (wrongC cs n = 0) = false by
                    rw [decide_eq_false]
                    rw [wrong_zero]
                    rintro ⟨_, _, h3⟩
                    exact fresh_of_nodup h3 i (by simp [keysC]; omega) ((mem_take_keys cs i hlt).2 ⟨j, hlj, he.symm⟩))
                  have qe : ∀ w, (Op.equalIn 10000 24 (.agg (ints .u8 (cs.getD i dC).key).toArray) (.agg (ints .u8 (cs.getD j dC).key).toArray)).run Try.prog w = .ok true w := fun w => by rw [key_eq _ _ li lj, decide_eq_true he]
                  clear hne hfr he HLF
                  generalize (cs.getD j dC).key = kj at *
                  generalize (cs.getD i dC).key = ki at *
                  go_wp2
                  refine wp_region_noPanic ?_
                  refine wp_region_held_drew (S := fun w' => Below w.heap.size w w') (by kernel_rfl) hB.drew (fun hHeld => ?_)
                  refine wpAnyH_take (i := 0) (oi := { dst := some 37, op := Op.move (Operand.tmp 0), type := 29, pos := "outright.go:26", after := #[], guard := none }) (v := .slice (some ⟨b, o, none⟩) cs.length cap) rfl (by kernel_rfl) (by kernel_rfl) (by kernel_rfl) (fun _ _ _ h => h) (Or.inl ⟨by rfl, by intro w hS; go_simp⟩) hHeld ?_
                  try simp only [Act.put, List.setIfInBounds_toArray, List.set_cons_zero, List.set_cons_succ]
                  refine wpAnyH_take (i := 1) (oi := { dst := some 38, op := Op.move (Operand.tmp 5), type := 3, pos := "outright.go:26", after := #[], guard := none }) (v := .int .i64 i) rfl (by kernel_rfl) (by kernel_rfl) (by kernel_rfl) (fun _ _ _ h => h) (Or.inl ⟨by rfl, by intro w hS; go_simp⟩) hHeld ?_
                  try simp only [Act.put, List.setIfInBounds_toArray, List.set_cons_zero, List.set_cons_succ]
                  refine wpAnyH_take (i := 5) (oi := { dst := some 42, op := Op.move (Operand.tmp 0), type := 29, pos := "outright.go:26", after := #[], guard := none }) (v := .slice (some ⟨b, o, none⟩) cs.length cap) rfl (by kernel_rfl) (by kernel_rfl) (by kernel_rfl) (fun _ _ _ h => h) (Or.inl ⟨by rfl, by intro w hS; go_simp⟩) hHeld ?_
                  try simp only [Act.put, List.setIfInBounds_toArray, List.set_cons_zero, List.set_cons_succ]
                  refine wpAnyH_take (i := 6) (oi := { dst := some 43, op := Op.move (Operand.tmp 6), type := 3, pos := "outright.go:26", after := #[], guard := none }) (v := .int .i64 j) rfl (by kernel_rfl) (by kernel_rfl) (by kernel_rfl) (fun _ _ _ h => h) (Or.inl ⟨by rfl, by intro w hS; go_simp⟩) hHeld ?_
                  try simp only [Act.put, List.setIfInBounds_toArray, List.set_cons_zero, List.set_cons_succ]
                  refine wpAnyH_take (i := 2) (oi := { dst := some 39, op := Op.indexAddr 29 (Operand.tmp 37) (Operand.tmp 38), type := 0, pos := "outright.go:26", after := #[{ on := 0, ground := Ground.data }, { on := 1, ground := Ground.data }], guard := none }) (v := .pointer (some ⟨b, o + i * 34, none⟩)) rfl (by kernel_rfl) (by kernel_rfl) (by kernel_rfl) (fun _ _ _ h => h) (Or.inl ⟨by rfl, by intro w hS; go_simp⟩) hHeld ?_
                  try simp only [Act.put, List.setIfInBounds_toArray, List.set_cons_zero, List.set_cons_succ]
                  refine wpAnyH_take (i := 7) (oi := { dst := some 44, op := Op.indexAddr 29 (Operand.tmp 42) (Operand.tmp 43), type := 0, pos := "outright.go:26", after := #[{ on := 5, ground := Ground.data }, { on := 6, ground := Ground.data }], guard := none }) (v := .pointer (some ⟨b, o + j * 34, none⟩)) rfl (by kernel_rfl) (by kernel_rfl) (by kernel_rfl) (fun _ _ _ h => h) (Or.inl ⟨by rfl, by intro w hS; go_simp⟩) hHeld ?_
                  try simp only [Act.put, List.setIfInBounds_toArray, List.set_cons_zero, List.set_cons_succ]
                  refine wpAnyH_take (i := 3) (oi := { dst := some 40, op := Op.fieldAddr 40 (Operand.tmp 39) 0, type := 0, pos := "outright.go:26", after := #[{ on := 2, ground := Ground.data }], guard := none }) (v := .pointer (some ⟨b, o + i * 34, none⟩)) rfl (by kernel_rfl) (by kernel_rfl) (by kernel_rfl) (fun _ _ _ h => h) (Or.inl ⟨by rfl, by intro w hS; go_simp⟩) hHeld ?_
                  try simp only [Act.put, List.setIfInBounds_toArray, List.set_cons_zero, List.set_cons_succ]
                  refine wpAnyH_take (i := 8) (oi := { dst := some 45, op := Op.fieldAddr 40 (Operand.tmp 44) 0, type := 0, pos := "outright.go:26", after := #[{ on := 7, ground := Ground.data }], guard := none }) (v := .pointer (some ⟨b, o + j * 34, none⟩)) rfl (by kernel_rfl) (by kernel_rfl) (by kernel_rfl) (fun _ _ _ h => h) (Or.inl ⟨by rfl, by intro w hS; go_simp⟩) hHeld ?_
                  try simp only [Act.put, List.setIfInBounds_toArray, List.set_cons_zero, List.set_cons_succ]
                  refine wpAnyH_take (i := 4) (oi := { dst := some 41, op := Op.load 24 (Operand.tmp 40), type := 24, pos := "outright.go:26", after := #[{ on := 3, ground := Ground.data }], guard := none }) (v := .agg (ints .u8 ki).toArray) rfl (by kernel_rfl) (by kernel_rfl) (by kernel_rfl) (fun _ _ _ h => h) (yieldsIf_load_mid (by rfl) 24 _ rfl b (o + i * 34) rfl (ints .u8 ki) _ (fun w hS => rng_below ri hS hb) Try.underlying24 rfl hii) hHeld ?_
                  try simp only [Act.put, List.setIfInBounds_toArray, List.set_cons_zero, List.set_cons_succ]
                  refine wpAnyH_take (i := 9) (oi := { dst := some 46, op := Op.load 24 (Operand.tmp 45), type := 24, pos := "outright.go:26", after := #[{ on := 8, ground := Ground.data }], guard := none }) (v := .agg (ints .u8 kj).toArray) rfl (by kernel_rfl) (by kernel_rfl) (by kernel_rfl) (fun _ _ _ h => h) (yieldsIf_load_mid (by rfl) 24 _ rfl b (o + j * 34) rfl (ints .u8 kj) _ (fun w hS => rng_below rj hS hb) Try.underlying24 rfl hij) hHeld ?_
                  try simp only [Act.put, List.setIfInBounds_toArray, List.set_cons_zero, List.set_cons_succ]
                  refine wpAnyH_take (i := 10) (oi := { dst := some 47, op := Op.binOp BinOp.eql 24 (Operand.tmp 41) (Operand.tmp 46) 24, type := 4, pos := "outright.go:26", after := #[{ on := 4, ground := Ground.data }, { on := 9, ground := Ground.data }], guard := none }) (v := .bool true) rfl (by kernel_rfl) (by kernel_rfl) (by kernel_rfl) (fun _ _ _ h => h) (Or.inl ⟨by rfl, by intro w hS; go_simp⟩) hHeld ?_
                  try simp only [Act.put, List.setIfInBounds_toArray, List.set_cons_zero, List.set_cons_succ]
                  refine wpAnyH_done (by kernel_rfl) ?_ _
                  refine NoPanic.normal ?_
                  have hf := hHeld
                  clear hHeld
                  go_wp2
                  go_ret
                  exact ⟨by rw [HR.out]; rfl, hf⟩
                · have HS := hid (show ∀ j', j' < j + 1 → (cs.getD j' dC).key ≠ (cs.getD i dC).key from fun j' h => by rcases Nat.lt_succ_iff_lt_or_eq.1 h with h | rfl; exact hne j' h; exact fun e => he e.symm)
                  have qe : ∀ w, (Op.equalIn 10000 24 (.agg (ints .u8 (cs.getD i dC).key).toArray) (.agg (ints .u8 (cs.getD j dC).key).toArray)).run Try.prog w = .ok false w := fun w => by rw [key_eq _ _ li lj, decide_eq_false he]
                  clear hne he
                  generalize hkj : (cs.getD j dC).key = kj at *
                  generalize hki : (cs.getD i dC).key = ki at *
                  clear hkj
                  go_wp2
                  refine wp_region_noPanic ?_
                  refine wp_region_held_drew (S := fun w' => Below w.heap.size w w') (by kernel_rfl) hB.drew (fun hHeld => ?_)
                  refine wpAnyH_take (i := 0) (oi := { dst := some 37, op := Op.move (Operand.tmp 0), type := 29, pos := "outright.go:26", after := #[], guard := none }) (v := .slice (some ⟨b, o, none⟩) cs.length cap) rfl (by kernel_rfl) (by kernel_rfl) (by kernel_rfl) (fun _ _ _ h => h) (Or.inl ⟨by rfl, by intro w hS; go_simp⟩) hHeld ?_
                  try simp only [Act.put, List.setIfInBounds_toArray, List.set_cons_zero, List.set_cons_succ]
                  refine wpAnyH_take (i := 1) (oi := { dst := some 38, op := Op.move (Operand.tmp 5), type := 3, pos := "outright.go:26", after := #[], guard := none }) (v := .int .i64 i) rfl (by kernel_rfl) (by kernel_rfl) (by kernel_rfl) (fun _ _ _ h => h) (Or.inl ⟨by rfl, by intro w hS; go_simp⟩) hHeld ?_
                  try simp only [Act.put, List.setIfInBounds_toArray, List.set_cons_zero, List.set_cons_succ]
                  refine wpAnyH_take (i := 5) (oi := { dst := some 42, op := Op.move (Operand.tmp 0), type := 29, pos := "outright.go:26", after := #[], guard := none }) (v := .slice (some ⟨b, o, none⟩) cs.length cap) rfl (by kernel_rfl) (by kernel_rfl) (by kernel_rfl) (fun _ _ _ h => h) (Or.inl ⟨by rfl, by intro w hS; go_simp⟩) hHeld ?_
                  try simp only [Act.put, List.setIfInBounds_toArray, List.set_cons_zero, List.set_cons_succ]
                  refine wpAnyH_take (i := 6) (oi := { dst := some 43, op := Op.move (Operand.tmp 6), type := 3, pos := "outright.go:26", after := #[], guard := none }) (v := .int .i64 j) rfl (by kernel_rfl) (by kernel_rfl) (by kernel_rfl) (fun _ _ _ h => h) (Or.inl ⟨by rfl, by intro w hS; go_simp⟩) hHeld ?_
                  try simp only [Act.put, List.setIfInBounds_toArray, List.set_cons_zero, List.set_cons_succ]
                  refine wpAnyH_take (i := 2) (oi := { dst := some 39, op := Op.indexAddr 29 (Operand.tmp 37) (Operand.tmp 38), type := 0, pos := "outright.go:26", after := #[{ on := 0, ground := Ground.data }, { on := 1, ground := Ground.data }], guard := none }) (v := .pointer (some ⟨b, o + i * 34, none⟩)) rfl (by kernel_rfl) (by kernel_rfl) (by kernel_rfl) (fun _ _ _ h => h) (Or.inl ⟨by rfl, by intro w hS; go_simp⟩) hHeld ?_
                  try simp only [Act.put, List.setIfInBounds_toArray, List.set_cons_zero, List.set_cons_succ]
                  refine wpAnyH_take (i := 7) (oi := { dst := some 44, op := Op.indexAddr 29 (Operand.tmp 42) (Operand.tmp 43), type := 0, pos := "outright.go:26", after := #[{ on := 5, ground := Ground.data }, { on := 6, ground := Ground.data }], guard := none }) (v := .pointer (some ⟨b, o + j * 34, none⟩)) rfl (by kernel_rfl) (by kernel_rfl) (by kernel_rfl) (fun _ _ _ h => h) (Or.inl ⟨by rfl, by intro w hS; go_simp⟩) hHeld ?_
                  try simp only [Act.put, List.setIfInBounds_toArray, List.set_cons_zero, List.set_cons_succ]
                  refine wpAnyH_take (i := 3) (oi := { dst := some 40, op := Op.fieldAddr 40 (Operand.tmp 39) 0, type := 0, pos := "outright.go:26", after := #[{ on := 2, ground := Ground.data }], guard := none }) (v := .pointer (some ⟨b, o + i * 34, none⟩)) rfl (by kernel_rfl) (by kernel_rfl) (by kernel_rfl) (fun _ _ _ h => h) (Or.inl ⟨by rfl, by intro w hS; go_simp⟩) hHeld ?_
                  try simp only [Act.put, List.setIfInBounds_toArray, List.set_cons_zero, List.set_cons_succ]
                  refine wpAnyH_take (i := 8) (oi := { dst := some 45, op := Op.fieldAddr 40 (Operand.tmp 44) 0, type := 0, pos := "outright.go:26", after := #[{ on := 7, ground := Ground.data }], guard := none }) (v := .pointer (some ⟨b, o + j * 34, none⟩)) rfl (by kernel_rfl) (by kernel_rfl) (by kernel_rfl) (fun _ _ _ h => h) (Or.inl ⟨by rfl, by intro w hS; go_simp⟩) hHeld ?_
                  try simp only [Act.put, List.setIfInBounds_toArray, List.set_cons_zero, List.set_cons_succ]
                  refine wpAnyH_take (i := 4) (oi := { dst := some 41, op := Op.load 24 (Operand.tmp 40), type := 24, pos := "outright.go:26", after := #[{ on := 3, ground := Ground.data }], guard := none }) (v := .agg (ints .u8 ki).toArray) rfl (by kernel_rfl) (by kernel_rfl) (by kernel_rfl) (fun _ _ _ h => h) (yieldsIf_load_mid (by rfl) 24 _ rfl b (o + i * 34) rfl (ints .u8 ki) _ (fun w hS => rng_below ri hS hb) Try.underlying24 rfl hii) hHeld ?_
                  try simp only [Act.put, List.setIfInBounds_toArray, List.set_cons_zero, List.set_cons_succ]
                  refine wpAnyH_take (i := 9) (oi := { dst := some 46, op := Op.load 24 (Operand.tmp 45), type := 24, pos := "outright.go:26", after := #[{ on := 8, ground := Ground.data }], guard := none }) (v := .agg (ints .u8 kj).toArray) rfl (by kernel_rfl) (by kernel_rfl) (by kernel_rfl) (fun _ _ _ h => h) (yieldsIf_load_mid (by rfl) 24 _ rfl b (o + j * 34) rfl (ints .u8 kj) _ (fun w hS => rng_below rj hS hb) Try.underlying24 rfl hij) hHeld ?_
                  try simp only [Act.put, List.setIfInBounds_toArray, List.set_cons_zero, List.set_cons_succ]
                  refine wpAnyH_take (i := 10) (oi := { dst := some 47, op := Op.binOp BinOp.eql 24 (Operand.tmp 41) (Operand.tmp 46) 24, type := 4, pos := "outright.go:26", after := #[{ on := 4, ground := Ground.data }, { on := 9, ground := Ground.data }], guard := none }) (v := .bool false) rfl (by kernel_rfl) (by kernel_rfl) (by kernel_rfl) (fun _ _ _ h => h) (Or.inl ⟨by rfl, by intro w hS; go_simp⟩) hHeld ?_
                  try simp only [Act.put, List.setIfInBounds_toArray, List.set_cons_zero, List.set_cons_succ]
                  refine wpAnyH_done (by kernel_rfl) ?_ _
                  refine NoPanic.normal ?_
                  have hf := hHeld
                  clear hHeld
                  go_wp2
                  go_roundw
                  case rel => exact ⟨j + 1, by omega, by go_num, HS.out, hf⟩
                  case measure => simp [intOf]; omega
              · obtain rfl : j = i := by omega
                have HF := hid (show ∀ i', i' < j + 1 → (keysC cs).getD i' [] ∉ (keysC cs).take i' from fun i' h => by
                  rcases Nat.lt_succ_iff_lt_or_eq.1 h with h | rfl
                  · exact hfr i' h
                  · rw [mem_take_keys cs i' hlt]; rintro ⟨j', h1, h2⟩; exact hne j' h1 h2)
                clear hne hlj
                go_wp2
                go_roundw
                case rel => exact ⟨j + 1, by omega, by go_num, HF.out, HLF.out, hB⟩
                case measure => simp [intOf]; omega
      · obtain rfl : i = cs.length := by omega
        rw [List.take_length] at hlg
        have HR := hid (show decide (wrongC cs n = 0) = true by
          rw [decide_eq_true]
          rw [wrong_zero]
          exact ⟨by omega, hlg, nodup_of_fresh fun i h => hfr i (by simpa [keysC] using h)⟩)
        clear hlt hfr hlg
        go_wp2
        go_ret
        exact ⟨by rw [HR.out]; rfl, hB0⟩
end Go.Proofs.Ytcifbnldohmbnaa
