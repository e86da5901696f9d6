import Derived.Test.YtcifbnldohmbnabVd
import Derived.Test.YtcifbnldohmbnabMb3
namespace Go.Proofs.Ytcifbnldohmbnab
set_option linter.unusedVariables false
set_option linter.unusedSimpArgs false
open Go.RowKit
attribute [local go_sem ↓] Go.wp_at_zero Go.wp_at_succ

theorem long_at' {cs : List Chg} {i : Nat} (hi : i < cs.length) (hd : (cs.getD i dC).del = false) (hv : 128 < (cs.getD i dC).val.length) : longC cs = true := by
  unfold longC
  rw [List.any_eq_true]
  refine ⟨cs.getD i dC, ?_, by simp only [hd, hv, decide_true]; rfl⟩
  rw [List.getD_eq_getElem?_getD, List.getElem?_eq_getElem hi]; exact List.getElem_mem hi
theorem sorted_nodup {cs l : List Chg} (hp : l.Perm (cs.map plainC)) : (keysC l).Nodup ↔ (keysC cs).Nodup := by
  rw [nodup_perm hp, keys_plain]
set_option maxRecDepth 100000 in
set_option maxHeartbeats 2000000 in
theorem rwrong_any (w : World) (cs : List Chg) (sp : Option Addr) (cap b o : Nat) (ms : List MC) (hC : Chs w sp cap cs b o ms) (hok : ∀ c ∈ cs, OkC c) (n : Nat) (hn : n ≤ 4096) :
    Calls Try.prog 51 #[.slice sp cs.length cap, .int .i64 n] w fun e w' => e = .returned (.int .i64 (wrongC cs n)) ∧ Below w.heap.size w w' := by
  have hm := hC.mx
  have hle := hC.le
  unfold maxLen at hm
  have i0 : (cs.length : Int) ≤ 9223372036854775807 := by omega
  have gk := keyGuard
  by_cases hnl : n < cs.length
  · have HR := hid (show wrongC cs n = 31 by unfold wrongC; rw [if_pos hnl])
    have j1 : (n : Int) < (cs.length : Int) := by omega
    generalize wrongC cs n = rr at *
    go_enter Try.func51, Try.ntmps51
    go_wp2
    go_ret
    exact ⟨by rw [HR.out]; rfl, Below.refl _ _⟩
  · have j1 : ¬ (n : Int) < (cs.length : Int) := by omega
    have jl : (cs.length : Int) ≤ 4096 := by omega
    have HNL := hid (show cs.length ≤ n by omega)
    go_enter Try.func51, Try.ntmps51
    go_wp2
    go_loopw [5] (fun v wr => ∃ i : Nat, i ≤ cs.length ∧ v = .int .i64 i ∧ longC (cs.take i) = false ∧ Below w.heap.size w wr) (fun v _ => cs.length - (intOf v).toNat)
    case atStart => exact ⟨0, by omega, rfl, rfl, Below.refl _ _⟩
    case round =>
      obtain ⟨i, hi, rfl, hlg, hB0⟩ := hrel
      by_cases hlt : i < cs.length
      · have i1 : (i : Int) < (cs.length : Int) := by omega
        obtain ⟨hb, rfl⟩ := hC.pos (by omega)
        obtain ⟨spi, ci, ri, rd, rv, _, rs, li, _⟩ := hC.at i hlt
        have c1 := (hB0.cell (p := ⟨b, o + i * 34 + 32, none⟩) hb).trans rd
        have c2 := (hB0.cell (p := ⟨b, o + i * 34 + 33, none⟩) hb).trans rv
        have HLS := hid (long_split cs i hlt hlg)
        have hvm := rs.2.1
        have hvl := rs.1
        unfold maxLen at hvm
        have i4 : ((cs.getD i dC).val.length : Int) ≤ 9223372036854775807 := by omega
        have HLA := hid (long_at' hlt)
        clear rd rv rs hlg
        by_cases hbad : (cs.getD i dC).del = false ∧ 128 < (cs.getD i dC).val.length
        · have HR := hid (show wrongC cs n = 32 by unfold wrongC; rw [if_neg hnl, HLA.out hbad.1 hbad.2]; rfl)
          obtain ⟨hb1, hb2⟩ := hbad
          rw [hb1] at c1
          have i5 : (128 : Int) < ((cs.getD i dC).val.length : Int) := by omega
          clear HLA HLS hb1 hb2
          generalize (cs.getD i dC).val.length = vl at *
          go_wp2
          go_ret
          exact ⟨by rw [HR.out]; rfl, hB0⟩
        · have HLF := hid (show longC (cs.take (i + 1)) = false by
            rw [HLS.out]
            cases hd : (cs.getD i dC).del with
            | true => rfl
            | false =>
              have : ¬ 128 < (cs.getD i dC).val.length := fun h => hbad ⟨hd, h⟩
              rw [decide_eq_false this]; rfl)
          have hcase : ((cs.getD i dC).del = true) ∨ ((cs.getD i dC).del = false ∧ ¬ (128 : Int) < ((cs.getD i dC).val.length : Int)) := by
            cases hd : (cs.getD i dC).del with
            | true => exact Or.inl rfl
            | false => exact Or.inr ⟨rfl, fun h => hbad ⟨hd, by omega⟩⟩
          clear HLA HLS hbad
          generalize hvl' : (cs.getD i dC).val.length = vl at *
          generalize hdl' : (cs.getD i dC).del = dl at *
          clear hvl' hdl'
          rcases hcase with rfl | ⟨rfl, hv128⟩
          all_goals
            go_wp2
            go_roundw
            case rel => exact ⟨i + 1, by omega, by go_num, HLF.out, hB0⟩
            case measure => simp [intOf]; omega
      · obtain rfl : i = cs.length := by omega
        rw [List.take_length] at hlg
        have KS := hid (rsorted_any cs.length _ cs sp cap b o ms (hC.below hB0) hok (Nat.le_refl _) (by omega))
        have HLG := hid hlg
        clear hlt hlg
        go_wp2_with fail
        refine KS.out.mono ?_
        rintro e w1 ⟨v, l, rfl, q1, q2, hM, hb1⟩
        clear KS
        have hB1 : Below w.heap.size w w1 := hB0.trans (hb1.mono hB0.size)
        have HLL := hid (show l.length = cs.length by rw [q1.length_eq, List.length_map])
        obtain ⟨s2, d2, b2, ms2, rfl, hC2, _⟩ := hM.chs
        have i5 : (l.length : Int) ≤ 4096 := by have := HLL.out; omega
        have HND := hid (sorted_nodup q1)
        have HW := hid (show wrongC cs n = if (keysC cs).Nodup then 0 else 33 by unfold wrongC; rw [if_neg hnl, HLG.out]; rfl)
        have Q2 := hid q2
        clear hb1 hM hB0 q1 q2
        go_wp2
        go_loopw [7] (fun v wr => ∃ k : Nat, k ≤ l.length ∧ v = .int .i64 ((k : Int) + 1) ∧ (∀ i, i < k → i + 1 < l.length → (l.getD i dC).key ≠ (l.getD (i + 1) dC).key) ∧ Below w1.heap.size w1 wr) (fun v _ => l.length + 1 - (intOf v).toNat)
        case atStart => exact ⟨0, by omega, rfl, fun i h => by omega, Below.refl _ _⟩
        case round =>
          obtain ⟨k, hk, rfl, hne, hB2⟩ := hrel
          by_cases hlt : k + 1 < l.length
          · have i1 : (k : Int) + 1 < (l.length : Int) := by omega
            have i2 : (k : Int) < (l.length : Int) := by omega
            obtain ⟨hb, rfl⟩ := hC2.pos (by omega)
            obtain ⟨_, _, rj, _, _, _, _, lj, _⟩ := hC2.at k (by omega)
            obtain ⟨_, _, ri, _, _, _, _, li, _⟩ := hC2.at (k + 1) hlt
            have hij : (Try.prog.info? 26).map (·.size) = some (ints .u8 (l.getD k dC).key).length := by rw [keySize, ints_len, lj]
            have hii : (Try.prog.info? 26).map (·.size) = some (ints .u8 (l.getD (k + 1) dC).key).length := by rw [keySize, ints_len, li]
            have HWK := hid (show IntKind.i64.wrap (k : Int) = (k : Int) from wrap_i64_id _ (by omega) (by omega))
            by_cases he : (l.getD (k + 1) dC).key = (l.getD k dC).key
            · have HR := hid (show wrongC cs n = 33 by
                rw [HW.out, if_neg]
                rw [← HND.out]
                exact dup_neighbours hlt (by rw [key_get l k (by omega), key_get l (k + 1) hlt, he]))
              have qe : ∀ w, (Op.equalIn 10000 26 (.agg (ints .u8 (l.getD (k + 1) dC).key).toArray) (.agg (ints .u8 (l.getD k dC).key).toArray)).run Try.prog w = .ok true w := fun w => by rw [key_eq _ _ li lj, decide_eq_true he]
              clear hne he HW HND Q2
              generalize (l.getD k dC).key = kj at *
              generalize (l.getD (k + 1) dC).key = ki at *
              go_wp2
              refine wp_region_noPanic ?_
              refine wp_region_held_drew (S := fun w' => Below w1.heap.size w1 w') (by kernel_rfl) hB2.drew (fun hHeld => ?_)
              refine wpAnyH_take (i := 0) (oi := { dst := some 41, op := Op.move (Operand.tmp 6), type := 28, pos := "ref.go:135", after := #[], guard := none }) (v := .slice (some ⟨b2, 0, none⟩) l.length d2) rfl (by kernel_rfl) (by kernel_rfl) (by kernel_rfl) (fun _ _ _ h => h) (Or.inl ⟨by rfl, by intro w hS; go_simp⟩) hHeld ?_
              try simp only [Act.put, List.setIfInBounds_toArray, List.set_cons_zero, List.set_cons_succ]
              refine wpAnyH_take (i := 1) (oi := { dst := some 42, op := Op.move (Operand.tmp 7), type := 3, pos := "ref.go:135", after := #[], guard := none }) (v := .int .i64 (k + 1)) rfl (by kernel_rfl) (by kernel_rfl) (by kernel_rfl) (fun _ _ _ h => h) (Or.inl ⟨by rfl, by intro w hS; go_simp⟩) hHeld ?_
              try simp only [Act.put, List.setIfInBounds_toArray, List.set_cons_zero, List.set_cons_succ]
              refine wpAnyH_take (i := 5) (oi := { dst := some 46, op := Op.move (Operand.tmp 6), type := 28, pos := "ref.go:135", after := #[], guard := none }) (v := .slice (some ⟨b2, 0, none⟩) l.length d2) rfl (by kernel_rfl) (by kernel_rfl) (by kernel_rfl) (fun _ _ _ h => h) (Or.inl ⟨by rfl, by intro w hS; go_simp⟩) hHeld ?_
              try simp only [Act.put, List.setIfInBounds_toArray, List.set_cons_zero, List.set_cons_succ]
              refine wpAnyH_take (i := 6) (oi := { dst := some 47, op := Op.move (Operand.tmp 7), type := 3, pos := "ref.go:135", after := #[], guard := none }) (v := .int .i64 (k + 1)) rfl (by kernel_rfl) (by kernel_rfl) (by kernel_rfl) (fun _ _ _ h => h) (Or.inl ⟨by rfl, by intro w hS; go_simp⟩) hHeld ?_
              try simp only [Act.put, List.setIfInBounds_toArray, List.set_cons_zero, List.set_cons_succ]
              refine wpAnyH_take (i := 2) (oi := { dst := some 43, op := Op.indexAddr 28 (Operand.tmp 41) (Operand.tmp 42), type := 0, pos := "ref.go:135", after := #[{ on := 0, ground := Ground.data }, { on := 1, ground := Ground.data }], guard := none }) (v := .pointer (some ⟨b2, 0 + (k + 1) * 34, none⟩)) rfl (by kernel_rfl) (by kernel_rfl) (by kernel_rfl) (fun _ _ _ h => h) (Or.inl ⟨by rfl, by intro w hS; go_simp <;> (intro h; omega)⟩) hHeld ?_
              try simp only [Act.put, List.setIfInBounds_toArray, List.set_cons_zero, List.set_cons_succ]
              refine wpAnyH_take (i := 7) (oi := { dst := some 48, op := Op.binOp BinOp.sub 3 (Operand.tmp 47) (Operand.const (Value.int IntKind.i64 1)) 3, type := 3, pos := "ref.go:135", after := #[{ on := 6, ground := Ground.data }], guard := none }) (v := .int .i64 k) rfl (by kernel_rfl) (by kernel_rfl) (by kernel_rfl) (fun _ _ _ h => h) (Or.inl ⟨by rfl, by intro w hS; go_simp <;> exact HWK.out⟩) hHeld ?_
              try simp only [Act.put, List.setIfInBounds_toArray, List.set_cons_zero, List.set_cons_succ]
              refine wpAnyH_take (i := 3) (oi := { dst := some 44, op := Op.fieldAddr 52 (Operand.tmp 43) 0, type := 0, pos := "ref.go:135", after := #[{ on := 2, ground := Ground.data }], guard := none }) (v := .pointer (some ⟨b2, 0 + (k + 1) * 34, none⟩)) rfl (by kernel_rfl) (by kernel_rfl) (by kernel_rfl) (fun _ _ _ h => h) (Or.inl ⟨by rfl, by intro w hS; go_simp⟩) hHeld ?_
              try simp only [Act.put, List.setIfInBounds_toArray, List.set_cons_zero, List.set_cons_succ]
              refine wpAnyH_take (i := 8) (oi := { dst := some 49, op := Op.indexAddr 28 (Operand.tmp 46) (Operand.tmp 48), type := 0, pos := "ref.go:135", after := #[{ on := 5, ground := Ground.data }, { on := 7, ground := Ground.data }], guard := none }) (v := .pointer (some ⟨b2, 0 + k * 34, none⟩)) rfl (by kernel_rfl) (by kernel_rfl) (by kernel_rfl) (fun _ _ _ h => h) (Or.inl ⟨by rfl, by intro w hS; go_simp⟩) hHeld ?_
              try simp only [Act.put, List.setIfInBounds_toArray, List.set_cons_zero, List.set_cons_succ]
              refine wpAnyH_take (i := 4) (oi := { dst := some 45, op := Op.load 26 (Operand.tmp 44), type := 26, pos := "ref.go:135", after := #[{ on := 3, ground := Ground.data }], guard := none }) (v := .agg (ints .u8 ki).toArray) rfl (by kernel_rfl) (by kernel_rfl) (by kernel_rfl) (fun _ _ _ h => h) (yieldsIf_load_mid (by rfl) 26 _ rfl b2 (0 + (k + 1) * 34) rfl (ints .u8 ki) _ (fun w hS => rng_below ri hS hb) Try.underlying26 rfl hii) hHeld ?_
              try simp only [Act.put, List.setIfInBounds_toArray, List.set_cons_zero, List.set_cons_succ]
              refine wpAnyH_take (i := 9) (oi := { dst := some 50, op := Op.fieldAddr 52 (Operand.tmp 49) 0, type := 0, pos := "ref.go:135", after := #[{ on := 8, ground := Ground.data }], guard := none }) (v := .pointer (some ⟨b2, 0 + k * 34, none⟩)) rfl (by kernel_rfl) (by kernel_rfl) (by kernel_rfl) (fun _ _ _ h => h) (Or.inl ⟨by rfl, by intro w hS; go_simp⟩) hHeld ?_
              try simp only [Act.put, List.setIfInBounds_toArray, List.set_cons_zero, List.set_cons_succ]
              refine wpAnyH_take (i := 10) (oi := { dst := some 51, op := Op.load 26 (Operand.tmp 50), type := 26, pos := "ref.go:135", after := #[{ on := 9, ground := Ground.data }], guard := none }) (v := .agg (ints .u8 kj).toArray) rfl (by kernel_rfl) (by kernel_rfl) (by kernel_rfl) (fun _ _ _ h => h) (yieldsIf_load_mid (by rfl) 26 _ rfl b2 (0 + k * 34) rfl (ints .u8 kj) _ (fun w hS => rng_below rj hS hb) Try.underlying26 rfl hij) hHeld ?_
              try simp only [Act.put, List.setIfInBounds_toArray, List.set_cons_zero, List.set_cons_succ]
              refine wpAnyH_take (i := 11) (oi := { dst := some 52, op := Op.binOp BinOp.eql 26 (Operand.tmp 45) (Operand.tmp 51) 26, type := 4, pos := "ref.go:135", after := #[{ on := 4, ground := Ground.data }, { on := 10, ground := Ground.data }], guard := none }) (v := .bool true) rfl (by kernel_rfl) (by kernel_rfl) (by kernel_rfl) (fun _ _ _ h => h) (Or.inl ⟨by rfl, by intro w hS; go_simp⟩) hHeld ?_
              try simp only [Act.put, List.setIfInBounds_toArray, List.set_cons_zero, List.set_cons_succ]
              refine wpAnyH_done (by kernel_rfl) ?_ _
              refine NoPanic.normal ?_
              have hf := hHeld
              clear hHeld
              go_wp2
              go_ret
              exact ⟨by rw [HR.out]; rfl, hB1.trans (hf.mono hB1.size)⟩
            · have HS := hid (show ∀ i, i < k + 1 → i + 1 < l.length → (l.getD i dC).key ≠ (l.getD (i + 1) dC).key from fun i h h2 => by rcases Nat.lt_succ_iff_lt_or_eq.1 h with h | rfl; exact hne i h h2; exact fun e => he e.symm)
              have qe : ∀ w, (Op.equalIn 10000 26 (.agg (ints .u8 (l.getD (k + 1) dC).key).toArray) (.agg (ints .u8 (l.getD k dC).key).toArray)).run Try.prog w = .ok false w := fun w => by rw [key_eq _ _ li lj, decide_eq_false he]
              clear hne he
              generalize hkj : (l.getD k dC).key = kj at *
              generalize hki : (l.getD (k + 1) dC).key = ki at *
              clear hkj hki
              go_wp2
              refine wp_region_noPanic ?_
              refine wp_region_held_drew (S := fun w' => Below w1.heap.size w1 w') (by kernel_rfl) hB2.drew (fun hHeld => ?_)
              refine wpAnyH_take (i := 0) (oi := { dst := some 41, op := Op.move (Operand.tmp 6), type := 28, pos := "ref.go:135", after := #[], guard := none }) (v := .slice (some ⟨b2, 0, none⟩) l.length d2) rfl (by kernel_rfl) (by kernel_rfl) (by kernel_rfl) (fun _ _ _ h => h) (Or.inl ⟨by rfl, by intro w hS; go_simp⟩) hHeld ?_
              try simp only [Act.put, List.setIfInBounds_toArray, List.set_cons_zero, List.set_cons_succ]
              refine wpAnyH_take (i := 1) (oi := { dst := some 42, op := Op.move (Operand.tmp 7), type := 3, pos := "ref.go:135", after := #[], guard := none }) (v := .int .i64 (k + 1)) rfl (by kernel_rfl) (by kernel_rfl) (by kernel_rfl) (fun _ _ _ h => h) (Or.inl ⟨by rfl, by intro w hS; go_simp⟩) hHeld ?_
              try simp only [Act.put, List.setIfInBounds_toArray, List.set_cons_zero, List.set_cons_succ]
              refine wpAnyH_take (i := 5) (oi := { dst := some 46, op := Op.move (Operand.tmp 6), type := 28, pos := "ref.go:135", after := #[], guard := none }) (v := .slice (some ⟨b2, 0, none⟩) l.length d2) rfl (by kernel_rfl) (by kernel_rfl) (by kernel_rfl) (fun _ _ _ h => h) (Or.inl ⟨by rfl, by intro w hS; go_simp⟩) hHeld ?_
              try simp only [Act.put, List.setIfInBounds_toArray, List.set_cons_zero, List.set_cons_succ]
              refine wpAnyH_take (i := 6) (oi := { dst := some 47, op := Op.move (Operand.tmp 7), type := 3, pos := "ref.go:135", after := #[], guard := none }) (v := .int .i64 (k + 1)) rfl (by kernel_rfl) (by kernel_rfl) (by kernel_rfl) (fun _ _ _ h => h) (Or.inl ⟨by rfl, by intro w hS; go_simp⟩) hHeld ?_
              try simp only [Act.put, List.setIfInBounds_toArray, List.set_cons_zero, List.set_cons_succ]
              refine wpAnyH_take (i := 2) (oi := { dst := some 43, op := Op.indexAddr 28 (Operand.tmp 41) (Operand.tmp 42), type := 0, pos := "ref.go:135", after := #[{ on := 0, ground := Ground.data }, { on := 1, ground := Ground.data }], guard := none }) (v := .pointer (some ⟨b2, 0 + (k + 1) * 34, none⟩)) rfl (by kernel_rfl) (by kernel_rfl) (by kernel_rfl) (fun _ _ _ h => h) (Or.inl ⟨by rfl, by intro w hS; go_simp <;> (intro h; omega)⟩) hHeld ?_
              try simp only [Act.put, List.setIfInBounds_toArray, List.set_cons_zero, List.set_cons_succ]
              refine wpAnyH_take (i := 7) (oi := { dst := some 48, op := Op.binOp BinOp.sub 3 (Operand.tmp 47) (Operand.const (Value.int IntKind.i64 1)) 3, type := 3, pos := "ref.go:135", after := #[{ on := 6, ground := Ground.data }], guard := none }) (v := .int .i64 k) rfl (by kernel_rfl) (by kernel_rfl) (by kernel_rfl) (fun _ _ _ h => h) (Or.inl ⟨by rfl, by intro w hS; go_simp <;> exact HWK.out⟩) hHeld ?_
              try simp only [Act.put, List.setIfInBounds_toArray, List.set_cons_zero, List.set_cons_succ]
              refine wpAnyH_take (i := 3) (oi := { dst := some 44, op := Op.fieldAddr 52 (Operand.tmp 43) 0, type := 0, pos := "ref.go:135", after := #[{ on := 2, ground := Ground.data }], guard := none }) (v := .pointer (some ⟨b2, 0 + (k + 1) * 34, none⟩)) rfl (by kernel_rfl) (by kernel_rfl) (by kernel_rfl) (fun _ _ _ h => h) (Or.inl ⟨by rfl, by intro w hS; go_simp⟩) hHeld ?_
              try simp only [Act.put, List.setIfInBounds_toArray, List.set_cons_zero, List.set_cons_succ]
              refine wpAnyH_take (i := 8) (oi := { dst := some 49, op := Op.indexAddr 28 (Operand.tmp 46) (Operand.tmp 48), type := 0, pos := "ref.go:135", after := #[{ on := 5, ground := Ground.data }, { on := 7, ground := Ground.data }], guard := none }) (v := .pointer (some ⟨b2, 0 + k * 34, none⟩)) rfl (by kernel_rfl) (by kernel_rfl) (by kernel_rfl) (fun _ _ _ h => h) (Or.inl ⟨by rfl, by intro w hS; go_simp⟩) hHeld ?_
              try simp only [Act.put, List.setIfInBounds_toArray, List.set_cons_zero, List.set_cons_succ]
              refine wpAnyH_take (i := 4) (oi := { dst := some 45, op := Op.load 26 (Operand.tmp 44), type := 26, pos := "ref.go:135", after := #[{ on := 3, ground := Ground.data }], guard := none }) (v := .agg (ints .u8 ki).toArray) rfl (by kernel_rfl) (by kernel_rfl) (by kernel_rfl) (fun _ _ _ h => h) (yieldsIf_load_mid (by rfl) 26 _ rfl b2 (0 + (k + 1) * 34) rfl (ints .u8 ki) _ (fun w hS => rng_below ri hS hb) Try.underlying26 rfl hii) hHeld ?_
              try simp only [Act.put, List.setIfInBounds_toArray, List.set_cons_zero, List.set_cons_succ]
              refine wpAnyH_take (i := 9) (oi := { dst := some 50, op := Op.fieldAddr 52 (Operand.tmp 49) 0, type := 0, pos := "ref.go:135", after := #[{ on := 8, ground := Ground.data }], guard := none }) (v := .pointer (some ⟨b2, 0 + k * 34, none⟩)) rfl (by kernel_rfl) (by kernel_rfl) (by kernel_rfl) (fun _ _ _ h => h) (Or.inl ⟨by rfl, by intro w hS; go_simp⟩) hHeld ?_
              try simp only [Act.put, List.setIfInBounds_toArray, List.set_cons_zero, List.set_cons_succ]
              refine wpAnyH_take (i := 10) (oi := { dst := some 51, op := Op.load 26 (Operand.tmp 50), type := 26, pos := "ref.go:135", after := #[{ on := 9, ground := Ground.data }], guard := none }) (v := .agg (ints .u8 kj).toArray) rfl (by kernel_rfl) (by kernel_rfl) (by kernel_rfl) (fun _ _ _ h => h) (yieldsIf_load_mid (by rfl) 26 _ rfl b2 (0 + k * 34) rfl (ints .u8 kj) _ (fun w hS => rng_below rj hS hb) Try.underlying26 rfl hij) hHeld ?_
              try simp only [Act.put, List.setIfInBounds_toArray, List.set_cons_zero, List.set_cons_succ]
              refine wpAnyH_take (i := 11) (oi := { dst := some 52, op := Op.binOp BinOp.eql 26 (Operand.tmp 45) (Operand.tmp 51) 26, type := 4, pos := "ref.go:135", after := #[{ on := 4, ground := Ground.data }, { on := 10, ground := Ground.data }], guard := none }) (v := .bool false) rfl (by kernel_rfl) (by kernel_rfl) (by kernel_rfl) (fun _ _ _ h => h) (Or.inl ⟨by rfl, by intro w hS; go_simp⟩) hHeld ?_
              try simp only [Act.put, List.setIfInBounds_toArray, List.set_cons_zero, List.set_cons_succ]
              refine wpAnyH_done (by kernel_rfl) ?_ _
              refine NoPanic.normal ?_
              have hf := hHeld
              clear hHeld
              go_wp2
              go_roundw
              case rel => exact ⟨k + 1, by omega, by go_num, HS.out, hf⟩
              case measure => simp [intOf]; omega
          · have j5 : ¬ (k : Int) + 1 < (l.length : Int) := by omega
            have HR := hid (show wrongC cs n = 0 by
              rw [HW.out, if_pos]
              rw [← HND.out]
              exact pairwise_ne_of_lt (lt_of_neighbours Q2.out fun i h => by
                rw [key_get l i (by omega), key_get l (i + 1) h]
                intro e
                exact hne i (by omega) h (Option.some.inj e)))
            clear hne hlt HW HND Q2
            go_wp2
            go_ret
            exact ⟨by rw [HR.out]; rfl, hB1.trans (hB2.mono hB1.size)⟩
end Go.Proofs.Ytcifbnldohmbnab
