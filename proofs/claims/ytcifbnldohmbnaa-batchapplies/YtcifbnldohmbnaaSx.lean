import Derived.Test.YtcifbnldohmbnaaSm
import Derived.Test.YtcifbnldohmbnaaCy
namespace Go.Proofs.Ytcifbnldohmbnaa
set_option linter.unusedVariables false
set_option linter.unusedSimpArgs false
open Go.RowKit
attribute [local go_sem ↓] Go.wp_at_zero Go.wp_at_succ

theorem keysN_step (a b : List Chg) (i : Nat) (hi : i < b.length) : keysN a (b.take (i + 1)) = keysN a (b.take i) + if (b.getD i dC).key ∈ keysC a then 0 else 1 := by
  rw [take_snoc b i hi]
  unfold keysN
  rw [List.filter_append, List.length_append]
  by_cases h : (b.getD i dC).key ∈ keysC a
  · rw [if_pos h, List.filter_cons_of_neg (by rw [decide_eq_true_eq]; exact fun h2 => h2 h)]; simp
  · rw [if_neg h, List.filter_cons_of_pos (by rw [decide_eq_true_eq]; exact h)]; simp; omega
theorem mem_keys_take (cs : List Chg) (j : Nat) (hj : j < cs.length) (k : List Int) : k ∈ keysC (cs.take (j + 1)) ↔ k ∈ keysC (cs.take j) ∨ (cs.getD j dC).key = k := by
  rw [take_snoc cs j hj]
  simp only [keysC, List.map_append, List.mem_append, List.map_cons, List.map_nil, List.mem_singleton]
  exact or_congr Iff.rfl eq_comm
set_option maxRecDepth 100000 in
set_option maxHeartbeats 2000000 in
theorem keysOf_any (w : World) (cs ds : List Chg) (sp1 sp2 : Option Addr) (cap1 cap2 b1 o1 b2 o2 : Nat) (ms1 ms2 : List MC) (hC : Chs w sp1 cap1 cs b1 o1 ms1) (hD : Chs w sp2 cap2 ds b2 o2 ms2) (hl1 : cs.length ≤ 1000000000) (hl2 : ds.length ≤ 1000000000) :
    Calls Try.prog 22 #[.slice sp1 cs.length cap1, .slice sp2 ds.length cap2] w fun e w' => e = .returned (.int .i64 (keysN cs ds : Nat)) ∧ Below w.heap.size w w' := by
  have i0 : (cs.length : Int) ≤ 1000000000 := by omega
  have i9 : (ds.length : Int) ≤ 1000000000 := by omega
  have gk := keyGuard
  clear hl1 hl2
  go_enter Try.func22, Try.ntmps22
  go_wp2
  go_loopw [5, 6] (fun nv v wr => ∃ i : Nat, i ≤ ds.length ∧ v = .int .i64 i ∧ nv = .int .i64 (keysN cs (ds.take i) : Nat) ∧ Below w.heap.size w wr) (fun _ v _ => ds.length - (intOf v).toNat)
  case atStart => exact ⟨0, by omega, rfl, by simp [keysN], Below.refl _ _⟩
  case round =>
    obtain ⟨i, hi, rfl, rfl, hB0⟩ := hrel
    by_cases hlt : i < ds.length
    · have i1 : (i : Int) < (ds.length : Int) := by omega
      obtain ⟨hb2, rfl⟩ := hD.pos (by omega)
      obtain ⟨_, _, ri, _, _, _, _, li, _⟩ := hD.at i hlt
      have hii : (Try.prog.info? 24).map (·.size) = some (ints .u8 (ds.getD i dC).key).length := by rw [keySize, ints_len, li]
      have HST := hid (keysN_step cs ds i hlt)
      have HNL := hid (show keysN cs (ds.take i) ≤ cs.length + i by have := keysN_le cs (ds.take i); simp at this; omega)
      generalize keysN cs (ds.take i) = nk at *
      generalize hkk : (ds.getD i dC).key = ki at *
      clear hkk
      go_wp2
      go_loopw [7, 8] (fun mv v wr => ∃ (mt : Bool) (j : Nat), mv = .bool mt ∧ j ≤ cs.length ∧ v = .int .i64 j ∧ (mt = true ↔ ki ∈ keysC (cs.take j)) ∧ Below w.heap.size w wr) (fun _ v _ => cs.length - (intOf v).toNat)
      case atStart => exact ⟨false, 0, rfl, by omega, rfl, by simp [keysC], hB0⟩
      case round =>
        clear hB0
        obtain ⟨mt, j, rfl, hj, rfl, hmt, hB⟩ := hrel
        by_cases hlj : j < cs.length
        · have i2 : (j : Int) < (cs.length : Int) := by omega
          obtain ⟨hb1, rfl⟩ := hC.pos (by omega)
          obtain ⟨_, _, rj, _, _, _, _, lj, _⟩ := hC.at j hlj
          have hij : (Try.prog.info? 24).map (·.size) = some (ints .u8 (cs.getD j dC).key).length := by rw [keySize, ints_len, lj]
          have HMK := hid (mem_keys_take cs j hlj ki)
          by_cases he : (cs.getD j dC).key = ki
          · have HS := hid (show true = true ↔ ki ∈ keysC (cs.take (j + 1)) from ⟨fun _ => HMK.out.2 (Or.inr he), fun _ => rfl⟩)
            have qe : ∀ w, (Op.equalIn 10000 24 (.agg (ints .u8 (cs.getD j dC).key).toArray) (.agg (ints .u8 ki).toArray)).run Try.prog w = .ok true w := fun w => by rw [key_eq _ _ lj li, decide_eq_true he]
            clear he HMK hmt
            generalize (cs.getD j dC).key = kj at *
            go_wp2
            refine wp_region_noPanic ?_
            refine wp_region_held_drew (S := fun w' => Below w.heap.size w w') (by kernel_rfl) hB.drew (fun hHeld => ?_)
            refine wpAnyH_take (i := 0) (oi := { dst := some 23, op := Op.move (Operand.tmp 0), type := 29, pos := "outright.go:214", after := #[], guard := none }) (v := .slice (some ⟨b1, o1, none⟩) cs.length cap1) rfl (by kernel_rfl) (by kernel_rfl) (by kernel_rfl) (fun _ _ _ h => h) (Or.inl ⟨by rfl, by intro w hS; go_simp⟩) hHeld ?_
            try simp only [Act.put, List.setIfInBounds_toArray, List.set_cons_zero, List.set_cons_succ]
            refine wpAnyH_take (i := 1) (oi := { dst := some 24, op := Op.move (Operand.tmp 8), type := 3, pos := "outright.go:214", after := #[], guard := none }) (v := .int .i64 j) rfl (by kernel_rfl) (by kernel_rfl) (by kernel_rfl) (fun _ _ _ h => h) (Or.inl ⟨by rfl, by intro w hS; go_simp⟩) hHeld ?_
            try simp only [Act.put, List.setIfInBounds_toArray, List.set_cons_zero, List.set_cons_succ]
            refine wpAnyH_take (i := 5) (oi := { dst := some 28, op := Op.move (Operand.tmp 1), type := 29, pos := "outright.go:214", after := #[], guard := none }) (v := .slice (some ⟨b2, o2, none⟩) ds.length cap2) rfl (by kernel_rfl) (by kernel_rfl) (by kernel_rfl) (fun _ _ _ h => h) (Or.inl ⟨by rfl, by intro w hS; go_simp⟩) hHeld ?_
            try simp only [Act.put, List.setIfInBounds_toArray, List.set_cons_zero, List.set_cons_succ]
            refine wpAnyH_take (i := 6) (oi := { dst := some 29, op := Op.move (Operand.tmp 6), type := 3, pos := "outright.go:214", after := #[], guard := none }) (v := .int .i64 i) rfl (by kernel_rfl) (by kernel_rfl) (by kernel_rfl) (fun _ _ _ h => h) (Or.inl ⟨by rfl, by intro w hS; go_simp⟩) hHeld ?_
            try simp only [Act.put, List.setIfInBounds_toArray, List.set_cons_zero, List.set_cons_succ]
            refine wpAnyH_take (i := 2) (oi := { dst := some 25, op := Op.indexAddr 29 (Operand.tmp 23) (Operand.tmp 24), type := 0, pos := "outright.go:214", after := #[{ on := 0, ground := Ground.data }, { on := 1, ground := Ground.data }], guard := none }) (v := .pointer (some ⟨b1, o1 + j * 34, none⟩)) rfl (by kernel_rfl) (by kernel_rfl) (by kernel_rfl) (fun _ _ _ h => h) (Or.inl ⟨by rfl, by intro w hS; go_simp⟩) hHeld ?_
            try simp only [Act.put, List.setIfInBounds_toArray, List.set_cons_zero, List.set_cons_succ]
            refine wpAnyH_take (i := 7) (oi := { dst := some 30, op := Op.indexAddr 29 (Operand.tmp 28) (Operand.tmp 29), type := 0, pos := "outright.go:214", after := #[{ on := 5, ground := Ground.data }, { on := 6, ground := Ground.data }], guard := none }) (v := .pointer (some ⟨b2, o2 + i * 34, none⟩)) rfl (by kernel_rfl) (by kernel_rfl) (by kernel_rfl) (fun _ _ _ h => h) (Or.inl ⟨by rfl, by intro w hS; go_simp⟩) hHeld ?_
            try simp only [Act.put, List.setIfInBounds_toArray, List.set_cons_zero, List.set_cons_succ]
            refine wpAnyH_take (i := 3) (oi := { dst := some 26, op := Op.fieldAddr 40 (Operand.tmp 25) 0, type := 0, pos := "outright.go:214", after := #[{ on := 2, ground := Ground.data }], guard := none }) (v := .pointer (some ⟨b1, o1 + j * 34, none⟩)) rfl (by kernel_rfl) (by kernel_rfl) (by kernel_rfl) (fun _ _ _ h => h) (Or.inl ⟨by rfl, by intro w hS; go_simp⟩) hHeld ?_
            try simp only [Act.put, List.setIfInBounds_toArray, List.set_cons_zero, List.set_cons_succ]
            refine wpAnyH_take (i := 8) (oi := { dst := some 31, op := Op.fieldAddr 40 (Operand.tmp 30) 0, type := 0, pos := "outright.go:214", after := #[{ on := 7, ground := Ground.data }], guard := none }) (v := .pointer (some ⟨b2, o2 + i * 34, none⟩)) rfl (by kernel_rfl) (by kernel_rfl) (by kernel_rfl) (fun _ _ _ h => h) (Or.inl ⟨by rfl, by intro w hS; go_simp⟩) hHeld ?_
            try simp only [Act.put, List.setIfInBounds_toArray, List.set_cons_zero, List.set_cons_succ]
            refine wpAnyH_take (i := 4) (oi := { dst := some 27, op := Op.load 24 (Operand.tmp 26), type := 24, pos := "outright.go:214", after := #[{ on := 3, ground := Ground.data }], guard := none }) (v := .agg (ints .u8 kj).toArray) rfl (by kernel_rfl) (by kernel_rfl) (by kernel_rfl) (fun _ _ _ h => h) (yieldsIf_load_mid (by rfl) 24 _ rfl b1 (o1 + j * 34) rfl (ints .u8 kj) _ (fun w hS => rng_below rj hS hb1) Try.underlying24 rfl hij) hHeld ?_
            try simp only [Act.put, List.setIfInBounds_toArray, List.set_cons_zero, List.set_cons_succ]
            refine wpAnyH_take (i := 9) (oi := { dst := some 32, op := Op.load 24 (Operand.tmp 31), type := 24, pos := "outright.go:214", after := #[{ on := 8, ground := Ground.data }], guard := none }) (v := .agg (ints .u8 ki).toArray) rfl (by kernel_rfl) (by kernel_rfl) (by kernel_rfl) (fun _ _ _ h => h) (yieldsIf_load_mid (by rfl) 24 _ rfl b2 (o2 + i * 34) rfl (ints .u8 ki) _ (fun w hS => rng_below ri hS hb2) Try.underlying24 rfl hii) hHeld ?_
            try simp only [Act.put, List.setIfInBounds_toArray, List.set_cons_zero, List.set_cons_succ]
            refine wpAnyH_take (i := 10) (oi := { dst := some 33, op := Op.binOp BinOp.eql 24 (Operand.tmp 27) (Operand.tmp 32) 24, type := 4, pos := "outright.go:214", after := #[{ on := 4, ground := Ground.data }, { on := 9, ground := Ground.data }], guard := none }) (v := .bool true) rfl (by kernel_rfl) (by kernel_rfl) (by kernel_rfl) (fun _ _ _ h => h) (Or.inl ⟨by rfl, by intro w hS; go_simp⟩) hHeld ?_
            try simp only [Act.put, List.setIfInBounds_toArray, List.set_cons_zero, List.set_cons_succ]
            refine wpAnyH_done (by kernel_rfl) ?_ _
            refine NoPanic.normal ?_
            have hf := hHeld
            clear hHeld
            go_wp2
            go_roundw
            case rel => exact ⟨true, j + 1, rfl, by omega, by go_num, ⟨fun _ => HS.out.1 trivial, fun _ => rfl⟩, hf⟩
            case measure => simp [intOf]; omega
          · have HS := hid (show mt = true ↔ ki ∈ keysC (cs.take (j + 1)) from hmt.trans ⟨fun h => HMK.out.2 (Or.inl h), fun h => (HMK.out.1 h).resolve_right he⟩)
            have qe : ∀ w, (Op.equalIn 10000 24 (.agg (ints .u8 (cs.getD j dC).key).toArray) (.agg (ints .u8 ki).toArray)).run Try.prog w = .ok false w := fun w => by rw [key_eq _ _ lj li, decide_eq_false he]
            clear he HMK hmt
            generalize (cs.getD j dC).key = kj at *
            go_wp2
            refine wp_region_noPanic ?_
            refine wp_region_held_drew (S := fun w' => Below w.heap.size w w') (by kernel_rfl) hB.drew (fun hHeld => ?_)
            refine wpAnyH_take (i := 0) (oi := { dst := some 23, op := Op.move (Operand.tmp 0), type := 29, pos := "outright.go:214", after := #[], guard := none }) (v := .slice (some ⟨b1, o1, none⟩) cs.length cap1) rfl (by kernel_rfl) (by kernel_rfl) (by kernel_rfl) (fun _ _ _ h => h) (Or.inl ⟨by rfl, by intro w hS; go_simp⟩) hHeld ?_
            try simp only [Act.put, List.setIfInBounds_toArray, List.set_cons_zero, List.set_cons_succ]
            refine wpAnyH_take (i := 1) (oi := { dst := some 24, op := Op.move (Operand.tmp 8), type := 3, pos := "outright.go:214", after := #[], guard := none }) (v := .int .i64 j) rfl (by kernel_rfl) (by kernel_rfl) (by kernel_rfl) (fun _ _ _ h => h) (Or.inl ⟨by rfl, by intro w hS; go_simp⟩) hHeld ?_
            try simp only [Act.put, List.setIfInBounds_toArray, List.set_cons_zero, List.set_cons_succ]
            refine wpAnyH_take (i := 5) (oi := { dst := some 28, op := Op.move (Operand.tmp 1), type := 29, pos := "outright.go:214", after := #[], guard := none }) (v := .slice (some ⟨b2, o2, none⟩) ds.length cap2) rfl (by kernel_rfl) (by kernel_rfl) (by kernel_rfl) (fun _ _ _ h => h) (Or.inl ⟨by rfl, by intro w hS; go_simp⟩) hHeld ?_
            try simp only [Act.put, List.setIfInBounds_toArray, List.set_cons_zero, List.set_cons_succ]
            refine wpAnyH_take (i := 6) (oi := { dst := some 29, op := Op.move (Operand.tmp 6), type := 3, pos := "outright.go:214", after := #[], guard := none }) (v := .int .i64 i) rfl (by kernel_rfl) (by kernel_rfl) (by kernel_rfl) (fun _ _ _ h => h) (Or.inl ⟨by rfl, by intro w hS; go_simp⟩) hHeld ?_
            try simp only [Act.put, List.setIfInBounds_toArray, List.set_cons_zero, List.set_cons_succ]
            refine wpAnyH_take (i := 2) (oi := { dst := some 25, op := Op.indexAddr 29 (Operand.tmp 23) (Operand.tmp 24), type := 0, pos := "outright.go:214", after := #[{ on := 0, ground := Ground.data }, { on := 1, ground := Ground.data }], guard := none }) (v := .pointer (some ⟨b1, o1 + j * 34, none⟩)) rfl (by kernel_rfl) (by kernel_rfl) (by kernel_rfl) (fun _ _ _ h => h) (Or.inl ⟨by rfl, by intro w hS; go_simp⟩) hHeld ?_
            try simp only [Act.put, List.setIfInBounds_toArray, List.set_cons_zero, List.set_cons_succ]
            refine wpAnyH_take (i := 7) (oi := { dst := some 30, op := Op.indexAddr 29 (Operand.tmp 28) (Operand.tmp 29), type := 0, pos := "outright.go:214", after := #[{ on := 5, ground := Ground.data }, { on := 6, ground := Ground.data }], guard := none }) (v := .pointer (some ⟨b2, o2 + i * 34, none⟩)) rfl (by kernel_rfl) (by kernel_rfl) (by kernel_rfl) (fun _ _ _ h => h) (Or.inl ⟨by rfl, by intro w hS; go_simp⟩) hHeld ?_
            try simp only [Act.put, List.setIfInBounds_toArray, List.set_cons_zero, List.set_cons_succ]
            refine wpAnyH_take (i := 3) (oi := { dst := some 26, op := Op.fieldAddr 40 (Operand.tmp 25) 0, type := 0, pos := "outright.go:214", after := #[{ on := 2, ground := Ground.data }], guard := none }) (v := .pointer (some ⟨b1, o1 + j * 34, none⟩)) rfl (by kernel_rfl) (by kernel_rfl) (by kernel_rfl) (fun _ _ _ h => h) (Or.inl ⟨by rfl, by intro w hS; go_simp⟩) hHeld ?_
            try simp only [Act.put, List.setIfInBounds_toArray, List.set_cons_zero, List.set_cons_succ]
            refine wpAnyH_take (i := 8) (oi := { dst := some 31, op := Op.fieldAddr 40 (Operand.tmp 30) 0, type := 0, pos := "outright.go:214", after := #[{ on := 7, ground := Ground.data }], guard := none }) (v := .pointer (some ⟨b2, o2 + i * 34, none⟩)) rfl (by kernel_rfl) (by kernel_rfl) (by kernel_rfl) (fun _ _ _ h => h) (Or.inl ⟨by rfl, by intro w hS; go_simp⟩) hHeld ?_
            try simp only [Act.put, List.setIfInBounds_toArray, List.set_cons_zero, List.set_cons_succ]
            refine wpAnyH_take (i := 4) (oi := { dst := some 27, op := Op.load 24 (Operand.tmp 26), type := 24, pos := "outright.go:214", after := #[{ on := 3, ground := Ground.data }], guard := none }) (v := .agg (ints .u8 kj).toArray) rfl (by kernel_rfl) (by kernel_rfl) (by kernel_rfl) (fun _ _ _ h => h) (yieldsIf_load_mid (by rfl) 24 _ rfl b1 (o1 + j * 34) rfl (ints .u8 kj) _ (fun w hS => rng_below rj hS hb1) Try.underlying24 rfl hij) hHeld ?_
            try simp only [Act.put, List.setIfInBounds_toArray, List.set_cons_zero, List.set_cons_succ]
            refine wpAnyH_take (i := 9) (oi := { dst := some 32, op := Op.load 24 (Operand.tmp 31), type := 24, pos := "outright.go:214", after := #[{ on := 8, ground := Ground.data }], guard := none }) (v := .agg (ints .u8 ki).toArray) rfl (by kernel_rfl) (by kernel_rfl) (by kernel_rfl) (fun _ _ _ h => h) (yieldsIf_load_mid (by rfl) 24 _ rfl b2 (o2 + i * 34) rfl (ints .u8 ki) _ (fun w hS => rng_below ri hS hb2) Try.underlying24 rfl hii) hHeld ?_
            try simp only [Act.put, List.setIfInBounds_toArray, List.set_cons_zero, List.set_cons_succ]
            refine wpAnyH_take (i := 10) (oi := { dst := some 33, op := Op.binOp BinOp.eql 24 (Operand.tmp 27) (Operand.tmp 32) 24, type := 4, pos := "outright.go:214", after := #[{ on := 4, ground := Ground.data }, { on := 9, ground := Ground.data }], guard := none }) (v := .bool false) rfl (by kernel_rfl) (by kernel_rfl) (by kernel_rfl) (fun _ _ _ h => h) (Or.inl ⟨by rfl, by intro w hS; go_simp⟩) hHeld ?_
            try simp only [Act.put, List.setIfInBounds_toArray, List.set_cons_zero, List.set_cons_succ]
            refine wpAnyH_done (by kernel_rfl) ?_ _
            refine NoPanic.normal ?_
            have hf := hHeld
            clear hHeld
            go_wp2
            go_roundw
            case rel => exact ⟨mt, j + 1, rfl, by omega, by go_num, HS.out, hf⟩
            case measure => simp [intOf]; omega
        · obtain rfl : j = cs.length := by omega
          rw [List.take_length] at hmt
          have HMT := hid hmt
          clear hmt
          cases mt with
          | true =>
            have HE := hid (show keysN cs (ds.take (i + 1)) = nk by rw [HST.out, if_pos (HMT.out.1 rfl), Nat.add_zero])
            clear HST HMT hlj
            go_wp2
            go_roundw
            case rel => exact ⟨i + 1, by omega, by go_num, by rw [HE.out], hB⟩
            case measure => simp [intOf]; omega
          | false =>
            have HE := hid (show keysN cs (ds.take (i + 1)) = nk + 1 by rw [HST.out, if_neg (fun h => by have := HMT.out.2 h; cases this)])
            have i5 : (nk : Int) ≤ 2000000000 := by have := HNL.out; omega
            clear HST HMT hlj HNL
            go_wp2
            go_roundw
            case rel => exact ⟨i + 1, by omega, by go_num, by rw [HE.out]; go_num, hB⟩
            case measure => simp [intOf]; omega
    · obtain rfl : i = ds.length := by omega
      rw [List.take_length]
      clear hlt
      generalize hnk : keysN cs ds = nk at *
      have HNK := hid hnk
      clear hnk
      go_wp2
      go_ret
      exact ⟨by rw [HNK.out]; rfl, hB0⟩
end Go.Proofs.Ytcifbnldohmbnaa
