import Derived.Test.YtcifbnldohmbnabCw
namespace Go.Proofs.Ytcifbnldohmbnab
set_option linter.unusedVariables false
set_option linter.unusedSimpArgs false
open Go.RowKit
attribute [local go_sem ↓] Go.wp_at_zero Go.wp_at_succ

set_option maxRecDepth 100000 in
set_option maxHeartbeats 400000 in
theorem rbytes_any (w : World) (zs : List Int) (sp : Option Addr) (cap : Nat) (hS : Src w sp cap zs) (hlen : zs.length ≤ 140737488355000) :
    Calls Try.prog 61 #[.slice sp zs.length cap] w fun e w' => ∃ v, e = .returned v ∧ Own w' w.heap.size v zs ∧ Below w.heap.size w w' := by
  obtain ⟨hc, hm, b, o, hb, hsp, hsrc⟩ := hS
  have hO := Own.nil w w.heap.size
  have i0 : (zs.length : Int) ≤ 140737488355000 := by omega
  go_enter Try.func61, Try.ntmps61
  go_wp2
  go_loopw [3, 4] (fun v i wr => ∃ k : Nat, k ≤ zs.length ∧ i = .int .i64 k ∧ Own wr w.heap.size v (zs.take k) ∧ Below w.heap.size w wr) (fun _ i _ => zs.length - (intOf i).toNat)
  case atStart => exact ⟨0, by omega, rfl, hO, Below.refl _ _⟩
  case round =>
    clear hO
    obtain ⟨k, hk, rfl, hO, hB⟩ := hrel
    by_cases hlt : k < zs.length
    · have i1 : (k : Int) < (zs.length : Int) := by omega
      obtain rfl := hsp (by omega)
      have c0 := (hB.cell (p := ⟨b, o + k, none⟩) (hb (by omega))).trans (hsrc k hlt)
      have HT := hid (show zs.take (k + 1) = zs.take k ++ [zs.getD k 0] by
        rw [List.take_succ_eq_append_getElem hlt, List.getD_eq_getElem?_getD, List.getElem?_eq_getElem hlt]; rfl)
      have KL := hid (show (zs.take k).length + 1 ≤ 140737488355328 by rw [List.length_take]; omega)
      generalize zs.getD k 0 = x at *
      generalize zs.take k = zk at *
      go_wp2_with (first | (at_builtin; refine wpList_push_any rfl (.tmp 11) (.tmp 16) rfl w.heap.size _ _ x rfl hO rfl KL.out hB.size _ _ ?_; intro v2 w2 hO2 hB2))
      go_roundw
      case rel => exact ⟨k + 1, by omega, by go_num, (by rw [HT.out]; exact hO2), hB.trans hB2⟩
      case measure => simp [intOf]; omega
    · obtain rfl : k = zs.length := by omega
      rw [List.take_length] at hO
      clear hlt
      go_wp2
      go_ret
      exact ⟨_, rfl, hO, hB⟩

/-- The place that the document's own twice tells. -/
def rtw (ks : List (List Int)) : Int := if twiceK ks < ks.length then (twiceK ks : Int) else -1
set_option maxRecDepth 100000 in
set_option maxHeartbeats 1000000 in
theorem rtwice_any (w : World) (cs : List Chg) (sp : Option Addr) (cap b o : Nat) (ms : List MC) (hC : Chs w sp cap cs b o ms) :
    Calls Try.prog 45 #[.slice sp cs.length cap] w fun e w' => e = .returned (.int .i64 (rtw (keysC cs))) ∧ Below w.heap.size w w' := by
  have hm := hC.mx
  have hle := hC.le
  unfold maxLen at hm
  have i0 : (cs.length : Int) ≤ 9223372036854775807 := by omega
  have gk := keyGuard
  go_enter Try.func45, Try.ntmps45
  go_wp2
  go_loopw [3] (fun v wr => ∃ i : Nat, i ≤ cs.length ∧ v = .int .i64 i ∧ (∀ i', i' < i → (keysC cs).getD i' [] ∉ (keysC cs).take i') ∧ Below w.heap.size w wr) (fun v _ => cs.length - (intOf v).toNat)
  case atStart => exact ⟨0, by omega, rfl, fun i' h => by omega, Below.refl _ _⟩
  case round =>
    obtain ⟨i, hi, rfl, hfr, hB0⟩ := hrel
    by_cases hlt : i < cs.length
    · have i1 : (i : Int) < (cs.length : Int) := by omega
      obtain ⟨hb, rfl⟩ := hC.pos (by omega)
      obtain ⟨_, _, ri, _, _, _, _, li, _⟩ := hC.at i hlt
      have hii : (Try.prog.info? 26).map (·.size) = some (ints .u8 (cs.getD i dC).key).length := by rw [keySize, ints_len, li]
      go_wp2
      go_loopw [4] (fun v wr => ∃ j : Nat, j ≤ i ∧ v = .int .i64 j ∧ (∀ j', j' < j → (cs.getD j' dC).key ≠ (cs.getD i dC).key) ∧ Below w.heap.size w wr) (fun v _ => i - (intOf v).toNat)
      case atStart => exact ⟨0, by omega, rfl, fun j' h => by omega, hB0⟩
      case round =>
        clear hB0
        obtain ⟨j, hj, rfl, hne, hB⟩ := hrel
        by_cases hlj : j < i
        · have i2 : (j : Int) < (i : Int) := by omega
          have i3 : (j : Int) < (cs.length : Int) := by omega
          obtain ⟨_, _, rj, _, _, _, _, lj, _⟩ := hC.at j (by omega)
          have hij : (Try.prog.info? 26).map (·.size) = some (ints .u8 (cs.getD j dC).key).length := by rw [keySize, ints_len, lj]
          by_cases he : (cs.getD j dC).key = (cs.getD i dC).key
          · have HTW := hid (show rtw (keysC cs) = (i : Int) by
              have e : twiceK (keysC cs) = i := twiceK_some (by simp [keysC]; omega) ((mem_take_keys cs i hlt).2 ⟨j, hlj, he⟩) hfr
              unfold rtw
              rw [e, if_pos (by simp [keysC]; omega)])
            have qe : ∀ w, (Op.equalIn 10000 26 (.agg (ints .u8 (cs.getD i dC).key).toArray) (.agg (ints .u8 (cs.getD j dC).key).toArray)).run Try.prog w = .ok true w := fun w => by rw [key_eq _ _ li lj, decide_eq_true he.symm]
            clear hne hfr he
            generalize (cs.getD j dC).key = kj at *
            generalize (cs.getD i dC).key = ki at *
            go_wp2
            refine wp_region_noPanic ?_
            refine wp_region_held_drew (S := fun w' => Below w.heap.size w w') (by kernel_rfl) hB.drew (fun hHeld => ?_)
            refine wpAnyH_take (i := 0) (oi := { dst := some 16, op := Op.move (Operand.tmp 0), type := 28, pos := "ref.go:77", after := #[], guard := none }) (v := .slice (some ⟨b, o, none⟩) cs.length cap) rfl (by kernel_rfl) (by kernel_rfl) (by kernel_rfl) (fun _ _ _ h => h) (Or.inl ⟨by rfl, by intro w hS; go_simp⟩) hHeld ?_
            try simp only [Act.put, List.setIfInBounds_toArray, List.set_cons_zero, List.set_cons_succ]
            refine wpAnyH_take (i := 1) (oi := { dst := some 17, op := Op.move (Operand.tmp 3), type := 3, pos := "ref.go:77", after := #[], guard := none }) (v := .int .i64 i) rfl (by kernel_rfl) (by kernel_rfl) (by kernel_rfl) (fun _ _ _ h => h) (Or.inl ⟨by rfl, by intro w hS; go_simp⟩) hHeld ?_
            try simp only [Act.put, List.setIfInBounds_toArray, List.set_cons_zero, List.set_cons_succ]
            refine wpAnyH_take (i := 5) (oi := { dst := some 21, op := Op.move (Operand.tmp 0), type := 28, pos := "ref.go:77", after := #[], guard := none }) (v := .slice (some ⟨b, o, none⟩) cs.length cap) rfl (by kernel_rfl) (by kernel_rfl) (by kernel_rfl) (fun _ _ _ h => h) (Or.inl ⟨by rfl, by intro w hS; go_simp⟩) hHeld ?_
            try simp only [Act.put, List.setIfInBounds_toArray, List.set_cons_zero, List.set_cons_succ]
            refine wpAnyH_take (i := 6) (oi := { dst := some 22, op := Op.move (Operand.tmp 4), type := 3, pos := "ref.go:77", after := #[], guard := none }) (v := .int .i64 j) rfl (by kernel_rfl) (by kernel_rfl) (by kernel_rfl) (fun _ _ _ h => h) (Or.inl ⟨by rfl, by intro w hS; go_simp⟩) hHeld ?_
            try simp only [Act.put, List.setIfInBounds_toArray, List.set_cons_zero, List.set_cons_succ]
            refine wpAnyH_take (i := 2) (oi := { dst := some 18, op := Op.indexAddr 28 (Operand.tmp 16) (Operand.tmp 17), type := 0, pos := "ref.go:77", after := #[{ on := 0, ground := Ground.data }, { on := 1, ground := Ground.data }], guard := none }) (v := .pointer (some ⟨b, o + i * 34, none⟩)) rfl (by kernel_rfl) (by kernel_rfl) (by kernel_rfl) (fun _ _ _ h => h) (Or.inl ⟨by rfl, by intro w hS; go_simp⟩) hHeld ?_
            try simp only [Act.put, List.setIfInBounds_toArray, List.set_cons_zero, List.set_cons_succ]
            refine wpAnyH_take (i := 7) (oi := { dst := some 23, op := Op.indexAddr 28 (Operand.tmp 21) (Operand.tmp 22), type := 0, pos := "ref.go:77", after := #[{ on := 5, ground := Ground.data }, { on := 6, ground := Ground.data }], guard := none }) (v := .pointer (some ⟨b, o + j * 34, none⟩)) rfl (by kernel_rfl) (by kernel_rfl) (by kernel_rfl) (fun _ _ _ h => h) (Or.inl ⟨by rfl, by intro w hS; go_simp⟩) hHeld ?_
            try simp only [Act.put, List.setIfInBounds_toArray, List.set_cons_zero, List.set_cons_succ]
            refine wpAnyH_take (i := 3) (oi := { dst := some 19, op := Op.fieldAddr 52 (Operand.tmp 18) 0, type := 0, pos := "ref.go:77", after := #[{ on := 2, ground := Ground.data }], guard := none }) (v := .pointer (some ⟨b, o + i * 34, none⟩)) rfl (by kernel_rfl) (by kernel_rfl) (by kernel_rfl) (fun _ _ _ h => h) (Or.inl ⟨by rfl, by intro w hS; go_simp⟩) hHeld ?_
            try simp only [Act.put, List.setIfInBounds_toArray, List.set_cons_zero, List.set_cons_succ]
            refine wpAnyH_take (i := 8) (oi := { dst := some 24, op := Op.fieldAddr 52 (Operand.tmp 23) 0, type := 0, pos := "ref.go:77", after := #[{ on := 7, ground := Ground.data }], guard := none }) (v := .pointer (some ⟨b, o + j * 34, none⟩)) rfl (by kernel_rfl) (by kernel_rfl) (by kernel_rfl) (fun _ _ _ h => h) (Or.inl ⟨by rfl, by intro w hS; go_simp⟩) hHeld ?_
            try simp only [Act.put, List.setIfInBounds_toArray, List.set_cons_zero, List.set_cons_succ]
            refine wpAnyH_take (i := 4) (oi := { dst := some 20, op := Op.load 26 (Operand.tmp 19), type := 26, pos := "ref.go:77", after := #[{ on := 3, ground := Ground.data }], guard := none }) (v := .agg (ints .u8 ki).toArray) rfl (by kernel_rfl) (by kernel_rfl) (by kernel_rfl) (fun _ _ _ h => h) (yieldsIf_load_mid (by rfl) 26 _ rfl b (o + i * 34) rfl (ints .u8 ki) _ (fun w hS => rng_below ri hS hb) Try.underlying26 rfl hii) hHeld ?_
            try simp only [Act.put, List.setIfInBounds_toArray, List.set_cons_zero, List.set_cons_succ]
            refine wpAnyH_take (i := 9) (oi := { dst := some 25, op := Op.load 26 (Operand.tmp 24), type := 26, pos := "ref.go:77", after := #[{ on := 8, ground := Ground.data }], guard := none }) (v := .agg (ints .u8 kj).toArray) rfl (by kernel_rfl) (by kernel_rfl) (by kernel_rfl) (fun _ _ _ h => h) (yieldsIf_load_mid (by rfl) 26 _ rfl b (o + j * 34) rfl (ints .u8 kj) _ (fun w hS => rng_below rj hS hb) Try.underlying26 rfl hij) hHeld ?_
            try simp only [Act.put, List.setIfInBounds_toArray, List.set_cons_zero, List.set_cons_succ]
            refine wpAnyH_take (i := 10) (oi := { dst := some 26, op := Op.binOp BinOp.eql 26 (Operand.tmp 20) (Operand.tmp 25) 26, type := 4, pos := "ref.go:77", after := #[{ on := 4, ground := Ground.data }, { on := 9, ground := Ground.data }], guard := none }) (v := .bool true) rfl (by kernel_rfl) (by kernel_rfl) (by kernel_rfl) (fun _ _ _ h => h) (Or.inl ⟨by rfl, by intro w hS; go_simp⟩) hHeld ?_
            try simp only [Act.put, List.setIfInBounds_toArray, List.set_cons_zero, List.set_cons_succ]
            refine wpAnyH_done (by kernel_rfl) ?_ _
            refine NoPanic.normal ?_
            have hf := hHeld
            clear hHeld
            go_wp2
            go_ret
            exact ⟨by rw [HTW.out]; rfl, hf⟩
          · have HS := hid (show ∀ j', j' < j + 1 → (cs.getD j' dC).key ≠ (cs.getD i dC).key from fun j' h => by rcases Nat.lt_succ_iff_lt_or_eq.1 h with h | rfl; exact hne j' h; exact he)
            have qe : ∀ w, (Op.equalIn 10000 26 (.agg (ints .u8 (cs.getD i dC).key).toArray) (.agg (ints .u8 (cs.getD j dC).key).toArray)).run Try.prog w = .ok false w := fun w => by rw [key_eq _ _ li lj, decide_eq_false (fun e => he e.symm)]
            clear hne he
            generalize hkj : (cs.getD j dC).key = kj at *
            generalize hki : (cs.getD i dC).key = ki at *
            clear hkj
            go_wp2
            refine wp_region_noPanic ?_
            refine wp_region_held_drew (S := fun w' => Below w.heap.size w w') (by kernel_rfl) hB.drew (fun hHeld => ?_)
            refine wpAnyH_take (i := 0) (oi := { dst := some 16, op := Op.move (Operand.tmp 0), type := 28, pos := "ref.go:77", after := #[], guard := none }) (v := .slice (some ⟨b, o, none⟩) cs.length cap) rfl (by kernel_rfl) (by kernel_rfl) (by kernel_rfl) (fun _ _ _ h => h) (Or.inl ⟨by rfl, by intro w hS; go_simp⟩) hHeld ?_
            try simp only [Act.put, List.setIfInBounds_toArray, List.set_cons_zero, List.set_cons_succ]
            refine wpAnyH_take (i := 1) (oi := { dst := some 17, op := Op.move (Operand.tmp 3), type := 3, pos := "ref.go:77", after := #[], guard := none }) (v := .int .i64 i) rfl (by kernel_rfl) (by kernel_rfl) (by kernel_rfl) (fun _ _ _ h => h) (Or.inl ⟨by rfl, by intro w hS; go_simp⟩) hHeld ?_
            try simp only [Act.put, List.setIfInBounds_toArray, List.set_cons_zero, List.set_cons_succ]
            refine wpAnyH_take (i := 5) (oi := { dst := some 21, op := Op.move (Operand.tmp 0), type := 28, pos := "ref.go:77", after := #[], guard := none }) (v := .slice (some ⟨b, o, none⟩) cs.length cap) rfl (by kernel_rfl) (by kernel_rfl) (by kernel_rfl) (fun _ _ _ h => h) (Or.inl ⟨by rfl, by intro w hS; go_simp⟩) hHeld ?_
            try simp only [Act.put, List.setIfInBounds_toArray, List.set_cons_zero, List.set_cons_succ]
            refine wpAnyH_take (i := 6) (oi := { dst := some 22, op := Op.move (Operand.tmp 4), type := 3, pos := "ref.go:77", after := #[], guard := none }) (v := .int .i64 j) rfl (by kernel_rfl) (by kernel_rfl) (by kernel_rfl) (fun _ _ _ h => h) (Or.inl ⟨by rfl, by intro w hS; go_simp⟩) hHeld ?_
            try simp only [Act.put, List.setIfInBounds_toArray, List.set_cons_zero, List.set_cons_succ]
            refine wpAnyH_take (i := 2) (oi := { dst := some 18, op := Op.indexAddr 28 (Operand.tmp 16) (Operand.tmp 17), type := 0, pos := "ref.go:77", after := #[{ on := 0, ground := Ground.data }, { on := 1, ground := Ground.data }], guard := none }) (v := .pointer (some ⟨b, o + i * 34, none⟩)) rfl (by kernel_rfl) (by kernel_rfl) (by kernel_rfl) (fun _ _ _ h => h) (Or.inl ⟨by rfl, by intro w hS; go_simp⟩) hHeld ?_
            try simp only [Act.put, List.setIfInBounds_toArray, List.set_cons_zero, List.set_cons_succ]
            refine wpAnyH_take (i := 7) (oi := { dst := some 23, op := Op.indexAddr 28 (Operand.tmp 21) (Operand.tmp 22), type := 0, pos := "ref.go:77", after := #[{ on := 5, ground := Ground.data }, { on := 6, ground := Ground.data }], guard := none }) (v := .pointer (some ⟨b, o + j * 34, none⟩)) rfl (by kernel_rfl) (by kernel_rfl) (by kernel_rfl) (fun _ _ _ h => h) (Or.inl ⟨by rfl, by intro w hS; go_simp⟩) hHeld ?_
            try simp only [Act.put, List.setIfInBounds_toArray, List.set_cons_zero, List.set_cons_succ]
            refine wpAnyH_take (i := 3) (oi := { dst := some 19, op := Op.fieldAddr 52 (Operand.tmp 18) 0, type := 0, pos := "ref.go:77", after := #[{ on := 2, ground := Ground.data }], guard := none }) (v := .pointer (some ⟨b, o + i * 34, none⟩)) rfl (by kernel_rfl) (by kernel_rfl) (by kernel_rfl) (fun _ _ _ h => h) (Or.inl ⟨by rfl, by intro w hS; go_simp⟩) hHeld ?_
            try simp only [Act.put, List.setIfInBounds_toArray, List.set_cons_zero, List.set_cons_succ]
            refine wpAnyH_take (i := 8) (oi := { dst := some 24, op := Op.fieldAddr 52 (Operand.tmp 23) 0, type := 0, pos := "ref.go:77", after := #[{ on := 7, ground := Ground.data }], guard := none }) (v := .pointer (some ⟨b, o + j * 34, none⟩)) rfl (by kernel_rfl) (by kernel_rfl) (by kernel_rfl) (fun _ _ _ h => h) (Or.inl ⟨by rfl, by intro w hS; go_simp⟩) hHeld ?_
            try simp only [Act.put, List.setIfInBounds_toArray, List.set_cons_zero, List.set_cons_succ]
            refine wpAnyH_take (i := 4) (oi := { dst := some 20, op := Op.load 26 (Operand.tmp 19), type := 26, pos := "ref.go:77", after := #[{ on := 3, ground := Ground.data }], guard := none }) (v := .agg (ints .u8 ki).toArray) rfl (by kernel_rfl) (by kernel_rfl) (by kernel_rfl) (fun _ _ _ h => h) (yieldsIf_load_mid (by rfl) 26 _ rfl b (o + i * 34) rfl (ints .u8 ki) _ (fun w hS => rng_below ri hS hb) Try.underlying26 rfl hii) hHeld ?_
            try simp only [Act.put, List.setIfInBounds_toArray, List.set_cons_zero, List.set_cons_succ]
            refine wpAnyH_take (i := 9) (oi := { dst := some 25, op := Op.load 26 (Operand.tmp 24), type := 26, pos := "ref.go:77", after := #[{ on := 8, ground := Ground.data }], guard := none }) (v := .agg (ints .u8 kj).toArray) rfl (by kernel_rfl) (by kernel_rfl) (by kernel_rfl) (fun _ _ _ h => h) (yieldsIf_load_mid (by rfl) 26 _ rfl b (o + j * 34) rfl (ints .u8 kj) _ (fun w hS => rng_below rj hS hb) Try.underlying26 rfl hij) hHeld ?_
            try simp only [Act.put, List.setIfInBounds_toArray, List.set_cons_zero, List.set_cons_succ]
            refine wpAnyH_take (i := 10) (oi := { dst := some 26, op := Op.binOp BinOp.eql 26 (Operand.tmp 20) (Operand.tmp 25) 26, type := 4, pos := "ref.go:77", after := #[{ on := 4, ground := Ground.data }, { on := 9, ground := Ground.data }], guard := none }) (v := .bool false) rfl (by kernel_rfl) (by kernel_rfl) (by kernel_rfl) (fun _ _ _ h => h) (Or.inl ⟨by rfl, by intro w hS; go_simp⟩) hHeld ?_
            try simp only [Act.put, List.setIfInBounds_toArray, List.set_cons_zero, List.set_cons_succ]
            refine wpAnyH_done (by kernel_rfl) ?_ _
            refine NoPanic.normal ?_
            have hf := hHeld
            clear hHeld
            go_wp2
            go_roundw
            case rel => exact ⟨j + 1, by omega, by go_num, HS.out, hf⟩
            case measure => simp [intOf]; omega
        · obtain rfl : j = i := by omega
          have HF := hid (show ∀ i', i' < j + 1 → (keysC cs).getD i' [] ∉ (keysC cs).take i' from fun i' h => by
            rcases Nat.lt_succ_iff_lt_or_eq.1 h with h | rfl
            · exact hfr i' h
            · rw [mem_take_keys cs i' hlt]; rintro ⟨j', h1, h2⟩; exact hne j' h1 h2)
          clear hne hlj
          go_wp2
          go_roundw
          case rel => exact ⟨j + 1, by omega, by go_num, HF.out, hB⟩
          case measure => simp [intOf]; omega
    · obtain rfl : i = cs.length := by omega
      have HTW := hid (show rtw (keysC cs) = -1 by
        unfold rtw; rw [twiceK_none (fun i h => hfr i (by simpa [keysC] using h)), if_neg (Nat.lt_irrefl _)])
      clear hlt hfr
      go_wp2
      go_ret
      exact ⟨by rw [HTW.out]; rfl, hB0⟩
end Go.Proofs.Ytcifbnldohmbnab
