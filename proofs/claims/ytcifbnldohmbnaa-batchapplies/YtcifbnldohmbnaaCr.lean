import Derived.Test.YtcifbnldohmbnaaCq
import Derived.WalkMore
namespace Go.Proofs.Ytcifbnldohmbnaa
set_option linter.unusedVariables false
set_option linter.unusedSimpArgs false
open Go.RowKit
attribute [local go_sem ↓] Go.wp_at_zero Go.wp_at_succ

def boundC (cs : List Chg) (n : Int) : Int := if n < (cs.length : Int) then 31 else if longC cs then 32 else 0
theorem long_split (cs : List Chg) (k : Nat) (hk : k < cs.length) (hl : longC (cs.take k) = false) : longC (cs.take (k + 1)) = (!(cs.getD k dC).del && decide (128 < (cs.getD k dC).val.length)) := by
  rw [take_snoc cs k hk]
  unfold longC at hl ⊢
  rw [List.any_append, hl]
  simp
theorem long_of_take (cs : List Chg) (k : Nat) (h : longC (cs.take k) = true) : longC cs = true := by
  unfold longC at h ⊢
  rw [List.any_eq_true] at h ⊢
  obtain ⟨x, hx, h2⟩ := h
  exact ⟨x, List.mem_of_mem_take hx, h2⟩
set_option maxRecDepth 100000 in
set_option maxHeartbeats 1000000 in
theorem bounds_any (w : World) (cs : List Chg) (sp : Option Addr) (cap b o : Nat) (ms : List MC) (hC : Chs w sp cap cs b o ms) (n : Int) :
    Calls Try.prog 37 #[.slice sp cs.length cap, .int .i64 n] w fun e w' => e = .returned (.int .i64 (boundC cs n)) ∧ Below w.heap.size w w' := by
  have hm := hC.mx
  have hle := hC.le
  unfold maxLen at hm
  have i0 : (cs.length : Int) ≤ 9223372036854775807 := by omega
  go_enter Try.func37, Try.ntmps37
  by_cases hn : n < (cs.length : Int)
  · have HR := hid (show boundC cs n = 31 by unfold boundC; rw [if_pos hn])
    go_wp2
    go_ret
    exact ⟨by rw [HR.out]; rfl, Below.refl _ _⟩
  · have HR := hid (show boundC cs n = if longC cs then 32 else 0 by unfold boundC; rw [if_neg hn])
    have hn' : (cs.length : Int) ≤ n := by omega
    go_wp2
    go_loopw [13] (fun i wr => ∃ k : Nat, k ≤ cs.length ∧ i = .int .i64 k ∧ longC (cs.take k) = false ∧ Below w.heap.size w wr) (fun i _ => cs.length - (intOf i).toNat)
    case atStart => exact ⟨0, by omega, rfl, rfl, Below.refl _ _⟩
    case round =>
      obtain ⟨k, hk, rfl, hlg, hB⟩ := hrel
      by_cases hlt : k < cs.length
      · have i1 : (k : Int) < (cs.length : Int) := by omega
        obtain ⟨hb, rfl⟩ := hC.pos (by omega)
        have rg := rng_below (hC.rd k hlt) hB hb
        have hs := hC.says.2 k hlt
        have HLS := hid (long_split cs k hlt hlg)
        have HLT := hid (long_of_take cs (k + 1))
        have oo := hs.one
        have SO := hid (show (encM (ms.getD k dM)).toArray.size = 34 by simpa using hs.len)
        have hio : (Try.prog.info? 40).map (·.size) = some (encM (ms.getD k dM)).length := by rw [chgSize, hs.len]
        have g1 := hnew wr (.cells (encM (ms.getD k dM)).toArray 40)
        have g2 : Below w.heap.size w (wr.alloc (.cells (encM (ms.getD k dM)).toArray 40)) := hB.alloc hB.size _
        have c1 := enc_del hs g1
        have c2 := enc_val hs g1
        obtain ⟨_, _, _, sp', cap', e4, _, hsv⟩ := hs
        have hvm := hsv.2.1
        have hvl := hsv.1
        unfold maxLen at hvm
        rw [e4] at c2
        clear hsv e4
        generalize ms.getD k dM = m at *
        generalize cs.getD k dC = c at *
        have i2 : (c.val.length : Int) ≤ 9223372036854775807 := by omega
        cases hdl : c.del with
        | true =>
          rw [hdl] at c1 HLS
          go_wp2_with (first
            | refine wpList_load_mid rfl 40 _ rfl b (o + k * 34) rfl (encM m) _ rg Try.underlying40 rfl hio ?_
            | (refine wpList_store_row rfl 40 _ _ rfl _ _ rfl rfl 40 _ (by exact hnew _ _) (by rw [chgSize, SO.out]) (by rw [SO.out]; rfl) (all_oneCell_toArray oo) ?_; rw [setRow_alloc]))
          go_roundw
          case rel => exact ⟨k + 1, by omega, by go_num, (by rw [HLS.out]; rfl), g2⟩
          case measure => simp [intOf]; omega
        | false =>
          rw [hdl] at c1 HLS
          by_cases hvv : 128 < c.val.length
          · have i3 : (128 : Int) < (c.val.length : Int) := by omega
            have HRR := hid (show boundC cs n = 32 by rw [HR.out, if_pos (HLT.out (by rw [HLS.out]; simp [hvv]))])
            go_wp2_with (first
              | refine wpList_load_mid rfl 40 _ rfl b (o + k * 34) rfl (encM m) _ rg Try.underlying40 rfl hio ?_
              | (refine wpList_store_row rfl 40 _ _ rfl _ _ rfl rfl 40 _ (by exact hnew _ _) (by rw [chgSize, SO.out]) (by rw [SO.out]; rfl) (all_oneCell_toArray oo) ?_; rw [setRow_alloc]))
            go_ret
            exact ⟨by rw [HRR.out]; rfl, g2⟩
          · have i3 : ¬ (128 : Int) < (c.val.length : Int) := by omega
            have HLF := hid (show longC (cs.take (k + 1)) = false by rw [HLS.out]; simp [hvv])
            clear hvv
            go_wp2_with (first
              | refine wpList_load_mid rfl 40 _ rfl b (o + k * 34) rfl (encM m) _ rg Try.underlying40 rfl hio ?_
              | (refine wpList_store_row rfl 40 _ _ rfl _ _ rfl rfl 40 _ (by exact hnew _ _) (by rw [chgSize, SO.out]) (by rw [SO.out]; rfl) (all_oneCell_toArray oo) ?_; rw [setRow_alloc]))
            go_roundw
            case rel => exact ⟨k + 1, by omega, by go_num, HLF.out, g2⟩
            case measure => simp [intOf]; omega
      · obtain rfl : k = cs.length := by omega
        rw [List.take_length] at hlg
        have HRR := hid (show boundC cs n = 0 by rw [HR.out, hlg]; rfl)
        clear hlt
        go_wp2
        go_ret
        exact ⟨by rw [HRR.out]; rfl, hB⟩
theorem keysC_getD (cs : List Chg) (i : Nat) (hi : i < cs.length) : (keysC cs).getD i [] = (cs.getD i dC).key := by
  simp [keysC, List.getD_eq_getElem?_getD, List.getElem?_eq_getElem hi]
theorem mem_take_keys (cs : List Chg) (i : Nat) (hi : i < cs.length) : (keysC cs).getD i [] ∈ (keysC cs).take i ↔ ∃ j, j < i ∧ (cs.getD j dC).key = (cs.getD i dC).key := by
  rw [keysC_getD cs i hi, List.mem_take_iff_getElem]
  constructor
  · rintro ⟨j, hj, e⟩
    have hj2 : j < cs.length := by simp [keysC] at hj; omega
    exact ⟨j, by omega, by rw [← e]; simp [keysC, List.getD_eq_getElem?_getD, List.getElem?_eq_getElem hj2]⟩
  · rintro ⟨j, hj, e⟩
    have hj2 : j < cs.length := by omega
    exact ⟨j, by simp [keysC]; omega, by rw [← e]; simp [keysC, List.getD_eq_getElem?_getD, List.getElem?_eq_getElem hj2]⟩
set_option maxRecDepth 100000 in
set_option maxHeartbeats 1000000 in
theorem repeated_any (w : World) (cs : List Chg) (sp : Option Addr) (cap b o : Nat) (ms : List MC) (hC : Chs w sp cap cs b o ms) :
    Calls Try.prog 38 #[.slice sp cs.length cap] w fun e w' => e = .returned (.int .i64 (twiceK (keysC cs))) ∧ Below w.heap.size w w' := by
  have hm := hC.mx
  have hle := hC.le
  unfold maxLen at hm
  have i0 : (cs.length : Int) ≤ 9223372036854775807 := by omega
  have gk := keyGuard
  go_enter Try.func38, Try.ntmps38
  go_wp2
  go_step3
  go_wp2
  go_step3
  go_wp2
  go_loopw [3, 10] (fun pv v wr => ∃ i : Nat, pv = .int .i64 cs.length ∧ i ≤ cs.length ∧ v = .int .i64 i ∧ (∀ i', i' < i → (keysC cs).getD i' [] ∉ (keysC cs).take i') ∧ Below w.heap.size w wr) (fun _ v _ => cs.length - (intOf v).toNat)
  case atStart => exact ⟨0, rfl, by omega, rfl, fun i' h => by omega, Below.refl _ _⟩
  case round =>
    obtain ⟨i, rfl, hi, rfl, hfr, hB0⟩ := hrel
    by_cases hlt : i < cs.length
    · have i1 : (i : Int) < (cs.length : Int) := by omega
      obtain ⟨hb, rfl⟩ := hC.pos (by omega)
      obtain ⟨_, _, ri, _, _, _, _, li, _⟩ := hC.at i hlt
      have hii : (Try.prog.info? 24).map (·.size) = some (ints .u8 (cs.getD i dC).key).length := by rw [keySize, ints_len, li]
      go_wp2
      go_loopw [3, 14] (fun pv v wr => ∃ j : Nat, pv = .int .i64 cs.length ∧ j ≤ i ∧ v = .int .i64 j ∧ (∀ j', j' < j → (cs.getD j' dC).key ≠ (cs.getD i dC).key) ∧ Below w.heap.size w wr) (fun _ v _ => i - (intOf v).toNat)
      case atStart => exact ⟨0, rfl, by omega, rfl, fun j' h => by omega, hB0⟩
      case round =>
        clear hB0
        obtain ⟨j, rfl, hj, rfl, hne, hB⟩ := hrel
        by_cases hlj : j < i
        · have i2 : (j : Int) < (i : Int) := by omega
          have i3 : (j : Int) < (cs.length : Int) := by omega
          obtain ⟨_, _, rj, _, _, _, _, lj, _⟩ := hC.at j (by omega)
          have hij : (Try.prog.info? 24).map (·.size) = some (ints .u8 (cs.getD j dC).key).length := by rw [keySize, ints_len, lj]
          by_cases he : (cs.getD j dC).key = (cs.getD i dC).key
          · have HTW := hid (show twiceK (keysC cs) = i from twiceK_some (by simp [keysC]; omega) ((mem_take_keys cs i hlt).2 ⟨j, hlj, he⟩) hfr)
            have qe : ∀ w, (Op.equalIn 10000 24 (.agg (ints .u8 (cs.getD j dC).key).toArray) (.agg (ints .u8 (cs.getD i dC).key).toArray)).run Try.prog w = .ok true w := fun w => by rw [key_eq _ _ lj li, decide_eq_true he]
            clear hne hfr he
            generalize (cs.getD j dC).key = kj at *
            generalize (cs.getD i dC).key = ki at *
            go_wp2
            refine wp_region_noPanic ?_
            refine wp_region_held_drew (S := fun w' => Below w.heap.size w w') (by kernel_rfl) hB.drew (fun hHeld => ?_)
            refine wpAnyH_take (i := 0) (oi := { dst := some 17, op := Op.move (Operand.tmp 0), type := 29, pos := "batch.go:25", after := #[], guard := none }) (v := .slice (some ⟨b, o, none⟩) cs.length cap) rfl (by kernel_rfl) (by kernel_rfl) (by kernel_rfl) (fun _ _ _ h => h) (Or.inl ⟨by rfl, by intro w hS; go_simp⟩) hHeld ?_
            try simp only [Act.put, List.setIfInBounds_toArray, List.set_cons_zero, List.set_cons_succ]
            refine wpAnyH_take (i := 1) (oi := { dst := some 18, op := Op.move (Operand.tmp 5), type := 3, pos := "batch.go:25", after := #[], guard := none }) (v := .int .i64 j) rfl (by kernel_rfl) (by kernel_rfl) (by kernel_rfl) (fun _ _ _ h => h) (Or.inl ⟨by rfl, by intro w hS; go_simp⟩) hHeld ?_
            try simp only [Act.put, List.setIfInBounds_toArray, List.set_cons_zero, List.set_cons_succ]
            refine wpAnyH_take (i := 5) (oi := { dst := some 22, op := Op.move (Operand.tmp 0), type := 29, pos := "batch.go:25", after := #[], guard := none }) (v := .slice (some ⟨b, o, none⟩) cs.length cap) rfl (by kernel_rfl) (by kernel_rfl) (by kernel_rfl) (fun _ _ _ h => h) (Or.inl ⟨by rfl, by intro w hS; go_simp⟩) hHeld ?_
            try simp only [Act.put, List.setIfInBounds_toArray, List.set_cons_zero, List.set_cons_succ]
            refine wpAnyH_take (i := 6) (oi := { dst := some 23, op := Op.move (Operand.tmp 4), type := 3, pos := "batch.go:25", after := #[], guard := none }) (v := .int .i64 i) rfl (by kernel_rfl) (by kernel_rfl) (by kernel_rfl) (fun _ _ _ h => h) (Or.inl ⟨by rfl, by intro w hS; go_simp⟩) hHeld ?_
            try simp only [Act.put, List.setIfInBounds_toArray, List.set_cons_zero, List.set_cons_succ]
            refine wpAnyH_take (i := 2) (oi := { dst := some 19, op := Op.indexAddr 29 (Operand.tmp 17) (Operand.tmp 18), type := 0, pos := "batch.go:25", after := #[{ on := 0, ground := Ground.data }, { on := 1, ground := Ground.data }], guard := none }) (v := .pointer (some ⟨b, o + j * 34, none⟩)) rfl (by kernel_rfl) (by kernel_rfl) (by kernel_rfl) (fun _ _ _ h => h) (Or.inl ⟨by rfl, by intro w hS; go_simp⟩) hHeld ?_
            try simp only [Act.put, List.setIfInBounds_toArray, List.set_cons_zero, List.set_cons_succ]
            refine wpAnyH_take (i := 7) (oi := { dst := some 24, op := Op.indexAddr 29 (Operand.tmp 22) (Operand.tmp 23), type := 0, pos := "batch.go:25", after := #[{ on := 5, ground := Ground.data }, { on := 6, ground := Ground.data }], guard := none }) (v := .pointer (some ⟨b, o + i * 34, none⟩)) rfl (by kernel_rfl) (by kernel_rfl) (by kernel_rfl) (fun _ _ _ h => h) (Or.inl ⟨by rfl, by intro w hS; go_simp⟩) hHeld ?_
            try simp only [Act.put, List.setIfInBounds_toArray, List.set_cons_zero, List.set_cons_succ]
            refine wpAnyH_take (i := 3) (oi := { dst := some 20, op := Op.fieldAddr 40 (Operand.tmp 19) 0, type := 0, pos := "batch.go:25", after := #[{ on := 2, ground := Ground.data }], guard := none }) (v := .pointer (some ⟨b, o + j * 34, none⟩)) rfl (by kernel_rfl) (by kernel_rfl) (by kernel_rfl) (fun _ _ _ h => h) (Or.inl ⟨by rfl, by intro w hS; go_simp⟩) hHeld ?_
            try simp only [Act.put, List.setIfInBounds_toArray, List.set_cons_zero, List.set_cons_succ]
            refine wpAnyH_take (i := 8) (oi := { dst := some 25, op := Op.fieldAddr 40 (Operand.tmp 24) 0, type := 0, pos := "batch.go:25", after := #[{ on := 7, ground := Ground.data }], guard := none }) (v := .pointer (some ⟨b, o + i * 34, none⟩)) rfl (by kernel_rfl) (by kernel_rfl) (by kernel_rfl) (fun _ _ _ h => h) (Or.inl ⟨by rfl, by intro w hS; go_simp⟩) hHeld ?_
            try simp only [Act.put, List.setIfInBounds_toArray, List.set_cons_zero, List.set_cons_succ]
            refine wpAnyH_take (i := 4) (oi := { dst := some 21, op := Op.load 24 (Operand.tmp 20), type := 24, pos := "batch.go:25", after := #[{ on := 3, ground := Ground.data }], guard := none }) (v := .agg (ints .u8 kj).toArray) rfl (by kernel_rfl) (by kernel_rfl) (by kernel_rfl) (fun _ _ _ h => h) (yieldsIf_load_mid (by rfl) 24 _ rfl b (o + j * 34) rfl (ints .u8 kj) _ (fun w hS => rng_below rj hS hb) Try.underlying24 rfl hij) hHeld ?_
            try simp only [Act.put, List.setIfInBounds_toArray, List.set_cons_zero, List.set_cons_succ]
            refine wpAnyH_take (i := 9) (oi := { dst := some 26, op := Op.load 24 (Operand.tmp 25), type := 24, pos := "batch.go:25", after := #[{ on := 8, ground := Ground.data }], guard := none }) (v := .agg (ints .u8 ki).toArray) rfl (by kernel_rfl) (by kernel_rfl) (by kernel_rfl) (fun _ _ _ h => h) (yieldsIf_load_mid (by rfl) 24 _ rfl b (o + i * 34) rfl (ints .u8 ki) _ (fun w hS => rng_below ri hS hb) Try.underlying24 rfl hii) hHeld ?_
            try simp only [Act.put, List.setIfInBounds_toArray, List.set_cons_zero, List.set_cons_succ]
            refine wpAnyH_take (i := 10) (oi := { dst := some 27, op := Op.binOp BinOp.eql 24 (Operand.tmp 21) (Operand.tmp 26) 24, type := 4, pos := "batch.go:25", after := #[{ on := 4, ground := Ground.data }, { on := 9, ground := Ground.data }], guard := none }) (v := .bool true) rfl (by kernel_rfl) (by kernel_rfl) (by kernel_rfl) (fun _ _ _ h => h) (Or.inl ⟨by rfl, by intro w hS; go_simp⟩) hHeld ?_
            try simp only [Act.put, List.setIfInBounds_toArray, List.set_cons_zero, List.set_cons_succ]
            refine wpAnyH_done (by kernel_rfl) ?_ _
            refine NoPanic.normal ?_
            have hf := hHeld
            clear hHeld
            go_wp2
            rw [Exit.noGoto_ret]
            go_ret
            exact ⟨by rw [HTW.out]; rfl, hf⟩
          · have HS := hid (show ∀ j', j' < j + 1 → (cs.getD j' dC).key ≠ (cs.getD i dC).key from fun j' h => by rcases Nat.lt_succ_iff_lt_or_eq.1 h with h | rfl; exact hne j' h; exact he)
            have qe : ∀ w, (Op.equalIn 10000 24 (.agg (ints .u8 (cs.getD j dC).key).toArray) (.agg (ints .u8 (cs.getD i dC).key).toArray)).run Try.prog w = .ok false w := fun w => by rw [key_eq _ _ lj li, decide_eq_false he]
            clear hne he
            generalize hkj : (cs.getD j dC).key = kj at *
            generalize hki : (cs.getD i dC).key = ki at *
            clear hkj
            go_wp2
            refine wp_region_noPanic ?_
            refine wp_region_held_drew (S := fun w' => Below w.heap.size w w') (by kernel_rfl) hB.drew (fun hHeld => ?_)
            refine wpAnyH_take (i := 0) (oi := { dst := some 17, op := Op.move (Operand.tmp 0), type := 29, pos := "batch.go:25", after := #[], guard := none }) (v := .slice (some ⟨b, o, none⟩) cs.length cap) rfl (by kernel_rfl) (by kernel_rfl) (by kernel_rfl) (fun _ _ _ h => h) (Or.inl ⟨by rfl, by intro w hS; go_simp⟩) hHeld ?_
            try simp only [Act.put, List.setIfInBounds_toArray, List.set_cons_zero, List.set_cons_succ]
            refine wpAnyH_take (i := 1) (oi := { dst := some 18, op := Op.move (Operand.tmp 5), type := 3, pos := "batch.go:25", after := #[], guard := none }) (v := .int .i64 j) rfl (by kernel_rfl) (by kernel_rfl) (by kernel_rfl) (fun _ _ _ h => h) (Or.inl ⟨by rfl, by intro w hS; go_simp⟩) hHeld ?_
            try simp only [Act.put, List.setIfInBounds_toArray, List.set_cons_zero, List.set_cons_succ]
            refine wpAnyH_take (i := 5) (oi := { dst := some 22, op := Op.move (Operand.tmp 0), type := 29, pos := "batch.go:25", after := #[], guard := none }) (v := .slice (some ⟨b, o, none⟩) cs.length cap) rfl (by kernel_rfl) (by kernel_rfl) (by kernel_rfl) (fun _ _ _ h => h) (Or.inl ⟨by rfl, by intro w hS; go_simp⟩) hHeld ?_
            try simp only [Act.put, List.setIfInBounds_toArray, List.set_cons_zero, List.set_cons_succ]
            refine wpAnyH_take (i := 6) (oi := { dst := some 23, op := Op.move (Operand.tmp 4), type := 3, pos := "batch.go:25", after := #[], guard := none }) (v := .int .i64 i) rfl (by kernel_rfl) (by kernel_rfl) (by kernel_rfl) (fun _ _ _ h => h) (Or.inl ⟨by rfl, by intro w hS; go_simp⟩) hHeld ?_
            try simp only [Act.put, List.setIfInBounds_toArray, List.set_cons_zero, List.set_cons_succ]
            refine wpAnyH_take (i := 2) (oi := { dst := some 19, op := Op.indexAddr 29 (Operand.tmp 17) (Operand.tmp 18), type := 0, pos := "batch.go:25", after := #[{ on := 0, ground := Ground.data }, { on := 1, ground := Ground.data }], guard := none }) (v := .pointer (some ⟨b, o + j * 34, none⟩)) rfl (by kernel_rfl) (by kernel_rfl) (by kernel_rfl) (fun _ _ _ h => h) (Or.inl ⟨by rfl, by intro w hS; go_simp⟩) hHeld ?_
            try simp only [Act.put, List.setIfInBounds_toArray, List.set_cons_zero, List.set_cons_succ]
            refine wpAnyH_take (i := 7) (oi := { dst := some 24, op := Op.indexAddr 29 (Operand.tmp 22) (Operand.tmp 23), type := 0, pos := "batch.go:25", after := #[{ on := 5, ground := Ground.data }, { on := 6, ground := Ground.data }], guard := none }) (v := .pointer (some ⟨b, o + i * 34, none⟩)) rfl (by kernel_rfl) (by kernel_rfl) (by kernel_rfl) (fun _ _ _ h => h) (Or.inl ⟨by rfl, by intro w hS; go_simp⟩) hHeld ?_
            try simp only [Act.put, List.setIfInBounds_toArray, List.set_cons_zero, List.set_cons_succ]
            refine wpAnyH_take (i := 3) (oi := { dst := some 20, op := Op.fieldAddr 40 (Operand.tmp 19) 0, type := 0, pos := "batch.go:25", after := #[{ on := 2, ground := Ground.data }], guard := none }) (v := .pointer (some ⟨b, o + j * 34, none⟩)) rfl (by kernel_rfl) (by kernel_rfl) (by kernel_rfl) (fun _ _ _ h => h) (Or.inl ⟨by rfl, by intro w hS; go_simp⟩) hHeld ?_
            try simp only [Act.put, List.setIfInBounds_toArray, List.set_cons_zero, List.set_cons_succ]
            refine wpAnyH_take (i := 8) (oi := { dst := some 25, op := Op.fieldAddr 40 (Operand.tmp 24) 0, type := 0, pos := "batch.go:25", after := #[{ on := 7, ground := Ground.data }], guard := none }) (v := .pointer (some ⟨b, o + i * 34, none⟩)) rfl (by kernel_rfl) (by kernel_rfl) (by kernel_rfl) (fun _ _ _ h => h) (Or.inl ⟨by rfl, by intro w hS; go_simp⟩) hHeld ?_
            try simp only [Act.put, List.setIfInBounds_toArray, List.set_cons_zero, List.set_cons_succ]
            refine wpAnyH_take (i := 4) (oi := { dst := some 21, op := Op.load 24 (Operand.tmp 20), type := 24, pos := "batch.go:25", after := #[{ on := 3, ground := Ground.data }], guard := none }) (v := .agg (ints .u8 kj).toArray) rfl (by kernel_rfl) (by kernel_rfl) (by kernel_rfl) (fun _ _ _ h => h) (yieldsIf_load_mid (by rfl) 24 _ rfl b (o + j * 34) rfl (ints .u8 kj) _ (fun w hS => rng_below rj hS hb) Try.underlying24 rfl hij) hHeld ?_
            try simp only [Act.put, List.setIfInBounds_toArray, List.set_cons_zero, List.set_cons_succ]
            refine wpAnyH_take (i := 9) (oi := { dst := some 26, op := Op.load 24 (Operand.tmp 25), type := 24, pos := "batch.go:25", after := #[{ on := 8, ground := Ground.data }], guard := none }) (v := .agg (ints .u8 ki).toArray) rfl (by kernel_rfl) (by kernel_rfl) (by kernel_rfl) (fun _ _ _ h => h) (yieldsIf_load_mid (by rfl) 24 _ rfl b (o + i * 34) rfl (ints .u8 ki) _ (fun w hS => rng_below ri hS hb) Try.underlying24 rfl hii) hHeld ?_
            try simp only [Act.put, List.setIfInBounds_toArray, List.set_cons_zero, List.set_cons_succ]
            refine wpAnyH_take (i := 10) (oi := { dst := some 27, op := Op.binOp BinOp.eql 24 (Operand.tmp 21) (Operand.tmp 26) 24, type := 4, pos := "batch.go:25", after := #[{ on := 4, ground := Ground.data }, { on := 9, ground := Ground.data }], guard := none }) (v := .bool false) rfl (by kernel_rfl) (by kernel_rfl) (by kernel_rfl) (fun _ _ _ h => h) (Or.inl ⟨by rfl, by intro w hS; go_simp⟩) hHeld ?_
            try simp only [Act.put, List.setIfInBounds_toArray, List.set_cons_zero, List.set_cons_succ]
            refine wpAnyH_done (by kernel_rfl) ?_ _
            refine NoPanic.normal ?_
            have hf := hHeld
            clear hHeld
            go_wp2
            go_roundw
            case rel => exact ⟨j + 1, rfl, by omega, by go_num, HS.out, hf⟩
            case measure => simp [intOf]; omega
        · obtain rfl : j = i := by omega
          have HF := hid (show ∀ i', i' < j + 1 → (keysC cs).getD i' [] ∉ (keysC cs).take i' from fun i' h => by
            rcases Nat.lt_succ_iff_lt_or_eq.1 h with h | rfl
            · exact hfr i' h
            · rw [mem_take_keys cs i' hlt]; rintro ⟨j', h1, h2⟩; exact hne j' h1 h2)
          clear hne hlj
          go_wp2
          go_roundw
          case rel => exact ⟨j + 1, rfl, by omega, by go_num, HF.out, hB⟩
          case measure => simp [intOf]; omega
    · obtain rfl : i = cs.length := by omega
      have HTW := hid (show twiceK (keysC cs) = cs.length by rw [twiceK_none (fun i h => hfr i (by simpa [keysC] using h))]; simp [keysC])
      clear hlt hfr
      go_wp2
      rw [Exit.noGoto_ret]
      go_ret
      exact ⟨by rw [HTW.out]; rfl, hB0⟩
end Go.Proofs.Ytcifbnldohmbnaa
