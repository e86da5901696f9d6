import Derived.Test.YtcifbnldohmbnaaYc
namespace Go.Proofs.Ytcifbnldohmbnaa
set_option linter.unusedVariables false
set_option linter.unusedSimpArgs false
open Go.RowKit
attribute [local go_sem ↓] Go.wp_at_zero Go.wp_at_succ

set_option maxRecDepth 100000 in
set_option maxHeartbeats 4000000 in
theorem after_any (w : World) (l0 : List Ent) (sp0 : Option Addr) (cap0 b0 : Nat) (ms0 : List MG) (hE : Ens w sp0 cap0 l0 b0 ms0) (hs0 : SaysGL w ms0 l0) (hn0 : (keysE l0).Nodup) (cs : List Chg) (sp : Option Addr) (cap b o : Nat) (ms : List MC) (hC : Chs w sp cap cs b o ms) (hlen : l0.length + cs.length ≤ 1000000) :
    Calls Try.prog 25 #[.slice sp0 l0.length cap0, .slice sp cs.length cap] w fun e w' => ∃ v ms', e = .returned v ∧ OwnG w' w.heap.size v ms' ∧ SaysGL w ms' (aft l0 cs) ∧ Below w.heap.size w w' := by
  have i0 : (l0.length : Int) ≤ 1000000 := by omega
  have i9 : (cs.length : Int) ≤ 1000000 := by omega
  have gk := keyGuard
  have HLEN := hid hlen
  have HN0 := hid hn0
  clear hlen hn0
  go_enter Try.func25, Try.ntmps25
  go_wp2
  go_loopw [5, 6] (fun v kv wr => ∃ k : Nat, k ≤ l0.length ∧ kv = .int .i64 k ∧ OwnG wr w.heap.size v (ms0.take k) ∧ Below w.heap.size w wr) (fun _ kv _ => l0.length - (intOf kv).toNat)
  case atStart => exact ⟨0, by omega, rfl, OwnG.nil _ _, Below.refl _ _⟩
  case round =>
  obtain ⟨k, hk, rfl, hO, hB⟩ := hrel
  by_cases hlt : k < l0.length
  · have i1 : (k : Int) < (l0.length : Int) := by omega
    obtain ⟨hb, rfl⟩ := hE.pos (by omega)
    have R1 := rng_below (hE.rd k hlt) hB hb
    have sy := hs0.2 k hlt
    have lm := sy.len
    have om := sy.one
    have S1 := hid (show (Try.prog.info? 81).map (·.size) = some (encG (ms0.getD k dG)).length by rw [entSize, lm])
    have HT := hid (take_gD ms0 dG k (by rw [hs0.1]; exact hlt))
    have HL := hid (show (ms0.take k).length + 1 ≤ 1000000000000 by have := HLEN.out; rw [List.length_take]; omega)
    clear sy
    generalize ms0.getD k dG = m1 at *
    generalize ms0.take k = mk at *
    have hbs := hB.size
    go_wp2_with (first
      | refine wpList_load_mid rfl 81 _ rfl b0 (k * 33) rfl (encG m1) _ R1 Try.underlying81 rfl S1.out ?_
      | refine wpList_sliceG rfl _ rfl (encG m1) lm rfl ?_
      | (at_builtin; refine wpList_pushG rfl (.tmp 18) (.tmp 23) rfl w.heap.size _ mk m1 rfl hO rfl lm om HL.out hbs _ _ ?_; intro v7 w7 hO7 hB7))
    go_roundw
    case rel => exact ⟨k + 1, by omega, by go_num, (by rw [HT.out]; exact hO7), hB.trans hB7⟩
    case measure => simp [intOf]; omega
  · obtain rfl : k = l0.length := by omega
    have i1 : ¬ (l0.length : Int) < (l0.length : Int) := by omega
    rw [List.take_of_length_le (by rw [hs0.1]; exact Nat.le_refl _)] at hO
    obtain ⟨s5, c5, b5, rfl, hE5, _⟩ := hO.ens hs0.mem hs0.1
    clear hlt hk hE5
    go_wp2
    go_loopw [5, 7] (fun v iv wr => ∃ (i : Nat) (rs : List MG), i ≤ cs.length ∧ iv = .int .i64 i ∧ OwnG wr w.heap.size v rs ∧ SaysGL w rs (aft l0 (cs.take i)) ∧ Below w.heap.size w wr) (fun _ iv _ => cs.length - (intOf iv).toNat)
    case atStart => exact ⟨0, ms0, by omega, rfl, hO, hs0, hB⟩
    case round =>
    clear hO hB
    obtain ⟨i, rs, hi, rfl, hO, hs, hB⟩ := hrel
    by_cases hlt : i < cs.length
    · have i1 : (i : Int) < (cs.length : Int) := by omega
      obtain ⟨hb, rfl⟩ := hC.pos (by omega)
      obtain ⟨sp', c', ri, rd, rv, nil', rsrc, li, _⟩ := hC.at i hlt
      have hii : (Try.prog.info? 24).map (·.size) = some (ints .u8 (cs.getD i dC).key).length := by rw [keySize, ints_len, li]
      have HAF := hid (show aft l0 (cs.take (i + 1)) = step1 (aft l0 (cs.take i)) (cs.getD i dC) by rw [take_snoc cs i hlt, aft_snoc])
      have HLL := hid (show (aft l0 (cs.take i)).length ≤ 1000000 by have := aft_len (cs.take i) l0; have := HLEN.out; rw [List.length_take] at *; omega)
      have HND := hid (aft_keys (cs.take i) l0 HN0.out)
      have cd := (hB.cell (p := ⟨b, o + i * 34 + 32, none⟩) hb).trans rd
      have cv := (hB.cell (p := ⟨b, o + i * 34 + 33, none⟩) hb).trans rv
      have ri' := rng_below ri hB hb
      generalize aft l0 (cs.take i) = L at *
      generalize cs.getD i dC = c at *
      obtain ⟨s5, c5, b5, rfl, hE5, hfz⟩ := hO.ens hs.mem hs.1
      have i5 : (L.length : Int) ≤ 1000000 := by have := HLL.out; omega
      generalize hwB : wr = wB at *
      clear hwB
      go_wp2
      go_loopw [8, 9] (fun av jv wr => ∃ (j : Nat) (at_ : Int), j ≤ L.length ∧ jv = .int .i64 j ∧ av = .int .i64 at_ ∧ ((at_ = -1 ∧ ∀ j', j' < j → (L.getD j' dE).key ≠ c.key) ∨ ∃ p : Nat, p < j ∧ at_ = p ∧ (L.getD p dE).key = c.key) ∧ Below wB.heap.size wB wr) (fun _ jv _ => L.length - (intOf jv).toNat)
      case atStart => exact ⟨0, -1, by omega, rfl, rfl, Or.inl ⟨rfl, fun j' h => by omega⟩, Below.refl _ _⟩
      case round =>
      obtain ⟨j, at_, hj, rfl, rfl, hat, hBc⟩ := hrel
      by_cases hlj : j < L.length
      · have j1 : (j : Int) < (L.length : Int) := by omega
        obtain ⟨hb5, rfl⟩ := hE5.pos (by omega)
        have rj := encG_key (hE5.rd j hlj)
        have sj := hs.2 j hlj
        rw [sj.1] at rj
        have lj := sj.2.1
        have hij : (Try.prog.info? 24).map (·.size) = some (ints .u8 (L.getD j dE).key).length := by rw [keySize, ints_len, lj]
        have hbB : b < wB.heap.size := Nat.lt_of_lt_of_le hb hB.size
        have ri := ri'
        have hB' := hB
        have hB := hBc
        generalize hnL : L.length = nL at *
        by_cases he : (L.getD j dE).key = c.key
        · have HS := hid (show (((j : Nat) : Int) = -1 ∧ ∀ j', j' < j + 1 → (L.getD j' dE).key ≠ c.key) ∨ ∃ p : Nat, p < j + 1 ∧ ((j : Nat) : Int) = p ∧ (L.getD p dE).key = c.key from Or.inr ⟨j, by omega, rfl, he⟩)
          have qe : ∀ w, (Op.equalIn 10000 24 (.agg (ints .u8 (L.getD j dE).key).toArray) (.agg (ints .u8 c.key).toArray)).run Try.prog w = .ok true w := fun w => by rw [key_eq _ _ lj li, decide_eq_true he]
          clear he hat cd cv sj
          generalize (L.getD j dE).key = kj at *
          generalize hki : c.key = ki at *
          clear hki
          go_wp2
          refine wp_region_noPanic ?_
          refine wp_region_held_drew (S := fun w' => Below wB.heap.size wB w') (by kernel_rfl) hB.drew (fun hHeld => ?_)
          refine wpAnyH_take (i := 0) (oi := { dst := some 37, op := Op.move (Operand.tmp 5), type := 50, pos := "outright.go:166", after := #[], guard := none }) (v := .slice (some ⟨b5, 0, none⟩) nL c5) rfl (by kernel_rfl) (by kernel_rfl) (by kernel_rfl) (fun _ _ _ h => h) (Or.inl ⟨by rfl, by intro w hS; go_simp⟩) hHeld ?_
          try simp only [Act.put, List.setIfInBounds_toArray, List.set_cons_zero, List.set_cons_succ]
          refine wpAnyH_take (i := 1) (oi := { dst := some 38, op := Op.move (Operand.tmp 9), type := 3, pos := "outright.go:166", after := #[], guard := none }) (v := .int .i64 j) rfl (by kernel_rfl) (by kernel_rfl) (by kernel_rfl) (fun _ _ _ h => h) (Or.inl ⟨by rfl, by intro w hS; go_simp⟩) hHeld ?_
          try simp only [Act.put, List.setIfInBounds_toArray, List.set_cons_zero, List.set_cons_succ]
          refine wpAnyH_take (i := 5) (oi := { dst := some 42, op := Op.move (Operand.tmp 1), type := 29, pos := "outright.go:166", after := #[], guard := none }) (v := .slice (some ⟨b, o, none⟩) cs.length cap) rfl (by kernel_rfl) (by kernel_rfl) (by kernel_rfl) (fun _ _ _ h => h) (Or.inl ⟨by rfl, by intro w hS; go_simp⟩) hHeld ?_
          try simp only [Act.put, List.setIfInBounds_toArray, List.set_cons_zero, List.set_cons_succ]
          refine wpAnyH_take (i := 6) (oi := { dst := some 43, op := Op.move (Operand.tmp 7), type := 3, pos := "outright.go:166", after := #[], guard := none }) (v := .int .i64 i) rfl (by kernel_rfl) (by kernel_rfl) (by kernel_rfl) (fun _ _ _ h => h) (Or.inl ⟨by rfl, by intro w hS; go_simp⟩) hHeld ?_
          try simp only [Act.put, List.setIfInBounds_toArray, List.set_cons_zero, List.set_cons_succ]
          refine wpAnyH_take (i := 2) (oi := { dst := some 39, op := Op.indexAddr 50 (Operand.tmp 37) (Operand.tmp 38), type := 0, pos := "outright.go:166", after := #[{ on := 0, ground := Ground.data }, { on := 1, ground := Ground.data }], guard := none }) (v := .pointer (some ⟨b5, j * 33, none⟩)) rfl (by kernel_rfl) (by kernel_rfl) (by kernel_rfl) (fun _ _ _ h => h) (Or.inl ⟨by rfl, by intro w hS; go_simp⟩) hHeld ?_
          try simp only [Act.put, List.setIfInBounds_toArray, List.set_cons_zero, List.set_cons_succ]
          refine wpAnyH_take (i := 7) (oi := { dst := some 44, op := Op.indexAddr 29 (Operand.tmp 42) (Operand.tmp 43), type := 0, pos := "outright.go:166", after := #[{ on := 5, ground := Ground.data }, { on := 6, ground := Ground.data }], guard := none }) (v := .pointer (some ⟨b, o + i * 34, none⟩)) rfl (by kernel_rfl) (by kernel_rfl) (by kernel_rfl) (fun _ _ _ h => h) (Or.inl ⟨by rfl, by intro w hS; go_simp⟩) hHeld ?_
          try simp only [Act.put, List.setIfInBounds_toArray, List.set_cons_zero, List.set_cons_succ]
          refine wpAnyH_take (i := 3) (oi := { dst := some 40, op := Op.fieldAddr 81 (Operand.tmp 39) 0, type := 0, pos := "outright.go:166", after := #[{ on := 2, ground := Ground.data }], guard := none }) (v := .pointer (some ⟨b5, j * 33, none⟩)) rfl (by kernel_rfl) (by kernel_rfl) (by kernel_rfl) (fun _ _ _ h => h) (Or.inl ⟨by rfl, by intro w hS; go_simp⟩) hHeld ?_
          try simp only [Act.put, List.setIfInBounds_toArray, List.set_cons_zero, List.set_cons_succ]
          refine wpAnyH_take (i := 8) (oi := { dst := some 45, op := Op.fieldAddr 40 (Operand.tmp 44) 0, type := 0, pos := "outright.go:166", after := #[{ on := 7, ground := Ground.data }], guard := none }) (v := .pointer (some ⟨b, o + i * 34, none⟩)) rfl (by kernel_rfl) (by kernel_rfl) (by kernel_rfl) (fun _ _ _ h => h) (Or.inl ⟨by rfl, by intro w hS; go_simp⟩) hHeld ?_
          try simp only [Act.put, List.setIfInBounds_toArray, List.set_cons_zero, List.set_cons_succ]
          refine wpAnyH_take (i := 4) (oi := { dst := some 41, op := Op.load 24 (Operand.tmp 40), type := 24, pos := "outright.go:166", after := #[{ on := 3, ground := Ground.data }], guard := none }) (v := .agg (ints .u8 kj).toArray) rfl (by kernel_rfl) (by kernel_rfl) (by kernel_rfl) (fun _ _ _ h => h) (yieldsIf_load_mid (by rfl) 24 _ rfl b5 (j * 33) rfl (ints .u8 kj) _ (fun w hS => rng_below rj hS hb5) Try.underlying24 rfl hij) hHeld ?_
          try simp only [Act.put, List.setIfInBounds_toArray, List.set_cons_zero, List.set_cons_succ]
          refine wpAnyH_take (i := 9) (oi := { dst := some 46, op := Op.load 24 (Operand.tmp 45), type := 24, pos := "outright.go:166", after := #[{ on := 8, ground := Ground.data }], guard := none }) (v := .agg (ints .u8 ki).toArray) rfl (by kernel_rfl) (by kernel_rfl) (by kernel_rfl) (fun _ _ _ h => h) (yieldsIf_load_mid (by rfl) 24 _ rfl b (o + i * 34) rfl (ints .u8 ki) _ (fun w hS => rng_below ri hS hbB) Try.underlying24 rfl hii) hHeld ?_
          try simp only [Act.put, List.setIfInBounds_toArray, List.set_cons_zero, List.set_cons_succ]
          refine wpAnyH_take (i := 10) (oi := { dst := some 47, op := Op.binOp BinOp.eql 24 (Operand.tmp 41) (Operand.tmp 46) 24, type := 4, pos := "outright.go:166", after := #[{ on := 4, ground := Ground.data }, { on := 9, ground := Ground.data }], guard := none }) (v := .bool true) rfl (by kernel_rfl) (by kernel_rfl) (by kernel_rfl) (fun _ _ _ h => h) (Or.inl ⟨by rfl, by intro w hS; go_simp⟩) hHeld ?_
          try simp only [Act.put, List.setIfInBounds_toArray, List.set_cons_zero, List.set_cons_succ]
          refine wpAnyH_done (by kernel_rfl) ?_ _
          refine NoPanic.normal ?_
          have hf := hHeld
          clear hHeld
          go_wp2
          go_roundw
          case rel => exact ⟨j + 1, _, by omega, by go_num, rfl, HS.out, hf⟩
          case measure => simp [intOf]; omega
        · have HS := hid (show (at_ = -1 ∧ ∀ j', j' < j + 1 → (L.getD j' dE).key ≠ c.key) ∨ ∃ p : Nat, p < j + 1 ∧ at_ = p ∧ (L.getD p dE).key = c.key from hat.elim (fun h => Or.inl ⟨h.1, fun j' h2 => by rcases Nat.lt_succ_iff_lt_or_eq.1 h2 with h2 | rfl; exact h.2 j' h2; exact he⟩) (fun ⟨p, h1, h2, h3⟩ => Or.inr ⟨p, by omega, h2, h3⟩))
          have qe : ∀ w, (Op.equalIn 10000 24 (.agg (ints .u8 (L.getD j dE).key).toArray) (.agg (ints .u8 c.key).toArray)).run Try.prog w = .ok false w := fun w => by rw [key_eq _ _ lj li, decide_eq_false he]
          clear he hat cd cv sj
          generalize (L.getD j dE).key = kj at *
          generalize hki : c.key = ki at *
          clear hki
          go_wp2
          refine wp_region_noPanic ?_
          refine wp_region_held_drew (S := fun w' => Below wB.heap.size wB w') (by kernel_rfl) hB.drew (fun hHeld => ?_)
          refine wpAnyH_take (i := 0) (oi := { dst := some 37, op := Op.move (Operand.tmp 5), type := 50, pos := "outright.go:166", after := #[], guard := none }) (v := .slice (some ⟨b5, 0, none⟩) nL c5) rfl (by kernel_rfl) (by kernel_rfl) (by kernel_rfl) (fun _ _ _ h => h) (Or.inl ⟨by rfl, by intro w hS; go_simp⟩) hHeld ?_
          try simp only [Act.put, List.setIfInBounds_toArray, List.set_cons_zero, List.set_cons_succ]
          refine wpAnyH_take (i := 1) (oi := { dst := some 38, op := Op.move (Operand.tmp 9), type := 3, pos := "outright.go:166", after := #[], guard := none }) (v := .int .i64 j) rfl (by kernel_rfl) (by kernel_rfl) (by kernel_rfl) (fun _ _ _ h => h) (Or.inl ⟨by rfl, by intro w hS; go_simp⟩) hHeld ?_
          try simp only [Act.put, List.setIfInBounds_toArray, List.set_cons_zero, List.set_cons_succ]
          refine wpAnyH_take (i := 5) (oi := { dst := some 42, op := Op.move (Operand.tmp 1), type := 29, pos := "outright.go:166", after := #[], guard := none }) (v := .slice (some ⟨b, o, none⟩) cs.length cap) rfl (by kernel_rfl) (by kernel_rfl) (by kernel_rfl) (fun _ _ _ h => h) (Or.inl ⟨by rfl, by intro w hS; go_simp⟩) hHeld ?_
          try simp only [Act.put, List.setIfInBounds_toArray, List.set_cons_zero, List.set_cons_succ]
          refine wpAnyH_take (i := 6) (oi := { dst := some 43, op := Op.move (Operand.tmp 7), type := 3, pos := "outright.go:166", after := #[], guard := none }) (v := .int .i64 i) rfl (by kernel_rfl) (by kernel_rfl) (by kernel_rfl) (fun _ _ _ h => h) (Or.inl ⟨by rfl, by intro w hS; go_simp⟩) hHeld ?_
          try simp only [Act.put, List.setIfInBounds_toArray, List.set_cons_zero, List.set_cons_succ]
          refine wpAnyH_take (i := 2) (oi := { dst := some 39, op := Op.indexAddr 50 (Operand.tmp 37) (Operand.tmp 38), type := 0, pos := "outright.go:166", after := #[{ on := 0, ground := Ground.data }, { on := 1, ground := Ground.data }], guard := none }) (v := .pointer (some ⟨b5, j * 33, none⟩)) rfl (by kernel_rfl) (by kernel_rfl) (by kernel_rfl) (fun _ _ _ h => h) (Or.inl ⟨by rfl, by intro w hS; go_simp⟩) hHeld ?_
          try simp only [Act.put, List.setIfInBounds_toArray, List.set_cons_zero, List.set_cons_succ]
          refine wpAnyH_take (i := 7) (oi := { dst := some 44, op := Op.indexAddr 29 (Operand.tmp 42) (Operand.tmp 43), type := 0, pos := "outright.go:166", after := #[{ on := 5, ground := Ground.data }, { on := 6, ground := Ground.data }], guard := none }) (v := .pointer (some ⟨b, o + i * 34, none⟩)) rfl (by kernel_rfl) (by kernel_rfl) (by kernel_rfl) (fun _ _ _ h => h) (Or.inl ⟨by rfl, by intro w hS; go_simp⟩) hHeld ?_
          try simp only [Act.put, List.setIfInBounds_toArray, List.set_cons_zero, List.set_cons_succ]
          refine wpAnyH_take (i := 3) (oi := { dst := some 40, op := Op.fieldAddr 81 (Operand.tmp 39) 0, type := 0, pos := "outright.go:166", after := #[{ on := 2, ground := Ground.data }], guard := none }) (v := .pointer (some ⟨b5, j * 33, none⟩)) rfl (by kernel_rfl) (by kernel_rfl) (by kernel_rfl) (fun _ _ _ h => h) (Or.inl ⟨by rfl, by intro w hS; go_simp⟩) hHeld ?_
          try simp only [Act.put, List.setIfInBounds_toArray, List.set_cons_zero, List.set_cons_succ]
          refine wpAnyH_take (i := 8) (oi := { dst := some 45, op := Op.fieldAddr 40 (Operand.tmp 44) 0, type := 0, pos := "outright.go:166", after := #[{ on := 7, ground := Ground.data }], guard := none }) (v := .pointer (some ⟨b, o + i * 34, none⟩)) rfl (by kernel_rfl) (by kernel_rfl) (by kernel_rfl) (fun _ _ _ h => h) (Or.inl ⟨by rfl, by intro w hS; go_simp⟩) hHeld ?_
          try simp only [Act.put, List.setIfInBounds_toArray, List.set_cons_zero, List.set_cons_succ]
          refine wpAnyH_take (i := 4) (oi := { dst := some 41, op := Op.load 24 (Operand.tmp 40), type := 24, pos := "outright.go:166", after := #[{ on := 3, ground := Ground.data }], guard := none }) (v := .agg (ints .u8 kj).toArray) rfl (by kernel_rfl) (by kernel_rfl) (by kernel_rfl) (fun _ _ _ h => h) (yieldsIf_load_mid (by rfl) 24 _ rfl b5 (j * 33) rfl (ints .u8 kj) _ (fun w hS => rng_below rj hS hb5) Try.underlying24 rfl hij) hHeld ?_
          try simp only [Act.put, List.setIfInBounds_toArray, List.set_cons_zero, List.set_cons_succ]
          refine wpAnyH_take (i := 9) (oi := { dst := some 46, op := Op.load 24 (Operand.tmp 45), type := 24, pos := "outright.go:166", after := #[{ on := 8, ground := Ground.data }], guard := none }) (v := .agg (ints .u8 ki).toArray) rfl (by kernel_rfl) (by kernel_rfl) (by kernel_rfl) (fun _ _ _ h => h) (yieldsIf_load_mid (by rfl) 24 _ rfl b (o + i * 34) rfl (ints .u8 ki) _ (fun w hS => rng_below ri hS hbB) Try.underlying24 rfl hii) hHeld ?_
          try simp only [Act.put, List.setIfInBounds_toArray, List.set_cons_zero, List.set_cons_succ]
          refine wpAnyH_take (i := 10) (oi := { dst := some 47, op := Op.binOp BinOp.eql 24 (Operand.tmp 41) (Operand.tmp 46) 24, type := 4, pos := "outright.go:166", after := #[{ on := 4, ground := Ground.data }, { on := 9, ground := Ground.data }], guard := none }) (v := .bool false) rfl (by kernel_rfl) (by kernel_rfl) (by kernel_rfl) (fun _ _ _ h => h) (Or.inl ⟨by rfl, by intro w hS; go_simp⟩) hHeld ?_
          try simp only [Act.put, List.setIfInBounds_toArray, List.set_cons_zero, List.set_cons_succ]
          refine wpAnyH_done (by kernel_rfl) ?_ _
          refine NoPanic.normal ?_
          have hf := hHeld
          clear hHeld
          go_wp2
          go_roundw
          case rel => exact ⟨j + 1, at_, by omega, by go_num, rfl, HS.out, hf⟩
          case measure => simp [intOf]; omega
      · obtain rfl : j = L.length := by omega
        have j1 : ¬ (L.length : Int) < (L.length : Int) := by omega
        have hBC : Below w.heap.size w wr := hB.trans (hBc.mono hB.size)
        have cd := (hBC.cell (p := ⟨b, o + i * 34 + 32, none⟩) hb).trans rd
        have cv := (hBC.cell (p := ⟨b, o + i * 34 + 33, none⟩) hb).trans rv
        have rk := rng_below ri hBC hb
        have hOC := hO.below hBc (Nat.le_refl _)
        have hEC := hE5.below hBc
        have HSG := hid (show SaysG w ⟨c.key, .slice sp' c.val.length c'⟩ ⟨c.key, c.val⟩ from ⟨rfl, li, sp', c', rfl, nil', rsrc⟩)
        clear hlj hj ri' hO hE5 hB hBc hfz
        rcases hat with ⟨rfl, hno⟩ | ⟨p, hp, rfl, hpk⟩
        · have hno := keysE_no hno
          cases hdl : c.del with
          | true =>
            have HST := hid (show SaysGL w (rs.eraseIdx L.length) (aft l0 (cs.take (i + 1))) from by
              rw [HAF.out, step_del_none hdl hno]
              rw [List.eraseIdx_of_length_le (by rw [hs.1]; exact Nat.le_refl _)]; exact hs)
            rw [hdl] at cd
            have HNO := hid hno
            clear HAF HND hdl hno cv
            generalize hwC : wr = wC at *
            clear hwC
            have hsC := hBC.size
            have HRL := hid hs.1
            have HME := hid hs.2
            go_wp2
            go_loopw [10, 11] (fun v kv wr => ∃ k : Nat, k ≤ L.length ∧ kv = .int .i64 k ∧ OwnG wr wC.heap.size v (but rs L.length k) ∧ Below wC.heap.size wC wr) (fun _ kv _ => L.length - (intOf kv).toNat)
            case atStart => exact ⟨0, by omega, rfl, OwnG.nil _ _, Below.refl _ _⟩
            case round =>
            obtain ⟨k, hk, rfl, hOd, hBd⟩ := hrel
            have hEd := hEC.below hBd
            by_cases hlk : k < L.length
            · have k1 : (k : Int) < (L.length : Int) := by omega
              have k2 : ¬ (k : Int) = (-1 : Int) := by omega
              have HT := hid (but_take rs L.length k (by rw [HRL.out]; exact hlk) (by omega))
              obtain ⟨hb5, rfl⟩ := hEd.pos (by omega)
              have R1 := hEd.rd k hlk
              have sy := HME.out k hlk
              have lm := sy.len
              have om := sy.one
              have S1 := hid (show (Try.prog.info? 81).map (·.size) = some (encG (rs.getD k dG)).length by rw [entSize, lm])
              have HL := hid (show (but rs L.length k).length + 1 ≤ 1000000000000 by have := but_len rs L.length k; have := HLL.out; omega)
              have hbs := hBd.size
              clear sy
              generalize rs.getD k dG = m1 at *
              generalize but rs L.length k = mk at *
              go_wp2_with (first
                | refine wpList_load_mid rfl 81 _ rfl b5 (k * 33) rfl (encG m1) _ R1 Try.underlying81 rfl S1.out ?_
                | refine wpList_sliceG rfl _ rfl (encG m1) lm rfl ?_
                | (at_builtin; refine wpList_pushG rfl (.tmp 63) (.tmp 68) rfl wC.heap.size _ mk m1 rfl hOd rfl lm om HL.out hbs _ _ ?_; intro v7 w7 hO7 hB7))
              go_roundw
              case rel => exact ⟨k + 1, by omega, by go_num, (by rw [HT.out]; exact hO7), hBd.trans hB7⟩
              case measure => simp [intOf]; omega
            · obtain rfl : k = L.length := by omega
              have k1 : ¬ (L.length : Int) < (L.length : Int) := by omega
              have hba := but_all rs L.length
              rw [HRL.out] at hba
              rw [hba] at hOd
              have hBz : Below w.heap.size w _ := hBC.trans (hBd.mono hsC)
              clear hlk hba
              go_wp2
              go_roundw
              case rel => exact ⟨i + 1, _, by omega, by go_num, hOd.base hsC, HST.out, hBz⟩
              case measure => simp [intOf]; omega
          | false =>
            have HST := hid (show SaysGL w (rs ++ [⟨c.key, .slice sp' c.val.length c'⟩]) (aft l0 (cs.take (i + 1))) from by
              rw [HAF.out, step_put_none hdl hno]
              exact hs.snoc HSG.out)
            rw [hdl] at cd
            have HRL := hid hs.1
            have HME := hid hs.mem
            have HNL := hid (show rs.length + 1 ≤ 1000000000000 by have := HLL.out; rw [HRL.out]; omega)
            have lm : (encG ⟨c.key, .slice none 0 0⟩).length = 33 := by simp [encG, ints, li]
            have om : ∀ v ∈ encG ⟨c.key, .slice none 0 0⟩, v.oneCell' = true := by
              intro v hv
              rcases List.mem_append.1 hv with h1 | h1
              · exact ints_one _ _ v h1
              · rw [List.mem_singleton] at h1; subst h1; rfl
            have hsC := hBC.size
            clear HAF HND hdl hno hs
            have p9 : (L.length : Int) < (L.length : Int) + 1 := by omega
            go_wp2_with (first
              | refine wpList_load_mid rfl 24 _ rfl b (o + i * 34) rfl (ints .u8 c.key) _ rk Try.underlying24 rfl hii ?_
              | refine wpList_build_ent rfl _ rfl c.key li rfl ?_
              | refine wpList_sliceG rfl _ rfl _ lm rfl ?_
              | (at_builtin; refine wpList_pushG rfl (.tmp 73) (.tmp 80) rfl w.heap.size _ rs ⟨c.key, .slice none 0 0⟩ rfl hOC rfl lm om HNL.out hsC _ _ ?_; intro v7 w7 hO7 hB7; obtain ⟨b7, c7, rfl, h7b, h7c, h7z, h7o⟩ := push_facts hO7 HME.out li HRL.out (.slice sp' c.val.length c'); have hB7w := hBC.trans hB7; have cv7 := (hB7w.cell (p := ⟨b, o + i * 34 + 33, none⟩) hb).trans rv; have h7B : Below w.heap.size w (w7.setCell ⟨b7, L.length * 33 + 32, none⟩ (.slice sp' c.val.length c')) := hB7w.setCell h7b _; have H7O := hid h7o; have H7B := hid h7B; clear hO7 hB7 h7o h7B cv cd hOC hEC hBC rk))
            go_roundw
            case rel => exact ⟨i + 1, _, by omega, by go_num, H7O.out, HST.out, H7B.out⟩
            case measure => simp [intOf]; omega
        · cases hdl : c.del with
          | true =>
            have HST := hid (show SaysGL w (rs.eraseIdx p) (aft l0 (cs.take (i + 1))) from by
              rw [HAF.out, step_del_at HND.out hdl hp hpk]
              exact hs.erase p hp)
            rw [hdl] at cd
            have HPK := hid hpk
            clear HAF HND hdl hpk cv
            generalize hwC : wr = wC at *
            clear hwC
            have hsC := hBC.size
            have HRL := hid hs.1
            have HME := hid hs.2
            go_wp2
            go_loopw [10, 11] (fun v kv wr => ∃ k : Nat, k ≤ L.length ∧ kv = .int .i64 k ∧ OwnG wr wC.heap.size v (but rs p k) ∧ Below wC.heap.size wC wr) (fun _ kv _ => L.length - (intOf kv).toNat)
            case atStart => exact ⟨0, by omega, rfl, OwnG.nil _ _, Below.refl _ _⟩
            case round =>
            obtain ⟨k, hk, rfl, hOd, hBd⟩ := hrel
            have hEd := hEC.below hBd
            by_cases hlk : k < L.length
            · have k1 : (k : Int) < (L.length : Int) := by omega
              by_cases hkp : k = p
              · have HT := hid (show but rs p (k + 1) = but rs p k by rw [hkp]; exact but_skip rs p (by rw [HRL.out]; exact hp))
                have k2 : (k : Int) = (p : Int) := by omega
                generalize but rs p k = mk at *
                clear hkp
                go_wp2
                go_roundw
                case rel => exact ⟨k + 1, by omega, (by first | go_num | (congr 1; omega)), (by rw [HT.out]; exact hOd), hBd⟩
                case measure => simp [intOf]; omega
              · have k2 : ¬ (k : Int) = (p : Int) := by omega
                have HT := hid (but_take rs p k (by rw [HRL.out]; exact hlk) (by omega))
                obtain ⟨hb5, rfl⟩ := hEd.pos (by omega)
                have R1 := hEd.rd k hlk
                have sy := HME.out k hlk
                have lm := sy.len
                have om := sy.one
                have S1 := hid (show (Try.prog.info? 81).map (·.size) = some (encG (rs.getD k dG)).length by rw [entSize, lm])
                have HL := hid (show (but rs p k).length + 1 ≤ 1000000000000 by have := but_len rs p k; have := HLL.out; omega)
                have hbs := hBd.size
                clear sy
                generalize rs.getD k dG = m1 at *
                generalize but rs p k = mk at *
                go_wp2_with (first
                  | refine wpList_load_mid rfl 81 _ rfl b5 (k * 33) rfl (encG m1) _ R1 Try.underlying81 rfl S1.out ?_
                  | refine wpList_sliceG rfl _ rfl (encG m1) lm rfl ?_
                  | (at_builtin; refine wpList_pushG rfl (.tmp 63) (.tmp 68) rfl wC.heap.size _ mk m1 rfl hOd rfl lm om HL.out hbs _ _ ?_; intro v7 w7 hO7 hB7))
                go_roundw
                case rel => exact ⟨k + 1, by omega, by go_num, (by rw [HT.out]; exact hO7), hBd.trans hB7⟩
                case measure => simp [intOf]; omega
            · obtain rfl : k = L.length := by omega
              have k1 : ¬ (L.length : Int) < (L.length : Int) := by omega
              have hba := but_all rs p
              rw [HRL.out] at hba
              rw [hba] at hOd
              have hBz : Below w.heap.size w _ := hBC.trans (hBd.mono hsC)
              clear hlk hba
              go_wp2
              go_roundw
              case rel => exact ⟨i + 1, _, by omega, by go_num, hOd.base hsC, HST.out, hBz⟩
              case measure => simp [intOf]; omega
          | false =>
            have HST := hid (show SaysGL w (rs.set p ⟨(rs.getD p dG).key, .slice sp' c.val.length c'⟩) (aft l0 (cs.take (i + 1))) from by
              rw [HAF.out, step_put_at HND.out hdl hp hpk]
              refine hs.set p hp ?_
              rw [(hs.2 p hp).1, hpk]; exact HSG.out)
            rw [hdl] at cd
            have p1 : (p : Int) < (L.length : Int) := by omega
            obtain ⟨h7b, h7s⟩ := hEC.pos (by omega)
            subst h7s
            have h7c := encG_val (hEC.rd p hp) (by rw [(hs.2 p hp).1]; exact (hs.2 p hp).2.1)
            obtain ⟨h7o, h7z⟩ := hOC.put hs.mem p (by rw [hs.1]; exact hp) b5 rfl (.slice sp' c.val.length c')
            have h7B : Below w.heap.size w (wr.setCell ⟨b5, p * 33 + 32, none⟩ (.slice sp' c.val.length c')) := hBC.setCell (hOC.block b5 rfl).1 _
            obtain ⟨_, _, sq, cq, hsq, _, _⟩ := hs.2 p hp
            rw [hsq] at h7c
            have H7O := hid h7o
            have H7B := hid h7B
            clear HAF HND hdl hpk hs h7o h7B hOC hEC hBC rk
            go_wp2
            go_roundw
            case rel => exact ⟨i + 1, _, by omega, by go_num, H7O.out, HST.out, H7B.out⟩
            case measure => simp [intOf]; omega
    · obtain rfl : i = cs.length := by omega
      have i1 : ¬ (cs.length : Int) < (cs.length : Int) := by omega
      rw [List.take_length] at hs
      clear hlt
      go_wp2
      go_ret
      exact ⟨_, rfl, rs, hO, hs, hB⟩
end Go.Proofs.Ytcifbnldohmbnaa
