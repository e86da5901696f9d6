import Derived.Test.YtcifbnldohmbnaaSt
import Derived.Test.YtcifbnldohmbnaaCw
namespace Go.Proofs.Ytcifbnldohmbnaa
set_option linter.unusedVariables false
set_option linter.unusedSimpArgs false
open Go.RowKit
attribute [local go_sem ↓] Go.wp_at_zero Go.wp_at_succ

set_option maxRecDepth 100000 in
set_option maxHeartbeats 1000000 in
theorem alike_any (w : World) (cs : List Chg) (sp : Option Addr) (cap b o : Nat) (ms : List MC) (hC : Chs w sp cap cs b o ms) :
    Calls Try.prog 47 #[.slice sp cs.length cap] w fun e w' => ∃ t : Bool, e = .returned (.bool t) ∧ (t = true → ∃ i, i + 1 < cs.length ∧ (cs.getD i dC).key = (cs.getD (i + 1) dC).key) ∧ (t = false → ∀ i, i + 1 < cs.length → (cs.getD i dC).key ≠ (cs.getD (i + 1) dC).key) ∧ Below w.heap.size w w' := by
  have hm := hC.mx
  have hle := hC.le
  unfold maxLen at hm
  have i0 : (cs.length : Int) ≤ 9223372036854775807 := by omega
  have gk := keyGuard
  go_enter Try.func47, Try.ntmps47
  go_wp2
  go_loopw [3] (fun v wr => ∃ k : Nat, k ≤ cs.length ∧ v = .int .i64 ((k : Int) + 1) ∧ (∀ i, i < k → i + 1 < cs.length → (cs.getD i dC).key ≠ (cs.getD (i + 1) dC).key) ∧ Below w.heap.size w wr) (fun v _ => cs.length + 1 - (intOf v).toNat)
  case atStart => exact ⟨0, by omega, rfl, fun i h => by omega, Below.refl _ _⟩
  case round =>
    obtain ⟨k, hk, rfl, hne, hB⟩ := hrel
    by_cases hlt : k + 1 < cs.length
    · have i1 : (k : Int) + 1 < (cs.length : Int) := by omega
      have i2 : (k : Int) < (cs.length : Int) := by omega
      obtain ⟨hb, rfl⟩ := hC.pos (by omega)
      obtain ⟨_, _, rj, _, _, _, _, lj, _⟩ := hC.at k (by omega)
      obtain ⟨_, _, ri, _, _, _, _, li, _⟩ := hC.at (k + 1) hlt
      have hij : (Try.prog.info? 24).map (·.size) = some (ints .u8 (cs.getD k dC).key).length := by rw [keySize, ints_len, lj]
      have hii : (Try.prog.info? 24).map (·.size) = some (ints .u8 (cs.getD (k + 1) dC).key).length := by rw [keySize, ints_len, li]
      have HWK := hid (show IntKind.i64.wrap (k : Int) = (k : Int) from wrap_i64_id _ (by omega) (by omega))
      by_cases he : (cs.getD k dC).key = (cs.getD (k + 1) dC).key
      · have HEX := hid (show ∃ i, i + 1 < cs.length ∧ (cs.getD i dC).key = (cs.getD (i + 1) dC).key from ⟨k, hlt, he⟩)
        have qe : ∀ w, (Op.equalIn 10000 24 (.agg (ints .u8 (cs.getD k dC).key).toArray) (.agg (ints .u8 (cs.getD (k + 1) dC).key).toArray)).run Try.prog w = .ok true w := fun w => by rw [key_eq _ _ lj li, decide_eq_true he]
        clear hne he
        generalize (cs.getD k dC).key = kj at *
        generalize (cs.getD (k + 1) dC).key = ki at *
        go_wp2
        refine wp_region_noPanic ?_
        refine wp_region_held_drew (S := fun w' => Below w.heap.size w w') (by kernel_rfl) hB.drew (fun hHeld => ?_)
        refine wpAnyH_take (i := 0) (oi := { dst := some 10, op := Op.move (Operand.tmp 0), type := 29, pos := "order.go:55", after := #[], guard := none }) (v := .slice (some ⟨b, o, none⟩) cs.length cap) rfl (by kernel_rfl) (by kernel_rfl) (by kernel_rfl) (fun _ _ _ h => h) (Or.inl ⟨by rfl, by intro w hS; go_simp⟩) hHeld ?_
        try simp only [Act.put, List.setIfInBounds_toArray, List.set_cons_zero, List.set_cons_succ]
        refine wpAnyH_take (i := 1) (oi := { dst := some 11, op := Op.move (Operand.tmp 3), type := 3, pos := "order.go:55", after := #[], guard := none }) (v := .int .i64 (k + 1)) rfl (by kernel_rfl) (by kernel_rfl) (by kernel_rfl) (fun _ _ _ h => h) (Or.inl ⟨by rfl, by intro w hS; go_simp⟩) hHeld ?_
        try simp only [Act.put, List.setIfInBounds_toArray, List.set_cons_zero, List.set_cons_succ]
        refine wpAnyH_take (i := 6) (oi := { dst := some 16, op := Op.move (Operand.tmp 0), type := 29, pos := "order.go:55", after := #[], guard := none }) (v := .slice (some ⟨b, o, none⟩) cs.length cap) rfl (by kernel_rfl) (by kernel_rfl) (by kernel_rfl) (fun _ _ _ h => h) (Or.inl ⟨by rfl, by intro w hS; go_simp⟩) hHeld ?_
        try simp only [Act.put, List.setIfInBounds_toArray, List.set_cons_zero, List.set_cons_succ]
        refine wpAnyH_take (i := 7) (oi := { dst := some 17, op := Op.move (Operand.tmp 3), type := 3, pos := "order.go:55", after := #[], guard := none }) (v := .int .i64 (k + 1)) rfl (by kernel_rfl) (by kernel_rfl) (by kernel_rfl) (fun _ _ _ h => h) (Or.inl ⟨by rfl, by intro w hS; go_simp⟩) hHeld ?_
        try simp only [Act.put, List.setIfInBounds_toArray, List.set_cons_zero, List.set_cons_succ]
        refine wpAnyH_take (i := 2) (oi := { dst := some 12, op := Op.binOp BinOp.sub 3 (Operand.tmp 11) (Operand.const (Value.int IntKind.i64 1)) 3, type := 3, pos := "order.go:55", after := #[{ on := 1, ground := Ground.data }], guard := none }) (v := .int .i64 k) rfl (by kernel_rfl) (by kernel_rfl) (by kernel_rfl) (fun _ _ _ h => h) (Or.inl ⟨by rfl, by intro w hS; go_simp <;> exact HWK.out⟩) hHeld ?_
        try simp only [Act.put, List.setIfInBounds_toArray, List.set_cons_zero, List.set_cons_succ]
        refine wpAnyH_take (i := 8) (oi := { dst := some 18, op := Op.indexAddr 29 (Operand.tmp 16) (Operand.tmp 17), type := 0, pos := "order.go:55", after := #[{ on := 6, ground := Ground.data }, { on := 7, ground := Ground.data }], guard := none }) (v := .pointer (some ⟨b, o + (k + 1) * 34, none⟩)) rfl (by kernel_rfl) (by kernel_rfl) (by kernel_rfl) (fun _ _ _ h => h) (Or.inl ⟨by rfl, by intro w hS; go_simp <;> (intro h; omega)⟩) hHeld ?_
        try simp only [Act.put, List.setIfInBounds_toArray, List.set_cons_zero, List.set_cons_succ]
        refine wpAnyH_take (i := 3) (oi := { dst := some 13, op := Op.indexAddr 29 (Operand.tmp 10) (Operand.tmp 12), type := 0, pos := "order.go:55", after := #[{ on := 0, ground := Ground.data }, { on := 2, ground := Ground.data }], guard := none }) (v := .pointer (some ⟨b, o + k * 34, none⟩)) rfl (by kernel_rfl) (by kernel_rfl) (by kernel_rfl) (fun _ _ _ h => h) (Or.inl ⟨by rfl, by intro w hS; go_simp⟩) hHeld ?_
        try simp only [Act.put, List.setIfInBounds_toArray, List.set_cons_zero, List.set_cons_succ]
        refine wpAnyH_take (i := 9) (oi := { dst := some 19, op := Op.fieldAddr 40 (Operand.tmp 18) 0, type := 0, pos := "order.go:55", after := #[{ on := 8, ground := Ground.data }], guard := none }) (v := .pointer (some ⟨b, o + (k + 1) * 34, none⟩)) rfl (by kernel_rfl) (by kernel_rfl) (by kernel_rfl) (fun _ _ _ h => h) (Or.inl ⟨by rfl, by intro w hS; go_simp⟩) hHeld ?_
        try simp only [Act.put, List.setIfInBounds_toArray, List.set_cons_zero, List.set_cons_succ]
        refine wpAnyH_take (i := 4) (oi := { dst := some 14, op := Op.fieldAddr 40 (Operand.tmp 13) 0, type := 0, pos := "order.go:55", after := #[{ on := 3, ground := Ground.data }], guard := none }) (v := .pointer (some ⟨b, o + k * 34, none⟩)) rfl (by kernel_rfl) (by kernel_rfl) (by kernel_rfl) (fun _ _ _ h => h) (Or.inl ⟨by rfl, by intro w hS; go_simp⟩) hHeld ?_
        try simp only [Act.put, List.setIfInBounds_toArray, List.set_cons_zero, List.set_cons_succ]
        refine wpAnyH_take (i := 10) (oi := { dst := some 20, op := Op.load 24 (Operand.tmp 19), type := 24, pos := "order.go:55", after := #[{ on := 9, ground := Ground.data }], guard := none }) (v := .agg (ints .u8 ki).toArray) rfl (by kernel_rfl) (by kernel_rfl) (by kernel_rfl) (fun _ _ _ h => h) (yieldsIf_load_mid (by rfl) 24 _ rfl b (o + (k + 1) * 34) rfl (ints .u8 ki) _ (fun w hS => rng_below ri hS hb) Try.underlying24 rfl hii) hHeld ?_
        try simp only [Act.put, List.setIfInBounds_toArray, List.set_cons_zero, List.set_cons_succ]
        refine wpAnyH_take (i := 5) (oi := { dst := some 15, op := Op.load 24 (Operand.tmp 14), type := 24, pos := "order.go:55", after := #[{ on := 4, ground := Ground.data }], guard := none }) (v := .agg (ints .u8 kj).toArray) rfl (by kernel_rfl) (by kernel_rfl) (by kernel_rfl) (fun _ _ _ h => h) (yieldsIf_load_mid (by rfl) 24 _ rfl b (o + k * 34) rfl (ints .u8 kj) _ (fun w hS => rng_below rj hS hb) Try.underlying24 rfl hij) hHeld ?_
        try simp only [Act.put, List.setIfInBounds_toArray, List.set_cons_zero, List.set_cons_succ]
        refine wpAnyH_take (i := 11) (oi := { dst := some 21, op := Op.binOp BinOp.eql 24 (Operand.tmp 15) (Operand.tmp 20) 24, type := 4, pos := "order.go:55", after := #[{ on := 5, ground := Ground.data }, { on := 10, ground := Ground.data }], guard := none }) (v := .bool true) rfl (by kernel_rfl) (by kernel_rfl) (by kernel_rfl) (fun _ _ _ h => h) (Or.inl ⟨by rfl, by intro w hS; go_simp⟩) hHeld ?_
        try simp only [Act.put, List.setIfInBounds_toArray, List.set_cons_zero, List.set_cons_succ]
        refine wpAnyH_done (by kernel_rfl) ?_ _
        refine NoPanic.normal ?_
        have hf := hHeld
        clear hHeld
        go_wp2
        go_ret
        exact ⟨true, rfl, fun _ => HEX.out, (fun h => by cases h), hf⟩
      · have HS := hid (show ∀ i, i < k + 1 → i + 1 < cs.length → (cs.getD i dC).key ≠ (cs.getD (i + 1) dC).key from fun i h h2 => by rcases Nat.lt_succ_iff_lt_or_eq.1 h with h | rfl; exact hne i h h2; exact he)
        have qe : ∀ w, (Op.equalIn 10000 24 (.agg (ints .u8 (cs.getD k dC).key).toArray) (.agg (ints .u8 (cs.getD (k + 1) dC).key).toArray)).run Try.prog w = .ok false w := fun w => by rw [key_eq _ _ lj li, decide_eq_false he]
        clear hne he
        generalize (cs.getD k dC).key = kj at *
        generalize (cs.getD (k + 1) dC).key = ki at *
        go_wp2
        refine wp_region_noPanic ?_
        refine wp_region_held_drew (S := fun w' => Below w.heap.size w w') (by kernel_rfl) hB.drew (fun hHeld => ?_)
        refine wpAnyH_take (i := 0) (oi := { dst := some 10, op := Op.move (Operand.tmp 0), type := 29, pos := "order.go:55", after := #[], guard := none }) (v := .slice (some ⟨b, o, none⟩) cs.length cap) rfl (by kernel_rfl) (by kernel_rfl) (by kernel_rfl) (fun _ _ _ h => h) (Or.inl ⟨by rfl, by intro w hS; go_simp⟩) hHeld ?_
        try simp only [Act.put, List.setIfInBounds_toArray, List.set_cons_zero, List.set_cons_succ]
        refine wpAnyH_take (i := 1) (oi := { dst := some 11, op := Op.move (Operand.tmp 3), type := 3, pos := "order.go:55", after := #[], guard := none }) (v := .int .i64 (k + 1)) rfl (by kernel_rfl) (by kernel_rfl) (by kernel_rfl) (fun _ _ _ h => h) (Or.inl ⟨by rfl, by intro w hS; go_simp⟩) hHeld ?_
        try simp only [Act.put, List.setIfInBounds_toArray, List.set_cons_zero, List.set_cons_succ]
        refine wpAnyH_take (i := 6) (oi := { dst := some 16, op := Op.move (Operand.tmp 0), type := 29, pos := "order.go:55", after := #[], guard := none }) (v := .slice (some ⟨b, o, none⟩) cs.length cap) rfl (by kernel_rfl) (by kernel_rfl) (by kernel_rfl) (fun _ _ _ h => h) (Or.inl ⟨by rfl, by intro w hS; go_simp⟩) hHeld ?_
        try simp only [Act.put, List.setIfInBounds_toArray, List.set_cons_zero, List.set_cons_succ]
        refine wpAnyH_take (i := 7) (oi := { dst := some 17, op := Op.move (Operand.tmp 3), type := 3, pos := "order.go:55", after := #[], guard := none }) (v := .int .i64 (k + 1)) rfl (by kernel_rfl) (by kernel_rfl) (by kernel_rfl) (fun _ _ _ h => h) (Or.inl ⟨by rfl, by intro w hS; go_simp⟩) hHeld ?_
        try simp only [Act.put, List.setIfInBounds_toArray, List.set_cons_zero, List.set_cons_succ]
        refine wpAnyH_take (i := 2) (oi := { dst := some 12, op := Op.binOp BinOp.sub 3 (Operand.tmp 11) (Operand.const (Value.int IntKind.i64 1)) 3, type := 3, pos := "order.go:55", after := #[{ on := 1, ground := Ground.data }], guard := none }) (v := .int .i64 k) rfl (by kernel_rfl) (by kernel_rfl) (by kernel_rfl) (fun _ _ _ h => h) (Or.inl ⟨by rfl, by intro w hS; go_simp <;> exact HWK.out⟩) hHeld ?_
        try simp only [Act.put, List.setIfInBounds_toArray, List.set_cons_zero, List.set_cons_succ]
        refine wpAnyH_take (i := 8) (oi := { dst := some 18, op := Op.indexAddr 29 (Operand.tmp 16) (Operand.tmp 17), type := 0, pos := "order.go:55", after := #[{ on := 6, ground := Ground.data }, { on := 7, ground := Ground.data }], guard := none }) (v := .pointer (some ⟨b, o + (k + 1) * 34, none⟩)) rfl (by kernel_rfl) (by kernel_rfl) (by kernel_rfl) (fun _ _ _ h => h) (Or.inl ⟨by rfl, by intro w hS; go_simp <;> (intro h; omega)⟩) hHeld ?_
        try simp only [Act.put, List.setIfInBounds_toArray, List.set_cons_zero, List.set_cons_succ]
        refine wpAnyH_take (i := 3) (oi := { dst := some 13, op := Op.indexAddr 29 (Operand.tmp 10) (Operand.tmp 12), type := 0, pos := "order.go:55", after := #[{ on := 0, ground := Ground.data }, { on := 2, ground := Ground.data }], guard := none }) (v := .pointer (some ⟨b, o + k * 34, none⟩)) rfl (by kernel_rfl) (by kernel_rfl) (by kernel_rfl) (fun _ _ _ h => h) (Or.inl ⟨by rfl, by intro w hS; go_simp⟩) hHeld ?_
        try simp only [Act.put, List.setIfInBounds_toArray, List.set_cons_zero, List.set_cons_succ]
        refine wpAnyH_take (i := 9) (oi := { dst := some 19, op := Op.fieldAddr 40 (Operand.tmp 18) 0, type := 0, pos := "order.go:55", after := #[{ on := 8, ground := Ground.data }], guard := none }) (v := .pointer (some ⟨b, o + (k + 1) * 34, none⟩)) rfl (by kernel_rfl) (by kernel_rfl) (by kernel_rfl) (fun _ _ _ h => h) (Or.inl ⟨by rfl, by intro w hS; go_simp⟩) hHeld ?_
        try simp only [Act.put, List.setIfInBounds_toArray, List.set_cons_zero, List.set_cons_succ]
        refine wpAnyH_take (i := 4) (oi := { dst := some 14, op := Op.fieldAddr 40 (Operand.tmp 13) 0, type := 0, pos := "order.go:55", after := #[{ on := 3, ground := Ground.data }], guard := none }) (v := .pointer (some ⟨b, o + k * 34, none⟩)) rfl (by kernel_rfl) (by kernel_rfl) (by kernel_rfl) (fun _ _ _ h => h) (Or.inl ⟨by rfl, by intro w hS; go_simp⟩) hHeld ?_
        try simp only [Act.put, List.setIfInBounds_toArray, List.set_cons_zero, List.set_cons_succ]
        refine wpAnyH_take (i := 10) (oi := { dst := some 20, op := Op.load 24 (Operand.tmp 19), type := 24, pos := "order.go:55", after := #[{ on := 9, ground := Ground.data }], guard := none }) (v := .agg (ints .u8 ki).toArray) rfl (by kernel_rfl) (by kernel_rfl) (by kernel_rfl) (fun _ _ _ h => h) (yieldsIf_load_mid (by rfl) 24 _ rfl b (o + (k + 1) * 34) rfl (ints .u8 ki) _ (fun w hS => rng_below ri hS hb) Try.underlying24 rfl hii) hHeld ?_
        try simp only [Act.put, List.setIfInBounds_toArray, List.set_cons_zero, List.set_cons_succ]
        refine wpAnyH_take (i := 5) (oi := { dst := some 15, op := Op.load 24 (Operand.tmp 14), type := 24, pos := "order.go:55", after := #[{ on := 4, ground := Ground.data }], guard := none }) (v := .agg (ints .u8 kj).toArray) rfl (by kernel_rfl) (by kernel_rfl) (by kernel_rfl) (fun _ _ _ h => h) (yieldsIf_load_mid (by rfl) 24 _ rfl b (o + k * 34) rfl (ints .u8 kj) _ (fun w hS => rng_below rj hS hb) Try.underlying24 rfl hij) hHeld ?_
        try simp only [Act.put, List.setIfInBounds_toArray, List.set_cons_zero, List.set_cons_succ]
        refine wpAnyH_take (i := 11) (oi := { dst := some 21, op := Op.binOp BinOp.eql 24 (Operand.tmp 15) (Operand.tmp 20) 24, type := 4, pos := "order.go:55", after := #[{ on := 5, ground := Ground.data }, { on := 10, ground := Ground.data }], guard := none }) (v := .bool false) rfl (by kernel_rfl) (by kernel_rfl) (by kernel_rfl) (fun _ _ _ h => h) (Or.inl ⟨by rfl, by intro w hS; go_simp⟩) hHeld ?_
        try simp only [Act.put, List.setIfInBounds_toArray, List.set_cons_zero, List.set_cons_succ]
        refine wpAnyH_done (by kernel_rfl) ?_ _
        refine NoPanic.normal ?_
        have hf := hHeld
        clear hHeld
        go_wp2
        go_roundw
        case rel => exact ⟨k + 1, by omega, by go_num, HS.out, hf⟩
        case measure => simp [intOf]; omega
    · have i1 : (cs.length : Int) ≤ (k : Int) + 1 := by omega
      have HF := hid (show ∀ i, i + 1 < cs.length → (cs.getD i dC).key ≠ (cs.getD (i + 1) dC).key from fun i h => hne i (by omega) h)
      clear hlt hne
      go_wp2
      go_ret
      exact ⟨false, rfl, (fun h => by cases h), fun _ => HF.out, hB⟩
theorem OwnM.base {w : World} {base base' : Nat} {v : Value} {ms : List MC} (h : OwnM w base v ms) (hb : base' ≤ base) : OwnM w base' v ms := by
  refine ⟨h.1, ?_⟩
  rcases h.2 with h2 | ⟨g, cap, cur, rfl, hg, r⟩
  · exact Or.inl h2
  · exact Or.inr ⟨g, cap, cur, rfl, Nat.le_trans hb hg, r⟩
theorem OwnV.base {w : World} {base base' : Nat} {ms : List MC} {cs : List Chg} (h : OwnV w base ms cs) (hb : base' ≤ base) : OwnV w base' ms cs := ⟨h.1, fun i hi => by
  obtain ⟨h1, h2, h3, h4⟩ := h.2 i hi
  exact ⟨h1, h2, h3, h4.base hb⟩⟩
theorem Mine.base {w : World} {base base' : Nat} {v : Value} {cs : List Chg} (h : Mine w base v cs) (hb : base' ≤ base) : Mine w base' v cs := by
  obtain ⟨ms, h1, h2⟩ := h
  exact ⟨ms, h1.base hb, h2.base hb⟩
/-! Permutations, lifted. -/
theorem perm_lift {α β : Type} {f : α → β} : ∀ {l' l : List β}, l'.Perm l → ∀ zs : List α, zs.map f = l → ∃ zs' : List α, zs'.Perm zs ∧ zs'.map f = l' := by
  intro l' l h
  induction h with
  | nil => intro zs hz; exact ⟨[], by rw [List.map_eq_nil_iff.1 hz], rfl⟩
  | cons x _ ih =>
    intro zs hz
    cases zs with
    | nil => simp at hz
    | cons z zs =>
      simp only [List.map_cons, List.cons.injEq] at hz
      obtain ⟨ys, h1, h2⟩ := ih zs hz.2
      exact ⟨z :: ys, h1.cons z, by simp [h2, hz.1]⟩
  | swap x y l =>
    intro zs hz
    match zs, hz with
    | a :: b :: zs, hz =>
      simp only [List.map_cons, List.cons.injEq] at hz
      exact ⟨b :: a :: zs, List.Perm.swap _ _ _, by simp [hz]⟩
  | trans _ _ ih1 ih2 =>
    intro zs hz
    obtain ⟨ys, h1, h2⟩ := ih2 zs hz
    obtain ⟨xs, h3, h4⟩ := ih1 ys h2
    exact ⟨xs, h3.trans h1, h4⟩
theorem OwnV.perm {w : World} {base : Nat} {ms ms' : List MC} {cs : List Chg} (h : OwnV w base ms cs) (hp : ms'.Perm ms) : ∃ cs' : List Chg, cs'.Perm cs ∧ OwnV w base ms' cs' := by
  obtain ⟨hl, hR⟩ := h
  have hz1 : (ms.zip cs).map Prod.fst = ms := List.map_fst_zip (by omega)
  have hz2 : (ms.zip cs).map Prod.snd = cs := List.map_snd_zip (by omega)
  obtain ⟨zs, h1, h2⟩ := perm_lift hp (ms.zip cs) hz1
  have hall : ∀ p ∈ ms.zip cs, p.1.key = p.2.key ∧ p.2.key.length = 32 ∧ p.1.del = p.2.del ∧ Own w base p.1.sv p.2.val := by
    intro p hp
    obtain ⟨i, hi, rfl⟩ := List.mem_iff_getElem.1 hp
    have hi' : i < ms.length ∧ i < cs.length := by rw [List.length_zip] at hi; omega
    have := hR i hi'.2
    rw [List.getD_eq_getElem?_getD, List.getElem?_eq_getElem hi'.1, List.getD_eq_getElem?_getD, List.getElem?_eq_getElem hi'.2] at this
    simpa using this
  refine ⟨zs.map Prod.snd, by have := h1.map Prod.snd; rwa [hz2] at this, ?_⟩
  rw [← h2]
  refine ⟨by simp, fun i hi => ?_⟩
  have hi' : i < zs.length := by simpa using hi
  have := hall zs[i] (h1.mem_iff.1 (List.getElem_mem hi'))
  rw [List.getD_eq_getElem?_getD, List.getElem?_map, List.getElem?_eq_getElem hi', List.getD_eq_getElem?_getD, List.getElem?_map, List.getElem?_eq_getElem hi']
  exact this
theorem OwnV.mem {w : World} {base : Nat} {ms : List MC} {cs : List Chg} (h : OwnV w base ms cs) {P : MC → Prop} (hP : ∀ m c, c ∈ cs → m.key = c.key → c.key.length = 32 → m.del = c.del → Own w base m.sv c.val → P m) : ∀ m ∈ ms, P m := by
  intro m hm
  obtain ⟨i, hi, rfl⟩ := List.mem_iff_getElem.1 hm
  have hi' : i < cs.length := by rw [← h.1]; exact hi
  obtain ⟨h1, h2, h3, h4⟩ := h.2 i hi'
  rw [List.getD_eq_getElem?_getD, List.getElem?_eq_getElem hi, Option.getD_some] at h1 h3 h4
  rw [List.getD_eq_getElem?_getD, List.getElem?_eq_getElem hi', Option.getD_some] at h1 h2 h3 h4
  exact hP _ _ (List.getElem_mem hi') h1 h2 h3 h4
theorem OwnV.le {w : World} {base : Nat} {ms : List MC} {cs : List Chg} (h : OwnV w base ms cs) (hs : ms.Pairwise fun a b => cmpK a.key b.key ≤ 0) : cs.Pairwise LeC := by
  rw [List.pairwise_iff_getElem] at hs ⊢
  intro i j hi hj hij
  have hi' : i < ms.length := by rw [h.1]; exact hi
  have hj' : j < ms.length := by rw [h.1]; exact hj
  have := hs i j hi' hj' hij
  obtain ⟨h1, _⟩ := h.2 i hi
  obtain ⟨h2, _⟩ := h.2 j hj
  rw [List.getD_eq_getElem?_getD, List.getElem?_eq_getElem hi', List.getD_eq_getElem?_getD, List.getElem?_eq_getElem hi] at h1
  rw [List.getD_eq_getElem?_getD, List.getElem?_eq_getElem hj', List.getD_eq_getElem?_getD, List.getElem?_eq_getElem hj] at h2
  simp only [Option.getD_some] at h1 h2
  unfold LeC
  rw [← h1, ← h2]; exact this
theorem key_get (l : List Chg) (i : Nat) (h : i < l.length) : (keysC l)[i]? = some (l.getD i dC).key := by
  simp [keysC, List.getD_eq_getElem?_getD, List.getElem?_eq_getElem h]
/-- What Normal tells. -/
def NorE (cs : List Chg) : Int := wrongC cs 4096
def NorL (cs : List Chg) : List Chg := if wrongC cs 4096 = 0 then normC cs else []
set_option maxRecDepth 100000 in
set_option maxHeartbeats 1000000 in
theorem Normal_any (w : World) (cs : List Chg) (sp : Option Addr) (cap b o : Nat) (ms : List MC) (hC : Chs w sp cap cs b o ms) (hok : ∀ c ∈ cs, OkC c) :
    Calls Try.prog 24 #[.slice sp cs.length cap] w fun e w' => ∃ v, e = .returned (.tuple #[v, .int .i64 (NorE cs)]) ∧ Mine w' w.heap.size v (NorL cs) ∧ (NorE cs = 0 → ∃ g, v = .slice (some ⟨g, 0, none⟩) cs.length cs.length) ∧ Below w.heap.size w w' := by
  have KB := hid (bounds_any w cs sp cap b o ms hC 4096)
  by_cases hbd : boundC cs 4096 = 0
  · have hl4 : cs.length ≤ 4096 ∧ longC cs = false := by
      unfold boundC at hbd
      split at hbd
      · cases hbd
      · rename_i h1
        split at hbd
        · cases hbd
        · rename_i h2; exact ⟨by omega, by simpa using h2⟩
    rw [hbd] at KB
    have HWR := hid (show wrongC cs 4096 = if (keysC cs).Nodup then 0 else 33 by
      unfold wrongC; rw [if_neg (by omega), hl4.2]; simp)
    go_enter Try.func24, Try.ntmps24
    go_wp2_with fail
    refine KB.out.mono ?_
    rintro e w1 ⟨rfl, hB1⟩
    clear KB hbd
    have KC := hid (copies_any w1 cs sp cap b o ms (hC.below hB1) hok (by omega))
    go_wp2_with fail
    refine KC.out.mono ?_
    rintro e w2 ⟨rfl, os, hO2, hV2, hB2⟩
    have hokS : ∀ m ∈ os, OkS m := hV2.mem fun m c hc h1 h2 _ h4 => by
      obtain ⟨c0, hc0, rfl⟩ := List.mem_map.1 hc
      obtain ⟨s9, c9, e9, _⟩ := h4.form
      refine ⟨by rw [h1]; exact h2, ?_, by rw [e9]; rfl⟩
      rw [h1]; exact (hok c0 hc0).2.1
    have KS := hid (sort_any w2 w1.heap.size w1.heap.size cs.length cs.length os hO2 hokS (by omega))
    clear KC
    go_wp2_with fail
    refine KS.out.mono ?_
    rintro e w3 ⟨rfl, os3, hp3, hs3, hO3, hg3⟩
    have hV3 : OwnV w3 w1.heap.size os (cs.map plainC) := hV2.of_heap fun q x hx => hg3.block q (hlt_ hx) (fun e => by
      cases e
      obtain ⟨_, _, y, hy⟩ := hO2.block w1.heap.size rfl
      exact ne_of_type hx hy (by decide) rfl)
    obtain ⟨ds, hpd, hV4⟩ := hV3.perm hp3
    have hle := hV4.le hs3
    have hB3 : Below w.heap.size w w3 := (hB1.trans (hB2.mono hB1.size)).trans (grown_keeps hg3 (fun k hk => by cases hk; exact hB1.size) (by have := hB1.size; have := hB2.size; omega))
    have hdl : ds.length = cs.length := by rw [hpd.length_eq, List.length_map]
    obtain ⟨spd, capd, bd, hvd, hCd, _⟩ := hO3.chs hV4.says
    rw [hdl] at hvd
    obtain ⟨rfl, rfl⟩ : some ⟨w1.heap.size, 0, none⟩ = spd ∧ cs.length = capd := by
      simp only [Value.slice.injEq] at hvd; exact ⟨hvd.1, hvd.2.2⟩
    have KA := alike_any w3 ds _ _ bd 0 os3 hCd
    rw [hdl] at KA
    have KA := hid KA
    have HM := hid (show Mine w3 w.heap.size (.slice (some ⟨w1.heap.size, 0, none⟩) cs.length cs.length) ds from Mine.base ⟨os3, hO3, hV4⟩ hB1.size)
    have HDL := hid hdl
    clear KS hO2 hV2 hV3 hp3 hs3 hg3 hO3 hV4 hCd hvd hokS hdl
    go_wp2_with fail
    refine KA.out.mono ?_
    rintro e w4 ⟨t, rfl, ht1, ht2, hB4⟩
    have hB5 : Below w.heap.size w w4 := hB3.trans (hB4.mono hB3.size)
    cases t with
    | true =>
      obtain ⟨i, hi, he⟩ := ht1 rfl
      have HE := hid (show wrongC cs 4096 = 33 by
        rw [HWR.out, if_neg]
        intro hn
        have hi' : i + 1 < ds.length := by rw [HDL.out]; exact hi
        refine dup_neighbours hi' ?_ ((nodup_perm hpd).2 (by rw [keys_plain]; exact hn))
        rw [key_get ds i (by omega), key_get ds (i + 1) hi', he])
      clear he hi ht1 ht2
      go_wp2
      refine bodyPost_ret (results_tmp2 Try.results24 _ _ _) rfl ⟨.slice none 0 0, ?_, ?_, ?_, hB5⟩
      · unfold NorE; rw [HE.out]; rfl
      · unfold NorL; rw [HE.out, if_neg (by decide)]; exact Mine.nil _ _
      · unfold NorE; rw [HE.out]; intro h; cases h
    | false =>
      have hlt := lt_of_neighbours hle fun i hi => by
        rw [key_get ds i (by omega), key_get ds (i + 1) hi]
        intro h
        exact ht2 rfl i (by rw [← HDL.out]; exact hi) (Option.some.inj h)
      have hnd : (keysC cs).Nodup := by
        rw [← keys_plain]
        exact (nodup_perm hpd).1 (pairwise_ne_of_lt hlt)
      have HE := hid (show wrongC cs 4096 = 0 by rw [HWR.out, if_pos hnd])
      have HD := hid (show ds = normC cs from norm_unique hpd hle hnd)
      clear ht1 ht2
      go_wp2
      refine bodyPost_ret (results_tmp2 Try.results24 _ _ _) rfl ⟨.slice (some ⟨w1.heap.size, 0, none⟩) cs.length cs.length, ?_, ?_, ?_, hB5⟩
      · unfold NorE; rw [HE.out]; rfl
      · unfold NorL; rw [HE.out, if_pos rfl, ← HD.out]; exact HM.out.below hB4
      · exact fun _ => ⟨_, rfl⟩
  · have HE := hid (show wrongC cs 4096 = boundC cs 4096 by
      unfold boundC at hbd ⊢
      unfold wrongC
      by_cases h1 : 4096 < cs.length
      · rw [if_pos h1, if_pos (by omega)]
      · have h1' : ¬ (4096 : Int) < (cs.length : Int) := by omega
        rw [if_neg h1'] at hbd
        rw [if_neg h1, if_neg h1']
        by_cases h2 : longC cs = true
        · rw [if_pos h2, if_pos h2]
        · rw [if_neg h2] at hbd; exact absurd rfl hbd)
    generalize hbb : boundC cs 4096 = bb at *
    clear hbb
    go_enter Try.func24, Try.ntmps24
    go_wp2_with fail
    refine KB.out.mono ?_
    rintro e w1 ⟨rfl, hB1⟩
    go_wp2
    refine bodyPost_ret (results_tmp2 Try.results24 _ _ _) rfl ⟨.slice none 0 0, ?_, ?_, ?_, hB1⟩
    · unfold NorE; rw [HE.out]; rfl
    · unfold NorL; rw [HE.out, if_neg hbd]; exact Mine.nil _ _
    · unfold NorE; rw [HE.out]; intro h; exact absurd h hbd
end Go.Proofs.Ytcifbnldohmbnaa
