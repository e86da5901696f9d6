import Derived.Test.YtbcadiecpcngdaaNi9
namespace Go.Proofs.Ytbcadiecpcngdaa
set_option linter.unusedVariables false
set_option linter.unusedSimpArgs false
open Go.RowKit
attribute [local go_sem ↓] Go.wp_at_zero Go.wp_at_succ

theorem src_take {w : World} {b o cap : Nat} {t : List Int} (hS : Src w (some ⟨b, o, none⟩) cap t) (n : Nat) (h : n ≤ t.length) (hn : 0 < n) : w.rangeAt b o (ints .u8 (t.take n)) := fun j v hv => by
  have hj := (List.getElem?_eq_some_iff.1 hv).1
  rw [ints_len] at hj
  have hj2 : j < n := by simp at hj; omega
  rw [ints_get .u8 _ j hj] at hv
  obtain ⟨_, _, b', o', _, h4, h5⟩ := hS
  have he := h4 (by omega)
  cases he
  have := h5 j (by omega)
  rw [this, ← hv, List.getD_eq_getElem?_getD, List.getD_eq_getElem?_getD, List.getElem?_take, if_pos hj2]
theorem Src.lt {w : World} {b o cap : Nat} {t : List Int} (hS : Src w (some ⟨b, o, none⟩) cap t) (h : 0 < t.length) : b < w.heap.size := by
  obtain ⟨_, _, b', o', h3, h4, _⟩ := hS
  have he := h4 h
  cases he
  exact h3 h
set_option maxRecDepth 100000 in
set_option maxHeartbeats 2000000 in
theorem readForm_leafE (w : World) (t : List Int) (b o : Nat) (hS : Src w (some ⟨b, o, none⟩) 32 t) (hm32 : t.length = 32) :
    Calls Try.prog 35 #[.int .i64 1, .slice (some ⟨b, o, none⟩) 32 32] w fun e w' => e = .returned (.iface 96 (.agg (leafC (t.take 32) (.slice (some ⟨b, o, none⟩) 0 (0))).toArray)) ∧ Below w.heap.size w w' := by
  have hb := hS.lt (by omega)
  have hc := hS.1
  have hm := hS.2.1
  unfold maxLen at hm
  have r0 := src_take hS 32 (by omega) (by omega)
  have hk : (t.take 32).length = 32 := by simp; omega
  have LS := hid (show (Try.prog.info? 37).map (·.size) = some (ints .u8 (t.take 32)).length by rw [Try.sizeKy, ints_len, hk])
  have hl : 32 ≤ t.length := by omega
  have h0 : ∀ w, (Instr.arrayAt 37 (.slice (some ⟨b, o, none⟩) 32 32)).run Try.prog w = .ok (.pointer (some ⟨b, o, none⟩)) w := fun w => run_arrayAt w 37 5 32 (some ⟨b, o, none⟩) 32 32 Try.underlying37 (Nat.le_refl _)
  have BL := hid (fun s m c => built_leaf (t.take 32) hk s m c)
  generalize leafC (t.take 32) = LC at *
  generalize t.take 32 = K at *
  go_enter Try.func35, Try.ntmps35
  go_wp2
  refine wp_region_noPanic ?_
  refine wp_region_held_drew (S := (fun w' => Below w.heap.size w w')) (by kernel_rfl) (Below.refl _ _).drew (fun hHeld => ?_)
  refine wpAnyH_take (i := 0) (oi := { dst := some 13, op := Op.move (Operand.tmp 1), type := 23, pos := "form.go:79", after := #[], guard := none }) (v := .slice (some ⟨b, o, none⟩) 32 32) rfl (by kernel_rfl) (by kernel_rfl) (by kernel_rfl) (fun _ _ _ h => h) (Or.inl ⟨by rfl, by intro w hS; go_simp⟩) hHeld ?_
  try simp only [Act.put, List.setIfInBounds_toArray, List.set_cons_zero, List.set_cons_succ]
  refine wpAnyH_take (i := 4) (oi := { dst := some 17, op := Op.move (Operand.tmp 1), type := 23, pos := "form.go:79", after := #[], guard := none }) (v := .slice (some ⟨b, o, none⟩) 32 32) rfl (by kernel_rfl) (by kernel_rfl) (by kernel_rfl) (fun _ _ _ h => h) (Or.inl ⟨by rfl, by intro w hS; go_simp⟩) hHeld ?_
  try simp only [Act.put, List.setIfInBounds_toArray, List.set_cons_zero, List.set_cons_succ]
  refine wpAnyH_take (i := 1) (oi := { dst := some 14, op := Op.slice 23 (Operand.tmp 13) none (some (Operand.const (Value.int IntKind.i64 32))) none, type := 23, pos := "form.go:79", after := #[{ on := 0, ground := Ground.data }], guard := none }) (v := .slice (some ⟨b, o, none⟩) 32 32) rfl (by kernel_rfl) (by kernel_rfl) (by kernel_rfl) (fun _ _ _ h => h) (Or.inl ⟨by rfl, by intro w hS; go_simp⟩) hHeld ?_
  try simp only [Act.put, List.setIfInBounds_toArray, List.set_cons_zero, List.set_cons_succ]
  refine wpAnyH_take (i := 5) (oi := { dst := some 18, op := Op.slice 23 (Operand.tmp 17) (some (Operand.const (Value.int IntKind.i64 32))) none none, type := 23, pos := "form.go:79", after := #[{ on := 4, ground := Ground.data }], guard := none }) (v := .slice (some ⟨b, o, none⟩) 0 (0)) rfl (by kernel_rfl) (by kernel_rfl) (by kernel_rfl) (fun _ _ _ h => h) (Or.inl ⟨by rfl, by intro w hS; go_simp⟩) hHeld ?_
  try simp only [Act.put, List.setIfInBounds_toArray, List.set_cons_zero, List.set_cons_succ]
  refine wpAnyH_take (i := 2) (oi := { dst := some 15, op := Op.sliceToArrayPointer 37 (Operand.tmp 14), type := 0, pos := "form.go:79", after := #[{ on := 1, ground := Ground.data }], guard := none }) (v := .pointer (some ⟨b, o, none⟩)) rfl (by kernel_rfl) (by kernel_rfl) (by kernel_rfl) (fun _ _ _ h => h) (Or.inl ⟨by rfl, by intro w hS; go_simp⟩) hHeld ?_
  try simp only [Act.put, List.setIfInBounds_toArray, List.set_cons_zero, List.set_cons_succ]
  refine wpAnyH_take (i := 3) (oi := { dst := some 16, op := Op.load 37 (Operand.tmp 15), type := 37, pos := "form.go:79", after := #[{ on := 2, ground := Ground.data }], guard := none }) (v := .agg (ints .u8 K).toArray) rfl (by kernel_rfl) (by kernel_rfl) (by kernel_rfl) (fun _ _ _ h => h) (yieldsIf_load_mid (by rfl) 37 _ rfl b (o) rfl (ints .u8 K) _ (fun w hS => rng_below r0 hS hb) Try.underlying37 rfl LS.out) hHeld ?_
  try simp only [Act.put, List.setIfInBounds_toArray, List.set_cons_zero, List.set_cons_succ]
  refine wpAnyH_take (i := 6) (oi := { dst := some 19, op := Op.build 96 #[(0, Operand.tmp 16), (1, Operand.tmp 18)], type := 96, pos := "form.go:79", after := #[{ on := 3, ground := Ground.data }, { on := 5, ground := Ground.data }], guard := none }) (v := .agg (LC (.slice (some ⟨b, o, none⟩) 0 (0))).toArray) rfl (by kernel_rfl) (by kernel_rfl) (by kernel_rfl) (fun _ _ _ h => h) (yieldsIf_built (by rfl) 96 #[(0, Operand.tmp 16), (1, Operand.tmp 18)] rfl _ rfl _ (BL.out _ _ _)) hHeld ?_
  try simp only [Act.put, List.setIfInBounds_toArray, List.set_cons_zero, List.set_cons_succ]
  refine wpAnyH_take (i := 7) (oi := { dst := some 20, op := Op.makeInterface 96 (Operand.tmp 19), type := 67, pos := "form.go:79", after := #[{ on := 6, ground := Ground.data }], guard := none }) (v := .iface 96 (.agg (LC (.slice (some ⟨b, o, none⟩) 0 (0))).toArray)) rfl (by kernel_rfl) (by kernel_rfl) (by kernel_rfl) (fun _ _ _ h => h) (Or.inl ⟨by rfl, by intro w hS; go_simp⟩) hHeld ?_
  try simp only [Act.put, List.setIfInBounds_toArray, List.set_cons_zero, List.set_cons_succ]
  refine wpAnyH_take (i := 8) (oi := { dst := some 4, op := Op.assign (Operand.tmp 20), type := 67, pos := "form.go:79", after := #[{ on := 7, ground := Ground.data }, { on := 0, ground := Ground.phase }, { on := 1, ground := Ground.phase }, { on := 2, ground := Ground.phase }, { on := 3, ground := Ground.phase }, { on := 4, ground := Ground.phase }, { on := 5, ground := Ground.phase }, { on := 6, ground := Ground.phase }, { on := 7, ground := Ground.phase }], guard := none }) (v := .iface 96 (.agg (LC (.slice (some ⟨b, o, none⟩) 0 (0))).toArray)) rfl (by kernel_rfl) (by kernel_rfl) (by kernel_rfl) (fun _ _ _ h => h) (Or.inl ⟨by rfl, by intro w hS; go_simp⟩) hHeld ?_
  try simp only [Act.put, List.setIfInBounds_toArray, List.set_cons_zero, List.set_cons_succ]
  refine wpAnyH_done (by kernel_rfl) ?_ _
  refine NoPanic.normal ?_
  go_wp2
  go_ret
  exact ⟨rfl, hHeld⟩
set_option maxRecDepth 100000 in
set_option maxHeartbeats 2000000 in
theorem readForm_leafN (w : World) (t : List Int) (hl : 32 ≤ t.length) (b o cap : Nat) (hS : Src w (some ⟨b, o, none⟩) cap t) (hq : ¬ cap = 32) :
    Calls Try.prog 35 #[.int .i64 1, .slice (some ⟨b, o, none⟩) t.length cap] w fun e w' => e = .returned (.iface 96 (.agg (leafC (t.take 32) (.slice (some ⟨b, o + 32, none⟩) (t.length - 32) (cap - 32))).toArray)) ∧ Below w.heap.size w w' := by
  have hb := hS.lt (by omega)
  have hc := hS.1
  have hm := hS.2.1
  unfold maxLen at hm
  have r0 := src_take hS 32 hl (by omega)
  have hk : (t.take 32).length = 32 := by simp; omega
  have LS := hid (show (Try.prog.info? 37).map (·.size) = some (ints .u8 (t.take 32)).length by rw [Try.sizeKy, ints_len, hk])
  have h0 : ∀ w, (Instr.arrayAt 37 (.slice (some ⟨b, o, none⟩) 32 cap)).run Try.prog w = .ok (.pointer (some ⟨b, o, none⟩)) w := fun w => run_arrayAt w 37 5 32 (some ⟨b, o, none⟩) 32 cap Try.underlying37 (Nat.le_refl _)
  have BL := hid (fun s m c => built_leaf (t.take 32) hk s m c)
  generalize leafC (t.take 32) = LC at *
  generalize t.take 32 = K at *
  generalize t.length = m at *
  have i1 : (32 : Int) ≤ (m : Int) := by omega
  have i2 : (m : Int) ≤ 9223372036854775807 := by omega
  have i3 : (32 : Int) ≤ (cap : Int) := by omega
  have i4 : (m : Int) ≤ (cap : Int) := by omega
  go_enter Try.func35, Try.ntmps35
  go_wp2
  refine wp_region_noPanic ?_
  refine wp_region_held_drew (S := (fun w' => Below w.heap.size w w')) (by kernel_rfl) (Below.refl _ _).drew (fun hHeld => ?_)
  refine wpAnyH_take (i := 0) (oi := { dst := some 13, op := Op.move (Operand.tmp 1), type := 23, pos := "form.go:79", after := #[], guard := none }) (v := .slice (some ⟨b, o, none⟩) m cap) rfl (by kernel_rfl) (by kernel_rfl) (by kernel_rfl) (fun _ _ _ h => h) (Or.inl ⟨by rfl, by intro w hS; go_simp⟩) hHeld ?_
  try simp only [Act.put, List.setIfInBounds_toArray, List.set_cons_zero, List.set_cons_succ]
  refine wpAnyH_take (i := 4) (oi := { dst := some 17, op := Op.move (Operand.tmp 1), type := 23, pos := "form.go:79", after := #[], guard := none }) (v := .slice (some ⟨b, o, none⟩) m cap) rfl (by kernel_rfl) (by kernel_rfl) (by kernel_rfl) (fun _ _ _ h => h) (Or.inl ⟨by rfl, by intro w hS; go_simp⟩) hHeld ?_
  try simp only [Act.put, List.setIfInBounds_toArray, List.set_cons_zero, List.set_cons_succ]
  refine wpAnyH_take (i := 1) (oi := { dst := some 14, op := Op.slice 23 (Operand.tmp 13) none (some (Operand.const (Value.int IntKind.i64 32))) none, type := 23, pos := "form.go:79", after := #[{ on := 0, ground := Ground.data }], guard := none }) (v := .slice (some ⟨b, o, none⟩) 32 cap) rfl (by kernel_rfl) (by kernel_rfl) (by kernel_rfl) (fun _ _ _ h => h) (Or.inl ⟨by rfl, by intro w hS; go_simp⟩) hHeld ?_
  try simp only [Act.put, List.setIfInBounds_toArray, List.set_cons_zero, List.set_cons_succ]
  refine wpAnyH_take (i := 5) (oi := { dst := some 18, op := Op.slice 23 (Operand.tmp 17) (some (Operand.const (Value.int IntKind.i64 32))) none none, type := 23, pos := "form.go:79", after := #[{ on := 4, ground := Ground.data }], guard := none }) (v := .slice (some ⟨b, o + 32, none⟩) (m - 32) (cap - 32)) rfl (by kernel_rfl) (by kernel_rfl) (by kernel_rfl) (fun _ _ _ h => h) (Or.inl ⟨by rfl, by intro w hS; go_simp⟩) hHeld ?_
  try simp only [Act.put, List.setIfInBounds_toArray, List.set_cons_zero, List.set_cons_succ]
  refine wpAnyH_take (i := 2) (oi := { dst := some 15, op := Op.sliceToArrayPointer 37 (Operand.tmp 14), type := 0, pos := "form.go:79", after := #[{ on := 1, ground := Ground.data }], guard := none }) (v := .pointer (some ⟨b, o, none⟩)) rfl (by kernel_rfl) (by kernel_rfl) (by kernel_rfl) (fun _ _ _ h => h) (Or.inl ⟨by rfl, by intro w hS; go_simp⟩) hHeld ?_
  try simp only [Act.put, List.setIfInBounds_toArray, List.set_cons_zero, List.set_cons_succ]
  refine wpAnyH_take (i := 3) (oi := { dst := some 16, op := Op.load 37 (Operand.tmp 15), type := 37, pos := "form.go:79", after := #[{ on := 2, ground := Ground.data }], guard := none }) (v := .agg (ints .u8 K).toArray) rfl (by kernel_rfl) (by kernel_rfl) (by kernel_rfl) (fun _ _ _ h => h) (yieldsIf_load_mid (by rfl) 37 _ rfl b (o) rfl (ints .u8 K) _ (fun w hS => rng_below r0 hS hb) Try.underlying37 rfl LS.out) hHeld ?_
  try simp only [Act.put, List.setIfInBounds_toArray, List.set_cons_zero, List.set_cons_succ]
  refine wpAnyH_take (i := 6) (oi := { dst := some 19, op := Op.build 96 #[(0, Operand.tmp 16), (1, Operand.tmp 18)], type := 96, pos := "form.go:79", after := #[{ on := 3, ground := Ground.data }, { on := 5, ground := Ground.data }], guard := none }) (v := .agg (LC (.slice (some ⟨b, o + 32, none⟩) (m - 32) (cap - 32))).toArray) rfl (by kernel_rfl) (by kernel_rfl) (by kernel_rfl) (fun _ _ _ h => h) (yieldsIf_built (by rfl) 96 #[(0, Operand.tmp 16), (1, Operand.tmp 18)] rfl _ rfl _ (BL.out _ _ _)) hHeld ?_
  try simp only [Act.put, List.setIfInBounds_toArray, List.set_cons_zero, List.set_cons_succ]
  refine wpAnyH_take (i := 7) (oi := { dst := some 20, op := Op.makeInterface 96 (Operand.tmp 19), type := 67, pos := "form.go:79", after := #[{ on := 6, ground := Ground.data }], guard := none }) (v := .iface 96 (.agg (LC (.slice (some ⟨b, o + 32, none⟩) (m - 32) (cap - 32))).toArray)) rfl (by kernel_rfl) (by kernel_rfl) (by kernel_rfl) (fun _ _ _ h => h) (Or.inl ⟨by rfl, by intro w hS; go_simp⟩) hHeld ?_
  try simp only [Act.put, List.setIfInBounds_toArray, List.set_cons_zero, List.set_cons_succ]
  refine wpAnyH_take (i := 8) (oi := { dst := some 4, op := Op.assign (Operand.tmp 20), type := 67, pos := "form.go:79", after := #[{ on := 7, ground := Ground.data }, { on := 0, ground := Ground.phase }, { on := 1, ground := Ground.phase }, { on := 2, ground := Ground.phase }, { on := 3, ground := Ground.phase }, { on := 4, ground := Ground.phase }, { on := 5, ground := Ground.phase }, { on := 6, ground := Ground.phase }, { on := 7, ground := Ground.phase }], guard := none }) (v := .iface 96 (.agg (LC (.slice (some ⟨b, o + 32, none⟩) (m - 32) (cap - 32))).toArray)) rfl (by kernel_rfl) (by kernel_rfl) (by kernel_rfl) (fun _ _ _ h => h) (Or.inl ⟨by rfl, by intro w hS; go_simp⟩) hHeld ?_
  try simp only [Act.put, List.setIfInBounds_toArray, List.set_cons_zero, List.set_cons_succ]
  refine wpAnyH_done (by kernel_rfl) ?_ _
  refine NoPanic.normal ?_
  go_wp2
  go_ret
  exact ⟨rfl, hHeld⟩
set_option maxRecDepth 100000 in
set_option maxHeartbeats 2000000 in
theorem readForm_branch (w : World) (t : List Int) (hy : Bys t) (hl : t.length = 80) (sp : Option Addr) (cap : Nat) (hS : Src w sp cap t) :
    Calls Try.prog 35 #[.int .i64 2, .slice sp 80 cap] w fun e w' => e = .returned (.iface 98 (.agg (brC (readB t)).toArray)) ∧ Below w.heap.size w w' := by
  have KB := hid (readBranch_any w t hy hl sp cap hS)
  generalize brC (readB t) = C at *
  go_enter Try.func35, Try.ntmps35
  go_wp2_with fail
  refine KB.out.mono ?_
  rintro e w2 ⟨rfl, hb2⟩
  go_wp2
  go_ret
  exact ⟨rfl, hb2⟩
set_option maxRecDepth 100000 in
set_option maxHeartbeats 2000000 in
theorem readForm_nil1 (w : World) (sp : Option Addr) (m cap : Nat) (hm : (m : Int) ≤ 9223372036854775807) (h : ¬ 32 ≤ m) :
    Calls Try.prog 35 #[.int .i64 1, .slice sp m cap] w fun e w' => e = .returned .nilIface ∧ Below w.heap.size w w' := by
  have i1 : (m : Int) < 32 := by omega
  go_enter Try.func35, Try.ntmps35
  go_wp2
  go_ret
  exact ⟨rfl, Below.refl _ _⟩
set_option maxRecDepth 100000 in
set_option maxHeartbeats 2000000 in
theorem readForm_nil2 (w : World) (sp : Option Addr) (m cap : Nat) (hm : (m : Int) ≤ 9223372036854775807) (h : ¬ m = 80) :
    Calls Try.prog 35 #[.int .i64 2, .slice sp m cap] w fun e w' => e = .returned .nilIface ∧ Below w.heap.size w w' := by
  have i1 : ¬ (m : Int) = 80 := by omega
  go_enter Try.func35, Try.ntmps35
  go_wp2
  go_ret
  exact ⟨rfl, Below.refl _ _⟩
set_option maxRecDepth 100000 in
set_option maxHeartbeats 2000000 in
theorem readForm_nil3 (w : World) (k : Int) (sp : Option Addr) (m cap : Nat) (hm : (m : Int) ≤ 9223372036854775807) (h1 : ¬ k = 1) (h2 : ¬ k = 2) :
    Calls Try.prog 35 #[.int .i64 k, .slice sp m cap] w fun e w' => e = .returned .nilIface ∧ Below w.heap.size w w' := by
  go_enter Try.func35, Try.ntmps35
  go_wp2
  go_ret
  exact ⟨rfl, Below.refl _ _⟩
theorem taLL (v : Value) (w : World) : (Instr.typeAssert (.iface 96 v) 67 96 true).run Try.prog w = .ok (.tuple #[v, .bool true]) w := by kernel_rfl
theorem taBL (v : Value) (w : World) : (Instr.typeAssert (.iface 98 v) 67 96 true).run Try.prog w = .ok (.tuple #[.agg (leafC zD (.slice none 0 0)).toArray, .bool false]) w := by kernel_rfl
theorem taBB (v : Value) (w : World) : (Instr.typeAssert (.iface 98 v) 67 98 true).run Try.prog w = .ok (.tuple #[v, .bool true]) w := by kernel_rfl
set_option maxRecDepth 100000 in
set_option maxHeartbeats 2000000 in
theorem nodeOf_leaf (w : World) (k vs : List Int) (hk : k.length = 32) (sp : Option Addr) (cap : Nat) (hS : Src w sp cap vs) (hnil : sp = none → cap = 0) (hv : vs.length ≤ 128) :
    Calls Try.prog 36 #[.iface 96 (.agg (leafC k (.slice sp vs.length cap)).toArray)] w fun e w' => ∃ s c, e = .returned (.agg (ndC ⟨1, 0, 0, 0, 0, zD, zD, k, vs⟩ (.slice s vs.length c)).toArray) ∧ Own w' w.heap.size (.slice s vs.length c) vs ∧ Below w.heap.size w w' := by
  have KC := hid (fun w1 (h : Src w1 sp cap vs) => Clone_any9 w1 vs sp cap h hnil (by omega))
  have AN := hid allocNd
  have AL := hid allocLf
  have d0 := ((BK.nil w).alloc (ndC nd0 (.slice none 0 0)) 39).alloc (leafC k (.slice sp vs.length cap)) 96
  rw [show (w.alloc (.cells (ndC nd0 (.slice none 0 0)).toArray 39)).heap.size = w.heap.size + 1 by simp] at d0
  replace d0 : BK w _ [(w.heap.size, ndC nd0 (.slice none 0 0), 39), (w.heap.size + 1, leafC k (.slice sp vs.length cap), 96)] := ⟨d0.1, fun x hx => d0.2 x (by simp only [List.mem_cons, List.not_mem_nil, or_false] at hx ⊢; exact hx.symm)⟩
  have ta := taLL (.agg (leafC k (.slice sp vs.length cap)).toArray)
  have LZ := hid (show (leafC zD (.slice none 0 0)).length = 33 from rfl)
  have LL := hid (leafC_len k (.slice sp vs.length cap) hk)
  have OL := hid (leafC_one k (.slice sp vs.length cap) rfl)
  have BN := hid (fun s n c => built_ndL k hk vs s n c)
  have LN := hid (fun v => ndC_len (n := ⟨1, 0, 0, 0, 0, zD, zD, k, vs⟩) ⟨rfl, rfl, hk⟩ v)
  have ON := hid (fun s n c => ndC_one ⟨1, 0, 0, 0, 0, zD, zD, k, vs⟩ (.slice s n c) rfl)
  have L0 := hid (show (ndC nd0 (.slice none 0 0)).length = 102 from rfl)
  have LS := hid (show (Try.prog.info? 37).map (·.size) = some (ints .u8 k).length by rw [Try.sizeKy, ints_len, hk])
  have hcv := leafC_v k (.slice sp vs.length cap) hk
  have hck : ∀ j x, (ints .u8 k)[j]? = some x → (leafC k (.slice sp vs.length cap))[0 + j]? = some x := fun j x hx => by
    rw [Nat.zero_add]; unfold leafC; rw [List.getElem?_append_left (List.getElem?_eq_some_iff.1 hx).1]; exact hx
  generalize ndC nd0 (.slice none 0 0) = N0 at *
  generalize leafC zD (.slice none 0 0) = LZ0 at *
  generalize leafC k (.slice sp vs.length cap) = LC at *
  generalize ndC ⟨1, 0, 0, 0, 0, zD, zD, k, vs⟩ = NF at *
  generalize hM : vs.length = m at *
  have HM := hid hM
  clear hM
  go_enter Try.func36, Try.ntmps36
  go_wp2_with (first
    | refine wpList_allocV AN.out rfl rfl ?_
    | refine wpList_new AL.out LZ.out Try.sizeLf rfl rfl rfl _ _ rfl rfl LC rfl rfl LL.out OL.out ?_)
  generalize (w.alloc (.cells N0.toArray 39)).alloc (.cells LC.toArray 96) = w1 at *
  have hlt1 := d0.lt (.tail _ (.head _))
  refine wp_region_noPanic ?_
  refine wp_region_held_drew (S := (fun w' => ∃ C, C.length = 102 ∧ BK w w' [(w.heap.size, C, 39), (w.heap.size + 1, LC, 96)])) (by kernel_rfl) ⟨N0, L0.out, d0.drew⟩ (fun hHeld => ?_)
  refine wpAnyH_take (i := 0) (oi := { dst := some 11, op := Op.fieldAddr 96 (Operand.tmp 3) 0, type := 0, pos := "form.go:64", after := #[], guard := none }) (v := .pointer (some ⟨(w.heap.size + 1), 0, none⟩)) rfl (by kernel_rfl) (by kernel_rfl) (by kernel_rfl) (fun _ _ _ h => h) (Or.inl ⟨by rfl, by intro w hS; go_simp⟩) hHeld ?_
  try simp only [Act.put, List.setIfInBounds_toArray, List.set_cons_zero, List.set_cons_succ]
  refine wpAnyH_take (i := 2) (oi := { dst := some 13, op := Op.fieldAddr 96 (Operand.tmp 3) 1, type := 0, pos := "form.go:64", after := #[], guard := none }) (v := .pointer (some ⟨(w.heap.size + 1), 32, none⟩)) rfl (by kernel_rfl) (by kernel_rfl) (by kernel_rfl) (fun _ _ _ h => h) (Or.inl ⟨by rfl, by intro w hS; go_simp⟩) hHeld ?_
  try simp only [Act.put, List.setIfInBounds_toArray, List.set_cons_zero, List.set_cons_succ]
  refine wpAnyH_take (i := 1) (oi := { dst := some 12, op := Op.load 37 (Operand.tmp 11), type := 37, pos := "form.go:64", after := #[{ on := 0, ground := Ground.data }], guard := none }) (v := .agg (ints .u8 k).toArray) rfl (by kernel_rfl) (by kernel_rfl) (by kernel_rfl) (fun _ _ _ h => h) (yieldsIf_load_mid (by rfl) 37 _ rfl (w.heap.size + 1) (0) rfl (ints .u8 k) _ (fun w hS => hS.choose_spec.2.rng (.tail _ (.head _)) hck) Try.underlying37 rfl LS.out) hHeld ?_
  try simp only [Act.put, List.setIfInBounds_toArray, List.set_cons_zero, List.set_cons_succ]
  refine wpAnyH_take (i := 3) (oi := { dst := some 14, op := Op.load 23 (Operand.tmp 13), type := 23, pos := "form.go:64", after := #[{ on := 2, ground := Ground.data }], guard := none }) (v := .slice sp m cap) rfl (by kernel_rfl) (by kernel_rfl) (by kernel_rfl) (fun _ _ _ h => h) (Or.inl ⟨by rfl, by intro w hS; have hc := hS.choose_spec.2.cell (.tail _ (.head _)) hcv; go_simp⟩) hHeld ?_
  try simp only [Act.put, List.setIfInBounds_toArray, List.set_cons_zero, List.set_cons_succ]
  refine wpAnyH_ready (rs := [4]) (by kernel_rfl) (by simp) ?_
  refine (AllReadyH.cons (o := { dst := some 15, op := Op.call { callee := Callee.value (Operand.func 53), args := #[Operand.tmp 14], argTypes := #[23] }, type := 23, pos := "form.go:64", after := #[{ on := 3, ground := Ground.data }], guard := none }) rfl (fun K hK => ?_) AllReadyH.nil)
  go_simp
  go_at_call 53
  refine (KC.out _ (hS.below hHeld.choose_spec.2.1 (Nat.le_refl _))).mono ?_
  rintro e w4 ⟨v5, rfl, hO5, hb4⟩
  obtain ⟨s5, c5, rfl, S5, n5⟩ := hO5.form
  have hh := hHeld
  obtain ⟨C4, hC4, dC4⟩ := hh
  go_wp2_with fail
  refine hK.out _ _ (⟨C4, hC4, dC4.call hb4⟩) (fun hHeld2 => ?_)
  clear hK K hHeld
  have hHeld := hHeld2
  clear hHeld2
  try simp only [Act.put, List.setIfInBounds_toArray, List.set_cons_zero, List.set_cons_succ]
  refine wpAnyH_take (i := 5) (oi := { dst := some 16, op := Op.build 39 #[(0, Operand.const (Value.int IntKind.i64 1)), (7, Operand.tmp 12), (8, Operand.tmp 15)], type := 39, pos := "form.go:64", after := #[{ on := 1, ground := Ground.data }, { on := 4, ground := Ground.data }], guard := none }) (v := .agg (NF (.slice s5 vs.length c5)).toArray) rfl (by kernel_rfl) (by kernel_rfl) (by kernel_rfl) (fun _ _ _ h => h) (yieldsIf_built (by rfl) 39 #[(0, Operand.const (Value.int IntKind.i64 1)), (7, Operand.tmp 12), (8, Operand.tmp 15)] rfl _ rfl _ (BN.out _ _ _)) hHeld ?_
  try simp only [Act.put, List.setIfInBounds_toArray, List.set_cons_zero, List.set_cons_succ]
  refine wpAnyH_ready (rs := [6]) (by kernel_rfl) (by simp) ?_
  refine (AllReadyH.cons (o := { dst := none, op := Op.store 39 (Operand.tmp 2) (Operand.tmp 16), type := 0, pos := "form.go:64", after := #[{ on := 5, ground := Ground.data }, { on := 4, ground := Ground.chain }, { on := 0, ground := Ground.phase }, { on := 1, ground := Ground.phase }, { on := 2, ground := Ground.phase }, { on := 3, ground := Ground.phase }, { on := 4, ground := Ground.phase }, { on := 5, ground := Ground.phase }], guard := none }) rfl (fun K hK => ?_) AllReadyH.nil)
  have hh := hHeld
  obtain ⟨C, hC, dC⟩ := hh
  rw [if_pos (by rfl)]
  refine wp_store_row 39 _ _ rfl w.heap.size (NF (.slice s5 vs.length c5)).toArray rfl rfl 39 _ (dC.row (.head _)) (by rw [Try.sizeNd, List.size_toArray, LN.out]) (by rw [List.size_toArray, List.size_toArray, hC, LN.out]) (all_oneCell_toArray (ON.out _ _ _)) ?_
  have d9 := dC.set (Nat.le_refl _) (by intro x hx; simp only [List.mem_cons, List.not_mem_nil, or_false] at hx; subst hx; simp) (NF (.slice s5 vs.length c5))
  have hO9 := own_lower (hO5.of_heap (fun k hk => setRow_other _ w.heap.size k (NF (.slice s5 vs.length c5)).toArray (by have h1 := (hO5.block k hk).1; have h2 : w.heap.size + 1 < w1.drew.heap.size := hlt1; omega))) (show w.heap.size ≤ w1.drew.heap.size by have h2 : w.heap.size + 1 < w1.drew.heap.size := hlt1; omega)
  refine hK.out _ _ (⟨_, LN.out _, d9⟩) (fun hHeld2 => ?_)
  clear hK K hHeld
  have hHeld := hHeld2
  clear hHeld2
  try simp only [Act.put, List.setIfInBounds_toArray, List.set_cons_zero, List.set_cons_succ]
  refine wpAnyH_done (by kernel_rfl) ?_ _
  refine NoPanic.normal ?_
  go_wp2
  exact bodyPost_ret (v := .agg (NF (.slice s5 vs.length c5)).toArray) (results_cell_row Try.results36 _ _ w.heap.size 39 _ _ _ rfl (d9.row (.head _)) Try.underlying39 rfl (by rw [Try.sizeNd, List.size_toArray, LN.out])) rfl ⟨s5, c5, by rw [HM.out], by rw [← HM.out]; exact hO9, d9.1⟩
theorem BK.sub {w0 w : World} {L L' : List (Nat × List Value × Nat)} (h : BK w0 w L) (hL : ∀ x, x ∈ L' → x ∈ L) : BK w0 w L' := ⟨h.1, fun x hx => h.2 x (hL x hx)⟩
theorem BK.set2 {w0 w : World} {L : List (Nat × List Value × Nat)} {b t : Nat} {zs : List Value} {x : Nat × List Value × Nat} (h : BK w0 w (x :: (b, zs, t) :: L)) (hb : w0.heap.size ≤ b) (hx : x.1 ≠ b) (hL : ∀ x, x ∈ L → x.1 ≠ b) (ys : List Value) : BK w0 (w.setRow b ys.toArray) (x :: (b, ys, t) :: L) := by
  refine ⟨below_setRow h.1 hb _, fun y hy => ?_⟩
  rcases List.mem_cons.1 hy with rfl | hy
  · exact (setRow_other _ _ _ _ hx).trans (h.2 _ (.head _))
  rcases List.mem_cons.1 hy with rfl | hy
  · exact setRow_heap _ _ _ _ _ _ (h.2 _ (.tail _ (.head _)))
  · exact (setRow_other _ _ _ _ (hL y hy)).trans (h.2 y (.tail _ (.tail _ hy)))
set_option maxRecDepth 100000 in
set_option maxHeartbeats 2000000 in
theorem nodeOf_branch (w : World) (n : Nd) (ok : NdOk n) (hz : n = ⟨2, n.l, n.r, n.lc, n.rc, n.ls, n.rs, zD, []⟩) :
    Calls Try.prog 36 #[.iface 98 (.agg (brC n).toArray)] w fun e w' => e = .returned (.agg (ndC n (.slice none 0 0)).toArray) ∧ Below w.heap.size w w' := by
  have AN := hid allocNd
  have AB := hid allocBr
  have AC := hid allocCh
  have d0 := ((BK.nil w).alloc (ndC nd0 (.slice none 0 0)) 39).alloc (brC n) 98
  rw [show (w.alloc (.cells (ndC nd0 (.slice none 0 0)).toArray 39)).heap.size = w.heap.size + 1 by simp] at d0
  replace d0 : BK w _ [(w.heap.size, ndC nd0 (.slice none 0 0), 39), (w.heap.size + 1, brC n, 98)] := ⟨d0.1, fun x hx => d0.2 x (by simp only [List.mem_cons, List.not_mem_nil, or_false] at hx ⊢; exact hx.symm)⟩
  have hz1 : ((w.alloc (.cells (ndC nd0 (.slice none 0 0)).toArray 39)).alloc (.cells (brC n).toArray 98)).heap.size = w.heap.size + 2 := by simp
  have ta := taBL (.agg (brC n).toArray)
  have tb := taBB (.agg (brC n).toArray)
  have LZ := hid (show (brC nd0).length = 68 from rfl)
  have LB := hid (brC_len ok)
  have OB := hid (brC_one n)
  have HN := hid (show ndC n (.slice none 0 0) = ndC ⟨2, n.l, n.r, n.lc, n.rc, n.ls, n.rs, zD, []⟩ (.slice none 0 0) by rw [← hz])
  have BN := hid (built_ndB n.l n.r n.lc n.rc n.ls n.rs ok.ls ok.rs)
  rw [← HN.out] at BN
  have LN := hid (ndC_len ok (.slice none 0 0))
  have ON := hid (ndC_one n (.slice none 0 0) rfl)
  have L0 := hid (show (ndC nd0 (.slice none 0 0)).length = 102 from rfl)
  have LC0 := hid (show (chC 0 0 zD).length = 34 from rfl)
  have LL := hid (chC_len n.l n.lc n.ls ok.ls)
  have LR := hid (chC_len n.r n.rc n.rs ok.rs)
  have OL := hid (chC_one n.l n.lc n.ls)
  have OR := hid (chC_one n.r n.rc n.rs)
  have SL := hid (show (Try.prog.info? 94).map (·.size) = some (chC n.l n.lc n.ls).length by rw [Try.sizeCh, LL.out])
  have SR := hid (show (Try.prog.info? 94).map (·.size) = some (chC n.r n.rc n.rs).length by rw [Try.sizeCh, LR.out])
  have DL := hid (show (Try.prog.info? 36).map (·.size) = some (ints .u8 n.ls).length by rw [Try.sizeD, ints_len, ok.ls])
  have DR := hid (show (Try.prog.info? 36).map (·.size) = some (ints .u8 n.rs).length by rw [Try.sizeD, ints_len, ok.rs])
  have gl : ∀ j v, (chC n.l n.lc n.ls)[j]? = some v → (brC n)[0 + j]? = some v := fun j v hv => by rw [Nat.zero_add]; exact brC_get0 ok j v hv
  have gr : ∀ j v, (chC n.r n.rc n.rs)[j]? = some v → (brC n)[34 + j]? = some v := fun j v hv => brC_get ok j v hv
  have pl : (chC n.l n.lc n.ls)[0]? = some (.int .i64 n.l) := rfl
  have plc : (chC n.l n.lc n.ls)[1]? = some (.int .i64 n.lc) := rfl
  have pls : ∀ j v, (ints .u8 n.ls)[j]? = some v → (chC n.l n.lc n.ls)[2 + j]? = some v := fun j v hv => chC_s _ _ _ j v hv
  have pr : (chC n.r n.rc n.rs)[0]? = some (.int .i64 n.r) := rfl
  have prc : (chC n.r n.rc n.rs)[1]? = some (.int .i64 n.rc) := rfl
  have prs : ∀ j v, (ints .u8 n.rs)[j]? = some v → (chC n.r n.rc n.rs)[2 + j]? = some v := fun j v hv => chC_s _ _ _ j v hv
  clear HN hz
  generalize ndC nd0 (.slice none 0 0) = N0 at *
  generalize ndC n (.slice none 0 0) = NF at *
  generalize brC nd0 = B0 at *
  generalize brC n = BC at *
  generalize chC 0 0 zD = CZ at *
  generalize chC n.l n.lc n.ls = CL at *
  generalize chC n.r n.rc n.rs = CR at *
  generalize n.l = vl at *
  generalize n.r = vr at *
  generalize n.lc = vlc at *
  generalize n.rc = vrc at *
  go_enter Try.func36, Try.ntmps36
  go_wp2_with (first
    | refine wpList_allocV AN.out rfl rfl ?_
    | refine wpList_new AB.out LZ.out Try.sizeBr rfl rfl rfl _ _ rfl rfl BC rfl rfl LB.out OB.out ?_)
  generalize (w.alloc (.cells N0.toArray 39)).alloc (.cells BC.toArray 98) = w1 at *
  have dd := d0.drew
  have sA : w1.drew.heap.size = w.heap.size + 2 := hz1
  have sB : (w1.drew.alloc (.cells CZ.toArray 94)).heap.size = w.heap.size + 3 := by rw [World.size_alloc, sA]
  refine wp_region_noPanic ?_
  refine wp_region_held_drew (S := (fun w' => BK w w' [(w.heap.size, N0, 39), (w.heap.size + 1, BC, 98)])) (by kernel_rfl) d0.drew (fun hHeld => ?_)
  refine wpAnyH_take (i := 0) (oi := { dst := some 20, op := Op.fieldAddr 98 (Operand.tmp 4) 0, type := 0, pos := "form.go:66", after := #[], guard := none }) (v := .pointer (some ⟨(w.heap.size + 1), 0, none⟩)) rfl (by kernel_rfl) (by kernel_rfl) (by kernel_rfl) (fun _ _ _ h => h) (Or.inl ⟨by rfl, by intro w hS; go_simp⟩) hHeld ?_
  try simp only [Act.put, List.setIfInBounds_toArray, List.set_cons_zero, List.set_cons_succ]
  refine wpAnyH_take (i := 2) (oi := { dst := some 22, op := Op.fieldAddr 98 (Operand.tmp 4) 1, type := 0, pos := "form.go:66", after := #[{ on := 6, ground := Ground.gcOnly Departure.lateStores }], guard := none }) (v := .pointer (some ⟨(w.heap.size + 1), 34, none⟩)) rfl (by kernel_rfl) (by kernel_rfl) (by kernel_rfl) (fun _ _ _ h => h) (Or.inl ⟨by rfl, by intro w hS; go_simp⟩) hHeld ?_
  try simp only [Act.put, List.setIfInBounds_toArray, List.set_cons_zero, List.set_cons_succ]
  refine wpAnyH_take (i := 1) (oi := { dst := some 21, op := Op.load 94 (Operand.tmp 20), type := 94, pos := "form.go:66", after := #[{ on := 0, ground := Ground.data }], guard := none }) (v := .agg (CL).toArray) rfl (by kernel_rfl) (by kernel_rfl) (by kernel_rfl) (fun _ _ _ h => h) (yieldsIf_load_mid (by rfl) 94 _ rfl (w.heap.size + 1) (0) rfl (CL) _ (fun w hS => hS.rng (.tail _ (.head _)) gl) Try.underlying94 rfl SL.out) hHeld ?_
  try simp only [Act.put, List.setIfInBounds_toArray, List.set_cons_zero, List.set_cons_succ]
  refine wpAnyH_take (i := 3) (oi := { dst := some 23, op := Op.load 94 (Operand.tmp 22), type := 94, pos := "form.go:66", after := #[{ on := 2, ground := Ground.data }, { on := 6, ground := Ground.gcOnly Departure.lateStores }], guard := none }) (v := .agg (CR).toArray) rfl (by kernel_rfl) (by kernel_rfl) (by kernel_rfl) (fun _ _ _ h => h) (yieldsIf_load_mid (by rfl) 94 _ rfl (w.heap.size + 1) (34) rfl (CR) _ (fun w hS => hS.rng (.tail _ (.head _)) gr) Try.underlying94 rfl SR.out) hHeld ?_
  try simp only [Act.put, List.setIfInBounds_toArray, List.set_cons_zero, List.set_cons_succ]
  refine wpAnyH_ready (rs := [4, 5]) (by kernel_rfl) (by simp) ?_
  refine (AllReadyH.cons (o := { dst := some 5, op := Op.alloc 94, type := 0, pos := "form.go:66", after := #[], guard := none }) rfl (fun K hK => ?_) (AllReadyH.cons (o := { dst := some 6, op := Op.alloc 94, type := 0, pos := "form.go:66", after := #[], guard := none }) rfl (fun K hK => ?_) AllReadyH.nil))
  · skip
    rw [if_pos (by rfl)]
    unfold Oper.wp
    rw [AC.out _ _ _ rfl]
    replace dd := dd.alloc CZ 94
    refine hK.out _ _ (hHeld.other _) (fun hHeld2 => ?_)
    clear hK K hHeld
    have hHeld := hHeld2
    clear hHeld2
    try simp only [Act.put, List.setIfInBounds_toArray, List.set_cons_zero, List.set_cons_succ]
    refine wpAnyH_ready (rs := [5]) (by kernel_rfl) (by simp) ?_
    refine (AllReadyH.cons (o := { dst := some 6, op := Op.alloc 94, type := 0, pos := "form.go:66", after := #[], guard := none }) rfl (fun K hK => ?_) AllReadyH.nil)
    rw [if_pos (by rfl)]
    unfold Oper.wp
    rw [AC.out _ _ _ rfl]
    replace dd := dd.alloc CZ 94
    refine hK.out _ _ (hHeld.other _) (fun hHeld2 => ?_)
    clear hK K hHeld
    have hHeld := hHeld2
    clear hHeld2
    try simp only [Act.put, List.setIfInBounds_toArray, List.set_cons_zero, List.set_cons_succ]
    refine wpAnyH_ready (rs := [6]) (by kernel_rfl) (by simp) ?_
    refine (AllReadyH.cons (o := { dst := none, op := Op.store 94 (Operand.tmp 5) (Operand.tmp 21), type := 0, pos := "form.go:66", after := #[{ on := 4, ground := Ground.data }, { on := 1, ground := Ground.data }, { on := 0, ground := Ground.phase }, { on := 1, ground := Ground.phase }, { on := 2, ground := Ground.textOnly Departure.lateStores }, { on := 3, ground := Ground.textOnly Departure.lateStores }, { on := 4, ground := Ground.phase }, { on := 5, ground := Ground.phase }], guard := none }) rfl (fun K hK => ?_) AllReadyH.nil)
    rw [if_pos (by rfl)]
    refine wp_store_row 94 _ _ rfl _ CL.toArray rfl rfl 94 _ (dd.row (.tail _ (.head _))) (by rw [Try.sizeCh, List.size_toArray, LL.out]) (by rw [List.size_toArray, List.size_toArray, LC0.out, LL.out]) (all_oneCell_toArray OL.out) ?_
    replace dd := dd.set2 (by omega) (by simp only; omega) (by intro x hx; simp only [List.mem_cons, List.not_mem_nil, or_false] at hx; rcases hx with rfl | rfl <;> simp only <;> omega) CL
    refine hK.out _ _ (dd.sub (fun x hx => .tail _ (.tail _ hx))) (fun hHeld2 => ?_)
    clear hK K hHeld
    have hHeld := hHeld2
    clear hHeld2
    try simp only [Act.put, List.setIfInBounds_toArray, List.set_cons_zero, List.set_cons_succ]
    refine wpAnyH_ready (rs := [7]) (by kernel_rfl) (by simp) ?_
    refine (AllReadyH.cons (o := { dst := none, op := Op.store 94 (Operand.tmp 6) (Operand.tmp 23), type := 0, pos := "form.go:66", after := #[{ on := 5, ground := Ground.data }, { on := 3, ground := Ground.data }, { on := 6, ground := Ground.chain }, { on := 0, ground := Ground.phase }, { on := 1, ground := Ground.phase }, { on := 2, ground := Ground.phase }, { on := 3, ground := Ground.phase }, { on := 4, ground := Ground.phase }, { on := 5, ground := Ground.phase }, { on := 6, ground := Ground.phase }], guard := none }) rfl (fun K hK => ?_) AllReadyH.nil)
    rw [if_pos (by rfl)]
    refine wp_store_row 94 _ _ rfl _ CR.toArray rfl rfl 94 _ (dd.row (.head _)) (by rw [Try.sizeCh, List.size_toArray, LR.out]) (by rw [List.size_toArray, List.size_toArray, LC0.out, LR.out]) (all_oneCell_toArray OR.out) ?_
    replace dd := dd.set (by omega) (by intro x hx; simp only [List.mem_cons, List.not_mem_nil, or_false] at hx; rcases hx with rfl | rfl | rfl <;> simp only <;> omega) CR
    refine hK.out _ _ (dd.sub (fun x hx => .tail _ (.tail _ hx))) (fun hHeld2 => ?_)
    clear hK K hHeld
    have hHeld := hHeld2
    clear hHeld2
    try simp only [Act.put, List.setIfInBounds_toArray, List.set_cons_zero, List.set_cons_succ]
    refine wpAnyH_done (by kernel_rfl) ?_ _
    refine NoPanic.normal ?_
    simp only [sA, sB] at dd hHeld ⊢
    have c0 := dd.cell (.tail _ (.head _)) pl
    have c1 := dd.cell (.tail _ (.head _)) plc
    have r0 := dd.rng (.tail _ (.head _)) pls
    have c2 := dd.cell (.head _) pr
    have c3 := dd.cell (.head _) prc
    have r1 := dd.rng (.head _) prs
    have g0 := dd.row (.tail _ (.tail _ (.head _)))
    clear hHeld
    generalize ((((w1.drew.alloc (.cells CZ.toArray 94)).alloc (.cells CZ.toArray 94)).setRow _ CL.toArray).setRow _ CR.toArray) = w9 at *
    go_wp2_with (first | refine wpList_load_mid_w (by rfl) 36 _ (by rfl) (w.heap.size + 2) 2 (by rfl) _ _ r0 Try.underlying36 rfl DL.out ?_ | refine wpList_load_mid_w (by rfl) 36 _ (by rfl) (w.heap.size + 3) 2 (by rfl) _ _ r1 Try.underlying36 rfl DR.out ?_ | refine wpList_built (by rfl) 39 _ rfl _ rfl _ BN.out ?_ | refine wpList_store_row rfl 39 _ _ rfl w.heap.size NF.toArray rfl rfl 39 _ g0 (by rw [Try.sizeNd, List.size_toArray, LN.out]) (by rw [List.size_toArray, List.size_toArray, L0.out, LN.out]) (all_oneCell_toArray ON.out) ?_)
    exact bodyPost_ret (v := .agg NF.toArray) (results_cell_row Try.results36 _ _ w.heap.size 39 _ _ _ rfl (setRow_heap _ _ _ _ _ _ g0) Try.underlying39 rfl (by rw [Try.sizeNd, List.size_toArray, LN.out])) rfl ⟨rfl, below_setRow dd.1 (Nat.le_refl _) _⟩
  · skip
    rw [if_pos (by rfl)]
    unfold Oper.wp
    rw [AC.out _ _ _ rfl]
    replace dd := dd.alloc CZ 94
    refine hK.out _ _ (hHeld.other _) (fun hHeld2 => ?_)
    clear hK K hHeld
    have hHeld := hHeld2
    clear hHeld2
    try simp only [Act.put, List.setIfInBounds_toArray, List.set_cons_zero, List.set_cons_succ]
    refine wpAnyH_ready (rs := [4]) (by kernel_rfl) (by simp) ?_
    refine (AllReadyH.cons (o := { dst := some 5, op := Op.alloc 94, type := 0, pos := "form.go:66", after := #[], guard := none }) rfl (fun K hK => ?_) AllReadyH.nil)
    rw [if_pos (by rfl)]
    unfold Oper.wp
    rw [AC.out _ _ _ rfl]
    replace dd := dd.alloc CZ 94
    refine hK.out _ _ (hHeld.other _) (fun hHeld2 => ?_)
    clear hK K hHeld
    have hHeld := hHeld2
    clear hHeld2
    try simp only [Act.put, List.setIfInBounds_toArray, List.set_cons_zero, List.set_cons_succ]
    refine wpAnyH_ready (rs := [6]) (by kernel_rfl) (by simp) ?_
    refine (AllReadyH.cons (o := { dst := none, op := Op.store 94 (Operand.tmp 5) (Operand.tmp 21), type := 0, pos := "form.go:66", after := #[{ on := 4, ground := Ground.data }, { on := 1, ground := Ground.data }, { on := 0, ground := Ground.phase }, { on := 1, ground := Ground.phase }, { on := 2, ground := Ground.textOnly Departure.lateStores }, { on := 3, ground := Ground.textOnly Departure.lateStores }, { on := 4, ground := Ground.phase }, { on := 5, ground := Ground.phase }], guard := none }) rfl (fun K hK => ?_) AllReadyH.nil)
    rw [if_pos (by rfl)]
    refine wp_store_row 94 _ _ rfl _ CL.toArray rfl rfl 94 _ (dd.row (.head _)) (by rw [Try.sizeCh, List.size_toArray, LL.out]) (by rw [List.size_toArray, List.size_toArray, LC0.out, LL.out]) (all_oneCell_toArray OL.out) ?_
    replace dd := dd.set (by omega) (by intro x hx; simp only [List.mem_cons, List.not_mem_nil, or_false] at hx; rcases hx with rfl | rfl | rfl <;> simp only <;> omega) CL
    refine hK.out _ _ (dd.sub (fun x hx => .tail _ (.tail _ hx))) (fun hHeld2 => ?_)
    clear hK K hHeld
    have hHeld := hHeld2
    clear hHeld2
    try simp only [Act.put, List.setIfInBounds_toArray, List.set_cons_zero, List.set_cons_succ]
    refine wpAnyH_ready (rs := [7]) (by kernel_rfl) (by simp) ?_
    refine (AllReadyH.cons (o := { dst := none, op := Op.store 94 (Operand.tmp 6) (Operand.tmp 23), type := 0, pos := "form.go:66", after := #[{ on := 5, ground := Ground.data }, { on := 3, ground := Ground.data }, { on := 6, ground := Ground.chain }, { on := 0, ground := Ground.phase }, { on := 1, ground := Ground.phase }, { on := 2, ground := Ground.phase }, { on := 3, ground := Ground.phase }, { on := 4, ground := Ground.phase }, { on := 5, ground := Ground.phase }, { on := 6, ground := Ground.phase }], guard := none }) rfl (fun K hK => ?_) AllReadyH.nil)
    rw [if_pos (by rfl)]
    refine wp_store_row 94 _ _ rfl _ CR.toArray rfl rfl 94 _ (dd.row (.tail _ (.head _))) (by rw [Try.sizeCh, List.size_toArray, LR.out]) (by rw [List.size_toArray, List.size_toArray, LC0.out, LR.out]) (all_oneCell_toArray OR.out) ?_
    replace dd := dd.set2 (by omega) (by simp only; omega) (by intro x hx; simp only [List.mem_cons, List.not_mem_nil, or_false] at hx; rcases hx with rfl | rfl <;> simp only <;> omega) CR
    refine hK.out _ _ (dd.sub (fun x hx => .tail _ (.tail _ hx))) (fun hHeld2 => ?_)
    clear hK K hHeld
    have hHeld := hHeld2
    clear hHeld2
    try simp only [Act.put, List.setIfInBounds_toArray, List.set_cons_zero, List.set_cons_succ]
    refine wpAnyH_done (by kernel_rfl) ?_ _
    refine NoPanic.normal ?_
    simp only [sA, sB] at dd hHeld ⊢
    have c0 := dd.cell (.head _) pl
    have c1 := dd.cell (.head _) plc
    have r0 := dd.rng (.head _) pls
    have c2 := dd.cell (.tail _ (.head _)) pr
    have c3 := dd.cell (.tail _ (.head _)) prc
    have r1 := dd.rng (.tail _ (.head _)) prs
    have g0 := dd.row (.tail _ (.tail _ (.head _)))
    clear hHeld
    generalize ((((w1.drew.alloc (.cells CZ.toArray 94)).alloc (.cells CZ.toArray 94)).setRow _ CL.toArray).setRow _ CR.toArray) = w9 at *
    go_wp2_with (first | refine wpList_load_mid_w (by rfl) 36 _ (by rfl) (w.heap.size + 3) 2 (by rfl) _ _ r0 Try.underlying36 rfl DL.out ?_ | refine wpList_load_mid_w (by rfl) 36 _ (by rfl) (w.heap.size + 2) 2 (by rfl) _ _ r1 Try.underlying36 rfl DR.out ?_ | refine wpList_built (by rfl) 39 _ rfl _ rfl _ BN.out ?_ | refine wpList_store_row rfl 39 _ _ rfl w.heap.size NF.toArray rfl rfl 39 _ g0 (by rw [Try.sizeNd, List.size_toArray, LN.out]) (by rw [List.size_toArray, List.size_toArray, L0.out, LN.out]) (all_oneCell_toArray ON.out) ?_)
    exact bodyPost_ret (v := .agg NF.toArray) (results_cell_row Try.results36 _ _ w.heap.size 39 _ _ _ rfl (setRow_heap _ _ _ _ _ _ g0) Try.underlying39 rfl (by rw [Try.sizeNd, List.size_toArray, LN.out])) rfl ⟨rfl, below_setRow dd.1 (Nat.le_refl _) _⟩
end Go.Proofs.Ytbcadiecpcngdaa
