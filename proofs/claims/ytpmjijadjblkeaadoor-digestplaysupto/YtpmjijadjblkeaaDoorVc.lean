import Derived.Test.YtpmjijadjblkeaaDoorVb
namespace Go.Proofs.YtpmjijadjblkeaaDoor
set_option linter.unusedVariables false
set_option linter.unusedSimpArgs false
open Go.RowKit
attribute [local go_sem ↓] Go.wp_at_zero Go.wp_at_succ

theorem RS.below {w w1 : World} {base R : Nat} {hv tv : Value} {held : Int} {gs : List Nat} {TV : List Value} {ms : List (List Int)} (h : RS w base R hv tv held gs TV ms) (hb : Below w.heap.size w w1) : RS w1 base R hv tv held gs TV ms :=
  have hz := h.z.below hb
  ⟨h.hb, hbel hb h.rk (hlt h.rk), h.oh.of fun q y hy => hb.block q (hlt hy), h.ot.of fun q y hy => hb.block q (hlt hy), hz.lg, hz.lt, hz.hs, hz.tx, hz.dg, hz.dt⟩
theorem OwnE.pos {e : TypeId} {w : World} {base : Nat} {v : Value} {vs : List Value} (h : OwnE e w base v vs) (hp : 0 < vs.length) : ∃ b cap, v = .slice (some ⟨b, 0, none⟩) vs.length cap ∧ b < w.heap.size ∧ base ≤ b ∧ (∃ cs, w.heap[b]? = some (.cells cs e (0, 0))) ∧ ∀ j, j < vs.length → w.cell? ⟨b, j, none⟩ = some (vs.getD j undef) := by
  obtain ⟨sp, cap, b, rfl, _, _, hs, hc⟩ := h.at
  obtain rfl := hs hp
  obtain ⟨h1, h2, h3⟩ := h.heap b rfl
  exact ⟨b, cap, rfl, h2, h1, h3, hc⟩
/-- What a step leaves. -/
def PlayPost (w : World) (base R B : Nat) (e : Ending) (w' : World) : Prop := e = .returned (.bool true) ∧ ∃ hv tv held gs TV ms, RS w' base R hv tv held gs TV ms ∧ Below base w w' ∧ 0 < ms.length ∧ ms.length ≤ 1000 ∧ 0 ≤ held ∧ held ≤ 4000000 ∧ ∀ i, i < ms.length → (ms.getD i []).length ≤ B
/-- What the first steps of plays find. -/
structure Pl (w w0 : World) (base R S : Nat) (kind H : Int) (ps : Option Addr) (pn pc : Nat) (bh ch bt ct n : Nat) (held : Int) (gs : List Nat) (TV : List Value) (ms : List (List Int)) : Prop where
  rs : RS w0 base R (.slice (some ⟨bh, 0, none⟩) n ch) (.slice (some ⟨bt, 0, none⟩) n ct) held gs TV ms
  bx : w0.heap[S]? = some (.cells #[.int .i64 kind, .int .i64 H, .slice ps pn pc] 47 (0, 0))
  bel : Below base w w0
  ln : ms.length = n
theorem Pl.r0 {w w0 : World} {base R S : Nat} {kind H : Int} {ps : Option Addr} {pn pc bh ch bt ct n : Nat} {held : Int} {gs : List Nat} {TV : List Value} {ms : List (List Int)} (h : Pl w w0 base R S kind H ps pn pc bh ch bt ct n held gs TV ms) :
    w0.cell? ⟨R, 0, none⟩ = some (.slice (some ⟨bh, 0, none⟩) n ch) ∧ w0.cell? ⟨R, 1, none⟩ = some (.slice (some ⟨bt, 0, none⟩) n ct) ∧ w0.cell? ⟨R, 2, none⟩ = some (.int .i64 held) ∧ w0.cell? ⟨S, 0, none⟩ = some (.int .i64 kind) ∧ w0.cell? ⟨S, 1, none⟩ = some (.int .i64 H) ∧ w0.cell? ⟨S, 2, none⟩ = some (.slice ps pn pc) := by
  refine ⟨?_, ?_, ?_, ?_, ?_, ?_⟩
  · rw [cell_of_row _ _ _ _ _ _ h.rs.rk]; rfl
  · rw [cell_of_row _ _ _ _ _ _ h.rs.rk]; rfl
  · rw [cell_of_row _ _ _ _ _ _ h.rs.rk]; rfl
  · rw [cell_of_row _ _ _ _ _ _ h.bx]; rfl
  · rw [cell_of_row _ _ _ _ _ _ h.bx]; rfl
  · rw [cell_of_row _ _ _ _ _ _ h.bx]; rfl
theorem Pl.mk' {w : World} {base R : Nat} {hv tv : Value} {held : Int} {gs : List Nat} {TV : List Value} {ms : List (List Int)} (h : RS w base R hv tv held gs TV ms) (hp : 0 < ms.length) (hbw : base ≤ w.heap.size) (kind H : Int) (ps : Option Addr) (pn pc : Nat) :
    ∃ bh ch bt ct, hv = .slice (some ⟨bh, 0, none⟩) ms.length ch ∧ tv = .slice (some ⟨bt, 0, none⟩) ms.length ct ∧ Pl w (w.alloc (.cells #[.int .i64 kind, .int .i64 H, .slice ps pn pc] 47)) base R w.heap.size kind H ps pn pc bh ch bt ct ms.length held gs TV ms := by
  obtain ⟨bh, ch, e1, _⟩ := h.oh.pos (by rw [List.length_map, h.lg]; exact hp)
  obtain ⟨bt, ct, e2, _⟩ := h.ot.pos (by rw [h.lt]; exact hp)
  rw [List.length_map, h.lg] at e1
  rw [h.lt] at e2
  subst e1
  subst e2
  exact ⟨bh, ch, bt, ct, rfl, rfl, h.below ((Below.refl _ _).alloc (Nat.le_refl _) _), hnew w _, (Below.refl _ _).alloc hbw _, rfl⟩
theorem Pl.at {w w0 : World} {base R S : Nat} {kind H : Int} {ps : Option Addr} {pn pc bh ch bt ct n : Nat} {held : Int} {gs : List Nat} {TV : List Value} {ms : List (List Int)} (h : Pl w w0 base R S kind H ps pn pc bh ch bt ct n held gs TV ms) (k : Nat) (hk : k < n) :
    w0.cell? ⟨bh, k, none⟩ = some (ptr (gs.getD k 0)) ∧ bh < w0.heap.size ∧ bt < w0.heap.size ∧ ∃ tk tc, TV.getD k undef = .slice tk (ms.getD k []).length tc ∧ (tk = none → tc = 0) ∧ Src w0 tk tc (ms.getD k []) ∧ w0.cell? ⟨bt, k, none⟩ = some (.slice tk (ms.getD k []).length tc) := by
  have hl := h.ln
  obtain ⟨b1, c1, e1, q1, _, _, r1⟩ := h.rs.oh.pos (by rw [List.length_map, h.rs.lg]; omega)
  obtain ⟨b2, c2, e2, q2, _, _, r2⟩ := h.rs.ot.pos (by rw [h.rs.lt]; omega)
  simp only [Value.slice.injEq, Option.some.injEq, Addr.mk.injEq] at e1 e2
  obtain ⟨⟨rfl, _⟩, _⟩ := e1
  obtain ⟨⟨rfl, _⟩, _⟩ := e2
  have x1 := r1 k (by rw [List.length_map, h.rs.lg]; omega)
  have x2 := r2 k (by rw [h.rs.lt]; omega)
  obtain ⟨tk, tc, t1, t2, t3⟩ := (h.rs.tx k (by omega)).form (Nat.lt_of_le_of_lt (Nat.zero_le _) q1)
  refine ⟨?_, q1, q2, tk, tc, t1, t3, t2, by rw [x2, t1]⟩
  rw [x1, List.getD_eq_getElem?_getD, List.getElem?_map, List.getElem?_eq_getElem (show k < gs.length by rw [h.rs.lg]; omega), List.getD_eq_getElem?_getD, List.getElem?_eq_getElem (show k < gs.length by rw [h.rs.lg]; omega)]; rfl
theorem Pl.post {w w0 w1 : World} {base R S : Nat} {kind H : Int} {ps : Option Addr} {pn pc bh ch bt ct n : Nat} {held : Int} {gs : List Nat} {TV : List Value} {ms : List (List Int)} (h : Pl w w0 base R S kind H ps pn pc bh ch bt ct n held gs TV ms) (hb : Below w0.heap.size w0 w1) (B : Nat) (h1 : 0 < n) (h2 : n ≤ 1000) (h3 : 0 ≤ held) (h4 : held ≤ 4000000) (h5 : ∀ i, i < n → (ms.getD i []).length ≤ B) : PlayPost w base R B (.returned (.bool true)) w1 := by
  have hbs : base ≤ w0.heap.size := Nat.le_trans h.rs.hb (Nat.le_of_lt (hlt h.rs.rk))
  have hl := h.ln
  exact ⟨rfl, _, _, held, gs, TV, ms, h.rs.below hb, h.bel.trans (hb.mono hbs), by omega, by omega, h3, h4, fun i hi => h5 i (by omega)⟩
set_option maxRecDepth 100000 in
set_option maxHeartbeats 4000000 in
theorem plays_other (w : World) (base R : Nat) (hv tv : Value) (held : Int) (gs : List Nat) (TV : List Value) (ms : List (List Int)) (h : RS w base R hv tv held gs TV ms) (hG : Glob w) (hR : GlobR w) (hb4 : 4 ≤ base) (hp : 0 < ms.length) (hn : ms.length ≤ 1000) (hh0 : 0 ≤ held) (hh : held ≤ 4000000) (B : Nat) (hB : ∀ i, i < ms.length → (ms.getD i []).length ≤ B) (hB2 : B ≤ 100000000)
    (kind H : Int) (ps : Option Addr) (zs : List Int) (pc : Nat) (hk : kind ≠ 1 ∧ kind ≠ 2 ∧ kind ≠ 3 ∧ kind ≠ 4 ∧ kind ≠ 5) (H1 : -9223372036854775808 ≤ H) (H2 : H ≤ 9223372036854775807) :
    Calls Tryd.prog 20 #[.pointer (some ⟨R, 0, none⟩), .agg #[.int .i64 kind, .int .i64 H, .slice ps zs.length pc]] w (PlayPost w base R B) := by
  have hbw : base ≤ w.heap.size := Nat.le_trans h.hb (Nat.le_of_lt (hlt h.rk))
  obtain ⟨bh, ch, bt, ct, rfl, rfl, hP⟩ := Pl.mk' h hp hbw kind H ps zs.length pc
  have hG0 := hG.below ((Below.refl w.heap.size w).alloc (Nat.le_refl _) (.cells #[.int .i64 kind, .int .i64 H, .slice ps zs.length pc] 47)) hG.1
  have hR0 := hR.below ((Below.refl w.heap.size w).alloc (Nat.le_refl _) (.cells #[.int .i64 kind, .int .i64 H, .slice ps zs.length pc] 47)) hG.1
  obtain ⟨r0, r1, r2, s0, s1, s2⟩ := hP.r0
  have KP := hid (place_any _ R (some ⟨bh, 0, none⟩) ms.length ch _ held H hp hn hP.rs.rk H1 H2)
  have HSl := hid (hlt hP.bx)
  have HRl := hid (hlt hP.rs.rk)
  have HAT := hid hP.at
  have HP := hid hP
  have iN : (ms.length : Int) ≤ 1000 := by omega
  have iN0 : (0 : Int) < (ms.length : Int) := by omega
  have HNP := hid hp
  have HNL := hid hn
  have HHB := hid hB
  clear h hG hR hbw hP hp hn hB
  go_enter Tryd.func20, Tryd.ntmps20
  go_wp2_with fail
  refine KP.out.mono ?_
  rintro e w0 ⟨k, hkn, rfl, hw0⟩
  rw [← hw0] at HP HAT HSl HRl r0 r1 r2 s0 s1 s2 hG0 hR0
  clear KP hw0
  generalize hSS : w.heap.size = S at *
  clear hSS
  obtain ⟨p0, hbh, hbt, tk, tc, etk, tnil, tsrc, tk0⟩ := HAT.out k hkn
  have HBt := hid hbt
  have HKN := hid hkn
  have ik : (k : Int) < (ms.length : Int) := by omega
  unfold ptr at p0
  generalize hln : ms.length = n at *
  have HLN := hid hln
  clear hln hkn
  generalize htn : (ms.getD k []).length = tn at *
  have HTN := hid htn
  clear htn
  have itn : (tn : Int) ≤ 100000000 := by have a1 := HHB.out k HKN.out; have a2 := HTN.out; omega
  have HWA := hid (show IntKind.i64.wrap (held + (tn : Int)) = held + (tn : Int) from wrap_i64_id _ (by omega) (by omega))
  obtain ⟨e1, e2, e3, e4, e5⟩ := hk
  go_wp2
  refine wp_region_noPanic ?_
  refine wp_region_held_drew (S := fun w' => Below w0.heap.size w0 w') (by kernel_rfl) (Below.refl _ _).drew (fun hHeld => ?_)
  refine wpAnyH_take (i := 0) (oi := { dst := some 21, op := Op.fieldAddr 47 (Operand.tmp 3) 0, type := 0, pos := "law.go:150", after := #[], guard := none }) (v := .pointer (some ⟨S, 0, none⟩)) rfl (by kernel_rfl) (by kernel_rfl) (by kernel_rfl) (fun _ _ _ h => h) (Or.inl ⟨by rfl, by intro w hS; go_simp⟩) hHeld ?_
  try simp only [Act.put, List.setIfInBounds_toArray, List.set_cons_zero, List.set_cons_succ]
  refine wpAnyH_take (i := 1) (oi := { dst := some 22, op := Op.load 3 (Operand.tmp 21), type := 3, pos := "law.go:150", after := #[{ on := 0, ground := Ground.data }], guard := none }) (v := .int .i64 kind) rfl (by kernel_rfl) (by kernel_rfl) (by kernel_rfl) (fun _ _ _ h => h) (Or.inl ⟨by rfl, by intro w hS; have hc := (hS.cell (p := ⟨S, 0, none⟩) HSl.out).trans s0; go_simp⟩) hHeld ?_
  try simp only [Act.put, List.setIfInBounds_toArray, List.set_cons_zero, List.set_cons_succ]
  refine wpAnyH_take (i := 2) (oi := { dst := some 23, op := Op.binOp BinOp.eql 3 (Operand.tmp 22) (Operand.const (Value.int IntKind.i64 1)) 3, type := 4, pos := "law.go:150", after := #[{ on := 1, ground := Ground.data }], guard := none }) (v := .bool false) rfl (by kernel_rfl) (by kernel_rfl) (by kernel_rfl) (fun _ _ _ h => h) (Or.inl ⟨by rfl, by intro w hS; go_simp⟩) hHeld ?_
  try simp only [Act.put, List.setIfInBounds_toArray, List.set_cons_zero, List.set_cons_succ]
  refine wpAnyH_take (i := 3) (oi := { dst := some 24, op := Op.move (Operand.tmp 23), type := 4, pos := "law.go:150", after := #[{ on := 2, ground := Ground.data }], guard := none }) (v := .bool false) rfl (by kernel_rfl) (by kernel_rfl) (by kernel_rfl) (fun _ _ _ h => h) (Or.inl ⟨by rfl, by intro w hS; go_simp⟩) hHeld ?_
  try simp only [Act.put, List.setIfInBounds_toArray, List.set_cons_zero, List.set_cons_succ]
  refine wpAnyH_take (i := 4) (oi := { dst := some 25, op := Op.fieldAddr 47 (Operand.tmp 3) 0, type := 0, pos := "law.go:150", after := #[{ on := 3, ground := Ground.guard }], guard := some (3, false) }) (v := .pointer (some ⟨S, 0, none⟩)) rfl (by kernel_rfl) (by kernel_rfl) (by kernel_rfl) (fun _ _ _ h => h) (Or.inl ⟨by rfl, by intro w hS; go_simp⟩) hHeld ?_
  try simp only [Act.put, List.setIfInBounds_toArray, List.set_cons_zero, List.set_cons_succ]
  refine wpAnyH_take (i := 5) (oi := { dst := some 26, op := Op.load 3 (Operand.tmp 25), type := 3, pos := "law.go:150", after := #[{ on := 4, ground := Ground.data }, { on := 3, ground := Ground.guard }], guard := some (3, false) }) (v := .int .i64 kind) rfl (by kernel_rfl) (by kernel_rfl) (by kernel_rfl) (fun _ _ _ h => h) (Or.inl ⟨by rfl, by intro w hS; have hc := (hS.cell (p := ⟨S, 0, none⟩) HSl.out).trans s0; go_simp⟩) hHeld ?_
  try simp only [Act.put, List.setIfInBounds_toArray, List.set_cons_zero, List.set_cons_succ]
  refine wpAnyH_take (i := 6) (oi := { dst := some 27, op := Op.binOp BinOp.eql 3 (Operand.tmp 26) (Operand.const (Value.int IntKind.i64 4)) 3, type := 4, pos := "law.go:150", after := #[{ on := 5, ground := Ground.data }, { on := 3, ground := Ground.guard }], guard := some (3, false) }) (v := .bool false) rfl (by kernel_rfl) (by kernel_rfl) (by kernel_rfl) (fun _ _ _ h => h) (Or.inl ⟨by rfl, by intro w hS; go_simp⟩) hHeld ?_
  try simp only [Act.put, List.setIfInBounds_toArray, List.set_cons_zero, List.set_cons_succ]
  refine wpAnyH_take (i := 7) (oi := { dst := some 28, op := Op.pick (Operand.tmp 24) (Operand.const (Value.bool true)) (Operand.tmp 27), type := 4, pos := "law.go:150", after := #[{ on := 3, ground := Ground.data }, { on := 6, ground := Ground.data }], guard := none }) (v := .bool false) rfl (by kernel_rfl) (by kernel_rfl) (by kernel_rfl) (fun _ _ _ h => h) (Or.inl ⟨by rfl, by intro w hS; go_simp⟩) hHeld ?_
  try simp only [Act.put, List.setIfInBounds_toArray, List.set_cons_zero, List.set_cons_succ]
  refine wpAnyH_take (i := 8) (oi := { dst := some 29, op := Op.move (Operand.tmp 28), type := 4, pos := "law.go:150", after := #[{ on := 7, ground := Ground.data }, { on := 3, ground := Ground.chain }], guard := none }) (v := .bool false) rfl (by kernel_rfl) (by kernel_rfl) (by kernel_rfl) (fun _ _ _ h => h) (Or.inl ⟨by rfl, by intro w hS; go_simp⟩) hHeld ?_
  try simp only [Act.put, List.setIfInBounds_toArray, List.set_cons_zero, List.set_cons_succ]
  refine wpAnyH_take (i := 9) (oi := { dst := some 30, op := Op.move (Operand.tmp 0), type := 40, pos := "law.go:150", after := #[{ on := 8, ground := Ground.guard }], guard := some (8, true) }) (v := undef) rfl (by kernel_rfl) (by kernel_rfl) (by kernel_rfl) (fun _ _ _ h => h) (Or.inr ⟨by rfl, rfl⟩) hHeld ?_
  try simp only [Act.put, List.setIfInBounds_toArray, List.set_cons_zero, List.set_cons_succ]
  refine wpAnyH_take (i := 10) (oi := { dst := some 31, op := Op.nilCheck (Operand.tmp 30), type := 0, pos := "law.go:150", after := #[{ on := 9, ground := Ground.data }, { on := 8, ground := Ground.guard }], guard := some (8, true) }) (v := undef) rfl (by kernel_rfl) (by kernel_rfl) (by kernel_rfl) (fun _ _ _ h => h) (Or.inr ⟨by rfl, rfl⟩) hHeld ?_
  try simp only [Act.put, List.setIfInBounds_toArray, List.set_cons_zero, List.set_cons_succ]
  refine wpAnyH_take (i := 11) (oi := { dst := some 32, op := Op.fieldAddr 43 (Operand.tmp 31) 0, type := 0, pos := "law.go:150", after := #[{ on := 10, ground := Ground.data }, { on := 8, ground := Ground.guard }], guard := some (8, true) }) (v := undef) rfl (by kernel_rfl) (by kernel_rfl) (by kernel_rfl) (fun _ _ _ h => h) (Or.inr ⟨by rfl, rfl⟩) hHeld ?_
  try simp only [Act.put, List.setIfInBounds_toArray, List.set_cons_zero, List.set_cons_succ]
  refine wpAnyH_take (i := 12) (oi := { dst := some 33, op := Op.load 41 (Operand.tmp 32), type := 41, pos := "law.go:150", after := #[{ on := 11, ground := Ground.data }, { on := 8, ground := Ground.guard }], guard := some (8, true) }) (v := undef) rfl (by kernel_rfl) (by kernel_rfl) (by kernel_rfl) (fun _ _ _ h => h) (Or.inr ⟨by rfl, rfl⟩) hHeld ?_
  try simp only [Act.put, List.setIfInBounds_toArray, List.set_cons_zero, List.set_cons_succ]
  refine wpAnyH_take (i := 13) (oi := { dst := some 34, op := Op.call { callee := Callee.builtin Builtin.len, args := #[Operand.tmp 33], argTypes := #[41] }, type := 3, pos := "law.go:150", after := #[{ on := 12, ground := Ground.data }, { on := 8, ground := Ground.guard }], guard := some (8, true) }) (v := undef) rfl (by kernel_rfl) (by kernel_rfl) (by kernel_rfl) (fun _ _ _ h => h) (Or.inr ⟨by rfl, rfl⟩) hHeld ?_
  try simp only [Act.put, List.setIfInBounds_toArray, List.set_cons_zero, List.set_cons_succ]
  refine wpAnyH_take (i := 14) (oi := { dst := some 35, op := Op.binOp BinOp.geq 3 (Operand.tmp 34) (Operand.const (Value.int IntKind.i64 1000)) 3, type := 4, pos := "law.go:150", after := #[{ on := 13, ground := Ground.data }, { on := 8, ground := Ground.guard }], guard := some (8, true) }) (v := undef) rfl (by kernel_rfl) (by kernel_rfl) (by kernel_rfl) (fun _ _ _ h => h) (Or.inr ⟨by rfl, rfl⟩) hHeld ?_
  try simp only [Act.put, List.setIfInBounds_toArray, List.set_cons_zero, List.set_cons_succ]
  refine wpAnyH_take (i := 15) (oi := { dst := some 36, op := Op.move (Operand.tmp 35), type := 4, pos := "law.go:150", after := #[{ on := 14, ground := Ground.data }, { on := 8, ground := Ground.chain }, { on := 8, ground := Ground.guard }], guard := some (8, true) }) (v := undef) rfl (by kernel_rfl) (by kernel_rfl) (by kernel_rfl) (fun _ _ _ h => h) (Or.inr ⟨by rfl, rfl⟩) hHeld ?_
  try simp only [Act.put, List.setIfInBounds_toArray, List.set_cons_zero, List.set_cons_succ]
  refine wpAnyH_take (i := 16) (oi := { dst := some 37, op := Op.move (Operand.tmp 0), type := 40, pos := "law.go:150", after := #[{ on := 15, ground := Ground.guard }], guard := some (15, false) }) (v := undef) rfl (by kernel_rfl) (by kernel_rfl) (by kernel_rfl) (fun _ _ _ h => h) (Or.inr ⟨by rfl, rfl⟩) hHeld ?_
  try simp only [Act.put, List.setIfInBounds_toArray, List.set_cons_zero, List.set_cons_succ]
  refine wpAnyH_take (i := 20) (oi := { dst := some 41, op := Op.move (Operand.tmp 0), type := 40, pos := "law.go:150", after := #[{ on := 15, ground := Ground.guard }], guard := some (15, false) }) (v := undef) rfl (by kernel_rfl) (by kernel_rfl) (by kernel_rfl) (fun _ _ _ h => h) (Or.inr ⟨by rfl, rfl⟩) hHeld ?_
  try simp only [Act.put, List.setIfInBounds_toArray, List.set_cons_zero, List.set_cons_succ]
  refine wpAnyH_take (i := 24) (oi := { dst := some 45, op := Op.move (Operand.tmp 5), type := 3, pos := "law.go:150", after := #[{ on := 15, ground := Ground.guard }], guard := some (15, false) }) (v := undef) rfl (by kernel_rfl) (by kernel_rfl) (by kernel_rfl) (fun _ _ _ h => h) (Or.inr ⟨by rfl, rfl⟩) hHeld ?_
  try simp only [Act.put, List.setIfInBounds_toArray, List.set_cons_zero, List.set_cons_succ]
  refine wpAnyH_take (i := 17) (oi := { dst := some 38, op := Op.nilCheck (Operand.tmp 37), type := 0, pos := "law.go:150", after := #[{ on := 16, ground := Ground.data }, { on := 15, ground := Ground.guard }], guard := some (15, false) }) (v := undef) rfl (by kernel_rfl) (by kernel_rfl) (by kernel_rfl) (fun _ _ _ h => h) (Or.inr ⟨by rfl, rfl⟩) hHeld ?_
  try simp only [Act.put, List.setIfInBounds_toArray, List.set_cons_zero, List.set_cons_succ]
  refine wpAnyH_take (i := 21) (oi := { dst := some 42, op := Op.nilCheck (Operand.tmp 41), type := 0, pos := "law.go:150", after := #[{ on := 20, ground := Ground.data }, { on := 15, ground := Ground.guard }], guard := some (15, false) }) (v := undef) rfl (by kernel_rfl) (by kernel_rfl) (by kernel_rfl) (fun _ _ _ h => h) (Or.inr ⟨by rfl, rfl⟩) hHeld ?_
  try simp only [Act.put, List.setIfInBounds_toArray, List.set_cons_zero, List.set_cons_succ]
  refine wpAnyH_take (i := 18) (oi := { dst := some 39, op := Op.fieldAddr 43 (Operand.tmp 38) 2, type := 0, pos := "law.go:150", after := #[{ on := 17, ground := Ground.data }, { on := 15, ground := Ground.guard }], guard := some (15, false) }) (v := undef) rfl (by kernel_rfl) (by kernel_rfl) (by kernel_rfl) (fun _ _ _ h => h) (Or.inr ⟨by rfl, rfl⟩) hHeld ?_
  try simp only [Act.put, List.setIfInBounds_toArray, List.set_cons_zero, List.set_cons_succ]
  refine wpAnyH_take (i := 22) (oi := { dst := some 43, op := Op.fieldAddr 43 (Operand.tmp 42) 1, type := 0, pos := "law.go:150", after := #[{ on := 21, ground := Ground.data }, { on := 15, ground := Ground.guard }], guard := some (15, false) }) (v := undef) rfl (by kernel_rfl) (by kernel_rfl) (by kernel_rfl) (fun _ _ _ h => h) (Or.inr ⟨by rfl, rfl⟩) hHeld ?_
  try simp only [Act.put, List.setIfInBounds_toArray, List.set_cons_zero, List.set_cons_succ]
  refine wpAnyH_take (i := 19) (oi := { dst := some 40, op := Op.load 3 (Operand.tmp 39), type := 3, pos := "law.go:150", after := #[{ on := 18, ground := Ground.data }, { on := 15, ground := Ground.guard }], guard := some (15, false) }) (v := undef) rfl (by kernel_rfl) (by kernel_rfl) (by kernel_rfl) (fun _ _ _ h => h) (Or.inr ⟨by rfl, rfl⟩) hHeld ?_
  try simp only [Act.put, List.setIfInBounds_toArray, List.set_cons_zero, List.set_cons_succ]
  refine wpAnyH_take (i := 23) (oi := { dst := some 44, op := Op.load 28 (Operand.tmp 43), type := 28, pos := "law.go:150", after := #[{ on := 22, ground := Ground.data }, { on := 15, ground := Ground.guard }], guard := some (15, false) }) (v := undef) rfl (by kernel_rfl) (by kernel_rfl) (by kernel_rfl) (fun _ _ _ h => h) (Or.inr ⟨by rfl, rfl⟩) hHeld ?_
  try simp only [Act.put, List.setIfInBounds_toArray, List.set_cons_zero, List.set_cons_succ]
  refine wpAnyH_take (i := 25) (oi := { dst := some 46, op := Op.indexAddr 28 (Operand.tmp 44) (Operand.tmp 45), type := 0, pos := "law.go:150", after := #[{ on := 23, ground := Ground.data }, { on := 24, ground := Ground.data }, { on := 15, ground := Ground.guard }], guard := some (15, false) }) (v := undef) rfl (by kernel_rfl) (by kernel_rfl) (by kernel_rfl) (fun _ _ _ h => h) (Or.inr ⟨by rfl, rfl⟩) hHeld ?_
  try simp only [Act.put, List.setIfInBounds_toArray, List.set_cons_zero, List.set_cons_succ]
  refine wpAnyH_take (i := 26) (oi := { dst := some 47, op := Op.load 26 (Operand.tmp 46), type := 26, pos := "law.go:150", after := #[{ on := 25, ground := Ground.data }, { on := 15, ground := Ground.guard }], guard := some (15, false) }) (v := undef) rfl (by kernel_rfl) (by kernel_rfl) (by kernel_rfl) (fun _ _ _ h => h) (Or.inr ⟨by rfl, rfl⟩) hHeld ?_
  try simp only [Act.put, List.setIfInBounds_toArray, List.set_cons_zero, List.set_cons_succ]
  refine wpAnyH_take (i := 27) (oi := { dst := some 48, op := Op.call { callee := Callee.builtin Builtin.len, args := #[Operand.tmp 47], argTypes := #[26] }, type := 3, pos := "law.go:150", after := #[{ on := 26, ground := Ground.data }, { on := 15, ground := Ground.guard }], guard := some (15, false) }) (v := undef) rfl (by kernel_rfl) (by kernel_rfl) (by kernel_rfl) (fun _ _ _ h => h) (Or.inr ⟨by rfl, rfl⟩) hHeld ?_
  try simp only [Act.put, List.setIfInBounds_toArray, List.set_cons_zero, List.set_cons_succ]
  refine wpAnyH_take (i := 28) (oi := { dst := some 49, op := Op.binOp BinOp.add 3 (Operand.tmp 40) (Operand.tmp 48) 3, type := 3, pos := "law.go:150", after := #[{ on := 19, ground := Ground.data }, { on := 27, ground := Ground.data }, { on := 15, ground := Ground.guard }], guard := some (15, false) }) (v := undef) rfl (by kernel_rfl) (by kernel_rfl) (by kernel_rfl) (fun _ _ _ h => h) (Or.inr ⟨by rfl, rfl⟩) hHeld ?_
  try simp only [Act.put, List.setIfInBounds_toArray, List.set_cons_zero, List.set_cons_succ]
  refine wpAnyH_take (i := 29) (oi := { dst := some 50, op := Op.binOp BinOp.gtr 3 (Operand.tmp 49) (Operand.const (Value.int IntKind.i64 4000000)) 3, type := 4, pos := "law.go:150", after := #[{ on := 28, ground := Ground.data }, { on := 15, ground := Ground.guard }], guard := some (15, false) }) (v := undef) rfl (by kernel_rfl) (by kernel_rfl) (by kernel_rfl) (fun _ _ _ h => h) (Or.inr ⟨by rfl, rfl⟩) hHeld ?_
  try simp only [Act.put, List.setIfInBounds_toArray, List.set_cons_zero, List.set_cons_succ]
  refine wpAnyH_take (i := 30) (oi := { dst := some 51, op := Op.pick (Operand.tmp 36) (Operand.const (Value.bool true)) (Operand.tmp 50), type := 4, pos := "law.go:150", after := #[{ on := 15, ground := Ground.data }, { on := 29, ground := Ground.data }, { on := 8, ground := Ground.guard }], guard := some (8, true) }) (v := undef) rfl (by kernel_rfl) (by kernel_rfl) (by kernel_rfl) (fun _ _ _ h => h) (Or.inr ⟨by rfl, rfl⟩) hHeld ?_
  try simp only [Act.put, List.setIfInBounds_toArray, List.set_cons_zero, List.set_cons_succ]
  refine wpAnyH_take (i := 31) (oi := { dst := some 52, op := Op.pick (Operand.tmp 29) (Operand.tmp 51) (Operand.const (Value.bool false)), type := 4, pos := "law.go:150", after := #[{ on := 8, ground := Ground.data }, { on := 30, ground := Ground.data }], guard := none }) (v := .bool false) rfl (by kernel_rfl) (by kernel_rfl) (by kernel_rfl) (fun _ _ _ h => h) (Or.inl ⟨by rfl, by intro w hS; go_simp⟩) hHeld ?_
  try simp only [Act.put, List.setIfInBounds_toArray, List.set_cons_zero, List.set_cons_succ]
  refine wpAnyH_done (by kernel_rfl) ?_ _
  refine NoPanic.normal ?_
  have hf := hHeld
  clear hHeld
  go_wp2
  go_ret
  exact HP.out.post hf B HNP.out HNL.out hh0 hh HHB.out
end Go.Proofs.YtpmjijadjblkeaaDoor
