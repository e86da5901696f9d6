import Derived.Test.YtpmjijadjblkeaaDoorVg
namespace Go.Proofs.YtpmjijadjblkeaaDoor
set_option linter.unusedVariables false
set_option linter.unusedSimpArgs false
open Go.RowKit
attribute [local go_sem ↓] Go.wp_at_zero Go.wp_at_succ

theorem src_blk {w : World} {g : Nat} {zs tl : List Int} (h : w.heap[g]? = some (.cells (ints .u8 (zs ++ tl)).toArray 5 (0, 0))) (cap : Nat) (hc : zs.length ≤ cap) (hm : cap ≤ maxLen) : Src w (some ⟨g, 0, none⟩) cap zs := src_row h cap hc hm
/-- The text behind an append, stored. -/
theorem wr_fin {wa w4 w5 : World} {base R bt ct n k : Nat} {hv : Value} {held : Int} {gs : List Nat} {TV : List Value} {ms : List (List Int)} (h : RS wa base R hv (.slice (some ⟨bt, 0, none⟩) n ct) held gs TV ms) (hk : k < ms.length) (ys : List Int) (v5 : Value) (kA : Keeps (gs.getD k 0) wa w4) (hT : HsT w4 (gs.getD k 0) (ms.getD k [] ++ ys)) (hO5 : Own w5 base v5 (ms.getD k [] ++ ys)) (hg5 : w4.grownBy w5 (TV.getD k undef).ownBlock) (hd5 : v5.ownBlock = (TV.getD k undef).ownBlock ∨ v5.ownBlock = some w4.heap.size) :
    RS (w5.setCell ⟨bt, k, none⟩ v5) base R hv (.slice (some ⟨bt, 0, none⟩) n ct) held gs (TV.set k v5) (ms.set k (ms.getD k [] ++ ys)) ∧ w5.cell? ⟨bt, k, none⟩ = some (TV.getD k undef) ∧ w5.frozen? ⟨bt, k, none⟩ = false := by
  have hgk := (h.hs k hk).1.1
  refine h.upd k hk _ v5 ⟨(hg5.block _ (hlt hT.1) (fun e => by
    obtain ⟨_, _, y, hy⟩ := (h.tx k hk).heap5 _ e.symm
    exact ne_of_type hgk hy (by decide) rfl)).trans hT.1, hT.2⟩ hO5 (fun q x t hx q1 q2 => ?_) (fun q hq => ?_)
  · rw [hg5.block q (Nat.lt_of_lt_of_le (hlt hx) kA.size) (fun e => q2 e.symm)]
    exact kA.block q (hlt hx) q1
  · rcases hd5 with e | e
    · exact Or.inl (by rw [← e]; exact hq)
    · rw [e] at hq; cases hq; exact Or.inr kA.size
set_option maxRecDepth 100000 in
set_option maxHeartbeats 4000000 in
theorem plays_write (w : World) (base R : Nat) (hv tv : Value) (held : Int) (gs : List Nat) (TV : List Value) (ms : List (List Int)) (h : RS w base R hv tv held gs TV ms) (hG : Glob w) (hR : GlobR w) (hb4 : 4 ≤ base) (hp : 0 < ms.length) (hn : ms.length ≤ 1000) (hh0 : 0 ≤ held) (hh : held ≤ 4000000) (B : Nat) (hB : ∀ i, i < ms.length → (ms.getD i []).length ≤ B) (hB2 : B ≤ 100000000)
    (kind H : Int) (ps : Option Addr) (zs : List Int) (pc : Nat) (hk : kind = 2) (H1 : -9223372036854775808 ≤ H) (H2 : H ≤ 9223372036854775807) (HZ : ∀ w', Below base w w' → Src w' ps pc zs) (hpn : ps = none → pc = 0) (hzl : zs.length ≤ 1048576) (hz3 : zs.length % 3 ≠ 1) :
    Calls Tryd.prog 20 #[.pointer (some ⟨R, 0, none⟩), .agg #[.int .i64 kind, .int .i64 H, .slice ps zs.length pc]] w (PlayPost w base R (B + 2 * zs.length)) := by
  subst hk
  have hbw : base ≤ w.heap.size := Nat.le_trans h.hb (Nat.le_of_lt (hlt h.rk))
  obtain ⟨bh, ch, bt, ct, rfl, rfl, hP⟩ := Pl.mk' h hp hbw 2 H ps zs.length pc
  have hG0 := hG.below ((Below.refl w.heap.size w).alloc (Nat.le_refl _) (.cells #[.int .i64 2, .int .i64 H, .slice ps zs.length pc] 47)) hG.1
  have hR0 := hR.below ((Below.refl w.heap.size w).alloc (Nat.le_refl _) (.cells #[.int .i64 2, .int .i64 H, .slice ps zs.length pc] 47)) hG.1
  obtain ⟨r0, r1, r2, s0, s1, s2⟩ := hP.r0
  have KP := hid (place_any _ R (some ⟨bh, 0, none⟩) ms.length ch _ held H hp hn hP.rs.rk H1 H2)
  have HSl := hid (hlt hP.bx)
  have HRl := hid (hlt hP.rs.rk)
  have HAT := hid hP.at
  have HP := hid hP
  have iN : (ms.length : Int) ≤ 1000 := by omega
  have iN0 : (0 : Int) < (ms.length : Int) := by omega
  have HNP := hid hp
  have HNL := hid hn
  have HHB := hid hB
  clear h hG hR hbw hP hp hn hB
  go_enter Tryd.func20, Tryd.ntmps20
  go_wp2_with fail
  refine KP.out.mono ?_
  rintro e w0 ⟨k, hkn, rfl, hw0⟩
  rw [← hw0] at HP HAT HSl HRl r0 r1 r2 s0 s1 s2 hG0 hR0
  clear KP hw0
  generalize hSS : w.heap.size = S at *
  clear hSS
  obtain ⟨p0, hbh, hbt, tk, tc, etk, tnil, tsrc, tk0⟩ := HAT.out k hkn
  have HBt := hid hbt
  have HKN := hid hkn
  have ik : (k : Int) < (ms.length : Int) := by omega
  unfold ptr at p0
  generalize hln : ms.length = n at *
  have HLN := hid hln
  clear hln hkn
  generalize htn : (ms.getD k []).length = tn at *
  have HTN := hid htn
  clear htn
  have itn : (tn : Int) ≤ 100000000 := by have a1 := HHB.out k HKN.out; have a2 := HTN.out; omega
  have HWA := hid (show IntKind.i64.wrap (held + (tn : Int)) = held + (tn : Int) from wrap_i64_id _ (by omega) (by omega))
  have hkm : k < ms.length := by rw [HLN.out]; exact HKN.out
  have HKM := hid hkm
  clear hkm
  obtain ⟨gk, hgk⟩ : ∃ gk, gs.getD k 0 = gk := ⟨_, rfl⟩
  rw [hgk] at p0
  have HGK := hid hgk
  clear hgk
  go_wp2
  refine wp_region_noPanic ?_
  refine wp_region_held_drew (S := fun w' => Below w0.heap.size w0 w') (by kernel_rfl) (Below.refl _ _).drew (fun hHeld => ?_)
  refine wpAnyH_take (i := 0) (oi := { dst := some 21, op := Op.fieldAddr 47 (Operand.tmp 3) 0, type := 0, pos := "law.go:150", after := #[], guard := none }) (v := .pointer (some ⟨S, 0, none⟩)) rfl (by kernel_rfl) (by kernel_rfl) (by kernel_rfl) (fun _ _ _ h => h) (Or.inl ⟨by rfl, by intro w hS; go_simp⟩) hHeld ?_
  try simp only [Act.put, List.setIfInBounds_toArray, List.set_cons_zero, List.set_cons_succ]
  refine wpAnyH_take (i := 1) (oi := { dst := some 22, op := Op.load 3 (Operand.tmp 21), type := 3, pos := "law.go:150", after := #[{ on := 0, ground := Ground.data }], guard := none }) (v := .int .i64 2) rfl (by kernel_rfl) (by kernel_rfl) (by kernel_rfl) (fun _ _ _ h => h) (Or.inl ⟨by rfl, by intro w hS; have hc := (hS.cell (p := ⟨S, 0, none⟩) HSl.out).trans s0; go_simp⟩) hHeld ?_
  try simp only [Act.put, List.setIfInBounds_toArray, List.set_cons_zero, List.set_cons_succ]
  refine wpAnyH_take (i := 2) (oi := { dst := some 23, op := Op.binOp BinOp.eql 3 (Operand.tmp 22) (Operand.const (Value.int IntKind.i64 1)) 3, type := 4, pos := "law.go:150", after := #[{ on := 1, ground := Ground.data }], guard := none }) (v := .bool false) rfl (by kernel_rfl) (by kernel_rfl) (by kernel_rfl) (fun _ _ _ h => h) (Or.inl ⟨by rfl, by intro w hS; go_simp⟩) hHeld ?_
  try simp only [Act.put, List.setIfInBounds_toArray, List.set_cons_zero, List.set_cons_succ]
  refine wpAnyH_take (i := 3) (oi := { dst := some 24, op := Op.move (Operand.tmp 23), type := 4, pos := "law.go:150", after := #[{ on := 2, ground := Ground.data }], guard := none }) (v := .bool false) rfl (by kernel_rfl) (by kernel_rfl) (by kernel_rfl) (fun _ _ _ h => h) (Or.inl ⟨by rfl, by intro w hS; go_simp⟩) hHeld ?_
  try simp only [Act.put, List.setIfInBounds_toArray, List.set_cons_zero, List.set_cons_succ]
  refine wpAnyH_take (i := 4) (oi := { dst := some 25, op := Op.fieldAddr 47 (Operand.tmp 3) 0, type := 0, pos := "law.go:150", after := #[{ on := 3, ground := Ground.guard }], guard := some (3, false) }) (v := .pointer (some ⟨S, 0, none⟩)) rfl (by kernel_rfl) (by kernel_rfl) (by kernel_rfl) (fun _ _ _ h => h) (Or.inl ⟨by rfl, by intro w hS; go_simp⟩) hHeld ?_
  try simp only [Act.put, List.setIfInBounds_toArray, List.set_cons_zero, List.set_cons_succ]
  refine wpAnyH_take (i := 5) (oi := { dst := some 26, op := Op.load 3 (Operand.tmp 25), type := 3, pos := "law.go:150", after := #[{ on := 4, ground := Ground.data }, { on := 3, ground := Ground.guard }], guard := some (3, false) }) (v := .int .i64 2) rfl (by kernel_rfl) (by kernel_rfl) (by kernel_rfl) (fun _ _ _ h => h) (Or.inl ⟨by rfl, by intro w hS; have hc := (hS.cell (p := ⟨S, 0, none⟩) HSl.out).trans s0; go_simp⟩) hHeld ?_
  try simp only [Act.put, List.setIfInBounds_toArray, List.set_cons_zero, List.set_cons_succ]
  refine wpAnyH_take (i := 6) (oi := { dst := some 27, op := Op.binOp BinOp.eql 3 (Operand.tmp 26) (Operand.const (Value.int IntKind.i64 4)) 3, type := 4, pos := "law.go:150", after := #[{ on := 5, ground := Ground.data }, { on := 3, ground := Ground.guard }], guard := some (3, false) }) (v := .bool false) rfl (by kernel_rfl) (by kernel_rfl) (by kernel_rfl) (fun _ _ _ h => h) (Or.inl ⟨by rfl, by intro w hS; go_simp⟩) hHeld ?_
  try simp only [Act.put, List.setIfInBounds_toArray, List.set_cons_zero, List.set_cons_succ]
  refine wpAnyH_take (i := 7) (oi := { dst := some 28, op := Op.pick (Operand.tmp 24) (Operand.const (Value.bool true)) (Operand.tmp 27), type := 4, pos := "law.go:150", after := #[{ on := 3, ground := Ground.data }, { on := 6, ground := Ground.data }], guard := none }) (v := .bool false) rfl (by kernel_rfl) (by kernel_rfl) (by kernel_rfl) (fun _ _ _ h => h) (Or.inl ⟨by rfl, by intro w hS; go_simp⟩) hHeld ?_
  try simp only [Act.put, List.setIfInBounds_toArray, List.set_cons_zero, List.set_cons_succ]
  refine wpAnyH_take (i := 8) (oi := { dst := some 29, op := Op.move (Operand.tmp 28), type := 4, pos := "law.go:150", after := #[{ on := 7, ground := Ground.data }, { on := 3, ground := Ground.chain }], guard := none }) (v := .bool false) rfl (by kernel_rfl) (by kernel_rfl) (by kernel_rfl) (fun _ _ _ h => h) (Or.inl ⟨by rfl, by intro w hS; go_simp⟩) hHeld ?_
  try simp only [Act.put, List.setIfInBounds_toArray, List.set_cons_zero, List.set_cons_succ]
  refine wpAnyH_take (i := 9) (oi := { dst := some 30, op := Op.move (Operand.tmp 0), type := 40, pos := "law.go:150", after := #[{ on := 8, ground := Ground.guard }], guard := some (8, true) }) (v := undef) rfl (by kernel_rfl) (by kernel_rfl) (by kernel_rfl) (fun _ _ _ h => h) (Or.inr ⟨by rfl, rfl⟩) hHeld ?_
  try simp only [Act.put, List.setIfInBounds_toArray, List.set_cons_zero, List.set_cons_succ]
  refine wpAnyH_take (i := 10) (oi := { dst := some 31, op := Op.nilCheck (Operand.tmp 30), type := 0, pos := "law.go:150", after := #[{ on := 9, ground := Ground.data }, { on := 8, ground := Ground.guard }], guard := some (8, true) }) (v := undef) rfl (by kernel_rfl) (by kernel_rfl) (by kernel_rfl) (fun _ _ _ h => h) (Or.inr ⟨by rfl, rfl⟩) hHeld ?_
  try simp only [Act.put, List.setIfInBounds_toArray, List.set_cons_zero, List.set_cons_succ]
  refine wpAnyH_take (i := 11) (oi := { dst := some 32, op := Op.fieldAddr 43 (Operand.tmp 31) 0, type := 0, pos := "law.go:150", after := #[{ on := 10, ground := Ground.data }, { on := 8, ground := Ground.guard }], guard := some (8, true) }) (v := undef) rfl (by kernel_rfl) (by kernel_rfl) (by kernel_rfl) (fun _ _ _ h => h) (Or.inr ⟨by rfl, rfl⟩) hHeld ?_
  try simp only [Act.put, List.setIfInBounds_toArray, List.set_cons_zero, List.set_cons_succ]
  refine wpAnyH_take (i := 12) (oi := { dst := some 33, op := Op.load 41 (Operand.tmp 32), type := 41, pos := "law.go:150", after := #[{ on := 11, ground := Ground.data }, { on := 8, ground := Ground.guard }], guard := some (8, true) }) (v := undef) rfl (by kernel_rfl) (by kernel_rfl) (by kernel_rfl) (fun _ _ _ h => h) (Or.inr ⟨by rfl, rfl⟩) hHeld ?_
  try simp only [Act.put, List.setIfInBounds_toArray, List.set_cons_zero, List.set_cons_succ]
  refine wpAnyH_take (i := 13) (oi := { dst := some 34, op := Op.call { callee := Callee.builtin Builtin.len, args := #[Operand.tmp 33], argTypes := #[41] }, type := 3, pos := "law.go:150", after := #[{ on := 12, ground := Ground.data }, { on := 8, ground := Ground.guard }], guard := some (8, true) }) (v := undef) rfl (by kernel_rfl) (by kernel_rfl) (by kernel_rfl) (fun _ _ _ h => h) (Or.inr ⟨by rfl, rfl⟩) hHeld ?_
  try simp only [Act.put, List.setIfInBounds_toArray, List.set_cons_zero, List.set_cons_succ]
  refine wpAnyH_take (i := 14) (oi := { dst := some 35, op := Op.binOp BinOp.geq 3 (Operand.tmp 34) (Operand.const (Value.int IntKind.i64 1000)) 3, type := 4, pos := "law.go:150", after := #[{ on := 13, ground := Ground.data }, { on := 8, ground := Ground.guard }], guard := some (8, true) }) (v := undef) rfl (by kernel_rfl) (by kernel_rfl) (by kernel_rfl) (fun _ _ _ h => h) (Or.inr ⟨by rfl, rfl⟩) hHeld ?_
  try simp only [Act.put, List.setIfInBounds_toArray, List.set_cons_zero, List.set_cons_succ]
  refine wpAnyH_take (i := 15) (oi := { dst := some 36, op := Op.move (Operand.tmp 35), type := 4, pos := "law.go:150", after := #[{ on := 14, ground := Ground.data }, { on := 8, ground := Ground.chain }, { on := 8, ground := Ground.guard }], guard := some (8, true) }) (v := undef) rfl (by kernel_rfl) (by kernel_rfl) (by kernel_rfl) (fun _ _ _ h => h) (Or.inr ⟨by rfl, rfl⟩) hHeld ?_
  try simp only [Act.put, List.setIfInBounds_toArray, List.set_cons_zero, List.set_cons_succ]
  refine wpAnyH_take (i := 16) (oi := { dst := some 37, op := Op.move (Operand.tmp 0), type := 40, pos := "law.go:150", after := #[{ on := 15, ground := Ground.guard }], guard := some (15, false) }) (v := undef) rfl (by kernel_rfl) (by kernel_rfl) (by kernel_rfl) (fun _ _ _ h => h) (Or.inr ⟨by rfl, rfl⟩) hHeld ?_
  try simp only [Act.put, List.setIfInBounds_toArray, List.set_cons_zero, List.set_cons_succ]
  refine wpAnyH_take (i := 20) (oi := { dst := some 41, op := Op.move (Operand.tmp 0), type := 40, pos := "law.go:150", after := #[{ on := 15, ground := Ground.guard }], guard := some (15, false) }) (v := undef) rfl (by kernel_rfl) (by kernel_rfl) (by kernel_rfl) (fun _ _ _ h => h) (Or.inr ⟨by rfl, rfl⟩) hHeld ?_
  try simp only [Act.put, List.setIfInBounds_toArray, List.set_cons_zero, List.set_cons_succ]
  refine wpAnyH_take (i := 24) (oi := { dst := some 45, op := Op.move (Operand.tmp 5), type := 3, pos := "law.go:150", after := #[{ on := 15, ground := Ground.guard }], guard := some (15, false) }) (v := undef) rfl (by kernel_rfl) (by kernel_rfl) (by kernel_rfl) (fun _ _ _ h => h) (Or.inr ⟨by rfl, rfl⟩) hHeld ?_
  try simp only [Act.put, List.setIfInBounds_toArray, List.set_cons_zero, List.set_cons_succ]
  refine wpAnyH_take (i := 17) (oi := { dst := some 38, op := Op.nilCheck (Operand.tmp 37), type := 0, pos := "law.go:150", after := #[{ on := 16, ground := Ground.data }, { on := 15, ground := Ground.guard }], guard := some (15, false) }) (v := undef) rfl (by kernel_rfl) (by kernel_rfl) (by kernel_rfl) (fun _ _ _ h => h) (Or.inr ⟨by rfl, rfl⟩) hHeld ?_
  try simp only [Act.put, List.setIfInBounds_toArray, List.set_cons_zero, List.set_cons_succ]
  refine wpAnyH_take (i := 21) (oi := { dst := some 42, op := Op.nilCheck (Operand.tmp 41), type := 0, pos := "law.go:150", after := #[{ on := 20, ground := Ground.data }, { on := 15, ground := Ground.guard }], guard := some (15, false) }) (v := undef) rfl (by kernel_rfl) (by kernel_rfl) (by kernel_rfl) (fun _ _ _ h => h) (Or.inr ⟨by rfl, rfl⟩) hHeld ?_
  try simp only [Act.put, List.setIfInBounds_toArray, List.set_cons_zero, List.set_cons_succ]
  refine wpAnyH_take (i := 18) (oi := { dst := some 39, op := Op.fieldAddr 43 (Operand.tmp 38) 2, type := 0, pos := "law.go:150", after := #[{ on := 17, ground := Ground.data }, { on := 15, ground := Ground.guard }], guard := some (15, false) }) (v := undef) rfl (by kernel_rfl) (by kernel_rfl) (by kernel_rfl) (fun _ _ _ h => h) (Or.inr ⟨by rfl, rfl⟩) hHeld ?_
  try simp only [Act.put, List.setIfInBounds_toArray, List.set_cons_zero, List.set_cons_succ]
  refine wpAnyH_take (i := 22) (oi := { dst := some 43, op := Op.fieldAddr 43 (Operand.tmp 42) 1, type := 0, pos := "law.go:150", after := #[{ on := 21, ground := Ground.data }, { on := 15, ground := Ground.guard }], guard := some (15, false) }) (v := undef) rfl (by kernel_rfl) (by kernel_rfl) (by kernel_rfl) (fun _ _ _ h => h) (Or.inr ⟨by rfl, rfl⟩) hHeld ?_
  try simp only [Act.put, List.setIfInBounds_toArray, List.set_cons_zero, List.set_cons_succ]
  refine wpAnyH_take (i := 19) (oi := { dst := some 40, op := Op.load 3 (Operand.tmp 39), type := 3, pos := "law.go:150", after := #[{ on := 18, ground := Ground.data }, { on := 15, ground := Ground.guard }], guard := some (15, false) }) (v := undef) rfl (by kernel_rfl) (by kernel_rfl) (by kernel_rfl) (fun _ _ _ h => h) (Or.inr ⟨by rfl, rfl⟩) hHeld ?_
  try simp only [Act.put, List.setIfInBounds_toArray, List.set_cons_zero, List.set_cons_succ]
  refine wpAnyH_take (i := 23) (oi := { dst := some 44, op := Op.load 28 (Operand.tmp 43), type := 28, pos := "law.go:150", after := #[{ on := 22, ground := Ground.data }, { on := 15, ground := Ground.guard }], guard := some (15, false) }) (v := undef) rfl (by kernel_rfl) (by kernel_rfl) (by kernel_rfl) (fun _ _ _ h => h) (Or.inr ⟨by rfl, rfl⟩) hHeld ?_
  try simp only [Act.put, List.setIfInBounds_toArray, List.set_cons_zero, List.set_cons_succ]
  refine wpAnyH_take (i := 25) (oi := { dst := some 46, op := Op.indexAddr 28 (Operand.tmp 44) (Operand.tmp 45), type := 0, pos := "law.go:150", after := #[{ on := 23, ground := Ground.data }, { on := 24, ground := Ground.data }, { on := 15, ground := Ground.guard }], guard := some (15, false) }) (v := undef) rfl (by kernel_rfl) (by kernel_rfl) (by kernel_rfl) (fun _ _ _ h => h) (Or.inr ⟨by rfl, rfl⟩) hHeld ?_
  try simp only [Act.put, List.setIfInBounds_toArray, List.set_cons_zero, List.set_cons_succ]
  refine wpAnyH_take (i := 26) (oi := { dst := some 47, op := Op.load 26 (Operand.tmp 46), type := 26, pos := "law.go:150", after := #[{ on := 25, ground := Ground.data }, { on := 15, ground := Ground.guard }], guard := some (15, false) }) (v := undef) rfl (by kernel_rfl) (by kernel_rfl) (by kernel_rfl) (fun _ _ _ h => h) (Or.inr ⟨by rfl, rfl⟩) hHeld ?_
  try simp only [Act.put, List.setIfInBounds_toArray, List.set_cons_zero, List.set_cons_succ]
  refine wpAnyH_take (i := 27) (oi := { dst := some 48, op := Op.call { callee := Callee.builtin Builtin.len, args := #[Operand.tmp 47], argTypes := #[26] }, type := 3, pos := "law.go:150", after := #[{ on := 26, ground := Ground.data }, { on := 15, ground := Ground.guard }], guard := some (15, false) }) (v := undef) rfl (by kernel_rfl) (by kernel_rfl) (by kernel_rfl) (fun _ _ _ h => h) (Or.inr ⟨by rfl, rfl⟩) hHeld ?_
  try simp only [Act.put, List.setIfInBounds_toArray, List.set_cons_zero, List.set_cons_succ]
  refine wpAnyH_take (i := 28) (oi := { dst := some 49, op := Op.binOp BinOp.add 3 (Operand.tmp 40) (Operand.tmp 48) 3, type := 3, pos := "law.go:150", after := #[{ on := 19, ground := Ground.data }, { on := 27, ground := Ground.data }, { on := 15, ground := Ground.guard }], guard := some (15, false) }) (v := undef) rfl (by kernel_rfl) (by kernel_rfl) (by kernel_rfl) (fun _ _ _ h => h) (Or.inr ⟨by rfl, rfl⟩) hHeld ?_
  try simp only [Act.put, List.setIfInBounds_toArray, List.set_cons_zero, List.set_cons_succ]
  refine wpAnyH_take (i := 29) (oi := { dst := some 50, op := Op.binOp BinOp.gtr 3 (Operand.tmp 49) (Operand.const (Value.int IntKind.i64 4000000)) 3, type := 4, pos := "law.go:150", after := #[{ on := 28, ground := Ground.data }, { on := 15, ground := Ground.guard }], guard := some (15, false) }) (v := undef) rfl (by kernel_rfl) (by kernel_rfl) (by kernel_rfl) (fun _ _ _ h => h) (Or.inr ⟨by rfl, rfl⟩) hHeld ?_
  try simp only [Act.put, List.setIfInBounds_toArray, List.set_cons_zero, List.set_cons_succ]
  refine wpAnyH_take (i := 30) (oi := { dst := some 51, op := Op.pick (Operand.tmp 36) (Operand.const (Value.bool true)) (Operand.tmp 50), type := 4, pos := "law.go:150", after := #[{ on := 15, ground := Ground.data }, { on := 29, ground := Ground.data }, { on := 8, ground := Ground.guard }], guard := some (8, true) }) (v := undef) rfl (by kernel_rfl) (by kernel_rfl) (by kernel_rfl) (fun _ _ _ h => h) (Or.inr ⟨by rfl, rfl⟩) hHeld ?_
  try simp only [Act.put, List.setIfInBounds_toArray, List.set_cons_zero, List.set_cons_succ]
  refine wpAnyH_take (i := 31) (oi := { dst := some 52, op := Op.pick (Operand.tmp 29) (Operand.tmp 51) (Operand.const (Value.bool false)), type := 4, pos := "law.go:150", after := #[{ on := 8, ground := Ground.data }, { on := 30, ground := Ground.data }], guard := none }) (v := .bool false) rfl (by kernel_rfl) (by kernel_rfl) (by kernel_rfl) (fun _ _ _ h => h) (Or.inl ⟨by rfl, by intro w hS; go_simp⟩) hHeld ?_
  try simp only [Act.put, List.setIfInBounds_toArray, List.set_cons_zero, List.set_cons_succ]
  refine wpAnyH_done (by kernel_rfl) ?_ _
  refine NoPanic.normal ?_
  have hf := hHeld
  clear hHeld
  have hbs : base ≤ w0.heap.size := Nat.le_trans HP.out.rs.hb (Nat.le_of_lt (hlt HP.out.rs.rk))
  have rsA := HP.out.rs.below hf
  have bxA := hbel hf HP.out.bx (hlt HP.out.bx)
  have hbWA : Below base w _ := HP.out.bel.trans (hf.mono hbs)
  have hGA := hG0.below hf hG0.1
  have srcA := HZ _ hbWA
  have etk9 := etk
  have tkA := (hf.cell (p := ⟨bt, k, none⟩) HBt.out).trans tk0
  have hbtA := Nat.lt_of_lt_of_le HBt.out hf.size
  clear p0 r0 r1 r2 s0 s1 s2 tk0 tsrc hbh hbt HAT HP HSl HRl HBt hG0 hR0 hbs hf
  generalize w0.drew = wa at *
  have HRA := hid rsA
  have HBA := hid bxA
  have HBW := hid hbWA
  have hbsA : base ≤ wa.heap.size := Nat.le_trans rsA.hb (Nat.le_of_lt (hlt rsA.rk))
  have s0 : wa.cell? ⟨S, 0, none⟩ = some (.int .i64 2) := by rw [cell_of_row _ _ _ _ _ _ bxA]; rfl
  have s2 : wa.cell? ⟨S, 2, none⟩ = some (.slice ps zs.length pc) := by rw [cell_of_row _ _ _ _ _ _ bxA]; rfl
  have hHk := rsA.hs k HKM.out
  have HSg := hid (show S ≠ gs.getD k 0 from fun e => ne_of_type bxA hHk.1.1 (by decide) e)
  have HRg := hid (show R ≠ gs.getD k 0 from fun e => ne_of_type rsA.rk hHk.1.1 (by decide) e)
  have HgL := hid (hlt hHk.1.1)
  have Hg4 := hid hHk.2
  have HSL := hid (hlt bxA)
  have HRL := hid (hlt rsA.rk)
  have KR := hid (roomy_any wa zs ps pc srcA (by omega))
  have HHk := hid hHk.1
  have izn : (zs.length : Int) ≤ 1048576 := by omega
  have HOWN := hid (rsA.tx k HKM.out)
  have HTK := hid tkA
  have HBl := hid hbtA
  have Hbg := hid (show bt ≠ gs.getD k 0 from fun e => by obtain ⟨_, _, y, hy⟩ := rsA.ot.heap bt rfl; exact ne_of_type hy hHk.1.1 (by decide) e)
  have HbR := hid (show R ≠ bt ∧ S ≠ bt ∧ base ≤ bt from by
    obtain ⟨q1, _, y, hy⟩ := rsA.ot.heap bt rfl
    exact ⟨fun e => ne_of_type rsA.rk hy (by decide) e, fun e => ne_of_type bxA hy (by decide) e, q1⟩)
  have HWR0 := fun (w4 w5 : World) (ys : List Int) (v5 : Value) kA hT hO5 hg5 hd5 => wr_fin rsA HKM.out (w4 := w4) (w5 := w5) ys v5 kA hT hO5 hg5 hd5
  simp only [etk9] at HWR0
  have HWR := hid HWR0
  have HO5 := hid (show ∀ q, (Value.slice tk tn tc).ownBlock = some q → R ≠ q ∧ S ≠ q ∧ base ≤ q from fun q hq => by
    have ho := rsA.tx k HKM.out
    rw [etk9] at ho
    obtain ⟨q1, _, y, hy⟩ := ho.heap5 q hq
    exact ⟨fun e => ne_of_type rsA.rk hy (by decide) e, fun e => ne_of_type bxA hy (by decide) e, q1⟩)
  clear HWR0 tkA hbtA
  have r1A : wa.cell? ⟨R, 1, none⟩ = some (.slice (some ⟨bt, 0, none⟩) n ct) := by rw [cell_of_row _ _ _ _ _ _ rsA.rk]; rfl
  have HR1 := hid r1A
  have HS2 := hid s2
  have HMK0 := hid HTN.out
  clear rsA bxA hbWA srcA hHk r1A
  generalize gs.getD k 0 = g2 at *
  obtain rfl : gk = g2 := HGK.out.symm
  generalize hmk : ms.getD k [] = mk at *
  have HMS := hid hmk
  have HMK := hid HTN.out
  clear hmk
  have HZ3 := hid hz3
  clear hz3
  generalize hZN : zs.length = zn at *
  have HZN := hid hZN
  clear hZN
  go_wp2_with fail
  refine KR.out.mono ?_
  rintro e w1 ⟨rfl, hP1, hb1⟩
  clear KR s0 s2
  generalize hP0 : wa.heap.size = P0 at *
  have HP0 := hid hP0
  clear hP0
  have kA1 : Keeps gk wa w1 := Keeps.of_below (by rw [HP0.out]; exact hb1)
  have s21 := kA1.cell (by rw [HP0.out]; exact HSL.out) HSg.out HS2.out
  have j1 := hid (show ((zn : Nat) : Int) ≤ ((zn + 80 : Nat) : Int) by omega)
  have j2 := hid (show ¬ zn + 80 = 0 by omega)
  have hT1 : HsT w1 gk mk := HHk.out.below hb1 HgL.out
  have KW := writeS_any w1 gk mk zs (some ⟨P0, 0, none⟩) (zn + 80) hT1 (hGA.below hb1 (by have := hGA.1; rw [HP0.out] at this; exact this)) (by have := Hg4.out; omega) (by have := HMK.out; have := HZN.out; omega) ⟨P0, 0, by have := HgL.out; omega, fun _ => rfl, fun j hj => by
    rw [Nat.zero_add, cell_ints hP1 j (by rw [List.length_append]; omega), List.getD_eq_getElem?_getD, List.getElem?_append_left hj, ← List.getD_eq_getElem?_getD]⟩ (by have := HZN.out; omega) (by unfold maxLen; omega)
  rw [HZN.out] at KW
  replace KW := hid KW
  have hP1' := hid hP1
  clear hP1 hb1 hT1
  go_wp2_with (first
    | refine wpList_cutB rfl (.tmp 68) (.tmp 71) rfl P0 0 (zn + 80) (zn + 80) zn rfl rfl j1.out j2.out ?_)
  refine KW.out.mono ?_
  rintro e w2 ⟨rfl, hT2, hK2⟩
  clear KW s21
  have kA2 := kA1.trans hK2
  have HGB := hid Hg4.out
  have hP2 := hK2.heap hP1'.out (by have := HgL.out; omega)
  have HBz := hid (fun (w' : World) (kA : Keeps gk wa w') => show Below base w w' from HBW.out.trans (kA.below_g HGB.out (by rw [HP0.out]; exact hbsA)))
  have src2 := HZ w2 (HBz.out w2 kA2)
  have s22 := kA2.cell (by rw [HP0.out]; exact HSL.out) HSg.out HS2.out
  have KI := intact_any w2 zs (some ⟨P0, 0, none⟩) ps (zn + 80) pc (src_blk (tl := []) (by rw [List.append_nil]; exact hP2) _ (by rw [List.length_append, HZN.out]; exact Nat.le_refl _) (by unfold maxLen; omega)) src2 (by have := HZN.out; omega)
  rw [HZN.out] at KI
  replace KI := hid KI
  have HP2 := hid hP2
  clear src2 hP2 kA1
  go_wp2_with fail
  refine KI.out.mono ?_
  rintro e w3 ⟨rfl, hb3⟩
  clear KI s22
  have kA3 := kA2.trans (Keeps.of_below hb3)
  have hT3 := hT2.below hb3 (hlt hT2.1)
  have hP3 := hbel hb3 HP2.out (hlt HP2.out)
  have HT3 := hid hT3
  have HK3 := hid kA3
  obtain ⟨F, hF⟩ : ∃ F, F = zs ++ tail80 := ⟨_, rfl⟩
  rw [← hF] at hP3
  have HFF := hid hF
  have HFL := hid (show F.length = zn + 80 by rw [hF, List.length_append, HZN.out]; rfl)
  clear hF hT2 hK2 kA2 kA3 hT3 hb3
  go_wp2
  go_loopw [8] (fun jv wr => ∃ j : Nat, j ≤ zn + 80 ∧ jv = .int .i64 j ∧ wr.heap[P0]? = some (.cells (ints .u8 (part x255 F j)).toArray 5 (0, 0)) ∧ Keeps P0 w3 wr) (fun jv _ => zn + 80 - (intOf jv).toNat)
  case atStart => exact ⟨0, by omega, rfl, hP3, Keeps.refl _ _⟩
  case round =>
  clear hP3
  obtain ⟨j, hj, rfl, hr, hK⟩ := hrel
  by_cases hlj : j < zn + 80
  · have i1 : (j : Int) < (zn : Int) + 80 := by omega
    have hjF : j < F.length := by rw [HFL.out]; exact hlj
    have c1 := cell_ints hr j (by rw [part_len _ _ _ (by omega)]; exact hjF)
    rw [part_get _ _ _ hjF] at c1
    have fz := frozen_of_row _ _ j _ _ hr
    have HSt := hid (show (wr.setCell ⟨P0, j, none⟩ (.int .u8 (bits .xor .u8 (F.getD j 0) 255))).heap[P0]? = some (.cells (ints .u8 (part x255 F (j + 1))).toArray 5 (0, 0)) from by
      rw [heap_set_ints hr j (bits .xor .u8 (F.getD j 0) 255)]
      have := part_set x255 F j hjF
      unfold x255 at this ⊢
      rw [this])
    have HKt := hid (hK.setAt j (.int .u8 (bits .xor .u8 (F.getD j 0) 255)))
    clear hr hK
    generalize F.getD j 0 = y at *
    go_wp2
    go_roundw
    case rel => exact ⟨j + 1, by omega, by go_num, HSt.out, HKt.out⟩
    case measure => simp [intOf]; omega
  · obtain rfl : j = zn + 80 := by omega
    have i1 : ¬ ((zn + 80 : Nat) : Int) < (zn : Int) + 80 := by omega
    have hpf : part x255 F (zn + 80) = F.map x255 := by unfold part; rw [← HFL.out, List.take_length, List.drop_length, List.append_nil]
    rw [hpf] at hr
    have kA4 : Keeps gk wa wr := HK3.out.new hK (by rw [HP0.out]; exact Nat.le_refl _)
    have hT4 : HsT wr gk (mk ++ zs) := HT3.out.keeps hK (by have := HgL.out; omega)
    have r14 : wr.drew.cell? ⟨R, 1, none⟩ = some (.slice (some ⟨bt, 0, none⟩) n ct) := kA4.cell (by rw [HP0.out]; exact HRL.out) HRg.out HR1.out
    have s24 : wr.drew.cell? ⟨S, 2, none⟩ = some (.slice ps zn pc) := kA4.cell (by rw [HP0.out]; exact HSL.out) HSg.out HS2.out
    have tk4 : wr.drew.cell? ⟨bt, k, none⟩ = some (.slice tk tn tc) := kA4.cell (by rw [HP0.out]; exact HBl.out) Hbg.out HTK.out
    have ow4 : Own wr.drew base (.slice tk tn tc) mk := by
      have ho := HOWN.out
      rw [etk9] at ho
      exact ho.of5 fun q x hx => kA4.block q (hlt hx) (fun e => ne_of_type hx HHk.out.1 (by decide) e)
    have OW4 := hid ow4
    have HB4 := HBz.out wr kA4
    have SR4 := hid (show Src wr.drew ps pc zs from HZ wr.drew HB4.drew)
    have HLN4 := hid (show mk.length + zs.length ≤ 140737488351232 by have := HMK.out; have := HZN.out; omega)
    have hbs4 : base ≤ wr.drew.heap.size := Nat.le_trans (show base ≤ wa.heap.size by rw [HP0.out]; exact hbsA) kA4.size
    have HBS4 := hid hbs4
    have WF := hid (fun (w5 : World) (v5 : Value) hO5 hg5 hd5 => HWR.out wr.drew w5 zs v5 kA4.drew hT4 hO5 hg5 hd5)
    have WC := hid (fun (w5 : World) (hg5 : wr.drew.grownBy w5 (Value.slice tk tn tc).ownBlock) => show w5.cell? ⟨R, 1, none⟩ = some (.slice (some ⟨bt, 0, none⟩) n ct) ∧ w5.cell? ⟨S, 2, none⟩ = some (.slice ps zn pc) ∧ True ∧ 0 < w5.heap.size from
      ⟨(World.cell?_of_block (w := wr.drew) (a := ⟨R, 1, none⟩) (hg5.block R (Nat.lt_of_lt_of_le (by rw [HP0.out]; exact HRL.out) kA4.size) (fun e => (HO5.out R e.symm).1 rfl))).trans r14,
       (World.cell?_of_block (w := wr.drew) (a := ⟨S, 2, none⟩) (hg5.block S (Nat.lt_of_lt_of_le (by rw [HP0.out]; exact HSL.out) kA4.size) (fun e => (HO5.out S e.symm).2.1 rfl))).trans s24, trivial,
       Nat.lt_of_lt_of_le (Nat.lt_of_lt_of_le (show 0 < wa.heap.size by rw [HP0.out]; exact Nat.lt_of_le_of_lt (Nat.zero_le _) HBl.out) kA4.size) hg5.size⟩)
    have WB := hid (fun (w5 : World) (v5 : Value) (hg5 : wr.drew.grownBy w5 (Value.slice tk tn tc).ownBlock) => show Below base w (w5.setCell ⟨bt, k, none⟩ v5) from (HB4.drew.trans (grown_keeps hg5 (fun q hq => (HO5.out q hq).2.2) hbs4)).setCell (show base ≤ bt from HbR.out.2.2) v5)
    have WS := hid (fun (w5 : World) (v5 : Value) (h1 : w5.cell? ⟨R, 1, none⟩ = some (.slice (some ⟨bt, 0, none⟩) n ct)) (h2 : w5.cell? ⟨S, 2, none⟩ = some (.slice ps zn pc)) => show (w5.setCell ⟨bt, k, none⟩ v5).cell? ⟨R, 1, none⟩ = some (.slice (some ⟨bt, 0, none⟩) n ct) ∧ (w5.setCell ⟨bt, k, none⟩ v5).cell? ⟨S, 2, none⟩ = some (.slice ps zn pc) from
      ⟨(World.cell?_of_block (w := w5) (a := ⟨R, 1, none⟩) (heap_setCell_other _ _ _ _ HbR.out.1)).trans h1, (World.cell?_of_block (w := w5) (a := ⟨S, 2, none⟩) (heap_setCell_other _ _ _ _ HbR.out.2.1)).trans h2⟩)
    have HR4 := hid hr
    obtain ⟨r3, hr3⟩ : ∃ r3 : Nat, (zn : Int).tmod 3 = (r3 : Int) := ⟨zn % 3, by rw [Int.tmod_eq_emod_of_nonneg (by omega)]; omega⟩
    have q1 : (r3 : Int) < 3 := by have := Int.tmod_lt_of_pos (zn : Int) (show (0 : Int) < 3 by decide); omega
    have q2 : ¬ (r3 : Int) = 1 := by have h1 := hr3; rw [Int.tmod_eq_emod_of_nonneg (by omega)] at h1; have := HZ3.out; omega
    clear hlj hj hr hK kA4 hT4 ow4 HB4 hbs4 hpf
    go_wp2
    refine wp_region_noPanic ?_
    refine wp_region_held_drew (S := fun w' => w'.cell? ⟨R, 1, none⟩ = some (.slice (some ⟨bt, 0, none⟩) n ct) ∧ w'.cell? ⟨S, 2, none⟩ = some (.slice ps zn pc)) (by kernel_rfl) ⟨r14, s24⟩ (fun hHeld => ?_)
    refine wpAnyH_take (i := 0) (oi := { dst := some 93, op := Op.move (Operand.tmp 0), type := 40, pos := "law.go:165", after := #[], guard := none }) (v := .pointer (some ⟨R, 0, none⟩)) rfl (by kernel_rfl) (by kernel_rfl) (by kernel_rfl) (fun _ _ _ h => h) (Or.inl ⟨by rfl, by intro w hS; go_simp⟩) hHeld ?_
    try simp only [Act.put, List.setIfInBounds_toArray, List.set_cons_zero, List.set_cons_succ]
    refine wpAnyH_take (i := 4) (oi := { dst := some 97, op := Op.move (Operand.tmp 5), type := 3, pos := "law.go:165", after := #[], guard := none }) (v := .int .i64 k) rfl (by kernel_rfl) (by kernel_rfl) (by kernel_rfl) (fun _ _ _ h => h) (Or.inl ⟨by rfl, by intro w hS; go_simp⟩) hHeld ?_
    try simp only [Act.put, List.setIfInBounds_toArray, List.set_cons_zero, List.set_cons_succ]
    refine wpAnyH_take (i := 5) (oi := { dst := some 98, op := Op.move (Operand.tmp 0), type := 40, pos := "law.go:165", after := #[], guard := none }) (v := .pointer (some ⟨R, 0, none⟩)) rfl (by kernel_rfl) (by kernel_rfl) (by kernel_rfl) (fun _ _ _ h => h) (Or.inl ⟨by rfl, by intro w hS; go_simp⟩) hHeld ?_
    try simp only [Act.put, List.setIfInBounds_toArray, List.set_cons_zero, List.set_cons_succ]
    refine wpAnyH_take (i := 9) (oi := { dst := some 102, op := Op.move (Operand.tmp 5), type := 3, pos := "law.go:165", after := #[], guard := none }) (v := .int .i64 k) rfl (by kernel_rfl) (by kernel_rfl) (by kernel_rfl) (fun _ _ _ h => h) (Or.inl ⟨by rfl, by intro w hS; go_simp⟩) hHeld ?_
    try simp only [Act.put, List.setIfInBounds_toArray, List.set_cons_zero, List.set_cons_succ]
    refine wpAnyH_take (i := 12) (oi := { dst := some 105, op := Op.fieldAddr 47 (Operand.tmp 3) 2, type := 0, pos := "law.go:165", after := #[], guard := none }) (v := .pointer (some ⟨S, 2, none⟩)) rfl (by kernel_rfl) (by kernel_rfl) (by kernel_rfl) (fun _ _ _ h => h) (Or.inl ⟨by rfl, by intro w hS; go_simp⟩) hHeld ?_
    try simp only [Act.put, List.setIfInBounds_toArray, List.set_cons_zero, List.set_cons_succ]
    refine wpAnyH_take (i := 1) (oi := { dst := some 94, op := Op.nilCheck (Operand.tmp 93), type := 0, pos := "law.go:165", after := #[{ on := 0, ground := Ground.data }], guard := none }) (v := .pointer (some ⟨R, 0, none⟩)) rfl (by kernel_rfl) (by kernel_rfl) (by kernel_rfl) (fun _ _ _ h => h) (Or.inl ⟨by rfl, by intro w hS; go_simp⟩) hHeld ?_
    try simp only [Act.put, List.setIfInBounds_toArray, List.set_cons_zero, List.set_cons_succ]
    refine wpAnyH_take (i := 6) (oi := { dst := some 99, op := Op.nilCheck (Operand.tmp 98), type := 0, pos := "law.go:165", after := #[{ on := 5, ground := Ground.data }], guard := none }) (v := .pointer (some ⟨R, 0, none⟩)) rfl (by kernel_rfl) (by kernel_rfl) (by kernel_rfl) (fun _ _ _ h => h) (Or.inl ⟨by rfl, by intro w hS; go_simp⟩) hHeld ?_
    try simp only [Act.put, List.setIfInBounds_toArray, List.set_cons_zero, List.set_cons_succ]
    refine wpAnyH_take (i := 13) (oi := { dst := some 106, op := Op.load 26 (Operand.tmp 105), type := 26, pos := "law.go:165", after := #[{ on := 12, ground := Ground.data }], guard := none }) (v := .slice ps zn pc) rfl (by kernel_rfl) (by kernel_rfl) (by kernel_rfl) (fun _ _ _ h => h) (Or.inl ⟨by rfl, by intro w hS; have hc := hS.2; go_simp⟩) hHeld ?_
    try simp only [Act.put, List.setIfInBounds_toArray, List.set_cons_zero, List.set_cons_succ]
    refine wpAnyH_take (i := 2) (oi := { dst := some 95, op := Op.fieldAddr 43 (Operand.tmp 94) 1, type := 0, pos := "law.go:165", after := #[{ on := 1, ground := Ground.data }], guard := none }) (v := .pointer (some ⟨R, 1, none⟩)) rfl (by kernel_rfl) (by kernel_rfl) (by kernel_rfl) (fun _ _ _ h => h) (Or.inl ⟨by rfl, by intro w hS; go_simp⟩) hHeld ?_
    try simp only [Act.put, List.setIfInBounds_toArray, List.set_cons_zero, List.set_cons_succ]
    refine wpAnyH_take (i := 7) (oi := { dst := some 100, op := Op.fieldAddr 43 (Operand.tmp 99) 1, type := 0, pos := "law.go:165", after := #[{ on := 6, ground := Ground.data }], guard := none }) (v := .pointer (some ⟨R, 1, none⟩)) rfl (by kernel_rfl) (by kernel_rfl) (by kernel_rfl) (fun _ _ _ h => h) (Or.inl ⟨by rfl, by intro w hS; go_simp⟩) hHeld ?_
    try simp only [Act.put, List.setIfInBounds_toArray, List.set_cons_zero, List.set_cons_succ]
    refine wpAnyH_take (i := 3) (oi := { dst := some 96, op := Op.load 28 (Operand.tmp 95), type := 28, pos := "law.go:165", after := #[{ on := 2, ground := Ground.data }], guard := none }) (v := .slice (some ⟨bt, 0, none⟩) n ct) rfl (by kernel_rfl) (by kernel_rfl) (by kernel_rfl) (fun _ _ _ h => h) (Or.inl ⟨by rfl, by intro w hS; have hc := hS.1; go_simp⟩) hHeld ?_
    try simp only [Act.put, List.setIfInBounds_toArray, List.set_cons_zero, List.set_cons_succ]
    refine wpAnyH_take (i := 8) (oi := { dst := some 101, op := Op.load 28 (Operand.tmp 100), type := 28, pos := "law.go:165", after := #[{ on := 7, ground := Ground.data }], guard := none }) (v := .slice (some ⟨bt, 0, none⟩) n ct) rfl (by kernel_rfl) (by kernel_rfl) (by kernel_rfl) (fun _ _ _ h => h) (Or.inl ⟨by rfl, by intro w hS; have hc := hS.1; go_simp⟩) hHeld ?_
    try simp only [Act.put, List.setIfInBounds_toArray, List.set_cons_zero, List.set_cons_succ]
    refine wpAnyH_take (i := 10) (oi := { dst := some 103, op := Op.indexAddr 28 (Operand.tmp 101) (Operand.tmp 102), type := 0, pos := "law.go:165", after := #[{ on := 8, ground := Ground.data }, { on := 9, ground := Ground.data }], guard := none }) (v := .pointer (some ⟨bt, k, none⟩)) rfl (by kernel_rfl) (by kernel_rfl) (by kernel_rfl) (fun _ _ _ h => h) (Or.inl ⟨by rfl, by intro w hS; go_simp⟩) hHeld ?_
    try simp only [Act.put, List.setIfInBounds_toArray, List.set_cons_zero, List.set_cons_succ]
    refine wpAnyH_ready (rs := [11]) (by kernel_rfl) (by simp) ?_
    refine (AllReadyH.cons (o := { dst := some 104, op := Op.load 26 (Operand.tmp 103), type := 26, pos := "law.go:165", after := #[{ on := 10, ground := Ground.data }], guard := none }) rfl (fun K hK => ?_) AllReadyH.nil)
    go_simp
    refine hK.out _ _ (hHeld) (fun hHeld2 => ?_)
    clear hK K hHeld
    have hHeld := hHeld2
    clear hHeld2
    try simp only [Act.put, List.setIfInBounds_toArray, List.set_cons_zero, List.set_cons_succ]
    refine wpAnyH_ready (rs := [14]) (by kernel_rfl) (by simp) ?_
    refine (AllReadyH.cons (o := { dst := some 107, op := Op.call { callee := Callee.builtin Builtin.append, args := #[Operand.tmp 104, Operand.tmp 106], argTypes := #[26, 26] }, type := 26, pos := "law.go:165", after := #[{ on := 11, ground := Ground.data }, { on := 13, ground := Ground.data }], guard := none }) rfl (fun K hK => ?_) AllReadyH.nil)
    refine step_appW rfl (.tmp 104) (.tmp 106) rfl base _ mk zs rfl OW4.out ps pc (by rw [HZN.out]; rfl) hpn SR4.out HLN4.out HBS4.out ?_
    intro v5 w5 hO5 hg5 hd5
    obtain ⟨hU, cU, fU⟩ := WF.out w5 v5 hO5 hg5 hd5
    obtain ⟨k51, k52, k53, k54⟩ := WC.out w5 hg5
    obtain ⟨s5, c5, hv5, _, _⟩ := hO5.form k54
    rw [List.length_append, HMK.out, HZN.out] at hv5
    have HU := hid hU
    have BU := hid (WB.out w5 v5 hg5)
    clear hU
    subst hv5
    refine hK.out _ _ (⟨k51, k52⟩) (fun hHeld2 => ?_)
    clear hK K hHeld
    have hHeld := hHeld2
    clear hHeld2
    try simp only [Act.put, List.setIfInBounds_toArray, List.set_cons_zero, List.set_cons_succ]
    refine wpAnyH_take (i := 15) (oi := { dst := some 108, op := Op.indexAddr 28 (Operand.tmp 96) (Operand.tmp 97), type := 0, pos := "law.go:165", after := #[{ on := 3, ground := Ground.data }, { on := 4, ground := Ground.data }, { on := 0, ground := Ground.phase }, { on := 1, ground := Ground.phase }, { on := 2, ground := Ground.phase }, { on := 3, ground := Ground.phase }, { on := 4, ground := Ground.phase }, { on := 5, ground := Ground.phase }, { on := 6, ground := Ground.phase }, { on := 7, ground := Ground.phase }, { on := 8, ground := Ground.phase }, { on := 9, ground := Ground.phase }, { on := 10, ground := Ground.phase }, { on := 11, ground := Ground.phase }, { on := 12, ground := Ground.phase }, { on := 13, ground := Ground.phase }, { on := 14, ground := Ground.phase }], guard := none }) (v := .pointer (some ⟨bt, k, none⟩)) rfl (by kernel_rfl) (by kernel_rfl) (by kernel_rfl) (fun _ _ _ h => h) (Or.inl ⟨by rfl, by intro w hS; go_simp⟩) hHeld ?_
    try simp only [Act.put, List.setIfInBounds_toArray, List.set_cons_zero, List.set_cons_succ]
    refine wpAnyH_ready (rs := [16]) (by kernel_rfl) (by simp) ?_
    refine (AllReadyH.cons (o := { dst := none, op := Op.store 26 (Operand.tmp 108) (Operand.tmp 107), type := 0, pos := "law.go:165", after := #[{ on := 15, ground := Ground.data }, { on := 14, ground := Ground.data }, { on := 14, ground := Ground.chain }, { on := 0, ground := Ground.phase }, { on := 1, ground := Ground.phase }, { on := 2, ground := Ground.phase }, { on := 3, ground := Ground.phase }, { on := 4, ground := Ground.phase }, { on := 5, ground := Ground.phase }, { on := 6, ground := Ground.phase }, { on := 7, ground := Ground.phase }, { on := 8, ground := Ground.phase }, { on := 9, ground := Ground.phase }, { on := 10, ground := Ground.phase }, { on := 11, ground := Ground.phase }, { on := 12, ground := Ground.phase }, { on := 13, ground := Ground.phase }, { on := 14, ground := Ground.phase }], guard := none }) rfl (fun K hK => ?_) AllReadyH.nil)
    go_simp
    refine hK.out _ _ (WS.out _ _ k51 k52) (fun hHeld2 => ?_)
    clear hK K hHeld
    have hHeld := hHeld2
    clear hHeld2
    try simp only [Act.put, List.setIfInBounds_toArray, List.set_cons_zero, List.set_cons_succ]
    refine wpAnyH_done (by kernel_rfl) ?_ _
    refine NoPanic.normal ?_
    have hs5 := hHeld.2
    clear hHeld
    go_wp2
    go_ret
    exact upd_post HU.out BU.out (by rw [← HLN.out]) HNP.out HNL.out hh0 hh HKN.out (fun i hi => Nat.le_trans (HHB.out i hi) (Nat.le_add_right _ _)) (by have h1 := HHB.out k HKN.out; rw [HMS.out] at h1; have h2 := HZN.out; rw [List.length_append]; omega)
end Go.Proofs.YtpmjijadjblkeaaDoor
