import Derived.Test.YtbpamknebjdicaaK20
import Derived.Test.YtbpamknebjdicaaL21
namespace Go.Proofs.Ytbpamknebjdicaa
set_option linter.unusedVariables false
set_option linter.unusedSimpArgs false
open Go.RowKit
attribute [local go_sem ↓] Go.wp_at_zero Go.wp_at_succ

theorem keyGuard : Try.prog.eqGuardType Try.prog.depth 43 = false := by kernel_rfl
theorem key_eq (k y : List Int) (hk : k.length = 32) (hy : y.length = 32) (w : World) : (Op.equalIn 10000 43 (.agg (ints .u8 k).toArray) (.agg (ints .u8 y).toArray)).run Try.prog w = .ok (decide (k = y)) w :=
  equalIn_ints Try.underlying43 Try.underlying5 Try.size5 .u8 k y hk hy w
def SrcK (w : World) (sp : Option Addr) (zs : List Int) : Prop := ∃ b o, (0 < zs.length → b < w.heap.size) ∧ (0 < zs.length → sp = some ⟨b, o, none⟩) ∧ ∀ j, j < zs.length → w.rangeAt b (o + j * 32) (ints .u8 (pathL (zs.getD j 0)))
theorem SrcK.below {w w1 : World} {sp : Option Addr} {zs : List Int} (h : SrcK w sp zs) (hb : Below w.heap.size w w1) : SrcK w1 sp zs := by
  obtain ⟨b, o, h2, h3, h4⟩ := h
  exact ⟨b, o, fun q => Nat.lt_of_lt_of_le (h2 q) hb.size, h3, fun j hj => rng_below (h4 j hj) hb (h2 (by omega))⟩
theorem K2.OwnK.src {w : World} {base : Nat} {v : Value} {l : List Int} (h : K2.OwnK w base v l) : ∃ sp cap, v = .slice sp l.length cap ∧ SrcK w sp l := by
  obtain ⟨sp, cap, rfl⟩ := h.form
  refine ⟨sp, cap, rfl, ?_⟩
  rcases h.2 with ⟨_, h0⟩ | ⟨g, cap', cur, e, hg, hh, hc, hm, hs, ht⟩
  · exact ⟨0, 0, fun q => by omega, fun q => by omega, fun j hj => by omega⟩
  · simp only [Value.slice.injEq] at e
    refine ⟨g, 0, fun _ => hlt hh, fun _ => e.1, fun j hj i u hu => ?_⟩
    have hi : i < 32 := (List.getElem?_eq_some_iff.1 hu).1
    have := K2.keyC_at l j i hj u hu
    rw [← ht, List.getElem?_take, if_pos (by omega)] at this
    rw [cell_of_row _ _ _ _ _ _ hh, Nat.zero_add, ← this]
    simp
set_option maxRecDepth 100000 in
set_option maxHeartbeats 1000000 in
theorem paths_yes (w : World) (zs : List Int) (sp sq : Option Addr) (c d : Nat) (hX : SrcI w sp zs) (hY : SrcK w sq zs) :
    Calls Try.prog 24 #[.slice sp zs.length c, .slice sq zs.length d] w fun e w' => e = .returned (.bool true) ∧ Below w.heap.size w w' := by
  obtain ⟨hm, b, o, hb, hsp, hsrc⟩ := hX
  obtain ⟨b', o', hb', hsp', hsrc'⟩ := hY
  have i0 : (zs.length : Int) ≤ 9223372036854775807 := by omega
  generalize hH : w.heap.size = H at *
  go_enter Try.func24, Try.ntmps24
  go_wp2
  go_loopw [5] (fun i wr => ∃ k : Nat, k ≤ zs.length ∧ i = .int .i64 k ∧ Below H w wr) (fun i _ => zs.length - (intOf i).toNat)
  case atStart => exact ⟨0, by omega, rfl, by rw [← hH]; exact Below.refl _ _⟩
  case round =>
    obtain ⟨k, hk, rfl, hB⟩ := hrel
    by_cases hlt : k < zs.length
    · have i1 : (k : Int) < (zs.length : Int) := by omega
      obtain rfl := hsp (by omega)
      obtain rfl := hsp' (by omega)
      have d1 := (hB.cell (p := ⟨b, o + k, none⟩) (hb (by omega))).trans (hsrc k hlt)
      have d2 := rng_below (hsrc' k hlt) hB (hb' (by omega))
      have HSZ := hid (show b < wr.drew.heap.size ∧ b' < wr.drew.heap.size from ⟨by have := hb (by omega); have := hB.size; show b < wr.heap.size; omega, by have := hb' (by omega); have := hB.size; show b' < wr.heap.size; omega⟩)
      generalize zs.getD k 0 = z at *
      have HEQ := hid (fun w : World => (by have := key_eq (pathL z) (pathL z) rfl rfl w; rw [decide_eq_true rfl] at this; exact this : (Op.equalIn 10000 43 (.agg (ints .u8 (pathL z)).toArray) (.agg (ints .u8 (pathL z)).toArray)).run Try.prog w = .ok true w))
      have HKP := hid (fun (u x : World) (hs : u.cell? ⟨b, o + k, none⟩ = some (.int .i64 z) ∧ u.rangeAt b' (o' + k * 32) (ints .u8 (pathL z))) (hbx : Below u.heap.size u x) (hl : b < u.heap.size ∧ b' < u.heap.size) => (⟨(hbx.cell (p := ⟨b, o + k, none⟩) hl.1).trans hs.1, rng_below hs.2 hbx hl.2⟩ : x.cell? ⟨b, o + k, none⟩ = some (.int .i64 z) ∧ x.rangeAt b' (o' + k * 32) (ints .u8 (pathL z))))
      have HB := hid hB
      clear hB hsrc hsrc'
      go_wp2
      refine wp_region_noPanic ?_
      refine wp_region_held_drew (S := fun w' => w'.cell? ⟨b, o + k, none⟩ = some (.int .i64 z) ∧ w'.rangeAt b' (o' + k * 32) (ints .u8 (pathL z))) (by kernel_rfl) ⟨d1, d2⟩ (fun hHeld => ?_)
      refine wpAnyH_take (i := 0) (oi := { dst := some 17, op := Op.move (Operand.tmp 0), type := 29, pos := "law.go:284", after := #[], guard := none }) (v := .slice (some ⟨b, o, none⟩) zs.length c) rfl (by kernel_rfl) (by kernel_rfl) (by kernel_rfl) (fun _ _ _ h => h) (Or.inl ⟨by rfl, by intro w hS; go_simp⟩) hHeld ?_
      try simp only [Act.put, List.setIfInBounds_toArray, List.set_cons_zero, List.set_cons_succ]
      refine wpAnyH_take (i := 1) (oi := { dst := some 18, op := Op.move (Operand.tmp 5), type := 3, pos := "law.go:284", after := #[], guard := none }) (v := .int .i64 k) rfl (by kernel_rfl) (by kernel_rfl) (by kernel_rfl) (fun _ _ _ h => h) (Or.inl ⟨by rfl, by intro w hS; go_simp⟩) hHeld ?_
      try simp only [Act.put, List.setIfInBounds_toArray, List.set_cons_zero, List.set_cons_succ]
      refine wpAnyH_take (i := 5) (oi := { dst := some 22, op := Op.move (Operand.tmp 1), type := 49, pos := "law.go:284", after := #[], guard := none }) (v := .slice (some ⟨b', o', none⟩) zs.length d) rfl (by kernel_rfl) (by kernel_rfl) (by kernel_rfl) (fun _ _ _ h => h) (Or.inl ⟨by rfl, by intro w hS; go_simp⟩) hHeld ?_
      try simp only [Act.put, List.setIfInBounds_toArray, List.set_cons_zero, List.set_cons_succ]
      refine wpAnyH_take (i := 6) (oi := { dst := some 23, op := Op.move (Operand.tmp 5), type := 3, pos := "law.go:284", after := #[], guard := none }) (v := .int .i64 k) rfl (by kernel_rfl) (by kernel_rfl) (by kernel_rfl) (fun _ _ _ h => h) (Or.inl ⟨by rfl, by intro w hS; go_simp⟩) hHeld ?_
      try simp only [Act.put, List.setIfInBounds_toArray, List.set_cons_zero, List.set_cons_succ]
      refine wpAnyH_take (i := 2) (oi := { dst := some 19, op := Op.indexAddr 29 (Operand.tmp 17) (Operand.tmp 18), type := 0, pos := "law.go:284", after := #[{ on := 0, ground := Ground.data }, { on := 1, ground := Ground.data }], guard := none }) (v := .pointer (some ⟨b, o + k, none⟩)) rfl (by kernel_rfl) (by kernel_rfl) (by kernel_rfl) (fun _ _ _ h => h) (Or.inl ⟨by rfl, by intro w hS; go_simp⟩) hHeld ?_
      try simp only [Act.put, List.setIfInBounds_toArray, List.set_cons_zero, List.set_cons_succ]
      refine wpAnyH_take (i := 7) (oi := { dst := some 24, op := Op.indexAddr 49 (Operand.tmp 22) (Operand.tmp 23), type := 0, pos := "law.go:284", after := #[{ on := 5, ground := Ground.data }, { on := 6, ground := Ground.data }], guard := none }) (v := .pointer (some ⟨b', o' + k * 32, none⟩)) rfl (by kernel_rfl) (by kernel_rfl) (by kernel_rfl) (fun _ _ _ h => h) (Or.inl ⟨by rfl, by intro w hS; go_simp⟩) hHeld ?_
      try simp only [Act.put, List.setIfInBounds_toArray, List.set_cons_zero, List.set_cons_succ]
      refine wpAnyH_take (i := 3) (oi := { dst := some 20, op := Op.load 3 (Operand.tmp 19), type := 3, pos := "law.go:284", after := #[{ on := 2, ground := Ground.data }], guard := none }) (v := .int .i64 z) rfl (by kernel_rfl) (by kernel_rfl) (by kernel_rfl) (fun _ _ _ h => h) (Or.inl ⟨by rfl, by intro w hS; have hc := hS.1; go_simp⟩) hHeld ?_
      try simp only [Act.put, List.setIfInBounds_toArray, List.set_cons_zero, List.set_cons_succ]
      refine wpAnyH_take (i := 8) (oi := { dst := some 25, op := Op.load 43 (Operand.tmp 24), type := 43, pos := "law.go:284", after := #[{ on := 7, ground := Ground.data }], guard := none }) (v := .agg (ints .u8 (pathL z)).toArray) rfl (by kernel_rfl) (by kernel_rfl) (by kernel_rfl) (fun _ _ _ h => h) (yieldsIf_load_mid (by rfl) 43 _ rfl b' (o' + k * 32) rfl (ints .u8 (pathL z)) _ (fun w hS => hS.2) Try.underlying43 rfl (keyN z)) hHeld ?_
      try simp only [Act.put, List.setIfInBounds_toArray, List.set_cons_zero, List.set_cons_succ]
      refine wpAnyH_ready (rs := [4]) (by kernel_rfl) (by simp) ?_
      refine (AllReadyH.cons (o := { dst := some 21, op := Op.call { callee := Callee.value (Operand.func 20), args := #[Operand.tmp 20], argTypes := #[3] }, type := 43, pos := "law.go:284", after := #[{ on := 3, ground := Ground.data }], guard := none }) rfl (fun K hK => ?_) AllReadyH.nil)
      go_simp
      go_at_call 20
      refine (path_any _ z).mono ?_
      rintro e x1 ⟨rfl, hbx⟩
      have HX1 := hid hbx
      go_wp2_with fail
      refine hK.out _ _ (HKP.out _ x1 (by exact hHeld) hbx HSZ.out) (fun hHeld2 => ?_)
      clear hK K hHeld
      have hHeld := hHeld2
      clear hHeld2
      try simp only [Act.put, List.setIfInBounds_toArray, List.set_cons_zero, List.set_cons_succ]
      refine wpAnyH_take (i := 9) (oi := { dst := some 26, op := Op.binOp BinOp.neq 43 (Operand.tmp 21) (Operand.tmp 25) 43, type := 4, pos := "law.go:284", after := #[{ on := 4, ground := Ground.data }, { on := 8, ground := Ground.data }], guard := none }) (v := .bool false) rfl (by kernel_rfl) (by kernel_rfl) (by kernel_rfl) (fun _ _ _ h => h) (Or.inl ⟨by rfl, by intro w hS; (have KQ := HEQ.out; have KG := keyGuard; go_simp)⟩) hHeld ?_
      try simp only [Act.put, List.setIfInBounds_toArray, List.set_cons_zero, List.set_cons_succ]
      refine wpAnyH_done (by kernel_rfl) ?_ _
      refine NoPanic.normal ?_
      go_wp2
      go_roundw
      case rel => exact ⟨k + 1, by omega, by go_num, HB.out.trans (⟨HX1.out.os, HX1.out.tape, HX1.out.output, HX1.out.size, fun i hi => HX1.out.block i (by have := HB.out.size; show i < wr.heap.size; omega)⟩)⟩
      case measure => simp [intOf]; omega
    · obtain rfl : k = zs.length := by omega
      have HB := hid hB
      clear hB hlt
      go_wp2
      go_ret
      exact ⟨rfl, HB.out⟩
theorem K2.CK.rebase {w : World} {base b2 p m n : Nat} {s : CSi} (h : K2.CK w base p m n s) (hb : b2 ≤ base) : K2.CK w b2 p m n s :=
  ⟨h.cell, h.ents, h.mp, h.kwf, Nat.le_trans hb h.bp, Nat.le_trans hb h.bm, fun b q => Nat.le_trans hb (h.bb b q)⟩
theorem K2.CA.rebase {w : World} {base b2 : Nat} {F : List Nat} {p N : Nat} {a : AS Int Int} (h : K2.CA w base F p N a) (hb : b2 ≤ base) : K2.CA w b2 F p N a := by
  obtain ⟨m, n, s, L, rfl, h, r⟩ := h
  exact ⟨m, n, s, L, rfl, h.rebase hb, r⟩
theorem build_op (w : World) : (Instr.build 37 #[(0, .int .i64 2), (2, .int .i64 3)]).run Try.prog w = .ok (.agg (opL ⟨2, 0, 3, 0⟩).toArray) w := by kernel_rfl
end Go.Proofs.Ytbpamknebjdicaa
