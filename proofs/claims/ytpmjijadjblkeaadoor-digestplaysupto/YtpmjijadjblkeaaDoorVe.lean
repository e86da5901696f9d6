import Derived.Test.YtpmjijadjblkeaaDoorVd
namespace Go.Proofs.YtpmjijadjblkeaaDoor
set_option linter.unusedVariables false
set_option linter.unusedSimpArgs false
open Go.RowKit
attribute [local go_sem ↓] Go.wp_at_zero Go.wp_at_succ

theorem gD_st {α : Type} (l : List α) (d x : α) (i j : Nat) (hi : i < l.length) : (l.set i x).getD j d = if j = i then x else l.getD j d := by
  by_cases h : j = i
  · subst h
    rw [if_pos rfl, List.getD_eq_getElem?_getD, List.getElem?_set_self hi]; rfl
  · rw [if_neg h, List.getD_eq_getElem?_getD, List.getElem?_set_ne (fun e => h e.symm), ← List.getD_eq_getElem?_getD]
theorem OwnE.setc {e : TypeId} {w : World} {base : Nat} {v : Value} {vs : List Value} (h : OwnE e w base v vs) (k : Nat) (hk : k < vs.length) (b : Nat) (hb : v.ownBlock = some b) (x : Value) : OwnE e (w.setCell ⟨b, k, none⟩ x) base v (vs.set k x) := by
  obtain ⟨h1, ⟨rfl, hn⟩ | ⟨g, cap, cur, rfl, hg, hh, hc, hm, hsz, ht⟩⟩ := h
  · omega
  · simp only [Value.ownBlock, Option.some.injEq] at hb
    subst hb
    refine ⟨by simp, Or.inr ⟨g, cap, cur.setIfInBounds k x, by rw [List.length_set], hg, heap_setCell_same _ _ _ _ _ _ hh, by rw [List.length_set]; exact hc, hm, by simpa using hsz, ?_⟩⟩
    rw [List.length_set, Array.toList_setIfInBounds, List.take_set, ht]
/-- One hasher and its text have turned. -/
theorem RS.upd {w w1 : World} {base R bt ct n : Nat} {hv : Value} {held : Int} {gs : List Nat} {TV : List Value} {ms : List (List Int)} (h : RS w base R hv (.slice (some ⟨bt, 0, none⟩) n ct) held gs TV ms) (k : Nat) (hk : k < ms.length) (m' : List Int) (v' : Value)
    (hH : HsT w1 (gs.getD k 0) m') (hV : Own w1 base v' m') (ho : ∀ (q : Nat) (x : Array Value) (t : TypeId), w.heap[q]? = some (.cells x t (0, 0)) → q ≠ gs.getD k 0 → (TV.getD k undef).ownBlock ≠ some q → w1.heap[q]? = w.heap[q]?) (hd : ∀ q, v'.ownBlock = some q → (TV.getD k undef).ownBlock = some q ∨ w.heap.size ≤ q) :
    RS (w1.setCell ⟨bt, k, none⟩ v') base R hv (.slice (some ⟨bt, 0, none⟩) n ct) held gs (TV.set k v') (ms.set k m') ∧ w1.cell? ⟨bt, k, none⟩ = some (TV.getD k undef) ∧ w1.frozen? ⟨bt, k, none⟩ = false := by
  have hgk := (h.hs k hk).1.1
  have hne : ∀ {q : Nat} {x : Array Value} {t : TypeId}, w.heap[q]? = some (.cells x t (0, 0)) → t ≠ 55 → t ≠ 5 → w1.heap[q]? = w.heap[q]? := fun {q x t} hx t1 t2 => ho q x t hx (fun e => ne_of_type hx hgk t1 e) (fun e => by obtain ⟨_, _, y, hy⟩ := (h.tx k hk).heap5 q e; exact ne_of_type hx hy t2 rfl)
  have ot1 : OwnE 26 w1 base (.slice (some ⟨bt, 0, none⟩) n ct) TV := h.ot.of fun q x hx => hne hx (by decide) (by decide)
  obtain ⟨bt', ct', e1, q1, q2, ⟨xs, hxs⟩, q4⟩ := ot1.pos (by rw [h.lt]; omega)
  simp only [Value.slice.injEq, Option.some.injEq, Addr.mk.injEq] at e1
  obtain ⟨⟨rfl, _⟩, _⟩ := e1
  have sc : ∀ {q : Nat} {x : Array Value} {t : TypeId}, w1.heap[q]? = some (.cells x t (0, 0)) → t ≠ 26 → (w1.setCell ⟨bt, k, none⟩ v').heap[q]? = w1.heap[q]? := fun {q x t} hx ht => heap_setCell_other _ _ _ _ (fun e => ne_of_type hx hxs ht e)
  have rk1 : w1.heap[R]? = _ := (hne h.rk (by decide) (by decide)).trans h.rk
  refine ⟨⟨h.hb, (sc rk1 (by decide)).trans rk1, ?_, ot1.setc k (by rw [h.lt]; exact hk) bt rfl v', by rw [List.length_set]; exact h.lg, by rw [List.length_set, List.length_set]; exact h.lt, fun i hi => ?_, fun i hi => ?_, fun i j hij hj => ?_, fun i j hij hj => ?_⟩, q4 k (by rw [h.lt]; exact hk), frozen_of_row _ _ _ _ _ hxs⟩
  · exact (h.oh.of fun q x hx => hne hx (by decide) (by decide)).of fun q x hx => sc hx (by decide)
  · rw [List.length_set] at hi
    rw [gD_st _ _ _ _ _ hk]
    by_cases e : i = k
    · subst e
      rw [if_pos rfl]
      exact ⟨⟨(sc hH.1 (by decide)).trans hH.1, hH.2⟩, (h.hs i hk).2⟩
    · rw [if_neg e]
      have hx := (h.hs i hi).1.1
      have hg2 : gs.getD i 0 ≠ gs.getD k 0 := by
        rcases Nat.lt_or_gt_of_ne e with e | e
        · exact h.dg i k e hk
        · exact fun q => h.dg k i e hi q.symm
      have a1 := (ho _ _ 55 hx hg2 (fun e => by obtain ⟨_, _, y, hy⟩ := (h.tx k hk).heap5 _ e; exact ne_of_type hx hy (by decide) rfl)).trans hx
      exact ⟨⟨(sc a1 (by decide)).trans a1, (h.hs i hi).1.2⟩, (h.hs i hi).2⟩
  · rw [List.length_set] at hi
    rw [gD_st _ _ _ _ _ (by rw [h.lt]; exact hk), gD_st _ _ _ _ _ hk]
    by_cases e : i = k
    · rw [if_pos e, if_pos e]; exact hV.of5 fun q x hx => sc hx (by decide)
    · rw [if_neg e, if_neg e]
      have hdj : Dj (TV.getD i undef) (TV.getD k undef) := by
        rcases Nat.lt_or_gt_of_ne e with e | e
        · exact h.dt i k e hk
        · exact fun q a b => h.dt k i e hi q b a
      obtain ⟨p1, p2⟩ := h.tx i hi
      have a1 : Own w1 base (TV.getD i undef) (ms.getD i []) := by
        refine ⟨p1, ?_⟩
        rcases p2 with p | ⟨g, cap, cur, e3, hg, hh, r⟩
        · exact Or.inl p
        · exact Or.inr ⟨g, cap, cur, e3, hg, (ho g cur 5 hh (fun e => ne_of_type hh hgk (by decide) e) (fun e => hdj g (by rw [e3]; rfl) e)).trans hh, r⟩
      exact a1.of5 fun q x hx => sc hx (by decide)
  · rw [List.length_set] at hj; exact h.dg i j hij hj
  · rw [List.length_set] at hj
    rw [gD_st _ _ _ _ _ (by rw [h.lt]; exact hk), gD_st _ _ _ _ _ (by rw [h.lt]; exact hk)]
    have lft : ∀ i', i' < ms.length → i' ≠ k → Dj (TV.getD i' undef) v' := fun i' hi' e q q1 q2 => by
      rcases hd q q2 with h1 | h1
      · rcases Nat.lt_or_gt_of_ne e with e | e
        · exact h.dt i' k e hk q q1 h1
        · exact h.dt k i' e hi' q h1 q1
      · have := ((h.tx i' hi').heap5 q q1).2.1; omega
    by_cases e1 : i = k
    · subst e1
      rw [if_pos rfl, if_neg (by omega)]
      exact fun q a b => lft j hj (by omega) q b a
    · rw [if_neg e1]
      by_cases e2 : j = k
      · subst e2; rw [if_pos rfl]; exact lft i (by omega) e1
      · rw [if_neg e2]; exact h.dt i j hij hj
theorem upd_post {w w6 : World} {base R B n k : Nat} {hv tv v : Value} {held : Int} {gs : List Nat} {TV : List Value} {ms : List (List Int)} {m' : List Int} (h : RS w6 base R hv tv held gs (TV.set k v) (ms.set k m')) (hB : Below base w w6) (hln : ms.length = n) (hp : 0 < n) (hn : n ≤ 1000) (h0 : 0 ≤ held) (hh : held ≤ 4000000) (hk : k < n) (hb : ∀ i, i < n → (ms.getD i []).length ≤ B) (hm : m'.length ≤ B) : PlayPost w base R B (.returned (.bool true)) w6 :=
  ⟨rfl, _, _, held, _, _, _, h, hB, by rw [List.length_set]; omega, by rw [List.length_set]; omega, h0, hh, fun i hi => by
    rw [List.length_set] at hi
    rw [gD_st _ _ _ _ _ (by omega)]
    by_cases e : i = k
    · rw [if_pos e]; exact hm
    · rw [if_neg e]; exact hb i (by omega)⟩
set_option maxRecDepth 100000 in
set_option maxHeartbeats 4000000 in
theorem plays_reset (w : World) (base R : Nat) (hv tv : Value) (held : Int) (gs : List Nat) (TV : List Value) (ms : List (List Int)) (h : RS w base R hv tv held gs TV ms) (hG : Glob w) (hR : GlobR w) (hb4 : 4 ≤ base) (hp : 0 < ms.length) (hn : ms.length ≤ 1000) (hh0 : 0 ≤ held) (hh : held ≤ 4000000) (B : Nat) (hB : ∀ i, i < ms.length → (ms.getD i []).length ≤ B) (hB2 : B ≤ 100000000)
    (kind H : Int) (ps : Option Addr) (zs : List Int) (pc : Nat) (hk : kind = 5) (H1 : -9223372036854775808 ≤ H) (H2 : H ≤ 9223372036854775807) :
    Calls Tryd.prog 20 #[.pointer (some ⟨R, 0, none⟩), .agg #[.int .i64 kind, .int .i64 H, .slice ps zs.length pc]] w (PlayPost w base R B) := by
  subst hk
  have hbw : base ≤ w.heap.size := Nat.le_trans h.hb (Nat.le_of_lt (hlt h.rk))
  obtain ⟨bh, ch, bt, ct, rfl, rfl, hP⟩ := Pl.mk' h hp hbw 5 H ps zs.length pc
  have hG0 := hG.below ((Below.refl w.heap.size w).alloc (Nat.le_refl _) (.cells #[.int .i64 5, .int .i64 H, .slice ps zs.length pc] 47)) hG.1
  have hR0 := hR.below ((Below.refl w.heap.size w).alloc (Nat.le_refl _) (.cells #[.int .i64 5, .int .i64 H, .slice ps zs.length pc] 47)) hG.1
  obtain ⟨r0, r1, r2, s0, s1, s2⟩ := hP.r0
  have KP := hid (place_any _ R (some ⟨bh, 0, none⟩) ms.length ch _ held H hp hn hP.rs.rk H1 H2)
  have HSl := hid (hlt hP.bx)
  have HRl := hid (hlt hP.rs.rk)
  have HAT := hid hP.at
  have HP := hid hP
  have iN : (ms.length : Int) ≤ 1000 := by omega
  have iN0 : (0 : Int) < (ms.length : Int) := by omega
  have HNP := hid hp
  have HNL := hid hn
  have HHB := hid hB
  clear h hG hR hbw hP hp hn hB
  go_enter Tryd.func20, Tryd.ntmps20
  go_wp2_with fail
  refine KP.out.mono ?_
  rintro e w0 ⟨k, hkn, rfl, hw0⟩
  rw [← hw0] at HP HAT HSl HRl r0 r1 r2 s0 s1 s2 hG0 hR0
  clear KP hw0
  generalize hSS : w.heap.size = S at *
  clear hSS
  obtain ⟨p0, hbh, hbt, tk, tc, etk, tnil, tsrc, tk0⟩ := HAT.out k hkn
  have HBt := hid hbt
  have HKN := hid hkn
  have ik : (k : Int) < (ms.length : Int) := by omega
  unfold ptr at p0
  generalize hln : ms.length = n at *
  have HLN := hid hln
  clear hln hkn
  generalize htn : (ms.getD k []).length = tn at *
  have HTN := hid htn
  clear htn
  have itn : (tn : Int) ≤ 100000000 := by have a1 := HHB.out k HKN.out; have a2 := HTN.out; omega
  have HWA := hid (show IntKind.i64.wrap (held + (tn : Int)) = held + (tn : Int) from wrap_i64_id _ (by omega) (by omega))
  have hkm : k < ms.length := by rw [HLN.out]; exact HKN.out
  have HKM := hid hkm
  have hHk := (HP.out.rs.hs k hkm)
  clear hkm
  go_wp2
  refine wp_region_noPanic ?_
  refine wp_region_held_drew (S := fun w' => Below w0.heap.size w0 w') (by kernel_rfl) (Below.refl _ _).drew (fun hHeld => ?_)
  refine wpAnyH_take (i := 0) (oi := { dst := some 21, op := Op.fieldAddr 47 (Operand.tmp 3) 0, type := 0, pos := "law.go:150", after := #[], guard := none }) (v := .pointer (some ⟨S, 0, none⟩)) rfl (by kernel_rfl) (by kernel_rfl) (by kernel_rfl) (fun _ _ _ h => h) (Or.inl ⟨by rfl, by intro w hS; go_simp⟩) hHeld ?_
  try simp only [Act.put, List.setIfInBounds_toArray, List.set_cons_zero, List.set_cons_succ]
  refine wpAnyH_take (i := 1) (oi := { dst := some 22, op := Op.load 3 (Operand.tmp 21), type := 3, pos := "law.go:150", after := #[{ on := 0, ground := Ground.data }], guard := none }) (v := .int .i64 5) rfl (by kernel_rfl) (by kernel_rfl) (by kernel_rfl) (fun _ _ _ h => h) (Or.inl ⟨by rfl, by intro w hS; have hc := (hS.cell (p := ⟨S, 0, none⟩) HSl.out).trans s0; go_simp⟩) hHeld ?_
  try simp only [Act.put, List.setIfInBounds_toArray, List.set_cons_zero, List.set_cons_succ]
  refine wpAnyH_take (i := 2) (oi := { dst := some 23, op := Op.binOp BinOp.eql 3 (Operand.tmp 22) (Operand.const (Value.int IntKind.i64 1)) 3, type := 4, pos := "law.go:150", after := #[{ on := 1, ground := Ground.data }], guard := none }) (v := .bool false) rfl (by kernel_rfl) (by kernel_rfl) (by kernel_rfl) (fun _ _ _ h => h) (Or.inl ⟨by rfl, by intro w hS; go_simp⟩) hHeld ?_
  try simp only [Act.put, List.setIfInBounds_toArray, List.set_cons_zero, List.set_cons_succ]
  refine wpAnyH_take (i := 3) (oi := { dst := some 24, op := Op.move (Operand.tmp 23), type := 4, pos := "law.go:150", after := #[{ on := 2, ground := Ground.data }], guard := none }) (v := .bool false) rfl (by kernel_rfl) (by kernel_rfl) (by kernel_rfl) (fun _ _ _ h => h) (Or.inl ⟨by rfl, by intro w hS; go_simp⟩) hHeld ?_
  try simp only [Act.put, List.setIfInBounds_toArray, List.set_cons_zero, List.set_cons_succ]
  refine wpAnyH_take (i := 4) (oi := { dst := some 25, op := Op.fieldAddr 47 (Operand.tmp 3) 0, type := 0, pos := "law.go:150", after := #[{ on := 3, ground := Ground.guard }], guard := some (3, false) }) (v := .pointer (some ⟨S, 0, none⟩)) rfl (by kernel_rfl) (by kernel_rfl) (by kernel_rfl) (fun _ _ _ h => h) (Or.inl ⟨by rfl, by intro w hS; go_simp⟩) hHeld ?_
  try simp only [Act.put, List.setIfInBounds_toArray, List.set_cons_zero, List.set_cons_succ]
  refine wpAnyH_take (i := 5) (oi := { dst := some 26, op := Op.load 3 (Operand.tmp 25), type := 3, pos := "law.go:150", after := #[{ on := 4, ground := Ground.data }, { on := 3, ground := Ground.guard }], guard := some (3, false) }) (v := .int .i64 5) rfl (by kernel_rfl) (by kernel_rfl) (by kernel_rfl) (fun _ _ _ h => h) (Or.inl ⟨by rfl, by intro w hS; have hc := (hS.cell (p := ⟨S, 0, none⟩) HSl.out).trans s0; go_simp⟩) hHeld ?_
  try simp only [Act.put, List.setIfInBounds_toArray, List.set_cons_zero, List.set_cons_succ]
  refine wpAnyH_take (i := 6) (oi := { dst := some 27, op := Op.binOp BinOp.eql 3 (Operand.tmp 26) (Operand.const (Value.int IntKind.i64 4)) 3, type := 4, pos := "law.go:150", after := #[{ on := 5, ground := Ground.data }, { on := 3, ground := Ground.guard }], guard := some (3, false) }) (v := .bool false) rfl (by kernel_rfl) (by kernel_rfl) (by kernel_rfl) (fun _ _ _ h => h) (Or.inl ⟨by rfl, by intro w hS; go_simp⟩) hHeld ?_
  try simp only [Act.put, List.setIfInBounds_toArray, List.set_cons_zero, List.set_cons_succ]
  refine wpAnyH_take (i := 7) (oi := { dst := some 28, op := Op.pick (Operand.tmp 24) (Operand.const (Value.bool true)) (Operand.tmp 27), type := 4, pos := "law.go:150", after := #[{ on := 3, ground := Ground.data }, { on := 6, ground := Ground.data }], guard := none }) (v := .bool false) rfl (by kernel_rfl) (by kernel_rfl) (by kernel_rfl) (fun _ _ _ h => h) (Or.inl ⟨by rfl, by intro w hS; go_simp⟩) hHeld ?_
  try simp only [Act.put, List.setIfInBounds_toArray, List.set_cons_zero, List.set_cons_succ]
  refine wpAnyH_take (i := 8) (oi := { dst := some 29, op := Op.move (Operand.tmp 28), type := 4, pos := "law.go:150", after := #[{ on := 7, ground := Ground.data }, { on := 3, ground := Ground.chain }], guard := none }) (v := .bool false) rfl (by kernel_rfl) (by kernel_rfl) (by kernel_rfl) (fun _ _ _ h => h) (Or.inl ⟨by rfl, by intro w hS; go_simp⟩) hHeld ?_
  try simp only [Act.put, List.setIfInBounds_toArray, List.set_cons_zero, List.set_cons_succ]
  refine wpAnyH_take (i := 9) (oi := { dst := some 30, op := Op.move (Operand.tmp 0), type := 40, pos := "law.go:150", after := #[{ on := 8, ground := Ground.guard }], guard := some (8, true) }) (v := undef) rfl (by kernel_rfl) (by kernel_rfl) (by kernel_rfl) (fun _ _ _ h => h) (Or.inr ⟨by rfl, rfl⟩) hHeld ?_
  try simp only [Act.put, List.setIfInBounds_toArray, List.set_cons_zero, List.set_cons_succ]
  refine wpAnyH_take (i := 10) (oi := { dst := some 31, op := Op.nilCheck (Operand.tmp 30), type := 0, pos := "law.go:150", after := #[{ on := 9, ground := Ground.data }, { on := 8, ground := Ground.guard }], guard := some (8, true) }) (v := undef) rfl (by kernel_rfl) (by kernel_rfl) (by kernel_rfl) (fun _ _ _ h => h) (Or.inr ⟨by rfl, rfl⟩) hHeld ?_
  try simp only [Act.put, List.setIfInBounds_toArray, List.set_cons_zero, List.set_cons_succ]
  refine wpAnyH_take (i := 11) (oi := { dst := some 32, op := Op.fieldAddr 43 (Operand.tmp 31) 0, type := 0, pos := "law.go:150", after := #[{ on := 10, ground := Ground.data }, { on := 8, ground := Ground.guard }], guard := some (8, true) }) (v := undef) rfl (by kernel_rfl) (by kernel_rfl) (by kernel_rfl) (fun _ _ _ h => h) (Or.inr ⟨by rfl, rfl⟩) hHeld ?_
  try simp only [Act.put, List.setIfInBounds_toArray, List.set_cons_zero, List.set_cons_succ]
  refine wpAnyH_take (i := 12) (oi := { dst := some 33, op := Op.load 41 (Operand.tmp 32), type := 41, pos := "law.go:150", after := #[{ on := 11, ground := Ground.data }, { on := 8, ground := Ground.guard }], guard := some (8, true) }) (v := undef) rfl (by kernel_rfl) (by kernel_rfl) (by kernel_rfl) (fun _ _ _ h => h) (Or.inr ⟨by rfl, rfl⟩) hHeld ?_
  try simp only [Act.put, List.setIfInBounds_toArray, List.set_cons_zero, List.set_cons_succ]
  refine wpAnyH_take (i := 13) (oi := { dst := some 34, op := Op.call { callee := Callee.builtin Builtin.len, args := #[Operand.tmp 33], argTypes := #[41] }, type := 3, pos := "law.go:150", after := #[{ on := 12, ground := Ground.data }, { on := 8, ground := Ground.guard }], guard := some (8, true) }) (v := undef) rfl (by kernel_rfl) (by kernel_rfl) (by kernel_rfl) (fun _ _ _ h => h) (Or.inr ⟨by rfl, rfl⟩) hHeld ?_
  try simp only [Act.put, List.setIfInBounds_toArray, List.set_cons_zero, List.set_cons_succ]
  refine wpAnyH_take (i := 14) (oi := { dst := some 35, op := Op.binOp BinOp.geq 3 (Operand.tmp 34) (Operand.const (Value.int IntKind.i64 1000)) 3, type := 4, pos := "law.go:150", after := #[{ on := 13, ground := Ground.data }, { on := 8, ground := Ground.guard }], guard := some (8, true) }) (v := undef) rfl (by kernel_rfl) (by kernel_rfl) (by kernel_rfl) (fun _ _ _ h => h) (Or.inr ⟨by rfl, rfl⟩) hHeld ?_
  try simp only [Act.put, List.setIfInBounds_toArray, List.set_cons_zero, List.set_cons_succ]
  refine wpAnyH_take (i := 15) (oi := { dst := some 36, op := Op.move (Operand.tmp 35), type := 4, pos := "law.go:150", after := #[{ on := 14, ground := Ground.data }, { on := 8, ground := Ground.chain }, { on := 8, ground := Ground.guard }], guard := some (8, true) }) (v := undef) rfl (by kernel_rfl) (by kernel_rfl) (by kernel_rfl) (fun _ _ _ h => h) (Or.inr ⟨by rfl, rfl⟩) hHeld ?_
  try simp only [Act.put, List.setIfInBounds_toArray, List.set_cons_zero, List.set_cons_succ]
  refine wpAnyH_take (i := 16) (oi := { dst := some 37, op := Op.move (Operand.tmp 0), type := 40, pos := "law.go:150", after := #[{ on := 15, ground := Ground.guard }], guard := some (15, false) }) (v := undef) rfl (by kernel_rfl) (by kernel_rfl) (by kernel_rfl) (fun _ _ _ h => h) (Or.inr ⟨by rfl, rfl⟩) hHeld ?_
  try simp only [Act.put, List.setIfInBounds_toArray, List.set_cons_zero, List.set_cons_succ]
  refine wpAnyH_take (i := 20) (oi := { dst := some 41, op := Op.move (Operand.tmp 0), type := 40, pos := "law.go:150", after := #[{ on := 15, ground := Ground.guard }], guard := some (15, false) }) (v := undef) rfl (by kernel_rfl) (by kernel_rfl) (by kernel_rfl) (fun _ _ _ h => h) (Or.inr ⟨by rfl, rfl⟩) hHeld ?_
  try simp only [Act.put, List.setIfInBounds_toArray, List.set_cons_zero, List.set_cons_succ]
  refine wpAnyH_take (i := 24) (oi := { dst := some 45, op := Op.move (Operand.tmp 5), type := 3, pos := "law.go:150", after := #[{ on := 15, ground := Ground.guard }], guard := some (15, false) }) (v := undef) rfl (by kernel_rfl) (by kernel_rfl) (by kernel_rfl) (fun _ _ _ h => h) (Or.inr ⟨by rfl, rfl⟩) hHeld ?_
  try simp only [Act.put, List.setIfInBounds_toArray, List.set_cons_zero, List.set_cons_succ]
  refine wpAnyH_take (i := 17) (oi := { dst := some 38, op := Op.nilCheck (Operand.tmp 37), type := 0, pos := "law.go:150", after := #[{ on := 16, ground := Ground.data }, { on := 15, ground := Ground.guard }], guard := some (15, false) }) (v := undef) rfl (by kernel_rfl) (by kernel_rfl) (by kernel_rfl) (fun _ _ _ h => h) (Or.inr ⟨by rfl, rfl⟩) hHeld ?_
  try simp only [Act.put, List.setIfInBounds_toArray, List.set_cons_zero, List.set_cons_succ]
  refine wpAnyH_take (i := 21) (oi := { dst := some 42, op := Op.nilCheck (Operand.tmp 41), type := 0, pos := "law.go:150", after := #[{ on := 20, ground := Ground.data }, { on := 15, ground := Ground.guard }], guard := some (15, false) }) (v := undef) rfl (by kernel_rfl) (by kernel_rfl) (by kernel_rfl) (fun _ _ _ h => h) (Or.inr ⟨by rfl, rfl⟩) hHeld ?_
  try simp only [Act.put, List.setIfInBounds_toArray, List.set_cons_zero, List.set_cons_succ]
  refine wpAnyH_take (i := 18) (oi := { dst := some 39, op := Op.fieldAddr 43 (Operand.tmp 38) 2, type := 0, pos := "law.go:150", after := #[{ on := 17, ground := Ground.data }, { on := 15, ground := Ground.guard }], guard := some (15, false) }) (v := undef) rfl (by kernel_rfl) (by kernel_rfl) (by kernel_rfl) (fun _ _ _ h => h) (Or.inr ⟨by rfl, rfl⟩) hHeld ?_
  try simp only [Act.put, List.setIfInBounds_toArray, List.set_cons_zero, List.set_cons_succ]
  refine wpAnyH_take (i := 22) (oi := { dst := some 43, op := Op.fieldAddr 43 (Operand.tmp 42) 1, type := 0, pos := "law.go:150", after := #[{ on := 21, ground := Ground.data }, { on := 15, ground := Ground.guard }], guard := some (15, false) }) (v := undef) rfl (by kernel_rfl) (by kernel_rfl) (by kernel_rfl) (fun _ _ _ h => h) (Or.inr ⟨by rfl, rfl⟩) hHeld ?_
  try simp only [Act.put, List.setIfInBounds_toArray, List.set_cons_zero, List.set_cons_succ]
  refine wpAnyH_take (i := 19) (oi := { dst := some 40, op := Op.load 3 (Operand.tmp 39), type := 3, pos := "law.go:150", after := #[{ on := 18, ground := Ground.data }, { on := 15, ground := Ground.guard }], guard := some (15, false) }) (v := undef) rfl (by kernel_rfl) (by kernel_rfl) (by kernel_rfl) (fun _ _ _ h => h) (Or.inr ⟨by rfl, rfl⟩) hHeld ?_
  try simp only [Act.put, List.setIfInBounds_toArray, List.set_cons_zero, List.set_cons_succ]
  refine wpAnyH_take (i := 23) (oi := { dst := some 44, op := Op.load 28 (Operand.tmp 43), type := 28, pos := "law.go:150", after := #[{ on := 22, ground := Ground.data }, { on := 15, ground := Ground.guard }], guard := some (15, false) }) (v := undef) rfl (by kernel_rfl) (by kernel_rfl) (by kernel_rfl) (fun _ _ _ h => h) (Or.inr ⟨by rfl, rfl⟩) hHeld ?_
  try simp only [Act.put, List.setIfInBounds_toArray, List.set_cons_zero, List.set_cons_succ]
  refine wpAnyH_take (i := 25) (oi := { dst := some 46, op := Op.indexAddr 28 (Operand.tmp 44) (Operand.tmp 45), type := 0, pos := "law.go:150", after := #[{ on := 23, ground := Ground.data }, { on := 24, ground := Ground.data }, { on := 15, ground := Ground.guard }], guard := some (15, false) }) (v := undef) rfl (by kernel_rfl) (by kernel_rfl) (by kernel_rfl) (fun _ _ _ h => h) (Or.inr ⟨by rfl, rfl⟩) hHeld ?_
  try simp only [Act.put, List.setIfInBounds_toArray, List.set_cons_zero, List.set_cons_succ]
  refine wpAnyH_take (i := 26) (oi := { dst := some 47, op := Op.load 26 (Operand.tmp 46), type := 26, pos := "law.go:150", after := #[{ on := 25, ground := Ground.data }, { on := 15, ground := Ground.guard }], guard := some (15, false) }) (v := undef) rfl (by kernel_rfl) (by kernel_rfl) (by kernel_rfl) (fun _ _ _ h => h) (Or.inr ⟨by rfl, rfl⟩) hHeld ?_
  try simp only [Act.put, List.setIfInBounds_toArray, List.set_cons_zero, List.set_cons_succ]
  refine wpAnyH_take (i := 27) (oi := { dst := some 48, op := Op.call { callee := Callee.builtin Builtin.len, args := #[Operand.tmp 47], argTypes := #[26] }, type := 3, pos := "law.go:150", after := #[{ on := 26, ground := Ground.data }, { on := 15, ground := Ground.guard }], guard := some (15, false) }) (v := undef) rfl (by kernel_rfl) (by kernel_rfl) (by kernel_rfl) (fun _ _ _ h => h) (Or.inr ⟨by rfl, rfl⟩) hHeld ?_
  try simp only [Act.put, List.setIfInBounds_toArray, List.set_cons_zero, List.set_cons_succ]
  refine wpAnyH_take (i := 28) (oi := { dst := some 49, op := Op.binOp BinOp.add 3 (Operand.tmp 40) (Operand.tmp 48) 3, type := 3, pos := "law.go:150", after := #[{ on := 19, ground := Ground.data }, { on := 27, ground := Ground.data }, { on := 15, ground := Ground.guard }], guard := some (15, false) }) (v := undef) rfl (by kernel_rfl) (by kernel_rfl) (by kernel_rfl) (fun _ _ _ h => h) (Or.inr ⟨by rfl, rfl⟩) hHeld ?_
  try simp only [Act.put, List.setIfInBounds_toArray, List.set_cons_zero, List.set_cons_succ]
  refine wpAnyH_take (i := 29) (oi := { dst := some 50, op := Op.binOp BinOp.gtr 3 (Operand.tmp 49) (Operand.const (Value.int IntKind.i64 4000000)) 3, type := 4, pos := "law.go:150", after := #[{ on := 28, ground := Ground.data }, { on := 15, ground := Ground.guard }], guard := some (15, false) }) (v := undef) rfl (by kernel_rfl) (by kernel_rfl) (by kernel_rfl) (fun _ _ _ h => h) (Or.inr ⟨by rfl, rfl⟩) hHeld ?_
  try simp only [Act.put, List.setIfInBounds_toArray, List.set_cons_zero, List.set_cons_succ]
  refine wpAnyH_take (i := 30) (oi := { dst := some 51, op := Op.pick (Operand.tmp 36) (Operand.const (Value.bool true)) (Operand.tmp 50), type := 4, pos := "law.go:150", after := #[{ on := 15, ground := Ground.data }, { on := 29, ground := Ground.data }, { on := 8, ground := Ground.guard }], guard := some (8, true) }) (v := undef) rfl (by kernel_rfl) (by kernel_rfl) (by kernel_rfl) (fun _ _ _ h => h) (Or.inr ⟨by rfl, rfl⟩) hHeld ?_
  try simp only [Act.put, List.setIfInBounds_toArray, List.set_cons_zero, List.set_cons_succ]
  refine wpAnyH_take (i := 31) (oi := { dst := some 52, op := Op.pick (Operand.tmp 29) (Operand.tmp 51) (Operand.const (Value.bool false)), type := 4, pos := "law.go:150", after := #[{ on := 8, ground := Ground.data }, { on := 30, ground := Ground.data }], guard := none }) (v := .bool false) rfl (by kernel_rfl) (by kernel_rfl) (by kernel_rfl) (fun _ _ _ h => h) (Or.inl ⟨by rfl, by intro w hS; go_simp⟩) hHeld ?_
  try simp only [Act.put, List.setIfInBounds_toArray, List.set_cons_zero, List.set_cons_succ]
  refine wpAnyH_done (by kernel_rfl) ?_ _
  refine NoPanic.normal ?_
  have hf := hHeld
  clear hHeld
  have hbs : base ≤ w0.heap.size := Nat.le_trans HP.out.rs.hb (Nat.le_of_lt (hlt HP.out.rs.rk))
  have KX := hid (resetT_any _ (gs.getD k 0) (ms.getD k []) (hHk.1.below hf (hlt hHk.1.1)) (hG0.below hf hG0.1))
  have hgb := hHk.2
  have rs1 := HP.out.rs.below hf
  have hbW : Below base w _ := HP.out.bel.trans (hf.mono hbs)
  have HRS := hid rs1
  have HBW := hid hbW
  have HGB := hid hgb
  have HB1 := hid (Nat.le_trans hbs hf.size)
  clear hHk rs1 hbW hgb p0 hbs
  skip
  go_wp2_with fail
  refine KX.out.mono ?_
  rintro e w5 ⟨rfl, hT5, hK5⟩
  clear KX
  obtain ⟨hU, cU, fU⟩ := HRS.out.upd k HKM.out [] (.slice none 0 0) hT5 (Own.nil _ _) (fun q x t hx q1 _ => hK5.block q (hlt hx) q1) (fun q hq => by simp [Value.ownBlock] at hq)
  have rk5 := hK5.heap HRS.out.rk (fun e => ne_of_type HRS.out.rk (HRS.out.hs k HKM.out).1.1 (by decide) e)
  have c1 : w5.cell? ⟨R, 1, none⟩ = some (.slice (some ⟨bt, 0, none⟩) n ct) := by rw [cell_of_row _ _ _ _ _ _ rk5]; rfl
  rw [etk] at cU
  have HU := hid hU
  have HB5 : Below base w (w5.setCell ⟨bt, k, none⟩ (.slice none 0 0)) := (HBW.out.trans (hK5.below_g HGB.out HB1.out)).setCell (show base ≤ bt from (HRS.out.ot.heap bt rfl).1) _
  replace HB5 := hid HB5
  have HN := hid HNP.out
  clear hU rk5 hT5 hK5 tk0 s0 s1 s2 r0 r1 r2
  go_wp2
  go_ret
  exact upd_post HU.out HB5.out HLN.out HNP.out HNL.out hh0 hh HKN.out HHB.out (by simp)
end Go.Proofs.YtpmjijadjblkeaaDoor
