import Derived.Test.YtihkjfbhmlfonaaYa4
import Derived.Test.YtihkjfbhmlfonaaSa2
namespace Go.Proofs.Ytihkjfbhmlfonaa
set_option linter.unusedVariables false
set_option linter.unusedSimpArgs false
open Go.RowKit
open Go.Proofs.Ytihkjfbhmlfonaa.Ca (Ct ct0 ctC argV AS)
attribute [local go_sem ↓] Go.wp_at_zero Go.wp_at_succ

/-! A store in memory. -/
structure Sto where
  p : Nat
  g : Nat
  st : Nat
  pc : Nat
  F : List Nat
  FC : List Nat
  lb : List Nat
  D : DS
  s : Sup
  nx : Nat
  ep : Int
  N : Nat
  a : AS Int Ct
  sv : Value
  cts : List Ct
  vs : List (Int × List Int)
def stC (g pc : Nat) (sv : Value) : List Value := [.pointer (some ⟨g, 0, none⟩), .func (.func 42) #[.pointer (some ⟨g, 0, none⟩)] #[], .pointer (some ⟨pc, 0, none⟩), sv]
/-- What a content holds. -/
structure CtIs (w : World) (base : Nat) (lb : List Nat) (c : Ct) (v : Int × List Int) : Prop where
  kd : c.kd = v.1
  ow : Own w base (.slice c.sp c.n c.c) v.2
  bl : ∀ k, (Value.slice c.sp c.n c.c).ownBlock = some k → k ∈ lb
  kk : 1 ≤ v.1 ∧ v.1 ≤ 3
  le : v.2.length ≤ 246
  by8 : Byts v.2
theorem CtIs.to {w w1 : World} {base : Nat} {lb lb1 : List Nat} {c : Ct} {v : Int × List Int} (h : CtIs w base lb c v) (hl : ∀ k ∈ lb, k ∈ lb1) (hk : ∀ k ∈ lb, w1.heap[k]? = w.heap[k]?) : CtIs w1 base lb1 c v :=
  ⟨h.kd, h.ow.of_heap fun k e => hk k (h.bl k e), fun k e => hl k (h.bl k e), h.kk, h.le, h.by8⟩
def heldL : Int → List Ct → List (Int × Ct)
  | _, [] => []
  | n, c :: r => (n, c) :: heldL (n + 1) r
theorem heldL_snoc : ∀ (l : List Ct) (n : Int) (c : Ct), heldL n (l ++ [c]) = heldL n l ++ [(n + l.length, c)]
  | [], n, c => by simp [heldL]
  | x :: l, n, c => by
    simp only [List.cons_append, heldL, heldL_snoc l (n + 1) c, List.length_cons]
    rw [show n + 1 + (l.length : Int) = n + ((l.length + 1 : Nat) : Int) by push_cast; omega]
theorem heldL_at : ∀ (l : List Ct) (n : Int) (j : Nat) (h : j < l.length), Ca.findL (heldL n l) (n + j) = some (l.getD j ct0)
  | [], n, j, h => by simp at h
  | x :: l, n, 0, h => by simp [heldL, Ca.findL]
  | x :: l, n, j + 1, h => by
    have e := heldL_at l (n + 1) j (by simpa using h)
    have hne : ¬ (n = n + ((j + 1 : Nat) : Int)) := by push_cast; omega
    simp only [heldL, Ca.findL, List.find?_cons, decide_eq_true_eq, hne, decide_false, List.getD_cons_succ]
    rw [show n + ((j + 1 : Nat) : Int) = n + 1 + (j : Int) by push_cast; omega]
    exact e
theorem heldL_no : ∀ (l : List Ct) (n k : Int), (k < n ∨ n + l.length ≤ k) → Ca.findL (heldL n l) k = none
  | [], n, k, h => rfl
  | x :: l, n, k, h => by
    have hne : ¬ (n = k) := by simp at h; omega
    have e := heldL_no l (n + 1) k (by simp at h; omega)
    simp only [heldL, Ca.findL, List.find?_cons, hne, decide_false]
    exact e
structure SK (w : World) (base : Nat) (S : Sto) : Prop where
  da : DA w base S.F S.p S.D
  fk : FK w S.g S.p S.s S.nx S.ep
  ca : Ca.CA w base S.FC S.pc S.N S.a
  sk : w.heap[S.st]? = some (.cells (stC S.g S.pc S.sv).toArray 79 (0, 0))
  so : w.ownsRow base 81 2 S.sv S.cts.length (S.cts.flatMap ctC)
  lb : ∀ k ∈ S.lb, base ≤ k ∧ ∃ cs, w.heap[k]? = some (.cells cs 5 (0, 0))
  cl : S.cts.length = S.vs.length
  cv : ∀ j, j < S.cts.length → CtIs w base S.lb (S.cts.getD j ct0) (S.vs.getD j (0, []))
  ck : ∀ x ∈ S.a.clean, ∃ v, CtIs w base S.lb x.2 v ∧ 2 ≤ x.1 ∧ x.1 < S.s.ma ∧ unpackF x.1 (S.D.readOf x.1.toNat) = (v.1, v.2, 0)
  hd : S.a.held = heldL S.s.ma S.cts
  a1 : Apart S.F S.FC
  a2 : Apart S.F S.lb
  a3 : Apart S.FC S.lb
  bg : base ≤ S.g
  bs : base ≤ S.st
  bp : base ≤ S.pc
theorem SK.lt_g {w : World} {base : Nat} {S : Sto} (h : SK w base S) : S.g < w.heap.size := hlt_ h.fk
theorem SK.lt_st {w : World} {base : Nat} {S : Sto} (h : SK w base S) : S.st < w.heap.size := hlt_ h.sk
theorem SK.base {w : World} {base : Nat} {S : Sto} (h : SK w base S) : base ≤ w.heap.size := by have := h.lt_g; have := h.bg; omega
theorem SK.sv_ty {w : World} {base : Nat} {S : Sto} (h : SK w base S) {k : Nat} (e : S.sv.ownBlock = some k) : base ≤ k ∧ ∃ cs, w.heap[k]? = some (.cells cs 81 (0, 0)) := by
  obtain ⟨h1, cur, h2⟩ := ownsRow_block h.so k e; exact ⟨h1, cur, h2⟩
/-- Blocks that are all as they were: all stays. -/
theorem SK.of_heap {w w1 : World} {base : Nat} {S : Sto} (h : SK w base S) (hk : ∀ k, k = S.g ∨ k = S.st ∨ k ∈ S.F ∨ k ∈ S.FC ∨ S.sv.ownBlock = some k ∨ k ∈ S.lb → w1.heap[k]? = w.heap[k]?) (hs : w.heap.size ≤ w1.heap.size) : SK w1 base S := by
  have hl : ∀ k ∈ S.lb, w1.heap[k]? = w.heap[k]? := fun k q => hk k (by simp [q])
  refine ⟨h.da.of_heap fun k q => hk k (by simp [q]), (hk S.g (by simp)).trans h.fk, ?_, (hk S.st (by simp)).trans h.sk, ownsRow_heap h.so fun k e => hk k (by simp [e]), fun k q => ⟨(h.lb k q).1, ?_⟩, h.cl, fun j hj => (h.cv j hj).to (fun k q => q) hl, fun x hx => ?_, h.hd, h.a1, h.a2, h.a3, h.bg, h.bs, h.bp⟩
  · obtain ⟨m, n, s, L, e, c, r⟩ := h.ca
    exact ⟨m, n, s, L, e, c.of_heap fun i hi => hk i (by rw [e]; simp [hi]), r⟩
  · obtain ⟨cs, hc⟩ := (h.lb k q).2
    exact ⟨cs, (hl k q).trans hc⟩
  · obtain ⟨v, h1, h2⟩ := h.ck x hx
    exact ⟨v, h1.to (fun k q => q) hl, h2⟩
theorem SK.in_lt {w : World} {base : Nat} {S : Sto} (h : SK w base S) {k : Nat} (hk : k = S.g ∨ k = S.st ∨ k ∈ S.F ∨ k ∈ S.FC ∨ S.sv.ownBlock = some k ∨ k ∈ S.lb) : base ≤ k ∧ k < w.heap.size := by
  rcases hk with e | e | e | e | e | e
  · rw [e]; exact ⟨h.bg, h.lt_g⟩
  · rw [e]; exact ⟨h.bs, h.lt_st⟩
  · exact h.da.lt k e
  · exact h.ca.lt k e
  · obtain ⟨h1, cs, h2⟩ := h.sv_ty e; exact ⟨h1, hlt_ h2⟩
  · obtain ⟨h1, cs, h2⟩ := h.lb k e; exact ⟨h1, hlt_ h2⟩
theorem SK.below {w w1 : World} {base : Nat} {S : Sto} (h : SK w base S) (hb : Below w.heap.size w w1) : SK w1 base S := h.of_heap (fun k hk => hb.block k (h.in_lt hk).2) hb.size
theorem SK.drew {w : World} {base : Nat} {S : Sto} (h : SK w base S) : SK w.drew base S := h.below (Below.refl _ _).drew
theorem SK.c0 {w : World} {base : Nat} {S : Sto} (h : SK w base S) : w.cell? ⟨S.st, 0, none⟩ = some (.pointer (some ⟨S.g, 0, none⟩)) := by rw [cell_of_row _ _ _ _ _ _ h.sk]; rfl
theorem SK.c1 {w : World} {base : Nat} {S : Sto} (h : SK w base S) : w.cell? ⟨S.st, 1, none⟩ = some (.func (.func 42) #[.pointer (some ⟨S.g, 0, none⟩)] #[]) := by rw [cell_of_row _ _ _ _ _ _ h.sk]; rfl
theorem SK.c2 {w : World} {base : Nat} {S : Sto} (h : SK w base S) : w.cell? ⟨S.st, 2, none⟩ = some (.pointer (some ⟨S.pc, 0, none⟩)) := by rw [cell_of_row _ _ _ _ _ _ h.sk]; rfl
theorem SK.c3 {w : World} {base : Nat} {S : Sto} (h : SK w base S) : w.cell? ⟨S.st, 3, none⟩ = some S.sv := by rw [cell_of_row _ _ _ _ _ _ h.sk]; rfl
theorem SK.fz {w : World} {base : Nat} {S : Sto} (h : SK w base S) (j : Nat) : w.frozen? ⟨S.st, j, none⟩ = false := frozen_of_row _ _ _ _ _ h.sk
theorem SK.svf {w : World} {base : Nat} {S : Sto} (h : SK w base S) : ∃ sp cap, S.sv = .slice sp S.cts.length cap := ownsRow_form h.so
theorem wpList_fieldS2 {ops : Array Oper} {rest : List Oper} {o : Oper} {a : Act} {w : World} {Q : Exit → Act → World → Prop} (hg : o.guard = none) (x : Operand) (ho : o.op = .field 56 x 2) (s2 : Sup) (y : Int) (hy : s2.ma = y) (hx : a.eval x = .agg (supC s2))
    (h : wpList Try.prog ops Q rest (a.put o.dst (.int .i64 y)) w) : wpList Try.prog ops Q (o :: rest) a w := by
  refine wpList_plain hg fun K hK => ?_
  unfold Oper.wp
  have e : (execOp a.eval o).run Try.prog w = .ok (.value (.int .i64 y)) w := by
    subst hy
    unfold execOp
    simp only [ho, hx]
    kernel_rfl
  rw [e]
  exact hK _ _ h
theorem wpList_fieldS1 {ops : Array Oper} {rest : List Oper} {o : Oper} {a : Act} {w : World} {Q : Exit → Act → World → Prop} (hg : o.guard = none) (x : Operand) (ho : o.op = .field 56 x 1) (s2 : Sup) (y : Int) (hy : s2.ge = y) (hx : a.eval x = .agg (supC s2))
    (h : wpList Try.prog ops Q rest (a.put o.dst (.int .i64 y)) w) : wpList Try.prog ops Q (o :: rest) a w := by
  refine wpList_plain hg fun K hK => ?_
  unfold Oper.wp
  have e : (execOp a.eval o).run Try.prog w = .ok (.value (.int .i64 y)) w := by
    subst hy
    unfold execOp
    simp only [ho, hx]
    kernel_rfl
  rw [e]
  exact hK _ _ h
set_option maxRecDepth 100000 in
set_option maxHeartbeats 400000 in
theorem oLive_any (w : World) (base : Nat) (S : Sto) (h : SK w base S) :
    Calls Try.prog 28 #[.pointer (some ⟨S.st, 0, none⟩)] w fun e w' => e = .returned (.int .i64 (liveF S.D S.ep)) ∧ Below w.heap.size w w' := by
  have HL := hid (Live_any w base S.F S.p S.D h.da S.g S.s S.nx S.ep h.fk)
  have c0 := h.c0
  clear h
  go_enter Try.func28, Try.ntmps28
  go_wp2_with fail
  refine HL.out.mono ?_
  rintro e w1 ⟨rfl, hb⟩
  go_wp2
  go_ret
  exact ⟨rfl, hb⟩
set_option maxRecDepth 100000 in
set_option maxHeartbeats 400000 in
theorem omark_any (w : World) (base : Nat) (S : Sto) (h : SK w base S) :
    Calls Try.prog 29 #[.pointer (some ⟨S.st, 0, none⟩)] w fun e w' => e = .returned (.int .i64 S.s.ma) ∧ Below w.heap.size w w' := by
  have HL := hid (FSuper_any w S.g S.p S.s S.nx S.ep h.fk)
  have c0 := h.c0
  clear h
  go_enter Try.func29, Try.ntmps29
  go_wp2_with fail
  refine HL.out.mono ?_
  rintro e w1 ⟨rfl, hb⟩
  go_wp2_with (first | refine wpList_fieldS2 rfl _ rfl S.s S.s.ma rfl rfl ?_)
  go_ret
  exact ⟨rfl, hb⟩
set_option maxRecDepth 100000 in
set_option maxHeartbeats 400000 in
theorem oStaged_any (w : World) (base : Nat) (S : Sto) (h : SK w base S) (hl : S.cts.length ≤ 100000) :
    Calls Try.prog 10 #[.pointer (some ⟨S.st, 0, none⟩)] w fun e w' => e = .returned (.int .i64 S.cts.length) ∧ w = w' := by
  have c3 := h.c3
  obtain ⟨sp, cap, e⟩ := h.svf
  rw [e] at c3
  have i0 : (S.cts.length : Int) ≤ 100000 := by omega
  clear h e
  generalize S.cts.length = n at *
  go_enter Try.func10, Try.ntmps10
  go_wp2
  go_ret
  exact ⟨rfl, rfl⟩
set_option maxRecDepth 100000 in
set_option maxHeartbeats 400000 in
theorem oPages_any (w : World) (base : Nat) (S : Sto) (h : SK w base S) :
    Calls Try.prog 21 #[.pointer (some ⟨S.st, 0, none⟩)] w fun e w' => e = .returned (.int .i64 S.D.np) ∧ w = w' := by
  have HL := hid (Pages_any w base S.F S.p S.D h.da)
  have c0 := h.c0
  have g0 := h.fk.c0
  clear h
  go_enter Try.func21, Try.ntmps21
  go_wp2_with fail
  refine HL.out.mono ?_
  rintro e w1 ⟨rfl, rfl⟩
  go_wp2
  go_ret
  exact ⟨rfl, rfl⟩
end Go.Proofs.Ytihkjfbhmlfonaa
namespace Go.Proofs.Ytihkjfbhmlfonaa
set_option linter.unusedVariables false
set_option linter.unusedSimpArgs false
open Go.RowKit
open Go.Proofs.Ytihkjfbhmlfonaa.Ca (Ct ct0 ctC argV AS)
attribute [local go_sem ↓] Go.wp_at_zero Go.wp_at_succ

set_option maxRecDepth 100000 in
set_option maxHeartbeats 1000000 in
theorem oNext_any (w : World) (base : Nat) (S : Sto) (h : SK w base S) (hl : S.cts.length ≤ 100000) (hm : 0 ≤ S.s.ma ∧ S.s.ma ≤ 100000) :
    Calls Try.prog 12 #[.pointer (some ⟨S.st, 0, none⟩)] w fun e w' => e = .returned (.int .i64 (S.s.ma + S.cts.length)) ∧ Below w.heap.size w w' := by
  have HM := hid (fun w1 (q : Below w.heap.size w w1) => omark_any w1 base S (h.below q))
  have c3 := h.c3
  have hst := h.lt_st
  obtain ⟨sp, cap, e⟩ := h.svf
  rw [e] at c3
  clear h e
  generalize S.cts.length = n at *
  generalize S.s.ma = ma at *
  generalize S.st = st at *
  obtain ⟨m0, m1⟩ := hm
  have i0 : (n : Int) ≤ 100000 := by omega
  go_enter Try.func12, Try.ntmps12
  go_wp2
  refine wp_region_noPanic ?_
  refine wp_region_held_drew (S := fun w' => Below w.heap.size w w') (by kernel_rfl) (Below.refl _ _).drew (fun hHeld => ?_)
  refine wpAnyH_take (i := 0) (oi := { dst := some 3, op := Op.move (Operand.tmp 0), type := 27, pos := "store.go:52", after := #[], guard := none }) (v := .pointer (some ⟨st, 0, none⟩)) rfl (by kernel_rfl) (by kernel_rfl) (by kernel_rfl) (fun _ _ _ h => h) (Or.inl ⟨by rfl, by intro w hS; go_simp⟩) hHeld ?_
  try simp only [Act.put, List.setIfInBounds_toArray, List.set_cons_zero, List.set_cons_succ]
  refine wpAnyH_take (i := 2) (oi := { dst := some 5, op := Op.move (Operand.tmp 0), type := 27, pos := "store.go:52", after := #[], guard := none }) (v := .pointer (some ⟨st, 0, none⟩)) rfl (by kernel_rfl) (by kernel_rfl) (by kernel_rfl) (fun _ _ _ h => h) (Or.inl ⟨by rfl, by intro w hS; go_simp⟩) hHeld ?_
  try simp only [Act.put, List.setIfInBounds_toArray, List.set_cons_zero, List.set_cons_succ]
  refine wpAnyH_take (i := 3) (oi := { dst := some 6, op := Op.nilCheck (Operand.tmp 5), type := 0, pos := "store.go:52", after := #[{ on := 2, ground := Ground.data }], guard := none }) (v := .pointer (some ⟨st, 0, none⟩)) rfl (by kernel_rfl) (by kernel_rfl) (by kernel_rfl) (fun _ _ _ h => h) (Or.inl ⟨by rfl, by intro w hS; go_simp⟩) hHeld ?_
  try simp only [Act.put, List.setIfInBounds_toArray, List.set_cons_zero, List.set_cons_succ]
  refine wpAnyH_take (i := 4) (oi := { dst := some 7, op := Op.fieldAddr 79 (Operand.tmp 6) 3, type := 0, pos := "store.go:52", after := #[{ on := 3, ground := Ground.data }], guard := none }) (v := .pointer (some ⟨st, 3, none⟩)) rfl (by kernel_rfl) (by kernel_rfl) (by kernel_rfl) (fun _ _ _ h => h) (Or.inl ⟨by rfl, by intro w hS; go_simp⟩) hHeld ?_
  try simp only [Act.put, List.setIfInBounds_toArray, List.set_cons_zero, List.set_cons_succ]
  refine wpAnyH_take (i := 5) (oi := { dst := some 8, op := Op.load 77 (Operand.tmp 7), type := 77, pos := "store.go:52", after := #[{ on := 4, ground := Ground.data }], guard := none }) (v := .slice sp n cap) rfl (by kernel_rfl) (by kernel_rfl) (by kernel_rfl) (fun _ _ _ h => h) (Or.inl ⟨by rfl, by intro w hS; have hc := (hS.cell (p := ⟨st, 3, none⟩) hst).trans c3; go_simp⟩) hHeld ?_
  try simp only [Act.put, List.setIfInBounds_toArray, List.set_cons_zero, List.set_cons_succ]
  refine wpAnyH_take (i := 6) (oi := { dst := some 9, op := Op.call { callee := Callee.builtin Builtin.len, args := #[Operand.tmp 8], argTypes := #[77] }, type := 3, pos := "store.go:52", after := #[{ on := 5, ground := Ground.data }], guard := none }) (v := .int .i64 n) rfl (by kernel_rfl) (by kernel_rfl) (by kernel_rfl) (fun _ _ _ h => h) (Or.inl ⟨by rfl, by intro w hS; go_simp⟩) hHeld ?_
  try simp only [Act.put, List.setIfInBounds_toArray, List.set_cons_zero, List.set_cons_succ]
  refine wpAnyH_ready (rs := [1]) (by kernel_rfl) (by simp) ?_
  refine (AllReadyH.cons (o := { dst := some 4, op := Op.call { callee := Callee.value (Operand.func 29), args := #[Operand.tmp 3], argTypes := #[27] }, type := 3, pos := "store.go:52", after := #[{ on := 0, ground := Ground.data }], guard := none }) rfl (fun K hK => ?_) AllReadyH.nil)
  go_simp
  go_at_call 29
  refine (HM.out _ hHeld).mono ?_
  rintro e w4 ⟨rfl, hb4⟩
  go_wp2_with fail
  refine hK.out _ _ (hHeld.trans (hb4.mono hHeld.size)) (fun hHeld2 => ?_)
  clear hK K hHeld
  have hHeld := hHeld2
  clear hHeld2
  clear hb4
  try simp only [Act.put, List.setIfInBounds_toArray, List.set_cons_zero, List.set_cons_succ]
  refine wpAnyH_take (i := 7) (oi := { dst := some 10, op := Op.binOp BinOp.add 3 (Operand.tmp 4) (Operand.tmp 9) 3, type := 3, pos := "store.go:52", after := #[{ on := 1, ground := Ground.data }, { on := 6, ground := Ground.data }], guard := none }) (v := .int .i64 (ma + n)) rfl (by kernel_rfl) (by kernel_rfl) (by kernel_rfl) (fun _ _ _ h => h) (Or.inl ⟨by rfl, by intro w hS; (go_simp; all_goals exact wrap_i64_id _ (by omega) (by omega))⟩) hHeld ?_
  try simp only [Act.put, List.setIfInBounds_toArray, List.set_cons_zero, List.set_cons_succ]
  refine wpAnyH_take (i := 8) (oi := { dst := some 2, op := Op.assign (Operand.tmp 10), type := 3, pos := "store.go:52", after := #[{ on := 7, ground := Ground.data }, { on := 1, ground := Ground.chain }, { on := 0, ground := Ground.phase }, { on := 1, ground := Ground.phase }, { on := 2, ground := Ground.phase }, { on := 3, ground := Ground.phase }, { on := 4, ground := Ground.phase }, { on := 5, ground := Ground.phase }, { on := 6, ground := Ground.phase }, { on := 7, ground := Ground.phase }], guard := none }) (v := .int .i64 (ma + n)) rfl (by kernel_rfl) (by kernel_rfl) (by kernel_rfl) (fun _ _ _ h => h) (Or.inl ⟨by rfl, by intro w hS; go_simp⟩) hHeld ?_
  try simp only [Act.put, List.setIfInBounds_toArray, List.set_cons_zero, List.set_cons_succ]
  refine wpAnyH_done (by kernel_rfl) ?_ _
  refine NoPanic.normal ?_
  go_wp2
  go_ret
  exact ⟨rfl, hHeld⟩
set_option maxRecDepth 100000 in
set_option maxHeartbeats 1000000 in
theorem ohas_any (w : World) (base : Nat) (S : Sto) (h : SK w base S) (hl : S.cts.length ≤ 100000) (hm : 0 ≤ S.s.ma ∧ S.s.ma ≤ 100000) (q : Int) :
    Calls Try.prog 46 #[.pointer (some ⟨S.st, 0, none⟩), .int .i64 q] w fun e w' => e = .returned (.bool (decide (2 ≤ q ∧ q < S.s.ma + S.cts.length))) ∧ Below w.heap.size w w' := by
  have HN := hid (oNext_any w base S h hl hm)
  clear h
  by_cases h1 : 2 ≤ q
  · by_cases h2 : q < S.s.ma + S.cts.length
    · rw [decide_eq_true ⟨h1, h2⟩]
      generalize S.s.ma + (S.cts.length : Int) = t at *
      go_enter Try.func46, Try.ntmps46
      go_wp2_with fail
      refine HN.out.mono ?_
      rintro e w1 ⟨rfl, hb⟩
      go_wp2
      go_ret
      exact ⟨congrArg (fun b => Ending.returned (Value.bool b)) (by first | rfl | simp [h2] | (simp; omega)), hb⟩
    · rw [decide_eq_false (fun x => h2 x.2)]
      generalize S.s.ma + (S.cts.length : Int) = t at *
      go_enter Try.func46, Try.ntmps46
      go_wp2_with fail
      refine HN.out.mono ?_
      rintro e w1 ⟨rfl, hb⟩
      go_wp2
      go_ret
      exact ⟨congrArg (fun b => Ending.returned (Value.bool b)) (by first | rfl | simp [h2] | (simp; omega)), hb⟩
  · rw [decide_eq_false (fun x => h1 x.1)]
    clear HN
    go_enter Try.func46, Try.ntmps46
    go_wp2
    go_ret
    exact ⟨congrArg (fun b => Ending.returned (Value.bool b)) (by first | rfl | simp [h1] | (simp; omega)), Below.refl _ _⟩
theorem allocSu (a : Act) (o : Oper) (w : World) (ho : o.op = .alloc 56) : (execOp a.eval o).run Try.prog w = .ok (.value (.pointer (some ⟨w.heap.size, 0, none⟩))) (w.alloc (.cells (supC sup0) 56)) := by
  unfold execOp
  rw [ho]
  kernel_rfl
set_option maxRecDepth 100000 in
set_option maxHeartbeats 400000 in
theorem copied_any (w : World) (zs : List Int) (sp : Option Addr) (cap : Nat) (hS : Src w sp cap zs) (hn : sp = none → cap = 0) (hl : zs.length ≤ 1000) :
    Calls Try.prog 44 #[.slice sp zs.length cap] w fun e w' => ∃ v, e = .returned v ∧ Own w' w.heap.size v zs ∧ Below w.heap.size w w' := by
  have hE := Own.nil w w.heap.size
  have i0 : (zs.length : Int) ≤ 1000 := by omega
  go_enter Try.func44, Try.ntmps44
  go_wp2_with (first | (at_builtin; refine wpList_append_wide rfl (.const (.slice none 0 0)) (.tmp 3) rfl w.heap.size _ [] zs rfl hE sp cap rfl hn hS (by simp; omega) (Nat.le_refl _) ?_; intro v2 w2 hO2 hg2 hd2))
  go_ret
  exact ⟨_, rfl, hO2, grown_keeps hg2 (fun k hk => by cases hk) (Nat.le_refl _)⟩
end Go.Proofs.Ytihkjfbhmlfonaa
namespace Go.Proofs.Ytihkjfbhmlfonaa
set_option linter.unusedVariables false
set_option linter.unusedSimpArgs false
open Go.RowKit
open Go.Proofs.Ytihkjfbhmlfonaa.Ca (Ct ct0 ctC argV AS)
attribute [local go_sem ↓] Go.wp_at_zero Go.wp_at_succ

set_option maxRecDepth 100000 in
set_option maxHeartbeats 400000 in
theorem oSuper_any (w : World) (base : Nat) (S : Sto) (h : SK w base S) :
    Calls Try.prog 13 #[.pointer (some ⟨S.st, 0, none⟩)] w fun e w' => e = .returned (.agg (supC S.s)) ∧ Below w.heap.size w w' := by
  have b0 := below_new w (.cells (supC sup0) 56)
  have r0 := hnew w (.cells (supC sup0) 56)
  have HL := hid (FSuper_any _ S.g S.p S.s S.nx S.ep (h.below b0).fk)
  have c0 : (w.alloc (.cells #[.int .i64 0, .int .i64 0, .int .i64 0, .int .i64 0, .int .i64 0] 56)).cell? ⟨S.st, 0, none⟩ = some (.pointer (some ⟨S.g, 0, none⟩)) := (h.below b0).c0
  have hz := b0.size
  clear h
  generalize S.s = s at *
  go_enter Try.func13, Try.ntmps13
  go_wp2_with fail
  refine HL.out.mono ?_
  rintro e w1 ⟨rfl, hb⟩
  have r1 := (hb.block w.heap.size (by simp)).trans r0
  have b1 := b0.trans (hb.mono hz)
  clear hb b0 r0 HL c0
  go_wp2_with (first
    | (refine wpList_store_row (by rfl) 56 (.tmp 2) (.tmp 7) (by rfl) w.heap.size (supC s) (by rfl) (by rfl) 56 (supC sup0) (by exact r1) (supN _) (supS _ _) (supO _) ?_))
  exact bodyPost_ret (v := .agg (supC s)) (results_cell_row Try.results13 _ _ w.heap.size 56 _ _ _ rfl (setRow_heap _ _ _ _ _ _ r1) Try.underlying56 rfl (by rw [size_super]; rfl)) rfl ⟨rfl, below_setRow b1 (Nat.le_refl _) _⟩
theorem Ca.CA.base_le {w : World} {base b2 : Nat} {F : List Nat} {p N : Nat} {a : AS Int Ct} (h : Ca.CA w base F p N a) (hb : b2 ≤ base) : Ca.CA w b2 F p N a := by
  obtain ⟨m, n, s, L, e, c, r⟩ := h
  exact ⟨m, n, s, L, e, ⟨c.cell, c.ents, c.mp, c.kwf, Nat.le_trans hb c.bp, Nat.le_trans hb c.bm, fun b q => Nat.le_trans hb (c.bb b q)⟩, r⟩
theorem build_store (g pc : Nat) (w : World) : (Instr.build 79 #[(0, .pointer (some ⟨g, 0, none⟩)), (1, .func (.func 42) #[.pointer (some ⟨g, 0, none⟩)] #[]), (2, .pointer (some ⟨pc, 0, none⟩))]).run Try.prog w = .ok (.agg #[.pointer (some ⟨g, 0, none⟩), .func (.func 42) #[.pointer (some ⟨g, 0, none⟩)] #[], .pointer (some ⟨pc, 0, none⟩), .slice none 0 0]) w := by kernel_rfl
set_option maxRecDepth 100000 in
set_option maxHeartbeats 1000000 in
theorem oNew_any (w : World) (base : Nat) (F : List Nat) (p : Nat) (D : DS) (h : DA w base F p D) (g : Nat) (s : Sup) (nx ep : Int) (hf : FK w g p s nx ep) (hbg : base ≤ g) (hlv : liveF D ep = 0) (room : Int) (hr : 0 ≤ room ∧ room ≤ 4096) (m : Nat) (hm : s.ma = m) :
    Calls Try.prog 17 #[.pointer (some ⟨g, 0, none⟩), .int .i64 room] w fun e w' => ∃ st pc FC, e = .returned (.tuple #[.pointer (some ⟨st, 0, none⟩), .int .i64 0]) ∧ SK w' base ⟨p, g, st, pc, F, FC, [], D, s, m, ep, 0, Ca.newA room, .slice none 0 0, [], []⟩ ∧ w.heap.size ≤ st ∧ (∀ k ∈ FC, w.heap.size ≤ k) ∧ Fr (g :: F) w w' := by
  have HL := hid (Live_any w base F p D h g s nx ep hf)
  rw [hlv] at HL
  have HFO := hid (fun (w1 : World) (hb : Below w.heap.size w w1) => Forget_any w1 base F p D (h.below hb) g s nx ep (hf.below hb))
  have HW := hid (hlt_ hf)
  obtain ⟨r0, r1⟩ := hr
  have HHR := hid (show 0 ≤ room ∧ room ≤ 4096 from ⟨r0, r1⟩)
  have hbd := build_store g
  clear h hf hlv
  go_enter Try.func17, Try.ntmps17
  go_wp2_with fail
  refine HL.out.mono ?_
  rintro e w1 ⟨rfl, hb1⟩
  have HB1 := hid hb1
  clear hb1 HL
  go_wp2_with (first | (go_at_call 41; refine (HFO.out w1 HB1.out).mono ?_; rintro e w2 ⟨rfl, hD2, hF2, hf2⟩; have HD2 := hid hD2; have HF2 := hid hF2; have Hf2 := hid hf2; clear hD2 hF2 hf2))
  refine (Ca.New_any w2 room).mono ?_
  rintro e w3 ⟨rfl, hc3, hb3⟩
  have HC3 := hid hc3
  have HB3 := hid hb3
  clear hc3 hb3
  go_wp2
  go_ret2
  have hw2 : base ≤ w2.heap.size := Nat.le_trans hbg (Nat.le_of_lt (Nat.lt_of_lt_of_le HW.out (Nat.le_trans HB1.out.size Hf2.out.size)))
  have hw12 : w.heap.size ≤ w2.heap.size := Nat.le_trans HB1.out.size Hf2.out.size
  have hw3 := HB3.out.size
  have hb4 := HB3.out.alloc hw3 (.cells #[.pointer (some ⟨g, 0, none⟩), .func (.func 42) #[.pointer (some ⟨g, 0, none⟩)] #[], .pointer (some ⟨w2.heap.size + 1, 0, none⟩), .slice none 0 0] 79)
  refine ⟨w3.heap.size, w2.heap.size + 1, [w2.heap.size + 1, w2.heap.size], rfl, ⟨HD2.out.below hb4, ?_, (HC3.out.below (below_new w3 _)).base_le hw2, hnew w3 _, ownsRow_none _ _ _ _, fun k hk => absurd hk (by simp), rfl, fun j hj => absurd hj (by simp), fun x hx => absurd hx (by simp [Ca.newA]), rfl, ?_, fun k _ q => absurd q (by simp), fun k _ q => absurd q (by simp), hbg, Nat.le_trans hw2 hw3, by show base ≤ w2.heap.size + 1; omega⟩, Nat.le_trans hw12 hw3, ?_, ?_⟩
  · show FK _ g p s (m : Int) ep
    rw [← hm]
    exact HF2.out.below hb4
  · intro k hk q
    have := (HD2.out.lt k hk).2
    simp at q
    omega
  · intro k hk
    simp at hk
    omega
  · exact ((Fr.of_below (F := g :: F) HB1.out).trans Hf2.out (Gr.refl _ _)).tail (F' := g :: F) hb4
end Go.Proofs.Ytihkjfbhmlfonaa
namespace Go.Proofs.Ytihkjfbhmlfonaa
set_option linter.unusedVariables false
set_option linter.unusedSimpArgs false
open Go.RowKit
open Go.Proofs.Ytihkjfbhmlfonaa.Ca (Ct ct0 ctC argV AS)
attribute [local go_sem ↓] Go.wp_at_zero Go.wp_at_succ

def Sto.fp (S : Sto) : List Nat := S.g :: S.st :: (S.F ++ (S.FC ++ (S.lb ++ S.sv.ownBlock.toList)))
theorem Sto.mem (S : Sto) (k : Nat) : k ∈ S.fp ↔ (k = S.g ∨ k = S.st ∨ k ∈ S.F ∨ k ∈ S.FC ∨ k ∈ S.lb ∨ S.sv.ownBlock = some k) := by
  simp only [Sto.fp, List.mem_cons, List.mem_append, Option.mem_toList]
theorem build_content (k : Int) (sp : Option Addr) (n c : Nat) (w : World) : (Instr.build 81 #[(0, .int .i64 k), (1, .slice sp n c)]).run Try.prog w = .ok (.agg #[.int .i64 k, .slice sp n c]) w := by kernel_rfl
theorem infoCm : (Try.prog.info? 81).map (fun i => (i.zero.map fun z => z.cells.size, i.size, i.bytes)) = some (some 2, 2, 32) := by kernel_rfl
theorem infoC : ∃ i z, Try.prog.info? 81 = some i ∧ i.zero = some z ∧ z.cells.size = 2 ∧ i.size = 2 ∧ i.bytes = 32 := by
  have h := infoCm
  cases hq : Try.prog.info? 81 with
  | none => rw [hq] at h; cases h
  | some i =>
    rw [hq] at h
    simp only [Option.map_some, Option.some.injEq, Prod.mk.injEq] at h
    obtain ⟨h1, h2, h3⟩ := h
    cases hz : i.zero with
    | none => rw [hz] at h1; cases h1
    | some z =>
      rw [hz] at h1
      exact ⟨i, z, rfl, hz, by simpa using h1, h2, h3⟩
theorem slice_c (ks : List Value) (hk : ks.length = 2) (w : World) :
    (Instr.buildSlice 77 1 #[(0, .agg ks.toArray)]).run Try.prog w = .ok (.slice (some ⟨w.heap.size, 0, none⟩) 1 1) (w.alloc (.cells ks.toArray 81)) := by
  obtain ⟨i, z, hi, hz, hzc, hs, hb⟩ := infoC
  exact run_buildSlice w 77 81 1 _ ks.toArray i z Try.underlying77 hi hz (by rw [hs]; decide) (by rw [hs]; decide) (by rw [hs]; exact fill_one 2 _ ks hk (by simp))
theorem step_sliceC {w : World} {ops : Array Oper} {o : Oper} {a : Act} {K : Act → World → Prop} {Q : Exit → Act → World → Prop} {E : Prop} (hw : Region.wanted o (yielded ops a.tmps) = true) (x : Operand) (ho : o.op = .buildSlice 77 1 #[(0, x)])
    (ks : List Value) (hk : ks.length = 2) (hx : a.eval x = .agg ks.toArray) (h : K (a.put o.dst (.slice (some ⟨w.heap.size, 0, none⟩) 1 1)) (w.alloc (.cells ks.toArray 81))) :
    if Region.wanted o (yielded ops a.tmps) = true then Oper.wp Try.prog o a w K Q else E := by
  rw [if_pos hw]
  unfold Oper.wp execOp
  simp only [ho, List.map_toArray, List.map_cons, List.map_nil, hx, Sem.run_bind, slice_c ks hk w, Result.andThen_ok, Sem.run_pure]
  exact h
theorem step_pushC {w : World} {ops : Array Oper} {o : Oper} {a : Act} {K : Act → World → Prop} {Q : Exit → Act → World → Prop} {E : Prop} (hgd : o.guard = none) (s x : Operand)
    (ho : o.op = .call { callee := .builtin .append, args := #[s, x], argTypes := #[77, 77] })
    (base : Nat) (v : Value) (n : Nat) (xs : List Value) (ks : List Value) (hs : a.eval s = v) (hown : w.ownsRow base 81 2 v n xs) (hx : a.eval x = .slice (some ⟨w.heap.size, 0, none⟩) 1 1) (hl : ks.length = 2) (h1 : ∀ y ∈ ks, y.oneCell' = true)
    (hlen : n + 1 ≤ 400000000001) (hbase : base ≤ w.heap.size) (t : TypeId) (fr : Nat × Nat)
    (h : ∀ v' w', w'.ownsRow base 81 2 v' (n + 1) (xs ++ ks) → (w.alloc (.cells ks.toArray t fr)).grownBy w' v.ownBlock → (v'.ownBlock = v.ownBlock ∨ v'.ownBlock = some (w.heap.size + 1)) → K (a.put o.dst v') w') :
    if Region.wanted o (yielded ops a.tmps) = true then Oper.wp Try.prog o a (w.alloc (.cells ks.toArray t fr)) K Q else E := by
  have hw : Region.wanted o (yielded ops a.tmps) = true := by simp [Region.wanted, hgd]
  rw [if_pos hw]
  obtain ⟨i5, z, hi5, hz5, hc5, hs5, hy5⟩ := infoC
  have hown' : (w.alloc (.cells ks.toArray t fr)).ownsRow base 81 2 v n xs := ownsRow_heap hown fun k hk => by
    obtain ⟨_, cur, hh⟩ := ownsRow_block hown k hk
    rw [hh]; exact hold hh
  obtain ⟨v', w', hr, q1, q2, _, q4⟩ := run_append_own_at (P := Try.prog) (w.alloc (.cells ks.toArray t fr)) base 77 o.type 81 i5 z 2 32 Try.underlying77 hi5 hz5 hs5 hy5 hc5 (by decide) v n _ hown' ⟨w.heap.size, 0, none⟩ 1 1 ks (by omega) (by
    intro j u hu
    rw [Addr.add_mid, Nat.zero_add, cell_of_row _ _ _ _ _ _ (hnew w _)]
    simpa using hu) h1 (by unfold maxLen; omega) (by omega) (by simp; omega)
  unfold Oper.wp execOp
  simp only [ho, resolve, invoke, builtin, Sem.run_bind, Sem.run_pure, Result.andThen_ok, List.map_toArray, List.map_cons, List.map_nil, hs, hx, hr]
  refine h v' w' q1 q2 ?_
  rcases q4 with e | e
  · exact Or.inl e
  · exact Or.inr (by rw [e]; simp)
theorem SK.sv_apart {w : World} {base : Nat} {S : Sto} (h : SK w base S) {k : Nat} (e : S.sv.ownBlock = some k) : k ≠ S.g ∧ k ≠ S.st ∧ k ∉ S.F ∧ k ∉ S.FC ∧ k ∉ S.lb := by
  obtain ⟨_, cs, hc⟩ := h.sv_ty e
  exact ⟨ne_ty hc h.fk (by decide), ne_ty hc h.sk (by decide), h.da.not_in hc (by decide) (by decide) (by decide), h.ca.not_in hc (by decide) (by decide), fun q => by
    obtain ⟨_, cs2, hc2⟩ := h.lb k q
    exact ne_ty hc hc2 (by decide) rfl⟩
theorem SK.st_apart {w : World} {base : Nat} {S : Sto} (h : SK w base S) : S.st ≠ S.g ∧ S.st ∉ S.F ∧ S.st ∉ S.FC ∧ S.st ∉ S.lb :=
  ⟨ne_ty h.sk h.fk (by decide), h.da.not_in h.sk (by decide) (by decide) (by decide), h.ca.not_in h.sk (by decide) (by decide), fun q => by
    obtain ⟨_, cs2, hc2⟩ := h.lb _ q
    exact ne_ty h.sk hc2 (by decide) rfl⟩
theorem SK.g_apart {w : World} {base : Nat} {S : Sto} (h : SK w base S) : S.g ∉ S.F ∧ S.g ∉ S.FC ∧ S.g ∉ S.lb :=
  ⟨h.fk.not h.da, h.ca.not_in h.fk (by decide) (by decide), fun q => by
    obtain ⟨_, cs2, hc2⟩ := h.lb _ q
    exact ne_ty h.fk hc2 (by decide) rfl⟩
theorem ctC_oneC (c : Ct) : ∀ y ∈ ctC c, y.oneCell' = true := by
  intro y hy
  simp only [ctC, List.mem_cons, List.mem_nil_iff, or_false] at hy
  rcases hy with rfl | rfl <;> rfl
theorem SK.grown {w3 w4 : World} {base : Nat} {S : Sto} (h : SK w3 base S) {o1 o2 : Obj} (hg : ((w3.alloc o1).drew.alloc o2).grownBy w4 S.sv.ownBlock) (v4 : Value) (k : Nat) (hk : k < w3.heap.size) (h1 : S.sv.ownBlock ≠ some k) (h2 : k ≠ S.st) :
    (w4.setCell ⟨S.st, 3, none⟩ v4).heap[k]? = w3.heap[k]? := by
  have s1 : (w3.alloc o1).heap.size = w3.heap.size + 1 := by simp
  have s2 : ((w3.alloc o1).drew.alloc o2).heap.size = w3.heap.size + 2 := by
    rw [show ((w3.alloc o1).drew.alloc o2).heap.size = (w3.alloc o1).heap.size + 1 by simp [World.drew], s1]
  rw [heap_setCell_other _ ⟨S.st, 3, none⟩ k v4 h2, hg.block k (by rw [s2]; omega) (fun e => h1 e.symm)]
  have e1 := (below_new (w3.alloc o1).drew o2).block k (by show k < (w3.alloc o1).heap.size; rw [s1]; omega)
  have e2 := (below_new w3 o1).block k hk
  exact e1.trans e2
/-- The store's memory, when one more content was appended and laid into its list. -/
theorem SK.staged0 {w3 w4 : World} {base : Nat} {S : Sto} (h : SK w3 base S) (c : Ct) {t2 : Obj} (hg : ((w3.alloc (.cells (ctC c).toArray 81)).drew.alloc t2).grownBy w4 S.sv.ownBlock) (v4 : Value) :
    Ca.CA (w4.setCell ⟨S.st, 3, none⟩ v4) base S.FC S.pc S.N S.a ∧ (w4.setCell ⟨S.st, 3, none⟩ v4).cell? ⟨S.st, 2, none⟩ = some (.pointer (some ⟨S.pc, 0, none⟩)) ∧ (w4.setCell ⟨S.st, 3, none⟩ v4).rangeAt w3.heap.size 0 (ctC c) ∧ (w4.setCell ⟨S.st, 3, none⟩ v4).heap[S.st]? = some (.cells (stC S.g S.pc v4).toArray 79 (0, 0)) ∧ w4.frozen? ⟨S.st, 3, none⟩ = false ∧ w4.cell? ⟨S.st, 3, none⟩ = some S.sv ∧ w3.heap.size < w4.heap.size := by
  have s1 : (w3.alloc (.cells (ctC c).toArray 81)).heap.size = w3.heap.size + 1 := by simp
  have s2 : ((w3.alloc (.cells (ctC c).toArray 81)).drew.alloc t2).heap.size = w3.heap.size + 2 := by
    rw [show ((w3.alloc (.cells (ctC c).toArray 81)).drew.alloc t2).heap.size = (w3.alloc (.cells (ctC c).toArray 81)).heap.size + 1 by simp [World.drew], s1]
  have hst := h.lt_st
  have e4 : w4.heap[S.st]? = some (.cells (stC S.g S.pc S.sv).toArray 79 (0, 0)) := by
    rw [hg.block S.st (by rw [s2]; omega) (fun e => (h.sv_apart e.symm).2.1 rfl)]
    exact ((below_new (w3.alloc (.cells (ctC c).toArray 81)).drew t2).block S.st (by show S.st < (w3.alloc (.cells (ctC c).toArray 81)).heap.size; rw [s1]; omega)).trans (((below_new w3 _).block S.st hst).trans h.sk)
  have e5 : (w4.setCell ⟨S.st, 3, none⟩ v4).heap[S.st]? = some (.cells (stC S.g S.pc v4).toArray 79 (0, 0)) := by
    rw [heap_setCell_same _ _ _ _ _ _ e4]; rfl
  refine ⟨?_, by rw [cell_of_row _ _ _ _ _ _ e5]; rfl, ?_, e5, frozen_of_row _ _ _ _ _ e4, by rw [cell_of_row _ _ _ _ _ _ e4]; rfl, by have := hg.size; omega⟩
  · obtain ⟨m, n, s, L, e, cc, r⟩ := h.ca
    refine ⟨m, n, s, L, e, cc.of_heap fun k hk => h.grown hg v4 k (h.ca.lt k (by rw [e]; exact hk)).2 (fun q => (h.sv_apart q).2.2.2.1 (by rw [e]; exact hk)) (fun q => h.st_apart.2.2.1 (by rw [← q, e]; exact hk)), r⟩
  · have eN : (w4.setCell ⟨S.st, 3, none⟩ v4).heap[w3.heap.size]? = some (.cells (ctC c).toArray 81 (0, 0)) := by
      rw [heap_setCell_other _ ⟨S.st, 3, none⟩ _ v4 (by show w3.heap.size ≠ S.st; omega), hg.block _ (by rw [s2]; omega) (fun e => by have := (h.in_lt (Or.inr (Or.inr (Or.inr (Or.inr (Or.inl e.symm)))))).2; omega)]
      exact ((below_new (w3.alloc (.cells (ctC c).toArray 81)).drew t2).block w3.heap.size (by show _ < (w3.alloc (.cells (ctC c).toArray 81)).heap.size; rw [s1]; omega)).trans (hnew w3 _)
    intro j v hv
    rw [cell_of_row _ _ _ _ _ _ eN]
    simpa using hv
theorem SK.staged {w2 w3 w4 w6 : World} {base : Nat} {S : Sto} (h : SK w2 base S) (hb : Below w2.heap.size w2 w3) (c : Ct) (zs : List Int) (hO : Own w3 w2.heap.size (.slice c.sp c.n c.c) zs) (hkd : 1 ≤ c.kd ∧ c.kd ≤ 3) (hz : zs.length ≤ 246) (h8 : Byts zs) {t2 : Obj} (v4 : Value)
    (hO4 : w4.ownsRow base 81 2 v4 (S.cts.length + 1) (S.cts.flatMap ctC ++ ctC c)) (hg : ((w3.alloc (.cells (ctC c).toArray 81)).drew.alloc t2).grownBy w4 S.sv.ownBlock) (hd : v4.ownBlock = S.sv.ownBlock ∨ v4.ownBlock = some (w3.heap.size + 2)) (F' : List Nat)
    (hC : Ca.CA w6 base F' S.pc (S.N + 1) { S.a with held := S.a.held ++ [(S.s.ma + S.cts.length, c)] }) (hF : Fr S.FC (w4.setCell ⟨S.st, 3, none⟩ v4) w6) (hG : Gr (w4.setCell ⟨S.st, 3, none⟩ v4) S.FC F') :
    SK w6 base { S with FC := F', lb := (Value.slice c.sp c.n c.c).ownBlock.toList ++ S.lb, N := S.N + 1, a := { S.a with held := S.a.held ++ [(S.s.ma + S.cts.length, c)] }, sv := v4, cts := S.cts ++ [c], vs := S.vs ++ [(c.kd, zs)] } ∧ Fr S.fp w2 w6 ∧ Gr w2 S.fp (Sto.fp { S with FC := F', lb := (Value.slice c.sp c.n c.c).ownBlock.toList ++ S.lb, sv := v4 }) := by
  have h3 := h.below hb
  obtain ⟨c1, c2, c3, c4, c5, c6, c7⟩ := h3.staged0 c hg v4
  have hs5 : (w4.setCell ⟨S.st, 3, none⟩ v4).heap.size = w4.heap.size := World.size_setCell _ _ _
  have hsz := hb.size
  have hkeep : ∀ k, k < w3.heap.size → S.sv.ownBlock ≠ some k → k ≠ S.st → k ∉ S.FC → w6.heap[k]? = w3.heap[k]? := fun k k1 k2 k3 k4 => by
    rw [hF.block k (by rw [hs5]; omega) k4]
    exact h3.grown hg v4 k k1 k2 k3
  have hnb : ∀ k, (Value.slice c.sp c.n c.c).ownBlock = some k → w2.heap.size ≤ k ∧ k < w3.heap.size ∧ ∃ cs, w3.heap[k]? = some (.cells cs 5 (0, 0)) := fun k e => by
    obtain ⟨q1, cur, q2⟩ := ownsRow_block hO k e
    exact ⟨q1, hlt_ q2, cur, q2⟩
  have hold2 : ∀ k, (k = S.g ∨ k = S.st ∨ k ∈ S.F ∨ k ∈ S.FC ∨ S.sv.ownBlock = some k ∨ k ∈ S.lb) → base ≤ k ∧ k < w2.heap.size := fun k q => h.in_lt q
  have hnk : ∀ k, (Value.slice c.sp c.n c.c).ownBlock = some k → w6.heap[k]? = w3.heap[k]? := fun k e => by
    obtain ⟨q1, q2, _⟩ := hnb k e
    exact hkeep k q2 (fun z => by have := (hold2 k (by simp [z])).2; omega) (fun z => by have := (hold2 k (by simp [z])).2; omega) (fun z => by have := (hold2 k (by simp [z])).2; omega)
  have hlbk : ∀ k ∈ S.lb, w6.heap[k]? = w3.heap[k]? := fun k e => by
    have q := (hold2 k (by simp [e])).2
    exact hkeep k (by omega) (fun z => (h3.sv_apart z).2.2.2.2 e) (fun z => h3.st_apart.2.2.2 (z ▸ e)) (fun z => h.a3 k z e)
  have hFk : ∀ k ∈ S.F, w6.heap[k]? = w3.heap[k]? := fun k e => by
    have q := (hold2 k (by simp [e])).2
    exact hkeep k (by omega) (fun z => (h3.sv_apart z).2.2.1 e) (fun z => h3.st_apart.2.1 (z ▸ e)) (fun z => h.a1 k e z)
  have hgk : w6.heap[S.g]? = w3.heap[S.g]? := by
    have q := h.lt_g
    exact hkeep S.g (by omega) (fun z => (h3.sv_apart z).1 rfl) (fun z => h3.st_apart.1 z.symm) h3.g_apart.2.1
  have hlbm : ∀ k ∈ S.lb, k ∈ (Value.slice c.sp c.n c.c).ownBlock.toList ++ S.lb := fun k q => List.mem_append_right _ q
  have hG' : ∀ k ∈ F', k ∈ S.FC ∨ w3.heap.size ≤ k := fun k q => (hG k q).imp id (fun z => by rw [hs5] at z; omega)
  have hv4 : ∀ k, v4.ownBlock = some k → S.sv.ownBlock = some k ∨ k = w3.heap.size + 2 := fun k e => by
    rcases hd with q | q
    · exact Or.inl (q ▸ e)
    · rw [q] at e; cases e; exact Or.inr rfl
  have hv4F : ∀ k, v4.ownBlock = some k → k ∉ S.FC ∧ k ≠ S.st := fun k e => by
    rcases hv4 k e with q | q
    · exact ⟨(h3.sv_apart q).2.2.2.1, (h3.sv_apart q).2.1⟩
    · exact ⟨fun z => by have := (hold2 k (by simp [z])).2; omega, fun z => by have := (hold2 k (by simp [z])).2; omega⟩
  refine ⟨⟨h3.da.of_heap hFk, hgk.trans h3.fk, hC, ?_, ?_, ?_, ?_, ?_, ?_, ?_, ?_, ?_, ?_, h.bg, h.bs, h.bp⟩, ?_, ?_⟩
  · exact (hF.block S.st (by rw [hs5]; have := h.lt_st; omega) h3.st_apart.2.2.1).trans c4
  · show w6.ownsRow base 81 2 v4 (S.cts ++ [c]).length ((S.cts ++ [c]).flatMap ctC)
    rw [List.length_append, List.flatMap_append]
    have := ownsRow_heap (w1 := w6) hO4 fun k e => by
      obtain ⟨_, cur, q⟩ := ownsRow_block hO4 k e
      rw [hF.block k (by rw [hs5]; exact hlt_ q) (hv4F k e).1]
      exact heap_setCell_other _ ⟨S.st, 3, none⟩ k v4 (hv4F k e).2
    simpa using this
  · intro k hk
    rcases List.mem_append.1 hk with q | q
    · rw [Option.mem_toList] at q
      obtain ⟨q1, q2, cs, q3⟩ := hnb k q
      exact ⟨by have := h.base; omega, cs, (hnk k q).trans q3⟩
    · obtain ⟨q1, cs, q2⟩ := h3.lb k q
      exact ⟨q1, cs, (hlbk k q).trans q2⟩
  · show (S.cts ++ [c]).length = (S.vs ++ [(c.kd, zs)]).length
    rw [List.length_append, List.length_append, h.cl]; rfl
  · intro j hj
    have hj' : j < S.cts.length + 1 := by simpa using hj
    show CtIs w6 base _ ((S.cts ++ [c]).getD j ct0) ((S.vs ++ [(c.kd, zs)]).getD j (0, []))
    by_cases q : j < S.cts.length
    · have e1 : (S.cts ++ [c]).getD j ct0 = S.cts.getD j ct0 := by rw [List.getD_eq_getElem?_getD, List.getElem?_append_left q, ← List.getD_eq_getElem?_getD]
      have e2 : (S.vs ++ [(c.kd, zs)]).getD j (0, []) = S.vs.getD j (0, []) := by rw [List.getD_eq_getElem?_getD, List.getElem?_append_left (by rw [← h.cl]; exact q), ← List.getD_eq_getElem?_getD]
      rw [e1, e2]
      exact (h3.cv j q).to hlbm hlbk
    · have hj2 : j = S.cts.length := by omega
      have e1 : (S.cts ++ [c]).getD j ct0 = c := by rw [hj2]; simp
      have e2 : (S.vs ++ [(c.kd, zs)]).getD j (0, []) = (c.kd, zs) := by rw [hj2, h.cl]; simp
      rw [e1, e2]
      exact ⟨rfl, (hO.of_heap hnk).base h.base, fun k e => List.mem_append_left _ (by rw [Option.mem_toList]; exact e), hkd, hz, h8⟩
  · intro x hx
    obtain ⟨v, q1, q2⟩ := h3.ck x hx
    exact ⟨v, q1.to hlbm hlbk, q2⟩
  · show S.a.held ++ [(S.s.ma + (S.cts.length : Int), c)] = heldL S.s.ma (S.cts ++ [c])
    rw [heldL_snoc, h.hd]
  · intro k hk q
    rcases hG' k q with z | z
    · exact h.a1 k hk z
    · have := (hold2 k (by simp [hk])).2; omega
  · intro k hk q
    rcases List.mem_append.1 q with z | z
    · rw [Option.mem_toList] at z
      have := (hold2 k (by simp [hk])).2
      have := (hnb k z).1; omega
    · exact h.a2 k hk z
  · intro k hk q
    rcases List.mem_append.1 q with z | z
    · rw [Option.mem_toList] at z
      obtain ⟨z1, z2, _⟩ := hnb k z
      rcases hG' k hk with y | y
      · have := (hold2 k (by simp [y])).2; omega
      · omega
    · rcases hG' k hk with y | y
      · exact h.a3 k y z
      · have := (hold2 k (by simp [z])).2; omega
  · have g1 := hg
    refine ⟨hF.os.trans (g1.os.trans hb.os), hF.tape.trans (g1.tape.trans hb.tape), hF.output.trans (g1.output.trans hb.output), by have := hF.size; rw [hs5] at this; omega, fun k hk hn => ?_⟩
    have hn' := fun z => hn ((S.mem k).2 z)
    rw [hkeep k (by omega) (fun z => hn' (by simp [z])) (fun z => hn' (by simp [z])) (fun z => hn' (by simp [z]))]
    exact hb.block k hk
  · intro k hk
    rcases (Sto.mem _ k).1 hk with q | q | q | q | q | q
    · exact Or.inl ((S.mem k).2 (Or.inl q))
    · exact Or.inl ((S.mem k).2 (Or.inr (Or.inl q)))
    · exact Or.inl ((S.mem k).2 (by simp at q; simp [q]))
    · rcases hG' k q with z | z
      · exact Or.inl ((S.mem k).2 (by simp [z]))
      · exact Or.inr (by omega)
    · rcases List.mem_append.1 q with z | z
      · rw [Option.mem_toList] at z
        exact Or.inr (hnb k z).1
      · exact Or.inl ((S.mem k).2 (by simp [z]))
    · rcases hv4 k q with z | z
      · exact Or.inl ((S.mem k).2 (by simp [z]))
      · exact Or.inr (by omega)
end Go.Proofs.Ytihkjfbhmlfonaa
namespace Go.Proofs.Ytihkjfbhmlfonaa
set_option linter.unusedVariables false
set_option linter.unusedSimpArgs false
open Go.RowKit
open Go.Proofs.Ytihkjfbhmlfonaa.Ca (Ct ct0 ctC argV AS)
attribute [local go_sem ↓] Go.wp_at_zero Go.wp_at_succ

theorem grown_refl (w : World) (r : Option Nat) : w.grownBy w r := ⟨rfl, rfl, rfl, Nat.le_refl _, fun _ _ _ => rfl⟩
theorem SK.rowN {w3 w4 : World} {base : Nat} {S : Sto} (h : SK w3 base S) (c : Ct) {t2 : Obj} (hg : ((w3.alloc (.cells (ctC c).toArray 81)).drew.alloc t2).grownBy w4 S.sv.ownBlock) : w4.rangeAt w3.heap.size 0 (ctC c) := by
  have s1 : (w3.alloc (.cells (ctC c).toArray 81)).heap.size = w3.heap.size + 1 := by simp
  have s2 : ((w3.alloc (.cells (ctC c).toArray 81)).drew.alloc t2).heap.size = w3.heap.size + 2 := by
    rw [show ((w3.alloc (.cells (ctC c).toArray 81)).drew.alloc t2).heap.size = (w3.alloc (.cells (ctC c).toArray 81)).heap.size + 1 by simp [World.drew], s1]
  have eN : w4.heap[w3.heap.size]? = some (.cells (ctC c).toArray 81 (0, 0)) := by
    rw [hg.block _ (by rw [s2]; omega) (fun e => by have := (h.in_lt (Or.inr (Or.inr (Or.inr (Or.inr (Or.inl e.symm)))))).2; omega)]
    exact ((below_new (w3.alloc (.cells (ctC c).toArray 81)).drew t2).block w3.heap.size (by show _ < (w3.alloc (.cells (ctC c).toArray 81)).heap.size; rw [s1]; omega)).trans (hnew w3 _)
  intro j v hv
  rw [cell_of_row _ _ _ _ _ _ eN]
  simpa using hv
theorem SK.fresh_key {w : World} {base : Nat} {S : Sto} (h : SK w base S) (k : Int) (hk : S.s.ma + S.cts.length ≤ k) : S.a.val k = none := by
  unfold Ca.AS.val
  rw [h.hd, heldL_no _ _ _ (Or.inr hk)]
  show Ca.findL S.a.clean k = none
  unfold Ca.findL
  rw [List.find?_eq_none.2]
  · rfl
  · intro x hx
    obtain ⟨v, _, _, q, _⟩ := h.ck x hx
    simp
    omega
theorem size_content : ∃ i, Try.prog.info? 81 = some i ∧ i.size = 2 := by
  obtain ⟨i, z, h1, _, _, h2, _⟩ := infoC
  exact ⟨i, h1, h2⟩
set_option maxRecDepth 100000 in
set_option maxHeartbeats 4000000 in
theorem oStage_any (w : World) (base : Nat) (S : Sto) (h : SK w base S) (hlv : liveF S.D S.ep = 0) (hl : S.cts.length ≤ 100000) (hm : 2 ≤ S.s.ma ∧ S.s.ma ≤ 100000) (hN : S.N < 3000000000000000000) (hnp : S.s.ma + S.cts.length ≠ (S.D.np : Int)) (kd : Int) (hk : 1 ≤ kd ∧ kd ≤ 3) (zs : List Int) (h8 : Byts zs) (hz : zs.length ≤ 246) (sp : Option Addr) (cap : Nat) (hS : Src w sp cap zs) (hn : sp = none → cap = 0) :
    Calls Try.prog 18 #[.pointer (some ⟨S.st, 0, none⟩), .int .i64 kd, .slice sp zs.length cap] w fun e w' => ∃ FC lb a sv c, e = .returned (.tuple #[.int .i64 (S.s.ma + S.cts.length), .int .i64 0]) ∧ a = { S.a with held := S.a.held ++ [(S.s.ma + S.cts.length, c)] } ∧ SK w' base { S with FC := FC, lb := lb, N := S.N + 1, a := a, sv := sv, cts := S.cts ++ [c], vs := S.vs ++ [(kd, zs)] } ∧ Fr S.fp w w' ∧ Gr w S.fp (Sto.fp { S with FC := FC, lb := lb, sv := sv }) := by
  have HL := hid (oLive_any w base S h)
  rw [hlv] at HL
  have HN := hid (fun w1 (q : Below w.heap.size w w1) => oNext_any w1 base S (h.below q) hl ⟨by omega, by omega⟩)
  have HP := hid (fun w1 (q : Below w.heap.size w w1) => oPages_any w1 base S (h.below q))
  have HC := hid (fun w1 (q : Below w.heap.size w w1) => copied_any w1 zs sp cap (hS.below q (Nat.le_refl _)) hn (by omega))
  have HH := hid (fun w1 (q : Below w.heap.size w w1) => h.below q)
  obtain ⟨svp, svc, esv⟩ := h.svf
  have HE := hid esv
  obtain ⟨k1, k3⟩ := hk
  have hzi : (zs.length : Int) ≤ 246 := by omega
  have hne : (S.s.ma + (S.cts.length : Int) == (S.D.np : Int)) = false := by simpa using hnp
  have Hk := hid (show 1 ≤ kd ∧ kd ≤ 3 from ⟨k1, k3⟩)
  have Hm := hid hm
  have HL1 := hid (show S.cts.length + 1 ≤ 400000000001 by omega)
  have Hl := hid hl
  have Hz := hid hz
  have H8 := hid h8
  have HNN := hid hN
  clear h hlv hS hm hl hz h8 hn hN hnp esv
  generalize hpg : S.s.ma + (S.cts.length : Int) = pg at *
  have HPG := hid hpg
  clear hpg
  have hbd := build_content kd
  go_enter Try.func18, Try.ntmps18
  go_wp2_with fail
  refine HL.out.mono ?_
  rintro e w1 ⟨rfl, hb1⟩
  have HB1 := hid hb1
  clear hb1 HL
  go_wp2_with fail
  refine (HN.out w1 HB1.out).mono ?_
  rintro e w2 ⟨rfl, hb2⟩
  have HB2 := hid (HB1.out.trans (hb2.mono HB1.out.size))
  clear hb2 HB1 w1 HN
  go_wp2_with fail
  refine (HP.out w2 HB2.out).mono ?_
  rintro e w0 ⟨rfl, rfl⟩
  go_wp2_with fail
  refine (HC.out w2 HB2.out).mono ?_
  rintro e w3 ⟨v, rfl, hO3, hb3⟩
  have HB23 := hid hb3
  have HB3 := hid (HB2.out.trans (hb3.mono HB2.out.size))
  have HO3 := hid hO3
  obtain ⟨spv, cv, hv, _, _⟩ := hO3.form
  subst hv
  clear hb3 hO3 HC HP
  go_wp2
  have H3 := hid (HH.out w3 HB3.out)
  have hst3 := H3.out.lt_st
  generalize hW : w3.alloc (.cells #[.int .i64 kd, .slice spv zs.length cv] 81) = W at *
  have hW' : w3.alloc (.cells (ctC ⟨kd, spv, zs.length, cv⟩).toArray 81) = W := hW
  have HW := hid hW'
  clear hW hW'
  have HB4 : Hid (Below w3.heap.size w3 W.drew) := hid (by rw [← HW.out]; exact (below_new w3 _).drew)
  have H4 := hid (H3.out.below HB4.out)
  have c3d0 : W.drew.cell? ⟨S.st, 3, none⟩ = some (.slice svp S.cts.length svc) := by rw [← HE.out]; exact H4.out.c3
  have HCS : Hid (∀ o : Obj, (W.alloc o).drew.cell? ⟨S.st, 3, none⟩ = some (.slice svp S.cts.length svc)) := hid (fun o => by rw [← HE.out]; exact (H4.out.below (below_new _ o)).c3)
  have HOW : Hid (W.drew.ownsRow base 81 2 (.slice svp S.cts.length svc) S.cts.length (S.cts.flatMap ctC)) := hid (by rw [← HE.out]; exact H4.out.so)
  have HBS : Hid (base ≤ W.drew.heap.size) := hid H4.out.base
  have HS0 : Hid (∀ (w4 : World) (t2 : Obj) (v4 : Value), (W.drew.alloc t2).grownBy w4 (Value.slice svp S.cts.length svc).ownBlock → Ca.CA (w4.setCell ⟨S.st, 3, none⟩ v4) base S.FC S.pc S.N S.a ∧ (w4.setCell ⟨S.st, 3, none⟩ v4).cell? ⟨S.st, 2, none⟩ = some (.pointer (some ⟨S.pc, 0, none⟩)) ∧ (w4.setCell ⟨S.st, 3, none⟩ v4).rangeAt w3.heap.size 0 (ctC ⟨kd, spv, zs.length, cv⟩) ∧ (w4.setCell ⟨S.st, 3, none⟩ v4).heap[S.st]? = some (.cells (stC S.g S.pc v4).toArray 79 (0, 0)) ∧ w4.frozen? ⟨S.st, 3, none⟩ = false ∧ w4.cell? ⟨S.st, 3, none⟩ = some (.slice svp S.cts.length svc) ∧ w3.heap.size < w4.heap.size) := hid (fun w4 t2 v4 hg => by
    rw [← HW.out, ← HE.out] at hg
    have := H3.out.staged0 ⟨kd, spv, zs.length, cv⟩ hg v4
    rw [HE.out] at this
    exact this)
  have HRB : Hid (∀ (w4 : World) (t2 : Obj), (W.drew.alloc t2).grownBy w4 (Value.slice svp S.cts.length svc).ownBlock → w4.rangeAt w3.heap.size 0 (ctC ⟨kd, spv, zs.length, cv⟩)) := hid (fun w4 t2 hg => by
    rw [← HW.out, ← HE.out] at hg
    exact H3.out.rowN ⟨kd, spv, zs.length, cv⟩ hg)
  have HRA : Hid (∀ t2 : Obj, (W.drew.alloc t2).rangeAt w3.heap.size 0 (ctC ⟨kd, spv, zs.length, cv⟩)) := hid (fun t2 => HRB.out _ t2 (grown_refl _ _))
  have HR0 : Hid (W.drew.rangeAt w3.heap.size 0 (ctC ⟨kd, spv, zs.length, cv⟩)) := hid (by
    have eN : W.drew.heap[w3.heap.size]? = some (.cells (ctC ⟨kd, spv, zs.length, cv⟩).toArray 81 (0, 0)) := by rw [← HW.out]; exact hnew w3 _
    intro j v hv
    rw [cell_of_row _ _ _ _ _ _ eN]
    simpa using hv)
  have HHD : Hid (∀ W5 : World, Ca.CA W5 base S.FC S.pc S.N S.a → Calls Try.prog 45 #[.pointer (some ⟨S.pc, 0, none⟩), .int .i64 pg, .agg (ctC ⟨kd, spv, zs.length, cv⟩).toArray] W5.drew fun x w' => x = .returned (.tuple #[]) ∧ Ca.Nx base S.FC S.pc S.N W5.drew (S.a.hold pg ⟨kd, spv, zs.length, cv⟩) w' ∧ S.a.hold pg ⟨kd, spv, zs.length, cv⟩ = { S.a with held := S.a.held ++ [(pg, ⟨kd, spv, zs.length, cv⟩)] }) := hid (fun W5 q => Ca.Hold_new W5.drew base S.FC S.pc S.N S.a (q.below (Below.refl _ _).drew) pg ⟨kd, spv, zs.length, cv⟩ (by have := Hm.out; have := Hl.out; have := HPG.out; unfold Ca.wfK; omega) HNN.out (H3.out.fresh_key pg (by rw [HPG.out]; exact Int.le_refl _)))
  have HKE : Hid (∀ (W5 : World) (v4 : Value), W5.heap[S.st]? = some (.cells (stC S.g S.pc v4).toArray 79 (0, 0)) → W5.cell? ⟨S.st, 2, none⟩ = some (.pointer (some ⟨S.pc, 0, none⟩)) → W5.rangeAt w3.heap.size 0 (ctC ⟨kd, spv, zs.length, cv⟩) → ∀ w6, Fr S.FC W5.drew w6 → w6.cell? ⟨S.st, 2, none⟩ = some (.pointer (some ⟨S.pc, 0, none⟩)) ∧ w6.rangeAt w3.heap.size 0 (ctC ⟨kd, spv, zs.length, cv⟩)) := hid (fun W5 v4 r4 c2 c3 w6 hF => by
    have e1 : w6.heap[S.st]? = W5.heap[S.st]? := hF.block S.st (hlt_ r4) H3.out.st_apart.2.2.1
    have l1 : w3.heap.size < W5.heap.size := World.block_lt_of_cell? W5 _ (c3 0 _ rfl)
    have e2 : w6.heap[w3.heap.size]? = W5.heap[w3.heap.size]? := hF.block _ l1 (fun q => by have := (H3.out.ca.lt _ q).2; omega)
    exact ⟨(World.cell?_of_block (a := ⟨S.st, 2, none⟩) e1).trans c2, fun j v hv => (World.cell?_of_block (a := ⟨w3.heap.size, 0 + j, none⟩) e2).trans (c3 j v hv)⟩)
  have HST : Hid (∀ (w4 : World) (t2 : Obj) (sp4 : Option Addr) (cap4 : Nat), w4.ownsRow base 81 2 (.slice sp4 (S.cts.length + 1) cap4) (S.cts.length + 1) (S.cts.flatMap ctC ++ ctC ⟨kd, spv, zs.length, cv⟩) → (W.drew.alloc t2).grownBy w4 (Value.slice svp S.cts.length svc).ownBlock → ((Value.slice sp4 (S.cts.length + 1) cap4).ownBlock = (Value.slice svp S.cts.length svc).ownBlock ∨ (Value.slice sp4 (S.cts.length + 1) cap4).ownBlock = some (W.drew.heap.size + 1)) → ∀ (w6 : World) (F6 : List Nat), Ca.CA w6 base F6 S.pc (S.N + 1) { S.a with held := S.a.held ++ [(pg, ⟨kd, spv, zs.length, cv⟩)] } → Fr S.FC (w4.setCell ⟨S.st, 3, none⟩ (.slice sp4 (S.cts.length + 1) cap4)).drew w6 → Gr (w4.setCell ⟨S.st, 3, none⟩ (.slice sp4 (S.cts.length + 1) cap4)).drew S.FC F6 → SK w6 base { S with FC := F6, lb := (Value.slice spv zs.length cv).ownBlock.toList ++ S.lb, N := S.N + 1, a := { S.a with held := S.a.held ++ [(pg, ⟨kd, spv, zs.length, cv⟩)] }, sv := .slice sp4 (S.cts.length + 1) cap4, cts := S.cts ++ [⟨kd, spv, zs.length, cv⟩], vs := S.vs ++ [(kd, zs)] } ∧ Fr S.fp w w6 ∧ Gr w S.fp (Sto.fp { S with FC := F6, lb := (Value.slice spv zs.length cv).ownBlock.toList ++ S.lb, sv := .slice sp4 (S.cts.length + 1) cap4 })) := hid (fun w4 t2 sp4 cap4 hO4 hg hd w6 F6 hC hF hG => by
    have hsz : W.drew.heap.size + 1 = w3.heap.size + 2 := by rw [← HW.out]; show (w3.alloc _).heap.size + 1 = _; simp
    rw [hsz] at hd
    rw [← HE.out] at hd hg
    rw [← HW.out] at hg
    rw [← HPG.out] at hC ⊢
    obtain ⟨z1, z2, z3⟩ := SK.staged (HH.out w2 HB2.out) HB23.out ⟨kd, spv, zs.length, cv⟩ zs HO3.out Hk.out Hz.out H8.out (.slice sp4 (S.cts.length + 1) cap4) hO4 hg hd F6 hC ⟨hF.os, hF.tape, hF.output, hF.size, hF.block⟩ hG
    exact ⟨z1, (Fr.of_below (F := S.fp) HB2.out).trans z2 (Gr.refl _ _), fun k hk => (z3 k hk).imp id (fun q => Nat.le_trans HB2.out.size q)⟩)
  have hio : (Try.prog.info? 81).map (·.size) = some (ctC ⟨kd, spv, zs.length, cv⟩).length := by
    obtain ⟨ic, hi1, hi2⟩ := size_content
    rw [hi1]; show some ic.size = _; rw [hi2]; rfl
  refine wp_region_noPanic ?_
  refine wp_region_held_drew (S := fun w' => w'.rangeAt w3.heap.size 0 (ctC ⟨kd, spv, zs.length, cv⟩) ∧ True) (by kernel_rfl) ⟨HR0.out, trivial⟩ (fun hHeld => ?_)
  refine wpAnyH_take (i := 0) (oi := { dst := some 35, op := Op.move (Operand.tmp 0), type := 27, pos := "store.go:105", after := #[], guard := none }) (v := .pointer (some ⟨S.st, 0, none⟩)) rfl (by kernel_rfl) (by kernel_rfl) (by kernel_rfl) (fun _ _ _ h => h) (Or.inl ⟨by rfl, by intro w hS; go_simp⟩) hHeld ?_
  try simp only [Act.put, List.setIfInBounds_toArray, List.set_cons_zero, List.set_cons_succ]
  refine wpAnyH_take (i := 1) (oi := { dst := some 36, op := Op.move (Operand.tmp 0), type := 27, pos := "store.go:105", after := #[], guard := none }) (v := .pointer (some ⟨S.st, 0, none⟩)) rfl (by kernel_rfl) (by kernel_rfl) (by kernel_rfl) (fun _ _ _ h => h) (Or.inl ⟨by rfl, by intro w hS; go_simp⟩) hHeld ?_
  try simp only [Act.put, List.setIfInBounds_toArray, List.set_cons_zero, List.set_cons_succ]
  refine wpAnyH_take (i := 5) (oi := { dst := some 40, op := Op.load 81 (Operand.tmp 10), type := 81, pos := "store.go:105", after := #[], guard := none }) (v := .agg (ctC ⟨kd, spv, zs.length, cv⟩).toArray) rfl (by kernel_rfl) (by kernel_rfl) (by kernel_rfl) (fun _ _ _ h => h) (yieldsIf_load_mid (by rfl) 81 _ rfl w3.heap.size (0) rfl (ctC ⟨kd, spv, zs.length, cv⟩) _ (fun w hS => hS.1) Try.underlying81 rfl hio) hHeld ?_
  try simp only [Act.put, List.setIfInBounds_toArray, List.set_cons_zero, List.set_cons_succ]
  refine wpAnyH_take (i := 2) (oi := { dst := some 37, op := Op.nilCheck (Operand.tmp 36), type := 0, pos := "store.go:105", after := #[{ on := 1, ground := Ground.data }], guard := none }) (v := .pointer (some ⟨S.st, 0, none⟩)) rfl (by kernel_rfl) (by kernel_rfl) (by kernel_rfl) (fun _ _ _ h => h) (Or.inl ⟨by rfl, by intro w hS; go_simp⟩) hHeld ?_
  try simp only [Act.put, List.setIfInBounds_toArray, List.set_cons_zero, List.set_cons_succ]
  refine wpAnyH_take (i := 3) (oi := { dst := some 38, op := Op.fieldAddr 79 (Operand.tmp 37) 3, type := 0, pos := "store.go:105", after := #[{ on := 2, ground := Ground.data }], guard := none }) (v := .pointer (some ⟨S.st, 3, none⟩)) rfl (by kernel_rfl) (by kernel_rfl) (by kernel_rfl) (fun _ _ _ h => h) (Or.inl ⟨by rfl, by intro w hS; go_simp⟩) hHeld ?_
  try simp only [Act.put, List.setIfInBounds_toArray, List.set_cons_zero, List.set_cons_succ]
  refine wpAnyH_ready (rs := [4, 6]) (by kernel_rfl) (by simp) ?_
  refine (AllReadyH.cons (o := { dst := some 39, op := Op.load 77 (Operand.tmp 38), type := 77, pos := "store.go:105", after := #[{ on := 3, ground := Ground.data }], guard := none }) rfl (fun K hK => ?_) (AllReadyH.cons (o := { dst := some 41, op := Op.buildSlice 77 1 #[(0, Operand.tmp 40)], type := 77, pos := "store.go:105", after := #[{ on := 5, ground := Ground.data }], guard := none }) rfl (fun K hK => ?_) AllReadyH.nil))
  · skip
    go_simp
    refine hK.out _ _ (hHeld) (fun hHeld2 => ?_)
    clear hK K hHeld
    have hHeld := hHeld2
    clear hHeld2
    try simp only [Act.put, List.setIfInBounds_toArray, List.set_cons_zero, List.set_cons_succ]
    refine wpAnyH_ready (rs := [6]) (by kernel_rfl) (by simp) ?_
    refine (AllReadyH.cons (o := { dst := some 41, op := Op.buildSlice 77 1 #[(0, Operand.tmp 40)], type := 77, pos := "store.go:105", after := #[{ on := 5, ground := Ground.data }], guard := none }) rfl (fun K hK => ?_) AllReadyH.nil)
    refine step_sliceC (by rfl) (.tmp 40) rfl (ctC ⟨kd, spv, zs.length, cv⟩) rfl rfl ?_
    have c3s := HCS.out (.cells (ctC ⟨kd, spv, zs.length, cv⟩).toArray 81)
    refine hK.out _ _ (⟨HRA.out _, trivial⟩) (fun hHeld2 => ?_)
    clear hK K hHeld
    have hHeld := hHeld2
    clear hHeld2
    try simp only [Act.put, List.setIfInBounds_toArray, List.set_cons_zero, List.set_cons_succ]
    refine wpAnyH_ready (rs := [7]) (by kernel_rfl) (by simp) ?_
    refine (AllReadyH.cons (o := { dst := some 42, op := Op.call { callee := Callee.builtin Builtin.append, args := #[Operand.tmp 39, Operand.tmp 41], argTypes := #[77, 77] }, type := 77, pos := "store.go:105", after := #[{ on := 4, ground := Ground.data }, { on := 6, ground := Ground.data }], guard := none }) rfl (fun K hK => ?_) AllReadyH.nil)
    refine step_pushC (w := W.drew) rfl (.tmp 39) (.tmp 41) rfl base (.slice svp S.cts.length svc) S.cts.length _ (ctC ⟨kd, spv, zs.length, cv⟩) rfl HOW.out rfl rfl (ctC_oneC _) HL1.out HBS.out _ _ ?_
    intro v4 w4 hO4 hg4 hd4
    obtain ⟨sp4, cap4, rfl⟩ := ownsRow_form hO4
    obtain ⟨q1, q2, q3, q4, q5, q6, q7⟩ := HS0.out w4 _ (.slice sp4 (S.cts.length + 1) cap4) hg4
    refine hK.out _ _ (⟨HRB.out w4 _ hg4, trivial⟩) (fun hHeld2 => ?_)
    clear hK K hHeld
    have hHeld := hHeld2
    clear hHeld2
    try simp only [Act.put, List.setIfInBounds_toArray, List.set_cons_zero, List.set_cons_succ]
    refine wpAnyH_take (i := 8) (oi := { dst := some 43, op := Op.nilCheck (Operand.tmp 35), type := 0, pos := "store.go:105", after := #[{ on := 0, ground := Ground.data }, { on := 0, ground := Ground.phase }, { on := 1, ground := Ground.phase }, { on := 2, ground := Ground.phase }, { on := 3, ground := Ground.phase }, { on := 4, ground := Ground.phase }, { on := 5, ground := Ground.phase }, { on := 6, ground := Ground.phase }, { on := 7, ground := Ground.phase }], guard := none }) (v := .pointer (some ⟨S.st, 0, none⟩)) rfl (by kernel_rfl) (by kernel_rfl) (by kernel_rfl) (fun _ _ _ h => h) (Or.inl ⟨by rfl, by intro w hS; go_simp⟩) hHeld ?_
    try simp only [Act.put, List.setIfInBounds_toArray, List.set_cons_zero, List.set_cons_succ]
    refine wpAnyH_take (i := 9) (oi := { dst := some 44, op := Op.fieldAddr 79 (Operand.tmp 43) 3, type := 0, pos := "store.go:105", after := #[{ on := 8, ground := Ground.data }, { on := 0, ground := Ground.phase }, { on := 1, ground := Ground.phase }, { on := 2, ground := Ground.phase }, { on := 3, ground := Ground.phase }, { on := 4, ground := Ground.phase }, { on := 5, ground := Ground.phase }, { on := 6, ground := Ground.phase }, { on := 7, ground := Ground.phase }], guard := none }) (v := .pointer (some ⟨S.st, 3, none⟩)) rfl (by kernel_rfl) (by kernel_rfl) (by kernel_rfl) (fun _ _ _ h => h) (Or.inl ⟨by rfl, by intro w hS; go_simp⟩) hHeld ?_
    try simp only [Act.put, List.setIfInBounds_toArray, List.set_cons_zero, List.set_cons_succ]
    refine wpAnyH_ready (rs := [10]) (by kernel_rfl) (by simp) ?_
    refine (AllReadyH.cons (o := { dst := none, op := Op.store 77 (Operand.tmp 44) (Operand.tmp 42), type := 0, pos := "store.go:105", after := #[{ on := 9, ground := Ground.data }, { on := 7, ground := Ground.data }, { on := 7, ground := Ground.chain }, { on := 0, ground := Ground.phase }, { on := 1, ground := Ground.phase }, { on := 2, ground := Ground.phase }, { on := 3, ground := Ground.phase }, { on := 4, ground := Ground.phase }, { on := 5, ground := Ground.phase }, { on := 6, ground := Ground.phase }, { on := 7, ground := Ground.phase }], guard := none }) rfl (fun K hK => ?_) AllReadyH.nil)
    go_simp
    refine hK.out _ _ (⟨q3, trivial⟩) (fun hHeld2 => ?_)
    clear hK K hHeld
    have hHeld := hHeld2
    clear hHeld2
    try simp only [Act.put, List.setIfInBounds_toArray, List.set_cons_zero, List.set_cons_succ]
    refine wpAnyH_done (by kernel_rfl) ?_ _
    refine NoPanic.normal ?_
    clear hHeld
    have HHO := hid (HHD.out _ q1)
    have c2d := q2
    have c3d := q3
    have HKP := hid (HKE.out _ _ q4 q2 q3)
    have HS5 := hid (HST.out w4 _ _ _ hO4 hg4 hd4)
    clear q1 q2 q3 q4 q5 q6 q7 hO4 hg4 hd4 HST HKE HHD HS0 HRA HRB HR0 HCS HOW c3d0
    generalize hW5 : w4.setCell ⟨S.st, 3, none⟩ (.slice sp4 (S.cts.length + 1) cap4) = W5 at *
    have HW5 := hid hW5
    clear hW5
    go_wp2
    refine wp_region_noPanic ?_
    refine wp_region_held_drew (S := fun w' => w'.cell? ⟨S.st, 2, none⟩ = some (.pointer (some ⟨S.pc, 0, none⟩)) ∧ w'.rangeAt w3.heap.size 0 (ctC ⟨kd, spv, zs.length, cv⟩)) (by kernel_rfl) ⟨c2d, c3d⟩ (fun hHeld => ?_)
    refine wpAnyH_take (i := 0) (oi := { dst := some 45, op := Op.move (Operand.tmp 0), type := 27, pos := "store.go:106", after := #[], guard := none }) (v := .pointer (some ⟨S.st, 0, none⟩)) rfl (by kernel_rfl) (by kernel_rfl) (by kernel_rfl) (fun _ _ _ h => h) (Or.inl ⟨by rfl, by intro w hS; go_simp⟩) hHeld ?_
    try simp only [Act.put, List.setIfInBounds_toArray, List.set_cons_zero, List.set_cons_succ]
    refine wpAnyH_take (i := 4) (oi := { dst := some 49, op := Op.move (Operand.tmp 9), type := 3, pos := "store.go:106", after := #[], guard := none }) (v := .int .i64 pg) rfl (by kernel_rfl) (by kernel_rfl) (by kernel_rfl) (fun _ _ _ h => h) (Or.inl ⟨by rfl, by intro w hS; go_simp⟩) hHeld ?_
    try simp only [Act.put, List.setIfInBounds_toArray, List.set_cons_zero, List.set_cons_succ]
    refine wpAnyH_take (i := 5) (oi := { dst := some 50, op := Op.load 81 (Operand.tmp 10), type := 81, pos := "store.go:106", after := #[], guard := none }) (v := .agg (ctC ⟨kd, spv, zs.length, cv⟩).toArray) rfl (by kernel_rfl) (by kernel_rfl) (by kernel_rfl) (fun _ _ _ h => h) (yieldsIf_load_mid (by rfl) 81 _ rfl w3.heap.size (0) rfl (ctC ⟨kd, spv, zs.length, cv⟩) _ (fun w hS => hS.2) Try.underlying81 rfl hio) hHeld ?_
    try simp only [Act.put, List.setIfInBounds_toArray, List.set_cons_zero, List.set_cons_succ]
    refine wpAnyH_take (i := 1) (oi := { dst := some 46, op := Op.nilCheck (Operand.tmp 45), type := 0, pos := "store.go:106", after := #[{ on := 0, ground := Ground.data }], guard := none }) (v := .pointer (some ⟨S.st, 0, none⟩)) rfl (by kernel_rfl) (by kernel_rfl) (by kernel_rfl) (fun _ _ _ h => h) (Or.inl ⟨by rfl, by intro w hS; go_simp⟩) hHeld ?_
    try simp only [Act.put, List.setIfInBounds_toArray, List.set_cons_zero, List.set_cons_succ]
    refine wpAnyH_take (i := 2) (oi := { dst := some 47, op := Op.fieldAddr 79 (Operand.tmp 46) 2, type := 0, pos := "store.go:106", after := #[{ on := 1, ground := Ground.data }], guard := none }) (v := .pointer (some ⟨S.st, 2, none⟩)) rfl (by kernel_rfl) (by kernel_rfl) (by kernel_rfl) (fun _ _ _ h => h) (Or.inl ⟨by rfl, by intro w hS; go_simp⟩) hHeld ?_
    try simp only [Act.put, List.setIfInBounds_toArray, List.set_cons_zero, List.set_cons_succ]
    refine wpAnyH_take (i := 3) (oi := { dst := some 48, op := Op.load 76 (Operand.tmp 47), type := 76, pos := "store.go:106", after := #[{ on := 2, ground := Ground.data }], guard := none }) (v := .pointer (some ⟨S.pc, 0, none⟩)) rfl (by kernel_rfl) (by kernel_rfl) (by kernel_rfl) (fun _ _ _ h => h) (Or.inl ⟨by rfl, by intro w hS; have hc := hS.1; go_simp⟩) hHeld ?_
    try simp only [Act.put, List.setIfInBounds_toArray, List.set_cons_zero, List.set_cons_succ]
    refine wpAnyH_ready (rs := [6]) (by kernel_rfl) (by simp) ?_
    refine (AllReadyH.cons (o := { dst := some 51, op := Op.call { callee := Callee.value (Operand.func 45), args := #[Operand.tmp 48, Operand.tmp 49, Operand.tmp 50], argTypes := #[76, 3, 81] }, type := 0, pos := "store.go:106", after := #[{ on := 3, ground := Ground.data }, { on := 4, ground := Ground.data }, { on := 5, ground := Ground.data }], guard := none }) rfl (fun K hK => ?_) AllReadyH.nil)
    go_simp
    go_at_call 45
    refine (HHO.out).mono ?_
    rintro e w6 ⟨rfl, ⟨F6, hC6, hF6, hG6⟩, he6⟩
    go_wp2_with fail
    refine hK.out _ _ (HKP.out w6 hF6) (fun hHeld2 => ?_)
    clear hK K hHeld
    have hHeld := hHeld2
    clear hHeld2
    try simp only [Act.put, List.setIfInBounds_toArray, List.set_cons_zero, List.set_cons_succ]
    refine wpAnyH_done (by kernel_rfl) ?_ _
    refine NoPanic.normal ?_
    clear hHeld
    rw [he6] at hC6
    have HFIN := hid (HS5.out w6 F6 hC6 hF6 hG6)
    clear hC6 hF6 hG6 he6 HHO HKP HS5
    go_wp2
    go_ret2
    exact ⟨F6, _, _, _, _, rfl, rfl, HFIN.out⟩
  · skip
    refine step_sliceC (by rfl) (.tmp 40) rfl (ctC ⟨kd, spv, zs.length, cv⟩) rfl rfl ?_
    have c3s := HCS.out (.cells (ctC ⟨kd, spv, zs.length, cv⟩).toArray 81)
    refine hK.out _ _ (⟨HRA.out _, trivial⟩) (fun hHeld2 => ?_)
    clear hK K hHeld
    have hHeld := hHeld2
    clear hHeld2
    try simp only [Act.put, List.setIfInBounds_toArray, List.set_cons_zero, List.set_cons_succ]
    refine wpAnyH_ready (rs := [4]) (by kernel_rfl) (by simp) ?_
    refine (AllReadyH.cons (o := { dst := some 39, op := Op.load 77 (Operand.tmp 38), type := 77, pos := "store.go:105", after := #[{ on := 3, ground := Ground.data }], guard := none }) rfl (fun K hK => ?_) AllReadyH.nil)
    go_simp
    refine hK.out _ _ (hHeld) (fun hHeld2 => ?_)
    clear hK K hHeld
    have hHeld := hHeld2
    clear hHeld2
    try simp only [Act.put, List.setIfInBounds_toArray, List.set_cons_zero, List.set_cons_succ]
    refine wpAnyH_ready (rs := [7]) (by kernel_rfl) (by simp) ?_
    refine (AllReadyH.cons (o := { dst := some 42, op := Op.call { callee := Callee.builtin Builtin.append, args := #[Operand.tmp 39, Operand.tmp 41], argTypes := #[77, 77] }, type := 77, pos := "store.go:105", after := #[{ on := 4, ground := Ground.data }, { on := 6, ground := Ground.data }], guard := none }) rfl (fun K hK => ?_) AllReadyH.nil)
    refine step_pushC (w := W.drew) rfl (.tmp 39) (.tmp 41) rfl base (.slice svp S.cts.length svc) S.cts.length _ (ctC ⟨kd, spv, zs.length, cv⟩) rfl HOW.out rfl rfl (ctC_oneC _) HL1.out HBS.out _ _ ?_
    intro v4 w4 hO4 hg4 hd4
    obtain ⟨sp4, cap4, rfl⟩ := ownsRow_form hO4
    obtain ⟨q1, q2, q3, q4, q5, q6, q7⟩ := HS0.out w4 _ (.slice sp4 (S.cts.length + 1) cap4) hg4
    refine hK.out _ _ (⟨HRB.out w4 _ hg4, trivial⟩) (fun hHeld2 => ?_)
    clear hK K hHeld
    have hHeld := hHeld2
    clear hHeld2
    try simp only [Act.put, List.setIfInBounds_toArray, List.set_cons_zero, List.set_cons_succ]
    refine wpAnyH_take (i := 8) (oi := { dst := some 43, op := Op.nilCheck (Operand.tmp 35), type := 0, pos := "store.go:105", after := #[{ on := 0, ground := Ground.data }, { on := 0, ground := Ground.phase }, { on := 1, ground := Ground.phase }, { on := 2, ground := Ground.phase }, { on := 3, ground := Ground.phase }, { on := 4, ground := Ground.phase }, { on := 5, ground := Ground.phase }, { on := 6, ground := Ground.phase }, { on := 7, ground := Ground.phase }], guard := none }) (v := .pointer (some ⟨S.st, 0, none⟩)) rfl (by kernel_rfl) (by kernel_rfl) (by kernel_rfl) (fun _ _ _ h => h) (Or.inl ⟨by rfl, by intro w hS; go_simp⟩) hHeld ?_
    try simp only [Act.put, List.setIfInBounds_toArray, List.set_cons_zero, List.set_cons_succ]
    refine wpAnyH_take (i := 9) (oi := { dst := some 44, op := Op.fieldAddr 79 (Operand.tmp 43) 3, type := 0, pos := "store.go:105", after := #[{ on := 8, ground := Ground.data }, { on := 0, ground := Ground.phase }, { on := 1, ground := Ground.phase }, { on := 2, ground := Ground.phase }, { on := 3, ground := Ground.phase }, { on := 4, ground := Ground.phase }, { on := 5, ground := Ground.phase }, { on := 6, ground := Ground.phase }, { on := 7, ground := Ground.phase }], guard := none }) (v := .pointer (some ⟨S.st, 3, none⟩)) rfl (by kernel_rfl) (by kernel_rfl) (by kernel_rfl) (fun _ _ _ h => h) (Or.inl ⟨by rfl, by intro w hS; go_simp⟩) hHeld ?_
    try simp only [Act.put, List.setIfInBounds_toArray, List.set_cons_zero, List.set_cons_succ]
    refine wpAnyH_ready (rs := [10]) (by kernel_rfl) (by simp) ?_
    refine (AllReadyH.cons (o := { dst := none, op := Op.store 77 (Operand.tmp 44) (Operand.tmp 42), type := 0, pos := "store.go:105", after := #[{ on := 9, ground := Ground.data }, { on := 7, ground := Ground.data }, { on := 7, ground := Ground.chain }, { on := 0, ground := Ground.phase }, { on := 1, ground := Ground.phase }, { on := 2, ground := Ground.phase }, { on := 3, ground := Ground.phase }, { on := 4, ground := Ground.phase }, { on := 5, ground := Ground.phase }, { on := 6, ground := Ground.phase }, { on := 7, ground := Ground.phase }], guard := none }) rfl (fun K hK => ?_) AllReadyH.nil)
    go_simp
    refine hK.out _ _ (⟨q3, trivial⟩) (fun hHeld2 => ?_)
    clear hK K hHeld
    have hHeld := hHeld2
    clear hHeld2
    try simp only [Act.put, List.setIfInBounds_toArray, List.set_cons_zero, List.set_cons_succ]
    refine wpAnyH_done (by kernel_rfl) ?_ _
    refine NoPanic.normal ?_
    clear hHeld
    have HHO := hid (HHD.out _ q1)
    have c2d := q2
    have c3d := q3
    have HKP := hid (HKE.out _ _ q4 q2 q3)
    have HS5 := hid (HST.out w4 _ _ _ hO4 hg4 hd4)
    clear q1 q2 q3 q4 q5 q6 q7 hO4 hg4 hd4 HST HKE HHD HS0 HRA HRB HR0 HCS HOW c3d0
    generalize hW5 : w4.setCell ⟨S.st, 3, none⟩ (.slice sp4 (S.cts.length + 1) cap4) = W5 at *
    have HW5 := hid hW5
    clear hW5
    go_wp2
    refine wp_region_noPanic ?_
    refine wp_region_held_drew (S := fun w' => w'.cell? ⟨S.st, 2, none⟩ = some (.pointer (some ⟨S.pc, 0, none⟩)) ∧ w'.rangeAt w3.heap.size 0 (ctC ⟨kd, spv, zs.length, cv⟩)) (by kernel_rfl) ⟨c2d, c3d⟩ (fun hHeld => ?_)
    refine wpAnyH_take (i := 0) (oi := { dst := some 45, op := Op.move (Operand.tmp 0), type := 27, pos := "store.go:106", after := #[], guard := none }) (v := .pointer (some ⟨S.st, 0, none⟩)) rfl (by kernel_rfl) (by kernel_rfl) (by kernel_rfl) (fun _ _ _ h => h) (Or.inl ⟨by rfl, by intro w hS; go_simp⟩) hHeld ?_
    try simp only [Act.put, List.setIfInBounds_toArray, List.set_cons_zero, List.set_cons_succ]
    refine wpAnyH_take (i := 4) (oi := { dst := some 49, op := Op.move (Operand.tmp 9), type := 3, pos := "store.go:106", after := #[], guard := none }) (v := .int .i64 pg) rfl (by kernel_rfl) (by kernel_rfl) (by kernel_rfl) (fun _ _ _ h => h) (Or.inl ⟨by rfl, by intro w hS; go_simp⟩) hHeld ?_
    try simp only [Act.put, List.setIfInBounds_toArray, List.set_cons_zero, List.set_cons_succ]
    refine wpAnyH_take (i := 5) (oi := { dst := some 50, op := Op.load 81 (Operand.tmp 10), type := 81, pos := "store.go:106", after := #[], guard := none }) (v := .agg (ctC ⟨kd, spv, zs.length, cv⟩).toArray) rfl (by kernel_rfl) (by kernel_rfl) (by kernel_rfl) (fun _ _ _ h => h) (yieldsIf_load_mid (by rfl) 81 _ rfl w3.heap.size (0) rfl (ctC ⟨kd, spv, zs.length, cv⟩) _ (fun w hS => hS.2) Try.underlying81 rfl hio) hHeld ?_
    try simp only [Act.put, List.setIfInBounds_toArray, List.set_cons_zero, List.set_cons_succ]
    refine wpAnyH_take (i := 1) (oi := { dst := some 46, op := Op.nilCheck (Operand.tmp 45), type := 0, pos := "store.go:106", after := #[{ on := 0, ground := Ground.data }], guard := none }) (v := .pointer (some ⟨S.st, 0, none⟩)) rfl (by kernel_rfl) (by kernel_rfl) (by kernel_rfl) (fun _ _ _ h => h) (Or.inl ⟨by rfl, by intro w hS; go_simp⟩) hHeld ?_
    try simp only [Act.put, List.setIfInBounds_toArray, List.set_cons_zero, List.set_cons_succ]
    refine wpAnyH_take (i := 2) (oi := { dst := some 47, op := Op.fieldAddr 79 (Operand.tmp 46) 2, type := 0, pos := "store.go:106", after := #[{ on := 1, ground := Ground.data }], guard := none }) (v := .pointer (some ⟨S.st, 2, none⟩)) rfl (by kernel_rfl) (by kernel_rfl) (by kernel_rfl) (fun _ _ _ h => h) (Or.inl ⟨by rfl, by intro w hS; go_simp⟩) hHeld ?_
    try simp only [Act.put, List.setIfInBounds_toArray, List.set_cons_zero, List.set_cons_succ]
    refine wpAnyH_take (i := 3) (oi := { dst := some 48, op := Op.load 76 (Operand.tmp 47), type := 76, pos := "store.go:106", after := #[{ on := 2, ground := Ground.data }], guard := none }) (v := .pointer (some ⟨S.pc, 0, none⟩)) rfl (by kernel_rfl) (by kernel_rfl) (by kernel_rfl) (fun _ _ _ h => h) (Or.inl ⟨by rfl, by intro w hS; have hc := hS.1; go_simp⟩) hHeld ?_
    try simp only [Act.put, List.setIfInBounds_toArray, List.set_cons_zero, List.set_cons_succ]
    refine wpAnyH_ready (rs := [6]) (by kernel_rfl) (by simp) ?_
    refine (AllReadyH.cons (o := { dst := some 51, op := Op.call { callee := Callee.value (Operand.func 45), args := #[Operand.tmp 48, Operand.tmp 49, Operand.tmp 50], argTypes := #[76, 3, 81] }, type := 0, pos := "store.go:106", after := #[{ on := 3, ground := Ground.data }, { on := 4, ground := Ground.data }, { on := 5, ground := Ground.data }], guard := none }) rfl (fun K hK => ?_) AllReadyH.nil)
    go_simp
    go_at_call 45
    refine (HHO.out).mono ?_
    rintro e w6 ⟨rfl, ⟨F6, hC6, hF6, hG6⟩, he6⟩
    go_wp2_with fail
    refine hK.out _ _ (HKP.out w6 hF6) (fun hHeld2 => ?_)
    clear hK K hHeld
    have hHeld := hHeld2
    clear hHeld2
    try simp only [Act.put, List.setIfInBounds_toArray, List.set_cons_zero, List.set_cons_succ]
    refine wpAnyH_done (by kernel_rfl) ?_ _
    refine NoPanic.normal ?_
    clear hHeld
    rw [he6] at hC6
    have HFIN := hid (HS5.out w6 F6 hC6 hF6 hG6)
    clear hC6 hF6 hG6 he6 HHO HKP HS5
    go_wp2
    go_ret2
    exact ⟨F6, _, _, _, _, rfl, rfl, HFIN.out⟩
end Go.Proofs.Ytihkjfbhmlfonaa
namespace Go.Proofs.Ytihkjfbhmlfonaa
set_option linter.unusedVariables false
set_option linter.unusedSimpArgs false
open Go.RowKit
open Go.Proofs.Ytihkjfbhmlfonaa.Ca (Ct ct0 ctC argV AS)
attribute [local go_sem ↓] Go.wp_at_zero Go.wp_at_succ

theorem SK.held_key {w : World} {base : Nat} {S : Sto} (h : SK w base S) (j : Nat) (hj : j < S.cts.length) : S.a.val (S.s.ma + j) = some (S.cts.getD j ct0) := by
  unfold Ca.AS.val
  rw [h.hd, heldL_at _ _ _ hj]
  rfl
theorem get_held (a : AS Int Ct) (k : Int) : (a.get k).held = a.held := by
  unfold Ca.AS.get
  split
  · rfl
  · split <;> rfl
theorem findL_mem {l : List (Int × Ct)} {k : Int} {c : Ct} (h : Ca.findL l k = some c) : (k, c) ∈ l := by
  unfold Ca.findL at h
  cases hq : l.find? fun x => decide (x.1 = k) with
  | none => rw [hq] at h; cases h
  | some x =>
    rw [hq] at h
    have h1 := List.find?_some hq
    have h2 := List.mem_of_find?_eq_some hq
    simp at h h1
    rw [← h1, ← h]
    exact h2
theorem get_clean (a : AS Int Ct) (k : Int) : ∀ x ∈ (a.get k).clean, x ∈ a.clean := by
  intro x hx
  unfold Ca.AS.get at hx
  split at hx
  · exact hx
  · split at hx
    · rename_i c hc
      simp only [List.mem_cons] at hx
      rcases hx with e | e
      · rw [e]; exact findL_mem hc
      · exact (List.mem_filter.1 e).1
    · exact hx
/-- The cache has changed, and holds what it held. -/
theorem SK.cache {w2 w3 : World} {base : Nat} {S : Sto} (h : SK w2 base S) {F' : List Nat} {N' : Nat} {a' : AS Int Ct} (hC : Ca.CA w3 base F' S.pc N' a') (hF : Fr S.FC w2 w3) (hG : Gr w2 S.FC F') (hcl : ∀ x ∈ a'.clean, x ∈ S.a.clean) (hh : a'.held = S.a.held) :
    SK w3 base { S with FC := F', N := N', a := a' } := by
  have hold2 : ∀ k, (k = S.g ∨ k = S.st ∨ k ∈ S.F ∨ k ∈ S.FC ∨ S.sv.ownBlock = some k ∨ k ∈ S.lb) → base ≤ k ∧ k < w2.heap.size := fun k q => h.in_lt q
  have hl : ∀ k ∈ S.lb, w3.heap[k]? = w2.heap[k]? := fun k q => hF.block k (hold2 k (by simp [q])).2 (fun z => h.a3 k z q)
  refine ⟨h.da.of_heap fun k q => hF.block k (hold2 k (by simp [q])).2 (h.a1 k q), (hF.block S.g h.lt_g h.g_apart.2.1).trans h.fk, hC, (hF.block S.st h.lt_st h.st_apart.2.2.1).trans h.sk, ownsRow_heap h.so fun k e => hF.block k (hold2 k (by simp [e])).2 (h.sv_apart e).2.2.2.1, fun k q => ⟨(h.lb k q).1, ?_⟩, h.cl, fun j hj => (h.cv j hj).to (fun k q => q) hl, fun x hx => ?_, hh.trans h.hd, fun k hk q => ?_, h.a2, fun k hk q => ?_, h.bg, h.bs, h.bp⟩
  · obtain ⟨cs, hc⟩ := (h.lb k q).2
    exact ⟨cs, (hl k q).trans hc⟩
  · obtain ⟨v, h1, h2⟩ := h.ck x (hcl x hx)
    exact ⟨v, h1.to (fun k q => q) hl, h2⟩
  · rcases hG k q with z | z
    · exact h.a1 k hk z
    · have := (hold2 k (by simp [hk])).2; omega
  · rcases hG k hk with z | z
    · exact h.a3 k z q
    · have := (hold2 k (by simp [q])).2; omega
theorem SK.fp_lt {w : World} {base : Nat} {S : Sto} (h : SK w base S) {k : Nat} (hk : k ∈ S.fp) : base ≤ k ∧ k < w.heap.size := by
  rcases (Sto.mem S k).1 hk with e | e | e | e | e | e <;> exact h.in_lt (by simp [e])
set_option maxRecDepth 100000 in
set_option maxHeartbeats 4000000 in
/-- A page that is in memory. -/
theorem oLoad_hitX (w : World) (base : Nat) (S : Sto) (h : SK w base S) (hlv : liveF S.D S.ep = 0) (hl : S.cts.length ≤ 100000) (hm : 2 ≤ S.s.ma ∧ S.s.ma ≤ 100000) (hN : S.N < 3000000000000000000) (pg : Int) (hpg : 2 ≤ pg ∧ pg < S.s.ma + S.cts.length) (c : Ct) (hv : S.a.val pg = some c) (kd : Int) (zs : List Int) (hq : CtIs w base S.lb c (kd, zs)) :
    Calls Try.prog 19 #[.pointer (some ⟨S.st, 0, none⟩), .int .i64 pg] w fun e w' => ∃ FC v, e = .returned (.tuple #[.int .i64 kd, v, .int .i64 0]) ∧ Own w' w.heap.size v zs ∧ (∀ k, v.ownBlock = some k → k ∉ Sto.fp { S with FC := FC }) ∧ SK w' base { S with FC := FC, N := S.N + 1, a := S.a.get pg } ∧ Fr S.FC w w' ∧ Gr w S.FC FC := by
  have HL := hid (oLive_any w base S h)
  rw [hlv] at HL
  have HA := hid (fun w1 (q : Below w.heap.size w w1) => ohas_any w1 base S (h.below q) hl ⟨by omega, by omega⟩ pg)
  rw [decide_eq_true hpg] at HA
  have H0 := hid h
  have HH := hid (fun w1 (q : Below w.heap.size w w1) => h.below q)
  have HV := hid hv
  have HQ := hid hq
  have HWK := hid (show Ca.wfK pg from ⟨by omega, by omega⟩)
  have HNN := hid hN
  clear h hlv hm hl hN hpg hv hq
  go_enter Try.func19, Try.ntmps19
  go_wp2_with fail
  refine HL.out.mono ?_
  rintro e w1 ⟨rfl, hb1⟩
  have HB1 := hid hb1
  clear hb1 HL
  go_wp2_with fail
  refine (HA.out w1 HB1.out).mono ?_
  rintro e w2 ⟨rfl, hb2⟩
  have HB2 := hid (HB1.out.trans (hb2.mono HB1.out.size))
  clear hb2 HB1 w1 HA
  have c2 := (HH.out w2 HB2.out).c2
  have HG : Hid (Calls Try.prog 47 #[.pointer (some ⟨S.pc, 0, none⟩), .int .i64 pg] w2 fun x w' => x = .returned (.tuple #[.agg #[.int .i64 c.kd, .slice c.sp c.n c.c], .bool true]) ∧ Ca.Nx base S.FC S.pc S.N w2 (S.a.get pg) w') := hid (by
    have := Ca.Get_any w2 base S.FC S.pc S.N S.a (HH.out w2 HB2.out).ca pg HWK.out (by have := HNN.out; omega)
    rw [HV.out] at this
    exact this)
  go_wp2_with fail
  refine HG.out.mono ?_
  rintro e w3 ⟨rfl, F3, hC3, hF3, hG3⟩
  have HS3 := hid ((HH.out w2 HB2.out).cache hC3 hF3 hG3 (get_clean S.a pg) (get_held S.a pg))
  have HFF := hid ((Fr.of_below (F := S.FC) HB2.out).trans hF3 (Gr.refl _ _))
  have HGG : Hid (Gr w S.FC F3) := hid (fun k hk => (hG3 k hk).imp id (fun q => Nat.le_trans HB2.out.size q))
  have HQ3 : Hid (CtIs w3 base S.lb c (kd, zs)) := hid (HQ.out.to (fun k q => q) fun k q => HFF.out.block k (H0.out.in_lt (Or.inr (Or.inr (Or.inr (Or.inr (Or.inr q)))))).2 (fun z => H0.out.a3 k z q))
  clear hC3 hF3 hG3 HG c2 HH HV HNN HWK
  go_wp2_with fail
  have n0 : (w3.alloc (.cells #[.int .i64 c.kd, .slice c.sp c.n c.c] 81)).cell? ⟨w3.heap.size, 0, none⟩ = some (.int .i64 c.kd) := by rw [cell_of_row _ _ _ _ _ _ (hnew w3 _)]; rfl
  have n1 : (w3.alloc (.cells #[.int .i64 c.kd, .slice c.sp c.n c.c] 81)).cell? ⟨w3.heap.size, 1, none⟩ = some (.slice c.sp c.n c.c) := by rw [cell_of_row _ _ _ _ _ _ (hnew w3 _)]; rfl
  have hNl : w3.heap.size < (w3.alloc (.cells #[.int .i64 c.kd, .slice c.sp c.n c.c] 81)).heap.size := by simp
  have HS4 := hid (HS3.out.below (below_new w3 (.cells #[.int .i64 c.kd, .slice c.sp c.n c.c] 81)))
  have HQ4 : Hid (CtIs (w3.alloc (.cells #[.int .i64 c.kd, .slice c.sp c.n c.c] 81)) base S.lb c (kd, zs)) := hid (HQ3.out.to (fun k q => q) fun k q => (below_new w3 _).block k (HS3.out.in_lt (Or.inr (Or.inr (Or.inr (Or.inr (Or.inr q)))))).2)
  have HFF4 := hid (HFF.out.tail (F' := S.FC) (below_new w3 (.cells #[.int .i64 c.kd, .slice c.sp c.n c.c] 81)))
  have HKD := hid (show c.kd = kd from HQ.out.kd)
  clear HS3 HQ3 HFF HQ
  generalize w3.alloc (.cells #[.int .i64 c.kd, .slice c.sp c.n c.c] 81) = W at *
  have HWs : Hid (w.heap.size ≤ W.heap.size) := hid HFF4.out.size
  have HCP : Hid (∀ w', Below W.heap.size W w' → Calls Try.prog 44 #[.slice c.sp c.n c.c] w' fun e w5 => ∃ v, e = .returned v ∧ Own w5 w'.heap.size v zs ∧ Below w'.heap.size w' w5) := hid (fun w' q => by
    have hq := HQ4.out.to (w1 := w') (fun k q => q) fun k z => q.block k (HS4.out.in_lt (Or.inr (Or.inr (Or.inr (Or.inr (Or.inr z)))))).2
    obtain ⟨sp, cap, e, hS, hn⟩ := hq.ow.form
    have hle := hq.le
    obtain ⟨e1, e2, e3⟩ := Value.slice.inj e
    subst e1
    subst e3
    rw [e2]
    exact copied_any w' zs c.sp c.c hS hn (by show zs.length ≤ 1000; have : zs.length ≤ 246 := hle; omega))
  refine wp_region_noPanic ?_
  refine wp_region_held_drew (S := fun w' => Below W.heap.size W w') (by kernel_rfl) (Below.refl _ _).drew (fun hHeld => ?_)
  refine wpAnyH_take (i := 0) (oi := { dst := some 56, op := Op.fieldAddr 81 (Operand.tmp 8) 0, type := 0, pos := "store.go:86", after := #[], guard := none }) (v := .pointer (some ⟨w3.heap.size, 0, none⟩)) rfl (by kernel_rfl) (by kernel_rfl) (by kernel_rfl) (fun _ _ _ h => h) (Or.inl ⟨by rfl, by intro w hS; go_simp⟩) hHeld ?_
  try simp only [Act.put, List.setIfInBounds_toArray, List.set_cons_zero, List.set_cons_succ]
  refine wpAnyH_take (i := 2) (oi := { dst := some 58, op := Op.fieldAddr 81 (Operand.tmp 8) 1, type := 0, pos := "store.go:86", after := #[], guard := none }) (v := .pointer (some ⟨w3.heap.size, 1, none⟩)) rfl (by kernel_rfl) (by kernel_rfl) (by kernel_rfl) (fun _ _ _ h => h) (Or.inl ⟨by rfl, by intro w hS; go_simp⟩) hHeld ?_
  try simp only [Act.put, List.setIfInBounds_toArray, List.set_cons_zero, List.set_cons_succ]
  refine wpAnyH_take (i := 1) (oi := { dst := some 57, op := Op.load 3 (Operand.tmp 56), type := 3, pos := "store.go:86", after := #[{ on := 0, ground := Ground.data }], guard := none }) (v := .int .i64 c.kd) rfl (by kernel_rfl) (by kernel_rfl) (by kernel_rfl) (fun _ _ _ h => h) (Or.inl ⟨by rfl, by intro w hS; have hc := (hS.cell (p := ⟨w3.heap.size, 0, none⟩) hNl).trans n0; go_simp⟩) hHeld ?_
  try simp only [Act.put, List.setIfInBounds_toArray, List.set_cons_zero, List.set_cons_succ]
  refine wpAnyH_take (i := 3) (oi := { dst := some 59, op := Op.load 36 (Operand.tmp 58), type := 36, pos := "store.go:86", after := #[{ on := 2, ground := Ground.data }], guard := none }) (v := .slice c.sp c.n c.c) rfl (by kernel_rfl) (by kernel_rfl) (by kernel_rfl) (fun _ _ _ h => h) (Or.inl ⟨by rfl, by intro w hS; have hc := (hS.cell (p := ⟨w3.heap.size, 1, none⟩) hNl).trans n1; go_simp⟩) hHeld ?_
  try simp only [Act.put, List.setIfInBounds_toArray, List.set_cons_zero, List.set_cons_succ]
  refine wpAnyH_ready (rs := [4]) (by kernel_rfl) (by simp) ?_
  refine (AllReadyH.cons (o := { dst := some 60, op := Op.call { callee := Callee.value (Operand.func 44), args := #[Operand.tmp 59], argTypes := #[36] }, type := 36, pos := "store.go:86", after := #[{ on := 3, ground := Ground.data }], guard := none }) rfl (fun K hK => ?_) AllReadyH.nil)
  go_simp
  go_at_call 44
  refine (HCP.out _ hHeld).mono ?_
  rintro e w5 ⟨v5, rfl, hO5, hb5⟩
  obtain ⟨s5, c5, hv5, _, _⟩ := hO5.form
  subst hv5
  have HO5 := hid hO5
  have HB5 := hid hb5
  have HBw := hid hHeld
  clear hO5
  go_wp2_with fail
  refine hK.out _ _ (hHeld.trans (hb5.mono hHeld.size)) (fun hHeld2 => ?_)
  clear hK K hHeld
  have hHeld := hHeld2
  clear hHeld2
  clear hb5
  try simp only [Act.put, List.setIfInBounds_toArray, List.set_cons_zero, List.set_cons_succ]
  refine wpAnyH_take (i := 5) (oi := { dst := some 4, op := Op.assign (Operand.tmp 57), type := 3, pos := "store.go:86", after := #[{ on := 1, ground := Ground.data }, { on := 4, ground := Ground.chain }, { on := 0, ground := Ground.phase }, { on := 1, ground := Ground.phase }, { on := 2, ground := Ground.textOnly Departure.lateStores }, { on := 3, ground := Ground.textOnly Departure.lateStores }, { on := 4, ground := Ground.textOnly Departure.lateStoresUnsure }], guard := none }) (v := .int .i64 c.kd) rfl (by kernel_rfl) (by kernel_rfl) (by kernel_rfl) (fun _ _ _ h => h) (Or.inl ⟨by rfl, by intro w hS; go_simp⟩) hHeld ?_
  try simp only [Act.put, List.setIfInBounds_toArray, List.set_cons_zero, List.set_cons_succ]
  refine wpAnyH_take (i := 6) (oi := { dst := some 5, op := Op.assign (Operand.tmp 60), type := 36, pos := "store.go:86", after := #[{ on := 4, ground := Ground.data }, { on := 5, ground := Ground.chain }, { on := 0, ground := Ground.phase }, { on := 1, ground := Ground.phase }, { on := 2, ground := Ground.phase }, { on := 3, ground := Ground.phase }, { on := 4, ground := Ground.phase }, { on := 5, ground := Ground.phase }], guard := none }) (v := .slice s5 zs.length c5) rfl (by kernel_rfl) (by kernel_rfl) (by kernel_rfl) (fun _ _ _ h => h) (Or.inl ⟨by rfl, by intro w hS; go_simp⟩) hHeld ?_
  try simp only [Act.put, List.setIfInBounds_toArray, List.set_cons_zero, List.set_cons_succ]
  refine wpAnyH_take (i := 7) (oi := { dst := some 6, op := Op.assign (Operand.const (Value.int IntKind.i64 0)), type := 62, pos := "store.go:86", after := #[{ on := 6, ground := Ground.chain }, { on := 0, ground := Ground.phase }, { on := 1, ground := Ground.phase }, { on := 2, ground := Ground.phase }, { on := 3, ground := Ground.phase }, { on := 4, ground := Ground.phase }, { on := 5, ground := Ground.phase }, { on := 6, ground := Ground.phase }], guard := none }) (v := .int IntKind.i64 0) rfl (by kernel_rfl) (by kernel_rfl) (by kernel_rfl) (fun _ _ _ h => h) (Or.inl ⟨by rfl, by intro w hS; go_simp⟩) hHeld ?_
  try simp only [Act.put, List.setIfInBounds_toArray, List.set_cons_zero, List.set_cons_succ]
  refine wpAnyH_done (by kernel_rfl) ?_ _
  refine NoPanic.normal ?_
  have HB6 := hid hHeld
  clear hHeld
  go_wp2
  go_ret3
  exact ⟨F3, .slice s5 zs.length c5, by rw [HKD.out]; rfl, HO5.out.base (Nat.le_trans HWs.out HBw.out.size), (fun k e q => by have h1 := (ownsRow_block HO5.out k e).1; have h2 := HBw.out.size; have h3 := (HS4.out.fp_lt q).2; omega), HS4.out.below HB6.out, HFF4.out.tail (F' := S.FC) HB6.out, HGG.out⟩
theorem oLoad_hit (w : World) (base : Nat) (S : Sto) (h : SK w base S) (hlv : liveF S.D S.ep = 0) (hl : S.cts.length ≤ 100000) (hm : 2 ≤ S.s.ma ∧ S.s.ma ≤ 100000) (hN : S.N < 3000000000000000000) (pg : Int) (hpg : 2 ≤ pg ∧ pg < S.s.ma + S.cts.length) (c : Ct) (hv : S.a.val pg = some c) (kd : Int) (zs : List Int) (hq : CtIs w base S.lb c (kd, zs)) :
    Calls Try.prog 19 #[.pointer (some ⟨S.st, 0, none⟩), .int .i64 pg] w fun e w' => ∃ FC v, e = .returned (.tuple #[.int .i64 kd, v, .int .i64 0]) ∧ Own w' w.heap.size v zs ∧ SK w' base { S with FC := FC, N := S.N + 1, a := S.a.get pg } ∧ Fr S.FC w w' ∧ Gr w S.FC FC :=
  (oLoad_hitX w base S h hlv hl hm hN pg hpg c hv kd zs hq).mono fun e w' ⟨FC, v, a, b, _, c⟩ => ⟨FC, v, a, b, c⟩
end Go.Proofs.Ytihkjfbhmlfonaa
