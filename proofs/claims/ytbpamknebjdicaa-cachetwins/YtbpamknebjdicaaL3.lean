import Derived.Test.YtbpamknebjdicaaL2
namespace Go.Proofs.Ytbpamknebjdicaa
set_option linter.unusedVariables false
set_option linter.unusedSimpArgs false
open Go.RowKit
attribute [local go_sem ↓] Go.wp_at_zero Go.wp_at_succ

/-! A cache of ints. -/
abbrev CSi := CS Int Int
def argK (k : Int) : Value := .int .i64 k
def argV (v : Int) : Value := .int .i64 v
def wfK (k : Int) : Prop := -9223372036854775808 ≤ k ∧ k ≤ 9223372036854775807
def litK (k : Int) : Lit := .int .i64 k
theorem keyedK : Maps.Keyed Try.prog 3 := Maps.int_keyed Try.underlying3
theorem keyOfK {k : Int} (h : wfK k) : WideAt.IsKeyLit (litK k) ∧ keyOf Try.prog 3 (argK k) = some (litK k) := by
  have hw : (Lit.int .i64 k).wf = true := WalkArith.wf_i64 (by unfold wfK at h; omega)
  exact ⟨by first | trivial | exact hw | decide, Maps.keyOf_int_mk Try.underlying3 hw⟩
theorem litK_inj {a b : Int} (h : litK a = litK b) : a = b := by simpa [litK] using h
def ecells (x : Ent Int Int) : Array Value := #[argK x.key, argV x.val, .bool x.held, optr x.prv, optr x.nxt]
def ccells (m : Nat) (s : CSi) : Array Value := #[.int .i64 s.room, .map (some m), optr s.cl.first, optr s.cl.last, .int .i64 s.cl.count, optr s.hd.first, optr s.hd.last, .int .i64 s.hd.count, .int .i64 s.hits, .int .i64 s.misses, .int .i64 s.gone, .int .i64 0, .int .i64 0]
/-- What the map says. -/
structure MapIs (M : DataW Unit) (look : Int → Option Nat) : Prop where
  isMap : Maps.IsMap M
  no : ∀ k, wfK k → look k = none → Maps.has M (litK k) = false ∧ M.atKey (litK k) (.lit (.int .i64 (-1))) = .lit (.int .i64 (-1))
  yes : ∀ k b, wfK k → look k = some b → Maps.has M (litK k) = true ∧ M.atKey (litK k) (.lit (.int .i64 (-1))) = .lit (.int .i64 (b : Nat))
structure CK (w : World) (base p m n : Nat) (s : CSi) : Prop where
  cell : w.heap[p]? = some (.cells (ccells m s) 68 (0, 0))
  ents : ∀ b ∈ s.bs, w.heap[b]? = some (.cells (ecells (s.E b)) 71 (0, 0))
  mp : ∃ M, w.ownsMap Try.prog 3 PR m n M ∧ MapIs M s.look
  kwf : ∀ b ∈ s.bs, wfK (s.E b).key
  bp : base ≤ p
  bm : base ≤ m
  bb : ∀ b ∈ s.bs, base ≤ b
def fpC (p m : Nat) (s : CSi) : List Nat := p :: m :: s.bs
theorem CK.fz {w : World} {base p m n : Nat} {s : CSi} (h : CK w base p m n s) (k : Nat) : w.frozen? ⟨p, k, none⟩ = false := frozen_of_row _ _ _ _ _ h.cell
theorem CK.fe {w : World} {base p m n : Nat} {s : CSi} (h : CK w base p m n s) {b : Nat} (hb : b ∈ s.bs) (k : Nat) : w.frozen? ⟨b, k, none⟩ = false := frozen_of_row _ _ _ _ _ (h.ents b hb)
theorem CK.c0 {w : World} {base p m n : Nat} {s : CSi} (h : CK w base p m n s) : w.cell? ⟨p, 0, none⟩ = some (.int .i64 s.room) := by rw [cell_of_row _ _ _ _ _ _ h.cell]; rfl
theorem CK.c1 {w : World} {base p m n : Nat} {s : CSi} (h : CK w base p m n s) : w.cell? ⟨p, 1, none⟩ = some (.map (some m)) := by rw [cell_of_row _ _ _ _ _ _ h.cell]; rfl
theorem CK.c2 {w : World} {base p m n : Nat} {s : CSi} (h : CK w base p m n s) : w.cell? ⟨p, 2, none⟩ = some (optr s.cl.first) := by rw [cell_of_row _ _ _ _ _ _ h.cell]; rfl
theorem CK.c3 {w : World} {base p m n : Nat} {s : CSi} (h : CK w base p m n s) : w.cell? ⟨p, 3, none⟩ = some (optr s.cl.last) := by rw [cell_of_row _ _ _ _ _ _ h.cell]; rfl
theorem CK.c4 {w : World} {base p m n : Nat} {s : CSi} (h : CK w base p m n s) : w.cell? ⟨p, 4, none⟩ = some (.int .i64 s.cl.count) := by rw [cell_of_row _ _ _ _ _ _ h.cell]; rfl
theorem CK.c5 {w : World} {base p m n : Nat} {s : CSi} (h : CK w base p m n s) : w.cell? ⟨p, 5, none⟩ = some (optr s.hd.first) := by rw [cell_of_row _ _ _ _ _ _ h.cell]; rfl
theorem CK.c6 {w : World} {base p m n : Nat} {s : CSi} (h : CK w base p m n s) : w.cell? ⟨p, 6, none⟩ = some (optr s.hd.last) := by rw [cell_of_row _ _ _ _ _ _ h.cell]; rfl
theorem CK.c7 {w : World} {base p m n : Nat} {s : CSi} (h : CK w base p m n s) : w.cell? ⟨p, 7, none⟩ = some (.int .i64 s.hd.count) := by rw [cell_of_row _ _ _ _ _ _ h.cell]; rfl
theorem CK.c8 {w : World} {base p m n : Nat} {s : CSi} (h : CK w base p m n s) : w.cell? ⟨p, 8, none⟩ = some (.int .i64 s.hits) := by rw [cell_of_row _ _ _ _ _ _ h.cell]; rfl
theorem CK.c9 {w : World} {base p m n : Nat} {s : CSi} (h : CK w base p m n s) : w.cell? ⟨p, 9, none⟩ = some (.int .i64 s.misses) := by rw [cell_of_row _ _ _ _ _ _ h.cell]; rfl
theorem CK.c10 {w : World} {base p m n : Nat} {s : CSi} (h : CK w base p m n s) : w.cell? ⟨p, 10, none⟩ = some (.int .i64 s.gone) := by rw [cell_of_row _ _ _ _ _ _ h.cell]; rfl
theorem CK.ev {w : World} {base p m n : Nat} {s : CSi} (h : CK w base p m n s) {b : Nat} (hb : b ∈ s.bs) : w.cell? ⟨b, 1, none⟩ = some (argV (s.E b).val) := by rw [cell_of_row _ _ _ _ _ _ (h.ents b hb)]; rfl
theorem CK.eh {w : World} {base p m n : Nat} {s : CSi} (h : CK w base p m n s) {b : Nat} (hb : b ∈ s.bs) : w.cell? ⟨b, 2, none⟩ = some (.bool (s.E b).held) := by rw [cell_of_row _ _ _ _ _ _ (h.ents b hb)]; rfl
theorem CK.ep {w : World} {base p m n : Nat} {s : CSi} (h : CK w base p m n s) {b : Nat} (hb : b ∈ s.bs) : w.cell? ⟨b, 3, none⟩ = some (optr (s.E b).prv) := by rw [cell_of_row _ _ _ _ _ _ (h.ents b hb)]; rfl
theorem CK.en {w : World} {base p m n : Nat} {s : CSi} (h : CK w base p m n s) {b : Nat} (hb : b ∈ s.bs) : w.cell? ⟨b, 4, none⟩ = some (optr (s.E b).nxt) := by rw [cell_of_row _ _ _ _ _ _ (h.ents b hb)]; rfl
theorem CK.pm {w : World} {base p m n : Nat} {s : CSi} (h : CK w base p m n s) : p ≠ m := by
  obtain ⟨M, ⟨es, clock, hb, _⟩, _⟩ := h.mp
  intro e; rw [← e, h.cell] at hb; cases hb
theorem CK.eb {w : World} {base p m n : Nat} {s : CSi} (h : CK w base p m n s) {b : Nat} (hb : b ∈ s.bs) : b ≠ p ∧ b ≠ m := by
  refine ⟨ne_ty (h.ents b hb) h.cell (by decide), ?_⟩
  obtain ⟨M, ⟨es, clock, hm, _⟩, _⟩ := h.mp
  intro e; rw [← e, h.ents b hb] at hm; cases hm
theorem ownsMap_heap' {w w1 : World} {b n : Nat} {M : DataW Unit} (h : w.ownsMap Try.prog 3 PR b n M) (hk : w1.heap[b]? = w.heap[b]?) : w1.ownsMap Try.prog 3 PR b n M := by
  obtain ⟨es, clock, hb, F, hs, hD⟩ := h
  exact ⟨es, clock, hk.trans hb, F, hs, hD⟩
/-- A cell of the cache's own block is written. -/
theorem CK.setP {w : World} {base p m n : Nat} {s s' : CSi} (h : CK w base p m n s) (k : Nat) (v : Value) (hc : (ccells m s).setIfInBounds k v = ccells m s') (hE : s'.E = s.E) (hb : s'.bs = s.bs) (hl : s'.look = s.look) :
    CK (w.setCell ⟨p, k, none⟩ v) base p m n s' := by
  have hne : ∀ i, i ≠ p → (w.setCell ⟨p, k, none⟩ v).heap[i]? = w.heap[i]? := fun i hi => heap_setCell_other w _ i v hi
  refine ⟨?_, fun b q => ?_, ?_, by rw [hE, hb]; exact h.kwf, h.bp, h.bm, by rw [hb]; exact h.bb⟩
  · rw [heap_setCell_same _ _ _ _ _ _ h.cell, ← hc]
  · rw [hb] at q; rw [hE, hne b (h.eb q).1]; exact h.ents b q
  · obtain ⟨M, a, b⟩ := h.mp
    exact ⟨M, ownsMap_heap' a (hne _ h.pm.symm), hl ▸ b⟩
/-- A cell of an entry is written. -/
theorem CK.setB {w : World} {base p m n : Nat} {s : CSi} (h : CK w base p m n s) {b : Nat} (hb : b ∈ s.bs) (k : Nat) (v : Value) (x : Ent Int Int) (hc : (ecells (s.E b)).setIfInBounds k v = ecells x) (hk : x.key = (s.E b).key) :
    CK (w.setCell ⟨b, k, none⟩ v) base p m n (s.setE b x) := by
  have hne : ∀ i, i ≠ b → (w.setCell ⟨b, k, none⟩ v).heap[i]? = w.heap[i]? := fun i hi => heap_setCell_other w _ i v hi
  refine ⟨(hne p (h.eb hb).1.symm).trans h.cell, fun i q => ?_, ?_, fun i q => ?_, h.bp, h.bm, h.bb⟩
  · rw [E_setE]
    by_cases e : i = b
    · subst e; rw [if_pos rfl, heap_setCell_same _ _ _ _ _ _ (h.ents i hb), ← hc]
    · rw [if_neg e, hne i e]; exact h.ents i q
  · obtain ⟨M, a, c⟩ := h.mp
    exact ⟨M, ownsMap_heap' a (hne _ (h.eb hb).2.symm), c⟩
  · rw [E_setE]
    by_cases e : i = b
    · subst e; rw [if_pos rfl, hk]; exact h.kwf i hb
    · rw [if_neg e]; exact h.kwf i q
def offR : Bool → Nat
  | true => 2
  | false => 5
theorem CK.first {w : World} {base p m n : Nat} {s : CSi} (h : CK w base p m n s) (r : Bool) (a : Option Nat) : CK (w.setCell ⟨p, offR r, none⟩ (optr a)) base p m n (s.setFirst r a) := by
  cases r <;> exact h.setP _ _ (by simp [ccells, CS.setFirst, CS.setRow, CS.row, offR]) rfl rfl rfl
theorem CK.last {w : World} {base p m n : Nat} {s : CSi} (h : CK w base p m n s) (r : Bool) (a : Option Nat) : CK (w.setCell ⟨p, offR r + 1, none⟩ (optr a)) base p m n (s.setLast r a) := by
  cases r <;> exact h.setP _ _ (by simp [ccells, CS.setLast, CS.setRow, CS.row, offR]) rfl rfl rfl
theorem CK.count {w : World} {base p m n : Nat} {s : CSi} (h : CK w base p m n s) (r : Bool) (a : Int) : CK (w.setCell ⟨p, offR r + 2, none⟩ (.int .i64 a)) base p m n (s.setCount r a) := by
  cases r <;> exact h.setP _ _ (by simp [ccells, CS.setCount, CS.setRow, CS.row, offR]) rfl rfl rfl
theorem CK.nxt {w : World} {base p m n : Nat} {s : CSi} (h : CK w base p m n s) {b : Nat} (hb : b ∈ s.bs) (a : Option Nat) : CK (w.setCell ⟨b, 4, none⟩ (optr a)) base p m n (s.setNxt b a) := h.setB hb _ _ _ (by simp [ecells]) rfl
theorem CK.prv {w : World} {base p m n : Nat} {s : CSi} (h : CK w base p m n s) {b : Nat} (hb : b ∈ s.bs) (a : Option Nat) : CK (w.setCell ⟨b, 3, none⟩ (optr a)) base p m n (s.setPrv b a) := h.setB hb _ _ _ (by simp [ecells]) rfl
theorem CK.val {w : World} {base p m n : Nat} {s : CSi} (h : CK w base p m n s) {b : Nat} (hb : b ∈ s.bs) (a : Int) : CK (w.setCell ⟨b, 1, none⟩ (argV a)) base p m n (s.setVal b a) := h.setB hb _ _ _ (by simp [ecells]) rfl
theorem CK.held {w : World} {base p m n : Nat} {s : CSi} (h : CK w base p m n s) {b : Nat} (hb : b ∈ s.bs) (a : Bool) : CK (w.setCell ⟨b, 2, none⟩ (.bool a)) base p m n (s.setHeld b a) := h.setB hb _ _ _ (by simp [ecells]) rfl
theorem mem_p (p m : Nat) (s : CSi) : p ∈ fpC p m s := by simp [fpC]
theorem mem_m (p m : Nat) (s : CSi) : m ∈ fpC p m s := by simp [fpC]
theorem mem_b {p m : Nat} {s : CSi} {b : Nat} (h : b ∈ s.bs) : b ∈ fpC p m s := by simp [fpC, h]
theorem bs_setRow (s : CSi) (r : Bool) (x : Rw) : (s.setRow r x).bs = s.bs := by cases r <;> rfl
/-- What a call of a row leaves. -/
def LN (base p m n : Nat) (s : CSi) (w : World) (t : CSi) (w' : World) : Prop := CK w' base p m n t ∧ Fr (fpC p m s) w w' ∧ t.bs = s.bs
theorem LN.trans {base p m n : Nat} {s t u : CSi} {w w1 w2 : World} (h : LN base p m n s w t w1) (k : LN base p m n t w1 u w2) : LN base p m n s w u w2 :=
  ⟨k.1, h.2.1.trans' (by have := k.2.1; rwa [show fpC p m t = fpC p m s by simp [fpC, h.2.2]] at this), k.2.2.trans h.2.2⟩
def inBs (s : CSi) (a : Option Nat) : Prop := ∀ x, a = some x → x ∈ s.bs
set_option maxHeartbeats 400000 in
theorem join_any (w : World) (base p m n : Nat) (s : CSi) (h : CK w base p m n s) (r : Bool) (b a : Option Nat) (hb : inBs s b) (ha : inBs s a) :
    Calls Try.prog 58 #[.pointer (some ⟨p, offR r, none⟩), optr b, optr a] w fun e w' => e = .returned (.tuple #[]) ∧ LN base p m n s w (s.join r b a) w' := by
  cases b with
  | none =>
    have f0 := h.fz (offR r)
    have c0 : w.cell? ⟨p, offR r, none⟩ = some (optr (s.row r).first) := by cases r <;> first | exact h.c2 | exact h.c5
    have h1 := h.first r a
    cases a with
    | none =>
      have f1 := h1.fz (offR r + 1)
      have c1 : (w.setCell ⟨p, offR r, none⟩ (optr none)).cell? ⟨p, offR r + 1, none⟩ = some (optr (s.row r).last) := by cases r <;> first | exact h1.c3 | exact h1.c6
      have hL : LN base p m n s w (s.join r none none) ((w.setCell ⟨p, offR r, none⟩ (optr none)).setCell ⟨p, offR r + 1, none⟩ (optr none)) := ⟨h1.last r none, ((Fr.refl _ w).setCell (mem_p p m s) _ _).setCell (mem_p p m s) _ _, (Sm.join s r none none).bs⟩
      clear h h1
      generalize offR r = o at *
      simp only [optr] at *
      go_enter Try.func58, Try.ntmps58
      go_wp2
      go_end0
      exact ⟨rfl, hL⟩
    | some y =>
      have hy := ha y rfl
      have f1 := h1.fe (b := y) (by rw [CS.setFirst, bs_setRow]; exact hy) 3
      have c1 := h1.ep (b := y) (by rw [CS.setFirst, bs_setRow]; exact hy)
      have hL : LN base p m n s w (s.join r none (some y)) ((w.setCell ⟨p, offR r, none⟩ (optr (some y))).setCell ⟨y, 3, none⟩ (optr none)) := ⟨h1.prv (by rw [CS.setFirst, bs_setRow]; exact hy) none, ((Fr.refl _ w).setCell (mem_p p m s) _ _).setCell (mem_b hy) _ _, (Sm.join s r none (some y)).bs⟩
      clear h h1
      generalize offR r = o at *
      simp only [optr] at *
      go_enter Try.func58, Try.ntmps58
      go_wp2
      go_end0
      exact ⟨rfl, hL⟩
  | some x =>
    have hx := hb x rfl
    have f0 := h.fe hx 4
    have c0 := h.en hx
    have h1 := h.nxt hx a
    cases a with
    | none =>
      have f1 := h1.fz (offR r + 1)
      have c1 : (w.setCell ⟨x, 4, none⟩ (optr none)).cell? ⟨p, offR r + 1, none⟩ = some (optr (s.row r).last) := by cases r <;> first | exact h1.c3 | exact h1.c6
      have hL : LN base p m n s w (s.join r (some x) none) ((w.setCell ⟨x, 4, none⟩ (optr none)).setCell ⟨p, offR r + 1, none⟩ (optr (some x))) := ⟨h1.last r (some x), ((Fr.refl _ w).setCell (mem_b hx) _ _).setCell (mem_p p m s) _ _, (Sm.join s r (some x) none).bs⟩
      clear h h1
      generalize offR r = o at *
      simp only [optr] at *
      go_enter Try.func58, Try.ntmps58
      go_wp2
      go_end0
      exact ⟨rfl, hL⟩
    | some y =>
      have hy := ha y rfl
      have f1 := h1.fe (b := y) hy 3
      have c1 := h1.ep (b := y) hy
      have hL : LN base p m n s w (s.join r (some x) (some y)) ((w.setCell ⟨x, 4, none⟩ (optr (some y))).setCell ⟨y, 3, none⟩ (optr (some x))) := ⟨h1.prv hy (some x), ((Fr.refl _ w).setCell (mem_b hx) _ _).setCell (mem_b hy) _ _, (Sm.join s r (some x) (some y)).bs⟩
      clear h h1
      simp only [optr] at *
      go_enter Try.func58, Try.ntmps58
      go_wp2
      go_end0
      exact ⟨rfl, hL⟩
end Go.Proofs.Ytbpamknebjdicaa
