import Derived.Test.YtenfklcgkfaajaaDy
import Derived.Test.YtenfklcgkfaajaaDz
namespace Go.Proofs.Ytenfklcgkfaajaa
set_option linter.unusedVariables false
set_option linter.unusedSimpArgs false
open Go.RowKit
attribute [local go_sem ↓] Go.wp_at_zero Go.wp_at_succ

/-- A value built, guarded or not. -/
theorem wpList_built {P : Program} {ops : Array Oper} {rest : List Oper} {o : Oper} {a : Act} {w : World} {Q : Exit → Act → World → Prop} (hw : Region.wanted o (yielded ops a.tmps) = true) (t : TypeId) (parts : Array (Nat × Operand)) (ho : o.op = .build t parts) (ps : List (Nat × Value)) (hp : (parts.toList.map fun (i, x) => (i, a.eval x)) = ps) (cs : Array Value) (hb : P.built t ps = some cs)
    (h : wpList P ops Q rest (a.put o.dst (.agg cs)) w) : wpList P ops Q (o :: rest) a w := by
  have e : P.built t (parts.map fun (i, x) => (i, a.eval x)).toList = some cs := by rw [Array.toList_map, hp]; exact hb
  exact BigFrame.wpList_want hw fun _ hK => wp_build t parts ho (by rw [e]; rfl) (by rw [e]; exact hK _ _ h)
theorem wpList_allocV {P : Program} {t : TypeId} {Z : List Value} (hz : ∀ (a : Act) (o : Oper) (w : World), o.op = .alloc t → (execOp a.eval o).run P w = .ok (.value (.pointer (some ⟨w.heap.size, 0, none⟩))) (w.alloc (.cells Z.toArray t)))
    {ops : Array Oper} {rest : List Oper} {o1 : Oper} {a : Act} {w : World} {Q : Exit → Act → World → Prop} (hg1 : o1.guard = none) (ho1 : o1.op = .alloc t)
    (h : wpList P ops Q rest (a.put o1.dst (.pointer (some ⟨w.heap.size, 0, none⟩))) (w.alloc (.cells Z.toArray t))) : wpList P ops Q (o1 :: rest) a w := by
  refine wpList_plain hg1 fun K hK => ?_
  unfold Oper.wp
  rw [hz a o1 w ho1]
  exact hK _ _ h
theorem list32 {l : List Value} (h : l.length = 32) : ∃ x0 x1 x2 x3 x4 x5 x6 x7 x8 x9 x10 x11 x12 x13 x14 x15 x16 x17 x18 x19 x20 x21 x22 x23 x24 x25 x26 x27 x28 x29 x30 x31, l = [x0, x1, x2, x3, x4, x5, x6, x7, x8, x9, x10, x11, x12, x13, x14, x15, x16, x17, x18, x19, x20, x21, x22, x23, x24, x25, x26, x27, x28, x29, x30, x31] := by
  match l, h with
  | [x0, x1, x2, x3, x4, x5, x6, x7, x8, x9, x10, x11, x12, x13, x14, x15, x16, x17, x18, x19, x20, x21, x22, x23, x24, x25, x26, x27, x28, x29, x30, x31], _ => exact ⟨x0, x1, x2, x3, x4, x5, x6, x7, x8, x9, x10, x11, x12, x13, x14, x15, x16, x17, x18, x19, x20, x21, x22, x23, x24, x25, x26, x27, x28, x29, x30, x31, rfl⟩
theorem list34 {l : List Value} (h : l.length = 34) : ∃ x0 x1 x2 x3 x4 x5 x6 x7 x8 x9 x10 x11 x12 x13 x14 x15 x16 x17 x18 x19 x20 x21 x22 x23 x24 x25 x26 x27 x28 x29 x30 x31 x32 x33, l = x0 :: x1 :: x2 :: x3 :: x4 :: x5 :: x6 :: x7 :: x8 :: x9 :: x10 :: x11 :: x12 :: x13 :: x14 :: x15 :: x16 :: x17 :: x18 :: x19 :: x20 :: x21 :: x22 :: x23 :: x24 :: x25 :: x26 :: x27 :: x28 :: x29 :: x30 :: x31 :: x32 :: x33 :: [] := by
  match l, h with
  | x0 :: x1 :: x2 :: x3 :: x4 :: x5 :: x6 :: x7 :: x8 :: x9 :: x10 :: x11 :: x12 :: x13 :: x14 :: x15 :: x16 :: x17 :: x18 :: x19 :: x20 :: x21 :: x22 :: x23 :: x24 :: x25 :: x26 :: x27 :: x28 :: x29 :: x30 :: x31 :: x32 :: x33 :: [], _ => exact ⟨x0, x1, x2, x3, x4, x5, x6, x7, x8, x9, x10, x11, x12, x13, x14, x15, x16, x17, x18, x19, x20, x21, x22, x23, x24, x25, x26, x27, x28, x29, x30, x31, x32, x33, rfl⟩
theorem list33 {l : List Value} (h : l.length = 33) : ∃ x0 x1 x2 x3 x4 x5 x6 x7 x8 x9 x10 x11 x12 x13 x14 x15 x16 x17 x18 x19 x20 x21 x22 x23 x24 x25 x26 x27 x28 x29 x30 x31 x32, l = x0 :: x1 :: x2 :: x3 :: x4 :: x5 :: x6 :: x7 :: x8 :: x9 :: x10 :: x11 :: x12 :: x13 :: x14 :: x15 :: x16 :: x17 :: x18 :: x19 :: x20 :: x21 :: x22 :: x23 :: x24 :: x25 :: x26 :: x27 :: x28 :: x29 :: x30 :: x31 :: x32 :: [] := by
  match l, h with
  | x0 :: x1 :: x2 :: x3 :: x4 :: x5 :: x6 :: x7 :: x8 :: x9 :: x10 :: x11 :: x12 :: x13 :: x14 :: x15 :: x16 :: x17 :: x18 :: x19 :: x20 :: x21 :: x22 :: x23 :: x24 :: x25 :: x26 :: x27 :: x28 :: x29 :: x30 :: x31 :: x32 :: [], _ => exact ⟨x0, x1, x2, x3, x4, x5, x6, x7, x8, x9, x10, x11, x12, x13, x14, x15, x16, x17, x18, x19, x20, x21, x22, x23, x24, x25, x26, x27, x28, x29, x30, x31, x32, rfl⟩

theorem RK.wrong {w0 w w1 : World} {g b : Nat} {R : Rd} (h : RK w0 w g b R) (row : ∀ x y, w.heap[g]? = some (.cells #[x, y] 78 (0, 0)) → w1.heap[g]? = some (.cells #[x, .bool true] 78 (0, 0))) (k : Keeps g w w1) : RK w0 w1 g b ⟨R.rest, true⟩ := by
  obtain ⟨o, cap, h1, h2⟩ := h.row
  exact ⟨h.bel.trans (k.below_g h.new h.bel.size), h.new, o, cap, row _ _ h1, h2⟩
set_option maxRecDepth 100000 in
set_option maxHeartbeats 800000 in
theorem numberUpTo_any (w0 w : World) (g b : Nat) (R : Rd) (hy : Bys R.rest) (h : RK w0 w g b R) (m : Int) (n : Nat) (hn : n ≤ 8) :
    Calls Try.prog 67 #[.pointer (some ⟨g, 0, none⟩), .int .i64 m, .int .i64 n] w fun e w' => e = .returned (.int .i64 (upV R m n)) ∧ RK w0 w' g b (upS R m n) ∧ Keeps g w w' := by
  have KN := hid (number_any w0 w g b R hy h n hn)
  unfold upV upS
  generalize nmV R n = x at *
  generalize tkS R n = R1 at *
  clear h hy
  by_cases hx : m < x
  · simp only [if_pos hx]
    go_enter Try.func67, Try.ntmps67
    go_wp2_with fail
    refine KN.out.mono ?_
    rintro e w1 ⟨rfl, hK, hk⟩
    obtain ⟨o, cap, hr, hS⟩ := hK.row
    have c1 : w1.cell? ⟨g, 1, none⟩ = some (.bool R1.wrong) := by rw [cell_of_row _ _ _ _ _ _ hr]; rfl
    have fz : w1.frozen? ⟨g, 1, none⟩ = false := frozen_of_row _ _ _ _ _ hr
    have KW := hid (hK.wrong (w1 := w1.setCell ⟨g, 1, none⟩ (.bool true)) (fun x y h => heap_set1 h) ((Keeps.refl g w1).setCell 1 (.bool true)))
    clear KN hr hS
    go_wp2
    go_ret
    exact ⟨rfl, KW.out, hk.trans ((Keeps.refl g w1).setCell 1 (.bool true))⟩
  · simp only [if_neg hx]
    go_enter Try.func67, Try.ntmps67
    go_wp2_with fail
    refine KN.out.mono ?_
    rintro e w1 ⟨rfl, hK, hk⟩
    clear KN
    go_wp2
    go_ret
    exact ⟨rfl, hK, hk⟩
set_option maxRecDepth 100000 in
set_option maxHeartbeats 800000 in
theorem flag_any (w0 w : World) (g b : Nat) (R : Rd) (hy : Bys R.rest) (h : RK w0 w g b R) :
    Calls Try.prog 43 #[.pointer (some ⟨g, 0, none⟩)] w fun e w' => e = .returned (.bool (flV R)) ∧ RK w0 w' g b (flS R) ∧ Keeps g w w' := by
  have KN := hid (numberUpTo_any w0 w g b R hy h 1 1 (by omega))
  unfold flV flS
  generalize upV R 1 1 = x at *
  go_enter Try.func43, Try.ntmps43
  go_wp2_with fail
  refine KN.out.mono ?_
  rintro e w1 ⟨rfl, hK, hk⟩
  clear KN
  go_wp2
  go_ret
  exact ⟨rfl, hK, hk⟩
set_option maxRecDepth 100000 in
set_option maxHeartbeats 800000 in
theorem val_any (w0 w : World) (g b : Nat) (R : Rd) (hy : Bys R.rest) (h : RK w0 w g b R) :
    Calls Try.prog 44 #[.pointer (some ⟨g, 0, none⟩)] w fun e w' => ∃ v, e = .returned v ∧ Own w' w.heap.size v (vaV R) ∧ RK w0 w' g b (vaS R) ∧ Keeps g w w' := by
  have KN := hid (numberUpTo_any w0 w g b R hy h 128 2 (by omega))
  have hb := upV_bd R 128 2 hy (by omega) (by omega)
  have KC := hid (fun (w1 : World) (h1 : RK w0 w1 g b (upS R 128 2)) => copied_any w0 w1 g b (upS R 128 2) h1 (upV R 128 2).toNat (by omega))
  rw [Int.toNat_of_nonneg hb.1] at KC
  unfold vaV vaS
  generalize upS R 128 2 = R1 at *
  generalize upV R 128 2 = x at *
  go_enter Try.func44, Try.ntmps44
  go_wp2_with fail
  refine KN.out.mono ?_
  rintro e w1 ⟨rfl, hK, hk⟩
  go_wp2_with fail
  refine (KC.out w1 hK).mono ?_
  rintro e w2 ⟨v, rfl, hO, hK2, hk2⟩
  clear KN KC
  go_wp2
  go_ret
  exact ⟨v, rfl, own_lower hO hk.size, hK2, hk.trans hk2⟩
/-! Elements: entries (33 cells) and changes (34). -/
def tyE (c : Bool) : TypeId := if c then 54 else 52
def tyL (c : Bool) : TypeId := if c then 28 else 27
def szE (c : Bool) : Nat := if c then 34 else 33
def elC (c : Bool) (k : List Int) (d : Bool) (v : Value) : List Value := ints .u8 k ++ ((if c then [.bool d] else []) ++ [v])
theorem elC_len {c : Bool} {k : List Int} {d : Bool} {v : Value} (h : k.length = 32) : (elC c k d v).length = szE c := by
  unfold elC szE; cases c <;> simp [ints, h]
theorem elC_one {c : Bool} {k : List Int} {d : Bool} {v : Value} (h : v.oneCell' = true) : ∀ x ∈ elC c k d v, x.oneCell' = true := by
  intro x hx
  unfold elC at hx
  rcases List.mem_append.1 hx with a | a
  · exact ints_one _ _ x a
  · cases c
    · simp at a; subst a; exact h
    · simp at a; rcases a with rfl | rfl; rfl; exact h
structure ME where
  key : List Int
  del : Bool
  sv : Value
def dM : ME := ⟨z32, false, .slice none 0 0⟩
def enM (c : Bool) (m : ME) : List Value := elC c m.key m.del m.sv
def OwnL (c : Bool) (w : World) (base : Nat) (v : Value) (ms : List ME) : Prop := w.ownsRow base (tyE c) (szE c) v ms.length (ms.flatMap (enM c))
theorem OwnL.nil (c : Bool) (w : World) (base : Nat) : OwnL c w base (.slice none 0 0) [] := ⟨by simp, Or.inl ⟨rfl, rfl⟩⟩
theorem OwnL.block {c : Bool} {w : World} {base : Nat} {v : Value} {ms : List ME} (h : OwnL c w base v ms) : ∀ k, v.ownBlock = some k → base ≤ k ∧ k < w.heap.size ∧ ∃ cs, w.heap[k]? = some (.cells cs (tyE c) (0, 0)) := by
  intro k hk
  rcases h.2 with ⟨rfl, _⟩ | ⟨g, cap, cur, rfl, hg, hh, _⟩
  · simp [Value.ownBlock] at hk
  · simp [Value.ownBlock] at hk; subst hk; exact ⟨hg, hlt hh, cur, hh⟩
theorem OwnL.of_heap {c : Bool} {w w1 : World} {base : Nat} {v : Value} {ms : List ME} (h : OwnL c w base v ms) (hk : ∀ k, v.ownBlock = some k → w1.heap[k]? = w.heap[k]?) : OwnL c w1 base v ms := by
  refine ⟨h.1, ?_⟩
  rcases h.2 with h2 | ⟨g, cap, cur, rfl, hg, hh, r⟩
  · exact Or.inl h2
  · exact Or.inr ⟨g, cap, cur, rfl, hg, (hk g rfl).trans hh, r⟩
theorem OwnL.lower {c : Bool} {w : World} {base base' : Nat} {v : Value} {ms : List ME} (h : OwnL c w base v ms) (hb : base' ≤ base) : OwnL c w base' v ms := by
  obtain ⟨h1, h2 | ⟨g, cap, cur, rfl, hg, r⟩⟩ := h
  · exact ⟨h1, Or.inl h2⟩
  · exact ⟨h1, Or.inr ⟨g, cap, cur, rfl, Nat.le_trans hb hg, r⟩⟩
theorem OwnL.cells {c : Bool} {w : World} {base : Nat} {v : Value} {ms : List ME} (h : OwnL c w base v ms) : v.cells = #[v] ∧ v.oneCell' = true := by
  rcases h.2 with ⟨rfl, _⟩ | ⟨g, cap, cur, rfl, _⟩ <;> exact ⟨rfl, rfl⟩
/-- A list of elements that a call made, its values too. -/
structure ElO (c : Bool) (w : World) (base : Nat) (v : Value) (ms : List ME) (xs : List Cg) : Prop where
  own : OwnL c w base v ms
  len : ms.length = xs.length
  el : ∀ i, i < xs.length → (ms.getD i dM).key = (xs.getD i dX).key ∧ (xs.getD i dX).key.length = 32 ∧ (ms.getD i dM).del = (xs.getD i dX).del ∧ Own w base (ms.getD i dM).sv (xs.getD i dX).val
theorem ElO.nil (c : Bool) (w : World) (base : Nat) : ElO c w base (.slice none 0 0) [] [] := ⟨OwnL.nil c w base, rfl, fun i hi => by simp at hi⟩
theorem ElO.of_heap {c : Bool} {w w1 : World} {base : Nat} {v : Value} {ms : List ME} {xs : List Cg} (h : ElO c w base v ms xs) (hk : ∀ k cs t, base ≤ k → w.heap[k]? = some (.cells cs t (0, 0)) → (t = 5 ∨ t = tyE c) → w1.heap[k]? = w.heap[k]?) : ElO c w1 base v ms xs :=
  ⟨h.own.of_heap fun k hv => by obtain ⟨a, _, cs, e⟩ := h.own.block k hv; exact hk k cs _ a e (Or.inr rfl), h.len, fun i hi => by
    obtain ⟨a1, a2, a3, a4⟩ := h.el i hi
    refine ⟨a1, a2, a3, a4.of_heap fun k hv => ?_⟩
    have hb := a4.block k hv
    rcases a4.2 with ⟨e, _⟩ | ⟨g, cap, cur, e, hg, hh, _⟩
    · rw [e] at hv; simp [Value.ownBlock] at hv
    · rw [e] at hv; simp [Value.ownBlock] at hv; subst hv; exact hk _ _ _ hg hh (Or.inl rfl)⟩
theorem ElO.keeps {c : Bool} {w w1 : World} {base g : Nat} {v : Value} {ms : List ME} {xs : List Cg} (h : ElO c w base v ms xs) (hk : Keeps g w w1) (hg : g < base) : ElO c w1 base v ms xs :=
  h.of_heap fun k cs t hb e _ => hk.block k (hlt e) (by omega)
theorem ElO.far {c : Bool} {w w1 : World} {base r t : Nat} {v : Value} {ms : List ME} {xs : List Cg} {cs : Array Value} {fr : Nat × Nat} (h : ElO c w base v ms xs) (hr : w.heap[r]? = some (.cells cs t fr)) (h5 : t ≠ 5) (ht : t ≠ tyE c) (hk : Keeps r w w1) : ElO c w1 base v ms xs :=
  h.of_heap fun k ds u hb e hu => hk.block k (hlt e) (ne_ty e hr (by rcases hu with rfl | rfl; exact fun e => h5 e.symm; exact fun e => ht e.symm))
theorem ElO.below {c : Bool} {w w1 : World} {base B : Nat} {v : Value} {ms : List ME} {xs : List Cg} (h : ElO c w base v ms xs) (hb : Below B w w1) (hB : w.heap.size ≤ B) : ElO c w1 base v ms xs :=
  h.of_heap fun k cs t _ e _ => hb.block k (Nat.lt_of_lt_of_le (hlt e) hB)
theorem ElO.lower {c : Bool} {w : World} {base base' : Nat} {v : Value} {ms : List ME} {xs : List Cg} (h : ElO c w base v ms xs) (hb : base' ≤ base) : ElO c w base' v ms xs :=
  ⟨h.own.lower hb, h.len, fun i hi => by obtain ⟨a1, a2, a3, a4⟩ := h.el i hi; exact ⟨a1, a2, a3, own_lower a4 hb⟩⟩
theorem gD_app_l {α : Type} (l m : List α) (d : α) (i : Nat) (h : i < l.length) : (l ++ m).getD i d = l.getD i d := by
  rw [List.getD_eq_getElem?_getD, List.getD_eq_getElem?_getD, List.getElem?_append_left h]
theorem gD_app_r {α : Type} (l : List α) (x d : α) : (l ++ [x]).getD l.length d = x := by
  rw [List.getD_eq_getElem?_getD, List.getElem?_append_right (Nat.le_refl _)]; simp
theorem Try.infoEm (c : Bool) : (Try.prog.info? (tyE c)).map (fun i => (i.zero.map (·.cells.size), i.size, i.bytes)) = some (some (szE c), szE c, if c then 64 else 56) := by cases c <;> kernel_rfl
theorem Try.infoE (c : Bool) : ∃ i z, Try.prog.info? (tyE c) = some i ∧ i.zero = some z ∧ z.cells.size = szE c ∧ i.size = szE c ∧ i.bytes = if c then 64 else 56 := by
  have h := Try.infoEm c
  cases hq : Try.prog.info? (tyE c) with
  | none => rw [hq] at h; cases h
  | some i =>
    rw [hq] at h
    simp only [Option.map_some, Option.some.injEq, Prod.mk.injEq] at h
    cases hz : i.zero with
    | none => rw [hz] at h; cases h.1
    | some z =>
      rw [hz] at h
      simp only [Option.map_some, Option.some.injEq] at h
      exact ⟨i, z, rfl, hz, h.1, h.2.1, h.2.2⟩
theorem Try.undL (c : Bool) : Try.prog.underlying (tyL c) = some (.slice (tyE c)) := by cases c <;> kernel_rfl
theorem wpList_pushL (c : Bool) {w : World} {ops : Array Oper} {rest : List Oper} {o : Oper} {a : Act} {Q : Exit → Act → World → Prop} (hgd : o.guard = none) (s x : Operand)
    (ho : o.op = .call { callee := .builtin .append, args := #[s, x], argTypes := #[tyL c, tyL c] })
    (base : Nat) (v : Value) (ms : List ME) (m : ME) (hs : a.eval s = v) (hown : OwnL c w base v ms) (hx : a.eval x = .slice (some ⟨w.heap.size, 0, none⟩) 1 1) (hl : (enM c m).length = szE c) (h1 : ∀ y ∈ enM c m, y.oneCell' = true)
    (hlen : ms.length + 1 ≤ 1000000000000) (hbase : base ≤ w.heap.size) (t : TypeId) (fr : Nat × Nat)
    (h : ∀ v' w', OwnL c w' base v' (ms ++ [m]) → w.grownBy w' v.ownBlock → wpList Try.prog ops Q rest (a.put o.dst v') w') :
    wpList Try.prog ops Q (o :: rest) a (w.alloc (.cells (enM c m).toArray t fr)) := by
  obtain ⟨i5, z, hi5, hz5, hc5, hs5, hy5⟩ := Try.infoE c
  have hown' : OwnL c (w.alloc (.cells (enM c m).toArray t fr)) base v ms := hown.of_heap fun k hk => by
    show (w.heap.push _)[k]? = _
    rw [Array.getElem?_push, if_neg (by have := (hown.block k hk).2.1; omega)]
  have hz0 : 0 < szE c := by unfold szE; cases c <;> simp
  have hb64 : (if c then 64 else 56 : Nat) ≤ 64 := by cases c <;> simp
  refine wpList_append_own_at _ hgd s x (tyL c) ho base (tyE c) i5 z (szE c) (if c then 64 else 56) (Try.undL c) hi5 hz5 hs5 hy5 hc5 hz0 v ms.length _ hs hown' ⟨w.heap.size, 0, none⟩ 1 1 (enM c m) hx (by omega) ?_ h1 (by unfold maxLen; omega) ?_ (by simp; omega) ?_
  · intro j u hu
    rw [Addr.add_mid, Nat.zero_add, cell_of_row _ _ _ _ _ _ (hnew w _)]
    simpa using hu
  · cases c <;> simp <;> omega
  · intro v' w' q1 q2 _ q4
    refine h v' w' (by unfold OwnL; rw [List.length_append, List.flatMap_append]; simpa using q1) ⟨q2.os, q2.tape, q2.output, ?_, fun k hk hne => ?_⟩
    · have := q2.size; simp at this; omega
    · rw [q2.block k (by simp; omega) hne]
      show (w.heap.push _)[k]? = _
      rw [Array.getElem?_push, if_neg (by omega)]
theorem slice_el (c : Bool) (ks : List Value) (hk : ks.length = szE c) (w : World) :
    (Instr.buildSlice (tyL c) 1 #[(0, .agg ks.toArray)]).run Try.prog w = .ok (.slice (some ⟨w.heap.size, 0, none⟩) 1 1) (w.alloc (.cells ks.toArray (tyE c))) := by
  cases c
  · obtain ⟨x0, x1, x2, x3, x4, x5, x6, x7, x8, x9, x10, x11, x12, x13, x14, x15, x16, x17, x18, x19, x20, x21, x22, x23, x24, x25, x26, x27, x28, x29, x30, x31, x32, rfl⟩ := list33 hk
    kernel_rfl
  · obtain ⟨x0, x1, x2, x3, x4, x5, x6, x7, x8, x9, x10, x11, x12, x13, x14, x15, x16, x17, x18, x19, x20, x21, x22, x23, x24, x25, x26, x27, x28, x29, x30, x31, x32, x33, rfl⟩ := list34 hk
    kernel_rfl
theorem wpList_sliceL (c : Bool) {w : World} {ops : Array Oper} {rest : List Oper} {o : Oper} {a : Act} {Q : Exit → Act → World → Prop} (hg : o.guard = none) (x : Operand) (ho : o.op = .buildSlice (tyL c) 1 #[(0, x)])
    (ks : List Value) (hk : ks.length = szE c) (hx : a.eval x = .agg ks.toArray) (h : wpList Try.prog ops Q rest (a.put o.dst (.slice (some ⟨w.heap.size, 0, none⟩) 1 1)) (w.alloc (.cells ks.toArray (tyE c)))) :
    wpList Try.prog ops Q (o :: rest) a w := by
  refine wpList_plain hg fun K hK => ?_
  unfold Oper.wp execOp
  simp only [ho, List.map_toArray, List.map_cons, List.map_nil, hx, Sem.run_bind, slice_el c ks hk w, Result.andThen_ok, Sem.run_pure]
  exact hK _ _ h
theorem wpList_storeMidW {P : Program} {ops : Array Oper} {rest : List Oper} {op : Oper} {a : Act} {w : World} {Q : Exit → Act → World → Prop} (hgd : op.guard = none) (ty : TypeId) (x y : Operand) (ho : op.op = .store ty x y)
    (b o : Nat) (vs : List Value) (hx : a.eval x = .pointer (some ⟨b, o, none⟩)) (hy : a.eval y = .agg vs.toArray) (cs : List Value) (t : TypeId) (hrow : w.heap[b]? = some (.cells cs.toArray t (0, 0))) (hj : o + vs.length ≤ cs.length) (hi : (P.info? ty).map (·.size) = some vs.length) (h1 : ∀ v ∈ vs, v.oneCell' = true)
    (h : ∀ w', w'.heap[b]? = some (.cells (cs.take o ++ vs ++ cs.drop (o + vs.length)).toArray t (0, 0)) → Keeps b w w' → wpList P ops Q rest (a.put op.dst undef) w') : wpList P ops Q (op :: rest) a w := by
  refine wpList_store_mid hgd ty x y ho b o vs.toArray hx hy ?_ (by simpa using hi) (all_oneCell_toArray h1) ?_
  · intro j hj
    have hj2 : j < vs.length := by simpa using hj
    refine ⟨?_, frozen_of_row _ _ _ _ _ hrow⟩
    rw [cell_of_row _ _ _ _ _ _ hrow, List.getElem?_toArray, List.getElem?_eq_getElem (by omega)]; rfl
  · have e := setCells_row (vs := vs) (o := o) hrow hj h1
    rw [show vs.toArray.toList = vs from rfl, e]
    exact h _ (setRow_keeps hrow).1 (setRow_keeps hrow).2
theorem src_rangeAt {w : World} {b o cap : Nat} {zs : List Int} (h : Src w (some ⟨b, o, none⟩) cap zs) : w.rangeAt b o (ints .u8 zs) := fun j v hv => by
  have hj : j < zs.length := by have := (List.getElem?_eq_some_iff.1 hv).1; rwa [ints_len] at this
  obtain ⟨_, _, b', o', _, h4, h5⟩ := h
  have e := h4 (by omega)
  cases e
  rw [ints_get .u8 zs j hj] at hv
  rw [h5 j hj, hv]
end Go.Proofs.Ytenfklcgkfaajaa
