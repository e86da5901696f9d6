import Derived.Test.YtcifbnldohmbnabPa
namespace Go.Proofs.Ytcifbnldohmbnab
set_option linter.unusedVariables false
set_option linter.unusedSimpArgs false
open Go.RowKit
attribute [local go_sem ↓] Go.wp_at_zero Go.wp_at_succ

theorem wpList_cut2 {w : World} {ops : Array Oper} {rest : List Oper} {op : Oper} {a : Act} {Q : Exit → Act → World → Prop} (hg : op.guard = none) (x l u : Operand) (ho : op.op = .slice 27 x (some l) (some u) none) (b o n cap i j : Nat)
    (hx : a.eval x = .slice (some ⟨b, o, none⟩) n cap) (hl : a.eval l = .int .i64 i) (hu : a.eval u = .int .i64 j) (hi : (i : Int) ≤ (j : Int)) (hj : (j : Int) ≤ (cap : Int)) (h : ∀ s, s = (if cap = i then some (⟨b, o, none⟩ : Addr) else some ⟨b, o + i, none⟩) → wpList Try.prog ops Q rest (a.put op.dst (.slice s (j - i) (cap - i))) w) : wpList Try.prog ops Q (op :: rest) a w := by
  refine wpList_plain hg fun K hK => ?_
  have hh := h _ rfl
  unfold Oper.wp execOp
  rw [ho]
  simp only [hx, hl, hu, Option.map_some, Option.map_none]
  go_simp
  exact hK _ _ hh
/-- A piece of a list of bytes. -/
theorem Rst.mid {w : World} {b o cap : Nat} {z : List Int} (h : Src w (some ⟨b, o, none⟩) cap z) (hz : 0 < z.length) (i n : Nat) (hi : i + n ≤ z.length) (s : Option Addr) (hs : s = if cap = i then some ⟨b, o, none⟩ else some ⟨b, o + i, none⟩) : Src w s (cap - i) ((z.drop i).take n) ∧ (s = none → cap - i = 0) := by
  subst hs
  refine ⟨?_, fun e => by split at e <;> cases e⟩
  by_cases hc : cap = i
  · have h0 : (z.drop i).take n = [] := List.eq_nil_of_length_eq_zero (by rw [List.length_take, List.length_drop]; have := h.1; omega)
    rw [h0]; exact Src.empty w _ _ (by have := h.2.1; unfold maxLen at *; omega)
  · rw [if_neg hc]
    exact tail_src h hz i n (cap - i) (by omega) (by have := h.1; omega) (by have := h.2.1; unfold maxLen at *; omega)
theorem enc_setk (m : MC) (j : Nat) (x : Int) (hj : j < m.key.length) : (encM m).toArray.setIfInBounds j (.int .u8 x) = (encM ⟨m.key.set j x, m.del, m.sv⟩).toArray := by
  simp only [encM, List.setIfInBounds_toArray]
  rw [List.set_append_left _ _ (by rw [ints_len]; exact hj)]
  simp [ints, List.map_set]
theorem enc_setd (m : MC) (d : Bool) (hj : m.key.length = 32) : (encM m).toArray.setIfInBounds 32 (.bool d) = (encM ⟨m.key, d, m.sv⟩).toArray := by
  simp only [encM, List.setIfInBounds_toArray]
  rw [List.set_append_right _ _ (by rw [ints_len, hj]; exact Nat.le_refl _), ints_len, hj]; rfl
theorem enc_setv (m : MC) (v : Value) (hj : m.key.length = 32) : (encM m).toArray.setIfInBounds 33 v = (encM ⟨m.key, m.del, v⟩).toArray := by
  simp only [encM, List.setIfInBounds_toArray]
  rw [List.set_append_right _ _ (by rw [ints_len, hj]; decide), ints_len, hj]; rfl
theorem one_encM (m : MC) (h : m.sv.oneCell' = true) : ∀ v ∈ encM m, v.oneCell' = true := by
  intro v hv
  rcases List.mem_append.1 hv with h1 | h1
  · exact ints_one _ _ v h1
  · simp at h1; rcases h1 with rfl | rfl
    · rfl
    · exact h
/-- What the document's own one tells. -/
def ROpost (w : World) (z : List Int) (a : Nat) (e : Ending) (w' : World) : Prop := ∃ (m : MC) (x : Nat), e = .returned (.tuple #[.agg (encM m).toArray, .int .i64 x, .int .i64 (one (z.drop a)).e]) ∧ m.key.length = 32 ∧ (∃ sp n c, m.sv = .slice sp n c) ∧ ((one (z.drop a)).e = 0 → x = a + (one (z.drop a)).n ∧ m.key = (one (z.drop a)).c.key ∧ m.del = (one (z.drop a)).c.del ∧ Own w' w.heap.size m.sv (one (z.drop a)).c.val) ∧ Below w.heap.size w w'
theorem ro_err {w w' : World} {z : List Int} {a : Nat} {v : Value} {en : Int} (h : (one (z.drop a)).e = en) (hne : en ≠ 0) (k : List Int) (hk : k.length = 32) (x : Nat) (hv : v = .tuple #[.agg (encM ⟨k, false, .slice none 0 0⟩).toArray, .int .i64 x, .int .i64 en]) (hb : Below w.heap.size w w') : ROpost w z a (.returned v) w' :=
  ⟨⟨k, false, .slice none 0 0⟩, x, by rw [hv, h], hk, ⟨none, 0, 0, rfl⟩, fun e => absurd (h.symm.trans e) hne, hb⟩
theorem dropD (z : List Int) (a i : Nat) : (z.drop a).getD i 0 = z.getD (a + i) 0 := by simp [List.getD_eq_getElem?_getD, List.getElem?_drop]
theorem below2Z (w : World) (A B : Obj) : Below w.heap.size w ((w.alloc A).alloc B) := ((Below.refl _ _).alloc (Nat.le_refl _) _).alloc (by simp) _
set_option maxRecDepth 100000 in
set_option maxHeartbeats 1000000 in
theorem rone_e1 (w : World) (z : List Int) (a : Nat) (sp : Option Addr) (cap : Nat) (hS : Src w sp cap z) (hy : Byts z) (hz : z.length ≤ 140737488355328) (ha : a ≤ z.length) (h : a = z.length) :
    Calls Try.prog 44 #[.slice sp z.length cap, .int .i64 a] w (ROpost w z a) := by
  have HO := hid (show (one (z.drop a)).e = 30 by unfold one; rw [if_pos (Or.inl (by rw [List.length_drop]; omega))])
  obtain ⟨hc, hm, b, o, hb, hsp, hsrc⟩ := id hS
  unfold maxLen at hm
  have i0 : (z.length : Int) ≤ 140737488355328 := by omega
  have ia : (a : Int) ≤ (z.length : Int) := by omega
  obtain ⟨Z, hZ⟩ : ∃ Z, Z = encM dM := ⟨_, rfl⟩
  have g1 := hold2 w (.cells Z.toArray 52) (.cells Z.toArray 52)
  have g2 := hnew2 w (.cells Z.toArray 52) (.cells Z.toArray 52)
  have hB := below2Z w (.cells Z.toArray 52) (.cells Z.toArray 52)
  have SO := hid (show Z.toArray.size = 34 by rw [hZ]; simpa using encD_len)
  have oo : ∀ v ∈ Z, v.oneCell' = true := by rw [hZ]; decide
  have HZ := hid hZ
  have FIN := hid (show ∀ v, v = .tuple #[.agg Z.toArray, .int .i64 a, .int .i64 30] → ROpost w z a (.returned v) (((w.alloc (.cells Z.toArray 52)).alloc (.cells Z.toArray 52)).setRow w.heap.size Z.toArray) from fun v hv => ro_err HO.out (by decide) (List.replicate 32 0) (by simp) a (by rw [hv, hZ]; rfl) (below_setRow hB (Nat.le_refl _) _))
  clear hZ
  have ib : (z.length : Int) ≤ (a : Int) := by omega
  clear h hsrc
  generalize z.length = n at *
  go_enter Try.func44, Try.ntmps44
  go_wp2_with (first
    | refine wpList_allocZ rfl rfl Z HZ.out ?_
    | refine wpList_load_row rfl 52 _ rfl _ rfl 52 _ _ _ (by exact g2) Try.underlying52 rfl (by rw [chgSize, SO.out]) ?_
    | (refine wpList_store_row rfl 52 _ _ rfl _ _ rfl rfl 52 _ (by exact g1) (by rw [chgSize, SO.out]) rfl (all_oneCell_toArray oo) ?_))
  refine bodyPost_ret (results_c3 Try.results44 _ _ w.heap.size 52 Z.toArray _ _ rfl (setRow_heap _ _ _ _ _ _ g1) Try.underlying52 rfl (by rw [chgSize, SO.out])) rfl ?_
  exact FIN.out _ rfl
set_option maxRecDepth 100000 in
set_option maxHeartbeats 1000000 in
theorem rone_e2 (w : World) (z : List Int) (a : Nat) (sp : Option Addr) (cap : Nat) (hS : Src w sp cap z) (hy : Byts z) (hz : z.length ≤ 140737488355328) (ha : a ≤ z.length) (h : a < z.length) (h1 : z.getD a 0 ≠ 1) (h2 : z.getD a 0 ≠ 2) :
    Calls Try.prog 44 #[.slice sp z.length cap, .int .i64 a] w (ROpost w z a) := by
  have HO := hid (show (one (z.drop a)).e = 30 by unfold one; rw [if_pos (Or.inr (by rw [dropD]; exact ⟨h1, h2⟩))])
  obtain ⟨hc, hm, b, o, hb, hsp, hsrc⟩ := id hS
  unfold maxLen at hm
  have i0 : (z.length : Int) ≤ 140737488355328 := by omega
  have ia : (a : Int) ≤ (z.length : Int) := by omega
  obtain ⟨Z, hZ⟩ : ∃ Z, Z = encM dM := ⟨_, rfl⟩
  have g1 := hold2 w (.cells Z.toArray 52) (.cells Z.toArray 52)
  have g2 := hnew2 w (.cells Z.toArray 52) (.cells Z.toArray 52)
  have hB := below2Z w (.cells Z.toArray 52) (.cells Z.toArray 52)
  have SO := hid (show Z.toArray.size = 34 by rw [hZ]; simpa using encD_len)
  have oo : ∀ v ∈ Z, v.oneCell' = true := by rw [hZ]; decide
  have HZ := hid hZ
  have FIN := hid (show ∀ v, v = .tuple #[.agg Z.toArray, .int .i64 a, .int .i64 30] → ROpost w z a (.returned v) (((w.alloc (.cells Z.toArray 52)).alloc (.cells Z.toArray 52)).setRow w.heap.size Z.toArray) from fun v hv => ro_err HO.out (by decide) (List.replicate 32 0) (by simp) a (by rw [hv, hZ]; rfl) (below_setRow hB (Nat.le_refl _) _))
  clear hZ
  obtain rfl := hsp (by omega)
  have hbl := hb (by omega)
  have c0 := (hB.cell (p := ⟨b, o + a, none⟩) hbl).trans (hsrc a (by omega))
  have ib : ¬ (z.length : Int) ≤ (a : Int) := by omega
  have ic : (a : Int) < (z.length : Int) := by omega
  clear h hsrc
  generalize z.getD a 0 = x at *
  have e1 : (x != 1) = true := by simp [h1]
  have e2 : (x != 2) = true := by simp [h2]
  generalize z.length = n at *
  go_enter Try.func44, Try.ntmps44
  go_wp2_with (first
    | refine wpList_allocZ rfl rfl Z HZ.out ?_
    | refine wpList_load_row rfl 52 _ rfl _ rfl 52 _ _ _ (by exact g2) Try.underlying52 rfl (by rw [chgSize, SO.out]) ?_
    | (refine wpList_store_row rfl 52 _ _ rfl _ _ rfl rfl 52 _ (by exact g1) (by rw [chgSize, SO.out]) rfl (all_oneCell_toArray oo) ?_))
  refine bodyPost_ret (results_c3 Try.results44 _ _ w.heap.size 52 Z.toArray _ _ rfl (setRow_heap _ _ _ _ _ _ g1) Try.underlying52 rfl (by rw [chgSize, SO.out])) rfl ?_
  exact FIN.out _ rfl
set_option maxRecDepth 100000 in
set_option maxHeartbeats 1000000 in
theorem rone_e3 (w : World) (z : List Int) (a : Nat) (sp : Option Addr) (cap : Nat) (hS : Src w sp cap z) (hy : Byts z) (hz : z.length ≤ 140737488355328) (ha : a ≤ z.length) (h : a < z.length) (h1 : z.getD a 0 = 1) (h2 : z.length < a + 33) :
    Calls Try.prog 44 #[.slice sp z.length cap, .int .i64 a] w (ROpost w z a) := by
  have HO := hid (show (one (z.drop a)).e = 30 by unfold one; rw [if_pos (Or.inl (by rw [List.length_drop]; omega))])
  obtain ⟨hc, hm, b, o, hb, hsp, hsrc⟩ := id hS
  unfold maxLen at hm
  have i0 : (z.length : Int) ≤ 140737488355328 := by omega
  have ia : (a : Int) ≤ (z.length : Int) := by omega
  obtain ⟨Z, hZ⟩ : ∃ Z, Z = encM dM := ⟨_, rfl⟩
  have g1 := hold2 w (.cells Z.toArray 52) (.cells Z.toArray 52)
  have g2 := hnew2 w (.cells Z.toArray 52) (.cells Z.toArray 52)
  have hB := below2Z w (.cells Z.toArray 52) (.cells Z.toArray 52)
  have SO := hid (show Z.toArray.size = 34 by rw [hZ]; simpa using encD_len)
  have oo : ∀ v ∈ Z, v.oneCell' = true := by rw [hZ]; decide
  have HZ := hid hZ
  have FIN := hid (show ∀ v, v = .tuple #[.agg Z.toArray, .int .i64 a, .int .i64 30] → ROpost w z a (.returned v) (((w.alloc (.cells Z.toArray 52)).alloc (.cells Z.toArray 52)).setRow w.heap.size Z.toArray) from fun v hv => ro_err HO.out (by decide) (List.replicate 32 0) (by simp) a (by rw [hv, hZ]; rfl) (below_setRow hB (Nat.le_refl _) _))
  clear hZ
  obtain rfl := hsp (by omega)
  have hbl := hb (by omega)
  have c0 := (hB.cell (p := ⟨b, o + a, none⟩) hbl).trans (hsrc a (by omega))
  rw [h1] at c0
  have ib : ¬ (z.length : Int) ≤ (a : Int) := by omega
  have ic : (a : Int) < (z.length : Int) := by omega
  have id' : (z.length : Int) < (a : Int) + 33 := by omega
  clear h hsrc
  generalize z.length = n at *
  go_enter Try.func44, Try.ntmps44
  go_wp2_with (first
    | refine wpList_allocZ rfl rfl Z HZ.out ?_
    | refine wpList_load_row rfl 52 _ rfl _ rfl 52 _ _ _ (by exact g2) Try.underlying52 rfl (by rw [chgSize, SO.out]) ?_
    | (refine wpList_store_row rfl 52 _ _ rfl _ _ rfl rfl 52 _ (by exact g1) (by rw [chgSize, SO.out]) rfl (all_oneCell_toArray oo) ?_))
  refine bodyPost_ret (results_c3 Try.results44 _ _ w.heap.size 52 Z.toArray _ _ rfl (setRow_heap _ _ _ _ _ _ g1) Try.underlying52 rfl (by rw [chgSize, SO.out])) rfl ?_
  exact FIN.out _ rfl
set_option maxRecDepth 100000 in
set_option maxHeartbeats 1000000 in
theorem rone_e4 (w : World) (z : List Int) (a : Nat) (sp : Option Addr) (cap : Nat) (hS : Src w sp cap z) (hy : Byts z) (hz : z.length ≤ 140737488355328) (ha : a ≤ z.length) (h : a < z.length) (h1 : z.getD a 0 = 2) (h2 : z.length < a + 33) :
    Calls Try.prog 44 #[.slice sp z.length cap, .int .i64 a] w (ROpost w z a) := by
  have HO := hid (show (one (z.drop a)).e = 30 by unfold one; rw [if_pos (Or.inl (by rw [List.length_drop]; omega))])
  obtain ⟨hc, hm, b, o, hb, hsp, hsrc⟩ := id hS
  unfold maxLen at hm
  have i0 : (z.length : Int) ≤ 140737488355328 := by omega
  have ia : (a : Int) ≤ (z.length : Int) := by omega
  obtain ⟨Z, hZ⟩ : ∃ Z, Z = encM dM := ⟨_, rfl⟩
  have g1 := hold2 w (.cells Z.toArray 52) (.cells Z.toArray 52)
  have g2 := hnew2 w (.cells Z.toArray 52) (.cells Z.toArray 52)
  have hB := below2Z w (.cells Z.toArray 52) (.cells Z.toArray 52)
  have SO := hid (show Z.toArray.size = 34 by rw [hZ]; simpa using encD_len)
  have oo : ∀ v ∈ Z, v.oneCell' = true := by rw [hZ]; decide
  have HZ := hid hZ
  have FIN := hid (show ∀ v, v = .tuple #[.agg Z.toArray, .int .i64 a, .int .i64 30] → ROpost w z a (.returned v) (((w.alloc (.cells Z.toArray 52)).alloc (.cells Z.toArray 52)).setRow w.heap.size Z.toArray) from fun v hv => ro_err HO.out (by decide) (List.replicate 32 0) (by simp) a (by rw [hv, hZ]; rfl) (below_setRow hB (Nat.le_refl _) _))
  clear hZ
  obtain rfl := hsp (by omega)
  have hbl := hb (by omega)
  have c0 := (hB.cell (p := ⟨b, o + a, none⟩) hbl).trans (hsrc a (by omega))
  rw [h1] at c0
  have ib : ¬ (z.length : Int) ≤ (a : Int) := by omega
  have ic : (a : Int) < (z.length : Int) := by omega
  have id' : (z.length : Int) < (a : Int) + 33 := by omega
  clear h hsrc
  generalize z.length = n at *
  go_enter Try.func44, Try.ntmps44
  go_wp2_with (first
    | refine wpList_allocZ rfl rfl Z HZ.out ?_
    | refine wpList_load_row rfl 52 _ rfl _ rfl 52 _ _ _ (by exact g2) Try.underlying52 rfl (by rw [chgSize, SO.out]) ?_
    | (refine wpList_store_row rfl 52 _ _ rfl _ _ rfl rfl 52 _ (by exact g1) (by rw [chgSize, SO.out]) rfl (all_oneCell_toArray oo) ?_))
  refine bodyPost_ret (results_c3 Try.results44 _ _ w.heap.size 52 Z.toArray _ _ rfl (setRow_heap _ _ _ _ _ _ g1) Try.underlying52 rfl (by rw [chgSize, SO.out])) rfl ?_
  exact FIN.out _ rfl
end Go.Proofs.Ytcifbnldohmbnab
