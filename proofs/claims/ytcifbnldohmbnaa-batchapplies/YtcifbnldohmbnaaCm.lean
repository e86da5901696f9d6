import Derived.Test.YtcifbnldohmbnaaCe
namespace Go.Proofs.Ytcifbnldohmbnaa
set_option linter.unusedVariables false
set_option linter.unusedSimpArgs false
open Go.RowKit
attribute [local go_sem ↓] Go.wp_at_zero Go.wp_at_succ

/-! Changes in memory. -/
structure MC where
  key : List Int
  del : Bool
  sv : Value
def encM (m : MC) : List Value := ints .u8 m.key ++ [.bool m.del, m.sv]
def OkC (c : Chg) : Prop := c.key.length = 32 ∧ Byts c.key ∧ Byts c.val ∧ c.val.length ≤ 140737488351232
def dM : MC := ⟨List.replicate 32 0, false, .slice none 0 0⟩
def dC : Chg := ⟨List.replicate 32 0, false, []⟩
/-- What a change in memory says. -/
def Says (w : World) (m : MC) (c : Chg) : Prop := m.key = c.key ∧ c.key.length = 32 ∧ m.del = c.del ∧ ∃ sp cap, m.sv = .slice sp c.val.length cap ∧ (sp = none → cap = 0) ∧ Src w sp cap c.val
theorem Says.len {w : World} {m : MC} {c : Chg} (h : Says w m c) : (encM m).length = 34 := by simp [encM, ints, h.1, h.2.1]
theorem Says.one {w : World} {m : MC} {c : Chg} (h : Says w m c) : ∀ v ∈ encM m, v.oneCell' = true := by
  intro v hv
  rcases List.mem_append.1 hv with h1 | h1
  · exact ints_one _ _ v h1
  · obtain ⟨_, _, _, sp, cap, e, _⟩ := h
    simp at h1
    rcases h1 with rfl | rfl
    · rfl
    · rw [e]; rfl
theorem Says.below {w w1 : World} {m : MC} {c : Chg} (h : Says w m c) (hb : Below w.heap.size w w1) : Says w1 m c := by
  obtain ⟨h1, h2, h3, sp, cap, h4, h5, h6⟩ := h
  exact ⟨h1, h2, h3, sp, cap, h4, h5, h6.below hb (Nat.le_refl _)⟩
def SaysL (w : World) (ms : List MC) (cs : List Chg) : Prop := ms.length = cs.length ∧ ∀ i, i < cs.length → Says w (ms.getD i dM) (cs.getD i dC)
theorem SaysL.below {w w1 : World} {ms : List MC} {cs : List Chg} (h : SaysL w ms cs) (hb : Below w.heap.size w w1) : SaysL w1 ms cs := ⟨h.1, fun i hi => (h.2 i hi).below hb⟩
/-- A slice of changes: what it reads as. -/
structure Chs (w : World) (sp : Option Addr) (cap : Nat) (cs : List Chg) (b o : Nat) (ms : List MC) : Prop where
  le : cs.length ≤ cap
  mx : cap ≤ maxLen
  nil : sp = none → cap = 0
  pos : 0 < cs.length → b < w.heap.size ∧ sp = some ⟨b, o, none⟩
  rd : ∀ i, i < cs.length → w.rangeAt b (o + i * 34) (encM (ms.getD i dM))
  says : SaysL w ms cs
theorem Chs.below {w w1 : World} {sp : Option Addr} {cap : Nat} {cs : List Chg} {b o : Nat} {ms : List MC} (h : Chs w sp cap cs b o ms) (hb : Below w.heap.size w w1) : Chs w1 sp cap cs b o ms :=
  ⟨h.le, h.mx, h.nil, fun hp => ⟨Nat.lt_of_lt_of_le (h.pos hp).1 hb.size, (h.pos hp).2⟩, fun i hi => rng_below (h.rd i hi) hb (h.pos (by omega)).1, h.says.below hb⟩
/-- The parts of one change. -/
theorem Chs.at {w : World} {sp : Option Addr} {cap : Nat} {cs : List Chg} {b o : Nat} {ms : List MC} (h : Chs w sp cap cs b o ms) (i : Nat) (hi : i < cs.length) :
    ∃ sp' c', w.rangeAt b (o + i * 34) (ints .u8 (cs.getD i dC).key) ∧ w.cell? ⟨b, o + i * 34 + 32, none⟩ = some (.bool (cs.getD i dC).del) ∧ w.cell? ⟨b, o + i * 34 + 33, none⟩ = some (.slice sp' (cs.getD i dC).val.length c') ∧ (sp' = none → c' = 0) ∧ Src w sp' c' (cs.getD i dC).val ∧ (cs.getD i dC).key.length = 32 ∧ (ms.getD i dM).sv = .slice sp' (cs.getD i dC).val.length c' := by
  have hr := h.rd i hi
  obtain ⟨e1, e2, e3, sp', c', e4, e5, e6⟩ := h.says.2 i hi
  generalize ms.getD i dM = m at *
  generalize cs.getD i dC = c at *
  have hl : (ints .u8 m.key).length = 32 := by rw [ints_len, e1, e2]
  refine ⟨sp', c', fun j v hv => hr j v ?_, ?_, ?_, e5, e6, e2, e4⟩
  · rw [← e1] at hv
    have := (List.getElem?_eq_some_iff.1 hv).1
    rw [encM, List.getElem?_append_left this]; exact hv
  · exact hr 32 _ (by rw [encM, List.getElem?_append_right (by omega), hl, ← e3]; rfl)
  · exact hr 33 _ (by rw [encM, List.getElem?_append_right (by omega), hl, e4]; rfl)
/-- A list of changes that the call made itself. -/
def OwnM (w : World) (base : Nat) (v : Value) (ms : List MC) : Prop := w.ownsRow base 40 34 v ms.length (ms.flatMap encM)
theorem flat_get : ∀ (ms : List MC) (hl : ∀ m ∈ ms, (encM m).length = 34) (i j : Nat) (hj : j < 34), (ms.flatMap encM)[i * 34 + j]? = if i < ms.length then (encM (ms.getD i dM))[j]? else none
  | [], _, i, j, hj => by simp
  | m :: ms, hl, 0, j, hj => by
    rw [List.flatMap_cons, Nat.zero_mul, Nat.zero_add, List.getElem?_append_left (by rw [hl m (by simp)]; exact hj)]; simp
  | m :: ms, hl, i + 1, j, hj => by
    have := flat_get ms (fun x hx => hl x (by simp [hx])) i j hj
    rw [List.flatMap_cons, List.getElem?_append_right (by rw [hl m (by simp)]; omega), hl m (by simp), show (i + 1) * 34 + j - 34 = i * 34 + j by omega, this]
    simp
theorem flat_len : ∀ (ms : List MC) (hl : ∀ m ∈ ms, (encM m).length = 34), (ms.flatMap encM).length = ms.length * 34
  | [], _ => by simp
  | m :: ms, hl => by
    rw [List.flatMap_cons, List.length_append, flat_len ms (fun x hx => hl x (by simp [hx])), hl m (by simp), List.length_cons]; omega
theorem OwnM.nil (w : World) (base : Nat) : OwnM w base (.slice none 0 0) [] := ⟨rfl, Or.inl ⟨rfl, rfl⟩⟩
theorem OwnM.block {w : World} {base : Nat} {v : Value} {ms : List MC} (h : OwnM w base v ms) : ∀ k, v.ownBlock = some k → base ≤ k ∧ k < w.heap.size ∧ ∃ cs, w.heap[k]? = some (.cells cs 40 (0, 0)) := by
  intro k hk
  rcases h.2 with ⟨rfl, _⟩ | ⟨g, cap, cur, rfl, hg, hh, _⟩
  · simp [Value.ownBlock] at hk
  · simp [Value.ownBlock] at hk; subst hk; exact ⟨hg, hlt hh, cur, hh⟩
theorem OwnM.of_heap {w w1 : World} {base : Nat} {v : Value} {ms : List MC} (h : OwnM w base v ms) (hk : ∀ k, v.ownBlock = some k → w1.heap[k]? = w.heap[k]?) : OwnM w1 base v ms := by
  refine ⟨h.1, ?_⟩
  rcases h.2 with h2 | ⟨g, cap, cur, rfl, hg, hh, r⟩
  · exact Or.inl h2
  · exact Or.inr ⟨g, cap, cur, rfl, hg, (hk g rfl).trans hh, r⟩
theorem OwnM.below {w w1 : World} {base B : Nat} {v : Value} {ms : List MC} (h : OwnM w base v ms) (hb : Below B w w1) (hB : w.heap.size ≤ B) : OwnM w1 base v ms :=
  h.of_heap fun k hv => hb.block k (by have := (h.block k hv).2.1; omega)
theorem SaysL.mem {w : World} {ms : List MC} {cs : List Chg} (h : SaysL w ms cs) : ∀ m ∈ ms, (encM m).length = 34 := fun m hm => by
  obtain ⟨i, hi, rfl⟩ := List.mem_iff_getElem.1 hm
  have := (h.2 i (by rw [← h.1]; exact hi)).len
  rwa [List.getD_eq_getElem?_getD, List.getElem?_eq_getElem hi] at this
/-- What the call made, read. -/
theorem OwnM.chs {w : World} {base : Nat} {v : Value} {ms : List MC} {cs : List Chg} (h : OwnM w base v ms) (hs : SaysL w ms cs) : ∃ sp cap b, v = .slice sp cs.length cap ∧ Chs w sp cap cs b 0 ms ∧ (0 < cs.length → base ≤ b) := by
  have hl := hs.mem
  obtain ⟨h1, ⟨rfl, hn⟩ | ⟨g, cap, cur, rfl, hg, hh, hc, hm, hsz, ht⟩⟩ := h
  · have h0 : cs.length = 0 := by rw [← hs.1, hn]
    exact ⟨none, 0, 0, by rw [h0], ⟨by omega, by simp [maxLen], fun _ => rfl, fun h => by omega, fun i hi => by omega, hs⟩, fun h => by omega⟩
  · refine ⟨some ⟨g, 0, none⟩, cap, g, by rw [hs.1], ⟨by rw [← hs.1]; exact hc, hm, (fun h => by cases h), fun _ => ⟨hlt hh, rfl⟩, fun i hi j v' hv => ?_, hs⟩, fun _ => hg⟩
    have hi' : i < ms.length := by rw [hs.1]; exact hi
    have hj : j < 34 := by
      have := (List.getElem?_eq_some_iff.1 hv).1
      rwa [hl _ (by rw [List.getD_eq_getElem?_getD, List.getElem?_eq_getElem hi']; exact List.getElem_mem hi')] at this
    have e := flat_get ms hl i j hj
    rw [if_pos hi', hv, ← ht, List.getElem?_take, if_pos (by omega)] at e
    rw [Nat.zero_add, cell_of_row _ _ _ _ _ _ hh]
    simpa using e
theorem SaysL.snoc {w : World} {ms : List MC} {cs : List Chg} {m : MC} {c : Chg} (h : SaysL w ms cs) (hc : Says w m c) : SaysL w (ms ++ [m]) (cs ++ [c]) := by
  refine ⟨by simp [h.1], fun i hi => ?_⟩
  by_cases hlt : i < cs.length
  · have := h.2 i hlt
    rw [List.getD_eq_getElem?_getD, List.getElem?_append_left (by rw [h.1]; exact hlt), List.getD_eq_getElem?_getD, List.getElem?_append_left hlt]
    rwa [List.getD_eq_getElem?_getD, List.getD_eq_getElem?_getD] at this
  · obtain rfl : i = cs.length := by simp at hi; omega
    rw [List.getD_eq_getElem?_getD, List.getElem?_append_right (by rw [h.1]; exact Nat.le_refl _), List.getD_eq_getElem?_getD, List.getElem?_append_right (Nat.le_refl _), h.1, Nat.sub_self]
    exact hc
theorem SaysL.nil (w : World) : SaysL w [] [] := ⟨rfl, fun i hi => by simp at hi⟩
theorem Try.infoCm : (Try.prog.info? 40).map (fun i => (i.zero.map (·.cells.size), i.size, i.bytes)) = some (some 34, 34, 64) := by kernel_rfl
theorem Try.infoC : ∃ i z, Try.prog.info? 40 = some i ∧ i.zero = some z ∧ z.cells.size = 34 ∧ i.size = 34 ∧ i.bytes = 64 := by
  have h := Try.infoCm
  cases hq : Try.prog.info? 40 with
  | none => rw [hq] at h; cases h
  | some i =>
    rw [hq] at h
    simp only [Option.map_some, Option.some.injEq, Prod.mk.injEq] at h
    obtain ⟨h1, h2, h3⟩ := h
    cases hz : i.zero with
    | none => rw [hz] at h1; cases h1
    | some z => rw [hz] at h1; simp at h1; exact ⟨i, z, rfl, hz, h1, h2, h3⟩
/-- append(own list of changes, one more), the new one in a block of its own. -/
theorem wpList_pushC {w : World} {ops : Array Oper} {rest : List Oper} {o : Oper} {a : Act} {Q : Exit → Act → World → Prop} (hgd : o.guard = none) (s x : Operand)
    (ho : o.op = .call { callee := .builtin .append, args := #[s, x], argTypes := #[29, 29] })
    (base : Nat) (v : Value) (ms : List MC) (m : MC) (hs : a.eval s = v) (hown : OwnM w base v ms) (hx : a.eval x = .slice (some ⟨w.heap.size, 0, none⟩) 1 1) (hl : (encM m).length = 34) (h1 : ∀ y ∈ encM m, y.oneCell' = true)
    (hlen : ms.length + 1 ≤ 2199023255552) (hbase : base ≤ w.heap.size) (t : TypeId) (fr : Nat × Nat)
    (h : ∀ v' w', OwnM w' base v' (ms ++ [m]) → Below base w w' → (∀ k, k < w.heap.size → v.ownBlock ≠ some k → w'.heap[k]? = w.heap[k]?) → (v'.ownBlock = v.ownBlock ∨ ∃ k, v'.ownBlock = some k ∧ w.heap.size ≤ k) → wpList Try.prog ops Q rest (a.put o.dst v') w') :
    wpList Try.prog ops Q (o :: rest) a (w.alloc (.cells (encM m).toArray t fr)) := by
  obtain ⟨i5, z, hi5, hz5, hc5, hs5, hy5⟩ := Try.infoC
  have hown' : OwnM (w.alloc (.cells (encM m).toArray t fr)) base v ms := hown.of_heap fun k hk => by
    show (w.heap.push _)[k]? = _
    rw [Array.getElem?_push, if_neg (by have := (hown.block k hk).2.1; omega)]
  refine wpList_append_own_at _ hgd s x 29 ho base 40 i5 z 34 64 Try.underlying29 hi5 hz5 hs5 hy5 hc5 (by decide) v ms.length _ hs hown' ⟨w.heap.size, 0, none⟩ 1 1 (encM m) hx (by omega) ?_ h1 (by unfold maxLen; omega) (by omega) (by simp; omega) ?_
  · intro j u hu
    rw [Addr.add_mid, Nat.zero_add, cell_of_row _ _ _ _ _ _ (hnew w _)]
    simpa using hu
  · intro v' w' q1 q2 _ q4
    have hB1 : Below base w (w.alloc (.cells (encM m).toArray t fr)) := (Below.refl _ _).alloc hbase _
    refine h v' w' (by unfold OwnM; rw [List.length_append, List.flatMap_append]; simpa using q1) (hB1.trans (grown_keeps q2 (fun k hk => (hown.block k hk).1) (by simp; omega))) (fun k hk hne => ?_) ?_
    · rw [q2.block k (by simp; omega) (fun e => hne e.symm)]
      show (w.heap.push _)[k]? = _
      rw [Array.getElem?_push, if_neg (by omega)]
    · rcases q4 with e | e
      · exact Or.inl e
      · exact Or.inr ⟨_, e, by simp⟩
end Go.Proofs.Ytcifbnldohmbnaa
