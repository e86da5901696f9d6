import Derived.Test.YtbjahdbmkcamoaaGreatDoorNr
namespace Go.Proofs.YtbjahdbmkcamoaaGreatDoor
set_option linter.unusedVariables false
set_option linter.unusedSimpArgs false
open Go.RowKit
attribute [local go_sem ↓] Go.wp_at_zero Go.wp_at_succ

theorem cmpK_le_trans {l m n : List Int} (h : cmpK l m ≤ 0) (k : cmpK m n ≤ 0) : cmpK l n ≤ 0 := by
  rcases cmpK_cases l m with h1 | h1 | h1
  · rcases cmpK_cases m n with k1 | k1 | k1
    · rw [cmpK_trans h1 k1]; decide
    · obtain rfl := cmpK_eq k1; exact h
    · omega
  · obtain rfl := cmpK_eq h1; exact k
  · omega
structure Chg where
  key : List Int
  del : Bool
  val : List Int
def plainC (c : Chg) : Chg := ⟨c.key, c.del, if c.del then [] else c.val⟩
theorem plainC_key (c : Chg) : (plainC c).key = c.key := rfl
def LeC (a b : Chg) : Prop := cmpK a.key b.key ≤ 0
def LtC (a b : Chg) : Prop := cmpK a.key b.key = -1
theorem LtC.irrefl (a : Chg) : ¬ LtC a a := fun h => by unfold LtC at h; rw [cmpK_self] at h; cases h
theorem LtC.trans {a b c : Chg} (h : LtC a b) (k : LtC b c) : LtC a c := cmpK_trans h k
theorem LtC.asymm {a b : Chg} (h : LtC a b) : ¬ LtC b a := fun k => LtC.irrefl _ (h.trans k)
theorem LtC.ne {a b : Chg} (h : LtC a b) : a.key ≠ b.key := fun e => by unfold LtC at h; rw [e, cmpK_self] at h; cases h
theorem LeC.lt {a b : Chg} (h : LeC a b) (hne : a.key ≠ b.key) : LtC a b := by
  unfold LeC at h
  rcases cmpK_cases a.key b.key with h1 | h1 | h1
  · exact h1
  · exact absurd (cmpK_eq h1) hne
  · omega
theorem LtC.le {a b : Chg} (h : LtC a b) : LeC a b := by unfold LeC; rw [h]; decide
/-- Two lists in strict order with the same members are one. -/
theorem sorted_ext : ∀ {l m : List Chg}, l.Pairwise LtC → m.Pairwise LtC → (∀ c, c ∈ l ↔ c ∈ m) → l = m
  | [], [], _, _, _ => rfl
  | [], b :: m, _, _, h => by have := (h b).2 (by simp); simp at this
  | a :: l, [], _, _, h => by have := (h a).1 (by simp); simp at this
  | a :: l, b :: m, hl, hm, h => by
    obtain ⟨h1, h2⟩ := List.pairwise_cons.1 hl
    obtain ⟨k1, k2⟩ := List.pairwise_cons.1 hm
    have e : a = b := by
      rcases List.mem_cons.1 ((h a).1 (by simp)) with rfl | ha
      · rfl
      · rcases List.mem_cons.1 ((h b).2 (by simp)) with rfl | hb
        · rfl
        · exact absurd (k1 a ha) (h1 b hb).asymm
    subst e
    rw [sorted_ext h2 k2 fun c => ?_]
    constructor
    · intro hc
      rcases List.mem_cons.1 ((h c).1 (by simp [hc])) with rfl | hq
      · exact absurd (h1 _ hc) (LtC.irrefl _)
      · exact hq
    · intro hc
      rcases List.mem_cons.1 ((h c).2 (by simp [hc])) with rfl | hq
      · exact absurd (k1 _ hc) (LtC.irrefl _)
      · exact hq
def keysC (cs : List Chg) : List (List Int) := cs.map Chg.key
theorem pairwise_ne_of_lt {l : List Chg} (h : l.Pairwise LtC) : (keysC l).Nodup := by
  unfold keysC List.Nodup
  rw [List.pairwise_map]
  exact h.imp fun h => h.ne
/-- In order, no key twice: in strict order. -/
theorem lt_of_le_nodup {l : List Chg} (h : l.Pairwise LeC) (hn : (keysC l).Nodup) : l.Pairwise LtC := by
  unfold keysC List.Nodup at hn
  rw [List.pairwise_map] at hn
  exact h.imp₂ (fun _ _ a b => LeC.lt a b) hn
/-- In order, no two neighbours alike: no key twice. -/
theorem lt_of_neighbours {l : List Chg} (h : l.Pairwise LeC) (hn : ∀ i, i + 1 < l.length → (keysC l)[i]? ≠ (keysC l)[i + 1]?) : l.Pairwise LtC := by
  induction l with
  | nil => simp
  | cons a l ih =>
    obtain ⟨h1, h2⟩ := List.pairwise_cons.1 h
    have ih' := ih h2 fun i hi => by
      have := hn (i + 1) (by simp; omega)
      simpa [keysC] using this
    refine List.pairwise_cons.2 ⟨fun b hb => ?_, ih'⟩
    cases l with
    | nil => simp at hb
    | cons c l =>
      have hac : LtC a c := (h1 c (by simp)).lt (by have := hn 0 (by simp); simpa [keysC] using this)
      rcases List.mem_cons.1 hb with rfl | hb
      · exact hac
      · exact hac.trans ((List.pairwise_cons.1 ih').1 b hb)
theorem dup_neighbours {l : List Chg} {i : Nat} (hi : i + 1 < l.length) (he : (keysC l)[i]? = (keysC l)[i + 1]?) : ¬ (keysC l).Nodup := fun hn => by
  have hl : (keysC l).length = l.length := by simp [keysC]
  have := List.pairwise_iff_getElem.1 hn i (i + 1) (by omega) (by omega) (by omega)
  rw [List.getElem?_eq_getElem (by omega), List.getElem?_eq_getElem (by omega)] at he
  exact this (Option.some.inj he)
def leB (a b : Chg) : Bool := decide (cmpK a.key b.key ≤ 0)
theorem leB_iff (a b : Chg) : leB a b = true ↔ LeC a b := by simp [leB, LeC]
def normC (cs : List Chg) : List Chg := (cs.map plainC).mergeSort leB
theorem normC_perm (cs : List Chg) : (normC cs).Perm (cs.map plainC) := List.mergeSort_perm _ _
theorem normC_le (cs : List Chg) : (normC cs).Pairwise LeC := by
  have := List.pairwise_mergeSort (le := leB) (fun a b c h k => by rw [leB_iff] at *; exact cmpK_le_trans h k) (fun a b => by
    simp only [leB, Bool.or_eq_true, decide_eq_true_eq]; rw [cmpK_neg a.key b.key]; omega) (cs.map plainC)
  exact this.imp fun h => (leB_iff _ _).1 h
theorem keys_plain (cs : List Chg) : keysC (cs.map plainC) = keysC cs := by simp [keysC, Function.comp_def, plainC_key]
theorem keys_perm {l m : List Chg} (h : l.Perm m) : (keysC l).Perm (keysC m) := h.map _
theorem nodup_perm {l m : List Chg} (h : l.Perm m) : (keysC l).Nodup ↔ (keysC m).Nodup := (keys_perm h).nodup_iff
theorem normC_lt {cs : List Chg} (hn : (keysC cs).Nodup) : (normC cs).Pairwise LtC :=
  lt_of_le_nodup (normC_le cs) ((nodup_perm (normC_perm cs)).2 (by rw [keys_plain]; exact hn))
/-- Whatever sorted list of the same changes: where no key stands twice it is this one. -/
theorem norm_unique {cs l : List Chg} (hp : l.Perm (cs.map plainC)) (hs : l.Pairwise LeC) (hn : (keysC cs).Nodup) : l = normC cs :=
  sorted_ext (lt_of_le_nodup hs ((nodup_perm hp).2 (by rw [keys_plain]; exact hn))) (normC_lt hn) fun c => by rw [hp.mem_iff, (normC_perm cs).mem_iff]
/-- The error of P3.1 up to n. -/
def longC (cs : List Chg) : Bool := cs.any fun c => !c.del && decide (128 < c.val.length)
def wrongC (cs : List Chg) (n : Nat) : Int := if n < cs.length then 31 else if longC cs then 32 else if (keysC cs).Nodup then 0 else 33
structure One where
  e : Int
  c : Chg
  n : Nat
def one (z : List Int) : One :=
  if z.length < 33 ∨ (z.getD 0 0 ≠ 1 ∧ z.getD 0 0 ≠ 2) then ⟨30, ⟨[], false, []⟩, 0⟩
  else if z.getD 0 0 = 2 then ⟨0, ⟨(z.drop 1).take 32, true, []⟩, 33⟩
  else if z.length < 35 then ⟨30, ⟨[], false, []⟩, 0⟩
  else if 128 < z.getD 33 0 + 256 * z.getD 34 0 then ⟨32, ⟨[], false, []⟩, 0⟩
  else if z.length < 35 + (z.getD 33 0 + 256 * z.getD 34 0).toNat then ⟨30, ⟨[], false, []⟩, 0⟩
  else ⟨0, ⟨(z.drop 1).take 32, false, (z.drop 35).take (z.getD 33 0 + 256 * z.getD 34 0).toNat⟩, 35 + (z.getD 33 0 + 256 * z.getD 34 0).toNat⟩
theorem hlt_ {w : World} {x : Obj} {i : Nat} (hx : w.heap[i]? = some x) : i < w.heap.size := hlt hx
theorem keySize : (Tryz.prog.info? 24).map (·.size) = some 32 := by kernel_rfl
structure MC where
  key : List Int
  del : Bool
  sv : Value
def encM (m : MC) : List Value := ints .u8 m.key ++ [.bool m.del, m.sv]
def OkC (c : Chg) : Prop := c.key.length = 32 ∧ Byts c.key ∧ Byts c.val ∧ c.val.length ≤ 140737488351232
def dM : MC := ⟨List.replicate 32 0, false, .slice none 0 0⟩
def dC : Chg := ⟨List.replicate 32 0, false, []⟩
/-- What a change in memory says. -/
def Says (w : World) (m : MC) (c : Chg) : Prop := m.key = c.key ∧ c.key.length = 32 ∧ m.del = c.del ∧ ∃ sp cap, m.sv = .slice sp c.val.length cap ∧ (sp = none → cap = 0) ∧ Src w sp cap c.val
theorem Says.len {w : World} {m : MC} {c : Chg} (h : Says w m c) : (encM m).length = 34 := by simp [encM, ints, h.1, h.2.1]
theorem Says.one {w : World} {m : MC} {c : Chg} (h : Says w m c) : ∀ v ∈ encM m, v.oneCell' = true := by
  intro v hv
  rcases List.mem_append.1 hv with h1 | h1
  · exact ints_one _ _ v h1
  · obtain ⟨_, _, _, sp, cap, e, _⟩ := h
    simp at h1
    rcases h1 with rfl | rfl
    · rfl
    · rw [e]; rfl
theorem Says.below {w w1 : World} {m : MC} {c : Chg} (h : Says w m c) (hb : Below w.heap.size w w1) : Says w1 m c := by
  obtain ⟨h1, h2, h3, sp, cap, h4, h5, h6⟩ := h
  exact ⟨h1, h2, h3, sp, cap, h4, h5, h6.below hb (Nat.le_refl _)⟩
def SaysL (w : World) (ms : List MC) (cs : List Chg) : Prop := ms.length = cs.length ∧ ∀ i, i < cs.length → Says w (ms.getD i dM) (cs.getD i dC)
theorem SaysL.below {w w1 : World} {ms : List MC} {cs : List Chg} (h : SaysL w ms cs) (hb : Below w.heap.size w w1) : SaysL w1 ms cs := ⟨h.1, fun i hi => (h.2 i hi).below hb⟩
/-- A slice of changes: what it reads as. -/
structure Chs (w : World) (sp : Option Addr) (cap : Nat) (cs : List Chg) (b o : Nat) (ms : List MC) : Prop where
  le : cs.length ≤ cap
  mx : cap ≤ maxLen
  nil : sp = none → cap = 0
  pos : 0 < cs.length → b < w.heap.size ∧ sp = some ⟨b, o, none⟩
  rd : ∀ i, i < cs.length → w.rangeAt b (o + i * 34) (encM (ms.getD i dM))
  says : SaysL w ms cs
theorem Chs.below {w w1 : World} {sp : Option Addr} {cap : Nat} {cs : List Chg} {b o : Nat} {ms : List MC} (h : Chs w sp cap cs b o ms) (hb : Below w.heap.size w w1) : Chs w1 sp cap cs b o ms :=
  ⟨h.le, h.mx, h.nil, fun hp => ⟨Nat.lt_of_lt_of_le (h.pos hp).1 hb.size, (h.pos hp).2⟩, fun i hi => rng_below (h.rd i hi) hb (h.pos (by omega)).1, h.says.below hb⟩
/-- The parts of one change. -/
theorem Chs.at {w : World} {sp : Option Addr} {cap : Nat} {cs : List Chg} {b o : Nat} {ms : List MC} (h : Chs w sp cap cs b o ms) (i : Nat) (hi : i < cs.length) :
    ∃ sp' c', w.rangeAt b (o + i * 34) (ints .u8 (cs.getD i dC).key) ∧ w.cell? ⟨b, o + i * 34 + 32, none⟩ = some (.bool (cs.getD i dC).del) ∧ w.cell? ⟨b, o + i * 34 + 33, none⟩ = some (.slice sp' (cs.getD i dC).val.length c') ∧ (sp' = none → c' = 0) ∧ Src w sp' c' (cs.getD i dC).val ∧ (cs.getD i dC).key.length = 32 ∧ (ms.getD i dM).sv = .slice sp' (cs.getD i dC).val.length c' := by
  have hr := h.rd i hi
  obtain ⟨e1, e2, e3, sp', c', e4, e5, e6⟩ := h.says.2 i hi
  generalize ms.getD i dM = m at *
  generalize cs.getD i dC = c at *
  have hl : (ints .u8 m.key).length = 32 := by rw [ints_len, e1, e2]
  refine ⟨sp', c', fun j v hv => hr j v ?_, ?_, ?_, e5, e6, e2, e4⟩
  · rw [← e1] at hv
    have := (List.getElem?_eq_some_iff.1 hv).1
    rw [encM, List.getElem?_append_left this]; exact hv
  · exact hr 32 _ (by rw [encM, List.getElem?_append_right (by omega), hl, ← e3]; rfl)
  · exact hr 33 _ (by rw [encM, List.getElem?_append_right (by omega), hl, e4]; rfl)
/-- A list of changes that the call made itself. -/
def OwnM (w : World) (base : Nat) (v : Value) (ms : List MC) : Prop := w.ownsRow base 79 34 v ms.length (ms.flatMap encM)
theorem flat_getC : ∀ (ms : List MC) (hl : ∀ m ∈ ms, (encM m).length = 34) (i j : Nat) (hj : j < 34), (ms.flatMap encM)[i * 34 + j]? = if i < ms.length then (encM (ms.getD i dM))[j]? else none
  | [], _, i, j, hj => by simp
  | m :: ms, hl, 0, j, hj => by
    rw [List.flatMap_cons, Nat.zero_mul, Nat.zero_add, List.getElem?_append_left (by rw [hl m (by simp)]; exact hj)]; simp
  | m :: ms, hl, i + 1, j, hj => by
    have := flat_getC ms (fun x hx => hl x (by simp [hx])) i j hj
    rw [List.flatMap_cons, List.getElem?_append_right (by rw [hl m (by simp)]; omega), hl m (by simp), show (i + 1) * 34 + j - 34 = i * 34 + j by omega, this]
    simp
theorem flat_lenC : ∀ (ms : List MC) (hl : ∀ m ∈ ms, (encM m).length = 34), (ms.flatMap encM).length = ms.length * 34
  | [], _ => by simp
  | m :: ms, hl => by
    rw [List.flatMap_cons, List.length_append, flat_lenC ms (fun x hx => hl x (by simp [hx])), hl m (by simp), List.length_cons]; omega
theorem OwnM.nil (w : World) (base : Nat) : OwnM w base (.slice none 0 0) [] := ⟨rfl, Or.inl ⟨rfl, rfl⟩⟩
theorem OwnM.block {w : World} {base : Nat} {v : Value} {ms : List MC} (h : OwnM w base v ms) : ∀ k, v.ownBlock = some k → base ≤ k ∧ k < w.heap.size ∧ ∃ cs, w.heap[k]? = some (.cells cs 79 (0, 0)) := by
  intro k hk
  rcases h.2 with ⟨rfl, _⟩ | ⟨g, cap, cur, rfl, hg, hh, _⟩
  · simp [Value.ownBlock] at hk
  · simp [Value.ownBlock] at hk; subst hk; exact ⟨hg, hlt hh, cur, hh⟩
theorem OwnM.of_heap {w w1 : World} {base : Nat} {v : Value} {ms : List MC} (h : OwnM w base v ms) (hk : ∀ k, v.ownBlock = some k → w1.heap[k]? = w.heap[k]?) : OwnM w1 base v ms := by
  refine ⟨h.1, ?_⟩
  rcases h.2 with h2 | ⟨g, cap, cur, rfl, hg, hh, r⟩
  · exact Or.inl h2
  · exact Or.inr ⟨g, cap, cur, rfl, hg, (hk g rfl).trans hh, r⟩
theorem OwnM.below {w w1 : World} {base B : Nat} {v : Value} {ms : List MC} (h : OwnM w base v ms) (hb : Below B w w1) (hB : w.heap.size ≤ B) : OwnM w1 base v ms :=
  h.of_heap fun k hv => hb.block k (by have := (h.block k hv).2.1; omega)
theorem SaysL.mem {w : World} {ms : List MC} {cs : List Chg} (h : SaysL w ms cs) : ∀ m ∈ ms, (encM m).length = 34 := fun m hm => by
  obtain ⟨i, hi, rfl⟩ := List.mem_iff_getElem.1 hm
  have := (h.2 i (by rw [← h.1]; exact hi)).len
  rwa [List.getD_eq_getElem?_getD, List.getElem?_eq_getElem hi] at this
/-- What the call made, read. -/
theorem OwnM.chs {w : World} {base : Nat} {v : Value} {ms : List MC} {cs : List Chg} (h : OwnM w base v ms) (hs : SaysL w ms cs) : ∃ sp cap b, v = .slice sp cs.length cap ∧ Chs w sp cap cs b 0 ms ∧ (0 < cs.length → base ≤ b) := by
  have hl := hs.mem
  obtain ⟨h1, ⟨rfl, hn⟩ | ⟨g, cap, cur, rfl, hg, hh, hc, hm, hsz, ht⟩⟩ := h
  · have h0 : cs.length = 0 := by rw [← hs.1, hn]
    exact ⟨none, 0, 0, by rw [h0], ⟨by omega, by simp [maxLen], fun _ => rfl, fun h => by omega, fun i hi => by omega, hs⟩, fun h => by omega⟩
  · refine ⟨some ⟨g, 0, none⟩, cap, g, by rw [hs.1], ⟨by rw [← hs.1]; exact hc, hm, (fun h => by cases h), fun _ => ⟨hlt hh, rfl⟩, fun i hi j v' hv => ?_, hs⟩, fun _ => hg⟩
    have hi' : i < ms.length := by rw [hs.1]; exact hi
    have hj : j < 34 := by
      have := (List.getElem?_eq_some_iff.1 hv).1
      rwa [hl _ (by rw [List.getD_eq_getElem?_getD, List.getElem?_eq_getElem hi']; exact List.getElem_mem hi')] at this
    have e := flat_getC ms hl i j hj
    rw [if_pos hi', hv, ← ht, List.getElem?_take, if_pos (by omega)] at e
    rw [Nat.zero_add, cell_of_row _ _ _ _ _ _ hh]
    simpa using e
theorem SaysL.snoc {w : World} {ms : List MC} {cs : List Chg} {m : MC} {c : Chg} (h : SaysL w ms cs) (hc : Says w m c) : SaysL w (ms ++ [m]) (cs ++ [c]) := by
  refine ⟨by simp [h.1], fun i hi => ?_⟩
  by_cases hlt : i < cs.length
  · have := h.2 i hlt
    rw [List.getD_eq_getElem?_getD, List.getElem?_append_left (by rw [h.1]; exact hlt), List.getD_eq_getElem?_getD, List.getElem?_append_left hlt]
    rwa [List.getD_eq_getElem?_getD, List.getD_eq_getElem?_getD] at this
  · obtain rfl : i = cs.length := by simp at hi; omega
    rw [List.getD_eq_getElem?_getD, List.getElem?_append_right (by rw [h.1]; exact Nat.le_refl _), List.getD_eq_getElem?_getD, List.getElem?_append_right (Nat.le_refl _), h.1, Nat.sub_self]
    exact hc
theorem SaysL.nil (w : World) : SaysL w [] [] := ⟨rfl, fun i hi => by simp at hi⟩
theorem Tryz.infoCm : (Tryz.prog.info? 79).map (fun i => (i.zero.map (·.cells.size), i.size, i.bytes)) = some (some 34, 34, 64) := by kernel_rfl
theorem Tryz.infoC : ∃ i z, Tryz.prog.info? 79 = some i ∧ i.zero = some z ∧ z.cells.size = 34 ∧ i.size = 34 ∧ i.bytes = 64 := by
  have h := Tryz.infoCm
  cases hq : Tryz.prog.info? 79 with
  | none => rw [hq] at h; cases h
  | some i =>
    rw [hq] at h
    simp only [Option.map_some, Option.some.injEq, Prod.mk.injEq] at h
    obtain ⟨h1, h2, h3⟩ := h
    cases hz : i.zero with
    | none => rw [hz] at h1; cases h1
    | some z => rw [hz] at h1; simp at h1; exact ⟨i, z, rfl, hz, h1, h2, h3⟩
/-- append(own list of changes, one more), the new one in a block of its own. -/
theorem wpList_pushC {w : World} {ops : Array Oper} {rest : List Oper} {o : Oper} {a : Act} {Q : Exit → Act → World → Prop} (hgd : o.guard = none) (s x : Operand)
    (ho : o.op = .call { callee := .builtin .append, args := #[s, x], argTypes := #[22, 22] })
    (base : Nat) (v : Value) (ms : List MC) (m : MC) (hs : a.eval s = v) (hown : OwnM w base v ms) (hx : a.eval x = .slice (some ⟨w.heap.size, 0, none⟩) 1 1) (hl : (encM m).length = 34) (h1 : ∀ y ∈ encM m, y.oneCell' = true)
    (hlen : ms.length + 1 ≤ 2199023255552) (hbase : base ≤ w.heap.size) (t : TypeId) (fr : Nat × Nat)
    (h : ∀ v' w', OwnM w' base v' (ms ++ [m]) → Below base w w' → (∀ k, k < w.heap.size → v.ownBlock ≠ some k → w'.heap[k]? = w.heap[k]?) → (v'.ownBlock = v.ownBlock ∨ ∃ k, v'.ownBlock = some k ∧ w.heap.size ≤ k) → wpList Tryz.prog ops Q rest (a.put o.dst v') w') :
    wpList Tryz.prog ops Q (o :: rest) a (w.alloc (.cells (encM m).toArray t fr)) := by
  obtain ⟨i5, z, hi5, hz5, hc5, hs5, hy5⟩ := Tryz.infoC
  have hown' : OwnM (w.alloc (.cells (encM m).toArray t fr)) base v ms := hown.of_heap fun k hk => by
    show (w.heap.push _)[k]? = _
    rw [Array.getElem?_push, if_neg (by have := (hown.block k hk).2.1; omega)]
  refine wpList_append_own_at _ hgd s x 22 ho base 79 i5 z 34 64 Tryz.underlying22 hi5 hz5 hs5 hy5 hc5 (by decide) v ms.length _ hs hown' ⟨w.heap.size, 0, none⟩ 1 1 (encM m) hx (by omega) ?_ h1 (by unfold maxLen; omega) (by omega) (by simp; omega) ?_
  · intro j u hu
    rw [Addr.add_mid, Nat.zero_add, cell_of_row _ _ _ _ _ _ (hnew w _)]
    simpa using hu
  · intro v' w' q1 q2 _ q4
    have hB1 : Below base w (w.alloc (.cells (encM m).toArray t fr)) := (Below.refl _ _).alloc hbase _
    refine h v' w' (by unfold OwnM; rw [List.length_append, List.flatMap_append]; simpa using q1) (hB1.trans (grown_keeps q2 (fun k hk => (hown.block k hk).1) (by simp; omega))) (fun k hk hne => ?_) ?_
    · rw [q2.block k (by simp; omega) (fun e => hne e.symm)]
      show (w.heap.push _)[k]? = _
      rw [Array.getElem?_push, if_neg (by omega)]
    · rcases q4 with e | e
      · exact Or.inl e
      · exact Or.inr ⟨_, e, by simp⟩
theorem ne_of_type {w : World} {a b : Nat} {x y : Array Value} {t u : TypeId} {f f' : Nat × Nat} (ha : w.heap[a]? = some (.cells x t f)) (hb : w.heap[b]? = some (.cells y u f')) (h : t ≠ u) : a ≠ b := by
  rintro rfl
  rw [ha] at hb
  cases hb
  exact h rfl
theorem list32 {l : List Value} (h : l.length = 32) : ∃ x0 x1 x2 x3 x4 x5 x6 x7 x8 x9 x10 x11 x12 x13 x14 x15 x16 x17 x18 x19 x20 x21 x22 x23 x24 x25 x26 x27 x28 x29 x30 x31, l = [x0, x1, x2, x3, x4, x5, x6, x7, x8, x9, x10, x11, x12, x13, x14, x15, x16, x17, x18, x19, x20, x21, x22, x23, x24, x25, x26, x27, x28, x29, x30, x31] := by
  match l, h with
  | [x0, x1, x2, x3, x4, x5, x6, x7, x8, x9, x10, x11, x12, x13, x14, x15, x16, x17, x18, x19, x20, x21, x22, x23, x24, x25, x26, x27, x28, x29, x30, x31], _ => exact ⟨x0, x1, x2, x3, x4, x5, x6, x7, x8, x9, x10, x11, x12, x13, x14, x15, x16, x17, x18, x19, x20, x21, x22, x23, x24, x25, x26, x27, x28, x29, x30, x31, rfl⟩
theorem list34 {l : List Value} (h : l.length = 34) : ∃ x0 x1 x2 x3 x4 x5 x6 x7 x8 x9 x10 x11 x12 x13 x14 x15 x16 x17 x18 x19 x20 x21 x22 x23 x24 x25 x26 x27 x28 x29 x30 x31 x32 x33, l = x0 :: x1 :: x2 :: x3 :: x4 :: x5 :: x6 :: x7 :: x8 :: x9 :: x10 :: x11 :: x12 :: x13 :: x14 :: x15 :: x16 :: x17 :: x18 :: x19 :: x20 :: x21 :: x22 :: x23 :: x24 :: x25 :: x26 :: x27 :: x28 :: x29 :: x30 :: x31 :: x32 :: x33 :: [] := by
  match l, h with
  | x0 :: x1 :: x2 :: x3 :: x4 :: x5 :: x6 :: x7 :: x8 :: x9 :: x10 :: x11 :: x12 :: x13 :: x14 :: x15 :: x16 :: x17 :: x18 :: x19 :: x20 :: x21 :: x22 :: x23 :: x24 :: x25 :: x26 :: x27 :: x28 :: x29 :: x30 :: x31 :: x32 :: x33 :: [], _ => exact ⟨x0, x1, x2, x3, x4, x5, x6, x7, x8, x9, x10, x11, x12, x13, x14, x15, x16, x17, x18, x19, x20, x21, x22, x23, x24, x25, x26, x27, x28, x29, x30, x31, x32, x33, rfl⟩
theorem slice_chg (ks : List Value) (hk : ks.length = 34) (w : World) :
    (Instr.buildSlice 22 1 #[(0, .agg ks.toArray)]).run Tryz.prog w = .ok (.slice (some ⟨w.heap.size, 0, none⟩) 1 1) (w.alloc (.cells ks.toArray 79)) := by
  obtain ⟨x0, x1, x2, x3, x4, x5, x6, x7, x8, x9, x10, x11, x12, x13, x14, x15, x16, x17, x18, x19, x20, x21, x22, x23, x24, x25, x26, x27, x28, x29, x30, x31, x32, x33, rfl⟩ := list34 hk
  kernel_rfl
theorem wpList_slice {w : World} {ops : Array Oper} {rest : List Oper} {o : Oper} {a : Act} {Q : Exit → Act → World → Prop} (hg : o.guard = none) (x : Operand) (ho : o.op = .buildSlice 22 1 #[(0, x)])
    (ks : List Value) (hk : ks.length = 34) (hx : a.eval x = .agg ks.toArray) (h : wpList Tryz.prog ops Q rest (a.put o.dst (.slice (some ⟨w.heap.size, 0, none⟩) 1 1)) (w.alloc (.cells ks.toArray 79))) :
    wpList Tryz.prog ops Q (o :: rest) a w := by
  refine wpList_plain hg fun K hK => ?_
  unfold Oper.wp execOp
  simp only [ho, List.map_toArray, List.map_cons, List.map_nil, hx, Sem.run_bind, slice_chg ks hk w, Result.andThen_ok, Sem.run_pure]
  exact hK _ _ h
/-- Where the values of a list lie: never in a block of changes. -/
theorem Own.ne_chg {w : World} {base : Nat} {v : Value} {zs : List Int} (h : Own w base v zs) : ∀ k, v.ownBlock = some k → k < w.heap.size ∧ ∃ cs, w.heap[k]? = some (.cells cs 5 (0, 0)) := by
  intro k hk
  rcases h.2 with ⟨rfl, _⟩ | ⟨g, cap, cur, rfl, hg, hh, _⟩
  · simp [Value.ownBlock] at hk
  · simp [Value.ownBlock] at hk; subst hk; exact ⟨hlt hh, cur, hh⟩
/-- A change whose value the call made, and what keeps it. -/
def OwnV (w : World) (base : Nat) (ms : List MC) (cs : List Chg) : Prop := ms.length = cs.length ∧ ∀ i, i < cs.length → (ms.getD i dM).key = (cs.getD i dC).key ∧ (cs.getD i dC).key.length = 32 ∧ (ms.getD i dM).del = (cs.getD i dC).del ∧ Own w base (ms.getD i dM).sv (cs.getD i dC).val
theorem OwnV.says {w : World} {base : Nat} {ms : List MC} {cs : List Chg} (h : OwnV w base ms cs) : SaysL w ms cs := ⟨h.1, fun i hi => by
  obtain ⟨h1, h2, h3, h4⟩ := h.2 i hi
  obtain ⟨sp, cap, e, s, n⟩ := h4.form
  exact ⟨h1, h2, h3, sp, cap, e, n, s⟩⟩
theorem OwnV.of_heap {w w1 : World} {base : Nat} {ms : List MC} {cs : List Chg} (h : OwnV w base ms cs) (hk : ∀ (k : Nat) (x : Array Value), w.heap[k]? = some (Obj.cells x 5 (0, 0)) → w1.heap[k]? = w.heap[k]?) : OwnV w1 base ms cs := ⟨h.1, fun i hi => by
  obtain ⟨h1, h2, h3, h4⟩ := h.2 i hi
  exact ⟨h1, h2, h3, h4.of_heap fun k e => by obtain ⟨_, x, hx⟩ := h4.ne_chg k e; exact hk k x hx⟩⟩
theorem OwnV.below {w w1 : World} {base : Nat} {ms : List MC} {cs : List Chg} (h : OwnV w base ms cs) (hb : Below w.heap.size w w1) : OwnV w1 base ms cs := h.of_heap fun k x hx => hb.block k (hlt hx)
theorem OwnV.nil (w : World) (base : Nat) : OwnV w base [] [] := ⟨rfl, fun i hi => by simp at hi⟩
theorem OwnV.snoc {w : World} {base : Nat} {ms : List MC} {cs : List Chg} {m : MC} {c : Chg} (h : OwnV w base ms cs) (h1 : m.key = c.key) (h2 : c.key.length = 32) (h3 : m.del = c.del) (h4 : Own w base m.sv c.val) : OwnV w base (ms ++ [m]) (cs ++ [c]) := by
  refine ⟨by simp [h.1], fun i hi => ?_⟩
  by_cases hlt : i < cs.length
  · have := h.2 i hlt
    rw [List.getD_eq_getElem?_getD, List.getElem?_append_left (by rw [h.1]; exact hlt), List.getD_eq_getElem?_getD, List.getElem?_append_left hlt]
    rwa [List.getD_eq_getElem?_getD, List.getD_eq_getElem?_getD] at this
  · obtain rfl : i = cs.length := by simp at hi; omega
    rw [List.getD_eq_getElem?_getD, List.getElem?_append_right (by rw [h.1]; exact Nat.le_refl _), List.getD_eq_getElem?_getD, List.getElem?_append_right (Nat.le_refl _), h.1, Nat.sub_self]
    exact ⟨h1, h2, h3, h4⟩
theorem Own.base {w : World} {base base' : Nat} {v : Value} {zs : List Int} (h : Own w base v zs) (hb : base' ≤ base) : Own w base' v zs := by
  refine ⟨h.1, ?_⟩
  rcases h.2 with h2 | ⟨g, cap, cur, rfl, hg, r⟩
  · exact Or.inl h2
  · exact Or.inr ⟨g, cap, cur, rfl, by omega, r⟩
theorem take_snocC (cs : List Chg) (k : Nat) (hk : k < cs.length) : cs.take (k + 1) = cs.take k ++ [cs.getD k dC] := by
  rw [List.take_succ_eq_append_getElem hk, List.getD_eq_getElem?_getD, List.getElem?_eq_getElem hk]; rfl
/-- The list that a call made, whole: the changes and their values. -/
def Mine (w : World) (base : Nat) (v : Value) (cs : List Chg) : Prop := ∃ ms, OwnM w base v ms ∧ OwnV w base ms cs
theorem Mine.below {w w1 : World} {base : Nat} {v : Value} {cs : List Chg} (h : Mine w base v cs) (hb : Below w.heap.size w w1) : Mine w1 base v cs := by
  obtain ⟨ms, h1, h2⟩ := h
  exact ⟨ms, h1.below hb (Nat.le_refl _), h2.below hb⟩
theorem Mine.chs {w : World} {base : Nat} {v : Value} {cs : List Chg} (h : Mine w base v cs) : ∃ sp cap b ms, v = .slice sp cs.length cap ∧ Chs w sp cap cs b 0 ms ∧ (0 < cs.length → base ≤ b) := by
  obtain ⟨ms, h1, h2⟩ := h
  obtain ⟨sp, cap, b, e, q, r⟩ := h1.chs h2.says
  exact ⟨sp, cap, b, ms, e, q, r⟩
theorem chgSize : (Tryz.prog.info? 79).map (·.size) = some 34 := by kernel_rfl
theorem enc_del {w w1 : World} {g t : Nat} {fr : Nat × Nat} {m : MC} {c : Chg} (hs : Says w m c) (h : w1.heap[g]? = some (.cells (encM m).toArray t fr)) : w1.cell? ⟨g, 32, none⟩ = some (.bool c.del) := by
  have hl : (ints .u8 m.key).length = 32 := by rw [ints_len, hs.1, hs.2.1]
  rw [cell_of_row _ _ _ _ _ _ h, List.getElem?_toArray, encM, List.getElem?_append_right (by omega), hl, hs.2.2.1]; rfl
theorem enc_val {w w1 : World} {g t : Nat} {fr : Nat × Nat} {m : MC} {c : Chg} (hs : Says w m c) (h : w1.heap[g]? = some (.cells (encM m).toArray t fr)) : w1.cell? ⟨g, 33, none⟩ = some m.sv := by
  have hl : (ints .u8 m.key).length = 32 := by rw [ints_len, hs.1, hs.2.1]
  rw [cell_of_row _ _ _ _ _ _ h, List.getElem?_toArray, encM, List.getElem?_append_right (by omega), hl]; rfl
theorem long_split (cs : List Chg) (k : Nat) (hk : k < cs.length) (hl : longC (cs.take k) = false) : longC (cs.take (k + 1)) = (!(cs.getD k dC).del && decide (128 < (cs.getD k dC).val.length)) := by
  rw [take_snocC cs k hk]
  unfold longC at hl ⊢
  rw [List.any_append, hl]
  simp
theorem encD_len : (encM dM).length = 34 := by simp [encM, dM, ints]
theorem run_allocZ (a : Act) (o : Oper) (ho : o.op = .alloc 79) (w : World) : (execOp a.eval o).run Tryz.prog w = .ok (.value (.pointer (some ⟨w.heap.size, 0, none⟩))) (w.alloc (.cells (encM dM).toArray 79)) := by
  unfold execOp
  rw [ho]
  kernel_rfl
theorem wpList_allocZ {w : World} {ops : Array Oper} {rest : List Oper} {o : Oper} {a : Act} {Q : Exit → Act → World → Prop} (hg : o.guard = none) (ho : o.op = .alloc 79) (Z : List Value) (hZ : Z = encM dM)
    (h : wpList Tryz.prog ops Q rest (a.put o.dst (.pointer (some ⟨w.heap.size, 0, none⟩))) (w.alloc (.cells Z.toArray 79))) : wpList Tryz.prog ops Q (o :: rest) a w := by
  subst hZ
  refine wpList_plain hg fun K hK => ?_
  unfold Oper.wp
  rw [run_allocZ a o ho w]
  exact hK _ _ h
theorem build_del' (ks : List Value) (hk : ks.length = 32) (d : Bool) (w : World) :
    (Instr.build 79 #[(0, .agg ks.toArray), (1, .bool d)]).run Tryz.prog w = .ok (.agg (ks ++ [Value.bool d, Value.slice none 0 0]).toArray) w := by
  obtain ⟨x0, x1, x2, x3, x4, x5, x6, x7, x8, x9, x10, x11, x12, x13, x14, x15, x16, x17, x18, x19, x20, x21, x22, x23, x24, x25, x26, x27, x28, x29, x30, x31, rfl⟩ := list32 hk
  kernel_rfl
theorem wpList_build_del {w : World} {ops : Array Oper} {rest : List Oper} {o : Oper} {a : Act} {Q : Exit → Act → World → Prop} (hg : o.guard = none) (x y : Operand) (ho : o.op = .build 79 #[(0, x), (1, y)]) (k : List Int) (hk : k.length = 32) (d : Bool)
    (hx : a.eval x = .agg (ints .u8 k).toArray) (hy : a.eval y = .bool d) (h : wpList Tryz.prog ops Q rest (a.put o.dst (.agg (encM ⟨k, d, .slice none 0 0⟩).toArray)) w) : wpList Tryz.prog ops Q (o :: rest) a w := by
  refine wpList_plain hg fun K hK => ?_
  unfold Oper.wp execOp
  simp only [ho, List.map_toArray, List.map_cons, List.map_nil, hx, hy, Sem.run_bind, build_del' (ints .u8 k) (by rw [ints_len, hk]) d w, Result.andThen_ok, Sem.run_pure]
  exact hK _ _ h
theorem Byts.drop {z : List Int} (h : Byts z) (i : Nat) : Byts (z.drop i) := fun x hx => h x (List.mem_of_mem_drop hx)
theorem Mine.nil (w : World) (base : Nat) : Mine w base (.slice none 0 0) [] := ⟨[], OwnM.nil _ _, OwnV.nil _ _⟩
def RowM (w : World) (g : Nat) (os : List MC) : Prop := w.heap[g]? = some (.cells (os.flatMap encM).toArray 79 (0, 0))
def Len34 (os : List MC) : Prop := ∀ m ∈ os, (encM m).length = 34
theorem Len34.set {os : List MC} (h : Len34 os) (k : Nat) (m : MC) (hm : (encM m).length = 34) : Len34 (os.set k m) := fun x hx => by
  rcases List.mem_or_eq_of_mem_set hx with h1 | rfl
  · exact h x h1
  · exact hm
theorem flat_setC : ∀ (os : List MC) (h : Len34 os) (k : Nat) (m : MC), k < os.length → (os.flatMap encM).take (k * 34) ++ encM m ++ (os.flatMap encM).drop (k * 34 + 34) = (os.set k m).flatMap encM
  | [], _, k, m, hk => by simp at hk
  | x :: os, h, 0, m, _ => by
    have hx := h x (by simp)
    rw [List.flatMap_cons, Nat.zero_mul, List.take_zero, List.nil_append, Nat.zero_add, List.drop_append_of_le_length (by omega), List.drop_of_length_le (by omega), List.nil_append, List.set_cons_zero, List.flatMap_cons]
  | x :: os, h, k + 1, m, hk => by
    have hx := h x (by simp)
    have ih := flat_setC os (fun y hy => h y (by simp [hy])) k m (by simp at hk; omega)
    rw [List.flatMap_cons, List.set_cons_succ, List.flatMap_cons, ← ih]
    rw [show (k + 1) * 34 = (encM x).length + k * 34 by omega, List.take_length_add_append, show (encM x).length + k * 34 + 34 = (encM x).length + (k * 34 + 34) by omega, List.drop_length_add_append]
    simp only [List.append_assoc]
theorem RowM.put {w : World} {g : Nat} {os : List MC} (h : RowM w g os) (hl : Len34 os) (k : Nat) (hk : k < os.length) (m : MC) (hm : (encM m).length = 34) (h1 : ∀ v ∈ encM m, v.oneCell' = true) :
    RowM (w.setCells g (k * 34) (encM m)) g (os.set k m) ∧ (∀ B, B ≤ g → Below B w (w.setCells g (k * 34) (encM m))) ∧ ∀ q, q ≠ g → (w.setCells g (k * 34) (encM m)).heap[q]? = w.heap[q]? := by
  have hf := flat_lenC os hl
  rw [setCells_row h (by rw [hf, hm]; omega) h1]
  refine ⟨?_, fun B hB => below_setRow (Below.refl _ _) hB _, fun q hq => setRow_other _ _ _ _ hq⟩
  unfold RowM
  rw [setRow_heap _ _ _ _ _ _ h, hm, flat_setC os hl k m hk]
theorem RowM.own {w : World} {base g : Nat} {os : List MC} (h : RowM w g os) (hl : Len34 os) (hb : base ≤ g) (hm : os.length ≤ maxLen) : OwnM w base (.slice (some ⟨g, 0, none⟩) os.length os.length) os := by
  have hf := flat_lenC os hl
  exact ⟨hf, Or.inr ⟨g, os.length, (os.flatMap encM).toArray, rfl, hb, h, Nat.le_refl _, hm, by simp [hf], by rw [List.take_of_length_le (by simp [hf])]⟩⟩
theorem OwnM.base {w : World} {base base' : Nat} {v : Value} {ms : List MC} (h : OwnM w base v ms) (hb : base' ≤ base) : OwnM w base' v ms := by
  refine ⟨h.1, ?_⟩
  rcases h.2 with h2 | ⟨g, cap, cur, rfl, hg, r⟩
  · exact Or.inl h2
  · exact Or.inr ⟨g, cap, cur, rfl, Nat.le_trans hb hg, r⟩
theorem OwnV.base {w : World} {base base' : Nat} {ms : List MC} {cs : List Chg} (h : OwnV w base ms cs) (hb : base' ≤ base) : OwnV w base' ms cs := ⟨h.1, fun i hi => by
  obtain ⟨h1, h2, h3, h4⟩ := h.2 i hi
  exact ⟨h1, h2, h3, h4.base hb⟩⟩
theorem Mine.base {w : World} {base base' : Nat} {v : Value} {cs : List Chg} (h : Mine w base v cs) (hb : base' ≤ base) : Mine w base' v cs := by
  obtain ⟨ms, h1, h2⟩ := h
  exact ⟨ms, h1.base hb, h2.base hb⟩
theorem OwnV.mem {w : World} {base : Nat} {ms : List MC} {cs : List Chg} (h : OwnV w base ms cs) {P : MC → Prop} (hP : ∀ m c, c ∈ cs → m.key = c.key → c.key.length = 32 → m.del = c.del → Own w base m.sv c.val → P m) : ∀ m ∈ ms, P m := by
  intro m hm
  obtain ⟨i, hi, rfl⟩ := List.mem_iff_getElem.1 hm
  have hi' : i < cs.length := by rw [← h.1]; exact hi
  obtain ⟨h1, h2, h3, h4⟩ := h.2 i hi'
  rw [List.getD_eq_getElem?_getD, List.getElem?_eq_getElem hi, Option.getD_some] at h1 h3 h4
  rw [List.getD_eq_getElem?_getD, List.getElem?_eq_getElem hi', Option.getD_some] at h1 h2 h3 h4
  exact hP _ _ (List.getElem_mem hi') h1 h2 h3 h4
theorem OwnV.le {w : World} {base : Nat} {ms : List MC} {cs : List Chg} (h : OwnV w base ms cs) (hs : ms.Pairwise fun a b => cmpK a.key b.key ≤ 0) : cs.Pairwise LeC := by
  rw [List.pairwise_iff_getElem] at hs ⊢
  intro i j hi hj hij
  have hi' : i < ms.length := by rw [h.1]; exact hi
  have hj' : j < ms.length := by rw [h.1]; exact hj
  have := hs i j hi' hj' hij
  obtain ⟨h1, _⟩ := h.2 i hi
  obtain ⟨h2, _⟩ := h.2 j hj
  rw [List.getD_eq_getElem?_getD, List.getElem?_eq_getElem hi', List.getD_eq_getElem?_getD, List.getElem?_eq_getElem hi] at h1
  rw [List.getD_eq_getElem?_getD, List.getElem?_eq_getElem hj', List.getD_eq_getElem?_getD, List.getElem?_eq_getElem hj] at h2
  simp only [Option.getD_some] at h1 h2
  unfold LeC
  rw [← h1, ← h2]; exact this
theorem key_get (l : List Chg) (i : Nat) (h : i < l.length) : (keysC l)[i]? = some (l.getD i dC).key := by
  simp [keysC, List.getD_eq_getElem?_getD, List.getElem?_eq_getElem h]
/-- What Normal tells. -/
def NorE (cs : List Chg) : Int := wrongC cs 4096
def NorL (cs : List Chg) : List Chg := if wrongC cs 4096 = 0 then normC cs else []
set_option maxRecDepth 100000 in
set_option maxHeartbeats 400000 in
theorem rbytes_any (w : World) (zs : List Int) (sp : Option Addr) (cap : Nat) (hS : Src w sp cap zs) (hlen : zs.length ≤ 140737488355000) :
    Calls Tryz.prog 78 #[.slice sp zs.length cap] w fun e w' => ∃ v, e = .returned v ∧ Own w' w.heap.size v zs ∧ Below w.heap.size w w' := by
  obtain ⟨hc, hm, b, o, hb, hsp, hsrc⟩ := hS
  have hO := Own.nil w w.heap.size
  have i0 : (zs.length : Int) ≤ 140737488355000 := by omega
  go_enter Tryz.func78, Tryz.ntmps78
  go_wp2
  go_loopw [3, 4] (fun v i wr => ∃ k : Nat, k ≤ zs.length ∧ i = .int .i64 k ∧ Own wr w.heap.size v (zs.take k) ∧ Below w.heap.size w wr) (fun _ i _ => zs.length - (intOf i).toNat)
  case atStart => exact ⟨0, by omega, rfl, hO, Below.refl _ _⟩
  case round =>
    clear hO
    obtain ⟨k, hk, rfl, hO, hB⟩ := hrel
    by_cases hlt : k < zs.length
    · have i1 : (k : Int) < (zs.length : Int) := by omega
      obtain rfl := hsp (by omega)
      have c0 := (hB.cell (p := ⟨b, o + k, none⟩) (hb (by omega))).trans (hsrc k hlt)
      have HT := hid (show zs.take (k + 1) = zs.take k ++ [zs.getD k 0] by
        rw [List.take_succ_eq_append_getElem hlt, List.getD_eq_getElem?_getD, List.getElem?_eq_getElem hlt]; rfl)
      have KL := hid (show (zs.take k).length + 1 ≤ 140737488355328 by rw [List.length_take]; omega)
      generalize zs.getD k 0 = x at *
      generalize zs.take k = zk at *
      go_wp2_with (first | (at_builtin; refine wpList_push_any rfl (.tmp 11) (.tmp 16) rfl w.heap.size _ _ x rfl hO rfl KL.out hB.size _ _ ?_; intro v2 w2 hO2 hB2))
      go_roundw
      case rel => exact ⟨k + 1, by omega, by go_num, (by rw [HT.out]; exact hO2), hB.trans hB2⟩
      case measure => simp [intOf]; omega
    · obtain rfl : k = zs.length := by omega
      rw [List.take_length] at hO
      clear hlt
      go_wp2
      go_ret
      exact ⟨_, rfl, hO, hB⟩
theorem enc_setv (m : MC) (v : Value) (hj : m.key.length = 32) : (encM m).toArray.setIfInBounds 33 v = (encM ⟨m.key, m.del, v⟩).toArray := by
  simp only [encM, List.setIfInBounds_toArray]
  rw [List.set_append_right _ _ (by rw [ints_len, hj]; decide), ints_len, hj]; rfl
theorem one_encM (m : MC) (h : m.sv.oneCell' = true) : ∀ v ∈ encM m, v.oneCell' = true := by
  intro v hv
  rcases List.mem_append.1 hv with h1 | h1
  · exact ints_one _ _ v h1
  · simp at h1; rcases h1 with rfl | rfl
    · rfl
    · exact h
theorem below2Z (w : World) (A B : Obj) : Below w.heap.size w ((w.alloc A).alloc B) := ((Below.refl _ _).alloc (Nat.le_refl _) _).alloc (by simp) _
theorem heap_enc_v {w : World} {g t : Nat} {m : MC} (h : w.heap[g]? = some (.cells (encM m).toArray t (0, 0))) (v : Value) (hj : m.key.length = 32) : (w.setCell ⟨g, 33, none⟩ v).heap[g]? = some (.cells (encM ⟨m.key, m.del, v⟩).toArray t (0, 0)) := by
  rw [heap_setCell_same _ _ _ _ _ _ h, enc_setv m v hj]
theorem enc_cell {w : World} {g t : Nat} {m : MC} {fr : Nat × Nat} (h : w.heap[g]? = some (.cells (encM m).toArray t fr)) (j : Nat) (hj : j < m.key.length) : w.cell? ⟨g, j, none⟩ = some (.int .u8 (m.key.getD j 0)) := by
  rw [cell_of_row _ _ _ _ _ _ h, List.getElem?_toArray, encM, List.getElem?_append_left (by rw [ints_len]; exact hj), ints_get _ _ _ hj]
theorem enc_cellV {w : World} {g t : Nat} {m : MC} {fr : Nat × Nat} (h : w.heap[g]? = some (.cells (encM m).toArray t fr)) (hj : m.key.length = 32) : w.cell? ⟨g, 33, none⟩ = some m.sv := by
  rw [cell_of_row _ _ _ _ _ _ h, List.getElem?_toArray, encM, List.getElem?_append_right (by rw [ints_len, hj]; decide), ints_len, hj]; rfl
theorem enc_len32 (m : MC) (h : m.key.length = 32) : (encM m).length = 34 := by simp [encM, ints, h]
theorem OwnV.append {w : World} {base : Nat} {ms ns : List MC} {cs ds : List Chg} (h : OwnV w base ms cs) (k : OwnV w base ns ds) : OwnV w base (ms ++ ns) (cs ++ ds) := by
  refine ⟨by simp [h.1, k.1], fun i hi => ?_⟩
  by_cases hlt : i < cs.length
  · have := h.2 i hlt
    rw [List.getD_eq_getElem?_getD, List.getElem?_append_left (by rw [h.1]; exact hlt), List.getD_eq_getElem?_getD, List.getElem?_append_left hlt]
    rwa [List.getD_eq_getElem?_getD, List.getD_eq_getElem?_getD] at this
  · have := k.2 (i - cs.length) (by simp at hi; omega)
    rw [List.getD_eq_getElem?_getD, List.getElem?_append_right (by rw [h.1]; omega), List.getD_eq_getElem?_getD, List.getElem?_append_right (by omega), h.1]
    rwa [List.getD_eq_getElem?_getD, List.getD_eq_getElem?_getD] at this
theorem wrong_zero {cs : List Chg} {n : Nat} : wrongC cs n = 0 ↔ cs.length ≤ n ∧ longC cs = false ∧ (keysC cs).Nodup := by
  unfold wrongC
  by_cases h1 : n < cs.length
  · rw [if_pos h1]; constructor
    · intro h; cases h
    · intro h; omega
  · rw [if_neg h1]
    cases h2 : longC cs with
    | true => simp
    | false =>
      by_cases h3 : (keysC cs).Nodup
      · simp [h3]; omega
      · simp [h3]
def Byt (z : List Int) : Prop := ∀ x ∈ z, 0 ≤ x ∧ x < 256
theorem Byt.drop {z : List Int} (h : Byt z) (i : Nat) : Byt (z.drop i) := fun x hx => h x (List.mem_of_mem_drop hx)
set_option maxRecDepth 100000 in
set_option maxHeartbeats 400000 in
theorem rCompare_any (w : World) (z y : List Int) (hz : Byts z) (hy : Byts y) (lz : z.length = 32) (ly : y.length = 32) :
    Calls Tryz.prog 22 #[.agg (ints .u8 z).toArray, .agg (ints .u8 y).toArray] w fun e w' => e = .returned (.int .i64 (cmpK z y)) ∧ Below w.heap.size w w' := by
  have c1 : ∀ j, j < 32 → ((w.alloc (.cells (ints .u8 z).toArray 24)).alloc (.cells (ints .u8 y).toArray 24)).cell? ⟨w.heap.size, j, none⟩ = some (.int .u8 (z.getD j 0)) := fun j hj => cell_ints (hold (hnew w _)) j (by omega)
  have c2 : ∀ j, j < 32 → ((w.alloc (.cells (ints .u8 z).toArray 24)).alloc (.cells (ints .u8 y).toArray 24)).cell? ⟨w.heap.size + 1, j, none⟩ = some (.int .u8 (y.getD j 0)) := fun j hj => cell_ints (hnew2 w _ _) j (by omega)
  have hB : Below w.heap.size w ((w.alloc (.cells (ints .u8 z).toArray 24)).alloc (.cells (ints .u8 y).toArray 24)) := ((Below.refl _ _).alloc (Nat.le_refl _) _).alloc (by simp) _
  have hs : ((w.alloc (.cells (ints .u8 z).toArray 24)).alloc (.cells (ints .u8 y).toArray 24)).heap.size = w.heap.size + 1 + 1 := by simp
  go_enter Tryz.func22, Tryz.ntmps22
  go_wp2
  generalize ((w.alloc (.cells (ints .u8 z).toArray 24)).alloc (.cells (ints .u8 y).toArray 24)) = w0 at *
  generalize (ints .u8 z).toArray = Z at *
  generalize (ints .u8 y).toArray = Y at *
  go_loopw [5] (fun i wr => ∃ j : Nat, j ≤ 32 ∧ i = .int .i64 j ∧ (∀ i, i < j → z.getD i 0 = y.getD i 0) ∧ Below w0.heap.size w0 wr) (fun i _ => 32 - (intOf i).toNat)
  case atStart => exact ⟨0, by omega, rfl, fun i hi => by omega, Below.refl _ _⟩
  case round =>
    obtain ⟨j, hj, rfl, hsame, hBr⟩ := hrel
    by_cases hlt : j < 32
    · have i1 : (j : Int) < 32 := by omega
      have d1 := (hBr.cell (p := ⟨w.heap.size, j, none⟩) (by show w.heap.size < w0.heap.size; omega)).trans (c1 j hlt)
      have d2 := (hBr.cell (p := ⟨w.heap.size + 1, j, none⟩) (by show w.heap.size + 1 < w0.heap.size; omega)).trans (c2 j hlt)
      have hB2 := hB.trans (hBr.mono hB.size)
      by_cases hne : z.getD j 0 = y.getD j 0
      · have HS := hid (show ∀ i, i < j + 1 → z.getD i 0 = y.getD i 0 from fun i hi => by rcases Nat.lt_succ_iff_lt_or_eq.1 hi with h | rfl; exact hsame i h; exact hne)
        rw [hne] at d1
        clear c1 c2 hs hsame hne
        generalize y.getD j 0 = x at *
        go_wp2
        go_quiet (fail)
        go_wp2
        go_roundw
        case rel => exact ⟨j + 1, by omega, by go_num, HS.out, below_drewN hBr _⟩
        case measure => simp [intOf]; omega
      · have HC := hid (cmpK_at j z y (by omega) (by omega) hsame hne)
        clear c1 c2 hs hsame
        generalize y.getD j 0 = x at *
        generalize z.getD j 0 = x' at *
        by_cases hl : x' < x
        · go_wp2
          go_quiet (fail)
          go_wp2
          go_quiet (fail)
          go_wp2
          go_ret
          exact ⟨by rw [HC.out, if_pos hl]; rfl, below_drewN (below_drewN hB2 _) _⟩
        · go_wp2
          go_quiet (fail)
          go_wp2
          go_quiet (fail)
          go_wp2
          go_ret
          exact ⟨by rw [HC.out, if_neg (by omega)]; rfl, below_drewN (below_drewN hB2 _) _⟩
    · obtain rfl : j = 32 := by omega
      have e : z = y := cmpK_all (by omega) fun i hi => hsame i (by omega)
      have HC := hid (show cmpK z y = 0 by rw [e, cmpK_self])
      clear hlt c1 c2 e
      go_wp2
      go_ret
      exact ⟨by rw [HC.out]; rfl, hB.trans (hBr.mono hB.size)⟩
end Go.Proofs.YtbjahdbmkcamoaaGreatDoor
namespace Go.Proofs.YtbjahdbmkcamoaaGreatDoor
set_option linter.unusedVariables false
set_option linter.unusedSimpArgs false
open Go.RowKit
attribute [local go_sem ↓] Go.wp_at_zero Go.wp_at_succ

theorem hnew3 (w : World) (A B C : Obj) : (((w.alloc A).alloc B).alloc C).heap[w.heap.size + 1 + 1]? = some C := by have := hnew ((w.alloc A).alloc B) C; simpa using this
theorem below3Z (w : World) (A B C : Obj) : Below w.heap.size w (((w.alloc A).alloc B).alloc C) := (below2Z w A B).alloc (by simp; omega) _
def RPpost (w : World) (c : Chg) (e : Ending) (w' : World) : Prop := ∃ m : MC, e = .returned (.agg (encM m).toArray) ∧ m.key = c.key ∧ c.key.length = 32 ∧ m.del = c.del ∧ Own w' w.heap.size m.sv (plainC c).val ∧ Below w.heap.size w w'
theorem heap_row_far {w : World} {i g : Nat} {x : Obj} (h : w.heap[i]? = some x) (cs : Array Value) (hne : g ≠ i) : (w.setRow g cs).heap[i]? = some x := by
  rw [← h]
  unfold World.setRow
  simp only [Array.getElem?_modify, if_neg hne]
theorem enc_rowK {w : World} {g t : Nat} {fr : Nat × Nat} {m : MC} (h : w.heap[g]? = some (.cells (encM m).toArray t fr)) (hk : m.key.length = 32) : w.rangeAt g 0 (ints .u8 m.key) := fun j v hv => by
  have hj := (List.getElem?_eq_some_iff.1 hv).1
  simp [ints] at hj
  rw [Nat.zero_add, enc_cell h j hj]
  simp only [ints, List.getElem?_map, List.getElem?_eq_getElem hj] at hv
  rw [List.getD_eq_getElem?_getD, List.getElem?_eq_getElem hj]
  exact hv
set_option maxRecDepth 100000 in
set_option maxHeartbeats 1000000 in
theorem rplain_any (w : World) (m : MC) (c : Chg) (hs : Says w m c) (hv : c.val.length ≤ 140737488355000) :
    Calls Tryz.prog 54 #[.agg (encM m).toArray] w (RPpost w c) := by
  obtain ⟨Z, hZ⟩ : ∃ Z, Z = encM dM := ⟨_, rfl⟩
  have SO := hid (show Z.toArray.size = 34 by rw [hZ]; simpa using encD_len)
  have HZ := hid hZ
  clear hZ
  have g0 := hnew w (.cells (encM m).toArray 79)
  have g1 := hnew2 w (.cells (encM m).toArray 79) (.cells Z.toArray 79)
  have g2 := hold (o := .cells Z.toArray 79) g0
  have lm := hs.2.1
  obtain ⟨M1, hM1⟩ : ∃ M1, M1 = encM ⟨c.key, c.del, .slice none 0 0⟩ := ⟨_, rfl⟩
  have S1 := hid (show M1.toArray.size = 34 by rw [hM1]; simpa using enc_len32 ⟨c.key, c.del, .slice none 0 0⟩ lm)
  have om : ∀ v ∈ M1, v.oneCell' = true := by rw [hM1]; exact one_encM _ rfl
  have cd := enc_del hs g2
  have cd3 := enc_del hs (hold (o := .cells M1.toArray 79) g2)
  have cv3 := enc_val hs (hold (o := .cells M1.toArray 79) g2)
  have rk : (((w.alloc (.cells (encM m).toArray 79)).alloc (.cells Z.toArray 79))).rangeAt w.heap.size 0 (ints .u8 c.key) := by
    have := enc_rowK g2 (by rw [hs.1]; exact lm)
    rwa [hs.1] at this
  have hik : (Tryz.prog.info? 24).map (·.size) = some (ints .u8 c.key).length := by rw [keySize, ints_len, lm]
  have g4 := hnew3 w (.cells (encM m).toArray 79) (.cells Z.toArray 79) (.cells M1.toArray 79)
  have g5 := hold (o := .cells M1.toArray 79) g1
  have hB3 := below3Z w (.cells (encM m).toArray 79) (.cells Z.toArray 79) (.cells M1.toArray 79)
  have HM1 := hid hM1
  have hsz : w.heap.size + 1 + 1 < ((((w.alloc (.cells (encM m).toArray 79)).alloc (.cells Z.toArray 79))).alloc (.cells M1.toArray 79)).heap.size := by simp
  obtain ⟨_, _, _, sp, cap, hsv, hnil, hsrc⟩ := id hs
  cases hd : c.del with
  | true =>
    rw [hd] at cd cd3 hM1
    go_enter Tryz.func54, Tryz.ntmps54
    go_wp2_with (first
      | refine wpList_allocZ rfl rfl Z HZ.out ?_
      | refine wpList_load_mid rfl 24 _ rfl w.heap.size 0 rfl (ints .u8 c.key) _ rk Tryz.underlying24 rfl hik ?_
      | (refine wpList_build_del rfl _ _ rfl c.key lm true rfl rfl ?_; rw [← hM1]; clear hM1)
      | (refine wpList_store_row rfl 79 (.tmp 3) _ rfl _ _ rfl rfl 79 _ (by exact hnew _ _) (by rw [chgSize, S1.out]) (by simp only [S1.out, SO.out]) (all_oneCell_toArray om) ?_; rw [setRow_alloc])
      | refine wpList_load_row rfl 79 _ rfl _ rfl 79 _ _ _ (by exact g4) Tryz.underlying79 rfl (by rw [chgSize, S1.out]) ?_
      | refine wpList_store_row rfl 79 (.tmp 2) _ rfl _ _ rfl rfl 79 _ (by exact g5) (by rw [chgSize, S1.out]) (by simp only [S1.out, SO.out]) (all_oneCell_toArray om) ?_)
    refine bodyPost_ret (results_cell_row Tryz.results54 _ _ (w.heap.size + 1) 79 _ _ _ rfl (setRow_heap _ _ _ _ _ _ g5) Tryz.underlying79 rfl (by rw [chgSize, S1.out])) rfl ?_
    refine ⟨⟨c.key, c.del, .slice none 0 0⟩, by rw [HM1.out], rfl, lm, rfl, ?_, below_setRow hB3 (by omega) _⟩
    have : (plainC c).val = [] := by simp [plainC, hd]
    rw [this]; exact Own.nil _ _
  | false =>
    rw [hd] at cd cd3 hM1
    have hpv : (plainC c).val = c.val := by simp [plainC, hd]
    have HPV := hid hpv
    have KB := hid (rbytes_any _ c.val sp cap (hsrc.below hB3 (Nat.le_refl _)) hv)
    rw [hsv] at cv3
    clear hpv
    go_enter Tryz.func54, Tryz.ntmps54
    go_wp2_with (first
      | refine wpList_allocZ rfl rfl Z HZ.out ?_
      | refine wpList_load_mid rfl 24 _ rfl w.heap.size 0 rfl (ints .u8 c.key) _ rk Tryz.underlying24 rfl hik ?_
      | (refine wpList_build_del rfl _ _ rfl c.key lm false rfl rfl ?_; rw [← hM1]; clear hM1)
      | (refine wpList_store_row rfl 79 (.tmp 3) _ rfl _ _ rfl rfl 79 _ (by exact hnew _ _) (by rw [chgSize, S1.out]) (by simp only [S1.out, SO.out]) (all_oneCell_toArray om) ?_; rw [setRow_alloc]))
    refine KB.out.mono ?_
    rintro e w4 ⟨v9, rfl, hO9, hb9⟩
    clear KB
    obtain ⟨sp9, cap9, rfl, _, _⟩ := id hO9.form
    have f1 := hbel hb9 g4 hsz
    have f2 := hbel hb9 g5 (by omega)
    rw [HM1.out] at f1
    have f3 : Below w.heap.size w w4 := hB3.trans (hb9.mono (by omega))
    have hO8 := hO9.base (show w.heap.size ≤ _ by omega)
    have fz := frozen_of_row _ _ 33 _ _ f1
    have c3 := enc_cellV f1 lm
    simp only at c3
    have f4 := heap_enc_v f1 (.slice sp9 c.val.length cap9) lm
    simp only at f4
    have f5 := heap_set_far f2 ⟨w.heap.size + 1 + 1, 33, none⟩ (.slice sp9 c.val.length cap9) (by simp)
    have f6 : Below w.heap.size w (w4.setCell ⟨w.heap.size + 1 + 1, 33, none⟩ (.slice sp9 c.val.length cap9)) := f3.setCell (by simp; omega) _
    have f7 : Own (w4.setCell ⟨w.heap.size + 1 + 1, 33, none⟩ (.slice sp9 c.val.length cap9)) w.heap.size (.slice sp9 c.val.length cap9) c.val := hO8.of_heap fun q e => by obtain ⟨_, x, hx⟩ := hO8.ne_chg q e; rw [hx]; exact heap_set_far hx _ _ (fun e => ne_of_type hx f1 (by decide) e)
    have om2 : ∀ v ∈ encM ⟨c.key, c.del, .slice sp9 c.val.length cap9⟩, v.oneCell' = true := one_encM _ rfl
    have S2 := hid (show (encM ⟨c.key, c.del, .slice sp9 c.val.length cap9⟩).toArray.size = 34 by simpa using enc_len32 ⟨c.key, c.del, .slice sp9 c.val.length cap9⟩ lm)
    clear cd cd3 cv3 hB3 hb9 hO9 hO8 f3 g4 g5 rk
    go_wp2_with (first
      | refine wpList_load_row rfl 79 _ rfl _ rfl 79 _ _ _ (by exact f4) Tryz.underlying79 rfl (by rw [chgSize, S2.out]) ?_
      | refine wpList_store_row rfl 79 (.tmp 2) _ rfl _ _ rfl rfl 79 _ (by exact f5) (by rw [chgSize, S2.out]) (by simp only [S2.out, SO.out]) (all_oneCell_toArray om2) ?_)
    refine bodyPost_ret (results_cell_row Tryz.results54 _ _ (w.heap.size + 1) 79 _ _ _ rfl (setRow_heap _ _ _ _ _ _ f5) Tryz.underlying79 rfl (by rw [chgSize, S2.out])) rfl ?_
    refine ⟨⟨c.key, c.del, .slice sp9 c.val.length cap9⟩, rfl, rfl, lm, rfl, ?_, below_setRow f6 (by omega) _⟩
    rw [HPV.out]
    exact f7.of_heap fun q e => by obtain ⟨_, x, hx⟩ := f7.ne_chg q e; rw [hx]; exact heap_row_far hx _ (fun e => ne_of_type hx f5 (by decide) e.symm)
end Go.Proofs.YtbjahdbmkcamoaaGreatDoor
