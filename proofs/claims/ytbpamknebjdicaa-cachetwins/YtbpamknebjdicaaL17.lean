import Derived.Test.YtbpamknebjdicaaL14
namespace Go.Proofs.Ytbpamknebjdicaa
set_option linter.unusedVariables false
set_option linter.unusedSimpArgs false

/-! What a cache keeps, one with more room keeps too. -/
theorem sub_cut {α : Type} {l1 l2 : List α} (h : l1.Sublist l2) (d : Nat) : (l1.take (l1.length - d)).Sublist (l2.take (l2.length - d)) := by
  have := h.reverse.drop d
  rw [List.drop_reverse, List.drop_reverse, List.reverse_sublist] at this
  exact this
theorem sub_take {α : Type} {l1 l2 : List α} (h : l1.Sublist l2) {r R : Nat} (hl : l2.length + r ≤ l1.length + R) : (l1.take r).Sublist (l2.take R) := by
  by_cases hR : l2.length ≤ R
  · rw [List.take_of_length_le hR]; exact (List.take_sublist r l1).trans h
  · have := sub_cut h (l2.length - R)
    rw [show l2.length - (l2.length - R) = R by omega] at this
    exact (List.take_sublist_take_left (by omega)).trans this
theorem del_len {l1 l2 : List (Int × Int)} (h : l1.Sublist l2) (k : Int) : (delL l2 k).length + l1.length ≤ (delL l1 k).length + l2.length := by
  have e : ∀ l : List (Int × Int), l.length = (delL l k).length + l.countP (fun x => decide (x.1 = k)) := fun l => by
    induction l with
    | nil => rfl
    | cons x l ih =>
      unfold delL at *
      rw [List.filter_cons, List.countP_cons]
      by_cases hx : x.1 = k
      · simp only [hx, decide_true, Bool.not_true, Bool.false_eq_true, if_false, if_true, List.length_cons]; omega
      · simp only [hx, decide_false, Bool.not_false, Bool.false_eq_true, if_false, if_true, List.length_cons]; omega
  have h1 := e l1
  have h2 := e l2
  have h3 := h.countP_le (p := fun x => decide (x.1 = k))
  omega
theorem del_lt {l : List (Int × Int)} {k v : Int} (h : findL l k = some v) : (delL l k).length + 1 ≤ l.length := by
  have : (delL l k).length < l.length := by
    unfold delL
    refine List.length_filter_lt_length_iff_exists.2 ?_
    simp only [findL, Option.map_eq_some_iff] at h
    obtain ⟨x, hx, _⟩ := h
    exact ⟨x, List.mem_of_find?_eq_some hx, by have := List.find?_some hx; simpa using this⟩
  omega
theorem find_mem {l : List (Int × Int)} {k v : Int} (h : findL l k = some v) : (k, v) ∈ l := by
  simp only [findL, Option.map_eq_some_iff] at h
  obtain ⟨x, hx, rfl⟩ := h
  have h1 := List.mem_of_find?_eq_some hx
  have h2 : x.1 = k := by have := List.find?_some hx; simpa using this
  rw [← h2]; exact h1
/-- Keys that stand once. -/
def Once (l : List (Int × Int)) : Prop := ∀ x ∈ l, ∀ y ∈ l, x.1 = y.1 → x = y
theorem find_once {l : List (Int × Int)} (h : Once l) {k v : Int} (hm : (k, v) ∈ l) : findL l k = some v := by
  unfold findL
  cases hf : l.find? fun x => decide (x.1 = k) with
  | none => exact absurd (decide_eq_true rfl) (List.find?_eq_none.1 hf (k, v) hm)
  | some y =>
    have h1 := List.mem_of_find?_eq_some hf
    have h2 : y.1 = k := by have := List.find?_some hf; simpa using this
    have := h y h1 (k, v) hm h2
    rw [this]; rfl
theorem CA.once {w : World} {base : Nat} {F : List Nat} {p N : Nat} {a : AS Int Int} (h : CA w base F p N a) : Once a.clean := by
  obtain ⟨m, n, s, L, rfl, hC, hA, _⟩ := h
  rw [← hA.clean]
  intro x hx y hy e
  obtain ⟨b, hb, rfl⟩ := List.mem_map.1 hx
  obtain ⟨c, hc, rfl⟩ := List.mem_map.1 hy
  have := hA.ref.inj hb hc e
  rw [this]
theorem CA.le {w : World} {base : Nat} {F : List Nat} {p N : Nat} {a : AS Int Int} (h : CA w base F p N a) : a.clean.length ≤ a.room ∧ a.tot ≤ N := by
  obtain ⟨m, n, s, L, rfl, hC, hA, _, h2, h3⟩ := h
  exact ⟨h3, h2⟩
structure Incl (a b : AS Int Int) : Prop where
  room : a.room ≤ b.room
  held : a.held = b.held
  sub : a.clean.Sublist b.clean
  len : b.clean.length + a.room ≤ a.clean.length + b.room
theorem Incl.trim {a b : AS Int Int} (h : Incl a b) : Incl a.trim b.trim :=
  ⟨h.room, h.held, sub_take h.sub h.len, by have := h.len; have := h.room; simp only [AS.trim, List.length_take]; omega⟩
theorem Incl.del {a b : AS Int Int} (h : Incl a b) (k : Int) : Incl { a with clean := delL a.clean k } { b with clean := delL b.clean k } :=
  ⟨h.room, h.held, h.sub.filter _, by have := h.len; have := del_len h.sub k; simp only; omega⟩
theorem Incl.cons {a b : AS Int Int} (h : Incl a b) (x : Int × Int) : Incl { a with clean := x :: a.clean } { b with clean := x :: b.clean } :=
  ⟨h.room, h.held, h.sub.cons_cons x, by have := h.len; simp only [List.length_cons]; omega⟩
theorem Incl.put {a b : AS Int Int} (h : Incl a b) (k v : Int) : Incl (a.put k v) (b.put k v) := by
  unfold AS.put
  rw [show findL b.held k = findL a.held k by rw [h.held]]
  cases findL a.held k with
  | some _ => exact ⟨h.room, by simp only [h.held], h.sub, h.len⟩
  | none => exact ((h.del k).cons (k, v)).trim
theorem Incl.hold {a b : AS Int Int} (h : Incl a b) (k v : Int) : Incl (a.hold k v) (b.hold k v) := by
  unfold AS.hold
  rw [show findL b.held k = findL a.held k by rw [h.held]]
  cases findL a.held k with
  | some _ => exact ⟨h.room, by simp only [h.held], h.sub, h.len⟩
  | none => exact ⟨h.room, by simp only [h.held], (h.del k).sub, (h.del k).len⟩
theorem Incl.settle {a b : AS Int Int} (h : Incl a b) : Incl a.settle b.settle := by
  unfold AS.settle
  refine Incl.trim ⟨h.room, rfl, ?_, ?_⟩
  · simp only [h.held]; exact h.sub.append_left _
  · have := h.len; simp only [List.length_append, List.length_reverse, h.held]; omega
theorem Incl.release {a b : AS Int Int} (h : Incl a b) (n : Nat) : Incl (a.release n) (b.release n) :=
  ⟨h.room, by simp only [AS.release, h.held], h.sub, h.len⟩
theorem Incl.val {a b : AS Int Int} (h : Incl a b) (ho : Once b.clean) {k v : Int} (hv : a.val k = some v) : b.val k = some v := by
  unfold AS.val at *
  rw [← h.held]
  cases hf : findL a.held k with
  | some x => rw [hf] at hv; exact hv
  | none =>
    rw [hf] at hv
    exact find_once ho (h.sub.subset (find_mem hv))
theorem Incl.get {a b : AS Int Int} (h : Incl a b) (ho : Once b.clean) (k : Int) : Incl (a.get k) (b.get k) := by
  unfold AS.get
  rw [show findL b.held k = findL a.held k by rw [h.held]]
  cases hf : findL a.held k with
  | some x => exact ⟨h.room, h.held, h.sub, h.len⟩
  | none =>
    simp only
    cases hc : findL a.clean k with
    | some v =>
      rw [find_once ho (h.sub.subset (find_mem hc))]
      exact ⟨h.room, h.held, ((h.del k).cons (k, v)).sub, ((h.del k).cons (k, v)).len⟩
    | none =>
      have hd := del_none ((find_none_iff a.clean k).1 hc)
      cases hb : findL b.clean k with
      | some v =>
        refine ⟨h.room, h.held, ?_, ?_⟩
        · have := (h.del k).sub
          simp only [hd] at this
          exact this.cons _
        · have := del_lt hb
          have := h.len
          simp only [List.length_cons]
          omega
      | none => exact ⟨h.room, h.held, h.sub, h.len⟩
end Go.Proofs.Ytbpamknebjdicaa
