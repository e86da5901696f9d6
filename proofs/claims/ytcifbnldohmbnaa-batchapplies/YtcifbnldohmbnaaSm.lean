import Derived.Test.YtcifbnldohmbnaaCa
namespace Go.Proofs.Ytcifbnldohmbnaa
set_option linter.unusedVariables false
set_option linter.unusedSimpArgs false

/-! Two lists in order, laid into one: the later one's change counts. -/
def mergeL : List Chg → List Chg → List Chg
  | [], ls => ls
  | e :: es, [] => e :: es
  | e :: es, l :: ls => if cmpK e.key l.key < 0 then e :: mergeL es (l :: ls) else if cmpK e.key l.key = 0 then l :: mergeL es ls else l :: mergeL (e :: es) ls
termination_by es ls => es.length + ls.length
theorem merge_step (e : Chg) (et : List Chg) (l : Chg) (lt : List Chg) : (cmpK e.key l.key = -1 → mergeL (e :: et) (l :: lt) = e :: mergeL et (l :: lt)) ∧ (cmpK e.key l.key = 0 → mergeL (e :: et) (l :: lt) = l :: mergeL et lt) ∧ (cmpK e.key l.key = 1 → mergeL (e :: et) (l :: lt) = l :: mergeL (e :: et) lt) := by
  refine ⟨fun h => ?_, fun h => ?_, fun h => ?_⟩ <;> rw [mergeL, h] <;> rfl
theorem merge_nil_r (es : List Chg) : mergeL es [] = es := by cases es <;> rw [mergeL]
theorem merge_nil_l (ls : List Chg) : mergeL [] ls = ls := by rw [mergeL]
theorem lt_tail {c : Chg} {cs : List Chg} (h : (c :: cs).Pairwise LtC) : cs.Pairwise LtC := (List.pairwise_cons.1 h).2
theorem mem_merge : ∀ (es ls : List Chg), es.Pairwise LtC → ls.Pairwise LtC → ∀ c, c ∈ mergeL es ls ↔ c ∈ ls ∨ (c ∈ es ∧ c.key ∉ keysC ls)
  | [], ls, _, _, c => by rw [merge_nil_l]; simp
  | e :: es, [], _, _, c => by rw [merge_nil_r]; simp [keysC]
  | e :: es, l :: ls, he, hl, c => by
    have e1 := (List.pairwise_cons.1 he).1
    have l1 := (List.pairwise_cons.1 hl).1
    obtain ⟨s1, s2, s3⟩ := merge_step e es l ls
    rcases cmpK_cases e.key l.key with h | h | h
    · rw [s1 h, List.mem_cons, mem_merge es (l :: ls) (lt_tail he) hl]
      have hne : e.key ∉ keysC (l :: ls) := by
        intro hm
        obtain ⟨d, hd, hk⟩ := List.mem_map.1 hm
        rcases List.mem_cons.1 hd with rfl | hd
        · rw [hk, cmpK_self] at h; cases h
        · have := LtC.trans (a := e) (b := l) (c := d) h (l1 d hd)
          exact this.ne hk.symm
      constructor
      · rintro (rfl | h2 | ⟨h2, h3⟩)
        · exact Or.inr ⟨by simp, hne⟩
        · exact Or.inl h2
        · exact Or.inr ⟨by simp [h2], h3⟩
      · rintro (h2 | ⟨h2, h3⟩)
        · exact Or.inr (Or.inl h2)
        · rcases List.mem_cons.1 h2 with rfl | h2
          · exact Or.inl rfl
          · exact Or.inr (Or.inr ⟨h2, h3⟩)
    · have hk := cmpK_eq h
      rw [s2 h, List.mem_cons, mem_merge es ls (lt_tail he) (lt_tail hl)]
      constructor
      · rintro (rfl | h2 | ⟨h2, h3⟩)
        · exact Or.inl (by simp)
        · exact Or.inl (by simp [h2])
        · refine Or.inr ⟨by simp [h2], ?_⟩
          intro hm
          simp only [keysC, List.map_cons, List.mem_cons] at hm
          rcases hm with hm | hm
          · exact (e1 c h2).ne (hk.trans hm.symm)
          · exact h3 hm
      · rintro (h2 | ⟨h2, h3⟩)
        · rcases List.mem_cons.1 h2 with rfl | h2
          · exact Or.inl rfl
          · exact Or.inr (Or.inl h2)
        · simp only [keysC, List.map_cons, List.mem_cons, not_or] at h3
          rcases List.mem_cons.1 h2 with rfl | h2
          · exact absurd hk h3.1
          · exact Or.inr (Or.inr ⟨h2, h3.2⟩)
    · rw [s3 h, List.mem_cons, mem_merge (e :: es) ls he (lt_tail hl)]
      have hle : LtC l e := by unfold LtC; rw [cmpK_neg e.key l.key, h]
      constructor
      · rintro (rfl | h2 | ⟨h2, h3⟩)
        · exact Or.inl (by simp)
        · exact Or.inl (by simp [h2])
        · refine Or.inr ⟨h2, ?_⟩
          intro hm
          simp only [keysC, List.map_cons, List.mem_cons] at hm
          rcases hm with hm | hm
          · rcases List.mem_cons.1 h2 with rfl | h2
            · exact hle.ne hm.symm
            · exact (hle.trans (e1 c h2)).ne hm.symm
          · exact h3 hm
      · rintro (h2 | ⟨h2, h3⟩)
        · rcases List.mem_cons.1 h2 with rfl | h2
          · exact Or.inl rfl
          · exact Or.inr (Or.inl h2)
        · simp only [keysC, List.map_cons, List.mem_cons, not_or] at h3
          exact Or.inr (Or.inr ⟨h2, h3.2⟩)
termination_by es ls => es.length + ls.length
theorem merge_sub {es ls : List Chg} (he : es.Pairwise LtC) (hl : ls.Pairwise LtC) {c : Chg} (h : c ∈ mergeL es ls) : c ∈ es ∨ c ∈ ls := by
  rcases (mem_merge es ls he hl c).1 h with h | h
  · exact Or.inr h
  · exact Or.inl h.1
theorem merge_lt : ∀ (es ls : List Chg), es.Pairwise LtC → ls.Pairwise LtC → (mergeL es ls).Pairwise LtC
  | [], ls, _, hl => by rw [merge_nil_l]; exact hl
  | e :: es, [], he, _ => by rw [merge_nil_r]; exact he
  | e :: es, l :: ls, he, hl => by
    have e1 := (List.pairwise_cons.1 he).1
    have l1 := (List.pairwise_cons.1 hl).1
    obtain ⟨s1, s2, s3⟩ := merge_step e es l ls
    rcases cmpK_cases e.key l.key with h | h | h
    · rw [s1 h]
      refine List.pairwise_cons.2 ⟨fun c hc => ?_, merge_lt es (l :: ls) (lt_tail he) hl⟩
      rcases merge_sub (lt_tail he) hl hc with hc | hc
      · exact e1 c hc
      · rcases List.mem_cons.1 hc with rfl | hc
        · exact h
        · exact LtC.trans (b := l) h (l1 c hc)
    · rw [s2 h]
      have hk := cmpK_eq h
      refine List.pairwise_cons.2 ⟨fun c hc => ?_, merge_lt es ls (lt_tail he) (lt_tail hl)⟩
      rcases merge_sub (lt_tail he) (lt_tail hl) hc with hc | hc
      · have := e1 c hc; unfold LtC at this ⊢; rwa [hk] at this
      · exact l1 c hc
    · rw [s3 h]
      have hle : LtC l e := by unfold LtC; rw [cmpK_neg e.key l.key, h]
      refine List.pairwise_cons.2 ⟨fun c hc => ?_, merge_lt (e :: es) ls he (lt_tail hl)⟩
      rcases merge_sub he (lt_tail hl) hc with hc | hc
      · rcases List.mem_cons.1 hc with rfl | hc
        · exact hle
        · exact hle.trans (e1 c hc)
      · exact l1 c hc
termination_by es ls => es.length + ls.length
theorem merge_keys {es ls : List Chg} (he : es.Pairwise LtC) (hl : ls.Pairwise LtC) (k : List Int) : k ∈ keysC (mergeL es ls) ↔ k ∈ keysC es ∨ k ∈ keysC ls := by
  constructor
  · intro h
    obtain ⟨c, hc, rfl⟩ := List.mem_map.1 h
    rcases merge_sub he hl hc with h | h
    · exact Or.inl (List.mem_map.2 ⟨c, h, rfl⟩)
    · exact Or.inr (List.mem_map.2 ⟨c, h, rfl⟩)
  · intro h
    by_cases hm : k ∈ keysC ls
    · obtain ⟨c, hc, rfl⟩ := List.mem_map.1 hm
      exact List.mem_map.2 ⟨c, (mem_merge es ls he hl c).2 (Or.inl hc), rfl⟩
    · obtain ⟨c, hc, rfl⟩ := List.mem_map.1 (h.resolve_right hm)
      exact List.mem_map.2 ⟨c, (mem_merge es ls he hl c).2 (Or.inr ⟨hc, hm⟩), rfl⟩
/-- Folding is associative. -/
theorem merge_assoc {a b c : List Chg} (ha : a.Pairwise LtC) (hb : b.Pairwise LtC) (hc : c.Pairwise LtC) : mergeL (mergeL a b) c = mergeL a (mergeL b c) := by
  refine sorted_ext (merge_lt _ _ (merge_lt _ _ ha hb) hc) (merge_lt _ _ ha (merge_lt _ _ hb hc)) fun x => ?_
  rw [mem_merge _ _ (merge_lt _ _ ha hb) hc, mem_merge _ _ ha hb, mem_merge _ _ ha (merge_lt _ _ hb hc), mem_merge _ _ hb hc, merge_keys hb hc]
  constructor
  · rintro (h | ⟨h | ⟨h, h2⟩, h3⟩)
    · exact Or.inl (Or.inl h)
    · exact Or.inl (Or.inr ⟨h, h3⟩)
    · exact Or.inr ⟨h, fun h4 => h4.elim h2 h3⟩
  · rintro ((h | ⟨h, h2⟩) | ⟨h, h2⟩)
    · exact Or.inl h
    · exact Or.inr ⟨Or.inl h, h2⟩
    · exact Or.inr ⟨Or.inr ⟨h, fun h3 => h2 (Or.inl h3)⟩, fun h3 => h2 (Or.inr h3)⟩
theorem merge_self {a : List Chg} (ha : a.Pairwise LtC) : mergeL a a = a :=
  sorted_ext (merge_lt _ _ ha ha) ha fun x => by
    rw [mem_merge _ _ ha ha]
    constructor
    · rintro (h | ⟨h, _⟩) <;> exact h
    · exact Or.inl
/-- How many unlike keys two lists name. -/
def keysN (a b : List Chg) : Nat := a.length + (b.filter fun d => decide (d.key ∉ keysC a)).length
theorem merge_len : ∀ (es ls : List Chg), es.Pairwise LtC → ls.Pairwise LtC → (mergeL es ls).length = keysN es ls
  | [], ls, _, _ => by rw [merge_nil_l]; unfold keysN; rw [List.filter_eq_self.2 (fun d _ => by simp [keysC])]; simp
  | e :: es, [], _, _ => by rw [merge_nil_r]; simp [keysN]
  | e :: es, l :: ls, he, hl => by
    have e1 := (List.pairwise_cons.1 he).1
    have l1 := (List.pairwise_cons.1 hl).1
    obtain ⟨s1, s2, s3⟩ := merge_step e es l ls
    rcases cmpK_cases e.key l.key with h | h | h
    · rw [s1 h, List.length_cons, merge_len es (l :: ls) (lt_tail he) hl]
      unfold keysN
      have : ∀ d ∈ l :: ls, decide (d.key ∉ keysC es) = decide (d.key ∉ keysC (e :: es)) := fun d hd => by
        have hlt : LtC e d := by
          rcases List.mem_cons.1 hd with rfl | hd
          · exact h
          · exact LtC.trans (b := l) h (l1 d hd)
        rw [decide_eq_decide]
        simp only [keysC, List.map_cons, List.mem_cons, not_or]
        exact ⟨fun h => ⟨fun h2 => hlt.ne h2.symm, h⟩, fun h => h.2⟩
      rw [List.filter_congr this]
      simp only [List.length_cons]; omega
    · have hk := cmpK_eq h
      rw [s2 h, List.length_cons, merge_len es ls (lt_tail he) (lt_tail hl)]
      unfold keysN
      have h0 : decide (l.key ∉ keysC (e :: es)) = false := by simp [keysC, hk]
      rw [List.filter_cons_of_neg (by rw [h0]; simp)]
      have : ∀ d ∈ ls, decide (d.key ∉ keysC es) = decide (d.key ∉ keysC (e :: es)) := fun d hd => by
        have hlt := l1 d hd
        rw [decide_eq_decide]
        simp only [keysC, List.map_cons, List.mem_cons, not_or]
        exact ⟨fun h => ⟨fun h2 => hlt.ne (by rw [h2, hk]), h⟩, fun h => h.2⟩
      rw [List.filter_congr this]
      simp only [List.length_cons]; omega
    · rw [s3 h, List.length_cons, merge_len (e :: es) ls he (lt_tail hl)]
      have hle : LtC l e := by unfold LtC; rw [cmpK_neg e.key l.key, h]
      unfold keysN
      have h0 : decide (l.key ∉ keysC (e :: es)) = true := by
        rw [decide_eq_true_eq]
        intro hm
        obtain ⟨d, hd, hk⟩ := List.mem_map.1 hm
        rcases List.mem_cons.1 hd with rfl | hd
        · exact hle.ne hk.symm
        · exact (hle.trans (e1 d hd)).ne hk.symm
      rw [List.filter_cons, if_pos h0]; simp only [List.length_cons]; omega
termination_by es ls => es.length + ls.length
theorem keysN_perm {a a' b b' : List Chg} (ha : (keysC a).Perm (keysC a')) (hb : (keysC b).Perm (keysC b')) : keysN a b = keysN a' b' := by
  have f : ∀ (x y : List Chg), (y.filter fun d => decide (d.key ∉ keysC x)).length = ((keysC y).filter fun k => decide (k ∉ keysC x)).length := fun x y => by
    simp only [keysC]
    rw [List.filter_map, List.length_map]; rfl
  unfold keysN
  rw [f, f]
  have h1 : a.length = a'.length := by have := ha.length_eq; simpa [keysC] using this
  have h2 : ((keysC b).filter fun k => decide (k ∉ keysC a)).length = ((keysC b').filter fun k => decide (k ∉ keysC a')).length := by
    rw [(hb.filter _).length_eq]
    congr 1
    exact List.filter_congr fun k _ => by simp only [ha.mem_iff]
  omega
theorem keysN_le (a b : List Chg) : keysN a b ≤ a.length + b.length := by unfold keysN; have := List.length_filter_le (fun d : Chg => decide (d.key ∉ keysC a)) b; omega
theorem norm_keys (cs : List Chg) : (keysC (normC cs)).Perm (keysC cs) := by have := keys_perm (normC_perm cs); rwa [keys_plain] at this
end Go.Proofs.Ytcifbnldohmbnaa
