import Derived.Test.YtcifbnldohmbnaaSy
namespace Go.Proofs.Ytcifbnldohmbnaa
set_option linter.unusedVariables false
set_option linter.unusedSimpArgs false

/-! Maps as lists of entries. -/
structure Ent where
  key : List Int
  val : List Int
def keysE (l : List Ent) : List (List Int) := l.map Ent.key
def step1 (l : List Ent) (c : Chg) : List Ent :=
  if c.del then l.filter (fun e => decide (e.key ≠ c.key)) else if c.key ∈ keysE l then l.map (fun e => if e.key = c.key then ⟨c.key, c.val⟩ else e) else l ++ [⟨c.key, c.val⟩]
def aft (l : List Ent) (cs : List Chg) : List Ent := cs.foldl step1 l
/-- What a change says of its key. -/
def says1 (c : Chg) (k v : List Int) : Prop := c.key = k ∧ c.del = false ∧ c.val = v
theorem step_keys (l : List Ent) (c : Chg) (h : (keysE l).Nodup) : (keysE (step1 l c)).Nodup := by
  unfold step1
  split
  · exact (List.Sublist.map _ List.filter_sublist).nodup h
  · split
    · have : keysE (l.map (fun e => if e.key = c.key then (⟨c.key, c.val⟩ : Ent) else e)) = keysE l := by
        unfold keysE
        rw [List.map_map]
        apply List.map_congr_left
        intro e _
        simp only [Function.comp_apply]
        split
        · rename_i h; exact h.symm
        · rfl
      rw [this]; exact h
    · rename_i hn
      unfold keysE at *
      rw [List.map_append, List.nodup_append]
      refine ⟨h, by simp, fun a ha b hb e => ?_⟩
      simp only [List.map_cons, List.map_nil, List.mem_singleton] at hb
      subst hb; subst e; exact hn ha
theorem step_mem (l : List Ent) (c : Chg) (h : (keysE l).Nodup) (k v : List Int) : (⟨k, v⟩ : Ent) ∈ step1 l c ↔ (k = c.key ∧ c.del = false ∧ v = c.val) ∨ (k ≠ c.key ∧ (⟨k, v⟩ : Ent) ∈ l) := by
  unfold step1
  cases hd : c.del with
  | true =>
    rw [if_pos rfl, List.mem_filter]
    constructor
    · rintro ⟨h1, h2⟩; exact Or.inr ⟨by simpa using h2, h1⟩
    · rintro (⟨_, h2, _⟩ | ⟨h1, h2⟩)
      · cases h2
      · exact ⟨h2, by simpa using h1⟩
  | false =>
    rw [if_neg (by decide)]
    by_cases hk : c.key ∈ keysE l
    · rw [if_pos hk, List.mem_map]
      constructor
      · rintro ⟨e, he, heq⟩
        by_cases hq : e.key = c.key
        · rw [if_pos hq] at heq
          injection heq with h1 h2
          exact Or.inl ⟨h1.symm, rfl, h2.symm⟩
        · rw [if_neg hq] at heq
          subst heq
          exact Or.inr ⟨hq, he⟩
      · rintro (⟨h1, _, h2⟩ | ⟨h1, h2⟩)
        · obtain ⟨e, he, hek⟩ := List.mem_map.1 hk
          exact ⟨e, he, by rw [if_pos hek, h1, h2]⟩
        · exact ⟨_, h2, by rw [if_neg h1]⟩
    · rw [if_neg hk, List.mem_append, List.mem_singleton]
      constructor
      · rintro (h1 | h1)
        · refine Or.inr ⟨fun e => hk ?_, h1⟩
          exact List.mem_map.2 ⟨_, h1, e⟩
        · injection h1 with h2 h3
          exact Or.inl ⟨h2, rfl, h3⟩
      · rintro (⟨h1, _, h2⟩ | ⟨_, h2⟩)
        · exact Or.inr (by rw [h1, h2])
        · exact Or.inl h2
theorem aft_keys : ∀ (cs : List Chg) (l : List Ent), (keysE l).Nodup → (keysE (aft l cs)).Nodup
  | [], l, h => h
  | c :: cs, l, h => aft_keys cs (step1 l c) (step_keys l c h)
theorem aft_mem : ∀ (cs : List Chg) (l : List Ent), (keysE l).Nodup → (keysC cs).Nodup → ∀ k v, (⟨k, v⟩ : Ent) ∈ aft l cs ↔ (∃ c ∈ cs, says1 c k v) ∨ (k ∉ keysC cs ∧ (⟨k, v⟩ : Ent) ∈ l)
  | [], l, h, _, k, v => by simp [aft, keysC]
  | c :: cs, l, h, hn, k, v => by
    have hn2 : c.key ∉ keysC cs ∧ (keysC cs).Nodup := by simpa [keysC] using List.nodup_cons.1 hn
    have ih := aft_mem cs (step1 l c) (step_keys l c h) hn2.2 k v
    show _ ∈ aft (step1 l c) cs ↔ _
    rw [ih, step_mem l c h]
    simp only [keysC, List.map_cons, List.mem_cons, not_or] at *
    constructor
    · rintro (⟨d, hd, h1⟩ | ⟨h1, (⟨h2, h3, h4⟩ | ⟨h2, h3⟩)⟩)
      · exact Or.inl ⟨d, Or.inr hd, h1⟩
      · exact Or.inl ⟨c, Or.inl rfl, h2.symm, h3, h4.symm⟩
      · exact Or.inr ⟨⟨h2, h1⟩, h3⟩
    · rintro (⟨d, (rfl | hd), h1⟩ | ⟨⟨h1, h2⟩, h3⟩)
      · obtain ⟨h2, h3, h4⟩ := h1
        exact Or.inr ⟨by rw [← h2]; exact hn2.1, Or.inl ⟨h2.symm, h3, h4.symm⟩⟩
      · exact Or.inl ⟨d, hd, h1⟩
      · exact Or.inr ⟨h2, Or.inr ⟨h1, h3⟩⟩
/-- Two maps that hold the same. -/
structure SameM (a b : List Ent) : Prop where
  len : a.length = b.length
  sub : ∀ e ∈ a, e ∈ b
theorem sameM {a b : List Ent} (ha : (keysE a).Nodup) (hb : (keysE b).Nodup) (h : ∀ k v, (⟨k, v⟩ : Ent) ∈ a ↔ (⟨k, v⟩ : Ent) ∈ b) : SameM a b := by
  have s1 := sub_len ha (m := keysE b) (fun k hk => by
    obtain ⟨e, he, rfl⟩ := List.mem_map.1 hk
    exact List.mem_map.2 ⟨e, (h e.key e.val).1 he, rfl⟩)
  have s2 := sub_len hb (m := keysE a) (fun k hk => by
    obtain ⟨e, he, rfl⟩ := List.mem_map.1 hk
    exact List.mem_map.2 ⟨e, (h e.key e.val).2 he, rfl⟩)
  simp only [keysE, List.length_map] at s1 s2
  exact ⟨by omega, fun e he => (h e.key e.val).1 he⟩
theorem says_plain (d : Chg) (k v : List Int) : says1 (plainC d) k v ↔ says1 d k v := by
  unfold says1 plainC
  constructor
  · rintro ⟨h1, h2, h3⟩
    refine ⟨h1, h2, ?_⟩
    simp only at h2 h3
    rw [h2] at h3; exact h3
  · rintro ⟨h1, h2, h3⟩
    refine ⟨h1, h2, ?_⟩
    simp only
    rw [h2]; exact h3
theorem says_norm (cs : List Chg) (k v : List Int) : (∃ c ∈ normC cs, says1 c k v) ↔ ∃ c ∈ cs, says1 c k v := by
  constructor
  · rintro ⟨c, hc, h⟩
    obtain ⟨d, hd, rfl⟩ := List.mem_map.1 ((normC_perm cs).mem_iff.1 hc)
    exact ⟨d, hd, (says_plain d k v).1 h⟩
  · rintro ⟨d, hd, h⟩
    exact ⟨plainC d, (normC_perm cs).mem_iff.2 (List.mem_map.2 ⟨d, hd, rfl⟩), (says_plain d k v).2 h⟩
theorem keys_norm_mem (cs : List Chg) (k : List Int) : k ∈ keysC (normC cs) ↔ k ∈ keysC cs := (norm_keys cs).mem_iff
/-- Normal's list does what the list does. -/
theorem same_normal {m : List Ent} {cs : List Chg} (hm : (keysE m).Nodup) (hn : (keysC cs).Nodup) : SameM (aft m (normC cs)) (aft m cs) := by
  have hn2 : (keysC (normC cs)).Nodup := pairwise_ne_of_lt (normC_lt hn)
  refine sameM (aft_keys _ _ hm) (aft_keys _ _ hm) fun k v => ?_
  rw [aft_mem _ _ hm hn2, aft_mem _ _ hm hn, says_norm, keys_norm_mem]
/-- Fold's list does what the two lists do, one after the other. -/
theorem same_fold {m : List Ent} {a b : List Chg} (hm : (keysE m).Nodup) (ha : (keysC a).Nodup) (hb : (keysC b).Nodup) : SameM (aft m (mergeL (normC a) (normC b))) (aft (aft m a) b) := by
  have la := normC_lt ha
  have lb := normC_lt hb
  have lm := merge_lt _ _ la lb
  refine sameM (aft_keys _ _ hm) (aft_keys _ _ (aft_keys _ _ hm)) fun k v => ?_
  rw [aft_mem _ _ hm (pairwise_ne_of_lt lm), aft_mem _ _ (aft_keys _ _ hm) hb, aft_mem _ _ hm ha, merge_keys la lb, keys_norm_mem, keys_norm_mem, ← says_norm b]
  constructor
  · rintro (⟨c, hc, h⟩ | ⟨h1, h2⟩)
    · rcases (mem_merge _ _ la lb c).1 hc with hc | ⟨hc, hk⟩
      · exact Or.inl ⟨c, hc, h⟩
      · refine Or.inr ⟨?_, Or.inl ((says_norm a k v).1 ⟨c, hc, h⟩)⟩
        rw [← keys_norm_mem, ← h.1]; exact hk
    · exact Or.inr ⟨fun h => h1 (Or.inr h), Or.inr ⟨fun h => h1 (Or.inl h), h2⟩⟩
  · rintro (⟨c, hc, h⟩ | ⟨h1, (h2 | ⟨h2, h3⟩)⟩)
    · exact Or.inl ⟨c, (mem_merge _ _ la lb c).2 (Or.inl hc), h⟩
    · obtain ⟨c, hc, h⟩ := (says_norm a k v).2 h2
      refine Or.inl ⟨c, (mem_merge _ _ la lb c).2 (Or.inr ⟨hc, ?_⟩), h⟩
      rw [h.1, keys_norm_mem]; exact h1
    · exact Or.inr ⟨fun h => h.elim h2 h1, h3⟩
theorem aft_snoc (l : List Ent) (cs : List Chg) (c : Chg) : aft l (cs ++ [c]) = step1 (aft l cs) c := by simp [aft]
theorem step_len (l : List Ent) (c : Chg) : (step1 l c).length ≤ l.length + 1 := by
  unfold step1
  split
  · have := List.length_filter_le (fun e => decide (e.key ≠ c.key)) l; omega
  · split <;> simp
theorem aft_len : ∀ (cs : List Chg) (l : List Ent), (aft l cs).length ≤ l.length + cs.length
  | [], l => by simp [aft]
  | c :: cs, l => by
    have h1 := aft_len cs (step1 l c)
    have h2 := step_len l c
    show (aft (step1 l c) cs).length ≤ _
    simp only [List.length_cons]; omega
end Go.Proofs.Ytcifbnldohmbnaa
