import Derived.Test.YtcifbnldohmbnaaKt
namespace Go.Proofs.Ytcifbnldohmbnaa
set_option linter.unusedVariables false
set_option linter.unusedSimpArgs false

/-! Keys and changes, without the model. -/
def cmpK : List Int → List Int → Int
  | [], [] => 0
  | [], _ :: _ => -1
  | _ :: _, [] => 1
  | a :: l, b :: m => if a < b then -1 else if b < a then 1 else cmpK l m
theorem cmpK_self : ∀ l, cmpK l l = 0
  | [] => rfl
  | a :: l => by simp [cmpK, cmpK_self l]
theorem cmpK_eq : ∀ {l m}, cmpK l m = 0 → l = m
  | [], [], _ => rfl
  | [], _ :: _, h => by simp [cmpK] at h
  | _ :: _, [], h => by simp [cmpK] at h
  | a :: l, b :: m, h => by
    simp only [cmpK] at h
    split at h
    · cases h
    · split at h
      · cases h
      · obtain rfl := cmpK_eq h
        rw [show a = b by omega]
theorem cmpK_neg : ∀ l m, cmpK m l = - cmpK l m
  | [], [] => rfl
  | [], _ :: _ => rfl
  | _ :: _, [] => rfl
  | a :: l, b :: m => by
    simp only [cmpK]
    by_cases h : a < b
    · rw [if_pos h, if_neg (by omega), if_pos h]; rfl
    · by_cases h2 : b < a
      · rw [if_pos h2, if_neg h, if_pos h2]
      · rw [if_neg h2, if_neg h, if_neg h, if_neg h2, cmpK_neg l m]
theorem cmpK_cases : ∀ l m, cmpK l m = -1 ∨ cmpK l m = 0 ∨ cmpK l m = 1
  | [], [] => by simp [cmpK]
  | [], _ :: _ => by simp [cmpK]
  | _ :: _, [] => by simp [cmpK]
  | a :: l, b :: m => by
    simp only [cmpK]
    have := cmpK_cases l m
    split
    · simp
    · split
      · simp
      · exact this
theorem cmpK_trans : ∀ {l m n}, cmpK l m = -1 → cmpK m n = -1 → cmpK l n = -1
  | [], [], _, h, _ => by simp [cmpK] at h
  | [], _ :: _, [], _, h => by simp [cmpK] at h
  | [], _ :: _, _ :: _, _, _ => rfl
  | _ :: _, [], _, h, _ => by simp [cmpK] at h
  | _ :: _, _ :: _, [], _, h => by simp [cmpK] at h
  | a :: l, b :: m, c :: n, h, k => by
    simp only [cmpK] at h k ⊢
    split at h
    · split at k
      · rw [if_pos (by omega)]
      · split at k
        · cases k
        · rw [if_pos (by omega)]
    · split at h
      · cases h
      · split at k
        · rw [if_pos (by omega)]
        · split at k
          · cases k
          · rw [if_neg (by omega), if_neg (by omega)]; exact cmpK_trans h k
theorem cmpK_le_trans {l m n : List Int} (h : cmpK l m ≤ 0) (k : cmpK m n ≤ 0) : cmpK l n ≤ 0 := by
  rcases cmpK_cases l m with h1 | h1 | h1
  · rcases cmpK_cases m n with k1 | k1 | k1
    · rw [cmpK_trans h1 k1]; decide
    · obtain rfl := cmpK_eq k1; exact h
    · omega
  · obtain rfl := cmpK_eq h1; exact k
  · omega
structure Chg where
  key : List Int
  del : Bool
  val : List Int
def plainC (c : Chg) : Chg := ⟨c.key, c.del, if c.del then [] else c.val⟩
theorem plainC_key (c : Chg) : (plainC c).key = c.key := rfl
theorem plainC_plain (c : Chg) : plainC (plainC c) = plainC c := by
  unfold plainC; cases c.del <;> simp
def LeC (a b : Chg) : Prop := cmpK a.key b.key ≤ 0
def LtC (a b : Chg) : Prop := cmpK a.key b.key = -1
theorem LtC.irrefl (a : Chg) : ¬ LtC a a := fun h => by unfold LtC at h; rw [cmpK_self] at h; cases h
theorem LtC.trans {a b c : Chg} (h : LtC a b) (k : LtC b c) : LtC a c := cmpK_trans h k
theorem LtC.asymm {a b : Chg} (h : LtC a b) : ¬ LtC b a := fun k => LtC.irrefl _ (h.trans k)
theorem LtC.ne {a b : Chg} (h : LtC a b) : a.key ≠ b.key := fun e => by unfold LtC at h; rw [e, cmpK_self] at h; cases h
theorem LeC.lt {a b : Chg} (h : LeC a b) (hne : a.key ≠ b.key) : LtC a b := by
  unfold LeC at h
  rcases cmpK_cases a.key b.key with h1 | h1 | h1
  · exact h1
  · exact absurd (cmpK_eq h1) hne
  · omega
theorem LtC.le {a b : Chg} (h : LtC a b) : LeC a b := by unfold LeC; rw [h]; decide
/-- Two lists in strict order with the same members are one. -/
theorem sorted_ext : ∀ {l m : List Chg}, l.Pairwise LtC → m.Pairwise LtC → (∀ c, c ∈ l ↔ c ∈ m) → l = m
  | [], [], _, _, _ => rfl
  | [], b :: m, _, _, h => by have := (h b).2 (by simp); simp at this
  | a :: l, [], _, _, h => by have := (h a).1 (by simp); simp at this
  | a :: l, b :: m, hl, hm, h => by
    obtain ⟨h1, h2⟩ := List.pairwise_cons.1 hl
    obtain ⟨k1, k2⟩ := List.pairwise_cons.1 hm
    have e : a = b := by
      rcases List.mem_cons.1 ((h a).1 (by simp)) with rfl | ha
      · rfl
      · rcases List.mem_cons.1 ((h b).2 (by simp)) with rfl | hb
        · rfl
        · exact absurd (k1 a ha) (h1 b hb).asymm
    subst e
    rw [sorted_ext h2 k2 fun c => ?_]
    constructor
    · intro hc
      rcases List.mem_cons.1 ((h c).1 (by simp [hc])) with rfl | hq
      · exact absurd (h1 _ hc) (LtC.irrefl _)
      · exact hq
    · intro hc
      rcases List.mem_cons.1 ((h c).2 (by simp [hc])) with rfl | hq
      · exact absurd (k1 _ hc) (LtC.irrefl _)
      · exact hq
def keysC (cs : List Chg) : List (List Int) := cs.map Chg.key
def DupC (cs : List Chg) : Prop := ¬ (keysC cs).Nodup
theorem pairwise_ne_of_lt {l : List Chg} (h : l.Pairwise LtC) : (keysC l).Nodup := by
  unfold keysC List.Nodup
  rw [List.pairwise_map]
  exact h.imp fun h => h.ne
/-- In order, no key twice: in strict order. -/
theorem lt_of_le_nodup {l : List Chg} (h : l.Pairwise LeC) (hn : (keysC l).Nodup) : l.Pairwise LtC := by
  unfold keysC List.Nodup at hn
  rw [List.pairwise_map] at hn
  exact h.imp₂ (fun _ _ a b => LeC.lt a b) hn
/-- In order, no two neighbours alike: no key twice. -/
theorem lt_of_neighbours {l : List Chg} (h : l.Pairwise LeC) (hn : ∀ i, i + 1 < l.length → (keysC l)[i]? ≠ (keysC l)[i + 1]?) : l.Pairwise LtC := by
  induction l with
  | nil => simp
  | cons a l ih =>
    obtain ⟨h1, h2⟩ := List.pairwise_cons.1 h
    have ih' := ih h2 fun i hi => by
      have := hn (i + 1) (by simp; omega)
      simpa [keysC] using this
    refine List.pairwise_cons.2 ⟨fun b hb => ?_, ih'⟩
    cases l with
    | nil => simp at hb
    | cons c l =>
      have hac : LtC a c := (h1 c (by simp)).lt (by have := hn 0 (by simp); simpa [keysC] using this)
      rcases List.mem_cons.1 hb with rfl | hb
      · exact hac
      · exact hac.trans ((List.pairwise_cons.1 ih').1 b hb)
theorem dup_neighbours {l : List Chg} {i : Nat} (hi : i + 1 < l.length) (he : (keysC l)[i]? = (keysC l)[i + 1]?) : ¬ (keysC l).Nodup := fun hn => by
  have hl : (keysC l).length = l.length := by simp [keysC]
  have := List.pairwise_iff_getElem.1 hn i (i + 1) (by omega) (by omega) (by omega)
  rw [List.getElem?_eq_getElem (by omega), List.getElem?_eq_getElem (by omega)] at he
  exact this (Option.some.inj he)
def leB (a b : Chg) : Bool := decide (cmpK a.key b.key ≤ 0)
theorem leB_iff (a b : Chg) : leB a b = true ↔ LeC a b := by simp [leB, LeC]
def normC (cs : List Chg) : List Chg := (cs.map plainC).mergeSort leB
theorem normC_perm (cs : List Chg) : (normC cs).Perm (cs.map plainC) := List.mergeSort_perm _ _
theorem normC_le (cs : List Chg) : (normC cs).Pairwise LeC := by
  have := List.pairwise_mergeSort (le := leB) (fun a b c h k => by rw [leB_iff] at *; exact cmpK_le_trans h k) (fun a b => by
    simp only [leB, Bool.or_eq_true, decide_eq_true_eq]; rw [cmpK_neg a.key b.key]; omega) (cs.map plainC)
  exact this.imp fun h => (leB_iff _ _).1 h
theorem keys_plain (cs : List Chg) : keysC (cs.map plainC) = keysC cs := by simp [keysC, Function.comp_def, plainC_key]
theorem keys_perm {l m : List Chg} (h : l.Perm m) : (keysC l).Perm (keysC m) := h.map _
theorem nodup_perm {l m : List Chg} (h : l.Perm m) : (keysC l).Nodup ↔ (keysC m).Nodup := (keys_perm h).nodup_iff
theorem normC_lt {cs : List Chg} (hn : (keysC cs).Nodup) : (normC cs).Pairwise LtC :=
  lt_of_le_nodup (normC_le cs) ((nodup_perm (normC_perm cs)).2 (by rw [keys_plain]; exact hn))
/-- Whatever sorted list of the same changes: where no key stands twice it is this one. -/
theorem norm_unique {cs l : List Chg} (hp : l.Perm (cs.map plainC)) (hs : l.Pairwise LeC) (hn : (keysC cs).Nodup) : l = normC cs :=
  sorted_ext (lt_of_le_nodup hs ((nodup_perm hp).2 (by rw [keys_plain]; exact hn))) (normC_lt hn) fun c => by rw [hp.mem_iff, (normC_perm cs).mem_iff]
/-- The error of P3.1 up to n. -/
def longC (cs : List Chg) : Bool := cs.any fun c => !c.del && decide (128 < c.val.length)
def wrongC (cs : List Chg) (n : Nat) : Int := if n < cs.length then 31 else if longC cs then 32 else if (keysC cs).Nodup then 0 else 33
end Go.Proofs.Ytcifbnldohmbnaa
