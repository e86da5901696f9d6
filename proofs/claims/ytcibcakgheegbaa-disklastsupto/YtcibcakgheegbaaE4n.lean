import Derived.Test.YtcibcakgheegbaaE4m
namespace Go.Proofs.Ytcibcakgheegbaa
set_option linter.unusedVariables false
set_option linter.unusedSimpArgs false
open Go.RowKit
attribute [local go_sem ↓] Go.wp_at_zero Go.wp_at_succ

/-! Disks beside one another, and lists beside them. -/
theorem DK.base_le {w : World} {base b2 : Nat} {P : DP} {D : DS} (h : DK w base P D) (hb : b2 ≤ base) : DK w b2 P D := by
  refine ⟨h.cell, h.im, h.gl, h.gm, ⟨h.opn.1, ?_⟩, h.mp, h.new, Nat.le_trans hb h.bp, Nat.le_trans hb h.bg, Nat.le_trans hb h.bm⟩
  rcases h.opn.2 with q | ⟨g, cap, cur, e1, e2, r⟩
  · exact Or.inl q
  · exact Or.inr ⟨g, cap, cur, e1, Nat.le_trans hb e2, r⟩
theorem DA.base_le {w : World} {base b2 : Nat} {F : List Nat} {p : Nat} {D : DS} (h : DA w base F p D) (hb : b2 ≤ base) : DA w b2 F p D := by
  obtain ⟨P, e1, e2, h, k⟩ := h; exact ⟨P, e1, e2, h.base_le hb, k⟩
def dd : Nat × DS := (0, newD [])
structure TL (base : Nat) (wk : World) (ds : List (Nat × DS)) (G : List Nat) : Prop where
  hb : base ≤ wk.heap.size
  ex : ∃ Fs : List (List Nat), Fs.length = ds.length ∧ (∀ i, i < ds.length → DA wk base (Fs.getD i []) (ds.getD i dd).1 (ds.getD i dd).2) ∧ (∀ i j, i < ds.length → j < ds.length → i ≠ j → Apart (Fs.getD i []) (Fs.getD j [])) ∧ (∀ g ∈ G, g < wk.heap.size ∧ ∀ i, i < ds.length → g ∉ Fs.getD i [])
theorem TL.nil (w : World) (base : Nat) (h : base ≤ w.heap.size) : TL base w [] [] := ⟨h, [], rfl, fun i hi => by simp at hi, fun i j hi => by simp at hi, fun g hg => by cases hg⟩
theorem TL.below {base : Nat} {w w' : World} {ds : List (Nat × DS)} {G : List Nat} (h : TL base w ds G) (hB : Below w.heap.size w w') : TL base w' ds G := by
  obtain ⟨hb, Fs, e1, e2, e3, e4⟩ := h
  exact ⟨Nat.le_trans hb hB.size, Fs, e1, fun i hi => (e2 i hi).below hB, e3, fun g hg => ⟨Nat.lt_of_lt_of_le (e4 g hg).1 hB.size, (e4 g hg).2⟩⟩
theorem TL.hold {base : Nat} {w w' : World} {ds : List (Nat × DS)} {G : List Nat} (h : TL base w ds G) (hB : Below w.heap.size w w') {g : Nat} (hg : w.heap.size ≤ g) (hg2 : g < w'.heap.size) : TL base w' ds (g :: G) := by
  obtain ⟨hb, Fs, e1, e2, e3, e4⟩ := h
  refine ⟨Nat.le_trans hb hB.size, Fs, e1, fun i hi => (e2 i hi).below hB, e3, fun k hk => ?_⟩
  rcases List.mem_cons.1 hk with rfl | hk
  · exact ⟨hg2, fun i hi e => by have := ((e2 i hi).lt k e).2; omega⟩
  · exact ⟨Nat.lt_of_lt_of_le (e4 k hk).1 hB.size, (e4 k hk).2⟩
theorem getD_snocF (Fs : List (List Nat)) (F : List Nat) (i : Nat) : (Fs ++ [F]).getD i [] = if i = Fs.length then F else Fs.getD i [] := by
  by_cases h : i < Fs.length
  · rw [if_neg (by omega), List.getD_eq_getElem?_getD, List.getElem?_append_left h, ← List.getD_eq_getElem?_getD]
  · by_cases e : i = Fs.length
    · subst e; rw [if_pos rfl, List.getD_eq_getElem?_getD]; simp
    · rw [if_neg e, List.getD_eq_getElem?_getD, List.getElem?_eq_none (by simp; omega), List.getD_eq_getElem?_getD, List.getElem?_eq_none (by omega)]
theorem getD_snocD (ds : List (Nat × DS)) (x : Nat × DS) (i : Nat) : (ds ++ [x]).getD i dd = if i = ds.length then x else ds.getD i dd := by
  by_cases h : i < ds.length
  · rw [if_neg (by omega), List.getD_eq_getElem?_getD, List.getElem?_append_left h, ← List.getD_eq_getElem?_getD]
  · by_cases e : i = ds.length
    · subst e; rw [if_pos rfl, List.getD_eq_getElem?_getD]; simp
    · rw [if_neg e, List.getD_eq_getElem?_getD, List.getElem?_eq_none (by simp; omega), List.getD_eq_getElem?_getD, List.getElem?_eq_none (by omega)]
theorem TL.push {base : Nat} {w w' : World} {ds : List (Nat × DS)} {G : List Nat} (h : TL base w ds G) (hB : Below w.heap.size w w') {F : List Nat} {p : Nat} {D : DS} (hD : DA w' w.heap.size F p D) : TL base w' (ds ++ [(p, D)]) G := by
  obtain ⟨hb, Fs, e1, e2, e3, e4⟩ := h
  have hF := hD.lt
  refine ⟨Nat.le_trans hb hB.size, Fs ++ [F], by simp [e1], fun i hi => ?_, fun i j hi hj hne => ?_, fun g hg => ⟨Nat.lt_of_lt_of_le (e4 g hg).1 hB.size, fun i hi => ?_⟩⟩
  · rw [getD_snocF, getD_snocD, e1]
    split
    · exact hD.base_le hb
    · exact (e2 i (by simp at hi; omega)).below hB
  · simp at hi hj
    rw [getD_snocF, getD_snocF, e1]
    by_cases h1 : i = ds.length
    · rw [if_pos h1, if_neg (by omega)]
      exact fun k hk e => by have := ((e2 j (by omega)).lt k e).2; have := (hF k hk).1; omega
    · by_cases h2 : j = ds.length
      · rw [if_neg h1, if_pos h2]
        exact fun k hk e => by have := ((e2 i (by omega)).lt k hk).2; have := (hF k e).1; omega
      · rw [if_neg h1, if_neg h2]
        exact e3 i j (by omega) (by omega) hne
  · simp at hi
    rw [getD_snocF, e1]
    split
    · exact fun e => by have := (hF g e).1; have := (e4 g hg).1; omega
    · exact (e4 g hg).2 i (by omega)
theorem getD_setF (Fs : List (List Nat)) (F : List Nat) (i j : Nat) (hi : i < Fs.length) : (Fs.set i F).getD j [] = if j = i then F else Fs.getD j [] := by
  by_cases h : j = i
  · subst h; rw [if_pos rfl, List.getD_eq_getElem?_getD, List.getElem?_set_self hi]; rfl
  · rw [if_neg h, List.getD_eq_getElem?_getD, List.getElem?_set_ne (fun e => h e.symm), ← List.getD_eq_getElem?_getD]
theorem getD_setD (ds : List (Nat × DS)) (x : Nat × DS) (i j : Nat) (hi : i < ds.length) : (ds.set i x).getD j dd = if j = i then x else ds.getD j dd := by
  by_cases h : j = i
  · subst h; rw [if_pos rfl, List.getD_eq_getElem?_getD, List.getElem?_set_self hi]; rfl
  · rw [if_neg h, List.getD_eq_getElem?_getD, List.getElem?_set_ne (fun e => h e.symm), ← List.getD_eq_getElem?_getD]
/-- One of the disks: what a call on it leaves. -/
theorem TL.at {base : Nat} {w : World} {ds : List (Nat × DS)} {G : List Nat} (h : TL base w ds G) (i : Nat) (hi : i < ds.length) :
    ∃ F, DA w base F (ds.getD i dd).1 (ds.getD i dd).2 ∧ (∀ g ∈ G, g ∉ F) ∧ ∀ (w' : World) (D' : DS), Nx base F (ds.getD i dd).1 w D' w' → TL base w' (ds.set i ((ds.getD i dd).1, D')) G ∧ Below base w w' ∧ ∀ g ∈ G, w'.heap[g]? = w.heap[g]? := by
  obtain ⟨hb, Fs, e1, e2, e3, e4⟩ := h
  have hl := (e2 i hi).lt
  refine ⟨Fs.getD i [], e2 i hi, fun g hg => (e4 g hg).2 i hi, fun w' D' ⟨F', hD, hF, hG⟩ => ⟨⟨Nat.le_trans hb hF.size, Fs.set i F', by simp [e1], fun j hj => ?_, fun j k hj hk hne => ?_, fun g hg => ⟨Nat.lt_of_lt_of_le (e4 g hg).1 hF.size, fun j hj => ?_⟩⟩, hF.below (fun k hk => (hl k hk).1) hb, fun g hg => hF.block g (e4 g hg).1 ((e4 g hg).2 i hi)⟩⟩
  · simp at hj
    rw [getD_setF _ _ _ _ (by omega), getD_setD _ _ _ _ hi]
    split
    · exact hD
    · rename_i hne
      exact (e2 j hj).other (b2 := 0) hF (e3 i j hi hj (fun e => hne e.symm))
  · simp at hj hk
    rw [getD_setF _ _ _ _ (by omega), getD_setF _ _ _ _ (by omega)]
    by_cases h1 : j = i
    · rw [if_pos h1, if_neg (by omega)]
      exact (e3 i k hi hk (by omega)).step (fun x hx => ((e2 k hk).lt x hx).2) hG
    · by_cases h2 : k = i
      · rw [if_neg h1, if_pos h2]
        exact ((e3 i j hi hj (by omega)).step (fun x hx => ((e2 j hj).lt x hx).2) hG).symm
      · rw [if_neg h1, if_neg h2]
        exact e3 j k hj hk hne
  · simp at hj
    rw [getD_setF _ _ _ _ (by omega)]
    split
    · intro e
      rcases hG g e with q | q
      · exact (e4 g hg).2 i hi q
      · have := (e4 g hg).1; omega
    · exact (e4 g hg).2 j hj
/-- A list beside the disks. -/
def Lst (w : World) (G : List Nat) (v : Value) (zs : List Int) : Prop := Own w 0 v zs ∧ ∀ k, v.ownBlock = some k → k ∈ G
theorem Own.base_le {w : World} {b b2 : Nat} {v : Value} {zs : List Int} (h : Own w b v zs) (hb : b2 ≤ b) : Own w b2 v zs := by
  refine ⟨h.1, ?_⟩
  rcases h.2 with q | ⟨g, cap, cur, e1, e2, r⟩
  · exact Or.inl q
  · exact Or.inr ⟨g, cap, cur, e1, Nat.le_trans hb e2, r⟩
theorem Lst.keep {w w' : World} {G : List Nat} {v : Value} {zs : List Int} (h : Lst w G v zs) (hk : ∀ g ∈ G, w'.heap[g]? = w.heap[g]?) : Lst w' G v zs := ⟨h.1.of_heap fun k e => hk k (h.2 k e), h.2⟩
theorem Lst.below {w w' : World} {G : List Nat} {v : Value} {zs : List Int} (h : Lst w G v zs) (hB : Below w.heap.size w w') : Lst w' G v zs := ⟨h.1.below hB (Nat.le_refl _), h.2⟩
theorem Lst.mono {w : World} {G : List Nat} {v : Value} {zs : List Int} (h : Lst w G v zs) (g : Nat) : Lst w (g :: G) v zs := ⟨h.1, fun k e => List.mem_cons_of_mem _ (h.2 k e)⟩
/-- A new list joins. -/
theorem TL.list {base : Nat} {w w' : World} {ds : List (Nat × DS)} {G : List Nat} (h : TL base w ds G) (hB : Below w.heap.size w w') {v : Value} {zs : List Int} (hO : Own w' w.heap.size v zs) (hz : 0 < zs.length) : ∃ g, TL base w' ds (g :: G) ∧ Lst w' (g :: G) v zs := by
  obtain ⟨g, cap, rest, rfl, q1, q2, q3, q4, q5⟩ := own_in hO hz
  exact ⟨g, h.hold hB q1 (hlt q2), hO.base_le (Nat.zero_le _), fun k e => by rw [q5] at e; rw [← Option.some.inj e]; simp⟩
/-- A new list joins; its block is new. -/
theorem TL.listb {base : Nat} {w w' : World} {ds : List (Nat × DS)} {G : List Nat} (h : TL base w ds G) (hB : Below w.heap.size w w') {v : Value} {zs : List Int} (hO : Own w' w.heap.size v zs) (hz : 0 < zs.length) : ∃ g, TL base w' ds (g :: G) ∧ Lst w' (g :: G) v zs ∧ base ≤ g := by
  obtain ⟨g, cap, rest, rfl, q1, q2, q3, q4, q5⟩ := own_in hO hz
  exact ⟨g, h.hold hB q1 (hlt q2), ⟨hO.base_le (Nat.zero_le _), fun k e => by rw [q5] at e; rw [← Option.some.inj e]; simp⟩, Nat.le_trans h.hb q1⟩
theorem Lst.form {w : World} {G : List Nat} {v : Value} {zs : List Int} (h : Lst w G v zs) : ∃ sp cap, v = .slice sp zs.length cap ∧ Src w sp cap zs ∧ (sp = none → cap = 0) := h.1.form
theorem emp_replicate (n : Nat) : (newD (List.replicate (256 * n) 0)).np = n := by unfold DS.np newD; simp
end Go.Proofs.Ytcibcakgheegbaa
