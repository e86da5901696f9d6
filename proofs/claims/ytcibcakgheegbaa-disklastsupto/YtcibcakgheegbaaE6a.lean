import Derived.Test.YtcibcakgheegbaaE4y
namespace Go.Proofs.Ytcibcakgheegbaa
set_option linter.unusedVariables false
set_option linter.unusedSimpArgs false
open Go.RowKit
attribute [local go_sem ↓] Go.wp_at_zero Go.wp_at_succ

/-- Lists of lists that a law is handed, below B. -/
def Wss (w : World) (B : Nat) (sp : Option Addr) (rss : List (List WR)) : Prop := ∃ b o, (0 < rss.length → b < B ∧ sp = some ⟨b, o, none⟩) ∧ ∀ i, i < rss.length → ∃ sp' cap', w.cell? ⟨b, o + i, none⟩ = some (.slice sp' (rss.getD i []).length cap') ∧ Wrs w B sp' (rss.getD i [])
def Fss (w : World) (B : Nat) (sp : Option Addr) (fss : List (List Int)) : Prop := ∃ b o, (0 < fss.length → b < B ∧ sp = some ⟨b, o, none⟩) ∧ ∀ i, i < fss.length → ∃ sp' cap', w.cell? ⟨b, o + i, none⟩ = some (.slice sp' (fss.getD i []).length cap') ∧ Src w sp' cap' (fss.getD i []) ∧ (0 < (fss.getD i []).length → ∀ a, sp' = some a → a.block < B)
theorem Wss.at {w w1 : World} {B : Nat} {sp : Option Addr} {rss : List (List WR)} (h : Wss w B sp rss) (hb : Below B w w1) (i : Nat) (hi : i < rss.length) : ∃ b o sp' cap', sp = some ⟨b, o, none⟩ ∧ w1.cell? ⟨b, o + i, none⟩ = some (.slice sp' (rss.getD i []).length cap') ∧ Wrs w1 B sp' (rss.getD i []) ∧ b < B := by
  obtain ⟨b, o, h1, h2⟩ := h
  obtain ⟨q1, q2⟩ := h1 (by omega)
  obtain ⟨sp', cap', q3, q4⟩ := h2 i hi
  exact ⟨b, o, sp', cap', q2, (hb.cell (p := ⟨b, o + i, none⟩) q1).trans q3, q4.below hb, q1⟩
theorem Src.below' {w w1 : World} {B : Nat} {sp : Option Addr} {cap : Nat} {zs : List Int} (h : Src w sp cap zs) (hb : Below B w w1) (hB : 0 < zs.length → ∀ a, sp = some a → a.block < B) : Src w1 sp cap zs := by
  obtain ⟨h1, h2, b, o, h3, h4, h5⟩ := h
  refine ⟨h1, h2, b, o, fun hp => Nat.lt_of_lt_of_le (h3 hp) hb.size, h4, fun j hj => ?_⟩
  have : b < B := hB (by omega) _ (h4 (by omega))
  exact (hb.cell (p := ⟨b, o + j, none⟩) this).trans (h5 j hj)
theorem Fss.at {w w1 : World} {B : Nat} {sp : Option Addr} {fss : List (List Int)} (h : Fss w B sp fss) (hb : Below B w w1) (i : Nat) (hi : i < fss.length) : ∃ b o sp' cap', sp = some ⟨b, o, none⟩ ∧ w1.cell? ⟨b, o + i, none⟩ = some (.slice sp' (fss.getD i []).length cap') ∧ Src w1 sp' cap' (fss.getD i []) ∧ (0 < (fss.getD i []).length → ∀ a, sp' = some a → a.block < B) ∧ b < B := by
  obtain ⟨b, o, h1, h2⟩ := h
  obtain ⟨q1, q2⟩ := h1 (by omega)
  obtain ⟨sp', cap', q3, q4, q5⟩ := h2 i hi
  exact ⟨b, o, sp', cap', q2, (hb.cell (p := ⟨b, o + i, none⟩) q1).trans q3, q4.below' hb q5, q5, q1⟩
/-! A page that no write names. -/
theorem lay_other {img : List Int} {n : Nat} {ops : List OW} (h : img.length = 256 * n) (ho : ∀ o ∈ ops, OwOk n o) (x : Nat) (hx : ∀ o ∈ ops, o.page ≠ x / 256) : ∀ i, i ≤ ops.length → (layTo img ops i).getD x 0 = img.getD x 0
  | 0, _ => rfl
  | i + 1, hi => by
    have hm := getD_memW ops i (by omega)
    have := hx _ hm
    rw [layTo_succ _ _ _ (by omega), lay1_get (layTo_len h ho i (by omega)) (ho _ hm), if_neg (by omega), lay_other h ho x hx i (by omega)]
theorem crash_other {img : List Int} {n : Nat} {ops : List OW} (fs : List Int) (h : img.length = 256 * n) (ho : ∀ o ∈ ops, OwOk n o) (x : Nat) (hx : ∀ o ∈ ops, o.page ≠ x / 256) : ∀ i, i ≤ ops.length → (crashTo img ops fs i).getD x 0 = img.getD x 0
  | 0, _ => rfl
  | i + 1, hi => by
    have hm := getD_memW ops i (by omega)
    have := hx _ hm
    have ih := crash_other fs h ho x hx i (by omega)
    rw [crashTo]
    split
    · rw [tornTo_get _ (crashTo_len fs h ho i (by omega)) (ho _ hm) 4 (Nat.le_refl _), if_neg (fun e => by omega), ih]
    · exact ih
/-- Which pages are named. -/
def mark (ns : List Bool) (k : Nat) (rs : List WR) (j : Nat) : List Bool := (rs.take j).foldl (fun ns r => ns.set (pg r k) true) ns
theorem mark_succ (ns : List Bool) (k : Nat) (rs : List WR) (j : Nat) (hj : j < rs.length) : mark ns k rs (j + 1) = (mark ns k rs j).set (pg (rs.getD j dR) k) true := by
  unfold mark; rw [take_snocR rs j hj, List.foldl_append]; rfl
theorem mark_len (ns : List Bool) (k : Nat) (rs : List WR) : ∀ j, (mark ns k rs j).length = ns.length := by
  intro j
  unfold mark
  generalize rs.take j = l
  induction l generalizing ns with
  | nil => rfl
  | cons a l ih => rw [List.foldl_cons, ih, List.length_set]
theorem getD_setB (l : List Bool) (i j : Nat) (x : Bool) (h : i < l.length) : (l.set i x).getD j false = if j = i then x else l.getD j false := by
  by_cases e : j = i
  · subst e; rw [if_pos rfl, List.getD_eq_getElem?_getD, List.getElem?_set_self h]; rfl
  · rw [if_neg e, List.getD_eq_getElem?_getD, List.getElem?_set_ne (fun q => e q.symm), ← List.getD_eq_getElem?_getD]
theorem mark_free {ns : List Bool} {k : Nat} (hk : 0 < k) (hl : ns.length = k) (rs : List WR) (p : Nat) : ∀ j, j ≤ rs.length → (mark ns k rs j).getD p false = false → ns.getD p false = false ∧ ∀ i, i < j → pg (rs.getD i dR) k ≠ p
  | 0, _, h => ⟨h, fun i hi => by omega⟩
  | j + 1, hj, h => by
    rw [mark_succ _ _ _ _ (by omega), getD_setB _ _ _ _ (by rw [mark_len, hl]; exact pg_lt _ k hk)] at h
    split at h
    · cases h
    · rename_i hne
      obtain ⟨q1, q2⟩ := mark_free hk hl rs p j (by omega) h
      refine ⟨q1, fun i hi => ?_⟩
      by_cases e : i = j
      · subst e; exact fun q => hne q.symm
      · exact q2 i (by omega)
/-- What is not named is as it was. -/
def Kept (ns : List Bool) (k : Nat) (img X : List Int) : Prop := ∀ p, p < k → ns.getD p false = false → (img.drop (256 * p)).take 256 = (X.drop (256 * p)).take 256
theorem kept_page {img X : List Int} {k p : Nat} (h1 : img.length = 256 * k) (h2 : X.length = 256 * k) (hp : p < k) (h : ∀ x, x / 256 = p → img.getD x 0 = X.getD x 0) : (img.drop (256 * p)).take 256 = (X.drop (256 * p)).take 256 := by
  apply list_ext0
  · simp [h1, h2]
  · intro j hj
    have hj2 : j < 256 := by simp at hj; omega
    have := h (256 * p + j) (by omega)
    rw [List.getD_eq_getElem?_getD, List.getElem?_take, if_pos hj2, List.getElem?_drop, ← List.getD_eq_getElem?_getD, this, List.getD_eq_getElem?_getD (l := (X.drop (256 * p)).take 256), List.getElem?_take, if_pos hj2, List.getElem?_drop, ← List.getD_eq_getElem?_getD]
theorem page_get {img X : List Int} {p : Nat} (h : (img.drop (256 * p)).take 256 = (X.drop (256 * p)).take 256) (x : Nat) (hx : x / 256 = p) : img.getD x 0 = X.getD x 0 := by
  have : ((img.drop (256 * p)).take 256).getD (x - 256 * p) 0 = ((X.drop (256 * p)).take 256).getD (x - 256 * p) 0 := by rw [h]
  rwa [getD_sub _ _ _ _ (by omega) (by omega), getD_sub _ _ _ _ (by omega) (by omega)] at this
theorem Kept.step {ns : List Bool} {k : Nat} {img img' X : List Int} (hk : 0 < k) (hl : ns.length = k) (h1 : img.length = 256 * k) (h1' : img'.length = 256 * k) (h2 : X.length = 256 * k) (rs : List WR) (h : Kept ns k img X) (ho : ∀ x, (∀ r ∈ rs, pg r k ≠ x / 256) → img'.getD x 0 = img.getD x 0) : Kept (mark ns k rs rs.length) k img' X := by
  intro p hp hf
  obtain ⟨q1, q2⟩ := mark_free hk hl rs p rs.length (Nat.le_refl _) hf
  refine kept_page h1' h2 hp fun x hx => ?_
  rw [ho x (fun r hr => ?_)]
  · exact page_get (h p hp q1) x hx
  · obtain ⟨i, hi, rfl⟩ := List.mem_iff_getElem.1 hr
    have := q2 i hi
    rw [List.getD_eq_getElem?_getD, List.getElem?_eq_getElem hi] at this
    rw [hx]; exact this
end Go.Proofs.Ytcibcakgheegbaa
