import Derived.Test.YtenfklcgkfaajaaDk8
namespace Go.Proofs.Ytenfklcgkfaajaa
set_option linter.unusedVariables false
set_option linter.unusedSimpArgs false
open Go.RowKit

/-! Replies and their bytes, without memory. -/
structure Cg where
  key : List Int
  del : Bool
  val : List Int
structure Nf where
  width : Int
  first : Int
  last : Int
  used : Int
  pages : Int
  keys : Int
  sum : List Int
structure Rp where
  err : Int
  ver : Int
  found : Bool
  more : Bool
  val : List Int
  sum : List Int
  raw : List Int
  list : List Cg
  chs : List Cg
  info : Nf
def z32 : List Int := List.replicate 32 0
def nf0 : Nf := ⟨0, 0, 0, 0, 0, 0, z32⟩
def rp0 : Rp := ⟨0, 0, false, false, [], z32, [], [], [], nf0⟩
def dX : Cg := ⟨z32, false, []⟩
/-! The program's reader. -/
def upV (R : Rd) (most : Int) (n : Nat) : Int := if most < nmV R n then 0 else nmV R n
def upS (R : Rd) (most : Int) (n : Nat) : Rd := if most < nmV R n then ⟨(tkS R n).rest, true⟩ else tkS R n
def flV (R : Rd) : Bool := upV R 1 1 == 1
def flS (R : Rd) : Rd := upS R 1 1
def vaV (R : Rd) : List Int := tkV (upS R 128 2) (upV R 128 2).toNat
def vaS (R : Rd) : Rd := tkS (upS R 128 2) (upV R 128 2).toNat
def cgV (R : Rd) : Cg := if nmV R 1 = 1 then ⟨tkV (tkS R 1) 32, false, vaV (tkS (tkS R 1) 32)⟩ else if nmV R 1 = 2 then ⟨tkV (tkS R 1) 32, true, []⟩ else ⟨tkV (tkS R 1) 32, false, []⟩
def cgS (R : Rd) : Rd := if nmV R 1 = 1 then vaS (tkS (tkS R 1) 32) else if nmV R 1 = 2 then tkS (tkS R 1) 32 else ⟨(tkS (tkS R 1) 32).rest, true⟩
def elV (c : Bool) (R : Rd) : Cg := if c then cgV R else ⟨tkV R 32, false, vaV (tkS R 32)⟩
def elS (c : Bool) (R : Rd) : Rd := if c then cgS R else vaS (tkS R 32)
def liP (c : Bool) : Nat → Rd → List Cg → List Cg × Rd
  | 0, R, acc => (acc, R)
  | n + 1, R, acc => if (elS c R).wrong then ([], elS c R) else liP c n (elS c R) (acc ++ [elV c R])
def lsP (c : Bool) (R : Rd) : List Cg × Rd := liP c (upV R 4096 4).toNat (upS R 4096 4) []
def inV (R : Rd) : Nf := ⟨nmV R 1, nmV (tkS R 1) 8, nmV (tkS (tkS R 1) 8) 8, nmV (tkS (tkS (tkS R 1) 8) 8) 4, nmV (tkS (tkS (tkS (tkS R 1) 8) 8) 4) 4, nmV (tkS (tkS (tkS (tkS (tkS R 1) 8) 8) 4) 4) 4, tkV (tkS (tkS (tkS (tkS (tkS (tkS R 1) 8) 8) 4) 4) 4) 32⟩
def inS (R : Rd) : Rd := tkS (tkS (tkS (tkS (tkS (tkS (tkS R 1) 8) 8) 4) 4) 4) 32
def fdP (op : Int) (R : Rd) : Rp × Rd :=
  if op = 1 then ({ rp0 with ver := nmV R 8 }, tkS R 8)
  else if op = 2 then (if flV R then ({ rp0 with found := true, val := vaV (flS R) }, vaS (flS R)) else (rp0, flS R))
  else if op = 3 then ({ rp0 with sum := tkV R 32 }, tkS R 32)
  else if op = 4 ∨ op = 5 then ({ rp0 with raw := tkV R R.rest.length }, tkS R R.rest.length)
  else if op = 6 then ({ rp0 with more := flV R, list := (lsP false (flS R)).1 }, (lsP false (flS R)).2)
  else if op = 7 then ({ rp0 with chs := (lsP true R).1 }, (lsP true R).2)
  else if op = 8 then ({ rp0 with info := inV R }, inS R)
  else (rp0, R)
def rpP (op : Int) (R : Rd) : Rp × Rd := if nmV R 2 = 0 then fdP op (tkS R 2) else ({ rp0 with err := nmV R 2 }, tkS R 2)
def dcP (op : Int) (raw : List Int) : Option Rp :=
  if knO op && (!(rpP op ⟨raw, false⟩).2.wrong && (rpP op ⟨raw, false⟩).2.rest.isEmpty) then some (rpP op ⟨raw, false⟩).1 else none
/-! The document's reader: a place in the bytes, and whether something was bad. -/
structure Lk where
  at_ : Nat
  bad : Bool
def lkS (b : List Int) (L : Lk) (n : Nat) : Lk := if L.bad = true ∨ b.length < L.at_ + n then ⟨L.at_, true⟩ else ⟨L.at_ + n, false⟩
def lkN (b : List Int) (L : Lk) (n : Nat) : Int := if L.bad = true ∨ b.length < L.at_ + n then 0 else hiL b L.at_ n
def lkC (b : List Int) (L : Lk) (n : Nat) : List Int := if L.bad = true ∨ b.length < L.at_ + n then [] else cutL b L.at_ n
def lkR (b : List Int) (L : Lk) : List Int := if L.bad = true ∨ b.length < L.at_ + 32 then z32 else cutL b L.at_ 32
def lyS (b : List Int) (L : Lk) : Lk := if 1 < lkN b L 1 then ⟨(lkS b L 1).at_, true⟩ else lkS b L 1
def lyV (b : List Int) (L : Lk) : Bool := lkN b L 1 == 1
def lvS (b : List Int) (L : Lk) : Lk := if 128 < lkN b L 2 then ⟨(lkS b L 2).at_, true⟩ else lkS b (lkS b L 2) (lkN b L 2).toNat
def lvV (b : List Int) (L : Lk) : List Int := if 128 < lkN b L 2 then [] else lkC b (lkS b L 2) (lkN b L 2).toNat
def lcS (b : List Int) (L : Lk) : Lk := if 4096 < lkN b L 4 then ⟨(lkS b L 4).at_, true⟩ else lkS b L 4
def lcV (b : List Int) (L : Lk) : Nat := if 4096 < lkN b L 4 then 0 else (lkN b L 4).toNat
def leS (c : Bool) (b : List Int) (L : Lk) : Lk :=
  if c then (if lkN b L 1 = 1 then lvS b (lkS b (lkS b L 1) 32) else if lkN b L 1 = 2 then lkS b (lkS b L 1) 32 else ⟨(lkS b (lkS b L 1) 32).at_, true⟩)
  else lvS b (lkS b L 32)
def leV (c : Bool) (b : List Int) (L : Lk) : Cg :=
  if c then ⟨lkR b (lkS b L 1), lkN b L 1 == 2, if lkN b L 1 = 1 then lvV b (lkS b (lkS b L 1) 32) else []⟩
  else ⟨lkR b L, false, lvV b (lkS b L 32)⟩
def llP (c : Bool) (b : List Int) : Nat → Lk → List Cg → List Cg × Lk
  | 0, L, acc => (acc, L)
  | n + 1, L, acc => if L.bad then (acc, L) else llP c b n (leS c b L) (acc ++ [leV c b L])
/-! Both go the same way. -/
structure Rel (b : List Int) (R : Rd) (L : Lk) : Prop where
  w : R.wrong = L.bad
  s : L.bad = false → R.rest = b.drop L.at_ ∧ L.at_ ≤ b.length
theorem Rel.tk {b : List Int} {R : Rd} {L : Lk} (h : Rel b R L) (n : Nat) : Rel b (tkS R n) (lkS b L n) := by
  unfold tkS lkS
  cases hb : L.bad with
  | true =>
    rw [if_pos (Or.inl rfl)]
    refine ⟨?_, fun h => by cases h⟩
    split
    · exact h.w.trans hb
    · rfl
  | false =>
    obtain ⟨h1, h2⟩ := h.s hb
    have hw := h.w.trans hb
    have hl : R.rest.length = b.length - L.at_ := by rw [h1]; simp
    by_cases hn : n ≤ R.rest.length
    · rw [if_pos hn, if_neg (by simp; omega)]
      exact ⟨hw, fun _ => ⟨by rw [h1, List.drop_drop], by simp only; omega⟩⟩
    · rw [if_neg hn, if_pos (Or.inr (by omega))]
      exact ⟨rfl, fun h => by cases h⟩
theorem lkS_ok {b : List Int} {L : Lk} {n : Nat} (h : (lkS b L n).bad = false) : L.bad = false ∧ L.at_ + n ≤ b.length := by
  unfold lkS at h
  split at h
  · cases h
  · rename_i hc
    constructor
    · cases hb : L.bad
      · rfl
      · exact absurd (Or.inl hb) hc
    · rcases Nat.lt_or_ge b.length (L.at_ + n) with h2 | h2
      · exact absurd (Or.inr h2) hc
      · exact h2
theorem Rel.v {b : List Int} {R : Rd} {L : Lk} (h : Rel b R L) (n : Nat) (hk : (lkS b L n).bad = false) : tkV R n = cutL b L.at_ n := by
  obtain ⟨hb, hl⟩ := lkS_ok hk
  obtain ⟨h1, h2⟩ := h.s hb
  rw [tkV_ok (by rw [h1]; simp; omega), h1]; rfl
theorem lkN_ok {b : List Int} {L : Lk} {n : Nat} (hk : (lkS b L n).bad = false) : lkN b L n = hiL b L.at_ n := by
  obtain ⟨hb, hl⟩ := lkS_ok hk
  unfold lkN; rw [if_neg (by rw [hb]; simp; omega)]
theorem lkC_ok {b : List Int} {L : Lk} {n : Nat} (hk : (lkS b L n).bad = false) : lkC b L n = cutL b L.at_ n := by
  obtain ⟨hb, hl⟩ := lkS_ok hk
  unfold lkC; rw [if_neg (by rw [hb]; simp; omega)]
theorem lkR_ok {b : List Int} {L : Lk} (hk : (lkS b L 32).bad = false) : lkR b L = cutL b L.at_ 32 := by
  obtain ⟨hb, hl⟩ := lkS_ok hk
  unfold lkR; rw [if_neg (by rw [hb]; simp; omega)]
theorem Rel.n {b : List Int} {R : Rd} {L : Lk} (h : Rel b R L) (n : Nat) (hk : (lkS b L n).bad = false) : nmV R n = lkN b L n := by
  rw [lkN_ok hk]; unfold nmV hiL; rw [h.v n hk]
theorem lkS_b {b : List Int} {L : Lk} (n : Nat) (h : L.bad = true) : (lkS b L n).bad = true := by unfold lkS; rw [if_pos (Or.inl h)]
/-- Where nothing is bad behind a step, both have told the same. -/
theorem Rel.up {b : List Int} {R : Rd} {L : Lk} (h : Rel b R L) (most : Int) (n : Nat) (h0 : 0 ≤ most) : Rel b (upS R most n) (if most < lkN b L n then ⟨(lkS b L n).at_, true⟩ else lkS b L n) ∧ ((lkS b L n).bad = false → upV R most n = if most < lkN b L n then 0 else lkN b L n) := by
  have ht := h.tk n
  unfold upS upV
  cases hk : (lkS b L n).bad with
  | false =>
    have hn := h.n n hk
    rw [hn]
    constructor
    · split
      · exact ⟨rfl, fun h => by cases h⟩
      · exact ht
    · intro _; rfl
  | true =>
    have hw : (tkS R n).wrong = true := ht.w.trans hk
    refine ⟨?_, fun h => by cases h⟩
    constructor
    · have a : (if most < nmV R n then (⟨(tkS R n).rest, true⟩ : Rd) else tkS R n).wrong = true := by split; rfl; exact hw
      have c : (if most < lkN b L n then (⟨(lkS b L n).at_, true⟩ : Lk) else lkS b L n).bad = true := by split; rfl; exact hk
      rw [a, c]
    · intro hf
      have c : (if most < lkN b L n then (⟨(lkS b L n).at_, true⟩ : Lk) else lkS b L n).bad = true := by split; rfl; exact hk
      rw [c] at hf; cases hf
theorem Rel.fl {b : List Int} {R : Rd} {L : Lk} (h : Rel b R L) : Rel b (flS R) (lyS b L) ∧ ((lyS b L).bad = false → flV R = lyV b L) := by
  obtain ⟨h1, h2⟩ := h.up 1 1 (by omega)
  refine ⟨h1, fun hb => ?_⟩
  unfold lyS at hb
  split at hb
  · cases hb
  · rename_i hc
    unfold flV lyV
    rw [h2 hb, if_neg hc]
theorem Rel.va {b : List Int} {R : Rd} {L : Lk} (h : Rel b R L) : Rel b (vaS R) (lvS b L) ∧ ((lvS b L).bad = false → vaV R = lvV b L) := by
  obtain ⟨h1, h2⟩ := h.up 128 2 (by omega)
  unfold vaS vaV lvS lvV
  by_cases hc : 128 < lkN b L 2
  · rw [if_pos hc] at h1 ⊢
    refine ⟨⟨?_, fun h => by cases h⟩, fun h => by cases h⟩
    have hw : (upS R 128 2).wrong = true := h1.w
    show (tkS (upS R 128 2) _).wrong = true
    unfold tkS; split
    · exact hw
    · rfl
  · rw [if_neg hc] at h1 h2 ⊢
    rw [if_neg hc]
    cases hk : (lkS b L 2).bad with
    | true =>
      have hw : (upS R 128 2).wrong = true := h1.w.trans hk
      have c : ∀ n, (lkS b (lkS b L 2) n).bad = true := fun n => lkS_b n hk
      refine ⟨⟨?_, fun h => by rw [c] at h; cases h⟩, fun h => by rw [c] at h; cases h⟩
      rw [c]
      unfold tkS; split
      · exact hw
      · rfl
    | false =>
      rw [h2 hk]
      refine ⟨h1.tk _, fun hb => ?_⟩
      rw [h1.v _ hb, lkC_ok hb]
theorem vaS_w {R : Rd} (h : R.wrong = true) : (vaS R).wrong = true := by
  have ht : ∀ (R : Rd) n, R.wrong = true → (tkS R n).wrong = true := fun R n h => by unfold tkS; split; exact h; rfl
  unfold vaS upS
  apply ht
  split
  · rfl
  · exact ht _ _ h
theorem tkS_w {R : Rd} (n : Nat) (h : R.wrong = true) : (tkS R n).wrong = true := by unfold tkS; split; exact h; rfl
theorem lvS_b {b : List Int} {L : Lk} (h : L.bad = true) : (lvS b L).bad = true := by
  unfold lvS; split
  · rfl
  · exact lkS_b _ (lkS_b _ h)
theorem Rel.ofbad {b : List Int} {R : Rd} {L : Lk} (h1 : R.wrong = true) (h2 : L.bad = true) : Rel b R L := ⟨h1.trans h2.symm, fun h => by rw [h2] at h; cases h⟩
theorem Rel.el {b : List Int} {R : Rd} {L : Lk} (h : Rel b R L) (c : Bool) : Rel b (elS c R) (leS c b L) ∧ ((leS c b L).bad = false → elV c R = leV c b L) := by
  unfold elS leS elV leV
  cases c with
  | false =>
    simp only [if_false, Bool.false_eq_true]
    have ht := h.tk 32
    obtain ⟨h1, h2⟩ := ht.va
    refine ⟨h1, fun hb => ?_⟩
    have hk : (lkS b L 32).bad = false := by
      cases hk : (lkS b L 32).bad
      · rfl
      · rw [lvS_b hk] at hb; cases hb
    rw [h.v 32 hk, h2 hb, lkR_ok hk]
  | true =>
    simp only [if_true]
    unfold cgS cgV
    have h1 := h.tk 1
    have h2 := h1.tk 32
    cases hk1 : (lkS b L 1).bad with
    | true =>
      have w1 : (tkS R 1).wrong = true := h1.w.trans hk1
      have b2 := lkS_b (b := b) 32 hk1
      have w2 := tkS_w 32 w1
      have hB : (if lkN b L 1 = 1 then lvS b (lkS b (lkS b L 1) 32) else if lkN b L 1 = 2 then lkS b (lkS b L 1) 32 else ⟨(lkS b (lkS b L 1) 32).at_, true⟩).bad = true := by
        split; exact lvS_b b2
        split; exact b2
        rfl
      refine ⟨Rel.ofbad ?_ hB, fun h => by rw [hB] at h; cases h⟩
      split; exact vaS_w w2
      split; exact w2
      rfl
    | false =>
      have hn := h.n 1 hk1
      rw [hn]
      by_cases m1 : lkN b L 1 = 1
      · rw [if_pos m1, if_pos m1, if_pos m1, if_pos m1]
        obtain ⟨v1, v2⟩ := h2.va
        refine ⟨v1, fun hb => ?_⟩
        have hk : (lkS b (lkS b L 1) 32).bad = false := by
          cases hk : (lkS b (lkS b L 1) 32).bad
          · rfl
          · rw [lvS_b hk] at hb; cases hb
        rw [h1.v 32 hk, v2 hb, lkR_ok hk, m1]; rfl
      · rw [if_neg m1, if_neg m1, if_neg m1, if_neg m1]
        by_cases m2 : lkN b L 1 = 2
        · rw [if_pos m2, if_pos m2, if_pos m2]
          refine ⟨h2, fun hb => ?_⟩
          rw [h1.v 32 hb, lkR_ok hb, m2]; rfl
        · rw [if_neg m2, if_neg m2, if_neg m2]
          exact ⟨Rel.ofbad rfl rfl, fun h => by cases h⟩
theorem elS_w {c : Bool} {R : Rd} (h : R.wrong = true) : (elS c R).wrong = true := by
  unfold elS cgS
  split
  · split; exact vaS_w (tkS_w _ (tkS_w _ h))
    split; exact tkS_w _ (tkS_w _ h)
    rfl
  · exact vaS_w (tkS_w _ h)
theorem Rel.li {b : List Int} (c : Bool) : ∀ (n : Nat) (R : Rd) (L : Lk) (acc : List Cg), Rel b R L → Rel b (liP c n R acc).2 (llP c b n L acc).2 ∧ ((llP c b n L acc).2.bad = false → (liP c n R acc).1 = (llP c b n L acc).1)
  | 0, R, L, acc, h => ⟨h, fun _ => rfl⟩
  | n + 1, R, L, acc, h => by
    obtain ⟨h1, h2⟩ := h.el c
    unfold liP llP
    cases hb : L.bad with
    | true =>
      have hw := elS_w (c := c) (h.w.trans hb)
      rw [if_pos hw, if_pos rfl]
      exact ⟨Rel.ofbad hw hb, fun h => by rw [hb] at h; cases h⟩
    | false =>
      simp only [Bool.false_eq_true, if_false]
      cases hk : (leS c b L).bad with
      | true =>
        have hw := h1.w.trans hk
        rw [if_pos hw]
        have hB : ∀ m acc', (llP c b m (leS c b L) acc').2.bad = true := by
          intro m acc'
          cases m with
          | zero => exact hk
          | succ m => unfold llP; rw [hk, if_pos rfl]; exact hk
        exact ⟨Rel.ofbad hw (hB _ _), fun h => by rw [hB] at h; cases h⟩
      | false =>
        have hw := h1.w.trans hk
        rw [if_neg (by rw [hw]; simp), h2 hk]
        exact Rel.li c n _ _ _ h1
/-! What the document makes of a reply's bytes. -/
def lsL (c : Bool) (b : List Int) (L : Lk) : List Cg × Lk := llP c b (lcV b L) (lcS b L) []
def liS (b : List Int) (L : Lk) : Lk := lkS b (lkS b (lkS b (lkS b (lkS b (lkS b (lkS b L 1) 8) 8) 4) 4) 4) 32
def liV (b : List Int) (L : Lk) : Nf := ⟨lkN b L 1, lkN b (lkS b L 1) 8, lkN b (lkS b (lkS b L 1) 8) 8, lkN b (lkS b (lkS b (lkS b L 1) 8) 8) 4, lkN b (lkS b (lkS b (lkS b (lkS b L 1) 8) 8) 4) 4, lkN b (lkS b (lkS b (lkS b (lkS b (lkS b L 1) 8) 8) 4) 4) 4, lkR b (lkS b (lkS b (lkS b (lkS b (lkS b (lkS b L 1) 8) 8) 4) 4) 4)⟩
def ffP (op : Int) (b : List Int) (L : Lk) : Rp × Lk :=
  if op = 1 then ({ rp0 with ver := lkN b L 8 }, lkS b L 8)
  else if op = 2 then (if lyV b L then ({ rp0 with found := true, val := lvV b (lyS b L) }, lvS b (lyS b L)) else (rp0, lyS b L))
  else if op = 3 then ({ rp0 with sum := lkR b L }, lkS b L 32)
  else if op = 4 ∨ op = 5 then ({ rp0 with raw := lkC b L (b.length - L.at_) }, lkS b L (b.length - L.at_))
  else if op = 6 then ({ rp0 with more := lyV b L, list := (lsL false b (lyS b L)).1 }, (lsL false b (lyS b L)).2)
  else if op = 7 then ({ rp0 with chs := (lsL true b L).1 }, (lsL true b L).2)
  else if op = 8 then ({ rp0 with info := liV b L }, liS b L)
  else (rp0, L)
def lrP (op : Int) (b : List Int) (L : Lk) : Rp × Lk := if lkN b L 2 = 0 then ffP op b (lkS b L 2) else ({ rp0 with err := lkN b L 2 }, lkS b L 2)
def tlP (op : Int) (b : List Int) : Option Rp :=
  if knO op && (!(lrP op b ⟨0, false⟩).2.bad && decide ((lrP op b ⟨0, false⟩).2.at_ = b.length)) then some (lrP op b ⟨0, false⟩).1 else none
theorem bad_back {b : List Int} {L : Lk} {n : Nat} (h : (lkS b L n).bad = false) : L.bad = false := (lkS_ok h).1
theorem Rel.lc {b : List Int} {R : Rd} {L : Lk} (h : Rel b R L) (c : Bool) : Rel b (lsP c R).2 (lsL c b L).2 ∧ ((lsL c b L).2.bad = false → (lsP c R).1 = (lsL c b L).1) := by
  obtain ⟨h1, h2⟩ := h.up 4096 4 (by omega)
  unfold lsP lsL lcV lcS
  by_cases hc : 4096 < lkN b L 4
  · rw [if_pos hc] at h1 ⊢
    rw [if_pos hc]
    have hw : (upS R 4096 4).wrong = true := h1.w
    have hB : (liP c (upV R 4096 4).toNat (upS R 4096 4) []).2.wrong = true := by
      cases (upV R 4096 4).toNat with
      | zero => exact hw
      | succ m => unfold liP; rw [if_pos (elS_w hw)]; exact elS_w hw
    exact ⟨Rel.ofbad hB rfl, fun h => by cases h⟩
  · rw [if_neg hc] at h1 h2 ⊢
    rw [if_neg hc]
    cases hk : (lkS b L 4).bad with
    | true =>
      have hw : (upS R 4096 4).wrong = true := h1.w.trans hk
      have hB : (liP c (upV R 4096 4).toNat (upS R 4096 4) []).2.wrong = true := by
        cases (upV R 4096 4).toNat with
        | zero => exact hw
        | succ m => unfold liP; rw [if_pos (elS_w hw)]; exact elS_w hw
      have hB2 : ∀ m, (llP c b m (lkS b L 4) []).2.bad = true := fun m => by
        cases m with
        | zero => exact hk
        | succ m => unfold llP; rw [hk, if_pos rfl]; exact hk
      exact ⟨Rel.ofbad hB (hB2 _), fun h => by rw [hB2] at h; cases h⟩
    | false =>
      rw [h2 hk]
      exact Rel.li c _ _ _ _ h1
theorem Rel.fd {b : List Int} {R : Rd} {L : Lk} (h : Rel b R L) (op : Int) : Rel b (fdP op R).2 (ffP op b L).2 ∧ ((ffP op b L).2.bad = false → (fdP op R).1 = (ffP op b L).1) := by
  unfold fdP ffP
  by_cases h1 : op = 1
  · simp only [if_pos h1]
    exact ⟨h.tk 8, fun hb => by rw [h.n 8 hb]⟩
  simp only [if_neg h1]
  by_cases h2 : op = 2
  · simp only [if_pos h2]
    obtain ⟨f1, f2⟩ := h.fl
    cases hk : (lyS b L).bad with
    | true =>
      have w1 : (flS R).wrong = true := f1.w.trans hk
      have a : (if flV R = true then ({ rp0 with found := true, val := vaV (flS R) }, vaS (flS R)) else (rp0, flS R)).2.wrong = true := by split; exact vaS_w w1; exact w1
      have c : (if lyV b L = true then ({ rp0 with found := true, val := lvV b (lyS b L) }, lvS b (lyS b L)) else (rp0, lyS b L)).2.bad = true := by split; exact lvS_b hk; exact hk
      exact ⟨Rel.ofbad a c, fun h => by rw [c] at h; cases h⟩
    | false =>
      rw [f2 hk]
      obtain ⟨v1, v2⟩ := f1.va
      split
      · exact ⟨v1, fun hb => by rw [v2 hb]⟩
      · exact ⟨f1, fun _ => rfl⟩
  simp only [if_neg h2]
  by_cases h3 : op = 3
  · simp only [if_pos h3]
    exact ⟨h.tk 32, fun hb => by rw [h.v 32 hb, lkR_ok hb]⟩
  simp only [if_neg h3]
  by_cases h4 : op = 4 ∨ op = 5
  · simp only [if_pos h4]
    cases hb : L.bad with
    | true =>
      exact ⟨Rel.ofbad (tkS_w _ (h.w.trans hb)) (lkS_b _ hb), fun h => by rw [lkS_b _ hb] at h; cases h⟩
    | false =>
      obtain ⟨s1, s2⟩ := h.s hb
      have e : R.rest.length = b.length - L.at_ := by rw [s1]; simp
      rw [e]
      exact ⟨h.tk _, fun hb => by rw [h.v _ hb, lkC_ok hb]⟩
  simp only [if_neg h4]
  by_cases h6 : op = 6
  · simp only [if_pos h6]
    obtain ⟨f1, f2⟩ := h.fl
    obtain ⟨v1, v2⟩ := f1.lc false
    refine ⟨v1, fun hb => ?_⟩
    have hk : (lyS b L).bad = false := by
      cases hk : (lyS b L).bad
      · rfl
      · have : ∀ m L acc, L.bad = true → (llP false b m L acc).2.bad = true := fun m L acc hL => by
          cases m with
          | zero => exact hL
          | succ m => unfold llP; rw [hL, if_pos rfl]; exact hL
        have h4 : (lcS b (lyS b L)).bad = true := by unfold lcS; split; rfl; exact lkS_b _ hk
        have h5 := this (lcV b (lyS b L)) (lcS b (lyS b L)) [] h4
        unfold lsL at hb
        rw [h5] at hb; cases hb
    rw [f2 hk, v2 hb]
  simp only [if_neg h6]
  by_cases h7 : op = 7
  · simp only [if_pos h7]
    obtain ⟨v1, v2⟩ := h.lc true
    exact ⟨v1, fun hb => by rw [v2 hb]⟩
  simp only [if_neg h7]
  by_cases h8 : op = 8
  · simp only [if_pos h8]
    unfold inS liS inV liV
    have t1 := h.tk 1
    have t2 := t1.tk 8
    have t3 := t2.tk 8
    have t4 := t3.tk 4
    have t5 := t4.tk 4
    have t6 := t5.tk 4
    refine ⟨t6.tk 32, fun hb => ?_⟩
    have b6 := bad_back hb
    have b5 := bad_back b6
    have b4 := bad_back b5
    have b3 := bad_back b4
    have b2 := bad_back b3
    have b1 := bad_back b2
    rw [h.n 1 b1, t1.n 8 b2, t2.n 8 b3, t3.n 4 b4, t4.n 4 b5, t5.n 4 b6, t6.v 32 hb, lkR_ok hb]
  simp only [if_neg h8]
  exact ⟨h, fun _ => trivial⟩
theorem lsP_w {c : Bool} {R : Rd} (h : R.wrong = true) : (lsP c R).2.wrong = true := by
  have hw : (upS R 4096 4).wrong = true := by unfold upS; split; rfl; exact tkS_w _ h
  unfold lsP
  cases (upV R 4096 4).toNat with
  | zero => exact hw
  | succ m => unfold liP; rw [if_pos (elS_w hw)]; exact elS_w hw
theorem fdP_w (op : Int) {R : Rd} (h : R.wrong = true) : (fdP op R).2.wrong = true := by
  have hf : (flS R).wrong = true := by unfold flS upS; split; rfl; exact tkS_w _ h
  unfold fdP
  by_cases h1 : op = 1
  · simp only [if_pos h1]; exact tkS_w _ h
  simp only [if_neg h1]
  by_cases h2 : op = 2
  · simp only [if_pos h2]
    cases flV R
    · exact hf
    · exact vaS_w hf
  simp only [if_neg h2]
  by_cases h3 : op = 3
  · simp only [if_pos h3]; exact tkS_w _ h
  simp only [if_neg h3]
  by_cases h4 : op = 4 ∨ op = 5
  · simp only [if_pos h4]; exact tkS_w _ h
  simp only [if_neg h4]
  by_cases h6 : op = 6
  · simp only [if_pos h6]; exact lsP_w hf
  simp only [if_neg h6]
  by_cases h7 : op = 7
  · simp only [if_pos h7]; exact lsP_w h
  simp only [if_neg h7]
  by_cases h8 : op = 8
  · simp only [if_pos h8]; exact tkS_w _ (tkS_w _ (tkS_w _ (tkS_w _ (tkS_w _ (tkS_w _ (tkS_w _ h))))))
  simp only [if_neg h8]
  exact h
theorem Rel.rp {b : List Int} {R : Rd} {L : Lk} (h : Rel b R L) (op : Int) : Rel b (rpP op R).2 (lrP op b L).2 ∧ ((lrP op b L).2.bad = false → (rpP op R).1 = (lrP op b L).1) := by
  unfold rpP lrP
  have t := h.tk 2
  cases hk : (lkS b L 2).bad with
  | false =>
    have hn := h.n 2 hk
    rw [hn]
    split
    · exact t.fd op
    · exact ⟨t, fun _ => rfl⟩
  | true =>
    have w1 : (tkS R 2).wrong = true := t.w.trans hk
    have hf := t.fd op
    have hB : (ffP op b (lkS b L 2)).2.bad = true := hf.1.w.symm.trans (fdP_w op w1)
    have hN : lkN b L 2 = 0 := by
      unfold lkN
      unfold lkS at hk
      split at hk
      · rename_i hc; rw [if_pos hc]
      · cases hk
    rw [if_pos hN]
    refine ⟨Rel.ofbad ?_ hB, fun h => by rw [hB] at h; cases h⟩
    split
    · exact fdP_w op w1
    · exact w1
theorem dc_tl (op : Int) (b : List Int) : dcP op b = tlP op b := by
  have h0 : Rel b ⟨b, false⟩ ⟨0, false⟩ := ⟨rfl, fun _ => ⟨rfl, Nat.zero_le _⟩⟩
  obtain ⟨h1, h2⟩ := h0.rp op
  unfold dcP tlP
  cases hb : (lrP op b ⟨0, false⟩).2.bad with
  | true =>
    have hw := h1.w.trans hb
    rw [hw]; simp
  | false =>
    have hw := h1.w.trans hb
    obtain ⟨s1, s2⟩ := h1.s hb
    have e : (rpP op ⟨b, false⟩).2.rest.isEmpty = decide ((lrP op b ⟨0, false⟩).2.at_ = b.length) := by
      rw [s1, Bool.eq_iff_iff, List.isEmpty_iff, decide_eq_true_iff, List.drop_eq_nil_iff]; omega
    rw [hw, e, h2 hb]
end Go.Proofs.Ytenfklcgkfaajaa
namespace Go.Proofs.Ytenfklcgkfaajaa
set_option linter.unusedVariables false
set_option linter.unusedSimpArgs false
open Go.RowKit

/-! Replies laid down; what was read is laid down again. -/
def flB (x : Bool) : List Int := [if x then 1 else 0]
def vaB (v : List Int) : List Int := lowN v.length 2 ++ v
def elB (c : Bool) (x : Cg) : List Int := if c then (if x.del then [2] ++ x.key else [1] ++ x.key ++ vaB x.val) else x.key ++ vaB x.val
def lsB (c : Bool) (l : List Cg) : List Int := lowN l.length 4 ++ l.flatMap (elB c)
def inB (i : Nf) : List Int := lowN i.width 1 ++ lowN i.first 8 ++ lowN i.last 8 ++ lowN i.used 4 ++ lowN i.pages 4 ++ lowN i.keys 4 ++ i.sum
def fdB (op : Int) (r : Rp) : List Int :=
  if op = 1 then lowN r.ver 8
  else if op = 2 then flB r.found ++ (if r.found then vaB r.val else [])
  else if op = 3 then r.sum
  else if op = 4 ∨ op = 5 then r.raw
  else if op = 6 then flB r.more ++ lsB false r.list
  else if op = 7 then lsB true r.chs
  else if op = 8 then inB r.info
  else []
def ryB (op : Int) (r : Rp) : List Int := lowN r.err 2 ++ (if r.err = 0 then fdB op r else [])
def elF (c : Bool) (x : Cg) : Bool := (c && x.del) || decide (x.val.length ≤ 128)
def lsF (c : Bool) (l : List Cg) : Bool := decide (l.length ≤ 4096) && l.all (elF c)
def n4 (x : Int) : Bool := decide (0 ≤ x ∧ x < 4294967296)
def inF (i : Nf) : Bool := decide (0 ≤ i.width ∧ i.width < 256) && n4 i.used && n4 i.pages && n4 i.keys
def fdF (op : Int) (r : Rp) : Bool :=
  if op = 2 then !r.found || decide (r.val.length ≤ 128)
  else if op = 6 then lsF false r.list
  else if op = 7 then lsF true r.chs
  else if op = 8 then inF r.info
  else true
def ryF (op : Int) (r : Rp) : Bool := if r.err = 0 then fdF op r else decide (0 ≤ r.err ∧ r.err < 65536)
def enR (op : Int) (r : Rp) : Option (List Int) := if knO op && ryF op r then some (ryB op r) else none
/-- A step from R to S that goes well takes these bytes off. -/
def Ate (R S : Rd) (p : List Int) : Prop := S.wrong = false → R.wrong = false ∧ R.rest = p ++ S.rest
theorem Ate.trans {R S T : Rd} {p q : List Int} (h : Ate R S p) (k : Ate S T q) : Ate R T (p ++ q) := fun ht => by
  obtain ⟨a, b⟩ := k ht
  obtain ⟨c, d⟩ := h a
  exact ⟨c, by rw [d, b, List.append_assoc]⟩
theorem tk_ate (R : Rd) (n : Nat) : Ate R (tkS R n) (tkV R n) := fun h => by
  unfold tkS at h ⊢
  unfold tkV
  split at h
  · rename_i hn
    rw [if_pos hn, if_pos hn]
    exact ⟨h, (List.take_append_drop n R.rest).symm⟩
  · cases h
theorem nm_low {R : Rd} (hy : Bys R.rest) (n : Nat) (hn : n ≤ 8) : lowN (nmV R n) n = tkV R n := by
  unfold nmV
  rw [low_w64 n hn]
  have e := low_le (tkV R n) (tkV_bys hy n)
  rwa [tkV_len] at e
theorem nm_ate {R : Rd} (hy : Bys R.rest) (n : Nat) (hn : n ≤ 8) : Ate R (tkS R n) (lowN (nmV R n) n) := by rw [nm_low hy n hn]; exact tk_ate R n
theorem nm_bd {R : Rd} (hy : Bys R.rest) (n : Nat) (hn : n ≤ 7) : 0 ≤ nmV R n ∧ nmV R n < 256 ^ n := by
  have := leN_small (tkV_bys hy n) n (by rw [tkV_len]; exact Nat.le_refl _) hn
  unfold nmV; rw [this.2.2]; exact ⟨this.1, this.2.1⟩
theorem upS_bys {R : Rd} (hy : Bys R.rest) (m : Int) (n : Nat) : Bys (upS R m n).rest := by
  unfold upS; split
  · exact tkS_bys hy n
  · exact tkS_bys hy n
theorem up_ate {R : Rd} (hy : Bys R.rest) (m : Int) (n : Nat) (hn : n ≤ 7) : Ate R (upS R m n) (lowN (upV R m n) n) ∧ ((upS R m n).wrong = false → 0 ≤ upV R m n ∧ upV R m n ≤ m) := by
  have hb := nm_bd hy n hn
  unfold upS upV
  split
  · exact ⟨fun h => (by cases h), fun h => (by cases h)⟩
  · exact ⟨nm_ate hy n (by omega), fun _ => by omega⟩
theorem vaS_bys {R : Rd} (hy : Bys R.rest) : Bys (vaS R).rest := tkS_bys (upS_bys hy _ _) _
theorem vaV_bys {R : Rd} (hy : Bys R.rest) : Bys (vaV R) := tkV_bys (upS_bys hy _ _) _
theorem upV_le (R : Rd) (m : Int) (n : Nat) (h : 0 ≤ m) : upV R m n ≤ m := by unfold upV; split <;> omega
theorem va_len (R : Rd) : (vaV R).length ≤ 128 := by
  unfold vaV; rw [tkV_len]; have := upV_le R 128 2 (by omega); omega
theorem tk_back {R : Rd} {n : Nat} (h : (tkS R n).wrong = false) : R.wrong = false := by
  cases hw : R.wrong
  · rfl
  · rw [tkS_w n hw] at h; cases h
theorem va_ate {R : Rd} (hy : Bys R.rest) : Ate R (vaS R) (vaB (vaV R)) := fun h => by
  have hk := tk_back (n := (upV R 128 2).toNat) h
  obtain ⟨a1, a2⟩ := up_ate hy 128 2 (by omega)
  have b := a2 hk
  have := (a1.trans (tk_ate (upS R 128 2) (upV R 128 2).toNat)) h
  unfold vaB vaV
  rw [tkV_len, Int.toNat_of_nonneg b.1]
  exact this
theorem fl_ate {R : Rd} (hy : Bys R.rest) : Ate R (flS R) (flB (flV R)) := fun h => by
  obtain ⟨a1, a2⟩ := up_ate hy 1 1 (by omega)
  have b := a2 h
  have c := a1 h
  unfold flB flV
  have e : lowN (upV R 1 1) 1 = [if (upV R 1 1 == 1) = true then 1 else 0] := by
    have : upV R 1 1 = 0 ∨ upV R 1 1 = 1 := by omega
    rcases this with e | e <;> rw [e] <;> rfl
  rw [e] at c
  exact c
theorem elS_bys {R : Rd} (hy : Bys R.rest) (c : Bool) : Bys (elS c R).rest := by
  unfold elS cgS
  have h2 := tkS_bys (tkS_bys hy 1) 32
  split
  · split
    · exact vaS_bys h2
    · split
      · exact h2
      · exact h2
  · exact vaS_bys (tkS_bys hy 32)
theorem el_ate {R : Rd} (hy : Bys R.rest) (c : Bool) : Ate R (elS c R) (elB c (elV c R)) := by
  unfold elS elV elB
  cases c with
  | false =>
    simp only [if_false, Bool.false_eq_true]
    exact (tk_ate R 32).trans (va_ate (tkS_bys hy 32))
  | true =>
    simp only [if_true]
    unfold cgS cgV
    by_cases m1 : nmV R 1 = 1
    · rw [if_pos m1, if_pos m1]
      simp only [if_false, Bool.false_eq_true]
      have a := (nm_ate hy 1 (by omega)).trans ((tk_ate (tkS R 1) 32).trans (va_ate (tkS_bys (tkS_bys hy 1) 32)))
      rw [m1] at a
      rw [List.append_assoc]; exact a
    · rw [if_neg m1, if_neg m1]
      by_cases m2 : nmV R 1 = 2
      · rw [if_pos m2, if_pos m2]
        simp only [if_true]
        have a := (nm_ate hy 1 (by omega)).trans (tk_ate (tkS R 1) 32)
        rw [m2] at a
        exact a
      · rw [if_neg m2, if_neg m2]
        exact fun h => by cases h
theorem el_fits (R : Rd) (c : Bool) : elF c (elV c R) = true := by
  unfold elF elV cgV
  cases c with
  | false => simp only [if_false, Bool.false_eq_true, Bool.false_and, Bool.false_or, decide_eq_true_iff]; exact va_len _
  | true =>
    simp only [if_true, Bool.true_and]
    split
    · simp only [Bool.false_or, decide_eq_true_iff]; exact va_len _
    · split <;> simp
theorem li_ate (c : Bool) : ∀ (n : Nat) (R : Rd) (acc : List Cg), Bys R.rest → (liP c n R acc).2.wrong = false → ∃ xs : List Cg, (liP c n R acc).1 = acc ++ xs ∧ xs.length = n ∧ xs.all (elF c) = true ∧ R.wrong = false ∧ R.rest = xs.flatMap (elB c) ++ (liP c n R acc).2.rest
  | 0, R, acc, _, h => ⟨[], by simp [liP], rfl, rfl, h, by simp [liP]⟩
  | n + 1, R, acc, hy, h => by
    unfold liP at h ⊢
    cases hw : (elS c R).wrong with
    | true => rw [if_pos hw] at h; rw [hw] at h; cases h
    | false =>
      rw [hw] at h
      simp only [Bool.false_eq_true, if_false] at h ⊢
      obtain ⟨xs, e1, e2, e3, e4, e5⟩ := li_ate c n (elS c R) (acc ++ [elV c R]) (elS_bys hy c) h
      obtain ⟨a, b⟩ := el_ate hy c hw
      refine ⟨elV c R :: xs, by rw [e1]; simp, by simp [e2], by simp [el_fits, e3], a, ?_⟩
      rw [b, e5]; simp
theorem ls_ate {R : Rd} (hy : Bys R.rest) (c : Bool) : Ate R (lsP c R).2 (lsB c (lsP c R).1) ∧ ((lsP c R).2.wrong = false → lsF c (lsP c R).1 = true) := by
  unfold lsP
  have key : (liP c (upV R 4096 4).toNat (upS R 4096 4) []).2.wrong = false → R.wrong = false ∧ R.rest = lsB c (liP c (upV R 4096 4).toNat (upS R 4096 4) []).1 ++ (liP c (upV R 4096 4).toNat (upS R 4096 4) []).2.rest ∧ lsF c (liP c (upV R 4096 4).toNat (upS R 4096 4) []).1 = true := fun h => by
    obtain ⟨xs, e1, e2, e3, e4, e5⟩ := li_ate c _ _ [] (upS_bys hy _ _) h
    obtain ⟨a1, a2⟩ := up_ate hy 4096 4 (by omega)
    have b := a2 e4
    obtain ⟨c1, c2⟩ := a1 e4
    rw [List.nil_append] at e1
    refine ⟨c1, ?_, ?_⟩
    · rw [e1]
      unfold lsB
      rw [e2, Int.toNat_of_nonneg b.1, c2, List.append_assoc, ← e5]
    · rw [e1]
      unfold lsF
      rw [e3, decide_eq_true (by omega)]; rfl
  exact ⟨fun h => ⟨(key h).1, (key h).2.1⟩, fun h => (key h).2.2⟩
theorem in_ate {R : Rd} (hy : Bys R.rest) : Ate R (inS R) (inB (inV R)) ∧ inF (inV R) = true := by
  have y1 := tkS_bys hy 1
  have y2 := tkS_bys y1 8
  have y3 := tkS_bys y2 8
  have y4 := tkS_bys y3 4
  have y5 := tkS_bys y4 4
  have y6 := tkS_bys y5 4
  constructor
  · have a := (((((((nm_ate hy 1 (by omega)).trans (nm_ate y1 8 (by omega))).trans (nm_ate y2 8 (by omega))).trans (nm_ate y3 4 (by omega))).trans (nm_ate y4 4 (by omega))).trans (nm_ate y5 4 (by omega))).trans (tk_ate _ 32))
    unfold inS inB inV
    simp only
    exact a
  · have b1 := nm_bd hy 1 (by omega)
    have b4 := nm_bd y3 4 (by omega)
    have b5 := nm_bd y4 4 (by omega)
    have b6 := nm_bd y5 4 (by omega)
    rw [show (256 : Int) ^ 1 = 256 by decide] at b1
    rw [show (256 : Int) ^ 4 = 4294967296 by decide] at b4 b5 b6
    unfold inF inV n4
    simp only
    simp only [Bool.and_eq_true, decide_eq_true_iff]
    exact ⟨⟨⟨b1, b4⟩, b5⟩, b6⟩
theorem upV_bd (R : Rd) (m : Int) (n : Nat) (hy : Bys R.rest) (hn : n ≤ 7) (hm : 0 ≤ m) : 0 ≤ upV R m n ∧ upV R m n ≤ m := by
  have := nm_bd hy n hn
  unfold upV; split <;> omega
theorem flS_bys {R : Rd} (hy : Bys R.rest) : Bys (flS R).rest := upS_bys hy _ _
theorem fd_ate {R : Rd} (hy : Bys R.rest) (op : Int) : Ate R (fdP op R).2 (fdB op (fdP op R).1) ∧ ((fdP op R).2.wrong = false → fdF op (fdP op R).1 = true) ∧ (fdP op R).1.err = 0 := by
  unfold fdP fdB fdF
  by_cases h1 : op = 1
  · simp only [if_pos h1]
    exact ⟨nm_ate hy 8 (by omega), by subst h1; simp, rfl⟩
  simp only [if_neg h1]
  by_cases h2 : op = 2
  · simp only [if_pos h2]
    have hf := fl_ate hy
    cases hv : flV R with
    | true =>
      rw [hv] at hf
      simp only [if_true]
      exact ⟨hf.trans (va_ate (flS_bys hy)), fun _ => by simp [va_len], rfl⟩
    | false =>
      rw [hv] at hf
      simp only [if_false, Bool.false_eq_true]
      refine ⟨?_, fun _ => by simp [rp0], rfl⟩
      show Ate R (flS R) (flB rp0.found ++ (if rp0.found = true then vaB rp0.val else []))
      simp only [rp0, Bool.false_eq_true, if_false, List.append_nil]
      exact hf
  simp only [if_neg h2]
  by_cases h3 : op = 3
  · simp only [if_pos h3]
    exact ⟨tk_ate R 32, by subst h3; simp, rfl⟩
  simp only [if_neg h3]
  by_cases h4 : op = 4 ∨ op = 5
  · simp only [if_pos h4]
    refine ⟨tk_ate R _, fun _ => ?_, rfl⟩
    rcases h4 with rfl | rfl <;> simp
  simp only [if_neg h4]
  by_cases h6 : op = 6
  · simp only [if_pos h6]
    obtain ⟨a, b⟩ := ls_ate (flS_bys hy) false
    exact ⟨(fl_ate hy).trans a, b, rfl⟩
  simp only [if_neg h6]
  by_cases h7 : op = 7
  · simp only [if_pos h7]
    obtain ⟨a, b⟩ := ls_ate hy true
    exact ⟨a, b, rfl⟩
  simp only [if_neg h7]
  by_cases h8 : op = 8
  · simp only [if_pos h8]
    obtain ⟨a, b⟩ := in_ate hy
    exact ⟨a, fun _ => b, rfl⟩
  simp only [if_neg h8]
  exact ⟨fun h => ⟨h, rfl⟩, fun _ => trivial, rfl⟩
theorem en_dc (op : Int) (raw : List Int) (hy : Bys raw) (r : Rp) (h : dcP op raw = some r) : enR op r = some raw := by
  unfold dcP at h
  cases hc : (knO op && (!(rpP op ⟨raw, false⟩).2.wrong && (rpP op ⟨raw, false⟩).2.rest.isEmpty)) with
  | false => rw [hc] at h; cases h
  | true =>
    rw [hc, if_pos rfl] at h
    obtain rfl := Option.some.inj h
    obtain ⟨hk, hd⟩ := Bool.and_eq_true_iff.1 hc
    obtain ⟨hw, he⟩ := Bool.and_eq_true_iff.1 hd
    rw [Bool.not_eq_true'] at hw
    have he' := List.isEmpty_iff.1 he
    unfold enR
    rw [hk, Bool.true_and]
    have y0 : Bys (⟨raw, false⟩ : Rd).rest := hy
    have b2 := nm_bd y0 2 (by omega)
    have a2 := nm_ate y0 2 (by omega)
    have y2 := tkS_bys y0 2
    unfold rpP at hw he' ⊢
    by_cases h0 : nmV ⟨raw, false⟩ 2 = 0
    · rw [if_pos h0] at hw he' ⊢
      obtain ⟨f1, f2, f3⟩ := fd_ate y2 op
      have hF : ryF op (fdP op (tkS ⟨raw, false⟩ 2)).1 = true := by unfold ryF; rw [if_pos f3]; exact f2 hw
      rw [if_pos hF]
      obtain ⟨_, e⟩ := (a2.trans f1) hw
      unfold ryB
      rw [f3, if_pos rfl]
      rw [he', List.append_nil, h0] at e
      exact congrArg some e.symm
    · rw [if_neg h0] at hw he' ⊢
      have hF : ryF op { rp0 with err := nmV ⟨raw, false⟩ 2 } = true := by unfold ryF; simp only; rw [if_neg h0]; exact decide_eq_true b2
      rw [if_pos hF]
      obtain ⟨_, e⟩ := a2 hw
      unfold ryB
      simp only
      rw [if_neg h0, List.append_nil]
      rw [he', List.append_nil] at e
      exact congrArg some e.symm
end Go.Proofs.Ytenfklcgkfaajaa
