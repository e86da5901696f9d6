import Derived.Test.YthdjgpdgedhonaaDk8
namespace Go.Proofs.Ythdjgpdgedhonaa
set_option linter.unusedVariables false
set_option linter.unusedSimpArgs false
open Go.RowKit

/-! Replies and their bytes, without memory. -/
structure Cg where
  key : List Int
  del : Bool
  val : List Int
structure Nf where
  width : Int
  first : Int
  last : Int
  used : Int
  pages : Int
  keys : Int
  sum : List Int
structure Rp where
  err : Int
  ver : Int
  found : Bool
  more : Bool
  val : List Int
  sum : List Int
  raw : List Int
  list : List Cg
  chs : List Cg
  info : Nf
def z32 : List Int := List.replicate 32 0
def nf0 : Nf := ⟨0, 0, 0, 0, 0, 0, z32⟩
def rp0 : Rp := ⟨0, 0, false, false, [], z32, [], [], [], nf0⟩
def dX : Cg := ⟨z32, false, []⟩
/-! The program's reader. -/
def upV (R : Rd) (most : Int) (n : Nat) : Int := if most < nmV R n then 0 else nmV R n
def upS (R : Rd) (most : Int) (n : Nat) : Rd := if most < nmV R n then ⟨(tkS R n).rest, true⟩ else tkS R n
def flV (R : Rd) : Bool := upV R 1 1 == 1
def flS (R : Rd) : Rd := upS R 1 1
def vaV (R : Rd) : List Int := tkV (upS R 128 2) (upV R 128 2).toNat
def vaS (R : Rd) : Rd := tkS (upS R 128 2) (upV R 128 2).toNat
def cgV (R : Rd) : Cg := if nmV R 1 = 1 then ⟨tkV (tkS R 1) 32, false, vaV (tkS (tkS R 1) 32)⟩ else if nmV R 1 = 2 then ⟨tkV (tkS R 1) 32, true, []⟩ else ⟨tkV (tkS R 1) 32, false, []⟩
def cgS (R : Rd) : Rd := if nmV R 1 = 1 then vaS (tkS (tkS R 1) 32) else if nmV R 1 = 2 then tkS (tkS R 1) 32 else ⟨(tkS (tkS R 1) 32).rest, true⟩
def elV (c : Bool) (R : Rd) : Cg := if c then cgV R else ⟨tkV R 32, false, vaV (tkS R 32)⟩
def elS (c : Bool) (R : Rd) : Rd := if c then cgS R else vaS (tkS R 32)
def liP (c : Bool) : Nat → Rd → List Cg → List Cg × Rd
  | 0, R, acc => (acc, R)
  | n + 1, R, acc => if (elS c R).wrong then ([], elS c R) else liP c n (elS c R) (acc ++ [elV c R])
def lsP (c : Bool) (R : Rd) : List Cg × Rd := liP c (upV R 4096 4).toNat (upS R 4096 4) []
def inV (R : Rd) : Nf := ⟨nmV R 1, nmV (tkS R 1) 8, nmV (tkS (tkS R 1) 8) 8, nmV (tkS (tkS (tkS R 1) 8) 8) 4, nmV (tkS (tkS (tkS (tkS R 1) 8) 8) 4) 4, nmV (tkS (tkS (tkS (tkS (tkS R 1) 8) 8) 4) 4) 4, tkV (tkS (tkS (tkS (tkS (tkS (tkS R 1) 8) 8) 4) 4) 4) 32⟩
def inS (R : Rd) : Rd := tkS (tkS (tkS (tkS (tkS (tkS (tkS R 1) 8) 8) 4) 4) 4) 32
def fdP (op : Int) (R : Rd) : Rp × Rd :=
  if op = 1 then ({ rp0 with ver := nmV R 8 }, tkS R 8)
  else if op = 2 then (if flV R then ({ rp0 with found := true, val := vaV (flS R) }, vaS (flS R)) else (rp0, flS R))
  else if op = 3 then ({ rp0 with sum := tkV R 32 }, tkS R 32)
  else if op = 4 ∨ op = 5 then ({ rp0 with raw := tkV R R.rest.length }, tkS R R.rest.length)
  else if op = 6 then ({ rp0 with more := flV R, list := (lsP false (flS R)).1 }, (lsP false (flS R)).2)
  else if op = 7 then ({ rp0 with chs := (lsP true R).1 }, (lsP true R).2)
  else if op = 8 then ({ rp0 with info := inV R }, inS R)
  else (rp0, R)
def rpP (op : Int) (R : Rd) : Rp × Rd := if nmV R 2 = 0 then fdP op (tkS R 2) else ({ rp0 with err := nmV R 2 }, tkS R 2)
def dcP (op : Int) (raw : List Int) : Option Rp :=
  if knO op && (!(rpP op ⟨raw, false⟩).2.wrong && (rpP op ⟨raw, false⟩).2.rest.isEmpty) then some (rpP op ⟨raw, false⟩).1 else none
/-! The document's reader: a place in the bytes, and whether something was bad. -/
structure Lk where
  at_ : Nat
  bad : Bool
def lkS (b : List Int) (L : Lk) (n : Nat) : Lk := if L.bad = true ∨ b.length < L.at_ + n then ⟨L.at_, true⟩ else ⟨L.at_ + n, false⟩
def lkN (b : List Int) (L : Lk) (n : Nat) : Int := if L.bad = true ∨ b.length < L.at_ + n then 0 else hiL b L.at_ n
def lkC (b : List Int) (L : Lk) (n : Nat) : List Int := if L.bad = true ∨ b.length < L.at_ + n then [] else cutL b L.at_ n
def lkR (b : List Int) (L : Lk) : List Int := if L.bad = true ∨ b.length < L.at_ + 32 then z32 else cutL b L.at_ 32
def lyS (b : List Int) (L : Lk) : Lk := if 1 < lkN b L 1 then ⟨(lkS b L 1).at_, true⟩ else lkS b L 1
def lyV (b : List Int) (L : Lk) : Bool := lkN b L 1 == 1
def lvS (b : List Int) (L : Lk) : Lk := if 128 < lkN b L 2 then ⟨(lkS b L 2).at_, true⟩ else lkS b (lkS b L 2) (lkN b L 2).toNat
def lvV (b : List Int) (L : Lk) : List Int := if 128 < lkN b L 2 then [] else lkC b (lkS b L 2) (lkN b L 2).toNat
def lcS (b : List Int) (L : Lk) : Lk := if 4096 < lkN b L 4 then ⟨(lkS b L 4).at_, true⟩ else lkS b L 4
def lcV (b : List Int) (L : Lk) : Nat := if 4096 < lkN b L 4 then 0 else (lkN b L 4).toNat
def leS (c : Bool) (b : List Int) (L : Lk) : Lk :=
  if c then (if lkN b L 1 = 1 then lvS b (lkS b (lkS b L 1) 32) else if lkN b L 1 = 2 then lkS b (lkS b L 1) 32 else ⟨(lkS b (lkS b L 1) 32).at_, true⟩)
  else lvS b (lkS b L 32)
def leV (c : Bool) (b : List Int) (L : Lk) : Cg :=
  if c then ⟨lkR b (lkS b L 1), lkN b L 1 == 2, if lkN b L 1 = 1 then lvV b (lkS b (lkS b L 1) 32) else []⟩
  else ⟨lkR b L, false, lvV b (lkS b L 32)⟩
def llP (c : Bool) (b : List Int) : Nat → Lk → List Cg → List Cg × Lk
  | 0, L, acc => (acc, L)
  | n + 1, L, acc => if L.bad then (acc, L) else llP c b n (leS c b L) (acc ++ [leV c b L])
/-! Both go the same way. -/
structure Rel (b : List Int) (R : Rd) (L : Lk) : Prop where
  w : R.wrong = L.bad
  s : L.bad = false → R.rest = b.drop L.at_ ∧ L.at_ ≤ b.length
theorem Rel.tk {b : List Int} {R : Rd} {L : Lk} (h : Rel b R L) (n : Nat) : Rel b (tkS R n) (lkS b L n) := by
  unfold tkS lkS
  cases hb : L.bad with
  | true =>
    rw [if_pos (Or.inl rfl)]
    refine ⟨?_, fun h => by cases h⟩
    split
    · exact h.w.trans hb
    · rfl
  | false =>
    obtain ⟨h1, h2⟩ := h.s hb
    have hw := h.w.trans hb
    have hl : R.rest.length = b.length - L.at_ := by rw [h1]; simp
    by_cases hn : n ≤ R.rest.length
    · rw [if_pos hn, if_neg (by simp; omega)]
      exact ⟨hw, fun _ => ⟨by rw [h1, List.drop_drop], by simp only; omega⟩⟩
    · rw [if_neg hn, if_pos (Or.inr (by omega))]
      exact ⟨rfl, fun h => by cases h⟩
theorem lkS_ok {b : List Int} {L : Lk} {n : Nat} (h : (lkS b L n).bad = false) : L.bad = false ∧ L.at_ + n ≤ b.length := by
  unfold lkS at h
  split at h
  · cases h
  · rename_i hc
    constructor
    · cases hb : L.bad
      · rfl
      · exact absurd (Or.inl hb) hc
    · rcases Nat.lt_or_ge b.length (L.at_ + n) with h2 | h2
      · exact absurd (Or.inr h2) hc
      · exact h2
theorem Rel.v {b : List Int} {R : Rd} {L : Lk} (h : Rel b R L) (n : Nat) (hk : (lkS b L n).bad = false) : tkV R n = cutL b L.at_ n := by
  obtain ⟨hb, hl⟩ := lkS_ok hk
  obtain ⟨h1, h2⟩ := h.s hb
  rw [tkV_ok (by rw [h1]; simp; omega), h1]; rfl
theorem lkN_ok {b : List Int} {L : Lk} {n : Nat} (hk : (lkS b L n).bad = false) : lkN b L n = hiL b L.at_ n := by
  obtain ⟨hb, hl⟩ := lkS_ok hk
  unfold lkN; rw [if_neg (by rw [hb]; simp; omega)]
theorem lkC_ok {b : List Int} {L : Lk} {n : Nat} (hk : (lkS b L n).bad = false) : lkC b L n = cutL b L.at_ n := by
  obtain ⟨hb, hl⟩ := lkS_ok hk
  unfold lkC; rw [if_neg (by rw [hb]; simp; omega)]
theorem lkR_ok {b : List Int} {L : Lk} (hk : (lkS b L 32).bad = false) : lkR b L = cutL b L.at_ 32 := by
  obtain ⟨hb, hl⟩ := lkS_ok hk
  unfold lkR; rw [if_neg (by rw [hb]; simp; omega)]
theorem Rel.n {b : List Int} {R : Rd} {L : Lk} (h : Rel b R L) (n : Nat) (hk : (lkS b L n).bad = false) : nmV R n = lkN b L n := by
  rw [lkN_ok hk]; unfold nmV hiL; rw [h.v n hk]
theorem lkS_b {b : List Int} {L : Lk} (n : Nat) (h : L.bad = true) : (lkS b L n).bad = true := by unfold lkS; rw [if_pos (Or.inl h)]
/-- Where nothing is bad behind a step, both have told the same. -/
theorem Rel.up {b : List Int} {R : Rd} {L : Lk} (h : Rel b R L) (most : Int) (n : Nat) (h0 : 0 ≤ most) : Rel b (upS R most n) (if most < lkN b L n then ⟨(lkS b L n).at_, true⟩ else lkS b L n) ∧ ((lkS b L n).bad = false → upV R most n = if most < lkN b L n then 0 else lkN b L n) := by
  have ht := h.tk n
  unfold upS upV
  cases hk : (lkS b L n).bad with
  | false =>
    have hn := h.n n hk
    rw [hn]
    constructor
    · split
      · exact ⟨rfl, fun h => by cases h⟩
      · exact ht
    · intro _; rfl
  | true =>
    have hw : (tkS R n).wrong = true := ht.w.trans hk
    refine ⟨?_, fun h => by cases h⟩
    constructor
    · have a : (if most < nmV R n then (⟨(tkS R n).rest, true⟩ : Rd) else tkS R n).wrong = true := by split; rfl; exact hw
      have c : (if most < lkN b L n then (⟨(lkS b L n).at_, true⟩ : Lk) else lkS b L n).bad = true := by split; rfl; exact hk
      rw [a, c]
    · intro hf
      have c : (if most < lkN b L n then (⟨(lkS b L n).at_, true⟩ : Lk) else lkS b L n).bad = true := by split; rfl; exact hk
      rw [c] at hf; cases hf
theorem Rel.fl {b : List Int} {R : Rd} {L : Lk} (h : Rel b R L) : Rel b (flS R) (lyS b L) ∧ ((lyS b L).bad = false → flV R = lyV b L) := by
  obtain ⟨h1, h2⟩ := h.up 1 1 (by omega)
  refine ⟨h1, fun hb => ?_⟩
  unfold lyS at hb
  split at hb
  · cases hb
  · rename_i hc
    unfold flV lyV
    rw [h2 hb, if_neg hc]
theorem Rel.va {b : List Int} {R : Rd} {L : Lk} (h : Rel b R L) : Rel b (vaS R) (lvS b L) ∧ ((lvS b L).bad = false → vaV R = lvV b L) := by
  obtain ⟨h1, h2⟩ := h.up 128 2 (by omega)
  unfold vaS vaV lvS lvV
  by_cases hc : 128 < lkN b L 2
  · rw [if_pos hc] at h1 ⊢
    refine ⟨⟨?_, fun h => by cases h⟩, fun h => by cases h⟩
    have hw : (upS R 128 2).wrong = true := h1.w
    show (tkS (upS R 128 2) _).wrong = true
    unfold tkS; split
    · exact hw
    · rfl
  · rw [if_neg hc] at h1 h2 ⊢
    rw [if_neg hc]
    cases hk : (lkS b L 2).bad with
    | true =>
      have hw : (upS R 128 2).wrong = true := h1.w.trans hk
      have c : ∀ n, (lkS b (lkS b L 2) n).bad = true := fun n => lkS_b n hk
      refine ⟨⟨?_, fun h => by rw [c] at h; cases h⟩, fun h => by rw [c] at h; cases h⟩
      rw [c]
      unfold tkS; split
      · exact hw
      · rfl
    | false =>
      rw [h2 hk]
      refine ⟨h1.tk _, fun hb => ?_⟩
      rw [h1.v _ hb, lkC_ok hb]
theorem vaS_w {R : Rd} (h : R.wrong = true) : (vaS R).wrong = true := by
  have ht : ∀ (R : Rd) n, R.wrong = true → (tkS R n).wrong = true := fun R n h => by unfold tkS; split; exact h; rfl
  unfold vaS upS
  apply ht
  split
  · rfl
  · exact ht _ _ h
theorem tkS_w {R : Rd} (n : Nat) (h : R.wrong = true) : (tkS R n).wrong = true := by unfold tkS; split; exact h; rfl
theorem lvS_b {b : List Int} {L : Lk} (h : L.bad = true) : (lvS b L).bad = true := by
  unfold lvS; split
  · rfl
  · exact lkS_b _ (lkS_b _ h)
theorem Rel.ofbad {b : List Int} {R : Rd} {L : Lk} (h1 : R.wrong = true) (h2 : L.bad = true) : Rel b R L := ⟨h1.trans h2.symm, fun h => by rw [h2] at h; cases h⟩
theorem Rel.el {b : List Int} {R : Rd} {L : Lk} (h : Rel b R L) (c : Bool) : Rel b (elS c R) (leS c b L) ∧ ((leS c b L).bad = false → elV c R = leV c b L) := by
  unfold elS leS elV leV
  cases c with
  | false =>
    simp only [if_false, Bool.false_eq_true]
    have ht := h.tk 32
    obtain ⟨h1, h2⟩ := ht.va
    refine ⟨h1, fun hb => ?_⟩
    have hk : (lkS b L 32).bad = false := by
      cases hk : (lkS b L 32).bad
      · rfl
      · rw [lvS_b hk] at hb; cases hb
    rw [h.v 32 hk, h2 hb, lkR_ok hk]
  | true =>
    simp only [if_true]
    unfold cgS cgV
    have h1 := h.tk 1
    have h2 := h1.tk 32
    cases hk1 : (lkS b L 1).bad with
    | true =>
      have w1 : (tkS R 1).wrong = true := h1.w.trans hk1
      have b2 := lkS_b (b := b) 32 hk1
      have w2 := tkS_w 32 w1
      have hB : (if lkN b L 1 = 1 then lvS b (lkS b (lkS b L 1) 32) else if lkN b L 1 = 2 then lkS b (lkS b L 1) 32 else ⟨(lkS b (lkS b L 1) 32).at_, true⟩).bad = true := by
        split; exact lvS_b b2
        split; exact b2
        rfl
      refine ⟨Rel.ofbad ?_ hB, fun h => by rw [hB] at h; cases h⟩
      split; exact vaS_w w2
      split; exact w2
      rfl
    | false =>
      have hn := h.n 1 hk1
      rw [hn]
      by_cases m1 : lkN b L 1 = 1
      · rw [if_pos m1, if_pos m1, if_pos m1, if_pos m1]
        obtain ⟨v1, v2⟩ := h2.va
        refine ⟨v1, fun hb => ?_⟩
        have hk : (lkS b (lkS b L 1) 32).bad = false := by
          cases hk : (lkS b (lkS b L 1) 32).bad
          · rfl
          · rw [lvS_b hk] at hb; cases hb
        rw [h1.v 32 hk, v2 hb, lkR_ok hk, m1]; rfl
      · rw [if_neg m1, if_neg m1, if_neg m1, if_neg m1]
        by_cases m2 : lkN b L 1 = 2
        · rw [if_pos m2, if_pos m2, if_pos m2]
          refine ⟨h2, fun hb => ?_⟩
          rw [h1.v 32 hb, lkR_ok hb, m2]; rfl
        · rw [if_neg m2, if_neg m2, if_neg m2]
          exact ⟨Rel.ofbad rfl rfl, fun h => by cases h⟩
theorem elS_w {c : Bool} {R : Rd} (h : R.wrong = true) : (elS c R).wrong = true := by
  unfold elS cgS
  split
  · split; exact vaS_w (tkS_w _ (tkS_w _ h))
    split; exact tkS_w _ (tkS_w _ h)
    rfl
  · exact vaS_w (tkS_w _ h)
theorem Rel.li {b : List Int} (c : Bool) : ∀ (n : Nat) (R : Rd) (L : Lk) (acc : List Cg), Rel b R L → Rel b (liP c n R acc).2 (llP c b n L acc).2 ∧ ((llP c b n L acc).2.bad = false → (liP c n R acc).1 = (llP c b n L acc).1)
  | 0, R, L, acc, h => ⟨h, fun _ => rfl⟩
  | n + 1, R, L, acc, h => by
    obtain ⟨h1, h2⟩ := h.el c
    unfold liP llP
    cases hb : L.bad with
    | true =>
      have hw := elS_w (c := c) (h.w.trans hb)
      rw [if_pos hw, if_pos rfl]
      exact ⟨Rel.ofbad hw hb, fun h => by rw [hb] at h; cases h⟩
    | false =>
      simp only [Bool.false_eq_true, if_false]
      cases hk : (leS c b L).bad with
      | true =>
        have hw := h1.w.trans hk
        rw [if_pos hw]
        have hB : ∀ m acc', (llP c b m (leS c b L) acc').2.bad = true := by
          intro m acc'
          cases m with
          | zero => exact hk
          | succ m => unfold llP; rw [hk, if_pos rfl]; exact hk
        exact ⟨Rel.ofbad hw (hB _ _), fun h => by rw [hB] at h; cases h⟩
      | false =>
        have hw := h1.w.trans hk
        rw [if_neg (by rw [hw]; simp), h2 hk]
        exact Rel.li c n _ _ _ h1
/-! What the document makes of a reply's bytes. -/
def lsL (c : Bool) (b : List Int) (L : Lk) : List Cg × Lk := llP c b (lcV b L) (lcS b L) []
def liS (b : List Int) (L : Lk) : Lk := lkS b (lkS b (lkS b (lkS b (lkS b (lkS b (lkS b L 1) 8) 8) 4) 4) 4) 32
def liV (b : List Int) (L : Lk) : Nf := ⟨lkN b L 1, lkN b (lkS b L 1) 8, lkN b (lkS b (lkS b L 1) 8) 8, lkN b (lkS b (lkS b (lkS b L 1) 8) 8) 4, lkN b (lkS b (lkS b (lkS b (lkS b L 1) 8) 8) 4) 4, lkN b (lkS b (lkS b (lkS b (lkS b (lkS b L 1) 8) 8) 4) 4) 4, lkR b (lkS b (lkS b (lkS b (lkS b (lkS b (lkS b L 1) 8) 8) 4) 4) 4)⟩
def ffP (op : Int) (b : List Int) (L : Lk) : Rp × Lk :=
  if op = 1 then ({ rp0 with ver := lkN b L 8 }, lkS b L 8)
  else if op = 2 then (if lyV b L then ({ rp0 with found := true, val := lvV b (lyS b L) }, lvS b (lyS b L)) else (rp0, lyS b L))
  else if op = 3 then ({ rp0 with sum := lkR b L }, lkS b L 32)
  else if op = 4 ∨ op = 5 then ({ rp0 with raw := lkC b L (b.length - L.at_) }, lkS b L (b.length - L.at_))
  else if op = 6 then ({ rp0 with more := lyV b L, list := (lsL false b (lyS b L)).1 }, (lsL false b (lyS b L)).2)
  else if op = 7 then ({ rp0 with chs := (lsL true b L).1 }, (lsL true b L).2)
  else if op = 8 then ({ rp0 with info := liV b L }, liS b L)
  else (rp0, L)
def lrP (op : Int) (b : List Int) (L : Lk) : Rp × Lk := if lkN b L 2 = 0 then ffP op b (lkS b L 2) else ({ rp0 with err := lkN b L 2 }, lkS b L 2)
def tlP (op : Int) (b : List Int) : Option Rp :=
  if knO op && (!(lrP op b ⟨0, false⟩).2.bad && decide ((lrP op b ⟨0, false⟩).2.at_ = b.length)) then some (lrP op b ⟨0, false⟩).1 else none
theorem bad_back {b : List Int} {L : Lk} {n : Nat} (h : (lkS b L n).bad = false) : L.bad = false := (lkS_ok h).1
theorem Rel.lc {b : List Int} {R : Rd} {L : Lk} (h : Rel b R L) (c : Bool) : Rel b (lsP c R).2 (lsL c b L).2 ∧ ((lsL c b L).2.bad = false → (lsP c R).1 = (lsL c b L).1) := by
  obtain ⟨h1, h2⟩ := h.up 4096 4 (by omega)
  unfold lsP lsL lcV lcS
  by_cases hc : 4096 < lkN b L 4
  · rw [if_pos hc] at h1 ⊢
    rw [if_pos hc]
    have hw : (upS R 4096 4).wrong = true := h1.w
    have hB : (liP c (upV R 4096 4).toNat (upS R 4096 4) []).2.wrong = true := by
      cases (upV R 4096 4).toNat with
      | zero => exact hw
      | succ m => unfold liP; rw [if_pos (elS_w hw)]; exact elS_w hw
    exact ⟨Rel.ofbad hB rfl, fun h => by cases h⟩
  · rw [if_neg hc] at h1 h2 ⊢
    rw [if_neg hc]
    cases hk : (lkS b L 4).bad with
    | true =>
      have hw : (upS R 4096 4).wrong = true := h1.w.trans hk
      have hB : (liP c (upV R 4096 4).toNat (upS R 4096 4) []).2.wrong = true := by
        cases (upV R 4096 4).toNat with
        | zero => exact hw
        | succ m => unfold liP; rw [if_pos (elS_w hw)]; exact elS_w hw
      have hB2 : ∀ m, (llP c b m (lkS b L 4) []).2.bad = true := fun m => by
        cases m with
        | zero => exact hk
        | succ m => unfold llP; rw [hk, if_pos rfl]; exact hk
      exact ⟨Rel.ofbad hB (hB2 _), fun h => by rw [hB2] at h; cases h⟩
    | false =>
      rw [h2 hk]
      exact Rel.li c _ _ _ _ h1
theorem Rel.fd {b : List Int} {R : Rd} {L : Lk} (h : Rel b R L) (op : Int) : Rel b (fdP op R).2 (ffP op b L).2 ∧ ((ffP op b L).2.bad = false → (fdP op R).1 = (ffP op b L).1) := by
  unfold fdP ffP
  by_cases h1 : op = 1
  · simp only [if_pos h1]
    exact ⟨h.tk 8, fun hb => by rw [h.n 8 hb]⟩
  simp only [if_neg h1]
  by_cases h2 : op = 2
  · simp only [if_pos h2]
    obtain ⟨f1, f2⟩ := h.fl
    cases hk : (lyS b L).bad with
    | true =>
      have w1 : (flS R).wrong = true := f1.w.trans hk
      have a : (if flV R = true then ({ rp0 with found := true, val := vaV (flS R) }, vaS (flS R)) else (rp0, flS R)).2.wrong = true := by split; exact vaS_w w1; exact w1
      have c : (if lyV b L = true then ({ rp0 with found := true, val := lvV b (lyS b L) }, lvS b (lyS b L)) else (rp0, lyS b L)).2.bad = true := by split; exact lvS_b hk; exact hk
      exact ⟨Rel.ofbad a c, fun h => by rw [c] at h; cases h⟩
    | false =>
      rw [f2 hk]
      obtain ⟨v1, v2⟩ := f1.va
      split
      · exact ⟨v1, fun hb => by rw [v2 hb]⟩
      · exact ⟨f1, fun _ => rfl⟩
  simp only [if_neg h2]
  by_cases h3 : op = 3
  · simp only [if_pos h3]
    exact ⟨h.tk 32, fun hb => by rw [h.v 32 hb, lkR_ok hb]⟩
  simp only [if_neg h3]
  by_cases h4 : op = 4 ∨ op = 5
  · simp only [if_pos h4]
    cases hb : L.bad with
    | true =>
      exact ⟨Rel.ofbad (tkS_w _ (h.w.trans hb)) (lkS_b _ hb), fun h => by rw [lkS_b _ hb] at h; cases h⟩
    | false =>
      obtain ⟨s1, s2⟩ := h.s hb
      have e : R.rest.length = b.length - L.at_ := by rw [s1]; simp
      rw [e]
      exact ⟨h.tk _, fun hb => by rw [h.v _ hb, lkC_ok hb]⟩
  simp only [if_neg h4]
  by_cases h6 : op = 6
  · simp only [if_pos h6]
    obtain ⟨f1, f2⟩ := h.fl
    obtain ⟨v1, v2⟩ := f1.lc false
    refine ⟨v1, fun hb => ?_⟩
    have hk : (lyS b L).bad = false := by
      cases hk : (lyS b L).bad
      · rfl
      · have : ∀ m L acc, L.bad = true → (llP false b m L acc).2.bad = true := fun m L acc hL => by
          cases m with
          | zero => exact hL
          | succ m => unfold llP; rw [hL, if_pos rfl]; exact hL
        have h4 : (lcS b (lyS b L)).bad = true := by unfold lcS; split; rfl; exact lkS_b _ hk
        have h5 := this (lcV b (lyS b L)) (lcS b (lyS b L)) [] h4
        unfold lsL at hb
        rw [h5] at hb; cases hb
    rw [f2 hk, v2 hb]
  simp only [if_neg h6]
  by_cases h7 : op = 7
  · simp only [if_pos h7]
    obtain ⟨v1, v2⟩ := h.lc true
    exact ⟨v1, fun hb => by rw [v2 hb]⟩
  simp only [if_neg h7]
  by_cases h8 : op = 8
  · simp only [if_pos h8]
    unfold inS liS inV liV
    have t1 := h.tk 1
    have t2 := t1.tk 8
    have t3 := t2.tk 8
    have t4 := t3.tk 4
    have t5 := t4.tk 4
    have t6 := t5.tk 4
    refine ⟨t6.tk 32, fun hb => ?_⟩
    have b6 := bad_back hb
    have b5 := bad_back b6
    have b4 := bad_back b5
    have b3 := bad_back b4
    have b2 := bad_back b3
    have b1 := bad_back b2
    rw [h.n 1 b1, t1.n 8 b2, t2.n 8 b3, t3.n 4 b4, t4.n 4 b5, t5.n 4 b6, t6.v 32 hb, lkR_ok hb]
  simp only [if_neg h8]
  exact ⟨h, fun _ => trivial⟩
theorem lsP_w {c : Bool} {R : Rd} (h : R.wrong = true) : (lsP c R).2.wrong = true := by
  have hw : (upS R 4096 4).wrong = true := by unfold upS; split; rfl; exact tkS_w _ h
  unfold lsP
  cases (upV R 4096 4).toNat with
  | zero => exact hw
  | succ m => unfold liP; rw [if_pos (elS_w hw)]; exact elS_w hw
theorem fdP_w (op : Int) {R : Rd} (h : R.wrong = true) : (fdP op R).2.wrong = true := by
  have hf : (flS R).wrong = true := by unfold flS upS; split; rfl; exact tkS_w _ h
  unfold fdP
  by_cases h1 : op = 1
  · simp only [if_pos h1]; exact tkS_w _ h
  simp only [if_neg h1]
  by_cases h2 : op = 2
  · simp only [if_pos h2]
    cases flV R
    · exact hf
    · exact vaS_w hf
  simp only [if_neg h2]
  by_cases h3 : op = 3
  · simp only [if_pos h3]; exact tkS_w _ h
  simp only [if_neg h3]
  by_cases h4 : op = 4 ∨ op = 5
  · simp only [if_pos h4]; exact tkS_w _ h
  simp only [if_neg h4]
  by_cases h6 : op = 6
  · simp only [if_pos h6]; exact lsP_w hf
  simp only [if_neg h6]
  by_cases h7 : op = 7
  · simp only [if_pos h7]; exact lsP_w h
  simp only [if_neg h7]
  by_cases h8 : op = 8
  · simp only [if_pos h8]; exact tkS_w _ (tkS_w _ (tkS_w _ (tkS_w _ (tkS_w _ (tkS_w _ (tkS_w _ h))))))
  simp only [if_neg h8]
  exact h
theorem Rel.rp {b : List Int} {R : Rd} {L : Lk} (h : Rel b R L) (op : Int) : Rel b (rpP op R).2 (lrP op b L).2 ∧ ((lrP op b L).2.bad = false → (rpP op R).1 = (lrP op b L).1) := by
  unfold rpP lrP
  have t := h.tk 2
  cases hk : (lkS b L 2).bad with
  | false =>
    have hn := h.n 2 hk
    rw [hn]
    split
    · exact t.fd op
    · exact ⟨t, fun _ => rfl⟩
  | true =>
    have w1 : (tkS R 2).wrong = true := t.w.trans hk
    have hf := t.fd op
    have hB : (ffP op b (lkS b L 2)).2.bad = true := hf.1.w.symm.trans (fdP_w op w1)
    have hN : lkN b L 2 = 0 := by
      unfold lkN
      unfold lkS at hk
      split at hk
      · rename_i hc; rw [if_pos hc]
      · cases hk
    rw [if_pos hN]
    refine ⟨Rel.ofbad ?_ hB, fun h => by rw [hB] at h; cases h⟩
    split
    · exact fdP_w op w1
    · exact w1
theorem dc_tl (op : Int) (b : List Int) : dcP op b = tlP op b := by
  have h0 : Rel b ⟨b, false⟩ ⟨0, false⟩ := ⟨rfl, fun _ => ⟨rfl, Nat.zero_le _⟩⟩
  obtain ⟨h1, h2⟩ := h0.rp op
  unfold dcP tlP
  cases hb : (lrP op b ⟨0, false⟩).2.bad with
  | true =>
    have hw := h1.w.trans hb
    rw [hw]; simp
  | false =>
    have hw := h1.w.trans hb
    obtain ⟨s1, s2⟩ := h1.s hb
    have e : (rpP op ⟨b, false⟩).2.rest.isEmpty = decide ((lrP op b ⟨0, false⟩).2.at_ = b.length) := by
      rw [s1, Bool.eq_iff_iff, List.isEmpty_iff, decide_eq_true_iff, List.drop_eq_nil_iff]; omega
    rw [hw, e, h2 hb]
end Go.Proofs.Ythdjgpdgedhonaa
