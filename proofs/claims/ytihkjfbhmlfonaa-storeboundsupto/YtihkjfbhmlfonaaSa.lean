import Derived.Test.YtihkjfbhmlfonaaKt
import Derived.Test.YtihkjfbhmlfonaaE4a
import Derived.Maps.OwnSet
import Derived.Maps.OwnOps
namespace Go.Proofs.Ytihkjfbhmlfonaa.Ca
set_option linter.unusedVariables false
set_option linter.unusedSimpArgs false

/-! Rows of linked entries, without memory. -/
structure Ent (κ ν : Type) where
  key : κ
  val : ν
  held : Bool
  prv : Option Nat
  nxt : Option Nat
structure Rw where
  first : Option Nat
  last : Option Nat
  count : Int
structure CS (κ ν : Type) where
  room : Int
  cl : Rw
  hd : Rw
  hits : Int
  misses : Int
  gone : Int
  E : Nat → Ent κ ν
  bs : List Nat
  look : κ → Option Nat
section
variable {κ ν : Type}
def CS.row (s : CS κ ν) : Bool → Rw
  | true => s.cl
  | false => s.hd
def CS.setRow (s : CS κ ν) (r : Bool) (x : Rw) : CS κ ν := match r with
  | true => { s with cl := x }
  | false => { s with hd := x }
def CS.setE (s : CS κ ν) (b : Nat) (x : Ent κ ν) : CS κ ν := { s with E := fun i => if i = b then x else s.E i }
def CS.setNxt (s : CS κ ν) (b : Nat) (a : Option Nat) : CS κ ν := s.setE b { s.E b with nxt := a }
def CS.setPrv (s : CS κ ν) (b : Nat) (a : Option Nat) : CS κ ν := s.setE b { s.E b with prv := a }
def CS.setVal (s : CS κ ν) (b : Nat) (v : ν) : CS κ ν := s.setE b { s.E b with val := v }
def CS.setHeld (s : CS κ ν) (b : Nat) (h : Bool) : CS κ ν := s.setE b { s.E b with held := h }
def CS.setFirst (s : CS κ ν) (r : Bool) (a : Option Nat) : CS κ ν := s.setRow r { s.row r with first := a }
def CS.setLast (s : CS κ ν) (r : Bool) (a : Option Nat) : CS κ ν := s.setRow r { s.row r with last := a }
def CS.setCount (s : CS κ ν) (r : Bool) (n : Int) : CS κ ν := s.setRow r { s.row r with count := n }
def CS.joinB (s : CS κ ν) (r : Bool) (b a : Option Nat) : CS κ ν := match b with
  | none => s.setFirst r a
  | some x => s.setNxt x a
def CS.joinA (s : CS κ ν) (r : Bool) (b a : Option Nat) : CS κ ν := match a with
  | none => s.setLast r b
  | some y => s.setPrv y b
def CS.join (s : CS κ ν) (r : Bool) (b a : Option Nat) : CS κ ν := (s.joinB r b a).joinA r b a
def CS.takeOut (s : CS κ ν) (r : Bool) (e : Nat) : CS κ ν :=
  let t := s.join r (s.E e).prv (s.E e).nxt
  t.setCount r ((t.row r).count - 1)
def CS.link (s : CS κ ν) (r : Bool) (b : Option Nat) (e : Nat) (a : Option Nat) : CS κ ν :=
  let t := (s.join r b (some e)).join r (some e) a
  t.setCount r ((t.row r).count + 1)
def CS.pushFirst (s : CS κ ν) (r : Bool) (e : Nat) : CS κ ν := s.link r none e (s.row r).first
def CS.pushLast (s : CS κ ν) (r : Bool) (e : Nat) : CS κ ν := s.link r (s.row r).last e none
/-- What stays through a change of links. -/
structure Sm (s t : CS κ ν) : Prop where
  room : t.room = s.room
  hits : t.hits = s.hits
  misses : t.misses = s.misses
  gone : t.gone = s.gone
  bs : t.bs = s.bs
  look : t.look = s.look
  key : ∀ i, (t.E i).key = (s.E i).key
  val : ∀ i, (t.E i).val = (s.E i).val
  held : ∀ i, (t.E i).held = (s.E i).held
theorem Sm.refl (s : CS κ ν) : Sm s s := ⟨rfl, rfl, rfl, rfl, rfl, rfl, fun _ => rfl, fun _ => rfl, fun _ => rfl⟩
theorem Sm.trans {s t u : CS κ ν} (h : Sm s t) (k : Sm t u) : Sm s u := ⟨k.room.trans h.room, k.hits.trans h.hits, k.misses.trans h.misses, k.gone.trans h.gone, k.bs.trans h.bs, k.look.trans h.look, fun i => (k.key i).trans (h.key i), fun i => (k.val i).trans (h.val i), fun i => (k.held i).trans (h.held i)⟩
theorem Sm.setRow (s : CS κ ν) (r : Bool) (x : Rw) : Sm s (s.setRow r x) := by cases r <;> exact ⟨rfl, rfl, rfl, rfl, rfl, rfl, fun _ => rfl, fun _ => rfl, fun _ => rfl⟩
theorem E_setRow (s : CS κ ν) (r : Bool) (x : Rw) : (s.setRow r x).E = s.E := by cases r <;> rfl
theorem row_setRow (s : CS κ ν) (r : Bool) (x : Rw) : (s.setRow r x).row r = x := by cases r <;> rfl
theorem row_setRow_ne (s : CS κ ν) {r q : Bool} (x : Rw) (h : q ≠ r) : (s.setRow r x).row q = s.row q := by cases r <;> cases q <;> first | rfl | exact absurd rfl h
theorem row_setE (s : CS κ ν) (b : Nat) (x : Ent κ ν) (r : Bool) : (s.setE b x).row r = s.row r := by cases r <;> rfl
theorem E_setE (s : CS κ ν) (b i : Nat) (x : Ent κ ν) : (s.setE b x).E i = if i = b then x else s.E i := rfl
theorem Sm.setE (s : CS κ ν) (b : Nat) (x : Ent κ ν) (h1 : x.key = (s.E b).key) (h2 : x.val = (s.E b).val) (h3 : x.held = (s.E b).held) : Sm s (s.setE b x) :=
  ⟨rfl, rfl, rfl, rfl, rfl, rfl, fun i => by rw [E_setE]; split <;> simp_all, fun i => by rw [E_setE]; split <;> simp_all, fun i => by rw [E_setE]; split <;> simp_all⟩
theorem Sm.joinB (s : CS κ ν) (r : Bool) (b a : Option Nat) : Sm s (s.joinB r b a) := by
  cases b
  · exact Sm.setRow s r _
  · exact Sm.setE s _ _ rfl rfl rfl
theorem Sm.joinA (s : CS κ ν) (r : Bool) (b a : Option Nat) : Sm s (s.joinA r b a) := by
  cases a
  · exact Sm.setRow s r _
  · exact Sm.setE s _ _ rfl rfl rfl
theorem Sm.join (s : CS κ ν) (r : Bool) (b a : Option Nat) : Sm s (s.join r b a) := (Sm.joinB s r b a).trans (Sm.joinA _ r b a)
theorem Sm.takeOut (s : CS κ ν) (r : Bool) (e : Nat) : Sm s (s.takeOut r e) := (Sm.join s r _ _).trans (Sm.setRow _ r _)
theorem Sm.link (s : CS κ ν) (r : Bool) (b : Option Nat) (e : Nat) (a : Option Nat) : Sm s (s.link r b e a) := ((Sm.join s r _ _).trans (Sm.join _ r _ _)).trans (Sm.setRow _ r _)
/-- The links of a part of a row. -/
def Seg (E : Nat → Ent κ ν) : Option Nat → List Nat → Option Nat → Prop
  | _, [], _ => True
  | pb, x :: l, pe => (E x).prv = pb ∧ (E x).nxt = l.head?.or pe ∧ Seg E (some x) l pe
theorem head?_or_append (A B : List Nat) (pe : Option Nat) : (A ++ B).head?.or pe = A.head?.or (B.head?.or pe) := by cases A <;> simp
theorem last?_cons_or (x : Nat) (A : List Nat) (pb : Option Nat) : (x :: A).getLast?.or pb = A.getLast?.or (some x) := by
  cases h : A.getLast? with
  | none => rw [List.getLast?_eq_none_iff] at h; subst h; simp
  | some y => rw [List.getLast?_cons, h]; simp
theorem Seg.append {E : Nat → Ent κ ν} : ∀ {A B : List Nat} {pb pe : Option Nat}, Seg E pb (A ++ B) pe ↔ Seg E pb A (B.head?.or pe) ∧ Seg E (A.getLast?.or pb) B pe
  | [], B, pb, pe => by simp [Seg]
  | x :: A, B, pb, pe => by
    show ((E x).prv = pb ∧ (E x).nxt = (A ++ B).head?.or pe ∧ Seg E (some x) (A ++ B) pe) ↔ ((E x).prv = pb ∧ (E x).nxt = A.head?.or (B.head?.or pe) ∧ Seg E (some x) A (B.head?.or pe)) ∧ _
    rw [Seg.append (A := A), head?_or_append, last?_cons_or]
    constructor
    · rintro ⟨a, b, c, d⟩; exact ⟨⟨a, b, c⟩, d⟩
    · rintro ⟨⟨a, b, c⟩, d⟩; exact ⟨a, b, c, d⟩
theorem Seg.congr {E E' : Nat → Ent κ ν} : ∀ {l : List Nat} {pb pe : Option Nat}, Seg E pb l pe → (∀ x ∈ l, (E' x).prv = (E x).prv ∧ (E' x).nxt = (E x).nxt) → Seg E' pb l pe
  | [], _, _, _, _ => trivial
  | x :: l, pb, pe, h, k => ⟨(k x (by simp)).1.trans h.1, (k x (by simp)).2.trans h.2.1, Seg.congr h.2.2 fun y hy => k y (by simp [hy])⟩
/-- Another end. -/
theorem Seg.setEnd {E E' : Nat → Ent κ ν} : ∀ {l : List Nat} {pb pe pe' : Option Nat}, Seg E pb l pe → l.Nodup → (∀ x ∈ l, (E' x).prv = (E x).prv) → (∀ x ∈ l, l.getLast? ≠ some x → (E' x).nxt = (E x).nxt) → (∀ x, l.getLast? = some x → (E' x).nxt = pe') → Seg E' pb l pe'
  | [], _, _, _, _, _, _, _, _ => trivial
  | [x], pb, pe, pe', h, hn, k1, k2, k3 => ⟨(k1 x (by simp)).trans h.1, by simpa using k3 x (by simp), trivial⟩
  | x :: y :: l, pb, pe, pe', h, hn, k1, k2, k3 => by
    have hl : (x :: y :: l).getLast? = (y :: l).getLast? := by rw [List.getLast?_cons_cons]
    have hx : (y :: l).getLast? ≠ some x := fun e => (List.nodup_cons.1 hn).1 (List.mem_of_getLast? e)
    refine ⟨(k1 x (by simp)).trans h.1, ?_, ?_⟩
    · rw [k2 x (by simp) (by rw [hl]; exact hx), h.2.1]; simp
    · exact Seg.setEnd h.2.2 (List.nodup_cons.1 hn).2 (fun z hz => k1 z (by simp [hz])) (fun z hz hne => k2 z (List.mem_cons_of_mem _ hz) (by rw [hl]; exact hne)) (fun z hz => k3 z (by rw [hl]; exact hz))
/-- Another beginning. -/
theorem Seg.setBeg {E E' : Nat → Ent κ ν} {l : List Nat} {pb pb' pe : Option Nat} (h : Seg E pb l pe) (hn : l.Nodup) (k1 : ∀ x ∈ l, (E' x).nxt = (E x).nxt) (k2 : ∀ x ∈ l, l.head? ≠ some x → (E' x).prv = (E x).prv) (k3 : ∀ x, l.head? = some x → (E' x).prv = pb') : Seg E' pb' l pe := by
  cases l with
  | nil => trivial
  | cons x l =>
    refine ⟨k3 x rfl, (k1 x (by simp)).trans h.2.1, h.2.2.congr fun y hy => ⟨k2 y (by simp [hy]) ?_, k1 y (by simp [hy])⟩⟩
    intro e
    simp at e
    subst e
    exact (List.nodup_cons.1 hn).1 hy
/-- A row that is well linked. -/
structure RowIs (s : CS κ ν) (r : Bool) (l : List Nat) : Prop where
  first : (s.row r).first = l.head?
  last : (s.row r).last = l.getLast?
  count : (s.row r).count = l.length
  seg : Seg s.E none l none
theorem join_prv (s : CS κ ν) (r : Bool) (b a : Option Nat) (i : Nat) : ((s.join r b a).E i).prv = if a = some i then b else (s.E i).prv := by
  unfold CS.join CS.joinA CS.joinB
  cases b <;> cases a <;> simp [CS.setFirst, CS.setLast, CS.setNxt, CS.setPrv, E_setRow, E_setE]
  · rename_i a; by_cases h : i = a <;> simp [h, eq_comm]
  · rename_i b; by_cases h : i = b <;> simp [h]
  · rename_i b a; by_cases h : i = a <;> by_cases k : i = b <;> simp_all [eq_comm]
theorem join_nxt (s : CS κ ν) (r : Bool) (b a : Option Nat) (i : Nat) : ((s.join r b a).E i).nxt = if b = some i then a else (s.E i).nxt := by
  unfold CS.join CS.joinA CS.joinB
  cases b <;> cases a <;> simp [CS.setFirst, CS.setLast, CS.setNxt, CS.setPrv, E_setRow, E_setE]
  · rename_i a; by_cases h : i = a <;> simp [h, eq_comm]
  · rename_i b; by_cases h : i = b <;> simp [h, eq_comm]
  · rename_i b a; by_cases h : i = a <;> by_cases k : i = b <;> simp_all [eq_comm]
theorem join_row (s : CS κ ν) (r : Bool) (b a : Option Nat) : (s.join r b a).row r = ⟨if b = none then a else (s.row r).first, if a = none then b else (s.row r).last, (s.row r).count⟩ := by
  unfold CS.join CS.joinA CS.joinB
  cases b <;> cases a <;> simp [CS.setFirst, CS.setLast, CS.setNxt, CS.setPrv, row_setRow, row_setE]
theorem join_row_ne (s : CS κ ν) {r q : Bool} (b a : Option Nat) (h : q ≠ r) : (s.join r b a).row q = s.row q := by
  unfold CS.join CS.joinA CS.joinB
  cases b <;> cases a <;> simp [CS.setFirst, CS.setLast, CS.setNxt, CS.setPrv, row_setRow_ne _ _ h, row_setE]
theorem RowIs.other {s t : CS κ ν} {q : Bool} {l : List Nat} (h : RowIs s q l) (hr : t.row q = s.row q) (hE : ∀ x ∈ l, (t.E x).prv = (s.E x).prv ∧ (t.E x).nxt = (s.E x).nxt) : RowIs t q l :=
  ⟨by rw [hr]; exact h.first, by rw [hr]; exact h.last, by rw [hr]; exact h.count, h.seg.congr hE⟩
theorem or_none (a : Option Nat) : a.or none = a := by cases a <;> rfl
/-- Where an entry of a row stands. -/
theorem RowIs.at {s : CS κ ν} {r : Bool} {A B : List Nat} {e : Nat} (h : RowIs s r (A ++ e :: B)) : (s.E e).prv = A.getLast? ∧ (s.E e).nxt = B.head? := by
  have := (Seg.append.1 h.seg).2
  exact ⟨by rw [this.1, or_none], by rw [this.2.1, or_none]⟩
theorem RowIs.takeOut {s : CS κ ν} {r : Bool} {A B : List Nat} {e : Nat} (h : RowIs s r (A ++ e :: B)) (hn : (A ++ e :: B).Nodup) : RowIs (s.takeOut r e) r (A ++ B) := by
  obtain ⟨hp, hx⟩ := h.at
  have hA := (List.nodup_append.1 hn)
  have hB := List.nodup_cons.1 hA.2.1
  have dis : ∀ x ∈ A, x ∉ B := fun x ha hb => hA.2.2 x ha x (by simp [hb]) rfl
  obtain ⟨s1, s2⟩ := Seg.append.1 h.seg
  obtain ⟨_, _, s3⟩ := s2
  simp only [or_none] at *
  unfold CS.takeOut
  rw [hp, hx]
  refine ⟨?_, ?_, ?_, ?_⟩
  · rw [CS.setCount, row_setRow, join_row]
    simp only
    rcases List.eq_nil_or_concat A with rfl | ⟨A', x, rfl⟩
    · simp
    · rw [if_neg (by simp), h.first]; simp
  · rw [CS.setCount, row_setRow, join_row]
    simp only
    cases B with
    | nil => simp
    | cons y B' => rw [if_neg (by simp), h.last]; simp [List.getLast?_append, List.getLast?_cons]
  · rw [CS.setCount, row_setRow, join_row]
    simp only
    rw [h.count]; simp; omega
  · rw [CS.setCount, E_setRow, Seg.append]
    simp only [or_none]
    refine ⟨s1.setEnd hA.1 (fun x hx2 => ?_) (fun x hx2 hne => ?_) (fun x hl => ?_), s3.setBeg hB.2 (fun x hx2 => ?_) (fun x hx2 hne => ?_) (fun x hl => ?_)⟩
    · rw [join_prv, if_neg fun q => dis x hx2 (List.mem_of_head? q)]
    · rw [join_nxt, if_neg hne]
    · rw [join_nxt, if_pos hl]
    · rw [join_nxt, if_neg fun q => dis x (List.mem_of_getLast? q) hx2]
    · rw [join_prv, if_neg hne]
    · rw [join_prv, if_pos hl]
theorem takeOut_prv (s : CS κ ν) (r : Bool) (e i : Nat) (h : (s.E e).nxt ≠ some i) : ((s.takeOut r e).E i).prv = (s.E i).prv := by
  unfold CS.takeOut; rw [CS.setCount, E_setRow, join_prv, if_neg h]
theorem takeOut_nxt (s : CS κ ν) (r : Bool) (e i : Nat) (h : (s.E e).prv ≠ some i) : ((s.takeOut r e).E i).nxt = (s.E i).nxt := by
  unfold CS.takeOut; rw [CS.setCount, E_setRow, join_nxt, if_neg h]
theorem takeOut_row_ne (s : CS κ ν) {r q : Bool} (e : Nat) (h : q ≠ r) : (s.takeOut r e).row q = s.row q := by
  unfold CS.takeOut; rw [CS.setCount, row_setRow_ne _ _ h, join_row_ne _ _ _ h]
theorem RowIs.takeOut_other {s : CS κ ν} {r q : Bool} {A B l : List Nat} {e : Nat} (h : RowIs s r (A ++ e :: B)) (k : RowIs s q l) (hq : q ≠ r) (hd : ∀ x ∈ l, x ∉ A ∧ x ∉ B) : RowIs (s.takeOut r e) q l := by
  obtain ⟨hp, hx⟩ := h.at
  refine k.other (takeOut_row_ne s e hq) fun x hx2 => ⟨takeOut_prv s r e x ?_, takeOut_nxt s r e x ?_⟩
  · rw [hx]; exact fun q => (hd x hx2).2 (List.mem_of_head? q)
  · rw [hp]; exact fun q => (hd x hx2).1 (List.mem_of_getLast? q)
theorem link_prv (s : CS κ ν) (r : Bool) (b : Option Nat) (e : Nat) (a : Option Nat) (i : Nat) : ((s.link r b e a).E i).prv = if a = some i then some e else if e = i then b else (s.E i).prv := by
  unfold CS.link; rw [CS.setCount, E_setRow, join_prv, join_prv]; simp
theorem link_nxt (s : CS κ ν) (r : Bool) (b : Option Nat) (e : Nat) (a : Option Nat) (i : Nat) : ((s.link r b e a).E i).nxt = if e = i then a else if b = some i then some e else (s.E i).nxt := by
  unfold CS.link; rw [CS.setCount, E_setRow, join_nxt, join_nxt]; simp
theorem link_row_ne (s : CS κ ν) {r q : Bool} (b : Option Nat) (e : Nat) (a : Option Nat) (h : q ≠ r) : (s.link r b e a).row q = s.row q := by
  unfold CS.link; rw [CS.setCount, row_setRow_ne _ _ h, join_row_ne _ _ _ h, join_row_ne _ _ _ h]
theorem RowIs.link {s : CS κ ν} {r : Bool} {A B : List Nat} {e : Nat} (h : RowIs s r (A ++ B)) (hn : (A ++ B).Nodup) (he : e ∉ A ++ B) : RowIs (s.link r A.getLast? e B.head?) r (A ++ e :: B) := by
  have hA := (List.nodup_append.1 hn)
  have dis : ∀ x ∈ A, x ∉ B := fun x ha hb => hA.2.2 x ha x hb rfl
  have heA : e ∉ A := fun q => he (by simp [q])
  have heB : e ∉ B := fun q => he (by simp [q])
  obtain ⟨s1, s2⟩ := Seg.append.1 h.seg
  simp only [or_none] at *
  refine ⟨?_, ?_, ?_, ?_⟩
  · unfold CS.link
    rw [CS.setCount, row_setRow, join_row, join_row]
    simp only
    rcases List.eq_nil_or_concat A with rfl | ⟨A', x, rfl⟩
    · simp
    · rw [if_neg (by simp), if_neg (by simp), h.first]; simp
  · unfold CS.link
    rw [CS.setCount, row_setRow, join_row, join_row]
    simp only
    cases B with
    | nil => simp
    | cons y B' => rw [if_neg (by simp), if_neg (by simp), h.last]; simp [List.getLast?_append, List.getLast?_cons]
  · unfold CS.link
    rw [CS.setCount, row_setRow, join_row, join_row]
    simp only
    rw [h.count]; simp; omega
  · rw [Seg.append]
    refine ⟨s1.setEnd hA.1 (fun x hx2 => ?_) (fun x hx2 hne => ?_) (fun x hl => ?_), ⟨?_, ?_, s2.setBeg hA.2.1 (fun x hx2 => ?_) (fun x hx2 hne => ?_) (fun x hl => ?_)⟩⟩
    · rw [link_prv, if_neg fun q => dis x hx2 (List.mem_of_head? q), if_neg fun q : e = x => heA (q ▸ hx2)]
    · rw [link_nxt, if_neg fun q : e = x => heA (q ▸ hx2), if_neg hne]
    · rw [link_nxt, if_neg fun q : e = x => heA (q ▸ List.mem_of_getLast? hl), if_pos hl]; simp
    · rw [link_prv, if_neg fun q => heB (List.mem_of_head? q), if_pos rfl]; simp
    · rw [link_nxt, if_pos rfl]; simp
    · rw [link_nxt, if_neg fun q : e = x => heB (q ▸ hx2), if_neg fun q => dis x (List.mem_of_getLast? q) hx2]
    · rw [link_prv, if_neg hne, if_neg fun q : e = x => heB (q ▸ hx2)]
    · rw [link_prv, if_pos hl]
theorem RowIs.link_other {s : CS κ ν} {r q : Bool} {A B l : List Nat} {e : Nat} (k : RowIs s q l) (hq : q ≠ r) (hd : ∀ x ∈ l, x ∉ A ∧ x ∉ B) (he : e ∉ l) : RowIs (s.link r A.getLast? e B.head?) q l := by
  refine k.other (link_row_ne s _ e _ hq) fun x hx2 => ⟨?_, ?_⟩
  · rw [link_prv, if_neg fun q => (hd x hx2).2 (List.mem_of_head? q), if_neg fun q : e = x => he (q ▸ hx2)]
  · rw [link_nxt, if_neg fun q : e = x => he (q ▸ hx2), if_neg fun q => (hd x hx2).1 (List.mem_of_getLast? q)]
end
end Go.Proofs.Ytihkjfbhmlfonaa.Ca
namespace Go.Proofs.Ytihkjfbhmlfonaa.Ca
set_option linter.unusedVariables false
set_option linter.unusedSimpArgs false
open Go.RowKit
attribute [local go_sem ↓] Go.wp_at_zero Go.wp_at_succ

theorem _root_.Go.Proofs.Ytihkjfbhmlfonaa.Fr.trans' {F : List Nat} {a b c : World} (h : Fr F a b) (k : Fr F b c) : Fr F a c := h.trans k (Gr.refl a F)
/-! A cache, and how it lies in memory. -/
def optr : Option Nat → Value
  | none => .pointer none
  | some b => .pointer (some ⟨b, 0, none⟩)
/-- How a pointer in the map reads. -/
def PR (v : Value) : Option (DataW Unit × List MemPlace) := match v with
  | .pointer none => some (.lit (.int .i64 (-1)), [])
  | .pointer (some ⟨b, 0, none⟩) => some (.lit (.int .i64 (b : Nat)), [])
  | _ => none
theorem PR_some (b : Nat) : PR (.pointer (some ⟨b, 0, none⟩)) = some (.lit (.int .i64 (b : Nat)), []) := rfl
theorem PR_none : PR (.pointer none) = some (.lit (.int .i64 (-1)), []) := rfl
theorem PR_inv {v : Value} {b : Nat} {ps : List MemPlace} (h : PR v = some (.lit (.int .i64 (b : Nat)), ps)) : v = .pointer (some ⟨b, 0, none⟩) := by
  unfold PR at h
  split at h
  · simp at h
  · simp at h; obtain ⟨h1, _⟩ := h; have : _ = b := Int.ofNat.inj h1; rw [this]
  · cases h
theorem PR_inv0 {v : Value} {ps : List MemPlace} (h : PR v = some (.lit (.int .i64 (-1)), ps)) : v = .pointer none := by
  unfold PR at h
  split at h
  · rfl
  · simp at h
  · cases h
end Go.Proofs.Ytihkjfbhmlfonaa.Ca
namespace Go.Proofs.Ytihkjfbhmlfonaa.Ca
set_option linter.unusedVariables false
set_option linter.unusedSimpArgs false
open Go.RowKit
attribute [local go_sem ↓] Go.wp_at_zero Go.wp_at_succ

/-! The store's cache. -/
def argK (k : Int) : Value := .int .i64 k
/-- What a page carries: a kind and where its load lies. -/
structure Ct where
  kd : Int
  sp : Option Addr
  n : Nat
  c : Nat
def ct0 : Ct := ⟨0, none, 0, 0⟩
def ctC (v : Ct) : List Value := [.int .i64 v.kd, .slice v.sp v.n v.c]
def argV (v : Ct) : Value := .agg (ctC v).toArray
def wfK (k : Int) : Prop := -9223372036854775808 ≤ k ∧ k ≤ 9223372036854775807
def litK (k : Int) : Lit := .int .i64 k
theorem keyedK : Maps.Keyed Try.prog 3 := Maps.int_keyed Try.underlying3
theorem keyOfK {k : Int} (h : wfK k) : WideAt.IsKeyLit (litK k) ∧ keyOf Try.prog 3 (argK k) = some (litK k) := by
  have hw : (Lit.int .i64 k).wf = true := WalkArith.wf_i64 (by unfold wfK at h; omega)
  exact ⟨by first | trivial | exact hw | decide, Maps.keyOf_int_mk Try.underlying3 hw⟩
theorem litK_inj {a b : Int} (h : litK a = litK b) : a = b := by simpa [litK] using h
abbrev CSi := CS Int Ct
def ecells (x : Ent Int Ct) : Array Value := #[argK x.key, .int .i64 x.val.kd, .slice x.val.sp x.val.n x.val.c, .bool x.held, optr x.prv, optr x.nxt]
def ccells (m : Nat) (s : CSi) : Array Value := #[.int .i64 s.room, .map (some m), optr s.cl.first, optr s.cl.last, .int .i64 s.cl.count, optr s.hd.first, optr s.hd.last, .int .i64 s.hd.count, .int .i64 s.hits, .int .i64 s.misses, .int .i64 s.gone, .int .i64 0, .int .i64 0]
/-- What the map says. -/
structure MapIs (M : DataW Unit) (look : Int → Option Nat) : Prop where
  isMap : Maps.IsMap M
  no : ∀ k, wfK k → look k = none → Maps.has M (litK k) = false ∧ M.atKey (litK k) (.lit (.int .i64 (-1))) = .lit (.int .i64 (-1))
  yes : ∀ k b, wfK k → look k = some b → Maps.has M (litK k) = true ∧ M.atKey (litK k) (.lit (.int .i64 (-1))) = .lit (.int .i64 (b : Nat))
structure CK (w : World) (base p m n : Nat) (s : CSi) : Prop where
  cell : w.heap[p]? = some (.cells (ccells m s) 108 (0, 0))
  ents : ∀ b ∈ s.bs, w.heap[b]? = some (.cells (ecells (s.E b)) 125 (0, 0))
  mp : ∃ M, w.ownsMap Try.prog 3 PR m n M ∧ MapIs M s.look
  kwf : ∀ b ∈ s.bs, wfK (s.E b).key
  bp : base ≤ p
  bm : base ≤ m
  bb : ∀ b ∈ s.bs, base ≤ b
def fpC (p m : Nat) (s : CSi) : List Nat := p :: m :: s.bs
theorem CK.fz {w : World} {base p m n : Nat} {s : CSi} (h : CK w base p m n s) (k : Nat) : w.frozen? ⟨p, k, none⟩ = false := frozen_of_row _ _ _ _ _ h.cell
theorem CK.fe {w : World} {base p m n : Nat} {s : CSi} (h : CK w base p m n s) {b : Nat} (hb : b ∈ s.bs) (k : Nat) : w.frozen? ⟨b, k, none⟩ = false := frozen_of_row _ _ _ _ _ (h.ents b hb)
theorem CK.c0 {w : World} {base p m n : Nat} {s : CSi} (h : CK w base p m n s) : w.cell? ⟨p, 0, none⟩ = some (.int .i64 s.room) := by rw [cell_of_row _ _ _ _ _ _ h.cell]; rfl
theorem CK.c1 {w : World} {base p m n : Nat} {s : CSi} (h : CK w base p m n s) : w.cell? ⟨p, 1, none⟩ = some (.map (some m)) := by rw [cell_of_row _ _ _ _ _ _ h.cell]; rfl
theorem CK.c2 {w : World} {base p m n : Nat} {s : CSi} (h : CK w base p m n s) : w.cell? ⟨p, 2, none⟩ = some (optr s.cl.first) := by rw [cell_of_row _ _ _ _ _ _ h.cell]; rfl
theorem CK.c3 {w : World} {base p m n : Nat} {s : CSi} (h : CK w base p m n s) : w.cell? ⟨p, 3, none⟩ = some (optr s.cl.last) := by rw [cell_of_row _ _ _ _ _ _ h.cell]; rfl
theorem CK.c4 {w : World} {base p m n : Nat} {s : CSi} (h : CK w base p m n s) : w.cell? ⟨p, 4, none⟩ = some (.int .i64 s.cl.count) := by rw [cell_of_row _ _ _ _ _ _ h.cell]; rfl
theorem CK.c5 {w : World} {base p m n : Nat} {s : CSi} (h : CK w base p m n s) : w.cell? ⟨p, 5, none⟩ = some (optr s.hd.first) := by rw [cell_of_row _ _ _ _ _ _ h.cell]; rfl
theorem CK.c6 {w : World} {base p m n : Nat} {s : CSi} (h : CK w base p m n s) : w.cell? ⟨p, 6, none⟩ = some (optr s.hd.last) := by rw [cell_of_row _ _ _ _ _ _ h.cell]; rfl
theorem CK.c7 {w : World} {base p m n : Nat} {s : CSi} (h : CK w base p m n s) : w.cell? ⟨p, 7, none⟩ = some (.int .i64 s.hd.count) := by rw [cell_of_row _ _ _ _ _ _ h.cell]; rfl
theorem CK.c8 {w : World} {base p m n : Nat} {s : CSi} (h : CK w base p m n s) : w.cell? ⟨p, 8, none⟩ = some (.int .i64 s.hits) := by rw [cell_of_row _ _ _ _ _ _ h.cell]; rfl
theorem CK.c9 {w : World} {base p m n : Nat} {s : CSi} (h : CK w base p m n s) : w.cell? ⟨p, 9, none⟩ = some (.int .i64 s.misses) := by rw [cell_of_row _ _ _ _ _ _ h.cell]; rfl
theorem CK.c10 {w : World} {base p m n : Nat} {s : CSi} (h : CK w base p m n s) : w.cell? ⟨p, 10, none⟩ = some (.int .i64 s.gone) := by rw [cell_of_row _ _ _ _ _ _ h.cell]; rfl
theorem CK.ev {w : World} {base p m n : Nat} {s : CSi} (h : CK w base p m n s) {b : Nat} (hb : b ∈ s.bs) : w.rangeAt b 1 (ctC (s.E b).val) := fun j v hv => by
  rw [cell_of_row _ _ _ _ _ _ (h.ents b hb)]
  match j, hv with
  | 0, hv => exact hv
  | 1, hv => exact hv
  | j + 2, hv => simp [ctC] at hv
theorem CK.eh {w : World} {base p m n : Nat} {s : CSi} (h : CK w base p m n s) {b : Nat} (hb : b ∈ s.bs) : w.cell? ⟨b, 3, none⟩ = some (.bool (s.E b).held) := by rw [cell_of_row _ _ _ _ _ _ (h.ents b hb)]; rfl
theorem CK.ep {w : World} {base p m n : Nat} {s : CSi} (h : CK w base p m n s) {b : Nat} (hb : b ∈ s.bs) : w.cell? ⟨b, 4, none⟩ = some (optr (s.E b).prv) := by rw [cell_of_row _ _ _ _ _ _ (h.ents b hb)]; rfl
theorem CK.en {w : World} {base p m n : Nat} {s : CSi} (h : CK w base p m n s) {b : Nat} (hb : b ∈ s.bs) : w.cell? ⟨b, 5, none⟩ = some (optr (s.E b).nxt) := by rw [cell_of_row _ _ _ _ _ _ (h.ents b hb)]; rfl
theorem CK.pm {w : World} {base p m n : Nat} {s : CSi} (h : CK w base p m n s) : p ≠ m := by
  obtain ⟨M, ⟨es, clock, hb, _⟩, _⟩ := h.mp
  intro e; rw [← e, h.cell] at hb; cases hb
theorem CK.eb {w : World} {base p m n : Nat} {s : CSi} (h : CK w base p m n s) {b : Nat} (hb : b ∈ s.bs) : b ≠ p ∧ b ≠ m := by
  refine ⟨ne_ty (h.ents b hb) h.cell (by decide), ?_⟩
  obtain ⟨M, ⟨es, clock, hm, _⟩, _⟩ := h.mp
  intro e; rw [← e, h.ents b hb] at hm; cases hm
theorem ownsMap_heap' {w w1 : World} {b n : Nat} {M : DataW Unit} (h : w.ownsMap Try.prog 3 PR b n M) (hk : w1.heap[b]? = w.heap[b]?) : w1.ownsMap Try.prog 3 PR b n M := by
  obtain ⟨es, clock, hb, F, hs, hD⟩ := h
  exact ⟨es, clock, hk.trans hb, F, hs, hD⟩
/-- A cell of the cache's own block is written. -/
theorem CK.setP {w : World} {base p m n : Nat} {s s' : CSi} (h : CK w base p m n s) (k : Nat) (v : Value) (hc : (ccells m s).setIfInBounds k v = ccells m s') (hE : s'.E = s.E) (hb : s'.bs = s.bs) (hl : s'.look = s.look) :
    CK (w.setCell ⟨p, k, none⟩ v) base p m n s' := by
  have hne : ∀ i, i ≠ p → (w.setCell ⟨p, k, none⟩ v).heap[i]? = w.heap[i]? := fun i hi => heap_setCell_other w _ i v hi
  refine ⟨?_, fun b q => ?_, ?_, by rw [hE, hb]; exact h.kwf, h.bp, h.bm, by rw [hb]; exact h.bb⟩
  · rw [heap_setCell_same _ _ _ _ _ _ h.cell, ← hc]
  · rw [hb] at q; rw [hE, hne b (h.eb q).1]; exact h.ents b q
  · obtain ⟨M, a, b⟩ := h.mp
    exact ⟨M, ownsMap_heap' a (hne _ h.pm.symm), hl ▸ b⟩
/-- A cell of an entry is written. -/
theorem CK.setB {w : World} {base p m n : Nat} {s : CSi} (h : CK w base p m n s) {b : Nat} (hb : b ∈ s.bs) (k : Nat) (v : Value) (x : Ent Int Ct) (hc : (ecells (s.E b)).setIfInBounds k v = ecells x) (hk : x.key = (s.E b).key) :
    CK (w.setCell ⟨b, k, none⟩ v) base p m n (s.setE b x) := by
  have hne : ∀ i, i ≠ b → (w.setCell ⟨b, k, none⟩ v).heap[i]? = w.heap[i]? := fun i hi => heap_setCell_other w _ i v hi
  refine ⟨(hne p (h.eb hb).1.symm).trans h.cell, fun i q => ?_, ?_, fun i q => ?_, h.bp, h.bm, h.bb⟩
  · rw [E_setE]
    by_cases e : i = b
    · subst e; rw [if_pos rfl, heap_setCell_same _ _ _ _ _ _ (h.ents i hb), ← hc]
    · rw [if_neg e, hne i e]; exact h.ents i q
  · obtain ⟨M, a, c⟩ := h.mp
    exact ⟨M, ownsMap_heap' a (hne _ (h.eb hb).2.symm), c⟩
  · rw [E_setE]
    by_cases e : i = b
    · subst e; rw [if_pos rfl, hk]; exact h.kwf i hb
    · rw [if_neg e]; exact h.kwf i q
def offR : Bool → Nat
  | true => 2
  | false => 5
theorem CK.first {w : World} {base p m n : Nat} {s : CSi} (h : CK w base p m n s) (r : Bool) (a : Option Nat) : CK (w.setCell ⟨p, offR r, none⟩ (optr a)) base p m n (s.setFirst r a) := by
  cases r <;> exact h.setP _ _ (by simp [ccells, CS.setFirst, CS.setRow, CS.row, offR]) rfl rfl rfl
theorem CK.last {w : World} {base p m n : Nat} {s : CSi} (h : CK w base p m n s) (r : Bool) (a : Option Nat) : CK (w.setCell ⟨p, offR r + 1, none⟩ (optr a)) base p m n (s.setLast r a) := by
  cases r <;> exact h.setP _ _ (by simp [ccells, CS.setLast, CS.setRow, CS.row, offR]) rfl rfl rfl
theorem CK.count {w : World} {base p m n : Nat} {s : CSi} (h : CK w base p m n s) (r : Bool) (a : Int) : CK (w.setCell ⟨p, offR r + 2, none⟩ (.int .i64 a)) base p m n (s.setCount r a) := by
  cases r <;> exact h.setP _ _ (by simp [ccells, CS.setCount, CS.setRow, CS.row, offR]) rfl rfl rfl
theorem CK.nxt {w : World} {base p m n : Nat} {s : CSi} (h : CK w base p m n s) {b : Nat} (hb : b ∈ s.bs) (a : Option Nat) : CK (w.setCell ⟨b, 5, none⟩ (optr a)) base p m n (s.setNxt b a) := h.setB hb _ _ _ (by simp [ecells]) rfl
theorem CK.prv {w : World} {base p m n : Nat} {s : CSi} (h : CK w base p m n s) {b : Nat} (hb : b ∈ s.bs) (a : Option Nat) : CK (w.setCell ⟨b, 4, none⟩ (optr a)) base p m n (s.setPrv b a) := h.setB hb _ _ _ (by simp [ecells]) rfl
theorem setE_setE (s : CSi) (b : Nat) (x y : Ent Int Ct) : (s.setE b x).setE b y = s.setE b y := by
  simp only [CS.setE]
  congr 1
  funext i
  split <;> simp_all
theorem CK.val {w : World} {base p m n : Nat} {s : CSi} (h : CK w base p m n s) {b : Nat} (hb : b ∈ s.bs) (a : Ct) : CK ((w.setCell ⟨b, 1, none⟩ (.int .i64 a.kd)).setCell ⟨b, 2, none⟩ (.slice a.sp a.n a.c)) base p m n (s.setVal b a) := by
  have h1 := h.setB hb 1 (.int .i64 a.kd) { s.E b with val := ⟨a.kd, (s.E b).val.sp, (s.E b).val.n, (s.E b).val.c⟩ } (by simp [ecells]) rfl
  have h2 := h1.setB hb 2 (.slice a.sp a.n a.c) { s.E b with val := a } (by rw [E_setE, if_pos rfl]; simp [ecells]) (by rw [E_setE, if_pos rfl])
  rwa [setE_setE] at h2
theorem CK.held {w : World} {base p m n : Nat} {s : CSi} (h : CK w base p m n s) {b : Nat} (hb : b ∈ s.bs) (a : Bool) : CK (w.setCell ⟨b, 3, none⟩ (.bool a)) base p m n (s.setHeld b a) := h.setB hb _ _ _ (by simp [ecells]) rfl
theorem mem_p (p m : Nat) (s : CSi) : p ∈ fpC p m s := by simp [fpC]
theorem mem_m (p m : Nat) (s : CSi) : m ∈ fpC p m s := by simp [fpC]
theorem mem_b {p m : Nat} {s : CSi} {b : Nat} (h : b ∈ s.bs) : b ∈ fpC p m s := by simp [fpC, h]
theorem bs_setRow (s : CSi) (r : Bool) (x : Rw) : (s.setRow r x).bs = s.bs := by cases r <;> rfl
/-- What a call of a row leaves. -/
def LN (base p m n : Nat) (s : CSi) (w : World) (t : CSi) (w' : World) : Prop := CK w' base p m n t ∧ Fr (fpC p m s) w w' ∧ t.bs = s.bs
theorem LN.trans {base p m n : Nat} {s t u : CSi} {w w1 w2 : World} (h : LN base p m n s w t w1) (k : LN base p m n t w1 u w2) : LN base p m n s w u w2 :=
  ⟨k.1, h.2.1.trans' (by have := k.2.1; rwa [show fpC p m t = fpC p m s by simp [fpC, h.2.2]] at this), k.2.2.trans h.2.2⟩
def inBs (s : CSi) (a : Option Nat) : Prop := ∀ x, a = some x → x ∈ s.bs
set_option maxHeartbeats 400000 in
theorem join_any (w : World) (base p m n : Nat) (s : CSi) (h : CK w base p m n s) (r : Bool) (b a : Option Nat) (hb : inBs s b) (ha : inBs s a) :
    Calls Try.prog 87 #[.pointer (some ⟨p, offR r, none⟩), optr b, optr a] w fun e w' => e = .returned (.tuple #[]) ∧ LN base p m n s w (s.join r b a) w' := by
  cases b with
  | none =>
    have f0 := h.fz (offR r)
    have c0 : w.cell? ⟨p, offR r, none⟩ = some (optr (s.row r).first) := by cases r <;> first | exact h.c2 | exact h.c5
    have h1 := h.first r a
    cases a with
    | none =>
      have f1 := h1.fz (offR r + 1)
      have c1 : (w.setCell ⟨p, offR r, none⟩ (optr none)).cell? ⟨p, offR r + 1, none⟩ = some (optr (s.row r).last) := by cases r <;> first | exact h1.c3 | exact h1.c6
      have hL : LN base p m n s w (s.join r none none) ((w.setCell ⟨p, offR r, none⟩ (optr none)).setCell ⟨p, offR r + 1, none⟩ (optr none)) := ⟨h1.last r none, ((Fr.refl _ w).setCell (mem_p p m s) _ _).setCell (mem_p p m s) _ _, (Sm.join s r none none).bs⟩
      clear h h1
      generalize offR r = o at *
      simp only [optr] at *
      go_enter Try.func87, Try.ntmps87
      go_wp2
      go_end0
      exact ⟨rfl, hL⟩
    | some y =>
      have hy := ha y rfl
      have f1 := h1.fe (b := y) (by rw [CS.setFirst, bs_setRow]; exact hy) 4
      have c1 := h1.ep (b := y) (by rw [CS.setFirst, bs_setRow]; exact hy)
      have hL : LN base p m n s w (s.join r none (some y)) ((w.setCell ⟨p, offR r, none⟩ (optr (some y))).setCell ⟨y, 4, none⟩ (optr none)) := ⟨h1.prv (by rw [CS.setFirst, bs_setRow]; exact hy) none, ((Fr.refl _ w).setCell (mem_p p m s) _ _).setCell (mem_b hy) _ _, (Sm.join s r none (some y)).bs⟩
      clear h h1
      generalize offR r = o at *
      simp only [optr] at *
      go_enter Try.func87, Try.ntmps87
      go_wp2
      go_end0
      exact ⟨rfl, hL⟩
  | some x =>
    have hx := hb x rfl
    have f0 := h.fe hx 5
    have c0 := h.en hx
    have h1 := h.nxt hx a
    cases a with
    | none =>
      have f1 := h1.fz (offR r + 1)
      have c1 : (w.setCell ⟨x, 5, none⟩ (optr none)).cell? ⟨p, offR r + 1, none⟩ = some (optr (s.row r).last) := by cases r <;> first | exact h1.c3 | exact h1.c6
      have hL : LN base p m n s w (s.join r (some x) none) ((w.setCell ⟨x, 5, none⟩ (optr none)).setCell ⟨p, offR r + 1, none⟩ (optr (some x))) := ⟨h1.last r (some x), ((Fr.refl _ w).setCell (mem_b hx) _ _).setCell (mem_p p m s) _ _, (Sm.join s r (some x) none).bs⟩
      clear h h1
      generalize offR r = o at *
      simp only [optr] at *
      go_enter Try.func87, Try.ntmps87
      go_wp2
      go_end0
      exact ⟨rfl, hL⟩
    | some y =>
      have hy := ha y rfl
      have f1 := h1.fe (b := y) hy 4
      have c1 := h1.ep (b := y) hy
      have hL : LN base p m n s w (s.join r (some x) (some y)) ((w.setCell ⟨x, 5, none⟩ (optr (some y))).setCell ⟨y, 4, none⟩ (optr (some x))) := ⟨h1.prv hy (some x), ((Fr.refl _ w).setCell (mem_b hx) _ _).setCell (mem_b hy) _ _, (Sm.join s r (some x) (some y)).bs⟩
      clear h h1
      simp only [optr] at *
      go_enter Try.func87, Try.ntmps87
      go_wp2
      go_end0
      exact ⟨rfl, hL⟩
end Go.Proofs.Ytihkjfbhmlfonaa.Ca
namespace Go.Proofs.Ytihkjfbhmlfonaa.Ca
set_option linter.unusedVariables false
set_option linter.unusedSimpArgs false
open Go.RowKit
attribute [local go_sem ↓] Go.wp_at_zero Go.wp_at_succ

theorem rowCount {w : World} {base p m n : Nat} {s : CSi} (h : CK w base p m n s) (r : Bool) : w.cell? ⟨p, offR r + 2, none⟩ = some (.int .i64 (s.row r).count) := by cases r <;> first | exact h.c4 | exact h.c7
theorem rowFirst {w : World} {base p m n : Nat} {s : CSi} (h : CK w base p m n s) (r : Bool) : w.cell? ⟨p, offR r, none⟩ = some (optr (s.row r).first) := by cases r <;> first | exact h.c2 | exact h.c5
theorem rowLast {w : World} {base p m n : Nat} {s : CSi} (h : CK w base p m n s) (r : Bool) : w.cell? ⟨p, offR r + 1, none⟩ = some (optr (s.row r).last) := by cases r <;> first | exact h.c3 | exact h.c6
theorem join_to (w : World) (base p m n : Nat) (s : CSi) (h : CK w base p m n s) (r : Bool) (b a : Option Nat) (hb : inBs s b) (ha : inBs s a) (o : Nat) (ho : o = offR r) (vb va : Value) (hvb : vb = optr b) (hva : va = optr a) :
    Calls Try.prog 87 #[.pointer (some ⟨p, o, none⟩), vb, va] w fun e w' => e = .returned (.tuple #[]) ∧ LN base p m n s w (s.join r b a) w' := by
  subst ho hvb hva; exact join_any w base p m n s h r b a hb ha
set_option maxHeartbeats 400000 in
theorem link_any (w : World) (base p m n : Nat) (s : CSi) (h : CK w base p m n s) (r : Bool) (b : Option Nat) (e : Nat) (a : Option Nat) (hb : inBs s b) (he : e ∈ s.bs) (ha : inBs s a) (hc : 0 ≤ (s.row r).count ∧ (s.row r).count < 4000000000000000000) (o : Nat) (ho : o = offR r) (vb va : Value) (hvb : vb = optr b) (hva : va = optr a) :
    Calls Try.prog 88 #[.pointer (some ⟨p, o, none⟩), vb, .pointer (some ⟨e, 0, none⟩), va] w fun x w' => x = .returned (.tuple #[]) ∧ LN base p m n s w (s.link r b e a) w' := by
  have H1 := hid (join_to w base p m n s h r b (some e) hb (fun x q => by cases q; exact he) o ho vb (.pointer (some ⟨e, 0, none⟩)) hvb rfl)
  have H2 := hid (fun w1 (q : LN base p m n s w (s.join r b (some e)) w1) => join_to w1 base p m n _ q.1 r (some e) a (fun x q2 => by cases q2; rw [q.2.2]; exact he) (fun x q2 => by rw [q.2.2]; exact ha x q2) o ho (.pointer (some ⟨e, 0, none⟩)) va rfl hva)
  have hcc : ((s.join r b (some e)).join r (some e) a |>.row r).count = (s.row r).count := by rw [join_row, join_row]
  have H3 := hid (fun w1 w2 (q1 : LN base p m n s w (s.join r b (some e)) w1) (q2 : LN base p m n (s.join r b (some e)) w1 ((s.join r b (some e)).join r (some e) a) w2) => (by
    have q := q1.trans q2
    have e1 := rowCount q.1 r
    have e2 := q.1.count r ((s.row r).count + 1)
    rw [hcc] at e1
    subst ho
    exact ⟨e1, q.1.fz (offR r + 2), by unfold CS.link; simp only; rw [hcc]; exact e2, q.2.1.setCell (mem_p p m s) _ _, (Sm.link s r b e a).bs⟩ : w2.cell? ⟨p, o + 2, none⟩ = some (.int .i64 (s.row r).count) ∧ w2.frozen? ⟨p, o + 2, none⟩ = false ∧ LN base p m n s w (s.link r b e a) (w2.setCell ⟨p, o + 2, none⟩ (.int .i64 ((s.row r).count + 1)))))
  have k1 := hc.1
  have k2 := hc.2
  clear h hc hcc ha he hb ho hvb hva
  generalize (s.row r).count = C at *
  generalize s.link r b e a = L at *
  generalize (s.join r b (some e)).join r (some e) a = J2 at *
  generalize s.join r b (some e) = J1 at *
  go_enter Try.func88, Try.ntmps88
  go_wp2_with (first
    | (go_at_call 87; refine H1.out.mono ?_; rintro e w1 ⟨rfl, hl1⟩; clear H1)
    | (go_at_call 87; refine (H2.out w1 hl1).mono ?_; rintro e w2 ⟨rfl, hl2⟩; obtain ⟨c7, f7, hL⟩ := H3.out w1 w2 hl1 hl2; clear H2 H3 hl1 hl2))
  go_end0
  exact ⟨rfl, hL⟩
theorem CK.drew {w : World} {base p m n : Nat} {s : CSi} (h : CK w base p m n s) : CK w.drew base p m n s := ⟨h.cell, h.ents, h.mp, h.kwf, h.bp, h.bm, h.bb⟩
theorem LN.undrew {w w1 : World} {base p m n : Nat} {s t : CSi} (h : LN base p m n s w.drew t w1) : LN base p m n s w t w1 := ⟨h.1, ⟨h.2.1.os, h.2.1.tape, h.2.1.output, h.2.1.size, h.2.1.block⟩, h.2.2⟩
theorem take_end {base p m n : Nat} {s : CSi} {r : Bool} {e : Nat} {w w1 : World} (q : LN base p m n s w (s.join r (s.E e).prv (s.E e).nxt) w1) :
    w1.cell? ⟨p, offR r + 2, none⟩ = some (.int .i64 (s.row r).count) ∧ w1.frozen? ⟨p, offR r + 2, none⟩ = false ∧ LN base p m n s w (s.takeOut r e) (w1.setCell ⟨p, offR r + 2, none⟩ (.int .i64 ((s.row r).count - 1))) := by
  have hcc : ((s.join r (s.E e).prv (s.E e).nxt).row r).count = (s.row r).count := by rw [join_row]
  have e1 := rowCount q.1 r
  have e2 := q.1.count r ((s.row r).count - 1)
  rw [hcc] at e1
  exact ⟨e1, q.1.fz (offR r + 2), by unfold CS.takeOut; simp only; rw [hcc]; exact e2, q.2.1.setCell (mem_p p m s) _ _, (Sm.takeOut s r e).bs⟩
set_option maxRecDepth 100000 in
set_option maxHeartbeats 1000000 in
theorem takeOut_any (w : World) (base p m n : Nat) (s : CSi) (h : CK w base p m n s) (r : Bool) (e : Nat) (he : e ∈ s.bs) (hb : inBs s (s.E e).prv) (ha : inBs s (s.E e).nxt) (nb : (s.E e).prv ≠ some e) (na : (s.E e).nxt ≠ some e) (hc : 0 < (s.row r).count ∧ (s.row r).count < 4000000000000000000) (o : Nat) (ho : o = offR r) :
    Calls Try.prog 66 #[.pointer (some ⟨p, o, none⟩), .pointer (some ⟨e, 0, none⟩)] w fun x w' => x = .returned (.tuple #[]) ∧ LN base p m n s w (s.takeOut r e) w' := by
  have cp := h.ep he
  have cn := h.en he
  have H1 := hid (fun vb va hvb hva => join_to w.drew base p m n s h.drew r (s.E e).prv (s.E e).nxt hb ha o ho vb va hvb hva)
  have H3 := hid (fun w1 (q : LN base p m n s w.drew (s.join r (s.E e).prv (s.E e).nxt) w1) => take_end q.undrew)
  have HK := hid (fun w1 (q : LN base p m n s w.drew (s.join r (s.E e).prv (s.E e).nxt) w1) => (by
    have e1 := q.1.ep (b := e) (by rw [q.2.2]; exact he)
    have e2 := q.1.en (b := e) (by rw [q.2.2]; exact he)
    rw [join_prv, if_neg na] at e1
    rw [join_nxt, if_neg nb] at e2
    exact ⟨e1, e2⟩ : w1.cell? ⟨e, 4, none⟩ = some (optr (s.E e).prv) ∧ w1.cell? ⟨e, 5, none⟩ = some (optr (s.E e).nxt)))
  rw [← ho] at H3
  have k1 := hc.1
  have k2 := hc.2
  clear h hc ha he hb ho nb na
  generalize (s.row r).count = C at *
  generalize s.takeOut r e = L at *
  generalize (s.join r (s.E e).prv (s.E e).nxt) = J1 at *
  generalize hvb : optr (s.E e).prv = vb at *
  generalize hva : optr (s.E e).nxt = va at *
  go_enter Try.func66, Try.ntmps66
  go_wp2
  refine wp_region_noPanic ?_
  refine wp_region_held_drew (S := fun w' => w'.cell? ⟨e, 4, none⟩ = some vb ∧ w'.cell? ⟨e, 5, none⟩ = some va) (by kernel_rfl) ⟨cp, cn⟩ (fun hHeld => ?_)
  refine wpAnyH_take (i := 0) (oi := { dst := some 4, op := Op.move (Operand.tmp 0), type := 136, pos := "row.go:32", after := #[], guard := none }) (v := .pointer (some ⟨p, o, none⟩)) rfl (by kernel_rfl) (by kernel_rfl) (by kernel_rfl) (fun _ _ _ h => h) (Or.inl ⟨by rfl, by intro w hS; go_simp⟩) hHeld ?_
  try simp only [Act.put, List.setIfInBounds_toArray, List.set_cons_zero, List.set_cons_succ]
  refine wpAnyH_take (i := 1) (oi := { dst := some 5, op := Op.move (Operand.tmp 1), type := 104, pos := "row.go:32", after := #[], guard := none }) (v := .pointer (some ⟨e, 0, none⟩)) rfl (by kernel_rfl) (by kernel_rfl) (by kernel_rfl) (fun _ _ _ h => h) (Or.inl ⟨by rfl, by intro w hS; go_simp⟩) hHeld ?_
  try simp only [Act.put, List.setIfInBounds_toArray, List.set_cons_zero, List.set_cons_succ]
  refine wpAnyH_take (i := 5) (oi := { dst := some 9, op := Op.move (Operand.tmp 1), type := 104, pos := "row.go:32", after := #[], guard := none }) (v := .pointer (some ⟨e, 0, none⟩)) rfl (by kernel_rfl) (by kernel_rfl) (by kernel_rfl) (fun _ _ _ h => h) (Or.inl ⟨by rfl, by intro w hS; go_simp⟩) hHeld ?_
  try simp only [Act.put, List.setIfInBounds_toArray, List.set_cons_zero, List.set_cons_succ]
  refine wpAnyH_take (i := 2) (oi := { dst := some 6, op := Op.nilCheck (Operand.tmp 5), type := 0, pos := "row.go:32", after := #[{ on := 1, ground := Ground.data }], guard := none }) (v := .pointer (some ⟨e, 0, none⟩)) rfl (by kernel_rfl) (by kernel_rfl) (by kernel_rfl) (fun _ _ _ h => h) (Or.inl ⟨by rfl, by intro w hS; go_simp⟩) hHeld ?_
  try simp only [Act.put, List.setIfInBounds_toArray, List.set_cons_zero, List.set_cons_succ]
  refine wpAnyH_take (i := 6) (oi := { dst := some 10, op := Op.nilCheck (Operand.tmp 9), type := 0, pos := "row.go:32", after := #[{ on := 5, ground := Ground.data }], guard := none }) (v := .pointer (some ⟨e, 0, none⟩)) rfl (by kernel_rfl) (by kernel_rfl) (by kernel_rfl) (fun _ _ _ h => h) (Or.inl ⟨by rfl, by intro w hS; go_simp⟩) hHeld ?_
  try simp only [Act.put, List.setIfInBounds_toArray, List.set_cons_zero, List.set_cons_succ]
  refine wpAnyH_take (i := 3) (oi := { dst := some 7, op := Op.fieldAddr 125 (Operand.tmp 6) 3, type := 0, pos := "row.go:32", after := #[{ on := 2, ground := Ground.data }], guard := none }) (v := .pointer (some ⟨e, 4, none⟩)) rfl (by kernel_rfl) (by kernel_rfl) (by kernel_rfl) (fun _ _ _ h => h) (Or.inl ⟨by rfl, by intro w hS; go_simp⟩) hHeld ?_
  try simp only [Act.put, List.setIfInBounds_toArray, List.set_cons_zero, List.set_cons_succ]
  refine wpAnyH_take (i := 7) (oi := { dst := some 11, op := Op.fieldAddr 125 (Operand.tmp 10) 4, type := 0, pos := "row.go:32", after := #[{ on := 6, ground := Ground.data }], guard := none }) (v := .pointer (some ⟨e, 5, none⟩)) rfl (by kernel_rfl) (by kernel_rfl) (by kernel_rfl) (fun _ _ _ h => h) (Or.inl ⟨by rfl, by intro w hS; go_simp⟩) hHeld ?_
  try simp only [Act.put, List.setIfInBounds_toArray, List.set_cons_zero, List.set_cons_succ]
  refine wpAnyH_take (i := 4) (oi := { dst := some 8, op := Op.load 104 (Operand.tmp 7), type := 104, pos := "row.go:32", after := #[{ on := 3, ground := Ground.data }], guard := none }) (v := vb) rfl (by kernel_rfl) (by kernel_rfl) (by kernel_rfl) (fun _ _ _ h => h) (Or.inl ⟨by rfl, by intro w hS; have hc := hS.1; go_simp⟩) hHeld ?_
  try simp only [Act.put, List.setIfInBounds_toArray, List.set_cons_zero, List.set_cons_succ]
  refine wpAnyH_take (i := 8) (oi := { dst := some 12, op := Op.load 104 (Operand.tmp 11), type := 104, pos := "row.go:32", after := #[{ on := 7, ground := Ground.data }], guard := none }) (v := va) rfl (by kernel_rfl) (by kernel_rfl) (by kernel_rfl) (fun _ _ _ h => h) (Or.inl ⟨by rfl, by intro w hS; have hc := hS.2; go_simp⟩) hHeld ?_
  try simp only [Act.put, List.setIfInBounds_toArray, List.set_cons_zero, List.set_cons_succ]
  refine wpAnyH_ready (rs := [9]) (by kernel_rfl) (by simp) ?_
  refine (AllReadyH.cons (o := { dst := some 13, op := Op.call { callee := Callee.value (Operand.func 87), args := #[Operand.tmp 4, Operand.tmp 8, Operand.tmp 12], argTypes := #[136, 104, 104] }, type := 0, pos := "row.go:32", after := #[{ on := 0, ground := Ground.data }, { on := 4, ground := Ground.data }, { on := 8, ground := Ground.data }], guard := none }) rfl (fun K hK => ?_) AllReadyH.nil)
  go_simp
  go_at_call 87
  refine (H1.out vb va rfl rfl).mono ?_
  rintro e w1 ⟨rfl, hl1⟩
  go_wp2_with fail
  refine hK.out _ _ (HK.out w1 hl1) (fun hHeld2 => ?_)
  clear hK K hHeld
  have hHeld := hHeld2
  clear hHeld2
  obtain ⟨c7, f7, hL⟩ := H3.out w1 hl1
  clear H1 H3 HK hl1
  try simp only [Act.put, List.setIfInBounds_toArray, List.set_cons_zero, List.set_cons_succ]
  refine wpAnyH_done (by kernel_rfl) ?_ _
  refine NoPanic.normal ?_
  go_wp2
  go_end0
  exact ⟨rfl, hL⟩
set_option maxHeartbeats 400000 in
theorem pushFirst_any (w : World) (base p m n : Nat) (s : CSi) (h : CK w base p m n s) (r : Bool) (e : Nat) (he : e ∈ s.bs) (hf : inBs s (s.row r).first) (hc : 0 ≤ (s.row r).count ∧ (s.row r).count < 4000000000000000000) (o : Nat) (ho : o = offR r) :
    Calls Try.prog 69 #[.pointer (some ⟨p, o, none⟩), .pointer (some ⟨e, 0, none⟩)] w fun x w' => x = .returned (.tuple #[]) ∧ LN base p m n s w (s.pushFirst r e) w' := by
  have cp := rowFirst h r
  rw [← ho] at cp
  have H1 := hid (fun va hva => link_any w base p m n s h r none e (s.row r).first (fun x q => by cases q) he hf hc o ho (.pointer none) va rfl hva)
  clear h hc he hf ho
  unfold CS.pushFirst
  generalize (s.link r none e (s.row r).first) = J1 at *
  generalize optr (s.row r).first = vb at *
  go_enter Try.func69, Try.ntmps69
  go_wp2_with (go_at_call 88; refine (H1.out vb rfl).mono ?_; rintro e w1 ⟨rfl, hl1⟩)
  go_end0
  exact ⟨rfl, hl1⟩
set_option maxHeartbeats 400000 in
theorem pushLast_any (w : World) (base p m n : Nat) (s : CSi) (h : CK w base p m n s) (r : Bool) (e : Nat) (he : e ∈ s.bs) (hf : inBs s (s.row r).last) (hc : 0 ≤ (s.row r).count ∧ (s.row r).count < 4000000000000000000) (o : Nat) (ho : o = offR r) :
    Calls Try.prog 67 #[.pointer (some ⟨p, o, none⟩), .pointer (some ⟨e, 0, none⟩)] w fun x w' => x = .returned (.tuple #[]) ∧ LN base p m n s w (s.pushLast r e) w' := by
  have cp := rowLast h r
  rw [← ho] at cp
  have H1 := hid (fun va hva => link_any w base p m n s h r (s.row r).last e none hf he (fun x q => by cases q) hc o ho va (.pointer none) hva rfl)
  clear h hc he hf ho
  unfold CS.pushLast
  generalize (s.link r (s.row r).last e none) = J1 at *
  generalize optr (s.row r).last = vb at *
  go_enter Try.func67, Try.ntmps67
  go_wp2_with (go_at_call 88; refine (H1.out vb rfl).mono ?_; rintro e w1 ⟨rfl, hl1⟩)
  go_end0
  exact ⟨rfl, hl1⟩
end Go.Proofs.Ytihkjfbhmlfonaa.Ca
namespace Go.Proofs.Ytihkjfbhmlfonaa.Ca
set_option linter.unusedVariables false
set_option linter.unusedSimpArgs false

/-! A cache as two lists. -/
section
variable {κ ν : Type}
structure Ref (s : CS κ ν) (L : Bool → List Nat) (x : Option Nat) : Prop where
  row : ∀ r, RowIs s r (L r)
  nd : ∀ r, (L r).Nodup
  dis : ∀ b ∈ L true, b ∉ L false
  xo : ∀ e, x = some e → ∀ r, e ∉ L r
  dom : ∀ r, ∀ b ∈ L r, b ∈ s.bs
  xdom : ∀ e, x = some e → e ∈ s.bs
  flag : ∀ r, ∀ b ∈ L r, (s.E b).held = !r
  keys : ∀ b, ((∃ r, b ∈ L r) ∨ x = some b) → s.look (s.E b).key = some b
  only : ∀ k b, s.look k = some b → ((∃ r, b ∈ L r) ∨ x = some b) ∧ (s.E b).key = k
def updL (L : Bool → List Nat) (r : Bool) (l : List Nat) : Bool → List Nat := fun q => if q = r then l else L q
theorem updL_same (L : Bool → List Nat) (r : Bool) (l : List Nat) : updL L r l r = l := if_pos rfl
theorem updL_ne (L : Bool → List Nat) {r q : Bool} (l : List Nat) (h : q ≠ r) : updL L r l q = L q := if_neg h
theorem Ref.dis' {s : CS κ ν} {L : Bool → List Nat} {x : Option Nat} (h : Ref s L x) {r q : Bool} (hq : q ≠ r) : ∀ b ∈ L q, b ∉ L r := by
  cases r <;> cases q
  · exact absurd rfl hq
  · exact h.dis
  · exact fun b h1 h2 => h.dis b h2 h1
  · exact absurd rfl hq
/-- An entry is taken out of its row. -/
theorem Ref.take {s : CS κ ν} {L : Bool → List Nat} (h : Ref s L none) {r : Bool} {A B : List Nat} {e : Nat} (hL : L r = A ++ e :: B) : Ref (s.takeOut r e) (updL L r (A ++ B)) (some e) := by
  have hm := Sm.takeOut s r e
  have hr := h.row r
  have hn := h.nd r
  rw [hL] at hr hn
  have hn2 := List.nodup_append.1 hn
  have heA : e ∉ A := fun q => hn2.2.2 e q e (by simp) rfl
  have heB := (List.nodup_cons.1 hn2.2.1).1
  have heL : e ∈ L r := by rw [hL]; simp
  have sub : ∀ q b, b ∈ updL L r (A ++ B) q → b ∈ L q ∧ b ≠ e := fun q b hb => by
    by_cases hq : q = r
    · subst hq
      rw [updL_same] at hb
      rw [hL]
      rcases List.mem_append.1 hb with k | k
      · exact ⟨by simp [k], fun e1 => heA (e1 ▸ k)⟩
      · exact ⟨by simp [k], fun e1 => heB (e1 ▸ k)⟩
    · rw [updL_ne _ _ hq] at hb
      exact ⟨hb, fun e1 => h.dis' hq b hb (e1 ▸ heL)⟩
  have inn : ∀ b, ((∃ q, b ∈ updL L r (A ++ B) q) ∨ some e = some b) ↔ (∃ q, b ∈ L q) := fun b => by
    constructor
    · rintro (⟨q, hq⟩ | k)
      · exact ⟨q, (sub q b hq).1⟩
      · cases k; exact ⟨r, heL⟩
    · rintro ⟨q, hq⟩
      by_cases k : b = e
      · exact Or.inr (by rw [k])
      · refine Or.inl ⟨q, ?_⟩
        by_cases hqr : q = r
        · subst hqr
          rw [updL_same]
          rw [hL] at hq
          simp at hq ⊢
          rcases hq with a | a | a
          · exact Or.inl a
          · exact absurd a k
          · exact Or.inr a
        · rw [updL_ne _ _ hqr]; exact hq
  refine ⟨fun q => ?_, fun q => ?_, fun b h1 h2 => h.dis b (sub _ _ h1).1 (sub _ _ h2).1, ?_, fun q b hb => by rw [hm.bs]; exact h.dom q b (sub q b hb).1, fun b hb => ?_, fun q b hb => by rw [hm.held]; exact h.flag q b (sub q b hb).1, fun b hb => ?_, fun k b hb => ?_⟩
  · by_cases hq : q = r
    · subst hq; rw [updL_same]; exact hr.takeOut hn
    · rw [updL_ne _ _ hq]
      refine hr.takeOut_other (h.row q) hq fun y hy => ?_
      have := h.dis' hq y hy
      rw [hL] at this
      simp at this
      exact ⟨this.1, this.2.2⟩
  · by_cases hq : q = r
    · subst hq; rw [updL_same]; exact List.nodup_append.2 ⟨hn2.1, (List.nodup_cons.1 hn2.2.1).2, fun a ha b hb => hn2.2.2 a ha b (by simp [hb])⟩
    · rw [updL_ne _ _ hq]; exact h.nd q
  · intro b hb q hq; cases hb; exact (sub q _ hq).2 rfl
  · cases hb; rw [hm.bs]; exact h.dom r _ heL
  · rw [hm.look, hm.key]; exact h.keys b (Or.inl ((inn b).1 hb))
  · rw [hm.look] at hb
    obtain ⟨a, c⟩ := h.only k b hb
    rw [hm.key]
    exact ⟨(inn b).2 (a.resolve_right (by simp)), c⟩
/-- An entry is put into a row. -/
theorem Ref.put {s : CS κ ν} {L : Bool → List Nat} {e : Nat} (h : Ref s L (some e)) {r : Bool} {A B : List Nat} (hL : L r = A ++ B) (hf : (s.E e).held = !r) : Ref (s.link r A.getLast? e B.head?) (updL L r (A ++ e :: B)) none := by
  have hm := Sm.link s r A.getLast? e B.head?
  have hr := h.row r
  have hn := h.nd r
  have heL := h.xo e rfl
  have heR := heL r
  rw [hL] at hr hn heR
  have sub : ∀ q b, b ∈ updL L r (A ++ e :: B) q → b ∈ L q ∨ (b = e ∧ q = r) := fun q b hb => by
    by_cases hq : q = r
    · subst hq
      rw [updL_same] at hb
      rw [hL]
      simp at hb ⊢
      rcases hb with k | k | k
      · exact Or.inl (Or.inl k)
      · exact Or.inr k
      · exact Or.inl (Or.inr k)
    · rw [updL_ne _ _ hq] at hb
      exact Or.inl hb
  have inn : ∀ b, (∃ q, b ∈ updL L r (A ++ e :: B) q) ↔ ((∃ q, b ∈ L q) ∨ some e = some b) := fun b => by
    constructor
    · rintro ⟨q, hq⟩
      rcases sub q b hq with k | ⟨k, _⟩
      · exact Or.inl ⟨q, k⟩
      · exact Or.inr (by rw [k])
    · rintro (⟨q, hq⟩ | k)
      · refine ⟨q, ?_⟩
        by_cases hqr : q = r
        · subst hqr
          rw [updL_same]
          rw [hL] at hq
          simp at hq ⊢
          rcases hq with a | a
          · exact Or.inl a
          · exact Or.inr (Or.inr a)
        · rw [updL_ne _ _ hqr]; exact hq
      · cases k; exact ⟨r, by rw [updL_same]; simp⟩
  have hn2 := List.nodup_append.1 hn
  simp at heR
  refine ⟨fun q => ?_, fun q => ?_, fun b h1 h2 => ?_, fun b hb => (by cases hb), fun q b hb => ?_, fun b hb => (by cases hb), fun q b hb => ?_, fun b hb => ?_, fun k b hb => ?_⟩
  · by_cases hq : q = r
    · subst hq; rw [updL_same]; exact hr.link hn (by simp; exact heR)
    · rw [updL_ne _ _ hq]
      refine (h.row q).link_other hq (fun y hy => ?_) (heL q)
      have := h.dis' hq y hy
      rw [hL] at this
      simpa using this
  · by_cases hq : q = r
    · subst hq; rw [updL_same]
      refine List.nodup_append.2 ⟨hn2.1, List.nodup_cons.2 ⟨heR.2, hn2.2.1⟩, fun a ha b hb => ?_⟩
      rcases List.mem_cons.1 hb with k | k
      · subst k; exact fun e1 => heR.1 (e1 ▸ ha)
      · exact hn2.2.2 a ha b k
    · rw [updL_ne _ _ hq]; exact h.nd q
  · rcases sub _ _ h1 with k | ⟨k, k1⟩ <;> rcases sub _ _ h2 with j | ⟨j, j1⟩
    · exact h.dis b k j
    · subst j; exact heL true k
    · subst k; exact heL false j
    · rw [← k1] at j1; cases j1
  · rw [hm.bs]
    rcases sub q b hb with k | ⟨k, _⟩
    · exact h.dom q b k
    · subst k; exact h.xdom b rfl
  · rw [hm.held]
    rcases sub q b hb with k | ⟨k, k1⟩
    · exact h.flag q b k
    · subst k k1; exact hf
  · rw [hm.look, hm.key]; exact h.keys b ((inn b).1 (hb.resolve_right (by simp)))
  · rw [hm.look] at hb
    obtain ⟨a, c⟩ := h.only k b hb
    rw [hm.key]
    exact ⟨Or.inl ((inn b).2 a), c⟩
/-- What does not touch links. -/
theorem Ref.same {s t : CS κ ν} {L : Bool → List Nat} {x : Option Nat} (h : Ref s L x) (h1 : ∀ r, t.row r = s.row r) (h2 : t.bs = s.bs) (h3 : t.look = s.look) (hp : ∀ b, (t.E b).prv = (s.E b).prv ∧ (t.E b).nxt = (s.E b).nxt) (hk : ∀ b, (t.E b).key = (s.E b).key) (hf : ∀ r, ∀ b ∈ L r, (t.E b).held = (s.E b).held) : Ref t L x :=
  ⟨fun r => (h.row r).other (h1 r) fun b _ => hp b, h.nd, h.dis, h.xo, fun r b hb => by rw [h2]; exact h.dom r b hb, fun e he => by rw [h2]; exact h.xdom e he, fun r b hb => by rw [hf r b hb]; exact h.flag r b hb, fun b hb => by rw [h3, hk]; exact h.keys b hb, fun k b hb => by rw [hk]; rw [h3] at hb; exact h.only k b hb⟩
theorem Ref.setVal {s : CS κ ν} {L : Bool → List Nat} {x : Option Nat} (h : Ref s L x) (b : Nat) (v : ν) : Ref (s.setVal b v) L x :=
  h.same (fun r => row_setE s _ _ r) rfl rfl (fun i => by rw [CS.setVal, E_setE]; split <;> simp_all) (fun i => by rw [CS.setVal, E_setE]; split <;> simp_all) (fun r i _ => by rw [CS.setVal, E_setE]; split <;> simp_all)
theorem Ref.setHeld {s : CS κ ν} {L : Bool → List Nat} {e : Nat} (h : Ref s L (some e)) (f : Bool) : Ref (s.setHeld e f) L (some e) :=
  h.same (fun r => row_setE s _ _ r) rfl rfl (fun i => by rw [CS.setHeld, E_setE]; split <;> simp_all) (fun i => by rw [CS.setHeld, E_setE]; split <;> simp_all) (fun r i hi => by rw [CS.setHeld, E_setE, if_neg (fun q : i = e => h.xo e rfl r (q ▸ hi))])
/-- A key is forgotten. -/
def CS.drop [DecidableEq κ] (s : CS κ ν) (k : κ) : CS κ ν := { s with look := fun q => if q = k then none else s.look q }
theorem Ref.drop [DecidableEq κ] {s : CS κ ν} {L : Bool → List Nat} {e : Nat} (h : Ref s L (some e)) : Ref (s.drop (s.E e).key) L none := by
  have he := h.keys e (Or.inr rfl)
  refine ⟨fun r => (h.row r).other (by cases r <;> rfl) fun b _ => ⟨rfl, rfl⟩, h.nd, h.dis, fun e he => (by cases he), h.dom, fun e he => (by cases he), h.flag, fun b hb => ?_, fun k b hb => ?_⟩
  · have hb := hb.resolve_right (by simp)
    have k1 := h.keys b (Or.inl hb)
    show (if _ = _ then none else s.look _) = _
    have hd : (s.E b).key ≠ (s.E e).key := fun q => by
      rw [← q, k1] at he
      cases he
      obtain ⟨r, hr⟩ := hb
      exact h.xo _ rfl r hr
    rw [show ((s.drop (s.E e).key).E b).key = (s.E b).key from rfl, if_neg hd]
    exact k1
  · change (if k = _ then none else s.look k) = some b at hb
    split at hb
    · cases hb
    · obtain ⟨a, c⟩ := h.only k b hb
      refine ⟨Or.inl (a.resolve_right fun q => ?_), c⟩
      cases q
      rename_i hne
      exact hne c.symm
/-- A new entry. -/
def CS.enter [DecidableEq κ] (s : CS κ ν) (b : Nat) (k : κ) (v : ν) : CS κ ν := { s with E := fun i => if i = b then ⟨k, v, false, none, none⟩ else s.E i, bs := b :: s.bs, look := fun q => if q = k then some b else s.look q }
theorem Ref.enter [DecidableEq κ] {s : CS κ ν} {L : Bool → List Nat} (h : Ref s L none) {b : Nat} (hb : b ∉ s.bs) {k : κ} (hk : s.look k = none) (v : ν) : Ref (s.enter b k v) L (some b) := by
  have hE : ∀ i, i ≠ b → (s.enter b k v).E i = s.E i := fun i hi => if_neg hi
  have hEb : (s.enter b k v).E b = ⟨k, v, false, none, none⟩ := if_pos rfl
  have hne : ∀ r i, i ∈ L r → i ≠ b := fun r i hi q => hb (q ▸ h.dom r i hi)
  refine ⟨fun r => (h.row r).other (by cases r <;> rfl) fun i hi => by rw [hE i (hne r i hi)]; exact ⟨rfl, rfl⟩, h.nd, h.dis, fun e he r hr => ?_, fun r i hi => List.mem_cons_of_mem _ (h.dom r i hi), fun e he => (by cases he; exact List.mem_cons_self), fun r i hi => by rw [hE i (hne r i hi)]; exact h.flag r i hi, fun i hi => ?_, fun q i hi => ?_⟩
  · cases he; exact hne r _ hr rfl
  · rcases hi with ⟨r, hr⟩ | q
    · rw [hE i (hne r i hr)]
      have := h.keys i (Or.inl ⟨r, hr⟩)
      show (if _ = k then some b else s.look _) = _
      rw [if_neg (fun q => by rw [q, hk] at this; cases this)]
      exact this
    · cases q
      rw [hEb]
      exact if_pos rfl
  · change (if q = k then some b else s.look q) = some i at hi
    split at hi
    · cases hi; rw [hEb]; rename_i e; exact ⟨Or.inr rfl, e.symm⟩
    · obtain ⟨a, c⟩ := h.only q i hi
      obtain ⟨r, hr⟩ := a.resolve_right (by simp)
      rw [hE i (hne r i hr)]
      exact ⟨Or.inl ⟨r, hr⟩, c⟩
end
end Go.Proofs.Ytihkjfbhmlfonaa.Ca
namespace Go.Proofs.Ytihkjfbhmlfonaa.Ca
set_option linter.unusedVariables false
set_option linter.unusedSimpArgs false

/-! What a cache does, over lists of keys and values. -/
structure AS (κ ν : Type) where
  room : Nat
  clean : List (κ × ν)
  held : List (κ × ν)
  hits : Nat
  misses : Nat
  gone : Nat
section
variable {κ ν : Type} [DecidableEq κ]
def findL (l : List (κ × ν)) (k : κ) : Option ν := (l.find? fun x => decide (x.1 = k)).map (·.2)
def delL (l : List (κ × ν)) (k : κ) : List (κ × ν) := l.filter fun x => !decide (x.1 = k)
def setL (l : List (κ × ν)) (k : κ) (v : ν) : List (κ × ν) := l.map fun x => if x.1 = k then (k, v) else x
def AS.trim (a : AS κ ν) : AS κ ν := { a with clean := a.clean.take a.room, gone := a.gone + (a.clean.length - a.room) }
def AS.val (a : AS κ ν) (k : κ) : Option ν := (findL a.held k).or (findL a.clean k)
def AS.get (a : AS κ ν) (k : κ) : AS κ ν := match findL a.held k with
  | some _ => { a with hits := a.hits + 1 }
  | none => match findL a.clean k with
    | some v => { a with clean := (k, v) :: delL a.clean k, hits := a.hits + 1 }
    | none => { a with misses := a.misses + 1 }
def AS.put (a : AS κ ν) (k : κ) (v : ν) : AS κ ν := match findL a.held k with
  | some _ => { a with held := setL a.held k v }
  | none => AS.trim { a with clean := (k, v) :: delL a.clean k }
def AS.hold (a : AS κ ν) (k : κ) (v : ν) : AS κ ν := match findL a.held k with
  | some _ => { a with held := setL a.held k v }
  | none => { a with clean := delL a.clean k, held := a.held ++ [(k, v)] }
def AS.settle (a : AS κ ν) : AS κ ν := AS.trim { a with clean := a.held.reverse ++ a.clean, held := [] }
def AS.release (a : AS κ ν) (n : Nat) : AS κ ν := { a with held := a.held.take n }
def AS.tot (a : AS κ ν) : Nat := a.hits + a.misses + a.gone + a.clean.length + a.held.length
omit [DecidableEq κ] in
theorem AS.trim_id {a : AS κ ν} (h : a.clean.length ≤ a.room) : a.trim = a := by
  unfold AS.trim
  rw [List.take_of_length_le h, Nat.sub_eq_zero_of_le h]; rfl
omit [DecidableEq κ] in
theorem AS.trim_tot (a : AS κ ν) : a.trim.tot = a.tot := by
  unfold AS.trim AS.tot
  simp [List.length_take]; omega
def kvs (s : CS κ ν) (l : List Nat) : List (κ × ν) := l.map fun b => ((s.E b).key, (s.E b).val)
omit [DecidableEq κ] in
theorem kvs_append (s : CS κ ν) (A B : List Nat) : kvs s (A ++ B) = kvs s A ++ kvs s B := by simp [kvs]
omit [DecidableEq κ] in
theorem kvs_cons (s : CS κ ν) (e : Nat) (B : List Nat) : kvs s (e :: B) = ((s.E e).key, (s.E e).val) :: kvs s B := rfl
omit [DecidableEq κ] in
theorem kvs_length (s : CS κ ν) (l : List Nat) : (kvs s l).length = l.length := by simp [kvs]
omit [DecidableEq κ] in
theorem kvs_sm {s t : CS κ ν} (h : Sm s t) (l : List Nat) : kvs t l = kvs s l := by
  unfold kvs; congr 1; funext b; rw [h.key, h.val]
omit [DecidableEq κ] in
theorem kvs_congr {s t : CS κ ν} {l : List Nat} (h : ∀ b ∈ l, (t.E b).key = (s.E b).key ∧ (t.E b).val = (s.E b).val) : kvs t l = kvs s l := by
  unfold kvs; refine List.map_congr_left fun b hb => ?_; rw [(h b hb).1, (h b hb).2]
theorem find_none_iff (l : List (κ × ν)) (k : κ) : findL l k = none ↔ ∀ x ∈ l, x.1 ≠ k := by
  simp [findL]
theorem del_none {l : List (κ × ν)} {k : κ} (h : ∀ x ∈ l, x.1 ≠ k) : delL l k = l := by
  unfold delL; rw [List.filter_eq_self]; intro x hx; simp [h x hx]
omit [DecidableEq κ] in
theorem Ref.inj {s : CS κ ν} {L : Bool → List Nat} {x : Option Nat} (h : Ref s L x) {a b : Nat} {r q : Bool} (ha : a ∈ L r) (hb : b ∈ L q) (e : (s.E a).key = (s.E b).key) : a = b := by
  have h1 := h.keys a (Or.inl ⟨r, ha⟩)
  have h2 := h.keys b (Or.inl ⟨q, hb⟩)
  rw [e, h2] at h1
  exact (Option.some.inj h1).symm
theorem Ref.find_no {s : CS κ ν} {L : Bool → List Nat} {x : Option Nat} (h : Ref s L x) {k : κ} (hk : s.look k = none) (r : Bool) : findL (kvs s (L r)) k = none := by
  rw [find_none_iff]
  intro y hy e
  obtain ⟨b, hb, rfl⟩ := List.mem_map.1 hy
  have := h.keys b (Or.inl ⟨r, hb⟩)
  rw [show (s.E b).key = k from e, hk] at this
  cases this
theorem Ref.find_other {s : CS κ ν} {L : Bool → List Nat} {x : Option Nat} (h : Ref s L x) {e : Nat} {q r : Bool} (he : e ∈ L q) (hq : q ≠ r) : findL (kvs s (L r)) (s.E e).key = none := by
  rw [find_none_iff]
  intro y hy k
  obtain ⟨b, hb, rfl⟩ := List.mem_map.1 hy
  have := h.inj hb he k
  subst this
  exact h.dis' hq _ he hb
theorem Ref.find_yes {s : CS κ ν} {L : Bool → List Nat} {x : Option Nat} (h : Ref s L x) {e : Nat} {r : Bool} (he : e ∈ L r) : findL (kvs s (L r)) (s.E e).key = some (s.E e).val := by
  unfold findL
  cases hf : (kvs s (L r)).find? fun x => decide (x.1 = (s.E e).key) with
  | none =>
    rw [List.find?_eq_none] at hf
    exact absurd (decide_eq_true rfl) (hf ((s.E e).key, (s.E e).val) (List.mem_map.2 ⟨e, he, rfl⟩))
  | some y =>
    have h1 := List.find?_some hf
    have h2 := List.mem_of_find?_eq_some hf
    obtain ⟨b, hb, rfl⟩ := List.mem_map.1 h2
    have : b = e := h.inj hb he (of_decide_eq_true h1)
    subst this
    rfl
theorem Ref.del_at {s : CS κ ν} {L : Bool → List Nat} {x : Option Nat} (h : Ref s L x) {e : Nat} {r : Bool} {A B : List Nat} (hL : L r = A ++ e :: B) : delL (kvs s (A ++ e :: B)) (s.E e).key = kvs s (A ++ B) := by
  have hn := h.nd r
  rw [hL] at hn
  have hn2 := List.nodup_append.1 hn
  have hne : ∀ b ∈ A ++ B, (s.E b).key ≠ (s.E e).key := fun b hb q => by
    have hb' : b ∈ L r := by rw [hL]; simp at hb ⊢; rcases hb with k | k <;> simp [k]
    have : b = e := h.inj hb' (by rw [hL]; simp : e ∈ L r) q
    subst this
    rcases List.mem_append.1 hb with k | k
    · exact hn2.2.2 b k b (by simp) rfl
    · exact (List.nodup_cons.1 hn2.2.1).1 k
  rw [kvs_append, kvs_cons]
  unfold delL
  rw [List.filter_append, List.filter_cons]
  simp only [decide_true, Bool.not_true, Bool.false_eq_true, if_false]
  rw [← List.filter_append, ← kvs_append, List.filter_eq_self]
  intro y hy
  obtain ⟨b, hb, rfl⟩ := List.mem_map.1 hy
  simp [hne b hb]
theorem Ref.set_at {s : CS κ ν} {L : Bool → List Nat} {x : Option Nat} (h : Ref s L x) {e : Nat} {r : Bool} (he : e ∈ L r) (v : ν) : setL (kvs s (L r)) (s.E e).key v = kvs (s.setVal e v) (L r) := by
  unfold setL kvs
  rw [List.map_map]
  refine List.map_congr_left fun b hb => ?_
  simp only [Function.comp, CS.setVal, E_setE]
  by_cases hbe : b = e
  · subst hbe; simp
  · rw [if_neg hbe, if_neg fun q => hbe (h.inj hb he q)]
omit [DecidableEq κ] in
theorem kvs_setVal_other {s : CS κ ν} {e : Nat} {l : List Nat} (he : e ∉ l) (v : ν) : kvs (s.setVal e v) l = kvs s l :=
  kvs_congr fun b hb => by rw [CS.setVal, E_setE, if_neg fun q : b = e => he (q ▸ hb)]; exact ⟨rfl, rfl⟩
/-- A cache's links stand for two lists. -/
structure Abs (s : CS κ ν) (L : Bool → List Nat) (x : Option Nat) (a : AS κ ν) : Prop where
  ref : Ref s L x
  room : s.room = a.room
  clean : kvs s (L true) = a.clean
  held : kvs s (L false) = a.held
  hits : s.hits = a.hits
  misses : s.misses = a.misses
  gone : s.gone = a.gone
omit [DecidableEq κ] in
theorem Ref.pushFirst {s : CS κ ν} {L : Bool → List Nat} {e : Nat} (h : Ref s L (some e)) {r : Bool} (hf : (s.E e).held = !r) : Ref (s.pushFirst r e) (updL L r (e :: L r)) none := by
  have := h.put (A := []) (B := L r) rfl hf
  rw [← (h.row r).first] at this
  exact this
omit [DecidableEq κ] in
theorem Ref.pushLast {s : CS κ ν} {L : Bool → List Nat} {e : Nat} (h : Ref s L (some e)) {r : Bool} (hf : (s.E e).held = !r) : Ref (s.pushLast r e) (updL L r (L r ++ [e])) none := by
  have := h.put (A := L r) (B := []) (by simp) hf
  rw [← (h.row r).last] at this
  exact this
end
end Go.Proofs.Ytihkjfbhmlfonaa.Ca
namespace Go.Proofs.Ytihkjfbhmlfonaa.Ca
set_option linter.unusedVariables false
set_option linter.unusedSimpArgs false
open Go.RowKit
attribute [local go_sem ↓] Go.wp_at_zero Go.wp_at_succ

theorem MapIs.put {M : DataW Unit} {look : Int → Option Nat} (h : MapIs M look) {k : Int} (hk : wfK k) (b : Nat) : MapIs (M.put (litK k) (.lit (.int .i64 (b : Nat)))) (fun q => if q = k then some b else look q) := by
  refine ⟨h.isMap.put _ _, fun q hq hl => ?_, fun q c hq hl => ?_⟩
  · by_cases e : q = k
    · simp [e] at hl
    · rw [if_neg e] at hl
      rw [Maps.has_put_other (fun x => e (litK_inj x)), Maps.atKey_put_other (fun x => e (litK_inj x))]; exact h.no q hq hl
  · by_cases e : q = k
    · subst e
      simp at hl
      subst hl
      exact ⟨Maps.has_put_same h.isMap (keyOfK hk).1 _, Maps.atKey_put_same h.isMap (keyOfK hk).1 _ _⟩
    · rw [if_neg e] at hl
      rw [Maps.has_put_other (fun x => e (litK_inj x)), Maps.atKey_put_other (fun x => e (litK_inj x))]; exact h.yes q c hq hl
theorem MapIs.del {M : DataW Unit} {look : Int → Option Nat} (h : MapIs M look) {k : Int} : MapIs (M.del (litK k)) (fun q => if q = k then none else look q) := by
  refine ⟨h.isMap.del _, fun q hq hl => ?_, fun q c hq hl => ?_⟩
  · by_cases e : q = k
    · subst e; exact ⟨Maps.has_del_same, Maps.atKey_del_same _⟩
    · rw [if_neg e] at hl
      rw [Maps.has_del_other (fun x => e (litK_inj x)), Maps.atKey_del_other (fun x => e (litK_inj x))]; exact h.no q hq hl
  · by_cases e : q = k
    · simp [e] at hl
    · rw [if_neg e] at hl
      rw [Maps.has_del_other (fun x => e (litK_inj x)), Maps.atKey_del_other (fun x => e (litK_inj x))]; exact h.yes q c hq hl
/-- The map alone has turned. -/
theorem CK.turn {w w' : World} {base p m n n' : Nat} {s : CSi} {M : DataW Unit} {look : Int → Option Nat} (h : CK w base p m n s) (hm : w'.ownsMap Try.prog 3 PR m n' M) (hM : MapIs M look) (hg : w.grownBy w' (some m)) : CK w' base p m n' { s with look := look } ∧ Fr (fpC p m s) w w' := by
  have hne : ∀ i, i < w.heap.size → i ≠ m → w'.heap[i]? = w.heap[i]? := fun i hi he => hg.block i hi (fun q => he (Option.some.inj q))
  refine ⟨⟨(hne p (hlt h.cell) h.pm).trans h.cell, fun b hb => (hne b (hlt (h.ents b hb)) (h.eb hb).2).trans (h.ents b hb), ⟨M, hm, hM⟩, h.kwf, h.bp, h.bm, h.bb⟩, ⟨hg.os, hg.tape, hg.output, hg.size, fun i hi hn => hne i hi (fun q => hn (q ▸ mem_m p m s))⟩⟩
theorem CK.alloc {w : World} {base p m n : Nat} {s : CSi} (h : CK w base p m n s) (o : Obj) : CK (w.alloc o) base p m n s := by
  have hne : ∀ i x, w.heap[i]? = some x → (w.alloc o).heap[i]? = some x := fun i x hx => hold hx
  obtain ⟨M, hm, hM⟩ := h.mp
  exact ⟨hne _ _ h.cell, fun b hb => hne _ _ (h.ents b hb), ⟨M, hm.alloc o, hM⟩, h.kwf, h.bp, h.bm, h.bb⟩
/-- A new entry, not in the map yet. -/
theorem CK.fresh {w : World} {base p m n : Nat} {s : CSi} (h : CK w base p m n s) (hb : base ≤ w.heap.size) {k : Int} {v : Ct} (hk : wfK k) : CK (w.alloc (.cells (ecells ⟨k, v, false, none, none⟩) 125)) base p m n { s with E := fun i => if i = w.heap.size then ⟨k, v, false, none, none⟩ else s.E i, bs := w.heap.size :: s.bs } := by
  have h1 := h.alloc (.cells (ecells ⟨k, v, false, none, none⟩) 125)
  have hlt' : ∀ b ∈ s.bs, b ≠ w.heap.size := fun b q e => by have := hlt (h.ents b q); omega
  refine ⟨h1.cell, fun b q => ?_, h1.mp, fun b q => ?_, h.bp, h.bm, fun b q => ?_⟩
  · rcases List.mem_cons.1 q with e | e
    · subst e; simp only [if_pos rfl]; exact hnew w _
    · simp only [if_neg (hlt' b e)]; exact h1.ents b e
  · rcases List.mem_cons.1 q with e | e
    · subst e; simp only [if_pos rfl]; exact hk
    · simp only [if_neg (hlt' b e)]; exact h.kwf b e
  · rcases List.mem_cons.1 q with e | e
    · subst e; exact hb
    · exact h.bb b e
theorem _root_.Go.Proofs.Ytihkjfbhmlfonaa.Fr.alloc' (F : List Nat) (w : World) (o : Obj) : Fr F w (w.alloc o) := Fr.of_below ((Below.refl _ w).alloc (Nat.le_refl _) _)
theorem CK.entered {w w2 : World} {base p m n : Nat} {s : CSi} (h : CK w base p m n s) (hb : base ≤ w.heap.size) {k : Int} {v : Ct} (hk : wfK k) {M : DataW Unit} (hM : MapIs M s.look) (hm : w2.ownsMap Try.prog 3 PR m (n + 1) (M.put (litK k) (.lit (.int .i64 (w.heap.size : Nat))))) (hg : (w.alloc (.cells (ecells ⟨k, v, false, none, none⟩) 125)).grownBy w2 (some m)) :
    CK w2 base p m (n + 1) (s.enter w.heap.size k v) ∧ Fr (fpC p m s) w w2 := by
  obtain ⟨a, b⟩ := (h.fresh hb (v := v) hk).turn hm (hM.put hk w.heap.size) hg
  refine ⟨a, (Fr.alloc' _ w _).trans b (fun i hi => ?_)⟩
  simp only [fpC, List.mem_cons] at hi ⊢
  rcases hi with e | e | e | e
  · exact Or.inl (Or.inl e)
  · exact Or.inl (Or.inr (Or.inl e))
  · exact Or.inr (by omega)
  · exact Or.inl (Or.inr (Or.inr e))
theorem build_entry (k : Int) (v : Ct) (w : World) : (Instr.build 125 #[(0, .int .i64 k), (1, .agg (ctC v).toArray)]).run Try.prog w = .ok (.agg (ecells ⟨k, v, false, none, none⟩)) w := by
  obtain ⟨a, b, c, d⟩ := v
  kernel_rfl
theorem sizeCt : (Try.prog.info? 81).map (·.size) = some 2 := by kernel_rfl
theorem ctC_len (v : Ct) : (ctC v).length = 2 := rfl
theorem ctC_one (v : Ct) : ∀ x ∈ ctC v, x.oneCell' = true := fun x hx => by
  simp only [ctC, List.mem_cons, List.not_mem_nil, or_false] at hx
  rcases hx with rfl | rfl <;> rfl
set_option maxRecDepth 100000 in
set_option maxHeartbeats 1000000 in
theorem enter_any (w : World) (base p m n : Nat) (s : CSi) (h : CK w base p m n s) (hb : base ≤ w.heap.size) (k : Int) (v : Ct) (hk : wfK k) (hn : n < 4000000000000000000) :
    Calls Try.prog 65 #[.pointer (some ⟨p, 0, none⟩), argK k, argV v] w fun x w' => x = .returned (.pointer (some ⟨w.heap.size + 1, 0, none⟩)) ∧ CK w' base p m (n + 1) (s.enter (w.heap.size + 1) k v) ∧ Fr (fpC p m s) w w' := by
  have hz := h.alloc (.cells (ctC v).toArray 81)
  have hF0 : Fr (fpC p m s) w (w.alloc (.cells (ctC v).toArray 81)) := Fr.alloc' _ w _
  have r0 := hnew w (.cells (ctC v).toArray 81)
  have hs : (w.alloc (.cells (ctC v).toArray 81)).heap.size = w.heap.size + 1 := by simp
  obtain ⟨M, hm, hM⟩ := hz.mp
  have HE0 := fun w2 a b => hz.entered (w2 := w2) (by rw [hs]; omega) (v := v) hk hM a b
  have c1 := (hz.alloc (.cells (ecells ⟨k, v, false, none, none⟩) 125)).c1
  have hm1 := hm.alloc (.cells (ecells ⟨k, v, false, none, none⟩) 125)
  rw [hs] at HE0
  have HE := hid (fun w2 a b => show CK w2 base p m (n + 1) (s.enter (w.heap.size + 1) k v) ∧ Fr (fpC p m s) w w2 from ⟨(HE0 w2 a b).1, hF0.trans' (HE0 w2 a b).2⟩)
  have LS := hid (show (Try.prog.info? 81).map (·.size) = some (ctC v).toArray.size by rw [sizeCt, List.size_toArray, ctC_len])
  have HK := hid (keyOfK hk).2
  have HN := hid (show n < maxLen by unfold maxLen; omega)
  clear h hz hm hM hb hk hn HE0 hF0
  obtain ⟨vk, vs, vn, vc⟩ := v
  simp only [argK, argV, ctC, ecells, optr] at *
  go_enter Try.func65, Try.ntmps65
  go_wp2_with (first
    | refine wpList_load_row_w (by rfl) 81 _ (by rfl) w.heap.size (by rfl) 81 _ _ _ r0 Try.underlying81 rfl LS.out ?_
    | (at_mapUpdate; refine wpList_mapUpdate_own _ rfl _ _ _ 103 rfl 3 104 keyedK Try.underlying103 PR m n M rfl hm1 HN.out _ _ (litK k) rfl rfl HK.out (.lit (.int .i64 ((w.heap.size + 1 : Nat) : Int))) [] rfl ?_; intro w2 ho2 hg2; have HR := hid (HE.out w2 ho2 hg2); clear ho2 hg2 HE))
  go_ret
  exact ⟨rfl, HR.out.1, HR.out.2⟩
theorem step_drop {w : World} {ops : Array Oper} {o : Oper} {a : Act} {K : Act → World → Prop} {Q : Exit → Act → World → Prop} {E : Prop} (hgd : o.guard = none) (mo x : Operand) (hop : o.op = Op.call { callee := Callee.builtin Builtin.delete, args := #[mo, x], argTypes := #[103, 3] })
    (base p m n : Nat) (s : CSi) (h : CK w base p m n s) (hm : a.eval mo = .map (some m)) (k : Int) (hx : a.eval x = argK k) (hk : wfK k)
    (hK : ∀ w', CK w' base p m n (s.drop k) → Fr (fpC p m s) w w' → K (a.put o.dst (.tuple #[])) w') :
    if Region.wanted o (yielded ops a.tmps) = true then Oper.wp Try.prog o a w K Q else E := by
  have hw : Region.wanted o (yielded ops a.tmps) = true := by simp [Region.wanted, hgd]
  rw [if_pos hw]
  obtain ⟨M, hown, hM⟩ := h.mp
  obtain ⟨w', hrun, r1, r2⟩ := hown.drop keyedK Try.underlying103 (keyOfK hk).2 o.type
  unfold Oper.wp
  simp [execOp, hop, resolve, invoke, builtin, hm, hx, hrun, Result.andThen]
  obtain ⟨a1, a2⟩ := h.turn r1 (hM.del (k := k)) r2.grown
  exact hK w' a1 a2
theorem CK.ek {w : World} {base p m n : Nat} {s : CSi} (h : CK w base p m n s) {b : Nat} (hb : b ∈ s.bs) : w.cell? ⟨b, 0, none⟩ = some (argK (s.E b).key) := by rw [cell_of_row _ _ _ _ _ _ (h.ents b hb)]; rfl
theorem CK.setGone {w : World} {base p m n : Nat} {s : CSi} (h : CK w base p m n s) (v : Int) : CK (w.setCell ⟨p, 10, none⟩ (.int .i64 v)) base p m n { s with gone := v } := h.setP _ _ (by simp [ccells]) rfl rfl rfl
theorem CK.setHits {w : World} {base p m n : Nat} {s : CSi} (h : CK w base p m n s) (v : Int) : CK (w.setCell ⟨p, 8, none⟩ (.int .i64 v)) base p m n { s with hits := v } := h.setP _ _ (by simp [ccells]) rfl rfl rfl
theorem CK.setMisses {w : World} {base p m n : Nat} {s : CSi} (h : CK w base p m n s) (v : Int) : CK (w.setCell ⟨p, 9, none⟩ (.int .i64 v)) base p m n { s with misses := v } := h.setP _ _ (by simp [ccells]) rfl rfl rfl
theorem Ref.takeOk {s : CSi} {L : Bool → List Nat} (h : Ref s L none) {r : Bool} {A B : List Nat} {e : Nat} (hL : L r = A ++ e :: B) (hl : (L r).length < 4000000000000000000) :
    e ∈ s.bs ∧ inBs s (s.E e).prv ∧ inBs s (s.E e).nxt ∧ (s.E e).prv ≠ some e ∧ (s.E e).nxt ≠ some e ∧ (0 < (s.row r).count ∧ (s.row r).count < 4000000000000000000) := by
  have hr := h.row r
  have hn := h.nd r
  have hd := h.dom r
  rw [hL] at hr hn hd hl
  have hn2 := List.nodup_append.1 hn
  obtain ⟨a, b⟩ := hr.at
  rw [a, b]
  refine ⟨hd e (by simp), fun x hx => hd x (by simp [List.mem_of_getLast? hx]), fun x hx => hd x (by simp [List.mem_of_head? hx]), fun q => hn2.2.2 e (List.mem_of_getLast? q) e (by simp) rfl, fun q => (List.nodup_cons.1 hn2.2.1).1 (List.mem_of_head? q), ?_⟩
  rw [hr.count]
  simp at hl ⊢
  omega
theorem Ref.putOk {s : CSi} {L : Bool → List Nat} {x : Option Nat} (h : Ref s L x) (r : Bool) (hl : (L r).length < 4000000000000000000) : inBs s (s.row r).first ∧ inBs s (s.row r).last ∧ (0 ≤ (s.row r).count ∧ (s.row r).count < 4000000000000000000) := by
  have hr := h.row r
  rw [hr.first, hr.last, hr.count]
  exact ⟨fun x hx => h.dom r x (List.mem_of_head? hx), fun x hx => h.dom r x (List.mem_of_getLast? hx), by omega, by omega⟩
set_option maxHeartbeats 400000 in
theorem use_held (w : World) (base p m n : Nat) (s : CSi) (h : CK w base p m n s) (e : Nat) (he : e ∈ s.bs) (hh : (s.E e).held = true) :
    Calls Try.prog 68 #[.pointer (some ⟨p, 0, none⟩), .pointer (some ⟨e, 0, none⟩)] w fun x w' => x = .returned (.tuple #[]) ∧ w = w' := by
  have c1 := h.eh he
  rw [hh] at c1
  clear h hh he
  go_enter Try.func68, Try.ntmps68
  go_wp2
  refine bodyPost_ret (results_none rfl _ _ _) rfl ?_
  exact ⟨rfl, rfl⟩
set_option maxHeartbeats 400000 in
theorem use_clean (w : World) (base p m n : Nat) (s : CSi) (h : CK w base p m n s) (L : Bool → List Nat) (hR : Ref s L none) (A B : List Nat) (e : Nat) (hL : L true = A ++ e :: B) (hl : (L true).length < 4000000000000000000) :
    Calls Try.prog 68 #[.pointer (some ⟨p, 0, none⟩), .pointer (some ⟨e, 0, none⟩)] w fun x w' => x = .returned (.tuple #[]) ∧ ∃ t, LN base p m n s w t w' ∧ Sm s t ∧ Ref t (updL L true (e :: (A ++ B))) none := by
  obtain ⟨k1, k2, k3, k4, k5, k6⟩ := hR.takeOk hL hl
  have c1 := h.eh k1
  rw [hR.flag true e (by rw [hL]; simp)] at c1
  have H1 := hid (takeOut_any w base p m n s h true e k1 k2 k3 k4 k5 k6 2 rfl)
  have hR1 := hR.take hL
  have hl1 : (updL L true (A ++ B) true).length < 4000000000000000000 := by rw [updL_same]; rw [hL] at hl; simp at hl ⊢; omega
  obtain ⟨j1, j2, j3⟩ := hR1.putOk true hl1
  have H2 := hid (fun w1 (q : LN base p m n s w (s.takeOut true e) w1) => pushFirst_any w1 base p m n _ q.1 true e (by rw [q.2.2]; exact k1) j1 j3 2 rfl)
  have hR2 := hR1.pushFirst (r := true) (by rw [(Sm.takeOut s true e).held]; exact hR.flag true e (by rw [hL]; simp))
  rw [updL_same, show updL (updL L true (A ++ B)) true (e :: (A ++ B)) = updL L true (e :: (A ++ B)) by funext q; unfold updL; split <;> rfl] at hR2
  have HR := hid hR2
  have hS := (Sm.takeOut s true e).trans (Sm.link (s.takeOut true e) true none e ((s.takeOut true e).row true).first)
  clear h hR k1 k2 k3 k4 k5 k6 j1 j2 j3 hR1 hR2 hl hl1 hL
  simp only [Bool.not_true] at c1
  go_enter Try.func68, Try.ntmps68
  go_wp2_with (first
    | (go_at_call 66; refine H1.out.mono ?_; rintro x w1 ⟨rfl, hl1⟩; clear H1)
    | (go_at_call 69; refine (H2.out w1 hl1).mono ?_; rintro x w2 ⟨rfl, hl2⟩; have HL := hid (hl1.trans hl2); clear H2 hl1 hl2))
  go_end0
  exact ⟨rfl, _, HL.out, hS, HR.out⟩
end Go.Proofs.Ytihkjfbhmlfonaa.Ca
