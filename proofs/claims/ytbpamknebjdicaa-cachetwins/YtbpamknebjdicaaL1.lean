import Derived.Test.YtbpamknebjdicaaKt
namespace Go.Proofs.Ytbpamknebjdicaa
set_option linter.unusedVariables false
set_option linter.unusedSimpArgs false

/-! Rows of linked entries, without memory. -/
structure Ent (κ ν : Type) where
  key : κ
  val : ν
  held : Bool
  prv : Option Nat
  nxt : Option Nat
structure Rw where
  first : Option Nat
  last : Option Nat
  count : Int
structure CS (κ ν : Type) where
  room : Int
  cl : Rw
  hd : Rw
  hits : Int
  misses : Int
  gone : Int
  E : Nat → Ent κ ν
  bs : List Nat
  look : κ → Option Nat
section
variable {κ ν : Type}
def CS.row (s : CS κ ν) : Bool → Rw
  | true => s.cl
  | false => s.hd
def CS.setRow (s : CS κ ν) (r : Bool) (x : Rw) : CS κ ν := match r with
  | true => { s with cl := x }
  | false => { s with hd := x }
def CS.setE (s : CS κ ν) (b : Nat) (x : Ent κ ν) : CS κ ν := { s with E := fun i => if i = b then x else s.E i }
def CS.setNxt (s : CS κ ν) (b : Nat) (a : Option Nat) : CS κ ν := s.setE b { s.E b with nxt := a }
def CS.setPrv (s : CS κ ν) (b : Nat) (a : Option Nat) : CS κ ν := s.setE b { s.E b with prv := a }
def CS.setVal (s : CS κ ν) (b : Nat) (v : ν) : CS κ ν := s.setE b { s.E b with val := v }
def CS.setHeld (s : CS κ ν) (b : Nat) (h : Bool) : CS κ ν := s.setE b { s.E b with held := h }
def CS.setFirst (s : CS κ ν) (r : Bool) (a : Option Nat) : CS κ ν := s.setRow r { s.row r with first := a }
def CS.setLast (s : CS κ ν) (r : Bool) (a : Option Nat) : CS κ ν := s.setRow r { s.row r with last := a }
def CS.setCount (s : CS κ ν) (r : Bool) (n : Int) : CS κ ν := s.setRow r { s.row r with count := n }
def CS.joinB (s : CS κ ν) (r : Bool) (b a : Option Nat) : CS κ ν := match b with
  | none => s.setFirst r a
  | some x => s.setNxt x a
def CS.joinA (s : CS κ ν) (r : Bool) (b a : Option Nat) : CS κ ν := match a with
  | none => s.setLast r b
  | some y => s.setPrv y b
def CS.join (s : CS κ ν) (r : Bool) (b a : Option Nat) : CS κ ν := (s.joinB r b a).joinA r b a
def CS.takeOut (s : CS κ ν) (r : Bool) (e : Nat) : CS κ ν :=
  let t := s.join r (s.E e).prv (s.E e).nxt
  t.setCount r ((t.row r).count - 1)
def CS.link (s : CS κ ν) (r : Bool) (b : Option Nat) (e : Nat) (a : Option Nat) : CS κ ν :=
  let t := (s.join r b (some e)).join r (some e) a
  t.setCount r ((t.row r).count + 1)
def CS.pushFirst (s : CS κ ν) (r : Bool) (e : Nat) : CS κ ν := s.link r none e (s.row r).first
def CS.pushLast (s : CS κ ν) (r : Bool) (e : Nat) : CS κ ν := s.link r (s.row r).last e none
/-- What stays through a change of links. -/
structure Sm (s t : CS κ ν) : Prop where
  room : t.room = s.room
  hits : t.hits = s.hits
  misses : t.misses = s.misses
  gone : t.gone = s.gone
  bs : t.bs = s.bs
  look : t.look = s.look
  key : ∀ i, (t.E i).key = (s.E i).key
  val : ∀ i, (t.E i).val = (s.E i).val
  held : ∀ i, (t.E i).held = (s.E i).held
theorem Sm.refl (s : CS κ ν) : Sm s s := ⟨rfl, rfl, rfl, rfl, rfl, rfl, fun _ => rfl, fun _ => rfl, fun _ => rfl⟩
theorem Sm.trans {s t u : CS κ ν} (h : Sm s t) (k : Sm t u) : Sm s u := ⟨k.room.trans h.room, k.hits.trans h.hits, k.misses.trans h.misses, k.gone.trans h.gone, k.bs.trans h.bs, k.look.trans h.look, fun i => (k.key i).trans (h.key i), fun i => (k.val i).trans (h.val i), fun i => (k.held i).trans (h.held i)⟩
theorem Sm.setRow (s : CS κ ν) (r : Bool) (x : Rw) : Sm s (s.setRow r x) := by cases r <;> exact ⟨rfl, rfl, rfl, rfl, rfl, rfl, fun _ => rfl, fun _ => rfl, fun _ => rfl⟩
theorem E_setRow (s : CS κ ν) (r : Bool) (x : Rw) : (s.setRow r x).E = s.E := by cases r <;> rfl
theorem row_setRow (s : CS κ ν) (r : Bool) (x : Rw) : (s.setRow r x).row r = x := by cases r <;> rfl
theorem row_setRow_ne (s : CS κ ν) {r q : Bool} (x : Rw) (h : q ≠ r) : (s.setRow r x).row q = s.row q := by cases r <;> cases q <;> first | rfl | exact absurd rfl h
theorem row_setE (s : CS κ ν) (b : Nat) (x : Ent κ ν) (r : Bool) : (s.setE b x).row r = s.row r := by cases r <;> rfl
theorem E_setE (s : CS κ ν) (b i : Nat) (x : Ent κ ν) : (s.setE b x).E i = if i = b then x else s.E i := rfl
theorem Sm.setE (s : CS κ ν) (b : Nat) (x : Ent κ ν) (h1 : x.key = (s.E b).key) (h2 : x.val = (s.E b).val) (h3 : x.held = (s.E b).held) : Sm s (s.setE b x) :=
  ⟨rfl, rfl, rfl, rfl, rfl, rfl, fun i => by rw [E_setE]; split <;> simp_all, fun i => by rw [E_setE]; split <;> simp_all, fun i => by rw [E_setE]; split <;> simp_all⟩
theorem Sm.joinB (s : CS κ ν) (r : Bool) (b a : Option Nat) : Sm s (s.joinB r b a) := by
  cases b
  · exact Sm.setRow s r _
  · exact Sm.setE s _ _ rfl rfl rfl
theorem Sm.joinA (s : CS κ ν) (r : Bool) (b a : Option Nat) : Sm s (s.joinA r b a) := by
  cases a
  · exact Sm.setRow s r _
  · exact Sm.setE s _ _ rfl rfl rfl
theorem Sm.join (s : CS κ ν) (r : Bool) (b a : Option Nat) : Sm s (s.join r b a) := (Sm.joinB s r b a).trans (Sm.joinA _ r b a)
theorem Sm.takeOut (s : CS κ ν) (r : Bool) (e : Nat) : Sm s (s.takeOut r e) := (Sm.join s r _ _).trans (Sm.setRow _ r _)
theorem Sm.link (s : CS κ ν) (r : Bool) (b : Option Nat) (e : Nat) (a : Option Nat) : Sm s (s.link r b e a) := ((Sm.join s r _ _).trans (Sm.join _ r _ _)).trans (Sm.setRow _ r _)
/-- The links of a part of a row. -/
def Seg (E : Nat → Ent κ ν) : Option Nat → List Nat → Option Nat → Prop
  | _, [], _ => True
  | pb, x :: l, pe => (E x).prv = pb ∧ (E x).nxt = l.head?.or pe ∧ Seg E (some x) l pe
theorem head?_or_append (A B : List Nat) (pe : Option Nat) : (A ++ B).head?.or pe = A.head?.or (B.head?.or pe) := by cases A <;> simp
theorem last?_cons_or (x : Nat) (A : List Nat) (pb : Option Nat) : (x :: A).getLast?.or pb = A.getLast?.or (some x) := by
  cases h : A.getLast? with
  | none => rw [List.getLast?_eq_none_iff] at h; subst h; simp
  | some y => rw [List.getLast?_cons, h]; simp
theorem Seg.append {E : Nat → Ent κ ν} : ∀ {A B : List Nat} {pb pe : Option Nat}, Seg E pb (A ++ B) pe ↔ Seg E pb A (B.head?.or pe) ∧ Seg E (A.getLast?.or pb) B pe
  | [], B, pb, pe => by simp [Seg]
  | x :: A, B, pb, pe => by
    show ((E x).prv = pb ∧ (E x).nxt = (A ++ B).head?.or pe ∧ Seg E (some x) (A ++ B) pe) ↔ ((E x).prv = pb ∧ (E x).nxt = A.head?.or (B.head?.or pe) ∧ Seg E (some x) A (B.head?.or pe)) ∧ _
    rw [Seg.append (A := A), head?_or_append, last?_cons_or]
    constructor
    · rintro ⟨a, b, c, d⟩; exact ⟨⟨a, b, c⟩, d⟩
    · rintro ⟨⟨a, b, c⟩, d⟩; exact ⟨a, b, c, d⟩
theorem Seg.congr {E E' : Nat → Ent κ ν} : ∀ {l : List Nat} {pb pe : Option Nat}, Seg E pb l pe → (∀ x ∈ l, (E' x).prv = (E x).prv ∧ (E' x).nxt = (E x).nxt) → Seg E' pb l pe
  | [], _, _, _, _ => trivial
  | x :: l, pb, pe, h, k => ⟨(k x (by simp)).1.trans h.1, (k x (by simp)).2.trans h.2.1, Seg.congr h.2.2 fun y hy => k y (by simp [hy])⟩
/-- Another end. -/
theorem Seg.setEnd {E E' : Nat → Ent κ ν} : ∀ {l : List Nat} {pb pe pe' : Option Nat}, Seg E pb l pe → l.Nodup → (∀ x ∈ l, (E' x).prv = (E x).prv) → (∀ x ∈ l, l.getLast? ≠ some x → (E' x).nxt = (E x).nxt) → (∀ x, l.getLast? = some x → (E' x).nxt = pe') → Seg E' pb l pe'
  | [], _, _, _, _, _, _, _, _ => trivial
  | [x], pb, pe, pe', h, hn, k1, k2, k3 => ⟨(k1 x (by simp)).trans h.1, by simpa using k3 x (by simp), trivial⟩
  | x :: y :: l, pb, pe, pe', h, hn, k1, k2, k3 => by
    have hl : (x :: y :: l).getLast? = (y :: l).getLast? := by rw [List.getLast?_cons_cons]
    have hx : (y :: l).getLast? ≠ some x := fun e => (List.nodup_cons.1 hn).1 (List.mem_of_getLast? e)
    refine ⟨(k1 x (by simp)).trans h.1, ?_, ?_⟩
    · rw [k2 x (by simp) (by rw [hl]; exact hx), h.2.1]; simp
    · exact Seg.setEnd h.2.2 (List.nodup_cons.1 hn).2 (fun z hz => k1 z (by simp [hz])) (fun z hz hne => k2 z (List.mem_cons_of_mem _ hz) (by rw [hl]; exact hne)) (fun z hz => k3 z (by rw [hl]; exact hz))
/-- Another beginning. -/
theorem Seg.setBeg {E E' : Nat → Ent κ ν} {l : List Nat} {pb pb' pe : Option Nat} (h : Seg E pb l pe) (hn : l.Nodup) (k1 : ∀ x ∈ l, (E' x).nxt = (E x).nxt) (k2 : ∀ x ∈ l, l.head? ≠ some x → (E' x).prv = (E x).prv) (k3 : ∀ x, l.head? = some x → (E' x).prv = pb') : Seg E' pb' l pe := by
  cases l with
  | nil => trivial
  | cons x l =>
    refine ⟨k3 x rfl, (k1 x (by simp)).trans h.2.1, h.2.2.congr fun y hy => ⟨k2 y (by simp [hy]) ?_, k1 y (by simp [hy])⟩⟩
    intro e
    simp at e
    subst e
    exact (List.nodup_cons.1 hn).1 hy
/-- A row that is well linked. -/
structure RowIs (s : CS κ ν) (r : Bool) (l : List Nat) : Prop where
  first : (s.row r).first = l.head?
  last : (s.row r).last = l.getLast?
  count : (s.row r).count = l.length
  seg : Seg s.E none l none
theorem join_prv (s : CS κ ν) (r : Bool) (b a : Option Nat) (i : Nat) : ((s.join r b a).E i).prv = if a = some i then b else (s.E i).prv := by
  unfold CS.join CS.joinA CS.joinB
  cases b <;> cases a <;> simp [CS.setFirst, CS.setLast, CS.setNxt, CS.setPrv, E_setRow, E_setE]
  · rename_i a; by_cases h : i = a <;> simp [h, eq_comm]
  · rename_i b; by_cases h : i = b <;> simp [h]
  · rename_i b a; by_cases h : i = a <;> by_cases k : i = b <;> simp_all [eq_comm]
theorem join_nxt (s : CS κ ν) (r : Bool) (b a : Option Nat) (i : Nat) : ((s.join r b a).E i).nxt = if b = some i then a else (s.E i).nxt := by
  unfold CS.join CS.joinA CS.joinB
  cases b <;> cases a <;> simp [CS.setFirst, CS.setLast, CS.setNxt, CS.setPrv, E_setRow, E_setE]
  · rename_i a; by_cases h : i = a <;> simp [h, eq_comm]
  · rename_i b; by_cases h : i = b <;> simp [h, eq_comm]
  · rename_i b a; by_cases h : i = a <;> by_cases k : i = b <;> simp_all [eq_comm]
theorem join_row (s : CS κ ν) (r : Bool) (b a : Option Nat) : (s.join r b a).row r = ⟨if b = none then a else (s.row r).first, if a = none then b else (s.row r).last, (s.row r).count⟩ := by
  unfold CS.join CS.joinA CS.joinB
  cases b <;> cases a <;> simp [CS.setFirst, CS.setLast, CS.setNxt, CS.setPrv, row_setRow, row_setE]
theorem join_row_ne (s : CS κ ν) {r q : Bool} (b a : Option Nat) (h : q ≠ r) : (s.join r b a).row q = s.row q := by
  unfold CS.join CS.joinA CS.joinB
  cases b <;> cases a <;> simp [CS.setFirst, CS.setLast, CS.setNxt, CS.setPrv, row_setRow_ne _ _ h, row_setE]
theorem RowIs.other {s t : CS κ ν} {q : Bool} {l : List Nat} (h : RowIs s q l) (hr : t.row q = s.row q) (hE : ∀ x ∈ l, (t.E x).prv = (s.E x).prv ∧ (t.E x).nxt = (s.E x).nxt) : RowIs t q l :=
  ⟨by rw [hr]; exact h.first, by rw [hr]; exact h.last, by rw [hr]; exact h.count, h.seg.congr hE⟩
theorem or_none (a : Option Nat) : a.or none = a := by cases a <;> rfl
/-- Where an entry of a row stands. -/
theorem RowIs.at {s : CS κ ν} {r : Bool} {A B : List Nat} {e : Nat} (h : RowIs s r (A ++ e :: B)) : (s.E e).prv = A.getLast? ∧ (s.E e).nxt = B.head? := by
  have := (Seg.append.1 h.seg).2
  exact ⟨by rw [this.1, or_none], by rw [this.2.1, or_none]⟩
theorem RowIs.takeOut {s : CS κ ν} {r : Bool} {A B : List Nat} {e : Nat} (h : RowIs s r (A ++ e :: B)) (hn : (A ++ e :: B).Nodup) : RowIs (s.takeOut r e) r (A ++ B) := by
  obtain ⟨hp, hx⟩ := h.at
  have hA := (List.nodup_append.1 hn)
  have hB := List.nodup_cons.1 hA.2.1
  have dis : ∀ x ∈ A, x ∉ B := fun x ha hb => hA.2.2 x ha x (by simp [hb]) rfl
  obtain ⟨s1, s2⟩ := Seg.append.1 h.seg
  obtain ⟨_, _, s3⟩ := s2
  simp only [or_none] at *
  unfold CS.takeOut
  rw [hp, hx]
  refine ⟨?_, ?_, ?_, ?_⟩
  · rw [CS.setCount, row_setRow, join_row]
    simp only
    rcases List.eq_nil_or_concat A with rfl | ⟨A', x, rfl⟩
    · simp
    · rw [if_neg (by simp), h.first]; simp
  · rw [CS.setCount, row_setRow, join_row]
    simp only
    cases B with
    | nil => simp
    | cons y B' => rw [if_neg (by simp), h.last]; simp [List.getLast?_append, List.getLast?_cons]
  · rw [CS.setCount, row_setRow, join_row]
    simp only
    rw [h.count]; simp; omega
  · rw [CS.setCount, E_setRow, Seg.append]
    simp only [or_none]
    refine ⟨s1.setEnd hA.1 (fun x hx2 => ?_) (fun x hx2 hne => ?_) (fun x hl => ?_), s3.setBeg hB.2 (fun x hx2 => ?_) (fun x hx2 hne => ?_) (fun x hl => ?_)⟩
    · rw [join_prv, if_neg fun q => dis x hx2 (List.mem_of_head? q)]
    · rw [join_nxt, if_neg hne]
    · rw [join_nxt, if_pos hl]
    · rw [join_nxt, if_neg fun q => dis x (List.mem_of_getLast? q) hx2]
    · rw [join_prv, if_neg hne]
    · rw [join_prv, if_pos hl]
theorem takeOut_prv (s : CS κ ν) (r : Bool) (e i : Nat) (h : (s.E e).nxt ≠ some i) : ((s.takeOut r e).E i).prv = (s.E i).prv := by
  unfold CS.takeOut; rw [CS.setCount, E_setRow, join_prv, if_neg h]
theorem takeOut_nxt (s : CS κ ν) (r : Bool) (e i : Nat) (h : (s.E e).prv ≠ some i) : ((s.takeOut r e).E i).nxt = (s.E i).nxt := by
  unfold CS.takeOut; rw [CS.setCount, E_setRow, join_nxt, if_neg h]
theorem takeOut_row_ne (s : CS κ ν) {r q : Bool} (e : Nat) (h : q ≠ r) : (s.takeOut r e).row q = s.row q := by
  unfold CS.takeOut; rw [CS.setCount, row_setRow_ne _ _ h, join_row_ne _ _ _ h]
theorem RowIs.takeOut_other {s : CS κ ν} {r q : Bool} {A B l : List Nat} {e : Nat} (h : RowIs s r (A ++ e :: B)) (k : RowIs s q l) (hq : q ≠ r) (hd : ∀ x ∈ l, x ∉ A ∧ x ∉ B) : RowIs (s.takeOut r e) q l := by
  obtain ⟨hp, hx⟩ := h.at
  refine k.other (takeOut_row_ne s e hq) fun x hx2 => ⟨takeOut_prv s r e x ?_, takeOut_nxt s r e x ?_⟩
  · rw [hx]; exact fun q => (hd x hx2).2 (List.mem_of_head? q)
  · rw [hp]; exact fun q => (hd x hx2).1 (List.mem_of_getLast? q)
theorem link_prv (s : CS κ ν) (r : Bool) (b : Option Nat) (e : Nat) (a : Option Nat) (i : Nat) : ((s.link r b e a).E i).prv = if a = some i then some e else if e = i then b else (s.E i).prv := by
  unfold CS.link; rw [CS.setCount, E_setRow, join_prv, join_prv]; simp
theorem link_nxt (s : CS κ ν) (r : Bool) (b : Option Nat) (e : Nat) (a : Option Nat) (i : Nat) : ((s.link r b e a).E i).nxt = if e = i then a else if b = some i then some e else (s.E i).nxt := by
  unfold CS.link; rw [CS.setCount, E_setRow, join_nxt, join_nxt]; simp
theorem link_row_ne (s : CS κ ν) {r q : Bool} (b : Option Nat) (e : Nat) (a : Option Nat) (h : q ≠ r) : (s.link r b e a).row q = s.row q := by
  unfold CS.link; rw [CS.setCount, row_setRow_ne _ _ h, join_row_ne _ _ _ h, join_row_ne _ _ _ h]
theorem RowIs.link {s : CS κ ν} {r : Bool} {A B : List Nat} {e : Nat} (h : RowIs s r (A ++ B)) (hn : (A ++ B).Nodup) (he : e ∉ A ++ B) : RowIs (s.link r A.getLast? e B.head?) r (A ++ e :: B) := by
  have hA := (List.nodup_append.1 hn)
  have dis : ∀ x ∈ A, x ∉ B := fun x ha hb => hA.2.2 x ha x hb rfl
  have heA : e ∉ A := fun q => he (by simp [q])
  have heB : e ∉ B := fun q => he (by simp [q])
  obtain ⟨s1, s2⟩ := Seg.append.1 h.seg
  simp only [or_none] at *
  refine ⟨?_, ?_, ?_, ?_⟩
  · unfold CS.link
    rw [CS.setCount, row_setRow, join_row, join_row]
    simp only
    rcases List.eq_nil_or_concat A with rfl | ⟨A', x, rfl⟩
    · simp
    · rw [if_neg (by simp), if_neg (by simp), h.first]; simp
  · unfold CS.link
    rw [CS.setCount, row_setRow, join_row, join_row]
    simp only
    cases B with
    | nil => simp
    | cons y B' => rw [if_neg (by simp), if_neg (by simp), h.last]; simp [List.getLast?_append, List.getLast?_cons]
  · unfold CS.link
    rw [CS.setCount, row_setRow, join_row, join_row]
    simp only
    rw [h.count]; simp; omega
  · rw [Seg.append]
    refine ⟨s1.setEnd hA.1 (fun x hx2 => ?_) (fun x hx2 hne => ?_) (fun x hl => ?_), ⟨?_, ?_, s2.setBeg hA.2.1 (fun x hx2 => ?_) (fun x hx2 hne => ?_) (fun x hl => ?_)⟩⟩
    · rw [link_prv, if_neg fun q => dis x hx2 (List.mem_of_head? q), if_neg fun q : e = x => heA (q ▸ hx2)]
    · rw [link_nxt, if_neg fun q : e = x => heA (q ▸ hx2), if_neg hne]
    · rw [link_nxt, if_neg fun q : e = x => heA (q ▸ List.mem_of_getLast? hl), if_pos hl]; simp
    · rw [link_prv, if_neg fun q => heB (List.mem_of_head? q), if_pos rfl]; simp
    · rw [link_nxt, if_pos rfl]; simp
    · rw [link_nxt, if_neg fun q : e = x => heB (q ▸ hx2), if_neg fun q => dis x (List.mem_of_getLast? q) hx2]
    · rw [link_prv, if_neg hne, if_neg fun q : e = x => heB (q ▸ hx2)]
    · rw [link_prv, if_pos hl]
theorem RowIs.link_other {s : CS κ ν} {r q : Bool} {A B l : List Nat} {e : Nat} (k : RowIs s q l) (hq : q ≠ r) (hd : ∀ x ∈ l, x ∉ A ∧ x ∉ B) (he : e ∉ l) : RowIs (s.link r A.getLast? e B.head?) q l := by
  refine k.other (link_row_ne s _ e _ hq) fun x hx2 => ⟨?_, ?_⟩
  · rw [link_prv, if_neg fun q => (hd x hx2).2 (List.mem_of_head? q), if_neg fun q : e = x => he (q ▸ hx2)]
  · rw [link_nxt, if_neg fun q : e = x => he (q ▸ hx2), if_neg fun q => (hd x hx2).1 (List.mem_of_getLast? q)]
end
end Go.Proofs.Ytbpamknebjdicaa
