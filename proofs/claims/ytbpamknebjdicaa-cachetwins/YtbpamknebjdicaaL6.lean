import Derived.Test.YtbpamknebjdicaaL5
namespace Go.Proofs.Ytbpamknebjdicaa
set_option linter.unusedVariables false
set_option linter.unusedSimpArgs false

/-! What a cache does, over lists of keys and values. -/
structure AS (κ ν : Type) where
  room : Nat
  clean : List (κ × ν)
  held : List (κ × ν)
  hits : Nat
  misses : Nat
  gone : Nat
section
variable {κ ν : Type} [DecidableEq κ]
def findL (l : List (κ × ν)) (k : κ) : Option ν := (l.find? fun x => decide (x.1 = k)).map (·.2)
def delL (l : List (κ × ν)) (k : κ) : List (κ × ν) := l.filter fun x => !decide (x.1 = k)
def setL (l : List (κ × ν)) (k : κ) (v : ν) : List (κ × ν) := l.map fun x => if x.1 = k then (k, v) else x
def AS.trim (a : AS κ ν) : AS κ ν := { a with clean := a.clean.take a.room, gone := a.gone + (a.clean.length - a.room) }
def AS.val (a : AS κ ν) (k : κ) : Option ν := (findL a.held k).or (findL a.clean k)
def AS.get (a : AS κ ν) (k : κ) : AS κ ν := match findL a.held k with
  | some _ => { a with hits := a.hits + 1 }
  | none => match findL a.clean k with
    | some v => { a with clean := (k, v) :: delL a.clean k, hits := a.hits + 1 }
    | none => { a with misses := a.misses + 1 }
def AS.put (a : AS κ ν) (k : κ) (v : ν) : AS κ ν := match findL a.held k with
  | some _ => { a with held := setL a.held k v }
  | none => AS.trim { a with clean := (k, v) :: delL a.clean k }
def AS.hold (a : AS κ ν) (k : κ) (v : ν) : AS κ ν := match findL a.held k with
  | some _ => { a with held := setL a.held k v }
  | none => { a with clean := delL a.clean k, held := a.held ++ [(k, v)] }
def AS.settle (a : AS κ ν) : AS κ ν := AS.trim { a with clean := a.held.reverse ++ a.clean, held := [] }
def AS.release (a : AS κ ν) (n : Nat) : AS κ ν := { a with held := a.held.take n }
def AS.tot (a : AS κ ν) : Nat := a.hits + a.misses + a.gone + a.clean.length + a.held.length
omit [DecidableEq κ] in
theorem AS.trim_id {a : AS κ ν} (h : a.clean.length ≤ a.room) : a.trim = a := by
  unfold AS.trim
  rw [List.take_of_length_le h, Nat.sub_eq_zero_of_le h]; rfl
omit [DecidableEq κ] in
theorem AS.trim_tot (a : AS κ ν) : a.trim.tot = a.tot := by
  unfold AS.trim AS.tot
  simp [List.length_take]; omega
def kvs (s : CS κ ν) (l : List Nat) : List (κ × ν) := l.map fun b => ((s.E b).key, (s.E b).val)
omit [DecidableEq κ] in
theorem kvs_append (s : CS κ ν) (A B : List Nat) : kvs s (A ++ B) = kvs s A ++ kvs s B := by simp [kvs]
omit [DecidableEq κ] in
theorem kvs_cons (s : CS κ ν) (e : Nat) (B : List Nat) : kvs s (e :: B) = ((s.E e).key, (s.E e).val) :: kvs s B := rfl
omit [DecidableEq κ] in
theorem kvs_length (s : CS κ ν) (l : List Nat) : (kvs s l).length = l.length := by simp [kvs]
omit [DecidableEq κ] in
theorem kvs_sm {s t : CS κ ν} (h : Sm s t) (l : List Nat) : kvs t l = kvs s l := by
  unfold kvs; congr 1; funext b; rw [h.key, h.val]
omit [DecidableEq κ] in
theorem kvs_congr {s t : CS κ ν} {l : List Nat} (h : ∀ b ∈ l, (t.E b).key = (s.E b).key ∧ (t.E b).val = (s.E b).val) : kvs t l = kvs s l := by
  unfold kvs; refine List.map_congr_left fun b hb => ?_; rw [(h b hb).1, (h b hb).2]
theorem find_none_iff (l : List (κ × ν)) (k : κ) : findL l k = none ↔ ∀ x ∈ l, x.1 ≠ k := by
  simp [findL]
theorem del_none {l : List (κ × ν)} {k : κ} (h : ∀ x ∈ l, x.1 ≠ k) : delL l k = l := by
  unfold delL; rw [List.filter_eq_self]; intro x hx; simp [h x hx]
omit [DecidableEq κ] in
theorem Ref.inj {s : CS κ ν} {L : Bool → List Nat} {x : Option Nat} (h : Ref s L x) {a b : Nat} {r q : Bool} (ha : a ∈ L r) (hb : b ∈ L q) (e : (s.E a).key = (s.E b).key) : a = b := by
  have h1 := h.keys a (Or.inl ⟨r, ha⟩)
  have h2 := h.keys b (Or.inl ⟨q, hb⟩)
  rw [e, h2] at h1
  exact (Option.some.inj h1).symm
theorem Ref.find_no {s : CS κ ν} {L : Bool → List Nat} {x : Option Nat} (h : Ref s L x) {k : κ} (hk : s.look k = none) (r : Bool) : findL (kvs s (L r)) k = none := by
  rw [find_none_iff]
  intro y hy e
  obtain ⟨b, hb, rfl⟩ := List.mem_map.1 hy
  have := h.keys b (Or.inl ⟨r, hb⟩)
  rw [show (s.E b).key = k from e, hk] at this
  cases this
theorem Ref.find_other {s : CS κ ν} {L : Bool → List Nat} {x : Option Nat} (h : Ref s L x) {e : Nat} {q r : Bool} (he : e ∈ L q) (hq : q ≠ r) : findL (kvs s (L r)) (s.E e).key = none := by
  rw [find_none_iff]
  intro y hy k
  obtain ⟨b, hb, rfl⟩ := List.mem_map.1 hy
  have := h.inj hb he k
  subst this
  exact h.dis' hq _ he hb
theorem Ref.find_yes {s : CS κ ν} {L : Bool → List Nat} {x : Option Nat} (h : Ref s L x) {e : Nat} {r : Bool} (he : e ∈ L r) : findL (kvs s (L r)) (s.E e).key = some (s.E e).val := by
  unfold findL
  cases hf : (kvs s (L r)).find? fun x => decide (x.1 = (s.E e).key) with
  | none =>
    rw [List.find?_eq_none] at hf
    exact absurd (decide_eq_true rfl) (hf ((s.E e).key, (s.E e).val) (List.mem_map.2 ⟨e, he, rfl⟩))
  | some y =>
    have h1 := List.find?_some hf
    have h2 := List.mem_of_find?_eq_some hf
    obtain ⟨b, hb, rfl⟩ := List.mem_map.1 h2
    have : b = e := h.inj hb he (of_decide_eq_true h1)
    subst this
    rfl
theorem Ref.del_at {s : CS κ ν} {L : Bool → List Nat} {x : Option Nat} (h : Ref s L x) {e : Nat} {r : Bool} {A B : List Nat} (hL : L r = A ++ e :: B) : delL (kvs s (A ++ e :: B)) (s.E e).key = kvs s (A ++ B) := by
  have hn := h.nd r
  rw [hL] at hn
  have hn2 := List.nodup_append.1 hn
  have hne : ∀ b ∈ A ++ B, (s.E b).key ≠ (s.E e).key := fun b hb q => by
    have hb' : b ∈ L r := by rw [hL]; simp at hb ⊢; rcases hb with k | k <;> simp [k]
    have : b = e := h.inj hb' (by rw [hL]; simp : e ∈ L r) q
    subst this
    rcases List.mem_append.1 hb with k | k
    · exact hn2.2.2 b k b (by simp) rfl
    · exact (List.nodup_cons.1 hn2.2.1).1 k
  rw [kvs_append, kvs_cons]
  unfold delL
  rw [List.filter_append, List.filter_cons]
  simp only [decide_true, Bool.not_true, Bool.false_eq_true, if_false]
  rw [← List.filter_append, ← kvs_append, List.filter_eq_self]
  intro y hy
  obtain ⟨b, hb, rfl⟩ := List.mem_map.1 hy
  simp [hne b hb]
theorem Ref.set_at {s : CS κ ν} {L : Bool → List Nat} {x : Option Nat} (h : Ref s L x) {e : Nat} {r : Bool} (he : e ∈ L r) (v : ν) : setL (kvs s (L r)) (s.E e).key v = kvs (s.setVal e v) (L r) := by
  unfold setL kvs
  rw [List.map_map]
  refine List.map_congr_left fun b hb => ?_
  simp only [Function.comp, CS.setVal, E_setE]
  by_cases hbe : b = e
  · subst hbe; simp
  · rw [if_neg hbe, if_neg fun q => hbe (h.inj hb he q)]
omit [DecidableEq κ] in
theorem kvs_setVal_other {s : CS κ ν} {e : Nat} {l : List Nat} (he : e ∉ l) (v : ν) : kvs (s.setVal e v) l = kvs s l :=
  kvs_congr fun b hb => by rw [CS.setVal, E_setE, if_neg fun q : b = e => he (q ▸ hb)]; exact ⟨rfl, rfl⟩
/-- A cache's links stand for two lists. -/
structure Abs (s : CS κ ν) (L : Bool → List Nat) (x : Option Nat) (a : AS κ ν) : Prop where
  ref : Ref s L x
  room : s.room = a.room
  clean : kvs s (L true) = a.clean
  held : kvs s (L false) = a.held
  hits : s.hits = a.hits
  misses : s.misses = a.misses
  gone : s.gone = a.gone
omit [DecidableEq κ] in
theorem Ref.pushFirst {s : CS κ ν} {L : Bool → List Nat} {e : Nat} (h : Ref s L (some e)) {r : Bool} (hf : (s.E e).held = !r) : Ref (s.pushFirst r e) (updL L r (e :: L r)) none := by
  have := h.put (A := []) (B := L r) rfl hf
  rw [← (h.row r).first] at this
  exact this
omit [DecidableEq κ] in
theorem Ref.pushLast {s : CS κ ν} {L : Bool → List Nat} {e : Nat} (h : Ref s L (some e)) {r : Bool} (hf : (s.E e).held = !r) : Ref (s.pushLast r e) (updL L r (L r ++ [e])) none := by
  have := h.put (A := L r) (B := []) (by simp) hf
  rw [← (h.row r).last] at this
  exact this
end
end Go.Proofs.Ytbpamknebjdicaa
