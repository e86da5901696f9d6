import Derived.Test.YtbpamknebjdicaaL1
namespace Go.Proofs.Ytbpamknebjdicaa
set_option linter.unusedVariables false
set_option linter.unusedSimpArgs false

/-! A cache as two lists. -/
section
variable {κ ν : Type}
structure Ref (s : CS κ ν) (L : Bool → List Nat) (x : Option Nat) : Prop where
  row : ∀ r, RowIs s r (L r)
  nd : ∀ r, (L r).Nodup
  dis : ∀ b ∈ L true, b ∉ L false
  xo : ∀ e, x = some e → ∀ r, e ∉ L r
  dom : ∀ r, ∀ b ∈ L r, b ∈ s.bs
  xdom : ∀ e, x = some e → e ∈ s.bs
  flag : ∀ r, ∀ b ∈ L r, (s.E b).held = !r
  keys : ∀ b, ((∃ r, b ∈ L r) ∨ x = some b) → s.look (s.E b).key = some b
  only : ∀ k b, s.look k = some b → ((∃ r, b ∈ L r) ∨ x = some b) ∧ (s.E b).key = k
def updL (L : Bool → List Nat) (r : Bool) (l : List Nat) : Bool → List Nat := fun q => if q = r then l else L q
theorem updL_same (L : Bool → List Nat) (r : Bool) (l : List Nat) : updL L r l r = l := if_pos rfl
theorem updL_ne (L : Bool → List Nat) {r q : Bool} (l : List Nat) (h : q ≠ r) : updL L r l q = L q := if_neg h
theorem Ref.dis' {s : CS κ ν} {L : Bool → List Nat} {x : Option Nat} (h : Ref s L x) {r q : Bool} (hq : q ≠ r) : ∀ b ∈ L q, b ∉ L r := by
  cases r <;> cases q
  · exact absurd rfl hq
  · exact h.dis
  · exact fun b h1 h2 => h.dis b h2 h1
  · exact absurd rfl hq
/-- An entry is taken out of its row. -/
theorem Ref.take {s : CS κ ν} {L : Bool → List Nat} (h : Ref s L none) {r : Bool} {A B : List Nat} {e : Nat} (hL : L r = A ++ e :: B) : Ref (s.takeOut r e) (updL L r (A ++ B)) (some e) := by
  have hm := Sm.takeOut s r e
  have hr := h.row r
  have hn := h.nd r
  rw [hL] at hr hn
  have hn2 := List.nodup_append.1 hn
  have heA : e ∉ A := fun q => hn2.2.2 e q e (by simp) rfl
  have heB := (List.nodup_cons.1 hn2.2.1).1
  have heL : e ∈ L r := by rw [hL]; simp
  have sub : ∀ q b, b ∈ updL L r (A ++ B) q → b ∈ L q ∧ b ≠ e := fun q b hb => by
    by_cases hq : q = r
    · subst hq
      rw [updL_same] at hb
      rw [hL]
      rcases List.mem_append.1 hb with k | k
      · exact ⟨by simp [k], fun e1 => heA (e1 ▸ k)⟩
      · exact ⟨by simp [k], fun e1 => heB (e1 ▸ k)⟩
    · rw [updL_ne _ _ hq] at hb
      exact ⟨hb, fun e1 => h.dis' hq b hb (e1 ▸ heL)⟩
  have inn : ∀ b, ((∃ q, b ∈ updL L r (A ++ B) q) ∨ some e = some b) ↔ (∃ q, b ∈ L q) := fun b => by
    constructor
    · rintro (⟨q, hq⟩ | k)
      · exact ⟨q, (sub q b hq).1⟩
      · cases k; exact ⟨r, heL⟩
    · rintro ⟨q, hq⟩
      by_cases k : b = e
      · exact Or.inr (by rw [k])
      · refine Or.inl ⟨q, ?_⟩
        by_cases hqr : q = r
        · subst hqr
          rw [updL_same]
          rw [hL] at hq
          simp at hq ⊢
          rcases hq with a | a | a
          · exact Or.inl a
          · exact absurd a k
          · exact Or.inr a
        · rw [updL_ne _ _ hqr]; exact hq
  refine ⟨fun q => ?_, fun q => ?_, fun b h1 h2 => h.dis b (sub _ _ h1).1 (sub _ _ h2).1, ?_, fun q b hb => by rw [hm.bs]; exact h.dom q b (sub q b hb).1, fun b hb => ?_, fun q b hb => by rw [hm.held]; exact h.flag q b (sub q b hb).1, fun b hb => ?_, fun k b hb => ?_⟩
  · by_cases hq : q = r
    · subst hq; rw [updL_same]; exact hr.takeOut hn
    · rw [updL_ne _ _ hq]
      refine hr.takeOut_other (h.row q) hq fun y hy => ?_
      have := h.dis' hq y hy
      rw [hL] at this
      simp at this
      exact ⟨this.1, this.2.2⟩
  · by_cases hq : q = r
    · subst hq; rw [updL_same]; exact List.nodup_append.2 ⟨hn2.1, (List.nodup_cons.1 hn2.2.1).2, fun a ha b hb => hn2.2.2 a ha b (by simp [hb])⟩
    · rw [updL_ne _ _ hq]; exact h.nd q
  · intro b hb q hq; cases hb; exact (sub q _ hq).2 rfl
  · cases hb; rw [hm.bs]; exact h.dom r _ heL
  · rw [hm.look, hm.key]; exact h.keys b (Or.inl ((inn b).1 hb))
  · rw [hm.look] at hb
    obtain ⟨a, c⟩ := h.only k b hb
    rw [hm.key]
    exact ⟨(inn b).2 (a.resolve_right (by simp)), c⟩
/-- An entry is put into a row. -/
theorem Ref.put {s : CS κ ν} {L : Bool → List Nat} {e : Nat} (h : Ref s L (some e)) {r : Bool} {A B : List Nat} (hL : L r = A ++ B) (hf : (s.E e).held = !r) : Ref (s.link r A.getLast? e B.head?) (updL L r (A ++ e :: B)) none := by
  have hm := Sm.link s r A.getLast? e B.head?
  have hr := h.row r
  have hn := h.nd r
  have heL := h.xo e rfl
  have heR := heL r
  rw [hL] at hr hn heR
  have sub : ∀ q b, b ∈ updL L r (A ++ e :: B) q → b ∈ L q ∨ (b = e ∧ q = r) := fun q b hb => by
    by_cases hq : q = r
    · subst hq
      rw [updL_same] at hb
      rw [hL]
      simp at hb ⊢
      rcases hb with k | k | k
      · exact Or.inl (Or.inl k)
      · exact Or.inr k
      · exact Or.inl (Or.inr k)
    · rw [updL_ne _ _ hq] at hb
      exact Or.inl hb
  have inn : ∀ b, (∃ q, b ∈ updL L r (A ++ e :: B) q) ↔ ((∃ q, b ∈ L q) ∨ some e = some b) := fun b => by
    constructor
    · rintro ⟨q, hq⟩
      rcases sub q b hq with k | ⟨k, _⟩
      · exact Or.inl ⟨q, k⟩
      · exact Or.inr (by rw [k])
    · rintro (⟨q, hq⟩ | k)
      · refine ⟨q, ?_⟩
        by_cases hqr : q = r
        · subst hqr
          rw [updL_same]
          rw [hL] at hq
          simp at hq ⊢
          rcases hq with a | a
          · exact Or.inl a
          · exact Or.inr (Or.inr a)
        · rw [updL_ne _ _ hqr]; exact hq
      · cases k; exact ⟨r, by rw [updL_same]; simp⟩
  have hn2 := List.nodup_append.1 hn
  simp at heR
  refine ⟨fun q => ?_, fun q => ?_, fun b h1 h2 => ?_, fun b hb => (by cases hb), fun q b hb => ?_, fun b hb => (by cases hb), fun q b hb => ?_, fun b hb => ?_, fun k b hb => ?_⟩
  · by_cases hq : q = r
    · subst hq; rw [updL_same]; exact hr.link hn (by simp; exact heR)
    · rw [updL_ne _ _ hq]
      refine (h.row q).link_other hq (fun y hy => ?_) (heL q)
      have := h.dis' hq y hy
      rw [hL] at this
      simpa using this
  · by_cases hq : q = r
    · subst hq; rw [updL_same]
      refine List.nodup_append.2 ⟨hn2.1, List.nodup_cons.2 ⟨heR.2, hn2.2.1⟩, fun a ha b hb => ?_⟩
      rcases List.mem_cons.1 hb with k | k
      · subst k; exact fun e1 => heR.1 (e1 ▸ ha)
      · exact hn2.2.2 a ha b k
    · rw [updL_ne _ _ hq]; exact h.nd q
  · rcases sub _ _ h1 with k | ⟨k, k1⟩ <;> rcases sub _ _ h2 with j | ⟨j, j1⟩
    · exact h.dis b k j
    · subst j; exact heL true k
    · subst k; exact heL false j
    · rw [← k1] at j1; cases j1
  · rw [hm.bs]
    rcases sub q b hb with k | ⟨k, _⟩
    · exact h.dom q b k
    · subst k; exact h.xdom b rfl
  · rw [hm.held]
    rcases sub q b hb with k | ⟨k, k1⟩
    · exact h.flag q b k
    · subst k k1; exact hf
  · rw [hm.look, hm.key]; exact h.keys b ((inn b).1 (hb.resolve_right (by simp)))
  · rw [hm.look] at hb
    obtain ⟨a, c⟩ := h.only k b hb
    rw [hm.key]
    exact ⟨Or.inl ((inn b).2 a), c⟩
/-- What does not touch links. -/
theorem Ref.same {s t : CS κ ν} {L : Bool → List Nat} {x : Option Nat} (h : Ref s L x) (h1 : ∀ r, t.row r = s.row r) (h2 : t.bs = s.bs) (h3 : t.look = s.look) (hp : ∀ b, (t.E b).prv = (s.E b).prv ∧ (t.E b).nxt = (s.E b).nxt) (hk : ∀ b, (t.E b).key = (s.E b).key) (hf : ∀ r, ∀ b ∈ L r, (t.E b).held = (s.E b).held) : Ref t L x :=
  ⟨fun r => (h.row r).other (h1 r) fun b _ => hp b, h.nd, h.dis, h.xo, fun r b hb => by rw [h2]; exact h.dom r b hb, fun e he => by rw [h2]; exact h.xdom e he, fun r b hb => by rw [hf r b hb]; exact h.flag r b hb, fun b hb => by rw [h3, hk]; exact h.keys b hb, fun k b hb => by rw [hk]; rw [h3] at hb; exact h.only k b hb⟩
theorem Ref.setVal {s : CS κ ν} {L : Bool → List Nat} {x : Option Nat} (h : Ref s L x) (b : Nat) (v : ν) : Ref (s.setVal b v) L x :=
  h.same (fun r => row_setE s _ _ r) rfl rfl (fun i => by rw [CS.setVal, E_setE]; split <;> simp_all) (fun i => by rw [CS.setVal, E_setE]; split <;> simp_all) (fun r i _ => by rw [CS.setVal, E_setE]; split <;> simp_all)
theorem Ref.setHeld {s : CS κ ν} {L : Bool → List Nat} {e : Nat} (h : Ref s L (some e)) (f : Bool) : Ref (s.setHeld e f) L (some e) :=
  h.same (fun r => row_setE s _ _ r) rfl rfl (fun i => by rw [CS.setHeld, E_setE]; split <;> simp_all) (fun i => by rw [CS.setHeld, E_setE]; split <;> simp_all) (fun r i hi => by rw [CS.setHeld, E_setE, if_neg (fun q : i = e => h.xo e rfl r (q ▸ hi))])
/-- A key is forgotten. -/
def CS.drop [DecidableEq κ] (s : CS κ ν) (k : κ) : CS κ ν := { s with look := fun q => if q = k then none else s.look q }
theorem Ref.drop [DecidableEq κ] {s : CS κ ν} {L : Bool → List Nat} {e : Nat} (h : Ref s L (some e)) : Ref (s.drop (s.E e).key) L none := by
  have he := h.keys e (Or.inr rfl)
  refine ⟨fun r => (h.row r).other (by cases r <;> rfl) fun b _ => ⟨rfl, rfl⟩, h.nd, h.dis, fun e he => (by cases he), h.dom, fun e he => (by cases he), h.flag, fun b hb => ?_, fun k b hb => ?_⟩
  · have hb := hb.resolve_right (by simp)
    have k1 := h.keys b (Or.inl hb)
    show (if _ = _ then none else s.look _) = _
    have hd : (s.E b).key ≠ (s.E e).key := fun q => by
      rw [← q, k1] at he
      cases he
      obtain ⟨r, hr⟩ := hb
      exact h.xo _ rfl r hr
    rw [show ((s.drop (s.E e).key).E b).key = (s.E b).key from rfl, if_neg hd]
    exact k1
  · change (if k = _ then none else s.look k) = some b at hb
    split at hb
    · cases hb
    · obtain ⟨a, c⟩ := h.only k b hb
      refine ⟨Or.inl (a.resolve_right fun q => ?_), c⟩
      cases q
      rename_i hne
      exact hne c.symm
/-- A new entry. -/
def CS.enter [DecidableEq κ] (s : CS κ ν) (b : Nat) (k : κ) (v : ν) : CS κ ν := { s with E := fun i => if i = b then ⟨k, v, false, none, none⟩ else s.E i, bs := b :: s.bs, look := fun q => if q = k then some b else s.look q }
theorem Ref.enter [DecidableEq κ] {s : CS κ ν} {L : Bool → List Nat} (h : Ref s L none) {b : Nat} (hb : b ∉ s.bs) {k : κ} (hk : s.look k = none) (v : ν) : Ref (s.enter b k v) L (some b) := by
  have hE : ∀ i, i ≠ b → (s.enter b k v).E i = s.E i := fun i hi => if_neg hi
  have hEb : (s.enter b k v).E b = ⟨k, v, false, none, none⟩ := if_pos rfl
  have hne : ∀ r i, i ∈ L r → i ≠ b := fun r i hi q => hb (q ▸ h.dom r i hi)
  refine ⟨fun r => (h.row r).other (by cases r <;> rfl) fun i hi => by rw [hE i (hne r i hi)]; exact ⟨rfl, rfl⟩, h.nd, h.dis, fun e he r hr => ?_, fun r i hi => List.mem_cons_of_mem _ (h.dom r i hi), fun e he => (by cases he; exact List.mem_cons_self), fun r i hi => by rw [hE i (hne r i hi)]; exact h.flag r i hi, fun i hi => ?_, fun q i hi => ?_⟩
  · cases he; exact hne r _ hr rfl
  · rcases hi with ⟨r, hr⟩ | q
    · rw [hE i (hne r i hr)]
      have := h.keys i (Or.inl ⟨r, hr⟩)
      show (if _ = k then some b else s.look _) = _
      rw [if_neg (fun q => by rw [q, hk] at this; cases this)]
      exact this
    · cases q
      rw [hEb]
      exact if_pos rfl
  · change (if q = k then some b else s.look q) = some i at hi
    split at hi
    · cases hi; rw [hEb]; rename_i e; exact ⟨Or.inr rfl, e.symm⟩
    · obtain ⟨a, c⟩ := h.only q i hi
      obtain ⟨r, hr⟩ := a.resolve_right (by simp)
      rw [hE i (hne r i hr)]
      exact ⟨Or.inl ⟨r, hr⟩, c⟩
end
end Go.Proofs.Ytbpamknebjdicaa
