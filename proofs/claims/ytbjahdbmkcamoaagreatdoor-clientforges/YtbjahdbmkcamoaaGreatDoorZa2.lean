import Derived.Test.YtbjahdbmkcamoaaGreatDoorKt
namespace Go.Proofs.YtbjahdbmkcamoaaGreatDoor
set_option linter.unusedVariables false
set_option linter.unusedSimpArgs false
open Go.RowKit

/-! Proofs and their bytes, without memory. -/
structure Pf where
  f : Bool
  vs : List Int
  bs : List Int
  ss : List (List Int)
structure PfOk (p : Pf) : Prop where
  bs : p.bs.length = 32
  ss : ∀ d ∈ p.ss, d.length = 32
def Bys (zs : List Int) : Prop := ∀ x ∈ zs, 0 ≤ x ∧ x < 256
theorem Bys.at {zs : List Int} (h : Bys zs) (j : Nat) (hj : j < zs.length) : 0 ≤ zs.getD j 0 ∧ zs.getD j 0 < 256 := h _ (by rw [List.getD_eq_getElem?_getD, List.getElem?_eq_getElem hj]; exact List.getElem_mem _)
theorem Bys.app {a b : List Int} (ha : Bys a) (hb : Bys b) : Bys (a ++ b) := fun x hx => (List.mem_append.1 hx).elim (ha x) (hb x)
theorem Bys.take {a : List Int} (h : Bys a) (n : Nat) : Bys (a.take n) := fun x hx => h x (List.mem_of_mem_take hx)
theorem Bys.drop {a : List Int} (h : Bys a) (n : Nat) : Bys (a.drop n) := fun x hx => h x (List.mem_of_mem_drop hx)
structure PfY (p : Pf) : Prop where
  vs : Bys p.vs
  bs : Bys p.bs
  ss : ∀ d ∈ p.ss, Bys d
def one8 (b : Int) : Nat := b.toNat % 2 + b.toNat / 2 % 2 + b.toNat / 4 % 2 + b.toNat / 8 % 2 + b.toNat / 16 % 2 + b.toNat / 32 % 2 + b.toNat / 64 % 2 + b.toNat / 128 % 2
theorem one8_le (b : Int) : one8 b ≤ 8 := by unfold one8; omega
def onesN : List Int → Nat
  | [] => 0
  | b :: r => one8 b + onesN r
theorem onesN_le : ∀ l : List Int, onesN l ≤ 8 * l.length
  | [] => by simp [onesN]
  | b :: r => by have := onesN_le r; have := one8_le b; simp [onesN]; omega
theorem onesN_app : ∀ a b : List Int, onesN (a ++ b) = onesN a + onesN b
  | [], b => by simp [onesN]
  | x :: a, b => by simp [onesN, onesN_app a b]; omega
theorem onesN_take (l : List Int) (k : Nat) (h : k < l.length) : onesN (l.take (k + 1)) = onesN (l.take k) + one8 (l.getD k 0) := by
  rw [List.take_succ_eq_append_getElem h, onesN_app, List.getD_eq_getElem?_getD, List.getElem?_eq_getElem h]; rfl
def ansP (p : Pf) : List Int := if p.f = true then [1, (p.vs.length : Int) % 256, (p.vs.length : Int) / 256] ++ p.vs else [0]
def encP (p : Pf) : List Int := ansP p ++ (p.bs ++ p.ss.flatten)
structure WellP (p : Pf) : Prop where
  emp : p.f = false → p.vs = []
  len : p.vs.length ≤ 128
  num : p.ss.length = onesN p.bs
def zB : List Int := List.replicate 32 0
def pf0 : Pf := ⟨false, [], zB, []⟩
theorem pf0_ok : PfOk pf0 := ⟨rfl, fun d h => by cases h⟩
theorem pf0_y : PfY pf0 := by
  refine ⟨?_, ?_, ?_⟩
  · intro x h; cases h
  · intro x h
    have := List.eq_of_mem_replicate (show x ∈ List.replicate 32 0 from h)
    omega
  · intro d h; cases h
def decA (t : List Int) : Option (Bool × List Int × List Int) :=
  match t with
  | [] => none
  | x :: r =>
    if x = 0 then some (false, [], r)
    else if x = 1 then
      match r with
      | a :: b :: q => if a + 256 * b ≤ 128 ∧ (a + 256 * b).toNat ≤ q.length then some (true, q.take (a + 256 * b).toNat, q.drop (a + 256 * b).toNat) else none
      | _ => none
    else none
def chunks : Nat → List Int → List (List Int)
  | 0, _ => []
  | n + 1, l => l.take 32 :: chunks n (l.drop 32)
def decB (r : List Int) : Option (List Int × List (List Int)) :=
  if r.length = 32 + 32 * onesN (r.take 32) then some (r.take 32, chunks (onesN (r.take 32)) (r.drop 32)) else none
def decP (t : List Int) : Option Pf := (decA t).bind fun x => (decB x.2.2).map fun y => ⟨x.1, x.2.1, y.1, y.2⟩
theorem chunks_len : ∀ (n : Nat) (l : List Int), (chunks n l).length = n
  | 0, _ => rfl
  | n + 1, l => by simp [chunks, chunks_len n]
theorem chunks_mem : ∀ (n : Nat) (l : List Int), 32 * n ≤ l.length → ∀ d ∈ chunks n l, d.length = 32
  | 0, _, _, d, h => by cases h
  | n + 1, l, hl, d, h => by
    simp only [chunks, List.mem_cons] at h
    rcases h with rfl | h
    · simp; omega
    · exact chunks_mem n (l.drop 32) (by simp; omega) d h
theorem chunks_bys : ∀ (n : Nat) (l : List Int), Bys l → ∀ d ∈ chunks n l, Bys d
  | 0, _, _, d, h => by cases h
  | n + 1, l, hl, d, h => by
    simp only [chunks, List.mem_cons] at h
    rcases h with rfl | h
    · exact hl.take 32
    · exact chunks_bys n _ (hl.drop 32) d h
theorem chunks_flat : ∀ (n : Nat) (l : List Int), l.length = 32 * n → (chunks n l).flatten = l
  | 0, l, h => by simp at h; subst h; rfl
  | n + 1, l, h => by
    simp only [chunks, List.flatten_cons]
    rw [chunks_flat n (l.drop 32) (by simp; omega), List.take_append_drop]
theorem flat_len32 : ∀ (ss : List (List Int)), (∀ d ∈ ss, d.length = 32) → ss.flatten.length = 32 * ss.length
  | [], _ => rfl
  | d :: ss, h => by
    rw [List.flatten_cons, List.length_append, flat_len32 ss (fun x hx => h x (.tail _ hx)), h d (.head _), List.length_cons]; omega
theorem flat_chunks : ∀ (ss : List (List Int)), (∀ d ∈ ss, d.length = 32) → chunks ss.length ss.flatten = ss
  | [], _ => rfl
  | d :: ss, h => by
    have hd := h d (.head _)
    simp only [List.length_cons, chunks, List.flatten_cons]
    rw [List.take_append_of_le_length (by omega), List.take_of_length_le (by omega), List.drop_append_of_le_length (by omega), List.drop_of_length_le (by omega), List.nil_append, flat_chunks ss (fun x hx => h x (.tail _ hx))]
theorem flat_bys {ss : List (List Int)} (h : ∀ d ∈ ss, Bys d) : Bys ss.flatten := fun x hx => by
  obtain ⟨d, hd, hx⟩ := List.mem_flatten.1 hx
  exact h d hd x hx
theorem chunks_take : ∀ (n : Nat) (l : List Int) (k : Nat), k < n → chunks (k + 1) l = chunks k l ++ [(l.drop (32 * k)).take 32]
  | n + 1, l, 0, _ => by simp [chunks]
  | n + 1, l, k + 1, h => by
    have := chunks_take n (l.drop 32) k (by omega)
    rw [chunks, this, chunks, List.drop_drop, List.cons_append, show 32 + 32 * k = 32 * (k + 1) by omega]
theorem decA_ans (p : Pf) (r : List Int) (h : WellP p) : decA (ansP p ++ r) = some (p.f, p.vs, r) := by
  unfold ansP
  cases hf : p.f with
  | false => rw [if_neg (by simp)]; simp [decA, h.emp hf]
  | true =>
    have hl := h.len
    rw [if_pos rfl]
    have e : (p.vs.length : Int) % 256 + 256 * ((p.vs.length : Int) / 256) = (p.vs.length : Int) := by omega
    simp only [List.cons_append, List.nil_append, decA]
    rw [if_neg (by decide), if_pos trivial, e, if_pos ⟨by omega, by simp⟩]
    simp
theorem dec_enc {p : Pf} (ok : PfOk p) (h : WellP p) : decP (encP p) = some p := by
  have hb := ok.bs
  have hs := flat_len32 p.ss ok.ss
  unfold decP encP
  rw [decA_ans p _ h]
  have ht : (p.bs ++ p.ss.flatten).take 32 = p.bs := by rw [List.take_append_of_le_length (by omega), List.take_of_length_le (by omega)]
  have hd : (p.bs ++ p.ss.flatten).drop 32 = p.ss.flatten := by rw [List.drop_append_of_le_length (by omega), List.drop_of_length_le (by omega), List.nil_append]
  simp only [Option.bind_some, decB]
  rw [ht, hd, ← h.num, if_pos (by rw [List.length_append, hs, hb]), flat_chunks _ ok.ss]
  rfl
theorem decB_some {r : List Int} {y : List Int × List (List Int)} (h : decB r = some y) : r.length = 32 + 32 * onesN (r.take 32) ∧ y = (r.take 32, chunks (onesN (r.take 32)) (r.drop 32)) := by
  unfold decB at h
  split at h
  · rename_i hl; exact ⟨hl, (Option.some.inj h).symm⟩
  · cases h
theorem decA_some {t : List Int} {x : Bool × List Int × List Int} (hy : Bys t) (h : decA t = some x) : (x.1 = false → x.2.1 = []) ∧ x.2.1.length ≤ 128 ∧ ansP ⟨x.1, x.2.1, [], []⟩ ++ x.2.2 = t := by
  cases t with
  | nil => simp [decA] at h
  | cons z r =>
    simp only [decA] at h
    split at h
    · rename_i h0; obtain rfl := Option.some.inj h; subst h0; exact ⟨fun _ => rfl, by simp, rfl⟩
    · split at h
      · rename_i h1
        subst h1
        match r, h with
        | [], h => cases h
        | [a], h => cases h
        | a :: b :: q, h =>
          dsimp only at h
          split at h
          · rename_i hc
            obtain rfl := Option.some.inj h
            have ha := hy a (by simp)
            have hb := hy b (by simp)
            have e : ((q.take (a + 256 * b).toNat).length : Int) = a + 256 * b := by rw [List.length_take]; omega
            refine ⟨(fun h => by cases h), by show (q.take (a + 256 * b).toNat).length ≤ 128; rw [List.length_take]; omega, ?_⟩
            simp only [ansP, if_true]
            rw [e, show (a + 256 * b) % 256 = a by omega, show (a + 256 * b) / 256 = b by omega]
            simp
          · cases h
      · cases h
theorem dec_some {t : List Int} {p : Pf} (hy : Bys t) (h : decP t = some p) : PfOk p ∧ PfY p ∧ WellP p ∧ encP p = t := by
  unfold decP at h
  cases hA : decA t with
  | none => rw [hA] at h; cases h
  | some x =>
    rw [hA, Option.bind_some] at h
    cases hB : decB x.2.2 with
    | none => rw [hB] at h; cases h
    | some y =>
      rw [hB] at h
      obtain rfl := Option.some.inj h
      obtain ⟨a1, a2, a3⟩ := decA_some hy hA
      obtain ⟨b1, rfl⟩ := decB_some hB
      have hr : Bys x.2.2 := fun z hz => hy z (by rw [← a3]; exact List.mem_append_right _ hz)
      have hv : Bys x.2.1 := by
        cases hf : x.1 with
        | false => rw [a1 hf]; intro z hz; cases hz
        | true =>
          intro z hz
          refine hy z ?_
          rw [← a3]
          refine List.mem_append_left _ ?_
          simp only [ansP, hf, if_true]
          exact List.mem_append_right _ hz
      refine ⟨⟨by show (x.2.2.take 32).length = 32; rw [List.length_take]; omega, ?_⟩, ⟨hv, hr.take 32, chunks_bys _ _ (hr.drop 32)⟩, ⟨a1, a2, chunks_len _ _⟩, ?_⟩
      · exact chunks_mem _ _ (by rw [List.length_drop]; omega)
      · show ansP _ ++ (x.2.2.take 32 ++ (chunks (onesN (x.2.2.take 32)) (x.2.2.drop 32)).flatten) = t
        rw [chunks_flat _ _ (by rw [List.length_drop]; omega), List.take_append_drop]
        exact a3
theorem decA_more {t : List Int} {x : Bool × List Int × List Int} (h : decA t = some x) (s : List Int) : decA (t ++ s) = some (x.1, x.2.1, x.2.2 ++ s) := by
  cases t with
  | nil => simp [decA] at h
  | cons z r =>
    simp only [decA] at h
    simp only [List.cons_append, decA]
    split at h
    · rename_i h0; obtain rfl := Option.some.inj h; rw [if_pos h0]
    · rename_i h0
      rw [if_neg h0]
      split at h
      · rename_i h1
        rw [if_pos h1]
        match r, h with
        | [], h => cases h
        | [a], h => cases h
        | a :: b :: q, h =>
          dsimp only at h
          split at h
          · rename_i hc
            obtain rfl := Option.some.inj h
            simp only [List.cons_append]
            rw [if_pos ⟨hc.1, by rw [List.length_append]; omega⟩, List.take_append_of_le_length hc.2, List.drop_append_of_le_length hc.2]
          · cases h
      · cases h
theorem dec_more {t s : List Int} {p : Pf} (h : decP t = some p) (hs : s ≠ []) : decP (t ++ s) = none := by
  unfold decP at h ⊢
  cases hA : decA t with
  | none => rw [hA] at h; cases h
  | some x =>
    rw [hA, Option.bind_some] at h
    cases hB : decB x.2.2 with
    | none => rw [hB] at h; cases h
    | some y =>
      obtain ⟨b1, _⟩ := decB_some hB
      rw [decA_more hA, Option.bind_some]
      have : decB (x.2.2 ++ s) = none := by
        unfold decB
        rw [List.take_append_of_le_length (by omega), if_neg]
        rw [List.length_append]
        have : s.length ≠ 0 := fun h => hs (List.eq_nil_of_length_eq_zero h)
        omega
      rw [this]; rfl
theorem dec_less {t : List Int} {p : Pf} (h : decP t = some p) (n : Nat) (hn : n < t.length) : decP (t.take n) = none := by
  cases hq : decP (t.take n) with
  | none => rfl
  | some q =>
    have := dec_more hq (s := t.drop n) (fun e => by have := congrArg List.length e; simp at this; omega)
    rw [List.take_append_drop, h] at this
    cases this
theorem dec_first (x : Int) (r : List Int) (h : 2 ≤ x) : decP (x :: r) = none := by
  unfold decP
  simp only [decA]
  rw [if_neg (by omega), if_neg (by omega)]
  rfl
theorem ansP_bys {p : Pf} (h : WellP p) (y : PfY p) : Bys (ansP p) := by
  have := h.len
  unfold ansP
  split
  · refine Bys.app ?_ y.vs
    intro x hx
    simp only [List.mem_cons, List.not_mem_nil, or_false] at hx
    rcases hx with rfl | rfl | rfl <;> omega
  · intro x hx; simp at hx; omega
theorem encP_bys {p : Pf} (h : WellP p) (y : PfY p) : Bys (encP p) := (ansP_bys h y).app (y.bs.app (flat_bys y.ss))
theorem ansP_len {p : Pf} (h : WellP p) : 1 ≤ (ansP p).length ∧ (ansP p).length ≤ 131 := by
  have := h.len
  unfold ansP
  split
  · simp; omega
  · simp
theorem encP_len {p : Pf} (ok : PfOk p) (h : WellP p) : 33 ≤ (encP p).length ∧ (encP p).length ≤ 163 + 32 * p.ss.length ∧ p.ss.length ≤ 256 := by
  have h1 := ansP_len h
  have h2 := flat_len32 p.ss ok.ss
  have h3 := ok.bs
  have h4 := onesN_le p.bs
  have h5 := h.num
  unfold encP
  rw [List.length_append, List.length_append, h2, h3]
  omega
/-- What Decode and Encode tell. -/
def decV (t : List Int) : Pf := (decP t).getD pf0
def decE (t : List Int) : Int := if (decP t).isSome then 0 else 120
instance (p : Pf) : Decidable (WellP p) := decidable_of_iff ((p.f = false → p.vs = []) ∧ p.vs.length ≤ 128 ∧ p.ss.length = onesN p.bs) ⟨fun ⟨a, b, c⟩ => ⟨a, b, c⟩, fun h => ⟨h.emp, h.len, h.num⟩⟩
def encL (p : Pf) : List Int := if WellP p then encP p else []
def encE (p : Pf) : Int := if WellP p then 0 else 120
end Go.Proofs.YtbjahdbmkcamoaaGreatDoor
