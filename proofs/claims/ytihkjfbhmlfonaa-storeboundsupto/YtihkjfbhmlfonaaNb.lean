import Derived.Test.YtihkjfbhmlfonaaNq
namespace Go.Proofs.Ytihkjfbhmlfonaa
set_option linter.unusedVariables false
set_option linter.unusedSimpArgs false
open Go.RowKit

/-! Numbers as bytes. -/
/-- The bytes of a number, the lowest first. -/
def num (v : Int) : Nat → List Int
  | 0 => []
  | n + 1 => v % 256 :: num (v / 256) n
theorem num_len (v : Int) (n : Nat) : (num v n).length = n := by
  induction n generalizing v with
  | zero => rfl
  | succ n ih => simp [num, ih]
theorem num_byts (v : Int) (n : Nat) : Byts (num v n) := by
  induction n generalizing v with
  | zero => intro x hx; simp [num] at hx
  | succ n ih =>
    intro x hx
    rcases List.mem_cons.1 hx with rfl | h
    · omega
    · exact ih _ x h
theorem num_snoc (v : Int) (hv : 0 ≤ v) (n : Nat) : num v (n + 1) = num v n ++ [v / 256 ^ n % 256] := by
  induction n generalizing v with
  | zero => simp [num]
  | succ n ih =>
    rw [num, ih (v / 256) (Int.ediv_nonneg hv (by decide)), num, List.cons_append, Int.ediv_ediv_of_nonneg (by decide), Int.pow_succ, Int.mul_comm]
theorem le_num (v : Nat) (n : Nat) (h : v < 256 ^ n) : le (num (v : Int) n) = v := by
  induction n generalizing v with
  | zero => simp [num, le]; omega
  | succ n ih =>
    have e : (v : Int) / 256 = ((v / 256 : Nat) : Int) := by omega
    rw [num, le, e, ih (v / 256) (by rw [Nat.pow_succ] at h; omega)]
    omega
theorem le_lt (l : List Int) (h : Byts l) : le l < 256 ^ l.length := by
  induction l with
  | nil => simp [le]
  | cons y l ih =>
    have h1 := h y (by simp)
    have h2 := ih (fun x hx => h x (by simp [hx]))
    rw [le, List.length_cons, Nat.pow_succ]
    omega
theorem num_le (l : List Int) (h : Byts l) : num (le l : Int) l.length = l := by
  induction l with
  | nil => rfl
  | cons y l ih =>
    have h1 := h y (by simp)
    have h2 := ih (fun x hx => h x (by simp [hx]))
    rw [le, List.length_cons, num]
    have e1 : ((y.toNat + 256 * le l : Nat) : Int) % 256 = y := by omega
    have e2 : ((y.toNat + 256 * le l : Nat) : Int) / 256 = (le l : Int) := by omega
    rw [e1, e2, h2]
theorem le_snoc (l : List Int) (x : Int) : le (l ++ [x]) = le l + x.toNat * 256 ^ l.length := by
  induction l with
  | nil => simp [le]
  | cons y l ih => rw [List.cons_append, le, le, ih, List.length_cons, Nat.pow_succ]; rw [Nat.mul_add, Nat.mul_comm (256 ^ l.length) 256, Nat.mul_left_comm, Nat.add_assoc]

/-! A page. -/
def bodyP (k p : Int) (l : List Int) : List Int := [k, (l.length : Int)] ++ num p 4 ++ l ++ List.replicate (246 - l.length) 0
theorem bodyP_len (k p : Int) (l : List Int) (h : l.length ≤ 246) : (bodyP k p l).length = 252 := by simp [bodyP, num_len]; omega
theorem rep_byts (n : Nat) : Byts (List.replicate n 0) := fun x hx => by rw [List.eq_of_mem_replicate hx]; decide
theorem byts_app {a b : List Int} (ha : Byts a) (hb : Byts b) : Byts (a ++ b) := fun x hx => by
  rcases List.mem_append.1 hx with h | h
  · exact ha x h
  · exact hb x h
theorem bodyP_byts (k p : Int) (l : List Int) (hk : 0 ≤ k ∧ k < 256) (h : l.length ≤ 246) (h8 : Byts l) : Byts (bodyP k p l) := by
  refine byts_app (byts_app (byts_app ?_ (num_byts _ _)) h8) (rep_byts _)
  intro x hx
  simp at hx
  omega
def pageP (k p : Int) (l : List Int) : List Int := sealF (bodyP k p l)
theorem pageP_len (k p : Int) (l : List Int) (h : l.length ≤ 246) : (pageP k p l).length = 256 := by rw [pageP, sealF_len, bodyP_len k p l h]
def kindOk (k : Int) : Bool := decide (1 ≤ k) && decide (k ≤ 3)
def placeOk (p : Int) : Bool := decide (2 ≤ p) && decide (p < 4096)
theorem kindOk_iff (k : Int) : kindOk k = true ↔ 1 ≤ k ∧ k ≤ 3 := by simp [kindOk]
theorem placeOk_iff (p : Int) : placeOk p = true ↔ 2 ≤ p ∧ p < 4096 := by simp [placeOk]
/-- What Pack answers. -/
def packF (k p : Int) (l : List Int) : List Int × Int :=
  if kindOk k = false then ([], 50) else if placeOk p = false then ([], 54) else if 246 < l.length then ([], 51) else (pageP k p l, 0)
/-- What Unpack answers. -/
def unpackF (p : Int) (r : List Int) : Int × List Int × Int :=
  if placeOk p = false then (0, [], 54) else if r.length ≠ 256 then (0, [], 53) else if feed ones r ≠ CR then (0, [], 52)
  else if kindOk (r.getD 0 0) = false then (0, [], 50) else if 246 < r.getD 1 0 then (0, [], 51)
  else if (le ((r.drop 2).take 4) : Int) ≠ p then (0, [], 54)
  else if (r.drop (6 + (r.getD 1 0).toNat)).take (246 - (r.getD 1 0).toNat) ≠ List.replicate (246 - (r.getD 1 0).toNat) 0 then (0, [], 53)
  else (r.getD 0 0, (r.drop 6).take (r.getD 1 0).toNat, 0)
theorem pageP_byts (k p : Int) (l : List Int) (hk : 0 ≤ k ∧ k < 256) (h : l.length ≤ 246) (h8 : Byts l) : Byts (pageP k p l) := sealF_byts (bodyP_byts k p l hk h h8)
theorem bodyP_parts (k p : Int) (l : List Int) (h : l.length ≤ 246) (s : List Int) (hs : s.length = 4) :
    (bodyP k p l ++ s).getD 0 0 = k ∧ (bodyP k p l ++ s).getD 1 0 = (l.length : Int) ∧ ((bodyP k p l ++ s).drop 2).take 4 = num p 4
    ∧ ((bodyP k p l ++ s).drop (6 + l.length)).take (246 - l.length) = List.replicate (246 - l.length) 0 ∧ ((bodyP k p l ++ s).drop 6).take l.length = l := by
  have h4 := num_len p 4
  refine ⟨by simp [bodyP], by simp [bodyP], ?_, ?_, ?_⟩
  · simp only [bodyP, List.append_assoc, List.cons_append, List.nil_append]
    rw [List.drop_succ_cons, List.drop_succ_cons, List.drop_zero, List.take_left' h4]
  · simp only [bodyP]
    rw [show (([k, (l.length : Int)] ++ num p 4 ++ l ++ List.replicate (246 - l.length) 0) ++ s) = (([k, (l.length : Int)] ++ num p 4 ++ l) ++ (List.replicate (246 - l.length) 0 ++ s)) by simp [List.append_assoc]]
    rw [List.drop_left' (by simp [h4]; omega), List.take_left' (by simp)]
  · simp only [bodyP]
    rw [show (([k, (l.length : Int)] ++ num p 4 ++ l ++ List.replicate (246 - l.length) 0) ++ s) = (([k, (l.length : Int)] ++ num p 4) ++ (l ++ (List.replicate (246 - l.length) 0 ++ s))) by simp [List.append_assoc]]
    rw [List.drop_left' (by simp [h4]), List.take_left' rfl]
theorem unpack_page (k p q : Int) (l : List Int) (hk : kindOk k = true) (hp : placeOk p = true) (h : l.length ≤ 246) (h8 : Byts l) :
    unpackF q (pageP k p l) = if q = p then (k, l, 0) else (0, [], 54) := by
  have hk' := (kindOk_iff k).1 hk
  have hp' := (placeOk_iff p).1 hp
  obtain ⟨a1, a2, a3, a4, a5⟩ := bodyP_parts k p l h _ (sbF_len (sumF (bodyP k p l)))
  have hC := seal_CR (bodyP k p l) (bodyP_byts k p l (by omega) h h8)
  have hlen := pageP_len k p l h
  have hle : (le (num p 4) : Int) = p := by
    obtain ⟨n, rfl⟩ := Int.eq_ofNat_of_zero_le (show 0 ≤ p by omega)
    rw [le_num n 4 (by omega)]
  unfold unpackF
  by_cases hq : placeOk q = true
  · rw [if_neg (by simp [hq]), if_neg (by simp [hlen])]
    unfold pageP sealF at *
    rw [if_neg (by simp [hC]), a1, a2, if_neg (by simp [hk]), if_neg (by omega), a3, hle, Int.toNat_natCast, a4, a5]
    by_cases e : q = p
    · subst e; simp
    · rw [if_pos (fun h => e h.symm), if_neg e]
  · have : placeOk q = false := by simpa using hq
    rw [if_pos this, if_neg (fun e => by rw [e, hp] at this; cases this)]
theorem splitP (r : List Int) (h : r.length = 256) : ∃ k n a b s, r = [k, n] ++ a ++ b ++ s ∧ a.length = 4 ∧ b.length = 246 ∧ s.length = 4 := by
  match r, h with
  | k :: n :: t, h =>
    refine ⟨k, n, t.take 4, (t.drop 4).take 246, t.drop 250, ?_, ?_, ?_, ?_⟩
    · simp only [List.cons_append, List.nil_append, List.cons.injEq, true_and, List.append_assoc]
      rw [show t.drop 250 = (t.drop 4).drop 246 by rw [List.drop_drop], List.take_append_drop, List.take_append_drop]
    · simp at h ⊢; omega
    · simp at h ⊢; omega
    · simp at h ⊢; omega
/-- What Unpack takes is what Pack lays. -/
theorem pack_unpack (p : Int) (r : List Int) (h8 : Byts r) (hE : (unpackF p r).2.2 = 0) : packF (unpackF p r).1 p (unpackF p r).2.1 = (r, 0) := by
  unfold unpackF at *
  split at hE <;> try (simp at hE; done)
  rename_i g1
  split at hE <;> try (simp at hE; done)
  rename_i g2
  split at hE <;> try (simp at hE; done)
  rename_i g3
  split at hE <;> try (simp at hE; done)
  rename_i g4
  split at hE <;> try (simp at hE; done)
  rename_i g5
  split at hE <;> try (simp at hE; done)
  rename_i g6
  split at hE <;> try (simp at hE; done)
  rename_i g7
  rw [if_neg g1, if_neg g2, if_neg g3, if_neg g4, if_neg g5, if_neg g6, if_neg g7]
  clear hE
  have h256 : r.length = 256 := by omega
  obtain ⟨k, n, a, b, s, rfl, ha, hb, hs⟩ := splitP r h256
  have hn : 0 ≤ n ∧ n < 256 := h8 n (by simp)
  have hk := h8 k (by simp)
  have e0 : ([k, n] ++ a ++ b ++ s).getD 0 0 = k := by simp
  have e1 : ([k, n] ++ a ++ b ++ s).getD 1 0 = n := by simp
  rw [e0] at g4 ⊢
  rw [e1] at g5 g7 ⊢
  have hnl : n.toNat ≤ 246 := by omega
  have e2 : (([k, n] ++ a ++ b ++ s).drop 2).take 4 = a := by
    simp only [List.append_assoc, List.cons_append, List.nil_append]
    rw [List.drop_succ_cons, List.drop_succ_cons, List.drop_zero, List.take_left' ha]
  have hd6 : ([k, n] ++ a ++ b ++ s).drop 6 = b ++ s := by
    rw [show ([k, n] ++ a ++ b ++ s) = ([k, n] ++ a) ++ (b ++ s) by simp [List.append_assoc], List.drop_left' (by simp [ha])]
  have e3 : (([k, n] ++ a ++ b ++ s).drop 6).take n.toNat = b.take n.toNat := by
    rw [hd6, List.take_append_of_le_length (by omega)]
  have e4 : (([k, n] ++ a ++ b ++ s).drop (6 + n.toNat)).take (246 - n.toNat) = b.drop n.toNat := by
    rw [← List.drop_drop, hd6, List.drop_append_of_le_length (by omega), List.take_left' (by simp [hb])]
  rw [e2] at g6
  rw [e4] at g7
  rw [e3]
  have g6 : (le a : Int) = p := by omega
  have g7 : b.drop n.toNat = List.replicate (246 - n.toNat) 0 := by simpa using g7
  have g4 : kindOk k = true := by simpa using g4
  have g1 : placeOk p = true := by simpa using g1
  have g3 : feed ones ([k, n] ++ a ++ b ++ s) = CR := by simpa using g3
  have hbl : (b.take n.toNat).length = n.toNat := by simp [hb]; omega
  have hbody : bodyP k p (b.take n.toNat) = [k, n] ++ a ++ b := by
    have ha8 : Byts a := fun x hx => h8 x (by simp [hx])
    have hnum := num_le a ha8
    rw [ha, g6] at hnum
    rw [bodyP, hbl, hnum, ← g7, List.append_assoc _ (b.take n.toNat), List.take_append_drop, Int.toNat_of_nonneg hn.1]
  have hb8 : Byts ([k, n] ++ a ++ b) := fun x hx => h8 x (List.mem_append_left _ hx)
  have hD := whole_D ([k, n] ++ a ++ b) s h8 hs
  rw [g3] at hD
  have hsum : sbF (sumF ([k, n] ++ a ++ b)) = s := by simpa using hD
  show packF k p (b.take n.toNat) = _
  unfold packF
  rw [if_neg (by simp [g4]), if_neg (by simp [g1]), if_neg (by omega), pageP, sealF, hbody, hsum]
theorem unpack_bad (p : Int) (r : List Int) (hE : (unpackF p r).2.2 ≠ 0) : (unpackF p r).1 = 0 ∧ (unpackF p r).2.1 = [] := by
  unfold unpackF at *
  repeat' split
  all_goals first | exact ⟨rfl, rfl⟩ | skip
  rename_i g1 g2 g3 g4 g5 g6 g7
  rw [if_neg g1, if_neg g2, if_neg g3, if_neg g4, if_neg g5, if_neg g6, if_neg g7] at hE
  exact absurd rfl hE
theorem unpack_sum (p : Int) (r : List Int) (hp : placeOk p = true) (h : r.length = 256) (hC : feed ones r ≠ CR) : unpackF p r = (0, [], 52) := by
  unfold unpackF
  rw [if_neg (by simp [hp]), if_neg (by simp [h]), if_pos hC]
end Go.Proofs.Ytihkjfbhmlfonaa
