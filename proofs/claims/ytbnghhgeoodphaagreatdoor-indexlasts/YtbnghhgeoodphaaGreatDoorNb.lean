import Derived.Test.YtbnghhgeoodphaaGreatDoorNq
namespace Go.Proofs.YtbnghhgeoodphaaGreatDoor
set_option maxRecDepth 100000
set_option maxHeartbeats 40000000
set_option linter.unusedVariables false
set_option linter.unusedSimpArgs false
open Go.RowKit
def num (v : Int) : Nat -> List Int
 | 0 => []
 | n + 1 => v % 256 :: num (v / 256) n
theorem num_len (v : Int) (n : Nat) : (num v n).length = n := by
 induction n generalizing v with
 | zero => rfl
 | succ n ih => simp [num, ih]
theorem num_byts (v : Int) (n : Nat) : Byts (num v n) := by
 induction n generalizing v with
 | zero => intro x hx; simp [num] at hx
 | succ n ih =>
   intro x hx
   rcases List.mem_cons.1 hx with rfl | h
   · omega
   · exact ih _ x h
theorem num_snoc (v : Int) (hv : 0 <= v) (n : Nat) : num v (n + 1) = num v n ++ [v / 256 ^ n % 256] := by
 induction n generalizing v with
 | zero => simp [num]
 | succ n ih =>
   rw [num, ih (v / 256) (Int.ediv_nonneg hv (by decide)), num, List.cons_append, Int.ediv_ediv_of_nonneg (by decide), Int.pow_succ, Int.mul_comm]
theorem le_num (v : Nat) (n : Nat) (h : v < 256 ^ n) : le (num (v : Int) n) = v := by
 induction n generalizing v with
 | zero => simp [num, le]; omega
 | succ n ih =>
   have e : (v : Int) / 256 = ((v / 256 : Nat) : Int) := by omega
   rw [num, le, e, ih (v / 256) (by rw [Nat.pow_succ] at h; omega)]
   omega
theorem le_lt (l : List Int) (h : Byts l) : le l < 256 ^ l.length := by
 induction l with
 | nil => simp [le]
 | cons y l ih =>
   have h1 := h y (by simp)
   have h2 := ih (fun x hx => h x (by simp [hx]))
   rw [le, List.length_cons, Nat.pow_succ]
   omega
theorem le_snoc (l : List Int) (x : Int) : le (l ++ [x]) = le l + x.toNat * 256 ^ l.length := by
 induction l with
 | nil => simp [le]
 | cons y l ih => rw [List.cons_append, le, le, ih, List.length_cons, Nat.pow_succ]; rw [Nat.mul_add, Nat.mul_comm (256 ^ l.length) 256, Nat.mul_left_comm, Nat.add_assoc]
def bodyP (k p : Int) (l : List Int) : List Int := [k, (l.length : Int)] ++ num p 4 ++ l ++ List.replicate (246 - l.length) 0
theorem bodyP_len (k p : Int) (l : List Int) (h : l.length <= 246) : (bodyP k p l).length = 252 := by simp [bodyP, num_len]; omega
theorem rep_byts (n : Nat) : Byts (List.replicate n 0) := fun x hx => by rw [List.eq_of_mem_replicate hx]; decide
theorem byts_app {a b : List Int} (ha : Byts a) (hb : Byts b) : Byts (a ++ b) := fun x hx => by
 rcases List.mem_append.1 hx with h | h
 · exact ha x h
 · exact hb x h
theorem bodyP_byts (k p : Int) (l : List Int) (hk : 0 <= k /\ k < 256) (h : l.length <= 246) (h8 : Byts l) : Byts (bodyP k p l) := by
 refine byts_app (byts_app (byts_app ?_ (num_byts _ _)) h8) (rep_byts _)
 intro x hx
 simp at hx
 omega
def pageP (k p : Int) (l : List Int) : List Int := sealF (bodyP k p l)
theorem pageP_len (k p : Int) (l : List Int) (h : l.length <= 246) : (pageP k p l).length = 256 := by rw [pageP, sealF_len, bodyP_len k p l h]
def kindOk (k : Int) : Bool := decide (1 <= k) && decide (k <= 3)
def placeOk (p : Int) : Bool := decide (2 <= p) && decide (p < 4096)
theorem kindOk_iff (k : Int) : kindOk k = true ↔ 1 <= k /\ k <= 3 := by simp [kindOk]
theorem placeOk_iff (p : Int) : placeOk p = true ↔ 2 <= p /\ p < 4096 := by simp [placeOk]
def unpackF (p : Int) (r : List Int) : Int × List Int × Int :=
 if placeOk p = false then (0, [], 54) else if r.length ≠ 256 then (0, [], 53) else if feed ones r ≠ CR then (0, [], 52)
 else if kindOk (r.getD 0 0) = false then (0, [], 50) else if 246 < r.getD 1 0 then (0, [], 51)
 else if (le ((r.drop 2).take 4) : Int) ≠ p then (0, [], 54)
 else if (r.drop (6 + (r.getD 1 0).toNat)).take (246 - (r.getD 1 0).toNat) ≠ List.replicate (246 - (r.getD 1 0).toNat) 0 then (0, [], 53)
 else (r.getD 0 0, (r.drop 6).take (r.getD 1 0).toNat, 0)
theorem pageP_byts (k p : Int) (l : List Int) (hk : 0 <= k /\ k < 256) (h : l.length <= 246) (h8 : Byts l) : Byts (pageP k p l) := sealF_byts (bodyP_byts k p l hk h h8)
theorem bodyP_parts (k p : Int) (l : List Int) (h : l.length <= 246) (s : List Int) (hs : s.length = 4) :
   (bodyP k p l ++ s).getD 0 0 = k /\ (bodyP k p l ++ s).getD 1 0 = (l.length : Int) /\ ((bodyP k p l ++ s).drop 2).take 4 = num p 4
   /\ ((bodyP k p l ++ s).drop (6 + l.length)).take (246 - l.length) = List.replicate (246 - l.length) 0 /\ ((bodyP k p l ++ s).drop 6).take l.length = l := by
 have h4 := num_len p 4
 refine ⟨by simp [bodyP], by simp [bodyP], ?_, ?_, ?_⟩
 · simp only [bodyP, List.append_assoc, List.cons_append, List.nil_append]
   rw [List.drop_succ_cons, List.drop_succ_cons, List.drop_zero, List.take_left' h4]
 · simp only [bodyP]
   rw [show (([k, (l.length : Int)] ++ num p 4 ++ l ++ List.replicate (246 - l.length) 0) ++ s) = (([k, (l.length : Int)] ++ num p 4 ++ l) ++ (List.replicate (246 - l.length) 0 ++ s)) by simp [List.append_assoc]]
   rw [List.drop_left' (by simp [h4]; omega), List.take_left' (by simp)]
 · simp only [bodyP]
   rw [show (([k, (l.length : Int)] ++ num p 4 ++ l ++ List.replicate (246 - l.length) 0) ++ s) = (([k, (l.length : Int)] ++ num p 4) ++ (l ++ (List.replicate (246 - l.length) 0 ++ s))) by simp [List.append_assoc]]
   rw [List.drop_left' (by simp [h4]), List.take_left' rfl]
theorem unpack_page (k p q : Int) (l : List Int) (hk : kindOk k = true) (hp : placeOk p = true) (h : l.length <= 246) (h8 : Byts l) :
   unpackF q (pageP k p l) = if q = p then (k, l, 0) else (0, [], 54) := by
 have hk' := (kindOk_iff k).1 hk
 have hp' := (placeOk_iff p).1 hp
 obtain ⟨a1, a2, a3, a4, a5⟩ := bodyP_parts k p l h _ (sbF_len (sumF (bodyP k p l)))
 have hC := seal_CR (bodyP k p l) (bodyP_byts k p l (by omega) h h8)
 have hlen := pageP_len k p l h
 have hle : (le (num p 4) : Int) = p := by
   obtain ⟨n, rfl⟩ := Int.eq_ofNat_of_zero_le (show 0 <= p by omega)
   rw [le_num n 4 (by omega)]
 unfold unpackF
 by_cases hq : placeOk q = true
 · rw [if_neg (by simp [hq]), if_neg (by simp [hlen])]
   unfold pageP sealF at *
   rw [if_neg (by simp [hC]), a1, a2, if_neg (by simp [hk]), if_neg (by omega), a3, hle, Int.toNat_natCast, a4, a5]
   by_cases e : q = p
   · subst e; simp
   · rw [if_pos (fun h => e h.symm), if_neg e]
 · have : placeOk q = false := by simpa using hq
   rw [if_pos this, if_neg (fun e => by rw [e, hp] at this; cases this)]
theorem unpack_sum (p : Int) (r : List Int) (hp : placeOk p = true) (h : r.length = 256) (hC : feed ones r ≠ CR) : unpackF p r = (0, [], 52) := by
 unfold unpackF
 rw [if_neg (by simp [hp]), if_neg (by simp [h]), if_pos hC]
end Go.Proofs.YtbnghhgeoodphaaGreatDoor
