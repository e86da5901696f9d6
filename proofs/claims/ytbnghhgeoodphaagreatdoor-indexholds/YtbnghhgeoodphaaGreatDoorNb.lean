import Derived.Test.YtbnghhgeoodphaaGreatDoorNq
namespace Go.Proofs.YtbnghhgeoodphaaGreatDoor
set_option linter.unusedVariables false
set_option linter.unusedSimpArgs false
open Go.RowKit

/-! Numbers as bytes. -/
/-- The bytes of a number, the lowest first. -/
def num (v : Int) : Nat → List Int
  | 0 => []
  | n + 1 => v % 256 :: num (v / 256) n
theorem num_len (v : Int) (n : Nat) : (num v n).length = n := by
  induction n generalizing v with
  | zero => rfl
  | succ n ih => simp [num, ih]
theorem num_byts (v : Int) (n : Nat) : Byts (num v n) := by
  induction n generalizing v with
  | zero => intro x hx; simp [num] at hx
  | succ n ih =>
    intro x hx
    rcases List.mem_cons.1 hx with rfl | h
    · omega
    · exact ih _ x h
theorem num_snoc (v : Int) (hv : 0 ≤ v) (n : Nat) : num v (n + 1) = num v n ++ [v / 256 ^ n % 256] := by
  induction n generalizing v with
  | zero => simp [num]
  | succ n ih =>
    rw [num, ih (v / 256) (Int.ediv_nonneg hv (by decide)), num, List.cons_append, Int.ediv_ediv_of_nonneg (by decide), Int.pow_succ, Int.mul_comm]
theorem le_num (v : Nat) (n : Nat) (h : v < 256 ^ n) : le (num (v : Int) n) = v := by
  induction n generalizing v with
  | zero => simp [num, le]; omega
  | succ n ih =>
    have e : (v : Int) / 256 = ((v / 256 : Nat) : Int) := by omega
    rw [num, le, e, ih (v / 256) (by rw [Nat.pow_succ] at h; omega)]
    omega
theorem le_lt (l : List Int) (h : Byts l) : le l < 256 ^ l.length := by
  induction l with
  | nil => simp [le]
  | cons y l ih =>
    have h1 := h y (by simp)
    have h2 := ih (fun x hx => h x (by simp [hx]))
    rw [le, List.length_cons, Nat.pow_succ]
    omega
theorem le_snoc (l : List Int) (x : Int) : le (l ++ [x]) = le l + x.toNat * 256 ^ l.length := by
  induction l with
  | nil => simp [le]
  | cons y l ih => rw [List.cons_append, le, le, ih, List.length_cons, Nat.pow_succ]; rw [Nat.mul_add, Nat.mul_comm (256 ^ l.length) 256, Nat.mul_left_comm, Nat.add_assoc]

theorem rep_byts (n : Nat) : Byts (List.replicate n 0) := fun x hx => by rw [List.eq_of_mem_replicate hx]; decide
theorem byts_app {a b : List Int} (ha : Byts a) (hb : Byts b) : Byts (a ++ b) := fun x hx => by
  rcases List.mem_append.1 hx with h | h
  · exact ha x h
  · exact hb x h
def kindOk (k : Int) : Bool := decide (1 ≤ k) && decide (k ≤ 3)
def placeOk (p : Int) : Bool := decide (2 ≤ p) && decide (p < 4096)
/-- What Unpack answers. -/
def unpackF (p : Int) (r : List Int) : Int × List Int × Int :=
  if placeOk p = false then (0, [], 54) else if r.length ≠ 256 then (0, [], 53) else if feed ones r ≠ CR then (0, [], 52)
  else if kindOk (r.getD 0 0) = false then (0, [], 50) else if 246 < r.getD 1 0 then (0, [], 51)
  else if (le ((r.drop 2).take 4) : Int) ≠ p then (0, [], 54)
  else if (r.drop (6 + (r.getD 1 0).toNat)).take (246 - (r.getD 1 0).toNat) ≠ List.replicate (246 - (r.getD 1 0).toNat) 0 then (0, [], 53)
  else (r.getD 0 0, (r.drop 6).take (r.getD 1 0).toNat, 0)
end Go.Proofs.YtbnghhgeoodphaaGreatDoor
