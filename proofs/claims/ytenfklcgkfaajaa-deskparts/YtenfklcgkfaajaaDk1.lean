import Derived.Test.YtenfklcgkfaajaaKt
namespace Go.Proofs.Ytenfklcgkfaajaa
set_option linter.unusedVariables false
set_option linter.unusedSimpArgs false
open Go.RowKit

/-! Numbers as bytes, requests and frames, without memory. -/
def Bys (zs : List Int) : Prop := ∀ x ∈ zs, 0 ≤ x ∧ x < 256
theorem Bys.take {zs : List Int} (h : Bys zs) (n : Nat) : Bys (zs.take n) := fun x hx => h x (List.mem_of_mem_take hx)
theorem Bys.drop {zs : List Int} (h : Bys zs) (n : Nat) : Bys (zs.drop n) := fun x hx => h x (List.mem_of_mem_drop hx)
theorem Bys.append {xs ys : List Int} (h : Bys xs) (k : Bys ys) : Bys (xs ++ ys) := fun x hx => by
  rcases List.mem_append.1 hx with a | a
  · exact h x a
  · exact k x a
theorem Bys.nil : Bys [] := fun x hx => by cases hx
theorem Bys.cons {x : Int} {r : List Int} (a : 0 ≤ x ∧ x < 256) (h : Bys r) : Bys (x :: r) := fun y hy => by
  rcases List.mem_cons.1 hy with rfl | e
  · exact a
  · exact h y e
theorem Bys.head {x : Int} {r : List Int} (h : Bys (x :: r)) : 0 ≤ x ∧ x < 256 := h x (by simp)
theorem Bys.tail {x : Int} {r : List Int} (h : Bys (x :: r)) : Bys r := fun y hy => h y (by simp [hy])
theorem Bys.at {zs : List Int} (h : Bys zs) (j : Nat) (hj : j < zs.length) : 0 ≤ zs.getD j 0 ∧ zs.getD j 0 < 256 := by
  rw [List.getD_eq_getElem?_getD, List.getElem?_eq_getElem hj]; exact h _ (List.getElem_mem _)
theorem Bys.zeros (n : Nat) : Bys (List.replicate n 0) := fun x hx => by
  rw [(List.mem_replicate.1 hx).2]; omega
def leN : List Int → Int
  | [] => 0
  | x :: r => x + 256 * leN r
def lowN (x : Int) : Nat → List Int
  | 0 => []
  | n + 1 => x % 256 :: lowN (x / 256) n
theorem lowN_len : ∀ (n : Nat) (x : Int), (lowN x n).length = n
  | 0, _ => rfl
  | n + 1, x => by simp [lowN, lowN_len n]
theorem lowN_bys : ∀ (n : Nat) (x : Int), Bys (lowN x n)
  | 0, _ => Bys.nil
  | n + 1, x => Bys.cons (by omega) (lowN_bys n _)
theorem leN_snoc : ∀ (l : List Int) (x : Int), leN (l ++ [x]) = leN l + 256 ^ l.length * x
  | [], x => by simp [leN]
  | y :: l, x => by
    simp only [List.cons_append, leN, leN_snoc l x, List.length_cons, Int.pow_succ, Int.mul_add, Int.mul_assoc]
    have : (256 : Int) * (256 ^ l.length * x) = 256 ^ l.length * (256 * x) := by rw [Int.mul_left_comm]
    omega
theorem leN_bd : ∀ (l : List Int), Bys l → 0 ≤ leN l ∧ leN l < 256 ^ l.length
  | [], _ => by simp [leN]
  | y :: l, h => by
    have a := h.head
    have b := leN_bd l h.tail
    simp only [leN, List.length_cons, Int.pow_succ]
    omega
theorem low_le : ∀ (l : List Int), Bys l → lowN (leN l) l.length = l
  | [], _ => rfl
  | y :: l, h => by
    have a := h.head
    have b := low_le l h.tail
    simp only [leN, List.length_cons, lowN]
    rw [show (y + 256 * leN l) % 256 = y by omega, show (y + 256 * leN l) / 256 = leN l by omega, b]
theorem lowN_congr : ∀ (n : Nat) (x y : Int), x % 256 ^ n = y % 256 ^ n → lowN x n = lowN y n
  | 0, _, _, _ => rfl
  | n + 1, x, y, h => by
    rw [Int.pow_succ] at h
    have e1 : x % 256 = y % 256 := by
      have a := Int.emod_emod_of_dvd x (show (256 : Int) ∣ 256 ^ n * 256 from Int.dvd_mul_left _ _)
      have b := Int.emod_emod_of_dvd y (show (256 : Int) ∣ 256 ^ n * 256 from Int.dvd_mul_left _ _)
      rw [← a, ← b, h]
    have e2 : (x / 256) % 256 ^ n = (y / 256) % 256 ^ n := by
      have hx : ∀ z : Int, (z / 256) % 256 ^ n = (z % (256 ^ n * 256)) / 256 := fun z => by
        rw [Int.mul_comm (256 ^ n), Int.emod_def z, Int.emod_def (z / 256), ← Int.ediv_ediv_of_nonneg (show (0 : Int) ≤ 256 by omega), Int.mul_assoc]
        generalize (256 : Int) ^ n * (z / 256 / 256 ^ n) = u
        omega
      rw [hx, hx, h]
    simp only [lowN]
    rw [e1, lowN_congr n _ _ e2]
theorem lowN_get : ∀ (n : Nat) (x : Int) (i : Nat), i < n → (lowN x n).getD i 0 = (x / 256 ^ i) % 256
  | 0, _, _, h => by omega
  | n + 1, x, 0, _ => by simp [lowN]
  | n + 1, x, i + 1, h => by
    have e := lowN_get n (x / 256) i (by omega)
    simp only [lowN, List.getD_cons_succ, e]
    rw [Int.pow_succ, Int.mul_comm, ← Int.ediv_ediv_of_nonneg (by omega)]
theorem leN_low : ∀ (n : Nat) (x : Int), leN (lowN x n) = x % 256 ^ n
  | 0, x => by simp [lowN, leN]
  | n + 1, x => by
    have e := leN_low n (x / 256)
    simp only [lowN, leN, e]
    have h2 : x % (256 * 256 ^ n) = x - 256 * (256 ^ n * (x / 256 / 256 ^ n)) := by
      rw [Int.emod_def x (256 * 256 ^ n), ← Int.ediv_ediv_of_nonneg (show (0 : Int) ≤ 256 by omega), Int.mul_assoc]
    rw [Int.pow_succ, Int.mul_comm _ (256 : Int), h2, Int.emod_def (x / 256)]
    generalize (256 : Int) ^ n * (x / 256 / 256 ^ n) = z
    omega
def w64 (x : Int) : Int := IntKind.i64.wrap x
theorem w64_mod (x : Int) : w64 x % 18446744073709551616 = x % 18446744073709551616 := by
  unfold w64; rw [IntKind.wrap_i64]; omega
theorem w64_id (x : Int) (h : -9223372036854775808 ≤ x) (h2 : x ≤ 9223372036854775807) : w64 x = x := wrap_i64_id x h h2
theorem w64_bd (x : Int) : -9223372036854775808 ≤ w64 x ∧ w64 x ≤ 9223372036854775807 := by
  unfold w64; rw [IntKind.wrap_i64]; omega
theorem low_w64 (n : Nat) (hn : n ≤ 8) (x : Int) : lowN (w64 x) n = lowN x n := by
  apply lowN_congr
  have hd : (256 : Int) ^ n ∣ 18446744073709551616 := ⟨256 ^ (8 - n), by rw [← Int.pow_add, show n + (8 - n) = 8 by omega]; decide⟩
  have a := Int.emod_emod_of_dvd (w64 x) hd
  have b := Int.emod_emod_of_dvd x hd
  rw [← a, ← b, w64_mod]
theorem w64_low (x : Int) (h : -9223372036854775808 ≤ x) (h2 : x ≤ 9223372036854775807) : w64 (leN (lowN x 8)) = x := by
  rw [leN_low]; unfold w64; rw [IntKind.wrap_i64]; omega
theorem pw256 (n : Nat) : ((256 ^ n : Nat) : Int) = (256 : Int) ^ n := Int.natCast_pow 256 n
theorem leN_small {l : List Int} (h : Bys l) (n : Nat) (hl : l.length ≤ n) (hn : n ≤ 7) : 0 ≤ leN l ∧ leN l < 256 ^ n ∧ w64 (leN l) = leN l := by
  have b := leN_bd l h
  have c : (256 : Int) ^ l.length ≤ 256 ^ n := by rw [← pw256, ← pw256]; exact Int.ofNat_le.2 (Nat.pow_le_pow_right (show 256 > 0 by omega) hl)
  have d : (256 : Int) ^ n ≤ 256 ^ 7 := by rw [← pw256, ← pw256]; exact Int.ofNat_le.2 (Nat.pow_le_pow_right (show 256 > 0 by omega) hn)
  exact ⟨b.1, by omega, w64_id _ (by omega) (by omega)⟩

/-- A request without memory. -/
structure Rq where
  op : Int
  ver : Int
  oth : Int
  lim : Int
  key : List Int
  high : List Int
  batch : List Int
structure Sh where
  key : Bool
  high : Bool
  ver : Bool
  oth : Bool
  lim : Bool
  batch : Bool
def sh0 : Sh := ⟨false, false, false, false, false, false⟩
def shO (op : Int) : Sh :=
  if op = 1 then ⟨false, false, false, false, false, true⟩
  else if op = 2 ∨ op = 4 then ⟨true, false, true, false, false, false⟩
  else if op = 3 then ⟨false, false, true, false, false, false⟩
  else if op = 5 then ⟨true, true, true, false, false, false⟩
  else if op = 6 then ⟨true, true, true, false, true, false⟩
  else if op = 7 then ⟨false, false, true, true, false, false⟩
  else sh0
def knO (op : Int) : Bool := decide (1 ≤ op ∧ op ≤ 9)
def opt {α : Type} (c : Bool) (l : List α) : List α := if c then l else []
def encB (s : Sh) (q : Rq) : List Int := [q.op] ++ opt s.key q.key ++ opt s.high q.high ++ opt s.ver (lowN q.ver 8) ++ opt s.oth (lowN q.oth 8) ++ opt s.lim (lowN q.lim 4) ++ opt s.batch q.batch
def fitB (s : Sh) (q : Rq) : Bool := !(s.key && decide (q.key.length ≠ 32)) && !(s.high && decide (q.high.length ≠ 32)) && !(s.lim && !decide (0 ≤ q.lim ∧ q.lim < 4294967296)) && !(s.batch && decide (11999 < q.batch.length))
def encP (q : Rq) : Option (List Int) := if knO q.op && fitB (shO q.op) q then some (encB (shO q.op) q) else none
/-- A reader: what is left, and whether something was wrong. -/
structure Rd where
  rest : List Int
  wrong : Bool
def tkV (R : Rd) (n : Nat) : List Int := if n ≤ R.rest.length then R.rest.take n else List.replicate n 0
def tkS (R : Rd) (n : Nat) : Rd := if n ≤ R.rest.length then ⟨R.rest.drop n, R.wrong⟩ else ⟨R.rest, true⟩
def nmV (R : Rd) (n : Nat) : Int := w64 (leN (tkV R n))
theorem tkV_len (R : Rd) (n : Nat) : (tkV R n).length = n := by
  unfold tkV; split
  · simp; omega
  · simp
theorem tkV_bys {R : Rd} (h : Bys R.rest) (n : Nat) : Bys (tkV R n) := by
  unfold tkV; split
  · exact h.take n
  · exact Bys.zeros n
theorem tkS_bys {R : Rd} (h : Bys R.rest) (n : Nat) : Bys (tkS R n).rest := by
  unfold tkS; split
  · exact h.drop n
  · exact h
def ifV (c : Bool) (R : Rd) (n : Nat) : List Int := if c then tkV R n else []
def ifN (c : Bool) (R : Rd) (n : Nat) : Int := if c then nmV R n else 0
def ifS (c : Bool) (R : Rd) (n : Nat) : Rd := if c then tkS R n else R
def rdQ (raw : List Int) : Rq × Rd :=
  let R0 : Rd := ⟨raw, false⟩
  let op := nmV R0 1
  let s := shO op
  let R1 := tkS R0 1
  let R2 := ifS s.key R1 32
  let R3 := ifS s.high R2 32
  let R4 := ifS s.ver R3 8
  let R5 := ifS s.oth R4 8
  let R6 := ifS s.lim R5 4
  let R7 := ifS s.batch R6 R6.rest.length
  (⟨op, ifN s.ver R3 8, ifN s.oth R4 8, ifN s.lim R5 4, ifV s.key R1 32, ifV s.high R2 32, ifV s.batch R6 R6.rest.length⟩, R7)
def decP (raw : List Int) : Option Rq :=
  if 12000 < raw.length then none else if knO (rdQ raw).1.op && !(rdQ raw).2.wrong && (rdQ raw).2.rest.isEmpty then some (rdQ raw).1 else none
def cutL (b : List Int) (a n : Nat) : List Int := (b.drop a).take n
def hiL (b : List Int) (a n : Nat) : Int := w64 (leN (cutL b a n))
def prt (op : Int) : Int := if op = 1 then -1 else if op = 2 ∨ op = 4 then 40 else if op = 3 then 8 else if op = 5 then 72 else if op = 6 then 76 else if op = 7 then 16 else if op = 8 ∨ op = 9 then 0 else -2
/-- What the document makes of a frame whose length is right. -/
def askQ (b : List Int) : Rq :=
  let op := b.getD 0 0
  if op = 1 then ⟨op, 0, 0, 0, [], [], cutL b 1 (b.length - 1)⟩
  else if op = 2 ∨ op = 4 then ⟨op, hiL b 33 8, 0, 0, cutL b 1 32, [], []⟩
  else if op = 3 then ⟨op, hiL b 1 8, 0, 0, [], [], []⟩
  else if op = 5 then ⟨op, hiL b 65 8, 0, 0, cutL b 1 32, cutL b 33 32, []⟩
  else if op = 6 then ⟨op, hiL b 65 8, 0, hiL b 73 4, cutL b 1 32, cutL b 33 32, []⟩
  else if op = 7 then ⟨op, hiL b 1 8, hiL b 9 8, 0, [], [], []⟩
  else ⟨op, 0, 0, 0, [], [], []⟩
def askOk (b : List Int) : Bool := decide (0 < b.length ∧ b.length ≤ 12000 ∧ prt (b.getD 0 0) ≠ -2 ∧ (0 ≤ prt (b.getD 0 0) → (b.length : Int) = prt (b.getD 0 0) + 1))
def askP (b : List Int) : Option Rq := if askOk b then some (askQ b) else none
end Go.Proofs.Ytenfklcgkfaajaa
