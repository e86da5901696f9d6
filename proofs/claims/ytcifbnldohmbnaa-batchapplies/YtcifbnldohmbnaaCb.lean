import Derived.Test.YtcifbnldohmbnaaCa
namespace Go.Proofs.Ytcifbnldohmbnaa
set_option linter.unusedVariables false
set_option linter.unusedSimpArgs false

/-! The raw form. -/
def num2 (n : Nat) : List Int := [((n % 256 : Nat) : Int), ((n / 256 : Nat) : Int)]
def lay1 (c : Chg) : List Int := if c.del then 2 :: c.key else 1 :: (c.key ++ (num2 c.val.length ++ c.val))
def layC (cs : List Chg) : List Int := num2 cs.length ++ (cs.map lay1).flatten
structure One where
  e : Int
  c : Chg
  n : Nat
def one (z : List Int) : One :=
  if z.length < 33 ∨ (z.getD 0 0 ≠ 1 ∧ z.getD 0 0 ≠ 2) then ⟨30, ⟨[], false, []⟩, 0⟩
  else if z.getD 0 0 = 2 then ⟨0, ⟨(z.drop 1).take 32, true, []⟩, 33⟩
  else if z.length < 35 then ⟨30, ⟨[], false, []⟩, 0⟩
  else if 128 < z.getD 33 0 + 256 * z.getD 34 0 then ⟨32, ⟨[], false, []⟩, 0⟩
  else if z.length < 35 + (z.getD 33 0 + 256 * z.getD 34 0).toNat then ⟨30, ⟨[], false, []⟩, 0⟩
  else ⟨0, ⟨(z.drop 1).take 32, false, (z.drop 35).take (z.getD 33 0 + 256 * z.getD 34 0).toNat⟩, 35 + (z.getD 33 0 + 256 * z.getD 34 0).toNat⟩
structure PL where
  cs : List Chg
  k : Nat
  e : Int
  rest : List Int
def PL.pre (d : List Chg) (r : PL) : PL := ⟨d ++ r.cs, d.length + r.k, r.e, r.rest⟩
def parseL : Nat → List Int → PL
  | 0, z => ⟨[], 0, 0, z⟩
  | n + 1, z => if (one z).e = 0 then (parseL n (z.drop (one z).n)).pre [(one z).c] else ⟨[], 0, (one z).e, z⟩
theorem PL.pre_pre (d f : List Chg) (r : PL) : (r.pre f).pre d = r.pre (d ++ f) := by simp [PL.pre, Nat.add_assoc]
theorem PL.pre_nil (r : PL) : r.pre [] = r := by simp [PL.pre]
/-- The place of the first key that an earlier one is; the length if there is none. -/
def twiceK (ks : List (List Int)) : Nat := ((List.range ks.length).find? fun i => decide (ks.getD i [] ∈ ks.take i)).getD ks.length
theorem twiceK_none {ks : List (List Int)} (h : ∀ i, i < ks.length → ks.getD i [] ∉ ks.take i) : twiceK ks = ks.length := by
  unfold twiceK
  rw [List.find?_eq_none.2 fun i hi => by simpa using h i (List.mem_range.1 hi)]; rfl
theorem twiceK_some {ks : List (List Int)} {p : Nat} (hp : p < ks.length) (hm : ks.getD p [] ∈ ks.take p) (h : ∀ i, i < p → ks.getD i [] ∉ ks.take i) : twiceK ks = p := by
  unfold twiceK
  have : (List.range ks.length).find? (fun i => decide (ks.getD i [] ∈ ks.take i)) = some p := by
    rw [List.find?_eq_some_iff_append]
    refine ⟨by simpa using hm, List.range p, (List.range (ks.length - p - 1)).map (p + 1 + ·), ?_, fun i hi => by simpa using h i (List.mem_range.1 hi)⟩
    rw [show ks.length = p + (1 + (ks.length - p - 1)) by omega, List.range_add, List.range_add, show p + (1 + (ks.length - p - 1)) - p - 1 = ks.length - p - 1 by omega]
    simp [List.range_one, Function.comp_def, Nat.add_assoc]
  rw [this]; rfl
theorem twiceK_le (ks : List (List Int)) : twiceK ks ≤ ks.length := by
  unfold twiceK
  cases h : (List.range ks.length).find? (fun i => decide (ks.getD i [] ∈ ks.take i)) with
  | none => simp
  | some p => have := List.mem_range.1 (List.mem_of_find?_eq_some h); simp; omega
theorem nodup_of_fresh {ks : List (List Int)} (h : ∀ i, i < ks.length → ks.getD i [] ∉ ks.take i) : ks.Nodup := by
  rw [List.Nodup, List.pairwise_iff_getElem]
  intro i j hi hj hij he
  apply h j hj
  rw [List.getD_eq_getElem?_getD, List.getElem?_eq_getElem hj, Option.getD_some, ← he]
  rw [List.mem_take_iff_getElem]
  exact ⟨i, by omega, rfl⟩
theorem fresh_of_nodup {ks : List (List Int)} (h : ks.Nodup) : ∀ i, i < ks.length → ks.getD i [] ∉ ks.take i := by
  intro i hi hm
  rw [List.getD_eq_getElem?_getD, List.getElem?_eq_getElem hi, Option.getD_some, List.mem_take_iff_getElem] at hm
  obtain ⟨j, hj, he⟩ := hm
  rw [List.Nodup, List.pairwise_iff_getElem] at h
  exact h j i (by omega) hi (by omega) he
theorem twiceK_iff (ks : List (List Int)) : twiceK ks = ks.length ↔ ks.Nodup := by
  constructor
  · intro h
    refine nodup_of_fresh fun i hi hm => ?_
    unfold twiceK at h
    cases hf : (List.range ks.length).find? (fun i => decide (ks.getD i [] ∈ ks.take i)) with
    | none => exact absurd (by simpa using hm) (List.find?_eq_none.1 hf i (List.mem_range.2 hi))
    | some p => have := List.mem_range.1 (List.mem_of_find?_eq_some hf); rw [hf] at h; simp at h; omega
  · exact fun h => twiceK_none (fresh_of_nodup h)
structure Told where
  cs : List Chg
  at' : Nat
  e : Int
def parseC (z : List Int) : Told :=
  if z.length < 2 then ⟨[], 0, 30⟩
  else if 64 < z.getD 0 0 + 256 * z.getD 1 0 then ⟨[], 0, 31⟩
  else
    let n := (z.getD 0 0 + 256 * z.getD 1 0).toNat
    let r := parseL n (z.drop 2)
    if r.e ≠ 0 then ⟨[], r.k, r.e⟩
    else if r.rest ≠ [] then ⟨[], n, 30⟩
    else if twiceK (keysC r.cs) < n then ⟨[], twiceK (keysC r.cs), 33⟩
    else ⟨r.cs, 0, 0⟩
end Go.Proofs.Ytcifbnldohmbnaa
