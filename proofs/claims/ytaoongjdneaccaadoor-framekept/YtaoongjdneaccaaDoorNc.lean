import Derived.Test.YtaoongjdneaccaaDoorNb
namespace Go.Proofs.YtaoongjdneaccaaDoor
set_option linter.unusedVariables false
set_option linter.unusedSimpArgs false
open Go.RowKit

/-! A superblock. -/
structure Sup where
  wd : Int
  ge : Int
  ma : Int
  hd : Int
  pg : Int
  deriving DecidableEq
def sup0 : Sup := ⟨0, 0, 0, 0, 0⟩
def validS (s : Sup) : Bool := decide (1 ≤ s.wd ∧ s.wd ≤ 32 ∧ 0 ≤ s.ge ∧ s.ge ≤ 1099511627776 ∧ 3 ≤ s.pg ∧ s.pg ≤ 4096 ∧ 2 ≤ s.ma ∧ s.ma ≤ s.pg ∧ (s.hd = 0 ∨ (2 ≤ s.hd ∧ s.hd < s.ma)))
theorem validS_iff (s : Sup) : validS s = true ↔ 1 ≤ s.wd ∧ s.wd ≤ 32 ∧ 0 ≤ s.ge ∧ s.ge ≤ 1099511627776 ∧ 3 ≤ s.pg ∧ s.pg ≤ 4096 ∧ 2 ≤ s.ma ∧ s.ma ≤ s.pg ∧ (s.hd = 0 ∨ (2 ≤ s.hd ∧ s.hd < s.ma)) := by simp [validS]
def bodyS (s : Sup) : List Int := [76, 68, 71, 49, s.wd, 0, 0, 0] ++ num s.ge 8 ++ num s.ma 4 ++ num s.hd 4 ++ num s.pg 4 ++ List.replicate 32 0
theorem bodyS_len (s : Sup) : (bodyS s).length = 60 := by simp [bodyS, num_len]
theorem bodyS_byts (s : Sup) (h : validS s = true) : Byts (bodyS s) := by
  have h := (validS_iff s).1 h
  refine byts_app (byts_app (byts_app (byts_app (byts_app ?_ (num_byts _ _)) (num_byts _ _)) (num_byts _ _)) (num_byts _ _)) (rep_byts _)
  intro x hx
  simp at hx
  omega
def secS (s : Sup) : List Int := sealF (bodyS s)
theorem secS_len (s : Sup) : (secS s).length = 64 := by rw [secS, sealF_len, bodyS_len]
theorem secS_byts (s : Sup) (h : validS s = true) : Byts (secS s) := sealF_byts (bodyS_byts s h)
def readS (r : List Int) : Sup := ⟨r.getD 4 0, IntKind.i64.wrap (le ((r.drop 8).take 8)), le ((r.drop 16).take 4), le ((r.drop 20).take 4), le ((r.drop 24).take 4)⟩
/-- What PackSuper answers. -/
def superF (s : Sup) : List Int × Int := if validS s = true then (secS s ++ List.replicate 192 0, 0) else ([], 53)
/-- What UnpackSuper answers. -/
def unSuperF (r : List Int) : Sup × Int :=
  if r.length ≠ 256 then (sup0, 53) else if feed ones (r.take 64) ≠ CR then (sup0, 52)
  else if validS (readS (r.take 64)) = false ∨ secS (readS (r.take 64)) ≠ r.take 64 then (sup0, 53) else (readS (r.take 64), 0)
theorem split60 (l s : List Int) (a b c d : List Int) (z : List Int) (h0 : l.length = 8) (ha : a.length = 8) (hb : b.length = 4) (hc : c.length = 4) (hd : d.length = 4) :
    ((l ++ a ++ b ++ c ++ d ++ z ++ s).drop 8).take 8 = a ∧ ((l ++ a ++ b ++ c ++ d ++ z ++ s).drop 16).take 4 = b ∧ ((l ++ a ++ b ++ c ++ d ++ z ++ s).drop 20).take 4 = c ∧ ((l ++ a ++ b ++ c ++ d ++ z ++ s).drop 24).take 4 = d := by
  refine ⟨?_, ?_, ?_, ?_⟩
  · rw [show l ++ a ++ b ++ c ++ d ++ z ++ s = l ++ (a ++ (b ++ (c ++ (d ++ (z ++ s))))) by simp [List.append_assoc], List.drop_left' h0, List.take_left' ha]
  · rw [show l ++ a ++ b ++ c ++ d ++ z ++ s = (l ++ a) ++ (b ++ (c ++ (d ++ (z ++ s)))) by simp [List.append_assoc], List.drop_left' (by simp [h0, ha]), List.take_left' hb]
  · rw [show l ++ a ++ b ++ c ++ d ++ z ++ s = (l ++ a ++ b) ++ (c ++ (d ++ (z ++ s))) by simp [List.append_assoc], List.drop_left' (by simp [h0, ha, hb]), List.take_left' hc]
  · rw [show l ++ a ++ b ++ c ++ d ++ z ++ s = (l ++ a ++ b ++ c) ++ (d ++ (z ++ s)) by simp [List.append_assoc], List.drop_left' (by simp [h0, ha, hb, hc]), List.take_left' hd]
theorem le_num_int (v : Int) (n : Nat) (h0 : 0 ≤ v) (h : v < ((256 ^ n : Nat) : Int)) : (le (num v n) : Int) = v := by
  obtain ⟨m, rfl⟩ := Int.eq_ofNat_of_zero_le h0
  rw [le_num m n (by omega)]
theorem readS_secS (s : Sup) (h : validS s = true) : readS (secS s) = s := by
  have h := (validS_iff s).1 h
  obtain ⟨a1, a2, a3, a4⟩ := split60 [76, 68, 71, 49, s.wd, 0, 0, 0] (sbF (sumF (bodyS s))) (num s.ge 8) (num s.ma 4) (num s.hd 4) (num s.pg 4) (List.replicate 32 0) rfl (num_len _ _) (num_len _ _) (num_len _ _) (num_len _ _)
  have e : secS s = [76, 68, 71, 49, s.wd, 0, 0, 0] ++ num s.ge 8 ++ num s.ma 4 ++ num s.hd 4 ++ num s.pg 4 ++ List.replicate 32 0 ++ sbF (sumF (bodyS s)) := rfl
  have p8 : ((256 ^ 8 : Nat) : Int) = 18446744073709551616 := by decide
  have p4 : ((256 ^ 4 : Nat) : Int) = 4294967296 := by decide
  unfold readS
  rw [e, a1, a2, a3, a4, le_num_int s.ge 8 (by omega) (by omega), wrap_i64_id _ (by omega) (by omega), le_num_int s.ma 4 (by omega) (by omega), le_num_int s.hd 4 (by omega) (by omega), le_num_int s.pg 4 (by omega) (by omega)]
  simp
theorem unSuper_sec (s : Sup) (r : List Int) (h : validS s = true) (hl : r.length = 256) (ht : r.take 64 = secS s) : unSuperF r = (s, 0) := by
  unfold unSuperF
  rw [if_neg (by simp [hl]), ht, if_neg (by rw [secS, seal_CR _ (bodyS_byts s h)]; simp), readS_secS s h, if_neg (by simp [h])]
theorem unSuper_ok (r : List Int) (hE : (unSuperF r).2 = 0) : r.length = 256 ∧ validS (unSuperF r).1 = true ∧ r.take 64 = secS (unSuperF r).1 := by
  unfold unSuperF at *
  split at hE <;> try (simp at hE; done)
  rename_i g1
  split at hE <;> try (simp at hE; done)
  rename_i g2
  split at hE <;> try (simp at hE; done)
  rename_i g3
  rw [if_neg g1, if_neg g2, if_neg g3]
  have g3' : ¬ validS (readS (r.take 64)) = false ∧ secS (readS (r.take 64)) = r.take 64 := by
    constructor
    · exact fun h => g3 (Or.inl h)
    · exact Classical.byContradiction fun h => g3 (Or.inr h)
  exact ⟨by omega, by simpa using g3'.1, g3'.2.symm⟩
theorem unSuper_bad (r : List Int) (hE : (unSuperF r).2 ≠ 0) : (unSuperF r).1 = sup0 := by
  unfold unSuperF at *
  repeat' split
  all_goals first | rfl | skip
  rename_i g1 g2 g3
  rw [if_neg g1, if_neg g2, if_neg g3] at hE
  exact absurd rfl hE
theorem unSuper_sum (r : List Int) (hl : r.length = 256) (hC : feed ones (r.take 64) ≠ CR) : unSuperF r = (sup0, 52) := by
  unfold unSuperF
  rw [if_neg (by simp [hl]), if_pos hC]
theorem superF_ok (s : Sup) (h : validS s = true) : superF s = (secS s ++ List.replicate 192 0, 0) := by rw [superF, if_pos h]
theorem superF_bad (s : Sup) (h : validS s = false) : superF s = ([], 53) := by rw [superF, if_neg (by simp [h])]

/-! Which one holds. -/
def follF (n o : Sup) : Bool := decide (n = { o with ge := o.ge + 1, ma := max o.ma n.ma, hd := n.hd })
def newerF (a b : Sup) : Sup × Int := if a.ge.tmod 2 ≠ 0 then (sup0, 4) else if follF a b = true then (a, 0) else if follF b a = true then (b, 0) else (sup0, 4)
def emptyF (r : List Int) : Bool := decide (r.length = 256) && decide (r.take 64 = List.replicate 64 0)
def chooseF (a b : List Int) : Sup × Int :=
  if (unSuperF a).2 = 0 ∧ (unSuperF b).2 = 0 then newerF (unSuperF a).1 (unSuperF b).1
  else if ((unSuperF a).2 = 0 ∧ (unSuperF a).1.ge = 0) ∨ emptyF a = true then (if emptyF b = true then (sup0, 55) else (sup0, 4)) else (sup0, 4)
end Go.Proofs.YtaoongjdneaccaaDoor
