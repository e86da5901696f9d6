import Derived.Test.YthhchbeaefcljaaMb
namespace Go.Proofs.Ythhchbeaefcljaa
set_option linter.unusedVariables false
set_option linter.unusedSimpArgs false

/-- Is bit i of the pattern one that the text has? -/
def hits (N : Nat) (a : Int) (p i : Nat) : Bool := (p >>> i % 2 == 1) && (decide (0 ≤ a + (i : Int)) && decide (a + (i : Int) < 8 * (N : Int)))
def brst (S : List Int) (a : Int) (p : Nat) : Nat → List Int
  | 0 => S
  | i + 1 => if hits S.length a p i = true then turnB (brst S a p i) (a + (i : Int)).toNat else brst S a p i
def cnt (N : Nat) (a : Int) (p : Nat) : Nat → Nat
  | 0 => 0
  | i + 1 => if hits N a p i = true then cnt N a p i + 1 else cnt N a p i
/-- The pattern's bits that are turned. -/
def qm (N : Nat) (a : Int) (p : Nat) : Nat → Nat
  | 0 => 0
  | i + 1 => if hits N a p i = true then qm N a p i ^^^ 2 ^ i else qm N a p i
theorem brst_len (S : List Int) (a : Int) (p : Nat) : ∀ m, (brst S a p m).length = S.length := by
  intro m
  induction m with
  | zero => rfl
  | succ m ih => unfold brst; split
                 · rw [turnB_len, ih]
                 · exact ih
theorem brst_byts (S : List Int) (h : Byts S) (a : Int) (p : Nat) : ∀ m, Byts (brst S a p m) := by
  intro m
  induction m with
  | zero => exact h
  | succ m ih => unfold brst; split
                 · exact turnB_byts ih _
                 · exact ih
theorem cnt_le (N : Nat) (a : Int) (p : Nat) : ∀ m, cnt N a p m ≤ m := by
  intro m
  induction m with
  | zero => exact Nat.le_refl _
  | succ m ih => unfold cnt; split <;> omega
theorem qm_lt (N : Nat) (a : Int) (p : Nat) : ∀ m, qm N a p m < 2 ^ m := by
  intro m
  induction m with
  | zero => simp [qm]
  | succ m ih =>
    have h2 : 2 ^ m < 2 ^ (m + 1) := by rw [Nat.pow_succ]; have := Nat.two_pow_pos m; omega
    unfold qm; split
    · exact Nat.xor_lt_two_pow (by omega) h2
    · omega
theorem cnt_qm (N : Nat) (a : Int) (p : Nat) : ∀ m, qm N a p m = 0 → cnt N a p m = 0 := by
  intro m
  induction m with
  | zero => intro _; rfl
  | succ m ih =>
    unfold qm cnt
    split
    · intro h
      have := qm_lt N a p m
      have e := xor_eq_zero h
      omega
    · exact ih
theorem two_step : ∀ i, i < 32 → stepN i (2 ^ i) = 1 := by decide +kernel
theorem vb_shift (M i : Nat) (hi : i < 32) (h : i ≤ M) : vb (M - i) = stepN M (2 ^ i) := by
  unfold vb
  rw [← two_step i hi, ← stepN_add]
  congr 1; omega
theorem feed_brst (S : List Int) (a : Int) (p r M : Nat) (hM : (M : Int) = 8 * (S.length : Int) - a) : ∀ m, m ≤ 32 → feed r (brst S a p m) = feed r S ^^^ stepN M (qm S.length a p m) := by
  intro m
  induction m with
  | zero => intro _; simp [brst, qm, stepN_zero]
  | succ m ih =>
    intro hm
    unfold brst qm
    split
    · rename_i hh
      have hh' := hh
      simp only [hits, Bool.and_eq_true, decide_eq_true_eq] at hh'
      obtain ⟨_, h1, h2⟩ := hh'
      rw [feed_turnB _ _ (by rw [brst_len]; omega), ih (by omega), brst_len, stepN_xor, Nat.xor_assoc]
      congr 2
      rw [show 8 * S.length - (a + (m : Int)).toNat = M - m by omega]
      exact vb_shift M m (by omega) (by omega)
    · exact ih (by omega)
theorem burst_main (S : List Int) (a : Int) (p : Nat) (h1 : -31 ≤ a) (h2 : a < 8 * (S.length : Int)) (hC : feed ones S = CR) (hn : cnt S.length a p 32 ≠ 0) : feed ones (brst S a p 32) ≠ CR := by
  obtain ⟨M, hM⟩ := Int.eq_ofNat_of_zero_le (show 0 ≤ 8 * (S.length : Int) - a by omega)
  rw [feed_brst S a p ones M hM.symm 32 (Nat.le_refl _), hC]
  intro h
  have : CR ^^^ (CR ^^^ stepN M (qm S.length a p 32)) = CR ^^^ CR := by rw [h]
  rw [xxc, Nat.xor_self] at this
  exact hn (cnt_qm _ _ _ 32 (stepN_eq_zero M _ (qm_lt _ _ _ 32) this))
end Go.Proofs.Ythhchbeaefcljaa
