import Derived.Test.YtihkjfbhmlfonaaN4
namespace Go.Proofs.Ytihkjfbhmlfonaa
set_option linter.unusedVariables false
set_option linter.unusedSimpArgs false
open Go.RowKit
attribute [local go_sem ↓] Go.wp_at_zero Go.wp_at_succ

/-! Which superblock holds, of two that stand or one that does not. -/
theorem unS_app (s : Sup) (Y : List Int) (h : validS s = true) (hY : Y.length = 192) : unSuperF (secS s ++ Y) = (s, 0) :=
  unSuper_sec s _ h (by rw [List.length_append, secS_len, hY]) (by rw [List.take_left' (secS_len s)])
theorem unS_bad (R Y : List Int) (hR : R.length = 64) (hY : Y.length = 192) (hC : feed ones R ≠ CR) : unSuperF (R ++ Y) = (sup0, 52) :=
  unSuper_sum _ (by rw [List.length_append, hR, hY]) (by rw [List.take_left' hR]; exact hC)
/-- u follows s. -/
def Fol (u s : Sup) : Prop := u.ge = s.ge + 1 ∧ u.wd = s.wd ∧ u.pg = s.pg ∧ s.ma ≤ u.ma
theorem Fol.yes {u s : Sup} (h : Fol u s) : follF u s = true := by
  obtain ⟨h1, h2, h3, h4⟩ := h
  unfold follF
  obtain ⟨a, b, c, d, e⟩ := u
  obtain ⟨a', b', c', d', e'⟩ := s
  simp only at h1 h2 h3 h4
  subst h1 h2 h3
  simp [Int.max_eq_right h4]
theorem Fol.no {u s : Sup} (h : Fol u s) : follF s u = false := by
  have h1 := h.1
  unfold follF
  rw [decide_eq_false_iff_not]
  intro e
  have := congrArg Sup.ge e
  simp only at this
  omega
theorem choose_even (s u : Sup) (Y Z : List Int) (hY : Y.length = 192) (hZ : Z.length = 192) (vs : validS s = true) (vu : validS u = true) (hf : Fol u s) (he : s.ge.tmod 2 = 0) : chooseF (secS s ++ Y) (secS u ++ Z) = (u, 0) := by
  unfold chooseF
  rw [unS_app s Y vs hY, unS_app u Z vu hZ, if_pos ⟨rfl, rfl⟩]
  unfold newerF
  rw [if_neg (by simp [he]), if_neg (by simp [hf.no]), if_pos hf.yes]
theorem choose_odd (s u : Sup) (Y Z : List Int) (hY : Y.length = 192) (hZ : Z.length = 192) (vs : validS s = true) (vu : validS u = true) (hf : Fol u s) (he : u.ge.tmod 2 = 0) : chooseF (secS u ++ Y) (secS s ++ Z) = (u, 0) := by
  unfold chooseF
  rw [unS_app u Y vu hY, unS_app s Z vs hZ, if_pos ⟨rfl, rfl⟩]
  unfold newerF
  rw [if_neg (by simp [he]), if_pos hf.yes]
theorem secS_cons (s : Sup) : (secS s).getD 0 0 = 76 ∧ (secS s).getD 8 0 = s.ge % 256 := by
  unfold secS sealF bodyS
  constructor
  · simp
  · simp [num]
theorem not_empty (L : List Int) (Y : List Int) (hL : L.length = 64) (q : Nat) (hq : q < 64) (h : L.getD q 0 ≠ 0) : emptyF (L ++ Y) = false := by
  unfold emptyF
  rw [List.take_left' hL]
  have : decide (L = List.replicate 64 0) = false := by
    rw [decide_eq_false_iff_not]
    rintro rfl
    apply h
    rw [List.getD_eq_getElem?_getD, List.getElem?_replicate, if_pos hq]; rfl
  rw [this, Bool.and_false]
theorem stands_not (s : Sup) (Y : List Int) : emptyF (secS s ++ Y) = false := not_empty _ _ (secS_len s) 0 (by omega) (by rw [(secS_cons s).1]; decide)
end Go.Proofs.Ytihkjfbhmlfonaa
