import Derived.Test.YtbddndcdcicnaabN4
namespace Go.Proofs.Ytbddndcdcicnaab
set_option linter.unusedVariables false
set_option linter.unusedSimpArgs false
open Go.RowKit
attribute [local go_sem ↓] Go.wp_at_zero Go.wp_at_succ

/-! Which superblock holds, of two that stand or one that does not. -/
theorem unS_app (s : Sup) (Y : List Int) (h : validS s = true) (hY : Y.length = 192) : unSuperF (secS s ++ Y) = (s, 0) :=
  unSuper_sec s _ h (by rw [List.length_append, secS_len, hY]) (by rw [List.take_left' (secS_len s)])
theorem unS_bad (R Y : List Int) (hR : R.length = 64) (hY : Y.length = 192) (hC : feed ones R ≠ CR) : unSuperF (R ++ Y) = (sup0, 52) :=
  unSuper_sum _ (by rw [List.length_append, hR, hY]) (by rw [List.take_left' hR]; exact hC)
/-- u follows s. -/
def Fol (u s : Sup) : Prop := u.ge = s.ge + 1 ∧ u.wd = s.wd ∧ u.pg = s.pg ∧ s.ma ≤ u.ma
theorem Fol.yes {u s : Sup} (h : Fol u s) : follF u s = true := by
  obtain ⟨h1, h2, h3, h4⟩ := h
  unfold follF
  obtain ⟨a, b, c, d, e⟩ := u
  obtain ⟨a', b', c', d', e'⟩ := s
  simp only at h1 h2 h3 h4
  subst h1 h2 h3
  simp [Int.max_eq_right h4]
theorem Fol.no {u s : Sup} (h : Fol u s) : follF s u = false := by
  have h1 := h.1
  unfold follF
  rw [decide_eq_false_iff_not]
  intro e
  have := congrArg Sup.ge e
  simp only at this
  omega
theorem choose_even (s u : Sup) (Y Z : List Int) (hY : Y.length = 192) (hZ : Z.length = 192) (vs : validS s = true) (vu : validS u = true) (hf : Fol u s) (he : s.ge.tmod 2 = 0) : chooseF (secS s ++ Y) (secS u ++ Z) = (u, 0) := by
  unfold chooseF
  rw [unS_app s Y vs hY, unS_app u Z vu hZ, if_pos ⟨rfl, rfl⟩]
  unfold newerF
  rw [if_neg (by simp [he]), if_neg (by simp [hf.no]), if_pos hf.yes]
theorem choose_odd (s u : Sup) (Y Z : List Int) (hY : Y.length = 192) (hZ : Z.length = 192) (vs : validS s = true) (vu : validS u = true) (hf : Fol u s) (he : u.ge.tmod 2 = 0) : chooseF (secS u ++ Y) (secS s ++ Z) = (u, 0) := by
  unfold chooseF
  rw [unS_app u Y vu hY, unS_app s Z vs hZ, if_pos ⟨rfl, rfl⟩]
  unfold newerF
  rw [if_neg (by simp [he]), if_pos hf.yes]
theorem secS_cons (s : Sup) : (secS s).getD 0 0 = 76 ∧ (secS s).getD 8 0 = s.ge % 256 := by
  unfold secS sealF bodyS
  constructor
  · simp
  · simp [num]
theorem not_empty (L : List Int) (Y : List Int) (hL : L.length = 64) (q : Nat) (hq : q < 64) (h : L.getD q 0 ≠ 0) : emptyF (L ++ Y) = false := by
  unfold emptyF
  rw [List.take_left' hL]
  have : decide (L = List.replicate 64 0) = false := by
    rw [decide_eq_false_iff_not]
    rintro rfl
    apply h
    rw [List.getD_eq_getElem?_getD, List.getElem?_replicate, if_pos hq]; rfl
  rw [this, Bool.and_false]
theorem stands_not (s : Sup) (Y : List Int) : emptyF (secS s ++ Y) = false := not_empty _ _ (secS_len s) 0 (by omega) (by rw [(secS_cons s).1]; decide)
theorem choose_badA (R Y Z : List Int) (t : Sup) (hR : R.length = 64) (hY : Y.length = 192) (hZ : Z.length = 192) (hC : feed ones R ≠ CR) (vt : validS t = true) : chooseF (R ++ Y) (secS t ++ Z) = (sup0, 4) := by
  unfold chooseF
  rw [unS_bad R Y hR hY hC, unS_app t Z vt hZ, if_neg (by simp), stands_not t Z]
  split
  · rw [if_neg (by simp)]
  · rfl
theorem choose_badB (R Y Z : List Int) (t : Sup) (hR : R.length = 64) (hY : Y.length = 192) (hZ : Z.length = 192) (hC : feed ones R ≠ CR) (vt : validS t = true) (hE : emptyF (R ++ Z) = false) : chooseF (secS t ++ Y) (R ++ Z) = (sup0, 4) := by
  unfold chooseF
  rw [unS_bad R Z hR hZ hC, unS_app t Y vt hY, if_neg (by simp), hE]
  split
  · rw [if_neg (by simp)]
  · rfl
/-- A byte that no bit of the window touches. -/
theorem brst_keep (X : List Int) (A : Int) (p q : Nat) (h : ∀ i : Nat, i < 32 → 0 ≤ A + (i : Int) → (A + (i : Int)).toNat / 8 ≠ q) : ∀ m, m ≤ 32 → (brst X A p m).getD q 0 = X.getD q 0
  | 0, _ => rfl
  | m + 1, hm => by
    rw [brst]
    by_cases hh : hits X.length A p m = true
    · rw [if_pos hh]
      have h0 : 0 ≤ A + (m : Int) := by unfold hits at hh; simp at hh; omega
      have hne := h m (by omega) h0
      unfold turnB
      rw [List.getD_eq_getElem?_getD, List.getElem?_set_ne hne, ← List.getD_eq_getElem?_getD]
      exact brst_keep X A p q h m (by omega)
    · rw [if_neg hh]; exact brst_keep X A p q h m (by omega)
theorem brst_not_empty (s : Sup) (hv : validS s = true) (ho : s.ge.tmod 2 = 1) (A : Int) (p : Nat) (Y : List Int) : emptyF (brst (secS s) A p 32 ++ Y) = false := by
  have hl : (brst (secS s) A p 32).length = 64 := by rw [brst_len, secS_len]
  have hb := (validS_iff s).1 hv
  by_cases hA : A ≤ 32
  · refine not_empty _ _ hl 8 (by omega) ?_
    rw [brst_keep (secS s) A p 8 (fun i hi h0 => by omega) 32 (Nat.le_refl _), (secS_cons s).2]
    have : s.ge % 2 = 1 := by rw [← Int.tmod_eq_emod_of_nonneg (by omega)]; exact ho
    omega
  · refine not_empty _ _ hl 0 (by omega) ?_
    rw [brst_keep (secS s) A p 0 (fun i hi h0 => by omega) 32 (Nat.le_refl _), (secS_cons s).1]
    decide
/-- turned, the text told. -/
theorem turned_brst (w : World) (X Y : List Int) (h8 : Byts (X ++ Y)) (hX : 0 < X.length) (L : Nat) (hL : (X ++ Y).length = L) (hle : L ≤ 20000) (hC : feed ones X = CR) (sp : Option Addr) (cap : Nat) (hS : Src w sp cap (X ++ Y)) (A : Int) (pt : Nat) (hpt : pt < 4294967296) (x1 : -31 ≤ A) (x2 : A < 8 * (X.length : Int)) (N : Int) (hN : N = 8 * (X.length : Int)) :
    Calls Try.prog 10 #[.slice sp L cap, .int .i64 A, .int .u32 pt, .int .i64 N] w fun e w' => ∃ g uc, ∃ c : Nat, e = .returned (.tuple #[.slice (some ⟨g, 0, none⟩) L uc, .int .i64 c]) ∧ Src w' (some ⟨g, 0, none⟩) uc (brst X A pt 32 ++ Y) ∧ (c = 0 → brst X A pt 32 = X) ∧ (c ≠ 0 → feed ones (brst X A pt 32) ≠ CR) ∧ c ≤ 32 ∧ Below w.heap.size w w' := by
  have hlen : L = X.length + Y.length := by rw [← hL, List.length_append]
  have h := turned_any w (X ++ Y) h8 (by omega) (by omega) X.length (by omega) sp cap hS A pt hpt (fun m hm _ => by omega) N hN
  rw [hL] at h
  refine h.mono ?_
  rintro e w' ⟨g, uc, rfl, hs, hB⟩
  rw [brstN_app] at hs
  refine ⟨g, uc, cnt X.length A pt 32, rfl, hs, ?_, fun hn => burst_main X A pt x1 x2 hC hn, cnt_le _ _ _ _, hB⟩
  intro h0
  have := cnt_zero X.length X A pt 32 h0
  rwa [brstN_all] at this
end Go.Proofs.Ytbddndcdcicnaab
