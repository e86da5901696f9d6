import Derived.Test.YtbddndcdcicnaabNq
import Derived.Test.YtbddndcdcicnaabMc
namespace Go.Proofs.Ytbddndcdcicnaab
set_option linter.unusedVariables false
set_option linter.unusedSimpArgs false

def turns (S : List Int) (ks : List Nat) : List Int := ks.foldl turnB S
theorem turns_snoc (S : List Int) (ks : List Nat) (k : Nat) : turns S (ks ++ [k]) = turnB (turns S ks) k := by simp [turns]
theorem turns_len (S : List Int) : ∀ ks : List Nat, (turns S ks).length = S.length := by
  intro ks
  induction ks generalizing S with
  | nil => rfl
  | cons k ks ih => show (turns (turnB S k) ks).length = _; rw [ih, turnB_len]
theorem flO_turns {S : List Int} {n : Nat} {L : List Int} (h : ∃ ks : List Nat, ks.length ≤ n ∧ (∀ k ∈ ks, k < 8 * S.length) ∧ L = turns S ks) (i : Int) : ∃ ks : List Nat, ks.length ≤ n + 1 ∧ (∀ k ∈ ks, k < 8 * S.length) ∧ flO L i = turns S ks := by
  obtain ⟨ks, h1, h2, rfl⟩ := h
  unfold flO
  rw [turns_len]
  split
  · rename_i hi
    refine ⟨ks ++ [i.toNat], by simp; omega, fun k hk => ?_, by rw [turns_snoc]⟩
    rcases List.mem_append.1 hk with h | h
    · exact h2 k h
    · simp at h; omega
  · exact ⟨ks, by omega, h2, rfl⟩
theorem cancel_vb {c x : Nat} (h : c ^^^ x = c) : x = 0 := by
  have : c ^^^ (c ^^^ x) = c ^^^ c := by rw [h]
  rw [xxc, Nat.xor_self] at this; exact this
theorem few_turns (S : List Int) (h8 : Byts S) (hm : S.length ≤ 371) (hC : feed ones S = CR) (ks : List Nat) (hl : ks.length ≤ 4) (hk : ∀ k ∈ ks, k < 8 * S.length) (hne : turns S ks ≠ S) : feed ones (turns S ks) ≠ CR := by
  match ks, hl with
  | [], _ => exact absurd rfl hne
  | [a], _ =>
    have ha := hk a (by simp)
    show feed ones (turnB S a) ≠ CR
    rw [feed_turnB S a ha, hC]
    exact fun h => vb_ne _ (cancel_vb h)
  | [a, b], _ =>
    have ha := hk a (by simp)
    have hb := hk b (by simp)
    show feed ones (turnB (turnB S a) b) ≠ CR
    rw [feed_turnB _ b (by rw [turnB_len]; omega), feed_turnB S a ha, hC, turnB_len, Nat.xor_assoc]
    intro h
    have h := vb_inj _ _ (by omega) (by omega) (xor_eq_zero (cancel_vb h))
    obtain rfl : a = b := by omega
    exact hne (turnB_turnB h8 a)
  | [a, b, c], _ =>
    have ha := hk a (by simp)
    have hb := hk b (by simp)
    have hc := hk c (by simp)
    show feed ones (turnB (turnB (turnB S a) b) c) ≠ CR
    rw [feed_turnB _ c (by rw [turnB_len, turnB_len]; omega), feed_turnB _ b (by rw [turnB_len]; omega), feed_turnB S a ha, hC]
    simp only [turnB_len]
    rw [Nat.xor_assoc, Nat.xor_assoc, ← Nat.xor_assoc (stepN _ 1)]
    intro h
    have h : vb (8 * S.length - a) ^^^ vb (8 * S.length - b) = vb (8 * S.length - c) := xor_eq_zero (cancel_vb h)
    rcases Nat.lt_trichotomy (8 * S.length - a) (8 * S.length - b) with q | q | q
    · exact vb_three _ _ _ (by omega) q (by omega) (by omega) h
    · rw [q, Nat.xor_self] at h; exact vb_ne _ h.symm
    · rw [Nat.xor_comm] at h; exact vb_three _ _ _ (by omega) q (by omega) (by omega) h
  | [a, b, c, d], _ =>
    have ha := hk a (by simp)
    have hb := hk b (by simp)
    have hc := hk c (by simp)
    have hd := hk d (by simp)
    have hne' : turnB (turnB (turnB (turnB S a) b) c) d ≠ S := hne
    show feed ones (turnB (turnB (turnB (turnB S a) b) c) d) ≠ CR
    rw [feed_turnB _ d (by rw [turnB_len, turnB_len, turnB_len]; omega), feed_turnB _ c (by rw [turnB_len, turnB_len]; omega), feed_turnB _ b (by rw [turnB_len]; omega), feed_turnB S a ha, hC]
    simp only [turnB_len]
    rw [Nat.xor_assoc, Nat.xor_assoc, Nat.xor_assoc, ← Nat.xor_assoc (stepN _ 1)]
    intro h
    have h : vb (8 * S.length - a) ^^^ vb (8 * S.length - b) = vb (8 * S.length - c) ^^^ vb (8 * S.length - d) := xor_eq_zero (cancel_vb h)
    have fin1 : a = b → c = d → False := by
      rintro rfl rfl
      rw [turnB_turnB h8, turnB_turnB h8] at hne'
      exact hne' rfl
    have fin2 : a = c → b = d → False := by
      rintro rfl rfl
      rw [turnB_comm (turnB S a) b a, turnB_turnB h8, turnB_turnB h8] at hne'
      exact hne' rfl
    have fin3 : a = d → b = c → False := by
      rintro rfl rfl
      rw [turnB_turnB (turnB_byts h8 a), turnB_turnB h8] at hne'
      exact hne' rfl
    rcases Nat.lt_trichotomy (8 * S.length - a) (8 * S.length - b) with q | q | q
    · rcases Nat.lt_trichotomy (8 * S.length - c) (8 * S.length - d) with r | r | r
      · have := vb_pairs _ _ _ _ (by omega) q (by omega) (by omega) r (by omega) h
        exact fin2 (by omega) (by omega)
      · rw [r, Nat.xor_self] at h
        have := vb_inj _ _ (by omega) (by omega) (xor_eq_zero h)
        omega
      · rw [Nat.xor_comm (vb (8 * S.length - c))] at h
        have := vb_pairs _ _ _ _ (by omega) q (by omega) (by omega) r (by omega) h
        exact fin3 (by omega) (by omega)
    · rw [q, Nat.xor_self] at h
      have := vb_inj _ _ (by omega) (by omega) (xor_eq_zero h.symm)
      exact fin1 (by omega) (by omega)
    · rw [Nat.xor_comm] at h
      rcases Nat.lt_trichotomy (8 * S.length - c) (8 * S.length - d) with r | r | r
      · have := vb_pairs _ _ _ _ (by omega) q (by omega) (by omega) r (by omega) h
        exact fin3 (by omega) (by omega)
      · rw [r, Nat.xor_self] at h
        have := vb_inj _ _ (by omega) (by omega) (xor_eq_zero h)
        omega
      · rw [Nat.xor_comm (vb (8 * S.length - c))] at h
        have := vb_pairs _ _ _ _ (by omega) q (by omega) (by omega) r (by omega) h
        exact fin2 (by omega) (by omega)
theorem few_main (i j k l : Int) (S : List Int) (h8 : Byts S) (h4 : 4 ≤ S.length) (hm : S.length ≤ 371) (hC : feed ones S = CR) (hne : (flO (flO (flO (flO S i) j) k) l) ≠ S) : feed ones (flO (flO (flO (flO S i) j) k) l) ≠ CR := by
  obtain ⟨ks, h1, h2, h3⟩ := flO_turns (flO_turns (flO_turns (flO_turns (S := S) (n := 0) (L := S) ⟨[], by simp, by simp, rfl⟩ i) j) k) l
  rw [h3] at hne ⊢
  exact few_turns S h8 hm hC ks (by omega) h2 hne
end Go.Proofs.Ytbddndcdcicnaab
