import Derived.Test.YtcifbnldohmbnaaMb3
namespace Go.Proofs.Ytcifbnldohmbnaa
set_option linter.unusedVariables false
set_option linter.unusedSimpArgs false

def KV (c : Chg) : Prop := c.key.length = 32 ∧ (c.del = false → c.val.length ≤ 128)
theorem one_cut {c : Chg} (h : KV c) {k : Nat} (hk : k < (lay1 c).length) : (one ((lay1 c).take k)).e = 30 := by
  obtain ⟨h1, h2⟩ := h
  have hl : ((lay1 c).take k).length = k := by rw [List.length_take]; omega
  unfold one
  rw [hl]
  by_cases h33 : k < 33
  · rw [if_pos (Or.inl h33)]
  · unfold lay1 at hk ⊢
    cases hd : c.del with
    | true => simp [hd, h1] at hk; omega
    | false =>
      have hv := h2 hd
      simp only [hd, Bool.false_eq_true, if_false] at hk ⊢
      have hlen : (1 :: (c.key ++ (num2 c.val.length ++ c.val))).length = 35 + c.val.length := by simp [num2, h1]; omega
      rw [hlen] at hk
      have g : ∀ i, i < k → ((1 :: (c.key ++ (num2 c.val.length ++ c.val))).take k).getD i 0 = (1 :: (c.key ++ (num2 c.val.length ++ c.val))).getD i 0 := fun i hi => by
        rw [List.getD_eq_getElem?_getD, List.getElem?_take, if_pos hi, ← List.getD_eq_getElem?_getD]
      have g0 := g 0 (by omega)
      have e0 : (1 :: (c.key ++ (num2 c.val.length ++ c.val))).getD 0 0 = 1 := rfl
      rw [g0, e0, if_neg (by omega), if_neg (by omega)]
      by_cases h35 : k < 35
      · rw [if_pos h35]
      · rw [if_neg h35, g 33 (by omega), g 34 (by omega)]
        have e33 : (1 :: (c.key ++ (num2 c.val.length ++ c.val))).getD 33 0 = ((c.val.length % 256 : Nat) : Int) := by
          rw [List.getD_eq_getElem?_getD, List.getElem?_cons_succ, List.getElem?_append_right (by omega), h1]; rfl
        have e34 : (1 :: (c.key ++ (num2 c.val.length ++ c.val))).getD 34 0 = ((c.val.length / 256 : Nat) : Int) := by
          rw [List.getD_eq_getElem?_getD, List.getElem?_cons_succ, List.getElem?_append_right (by omega), h1]; rfl
        have hn : (((c.val.length % 256 : Nat) : Int) + 256 * ((c.val.length / 256 : Nat) : Int)) = (c.val.length : Int) := by omega
        rw [e33, e34, hn, if_neg (by omega), Int.toNat_natCast, if_pos (by omega)]
theorem parseL_cut : ∀ (cs : List Chg), (∀ c ∈ cs, KV c) → ∀ (i k : Nat), i < cs.length → (((cs.take i).map lay1).flatten).length ≤ k → k < (((cs.take (i + 1)).map lay1).flatten).length →
    (parseL cs.length (((cs.map lay1).flatten).take k)).e = 30 ∧ (parseL cs.length (((cs.map lay1).flatten).take k)).k = i
  | [], _, i, k, hi, _, _ => by simp at hi
  | c :: cs, h, 0, k, hi, h1, h2 => by
    have hk : k < (lay1 c).length := by simpa using h2
    have e : (((c :: cs).map lay1).flatten).take k = (lay1 c).take k := by
      rw [List.map_cons, List.flatten_cons, List.take_append_of_le_length (by omega)]
    have ho := one_cut (h c (by simp)) hk
    rw [e]
    show (parseL (cs.length + 1) _).e = 30 ∧ (parseL (cs.length + 1) _).k = 0
    rw [parseL, if_neg (by rw [ho]; decide)]
    exact ⟨ho, rfl⟩
  | c :: cs, h, i + 1, k, hi, h1, h2 => by
    have hc := h c (by simp)
    have e1 : (((c :: cs).take (i + 1)).map lay1).flatten.length = (lay1 c).length + ((cs.take i).map lay1).flatten.length := by simp
    have e2 : (((c :: cs).take (i + 1 + 1)).map lay1).flatten.length = (lay1 c).length + ((cs.take (i + 1)).map lay1).flatten.length := by simp
    rw [e1] at h1
    rw [e2] at h2
    have e : (((c :: cs).map lay1).flatten).take k = lay1 c ++ (((cs.map lay1).flatten).take (k - (lay1 c).length)) := by
      rw [List.map_cons, List.flatten_cons, List.take_append, List.take_of_length_le (by omega)]
    have ih := parseL_cut cs (fun x hx => h x (by simp [hx])) i (k - (lay1 c).length) (by simpa using hi) (by omega) (by omega)
    rw [e]
    show (parseL (cs.length + 1) _).e = 30 ∧ (parseL (cs.length + 1) _).k = i + 1
    rw [parseL, one_lay hc.1 hc.2]
    simp only [if_true, List.drop_left, PL.pre]
    exact ⟨ih.1, by rw [ih.2]; simp; omega⟩
/-- Where the change of number i begins. -/
def pos (cs : List Chg) (i : Nat) : Nat := 2 + (((cs.take i).map lay1).flatten).length
theorem pos_zero (cs : List Chg) : pos cs 0 = 2 := by simp [pos]
theorem lay_len (cs : List Chg) : (layC cs).length = pos cs cs.length := by simp [layC, pos, num2]; omega
theorem pos_succ (cs : List Chg) (i : Nat) (hi : i < cs.length) (d : Chg) : pos cs (i + 1) = pos cs i + (lay1 (cs.getD i d)).length := by
  unfold pos
  rw [List.take_succ_eq_append_getElem hi, List.map_append, List.flatten_append, List.length_append, List.getD_eq_getElem?_getD, List.getElem?_eq_getElem hi]
  simp; omega
theorem cut_parse {cs : List Chg} (h : ∀ c ∈ cs, KV c) (hl : cs.length ≤ 64) {n i : Nat} (hn : 2 ≤ n) (hi : i < cs.length) (h1 : pos cs i ≤ n) (h2 : n < pos cs (i + 1)) : parseC ((layC cs).take n) = ⟨[], i, 30⟩ := by
  unfold pos at h1 h2
  have hc := parseL_cut cs h i (n - 2) hi (by omega) (by omega)
  have hlen : 2 ≤ (layC cs).length := by simp [layC, num2]
  have hnt : n ≤ (layC cs).length := by
    rw [lay_len]; unfold pos
    have : (((cs.take (i + 1)).map lay1).flatten).length ≤ ((cs.take cs.length).map lay1).flatten.length := by
      rw [List.take_length]
      conv => rhs; rw [← List.take_append_drop (i + 1) cs, List.map_append, List.flatten_append, List.length_append]
      omega
    omega
  have e0 : ((layC cs).take n) = num2 cs.length ++ ((cs.map lay1).flatten).take (n - 2) := by
    unfold layC
    rw [List.take_append, List.take_of_length_le (by simp [num2]; omega)]
    rfl
  have d0 : (num2 cs.length ++ ((cs.map lay1).flatten).take (n - 2)).getD 0 0 = ((cs.length % 256 : Nat) : Int) := rfl
  have d1 : (num2 cs.length ++ ((cs.map lay1).flatten).take (n - 2)).getD 1 0 = ((cs.length / 256 : Nat) : Int) := rfl
  have dd : (num2 cs.length ++ ((cs.map lay1).flatten).take (n - 2)).drop 2 = ((cs.map lay1).flatten).take (n - 2) := rfl
  have hnn : (((cs.length % 256 : Nat) : Int) + 256 * ((cs.length / 256 : Nat) : Int)) = (cs.length : Int) := by omega
  rw [e0]
  unfold parseC
  rw [if_neg (by simp [num2]), d0, d1, hnn, if_neg (by omega), dd, Int.toNat_natCast]
  simp only [hc.1, hc.2]
  rw [if_pos (by decide)]
theorem short_parse {z : List Int} (h : z.length < 2) : parseC z = ⟨[], 0, 30⟩ := by unfold parseC; rw [if_pos h]
theorem long_parse {cs : List Chg} (h : ∀ c ∈ cs, KV c) (hl : cs.length ≤ 64) {t : List Int} (ht : t ≠ []) : parseC (layC cs ++ t) = ⟨[], cs.length, 30⟩ := by
  have hp := parseL_lay cs h t
  have e : layC cs ++ t = num2 cs.length ++ ((cs.map lay1).flatten ++ t) := by simp [layC]
  have d0 : (num2 cs.length ++ ((cs.map lay1).flatten ++ t)).getD 0 0 = ((cs.length % 256 : Nat) : Int) := rfl
  have d1 : (num2 cs.length ++ ((cs.map lay1).flatten ++ t)).getD 1 0 = ((cs.length / 256 : Nat) : Int) := rfl
  have dd : (num2 cs.length ++ ((cs.map lay1).flatten ++ t)).drop 2 = ((cs.map lay1).flatten ++ t) := rfl
  have hnn : (((cs.length % 256 : Nat) : Int) + 256 * ((cs.length / 256 : Nat) : Int)) = (cs.length : Int) := by omega
  rw [e]
  unfold parseC
  rw [if_neg (by simp [num2]), d0, d1, hnn, if_neg (by omega), dd, Int.toNat_natCast]
  simp only [hp]
  rw [if_neg (by simp), if_pos ht]
end Go.Proofs.Ytcifbnldohmbnaa
