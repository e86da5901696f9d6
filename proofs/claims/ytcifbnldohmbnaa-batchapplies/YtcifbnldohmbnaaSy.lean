import Derived.Test.YtcifbnldohmbnaaSw
import Derived.Test.YtcifbnldohmbnaaSx
namespace Go.Proofs.Ytcifbnldohmbnaa
set_option linter.unusedVariables false
set_option linter.unusedSimpArgs false

/-! The laws of Fold, over lists. -/
structure Nrm (l : List Chg) : Prop where
  lt : l.Pairwise LtC
  plain : ∀ c ∈ l, plainC c = c
  short : ∀ c ∈ l, c.del = false → c.val.length ≤ 128
theorem short_iff (l : List Chg) : longC l = false ↔ ∀ c ∈ l, c.del = false → c.val.length ≤ 128 := by
  constructor
  · exact not_long
  · intro h
    unfold longC
    rw [List.any_eq_false]
    intro c hc
    cases hd : c.del with
    | true => simp
    | false => have := h c hc hd; simp; omega
theorem Nrm.norm {l : List Chg} (h : Nrm l) : normC l = l :=
  (norm_unique (by rw [List.map_congr_left (g := id) (fun c hc => h.plain c hc), List.map_id]) (h.lt.imp LtC.le) (pairwise_ne_of_lt h.lt)).symm
theorem Nrm.wrong {l : List Chg} (h : Nrm l) (n : Nat) (hl : l.length ≤ n) : wrongC l n = 0 := wrong_zero.2 ⟨hl, (short_iff l).2 h.short, pairwise_ne_of_lt h.lt⟩
theorem nrm_of {cs : List Chg} {n : Nat} (h : wrongC cs n = 0) : Nrm (normC cs) := by
  obtain ⟨h1, h2, h3⟩ := wrong_zero.1 h
  refine ⟨normC_lt h3, fun c hc => ?_, fun c hc hd => ?_⟩
  · obtain ⟨d, hd, rfl⟩ := List.mem_map.1 ((normC_perm cs).mem_iff.1 hc)
    exact plainC_plain d
  · obtain ⟨d, hd2, rfl⟩ := List.mem_map.1 ((normC_perm cs).mem_iff.1 hc)
    have hd3 : d.del = false := hd
    have := (short_iff cs).1 h2 d hd2 hd3
    unfold plainC
    simpa [hd3] using this
theorem Nrm.merge {a b : List Chg} (ha : Nrm a) (hb : Nrm b) : Nrm (mergeL a b) :=
  ⟨merge_lt _ _ ha.lt hb.lt, fun c hc => (merge_sub ha.lt hb.lt hc).elim (ha.plain c) (hb.plain c), fun c hc => (merge_sub ha.lt hb.lt hc).elim (ha.short c) (hb.short c)⟩
theorem Nrm.nil : Nrm [] := ⟨List.Pairwise.nil, fun c hc => by simp at hc, fun c hc => by simp at hc⟩
theorem wrong_mono {cs : List Chg} {n m : Nat} (h : wrongC cs n = 0) (hnm : n ≤ m) : wrongC cs m = 0 := by
  obtain ⟨h1, h2, h3⟩ := wrong_zero.1 h
  exact wrong_zero.2 ⟨by omega, h2, h3⟩
theorem fol_of {a b : List Chg} (ha : wrongC a 4096 = 0) (hb : wrongC b 4096 = 0) (hl : (mergeL (normC a) (normC b)).length ≤ 64) : FolE a b = 0 ∧ FolL a b = mergeL (normC a) (normC b) := by
  have e : FolE a b = 0 := by
    unfold FolE NorE
    rw [ha, hb, if_neg (by simp), if_neg (by simp), if_neg (by omega)]
  exact ⟨e, by unfold FolL; rw [if_pos e]⟩
theorem nor_of {a : List Chg} (ha : wrongC a 4096 = 0) : NorE a = 0 ∧ NorL a = normC a := ⟨ha, by unfold NorL; rw [if_pos ha]⟩
theorem merge_norm_len {a b : List Chg} {n m : Nat} (ha : wrongC a n = 0) (hb : wrongC b m = 0) : (mergeL (normC a) (normC b)).length = keysN a b := by
  rw [merge_len _ _ (nrm_of ha).lt (nrm_of hb).lt]
  exact keysN_perm (norm_keys a) (norm_keys b)
theorem sub_len : ∀ {l m : List (List Int)}, l.Nodup → (∀ k ∈ l, k ∈ m) → l.length ≤ m.length
  | [], m, _, _ => Nat.zero_le _
  | k :: l, m, hl, h => by
    obtain ⟨h1, h2⟩ := List.nodup_cons.1 hl
    have hk := h k (by simp)
    have := sub_len (l := l) (m := m.erase k) h2 (fun x hx => (List.mem_erase_of_ne (show x ≠ k from fun e => h1 (by rw [← e]; exact hx))).2 (h x (by simp [hx])))
    rw [List.length_erase_of_mem hk] at this
    have : 0 < m.length := List.length_pos_of_mem hk
    simp only [List.length_cons]; omega
theorem len_right {a b : List Chg} (ha : Nrm a) (hb : Nrm b) : b.length ≤ (mergeL a b).length := by
  have := sub_len (pairwise_ne_of_lt hb.lt) (fun k hk => (merge_keys ha.lt hb.lt k).2 (Or.inr hk))
  simpa [keysC] using this
/-- What the three lists have to be. -/
structure Chains (a b c : List Chg) : Prop where
  e1 : FolE a b = 0
  e2 : FolE b c = 0
  e3 : FolE (FolL a b) c = 0
  e4 : FolE a (FolL b c) = 0
  same : FolL (FolL a b) c = FolL a (FolL b c)
  len : (FolL (FolL a b) c).length = keysN (FolL a b) c
  e5 : NorE a = 0
  e6 : FolE [] a = 0
  e7 : FolE a [] = 0
  e8 : FolE a a = 0
  len5 : (NorL a).length = a.length
  e9 : NorE (NorL a) = 0
  s6 : NorL a = FolL [] a
  s7 : NorL a = FolL a []
  s8 : NorL a = FolL a a
  s9 : NorL a = NorL (NorL a)
  l1 : (FolL a b).length ≤ 64
theorem chains {a b c : List Chg} (ha : wrongC a 64 = 0) (hb : wrongC b 64 = 0) (hc : wrongC c 64 = 0) (hn : keysN a b + c.length ≤ 64) : Chains a b c := by
  have a' := wrong_mono ha (show 64 ≤ 4096 by decide)
  have b' := wrong_mono hb (show 64 ≤ 4096 by decide)
  have c' := wrong_mono hc (show 64 ≤ 4096 by decide)
  have Na := nrm_of ha
  have Nb := nrm_of hb
  have Nc := nrm_of hc
  have la := (wrong_zero.1 ha).1
  have lab := merge_norm_len ha hb
  have lbc := merge_norm_len hb hc
  have hb2 := len_right Na Nb
  rw [normC_len] at hb2
  have hbc := keysN_le b c
  have Nab := Na.merge Nb
  have Nbc := Nb.merge Nc
  obtain ⟨e1, f1⟩ := fol_of a' b' (by omega)
  obtain ⟨e2, f2⟩ := fol_of b' c' (by omega)
  have lleft : (mergeL (mergeL (normC a) (normC b)) (normC c)).length ≤ 64 := by
    rw [merge_len _ _ Nab.lt Nc.lt]
    have := keysN_le (mergeL (normC a) (normC b)) (normC c)
    rw [normC_len] at this
    omega
  have asc := merge_assoc Na.lt Nb.lt Nc.lt
  obtain ⟨e3, f3⟩ := fol_of (a := mergeL (normC a) (normC b)) (b := c) (Nab.wrong _ (by omega)) c' (by rw [Nab.norm]; exact lleft)
  obtain ⟨e4, f4⟩ := fol_of (a := a) (b := mergeL (normC b) (normC c)) a' (Nbc.wrong _ (by omega)) (by rw [Nbc.norm, ← asc]; exact lleft)
  rw [Nab.norm] at f3
  rw [Nbc.norm] at f4
  obtain ⟨e5, f5⟩ := nor_of a'
  have n0 : normC [] = [] := Nrm.nil.norm
  obtain ⟨e6, f6⟩ := fol_of (a := []) (b := a) (Nrm.nil.wrong _ (by simp)) a' (by rw [n0, merge_nil_l, normC_len]; exact la)
  obtain ⟨e7, f7⟩ := fol_of (a := a) (b := []) a' (Nrm.nil.wrong _ (by simp)) (by rw [n0, merge_nil_r, normC_len]; exact la)
  obtain ⟨e8, f8⟩ := fol_of (a := a) (b := a) a' a' (by rw [merge_self Na.lt, normC_len]; exact la)
  obtain ⟨e9, f9⟩ := nor_of (a := normC a) (Na.wrong _ (by rw [normC_len]; omega))
  rw [n0, merge_nil_l] at f6
  rw [n0, merge_nil_r] at f7
  rw [merge_self Na.lt] at f8
  rw [Na.norm] at f9
  refine ⟨e1, e2, by rw [f1]; exact e3, by rw [f2]; exact e4, ?_, ?_, e5, e6, e7, e8, by rw [f5, normC_len], by rw [f5]; exact e9, by rw [f5, f6], by rw [f5, f7], by rw [f5, f8], by rw [f5, f9], by rw [f1]; omega⟩
  · rw [f1, f2, f3, f4, asc]
  · rw [f1, f3, merge_len _ _ Nab.lt Nc.lt]
    exact keysN_perm (List.Perm.refl _) (norm_keys c)
end Go.Proofs.Ytcifbnldohmbnaa
