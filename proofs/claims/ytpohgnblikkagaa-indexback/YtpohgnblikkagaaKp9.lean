import Derived.Test.YtpohgnblikkagaaKp8
namespace Go.Proofs.Ytpohgnblikkagaa
set_option linter.unusedVariables false
set_option linter.unusedSimpArgs false
open Go.RowKit
attribute [local go_sem ↓] Go.wp_at_zero Go.wp_at_succ

theorem OwnK.row {w : World} {base : Nat} {v : Value} {vs : List Value} (h : OwnK w base v vs) (j : Nat) (hj : j < vs.length) : ∃ b cap cur, v = .slice (some ⟨b, 0, none⟩) vs.length cap ∧ w.heap[b]? = some (.cells cur 26 (0, 0)) ∧ cur[j]? = some (vs.getD j undef) := by
  obtain ⟨h1, ⟨rfl, hn⟩ | ⟨g, cap, cur, rfl, hg, hh, hc, hm, hs, ht⟩⟩ := h
  · omega
  · refine ⟨g, cap, cur, rfl, hh, ?_⟩
    have e : vs[j]? = cur.toList[j]? := by rw [← ht, List.getElem?_take, if_pos (by omega)]
    rw [List.getD_eq_getElem?_getD, e]
    have hj2 : j < cur.toList.length := by simp; omega
    rw [List.getElem?_eq_getElem hj2]
    simp
def Mk (zs cs : List (List Int)) (n k : Nat) : Prop := cs.length = zs.length ∧ (∀ r, (cs.getD r []).length = (zs.getD r []).length) ∧ (∀ r, r < n → r < zs.length → cs.getD r [] = mksK r (zs.getD r []).length) ∧ ∀ j, j < k → (cs.getD n []).getD j 0 = mkK n j
theorem Mk.set {zs cs : List (List Int)} {n k : Nat} (h : Mk zs cs n k) (hn : n < zs.length) (hk : k < (zs.getD n []).length) : Mk zs (cs.set n ((cs.getD n []).set k (mkK n k))) n (k + 1) := by
  have hnc : n < cs.length := by rw [h.1]; exact hn
  have e0 : (cs.set n ((cs.getD n []).set k (mkK n k))).getD n [] = (cs.getD n []).set k (mkK n k) := by simp [List.getD_eq_getElem?_getD, hnc]
  have e1 : ∀ r, r ≠ n → (cs.set n ((cs.getD n []).set k (mkK n k))).getD r [] = cs.getD r [] := fun r hr => by simp only [List.getD_eq_getElem?_getD]; rw [List.getElem?_set_ne (by omega)]
  refine ⟨by simp [h.1], fun r => ?_, fun r h1 h2 => ?_, fun j hj => ?_⟩
  · by_cases e : r = n
    · subst e; rw [e0, List.length_set]; exact h.2.1 r
    · rw [e1 r e]; exact h.2.1 r
  · rw [e1 r (by omega)]; exact h.2.2.1 r h1 h2
  · rw [e0]
    have hl : k < (cs.getD n []).length := by rw [h.2.1]; exact hk
    have h4 := h.2.2.2
    generalize cs.getD n [] = c at *
    by_cases e : j = k
    · subst e; simp only [List.getD_eq_getElem?_getD]; rw [List.getElem?_set_self (by omega)]; rfl
    · have := h4 j (by omega)
      simp only [List.getD_eq_getElem?_getD] at this ⊢
      rw [List.getElem?_set_ne (by omega)]; exact this
theorem Mk.next {zs cs : List (List Int)} {n : Nat} (h : Mk zs cs n (zs.getD n []).length) : Mk zs cs (n + 1) 0 := by
  refine ⟨h.1, h.2.1, fun r h1 h2 => ?_, fun j hj => by omega⟩
  by_cases e : r = n
  · subst e
    refine cmpK_all (by rw [h.2.1, mksK_len]) fun j hj => ?_
    rw [h.2.1] at hj
    rw [h.2.2.2 j hj, mksK_get _ _ _ hj]
  · exact h.2.2.1 r (by omega) h2
theorem AP.drew {w : World} {base B : Nat} {v1 v2 : Value} {L1 : List Value} {cs : List (List Int)} (h : AP w base B v1 v2 L1 cs) : AP w.drew base B v1 v2 L1 cs := ⟨h.hb, h.bk, h.o1, h.l1, h.e1, h.ap⟩
theorem GR.below {w w1 : World} {base B : Nat} {v1 v2 gv : Value} {L1 G : List Value} {cs : List (List Int)} {i : Nat} (h : GR w base B v1 v2 gv L1 G cs i) (hb : Below w.heap.size w w1) : GR w1 base B v1 v2 gv L1 G cs i :=
  ⟨h.hb, hbel hb h.bk (hlt h.bk), h.o1.of_heap fun k e => hb.block k (h.o1.heap k e).2.1, h.og.of_heap fun k e => hb.block k (h.og.heap k e).2.1, h.dj, h.l1, h.lg,
   fun r hr => by obtain ⟨sp, cap, e, hn, hS, hT⟩ := h.sr r hr; exact ⟨sp, cap, e, hn, hS.below hb (Nat.le_refl _), fun g hg => by obtain ⟨c, hc⟩ := hT g hg; exact ⟨c, hbel hb hc (hlt hc)⟩⟩,
   fun r h1 h2 => (h.e1 r h1 h2).below hb (Nat.le_refl _), fun j hj => (h.eg j hj).below hb (Nat.le_refl _), h.ap, h.ag⟩
theorem rws_of {w : World} {base : Nat} {v : Value} {vs : List Value} {ps : List (List Int)} (B0 : Nat) (hB0 : B0 < w.heap.size) (ho : OwnK w base v vs) (hl : vs.length = ps.length) (he : ∀ r, r < ps.length → ∃ sp cap, vs.getD r undef = .slice sp (ps.getD r []).length cap ∧ (sp = none → cap = 0) ∧ Src w sp cap (ps.getD r [])) : ∃ sp cap, v = .slice sp ps.length cap ∧ Rws w sp ps := by
  obtain ⟨sp, cap, b, e, hc, _, hp, hcell⟩ := ho.at
  rw [hl] at e
  by_cases h0 : 0 < ps.length
  · obtain ⟨b2, _, e2, _, l2, _⟩ := ho.el 0 (by rw [hl]; exact h0)
    rw [e, hl] at e2
    have hsp := hp (by rw [hl]; exact h0)
    refine ⟨sp, cap, e, b, 0, ?_, fun _ => hsp, fun r hr => ?_⟩
    · cases e2; cases hsp; exact l2
    · obtain ⟨sp', c, e3, hn, hS⟩ := he r hr
      refine ⟨sp', c, ?_, hn, hS⟩
      rw [Nat.zero_add, hcell r (by rw [hl]; exact hr), e3]
  · exact ⟨sp, cap, e, B0, 0, hB0, fun h1 => absurd h1 h0, fun r hr => absurd (Nat.lt_of_le_of_lt (Nat.zero_le _) hr) h0⟩
theorem GR.rws1 {w : World} {base B : Nat} {v1 v2 gv : Value} {L1 G : List Value} {cs : List (List Int)} {i : Nat} (h : GR w base B v1 v2 gv L1 G cs i) : ∃ sp cap, v1 = .slice sp cs.length cap ∧ Rws w sp cs :=
  rws_of B (hlt h.bk) h.o1 h.l1 fun r hr => by obtain ⟨sp, cap, e, hn, hS, _⟩ := h.sr r hr; exact ⟨sp, cap, e, hn, hS⟩
def grown (cs : List (List Int)) : List (List Int) := (List.range cs.length).map fun j => mksK j ((cs.getD j []).length + 300)
theorem grown_len (cs : List (List Int)) : (grown cs).length = cs.length := by simp [grown]
theorem grown_get (cs : List (List Int)) (j : Nat) (hj : j < cs.length) : (grown cs).getD j [] = mksK j ((cs.getD j []).length + 300) := by simp [grown, List.getD_eq_getElem?_getD, hj]
theorem GR.rwsG {w : World} {base B : Nat} {v1 v2 gv : Value} {L1 G : List Value} {cs : List (List Int)} (h : GR w base B v1 v2 gv L1 G cs cs.length) : ∃ sp cap, gv = .slice sp (grown cs).length cap ∧ Rws w sp (grown cs) :=
  rws_of B (hlt h.bk) h.og (by rw [h.lg, grown_len]) fun r hr => by
    rw [grown_len] at hr
    rw [grown_get cs r hr]
    obtain ⟨sp, cap, e, hS, hn⟩ := (h.eg r hr).form
    exact ⟨sp, cap, e, hn, hS⟩
end Go.Proofs.Ytpohgnblikkagaa
