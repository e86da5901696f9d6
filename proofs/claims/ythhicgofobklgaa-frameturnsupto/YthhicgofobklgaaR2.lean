import Derived.Test.YthhicgofobklgaaR1
namespace Go.Proofs.Ythhicgofobklgaa
set_option linter.unusedVariables false
set_option linter.unusedSimpArgs false
open Go.RowKit
attribute [local go_sem ↓] Go.wp_at_zero Go.wp_at_succ

/-- A page in memory, apart from three blocks. -/
def Pg (w : World) (A B C : Nat) (v : Value) (L : List Int) : Prop := ∃ b c rest, v = .slice (some ⟨b, 0, none⟩) 256 c ∧ 256 ≤ c ∧ c ≤ maxLen ∧ b ≠ A ∧ b ≠ B ∧ b ≠ C ∧ In w b rest L ∧ L.length = 256
theorem Pg.of {w w' : World} {A B C : Nat} {v : Value} {L : List Int} (h : Pg w A B C v L) (hk : ∀ b o, b ≠ A → b ≠ B → b ≠ C → w.heap[b]? = some o → w'.heap[b]? = some o) : Pg w' A B C v L := by
  obtain ⟨b, c, rest, h1, h2, h3, h4, h5, h6, h7, h8⟩ := h
  exact ⟨b, c, rest, h1, h2, h3, h4, h5, h6, hk b _ h4 h5 h6 h7, h8⟩
theorem Pg.form {w : World} {A B C : Nat} {v : Value} {L : List Int} (h : Pg w A B C v L) : ∃ b c, v = .slice (some ⟨b, 0, none⟩) 256 c ∧ Src w (some ⟨b, 0, none⟩) c L := by
  obtain ⟨b, c, rest, h1, h2, h3, h4, h5, h6, h7, h8⟩ := h
  exact ⟨b, c, h1, h7.src c (by omega) h3⟩
theorem Pg.own {w : World} {A B C base : Nat} {v : Value} {L : List Int} (h : Own w base v L) (hl : L.length = 256) (hA : A < base) (hB : B < base) (hC : C < base) : Pg w A B C v L := by
  obtain ⟨spv, capv, g, rest, h1, h2, h3, h4, h5, h6⟩ := h.ot
  obtain ⟨rfl, hh⟩ := h6 (by omega)
  rw [hl] at h1 h3
  exact ⟨g, capv, rest, h1, h3, h4, by omega, by omega, by omega, hh, hl⟩
theorem Pg.row {w : World} {A B C base g : Nat} {L : List Int} (h : w.heap[g]? = some (.cells (ints .u8 L).toArray 5 (0, 0))) (hl : L.length = 256) (hg : base ≤ g) (hA : A < base) (hB : B < base) (hC : C < base) : Pg w A B C (.slice (some ⟨g, 0, none⟩) 256 256) L :=
  ⟨g, 256, [], rfl, Nat.le_refl _, by decide, by omega, by omega, by omega, by unfold In; rw [List.append_nil]; exact h, hl⟩
/-- Where FrameTurns is. -/
structure TS (w wr : World) (GS G10 G11 : Nat) (v0 v1 : Value) (L0 L1 : List Int) (s t : Sup) : Prop where
  rS : wr.heap[GS]? = some (.cells #[v0, v1] 25 (0, 0))
  r10 : wr.heap[G10]? = some (.cells (supC s) 27 (0, 0))
  r11 : wr.heap[G11]? = some (.cells (supC t) 27 (0, 0))
  h0 : Pg wr GS G10 G11 v0 L0
  h1 : Pg wr GS G10 G11 v1 L1
  n1 : GS ≠ G10
  n2 : GS ≠ G11
  n3 : G10 ≠ G11
  lS : w.heap.size ≤ GS
  l10 : w.heap.size ≤ G10
  l11 : w.heap.size ≤ G11
  bl : Below w.heap.size w wr
theorem TS.below {w wr w2 : World} {GS G10 G11 : Nat} {v0 v1 : Value} {L0 L1 : List Int} {s t : Sup} (h : TS w wr GS G10 G11 v0 v1 L0 L1 s t) (hb : Below wr.heap.size wr w2) : TS w w2 GS G10 G11 v0 v1 L0 L1 s t :=
  ⟨hbel hb h.rS (hlt h.rS), hbel hb h.r10 (hlt h.r10), hbel hb h.r11 (hlt h.r11), h.h0.of fun b o _ _ _ hh => hbel hb hh (hlt hh), h.h1.of fun b o _ _ _ hh => hbel hb hh (hlt hh), h.n1, h.n2, h.n3, h.lS, h.l10, h.l11, h.bl.trans (hb.mono h.bl.size)⟩
theorem TS.setT {w wr : World} {GS G10 G11 : Nat} {v0 v1 : Value} {L0 L1 : List Int} {s t : Sup} (h : TS w wr GS G10 G11 v0 v1 L0 L1 s t) (t' : Sup) : TS w (wr.setRow G11 (supC t')) GS G10 G11 v0 v1 L0 L1 s t' :=
  ⟨(setRow_other wr _ _ _ h.n2).trans h.rS, (setRow_other wr _ _ _ h.n3).trans h.r10, setRow_heap wr _ _ _ _ _ h.r11, h.h0.of fun b o _ _ hc hh => (setRow_other wr _ _ _ hc).trans hh, h.h1.of fun b o _ _ hc hh => (setRow_other wr _ _ _ hc).trans hh, h.n1, h.n2, h.n3, h.lS, h.l10, h.l11, below_setRow h.bl h.l11 _⟩
theorem TS.setS {w wr : World} {GS G10 G11 : Nat} {v0 v1 : Value} {L0 L1 : List Int} {s t : Sup} (h : TS w wr GS G10 G11 v0 v1 L0 L1 s t) (s' : Sup) : TS w (wr.setRow G10 (supC s')) GS G10 G11 v0 v1 L0 L1 s' t :=
  ⟨(setRow_other wr _ _ _ h.n1).trans h.rS, setRow_heap wr _ _ _ _ _ h.r10, (setRow_other wr _ _ _ h.n3.symm).trans h.r11, h.h0.of fun b o _ hb _ hh => (setRow_other wr _ _ _ hb).trans hh, h.h1.of fun b o _ hb _ hh => (setRow_other wr _ _ _ hb).trans hh, h.n1, h.n2, h.n3, h.lS, h.l10, h.l11, below_setRow h.bl h.l10 _⟩
theorem TS.ge1 {w wr : World} {GS G10 G11 : Nat} {v0 v1 : Value} {L0 L1 : List Int} {s t : Sup} (h : TS w wr GS G10 G11 v0 v1 L0 L1 s t) (x : Int) : TS w (wr.setCell ⟨G10, 1, none⟩ (.int .i64 x)) GS G10 G11 v0 v1 L0 L1 { s with ge := x } t :=
  ⟨heap_set_far h.rS _ _ h.n1, heap_setCell_same wr _ 1 _ _ _ h.r10, heap_set_far h.r11 _ _ h.n3.symm, h.h0.of fun b o _ hb _ hh => heap_set_far hh _ _ hb, h.h1.of fun b o _ hb _ hh => heap_set_far hh _ _ hb, h.n1, h.n2, h.n3, h.lS, h.l10, h.l11, h.bl.setCell h.l10 _⟩
/-- One of the two slots is laid anew. -/
def sel {α : Type} (k : Nat) (n : Nat) (x y : α) : α := if k = n then x else y
theorem TS.setV {w wr : World} {GS G10 G11 : Nat} {v0 v1 : Value} {L0 L1 : List Int} {s t : Sup} (h : TS w wr GS G10 G11 v0 v1 L0 L1 s t) (k : Nat) (hk : k < 2) (v : Value) (L : List Int) (hp : Pg wr GS G10 G11 v L) :
    TS w (wr.setCell ⟨GS, k, none⟩ v) GS G10 G11 (sel k 0 v v0) (sel k 1 v v1) (sel k 0 L L0) (sel k 1 L L1) s t := by
  have hw : ∀ {u : Value} {M : List Int}, Pg wr GS G10 G11 u M → Pg (wr.setCell ⟨GS, k, none⟩ v) GS G10 G11 u M := fun hq => hq.of fun b o ha _ _ hh => heap_set_far hh _ _ ha
  have hr := heap_setCell_same wr GS k _ _ v h.rS
  refine ⟨?_, heap_set_far h.r10 _ _ h.n1.symm, heap_set_far h.r11 _ _ h.n2.symm, ?_, ?_, h.n1, h.n2, h.n3, h.lS, h.l10, h.l11, h.bl.setCell h.lS _⟩
  · rw [hr]
    match k, hk with
    | 0, _ => rfl
    | 1, _ => rfl
  · match k, hk with
    | 0, _ => exact hw hp
    | 1, _ => exact hw h.h0
  · match k, hk with
    | 0, _ => exact hw h.h1
    | 1, _ => exact hw hp
theorem TS.cellV {w wr : World} {GS G10 G11 : Nat} {v0 v1 : Value} {L0 L1 : List Int} {s t : Sup} (h : TS w wr GS G10 G11 v0 v1 L0 L1 s t) (k : Nat) (hk : k < 2) : wr.cell? ⟨GS, k, none⟩ = some (sel k 0 v0 v1) ∧ wr.frozen? ⟨GS, k, none⟩ = false ∧ Pg wr GS G10 G11 (sel k 0 v0 v1) (sel k 0 L0 L1) := by
  refine ⟨?_, frozen_of_row _ _ _ _ _ h.rS, ?_⟩
  · match k, hk with
    | 0, _ => exact cell_of_row wr _ 0 _ _ _ h.rS
    | 1, _ => exact cell_of_row wr _ 1 _ _ _ h.rS
  · match k, hk with
    | 0, _ => exact h.h0
    | 1, _ => exact h.h1
/-- Both slots stand, one apart. -/
def Good (s o : Sup) (L0 L1 : List Int) : Prop := validS s = true ∧ validS o = true ∧ Fol s o ∧ ∃ Y Z : List Int, Y.length = 192 ∧ Z.length = 192 ∧ Byts Y ∧ Byts Z ∧ ((s.ge % 2 = 0 ∧ L0 = secS s ++ Y ∧ L1 = secS o ++ Z) ∨ (s.ge % 2 = 1 ∧ L0 = secS o ++ Y ∧ L1 = secS s ++ Z))
theorem Good.choose {s o : Sup} {L0 L1 : List Int} (h : Good s o L0 L1) : chooseF L0 L1 = (s, 0) ∧ Byts L0 ∧ Byts L1 ∧ L0.length = 256 ∧ L1.length = 256 := by
  obtain ⟨hv, ho, hf, Y, Z, hY, hZ, y8, z8, h | h⟩ := h
  · obtain ⟨hp, rfl, rfl⟩ := h
    have hb := (validS_iff s).1 hv
    refine ⟨choose_odd o s Y Z hY hZ ho hv hf (by rw [Int.tmod_eq_emod_of_nonneg (by omega)]; exact hp), byts_app (secS_byts s hv) y8, byts_app (secS_byts o ho) z8, by rw [List.length_append, secS_len, hY], by rw [List.length_append, secS_len, hZ]⟩
  · obtain ⟨hp, rfl, rfl⟩ := h
    have hb := (validS_iff o).1 ho
    have h1 := hf.1
    refine ⟨choose_even o s Y Z hY hZ ho hv hf (by rw [Int.tmod_eq_emod_of_nonneg (by omega)]; omega), byts_app (secS_byts o ho) y8, byts_app (secS_byts s hv) z8, by rw [List.length_append, secS_len, hY], by rw [List.length_append, secS_len, hZ]⟩
theorem Good.older {s o : Sup} {L0 L1 : List Int} (h : Good s o L0 L1) (k : Nat) (hk : (s.ge + 1) % 2 = (k : Int)) : ∃ Z : List Int, Z.length = 192 ∧ sel k 0 L0 L1 = secS o ++ Z := by
  obtain ⟨hv, ho, hf, Y, Z, hY, hZ, y8, z8, h | h⟩ := h
  · obtain ⟨hp, rfl, rfl⟩ := h
    obtain rfl : k = 1 := by omega
    exact ⟨Z, hZ, rfl⟩
  · obtain ⟨hp, rfl, rfl⟩ := h
    obtain rfl : k = 0 := by omega
    exact ⟨Y, hY, rfl⟩
theorem Good.keep {s o : Sup} {L0 L1 : List Int} (h : Good s o L0 L1) (k : Nat) (hk : (s.ge + 1) % 2 = (k : Int)) (T : List Int) (hT : T.length = 192) (t8 : Byts T) : Good s o (sel k 0 (secS o ++ T) L0) (sel k 1 (secS o ++ T) L1) := by
  obtain ⟨hv, ho, hf, Y, Z, hY, hZ, y8, z8, h | h⟩ := h
  · obtain ⟨hp, rfl, rfl⟩ := h
    obtain rfl : k = 1 := by omega
    exact ⟨hv, ho, hf, Y, T, hY, hT, y8, t8, Or.inl ⟨hp, rfl, rfl⟩⟩
  · obtain ⟨hp, rfl, rfl⟩ := h
    obtain rfl : k = 0 := by omega
    exact ⟨hv, ho, hf, T, Z, hT, hZ, t8, z8, Or.inr ⟨hp, rfl, rfl⟩⟩
theorem Good.next {s o u : Sup} {L0 L1 : List Int} (h : Good s o L0 L1) (k : Nat) (hk : (s.ge + 1) % 2 = (k : Int)) (hu : validS u = true) (hf' : Fol u s) (T : List Int) (hT : T.length = 192) (t8 : Byts T) : Good u s (sel k 0 (secS u ++ T) L0) (sel k 1 (secS u ++ T) L1) := by
  have hg := hf'.1
  obtain ⟨hv, ho, hf, Y, Z, hY, hZ, y8, z8, h | h⟩ := h
  · obtain ⟨hp, rfl, rfl⟩ := h
    obtain rfl : k = 1 := by omega
    exact ⟨hu, hv, hf', Y, T, hY, hT, y8, t8, Or.inr ⟨by omega, rfl, rfl⟩⟩
  · obtain ⟨hp, rfl, rfl⟩ := h
    obtain rfl : k = 0 := by omega
    exact ⟨hu, hv, hf', T, Z, hT, hZ, t8, z8, Or.inl ⟨by omega, rfl, rfl⟩⟩
theorem zz_empty : emptyF (zz 256) = true := by decide +kernel
theorem blank2 : chooseF (zz 256) (zz 256) = (sup0, 55) := by decide +kernel
theorem blank1 (s : Sup) (Y : List Int) (hv : validS s = true) (hY : Y.length = 192) (hg : s.ge = 0) : chooseF (secS s ++ Y) (zz 256) = (sup0, 55) := by
  have hu : (unSuperF (zz 256)).2 ≠ 0 := by decide +kernel
  unfold chooseF
  rw [unS_app s Y hv hY, if_neg (fun h => hu h.2), if_pos (Or.inl ⟨rfl, hg⟩), if_pos zz_empty]
/-- One turn. -/
structure TR where
  rise : Int
  head : Int
  crash : Bool
  kept : Bool
  tail : List Int
instance : Inhabited TR := ⟨⟨0, 0, false, false, []⟩⟩
def TrOk (r : TR) : Prop := (-9223372036854775808 ≤ r.rise ∧ r.rise ≤ 9223372036854775807) ∧ (-9223372036854775808 ≤ r.head ∧ r.head ≤ 9223372036854775807) ∧ Byts r.tail
def Trn (w : World) (sp : Option Addr) (rs : List TR) : Prop := ∃ b o, (0 < rs.length → b < w.heap.size ∧ sp = some ⟨b, o, none⟩) ∧ ∀ i, i < rs.length → ∃ tp tc, w.rangeAt b (o + i * 5) [.int .i64 rs[i]!.rise, .int .i64 rs[i]!.head, .bool rs[i]!.crash, .bool rs[i]!.kept, .slice tp rs[i]!.tail.length tc] ∧ Src w tp tc rs[i]!.tail
end Go.Proofs.Ythhicgofobklgaa
