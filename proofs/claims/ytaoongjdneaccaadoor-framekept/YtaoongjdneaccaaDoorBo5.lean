import Derived.Test.YtaoongjdneaccaaDoorBo4
namespace Go.Proofs.YtaoongjdneaccaaDoor
set_option linter.unusedVariables false
set_option linter.unusedSimpArgs false
open Go.RowKit
attribute [local go_sem ↓] Go.wp_at_zero Go.wp_at_succ

/-- Another list of slices grows. -/
theorem Bk.other {w w' : World} {base B : Nat} {v1 v2 v3 v4 va : Value} {L1 L2 L3 L4 LA : List Value} {ns : List Nat} (h : Bk w base B v1 v2 v3 v4 L1 L2 L3 L4 ns) (ha : OwnS w base va LA) (d1 : Dj v1 va) (d2 : Dj v2 va) (d3 : Dj v3 va) (d4 : Dj v4 va)
    (hk : ∀ k, k < w.heap.size → va.ownBlock ≠ some k → w'.heap[k]? = w.heap[k]?) : Bk w' base B v1 v2 v3 v4 L1 L2 L3 L4 ns := by
  have hS : ∀ {v : Value} {vs : List Value}, OwnS w base v vs → Dj v va → OwnS w' base v vs := fun hv hd => hv.of_heap fun k e => hk k (hv.heap k e).2.1 (fun q => hd k e q)
  refine ⟨h.hb, (hk B (hlt h.bk) (own_ne ha h.bk)).trans h.bk, hS h.o1 d1, hS h.o2 d2, hS h.o3 d3, hS h.o4 d4, h.d12, h.d13, h.d14, h.d23, h.d24, h.d34, h.en.of_heap fun k cs a1 a2 _ _ => hk k a1 (fun e => ?_)⟩
  obtain ⟨_, _, x, hx⟩ := ha.heap k e
  exact ne_of_type a2 hx (by decide) rfl
theorem getD_two (LA : List Value) (a b : Value) (j : Nat) : (LA ++ [a, b]).getD j undef = if j = LA.length + 1 then b else if j = LA.length then a else LA.getD j undef := by
  have e : LA ++ [a, b] = (LA ++ [a]) ++ [b] := by simp
  rw [e, getD_snoc, getD_snoc]
  simp
/-- What holds behind n calls. -/
structure KSt (w wr : World) (B n m : Nat) (v1 v2 v3 v4 va vw : Value) (L1 L2 L3 L4 LA LW : List Value) (ns : List Nat) : Prop where
  bk : Bk wr w.heap.size B v1 v2 v3 v4 L1 L2 L3 L4 ns
  ln : ns.length ≤ m
  bd : ∀ i, ns.getD i 0 ≤ 4000000
  oa : OwnS wr w.heap.size va LA
  la : LA.length = 2 * n
  ow : OwnS wr w.heap.size vw LW
  lw : LW.length = 2 * n
  e1 : Dj v1 va
  e2 : Dj v2 va
  e3 : Dj v3 va
  e4 : Dj v4 va
  f1 : Dj v1 vw
  f2 : Dj v2 vw
  f3 : Dj v3 vw
  f4 : Dj v4 vw
  ew : Dj va vw
  cs : ∀ j, j < 2 * n → ∃ zs, Own wr w.heap.size (LA.getD j undef) zs ∧ Own wr w.heap.size (LW.getD j undef) zs ∧ zs.length ≤ 1000000
  di : ∀ i j, i < j → j < 2 * n → ∀ k, (LA.getD i undef).ownBlock = some k → (LA.getD j undef).ownBlock ≠ some k
  of : ∀ j, j < 2 * n → ∀ g, (LA.getD j undef).ownBlock = some g → Off g L1 L2 L3 L4
  bl : Below w.heap.size w wr
theorem KSt.below {w wr w1 : World} {B n m : Nat} {v1 v2 v3 v4 va vw : Value} {L1 L2 L3 L4 LA LW : List Value} {ns : List Nat} (h : KSt w wr B n m v1 v2 v3 v4 va vw L1 L2 L3 L4 LA LW ns) (hb : Below wr.heap.size wr w1) : KSt w w1 B n m v1 v2 v3 v4 va vw L1 L2 L3 L4 LA LW ns :=
  ⟨h.bk.below hb, h.ln, h.bd, h.oa.of_heap fun k e => hb.block k (h.oa.heap k e).2.1, h.la, h.ow.of_heap fun k e => hb.block k (h.ow.heap k e).2.1, h.lw, h.e1, h.e2, h.e3, h.e4, h.f1, h.f2, h.f3, h.f4, h.ew, fun j hj => by
    obtain ⟨zs, a, b, c⟩ := h.cs j hj
    exact ⟨zs, a.below hb (Nat.le_refl _), b.below hb (Nat.le_refl _), c⟩, h.di, h.of, h.bl.trans (hb.mono h.bl.size)⟩
theorem KSt.play {w wr w' : World} {B n m : Nat} {v1 v2 v3 v4 va vw : Value} {L1 L2 L3 L4 LA LW : List Value} {ns : List Nat} (h : KSt w wr B n m v1 v2 v3 v4 va vw L1 L2 L3 L4 LA LW ns) (p : PL wr w.heap.size B v1 v2 v3 v4 L1 L2 L3 L4 ns w') :
    ∃ v1' v2' v3' v4' L1' L2' L3' L4' ns', KSt w w' B n (m + 1) v1' v2' v3' v4' va vw L1' L2' L3' L4' LA LW ns' := by
  obtain ⟨v1', v2', v3', v4', L1', L2', L3', L4', ns', q1, q2, q3, q4, q5, q6, q7, q8, q9, q10⟩ := p
  have tS : ∀ {u : Value} {us : List Value}, OwnS wr w.heap.size u us → Dj v1 u → Dj v2 u → Dj v3 u → Dj v4 u → OwnS w' w.heap.size u us := fun hu d1 d2 d3 d4 => hu.of_heap fun k e =>
    q9 k (hu.heap k e).2.1 (fun hk => own_ne hu h.bk.bk (hk ▸ e)) (fun q => d1 k q e) (fun q => d2 k q e) (fun q => d3 k q e) (fun q => d4 k q e)
  have tO : ∀ {x : Value} {zs : List Int}, Own wr w.heap.size x zs → Own w' w.heap.size x zs := fun hx => own_put (l := .slice none 0 0) h.bk (fun k a1 _ a2 a3 a4 a5 a6 => q9 k a1 a2 a3 a4 a5 a6) hx (fun k _ => by simp [Value.ownBlock])
  have hl := h.ln
  refine ⟨v1', v2', v3', v4', L1', L2', L3', L4', ns', q1, by omega, q3 h.bd, tS h.oa h.e1 h.e2 h.e3 h.e4, h.la, tS h.ow h.f1 h.f2 h.f3 h.f4, h.lw, DjS.push h.oa h.e1 q4, DjS.push h.oa h.e2 q5, DjS.push h.oa h.e3 q6, DjS.push h.oa h.e4 q7, DjS.push h.ow h.f1 q4, DjS.push h.ow h.f2 q5, DjS.push h.ow h.f3 q6, DjS.push h.ow h.f4 q7, h.ew, fun j hj => ?_, h.di, fun j hj g e => ?_, h.bl.trans q10⟩
  · obtain ⟨zs, a, b, c⟩ := h.cs j hj
    exact ⟨zs, tO a, tO b, c⟩
  · obtain ⟨zs, a, _⟩ := h.cs j hj
    exact q8 g (own_heap5 a g e).1 (h.of j hj g e)
theorem own_other {w w' : World} {b2 base : Nat} {u v : Value} {us : List Value} {zs : List Int} (hu : OwnS w base u us) (hk : ∀ k, k < w.heap.size → u.ownBlock ≠ some k → w'.heap[k]? = w.heap[k]?) (ho : Own w b2 v zs) : Own w' b2 v zs :=
  ho.of_heap fun k e => by
    obtain ⟨q1, cs, q2⟩ := own_heap5 ho k e
    refine hk k q1 fun e2 => ?_
    obtain ⟨_, _, x, hx⟩ := hu.heap k e2
    exact ne_of_type q2 hx (by decide) rfl
theorem ownS_other {w w' : World} {base : Nat} {u v : Value} {vs : List Value} (hv : OwnS w base v vs) (hd : Dj u v) (hk : ∀ k, k < w.heap.size → u.ownBlock ≠ some k → w'.heap[k]? = w.heap[k]?) : OwnS w' base v vs :=
  hv.of_heap fun k e => hk k (hv.heap k e).2.1 fun e2 => hd k e2 e
theorem KSt.grow {w wr w8 w9 w10 : World} {B n m : Nat} {v1 v2 v3 v4 va vw va' vw' : Value} {L1 L2 L3 L4 LA LW : List Value} {ns : List Nat} (h : KSt w wr B n m v1 v2 v3 v4 va vw L1 L2 L3 L4 LA LW ns) (hb : Below wr.heap.size wr w8) {l kk mm : Value} {zs : List Int}
    (OL : Own w8 wr.heap.size l zs) (OK : Own w8 wr.heap.size kk zs) (OM : Own w8 wr.heap.size mm zs) (hd : ∀ q, l.ownBlock = some q → kk.ownBlock ≠ some q) (hz : zs.length ≤ 1000000)
    (q1 : OwnS w9 w.heap.size va' (LA ++ [l, kk])) (q2 : Below w.heap.size w8 w9) (q3 : ∀ k, k < w8.heap.size → va.ownBlock ≠ some k → w9.heap[k]? = w8.heap[k]?) (q4 : At w8 va va')
    (r1 : OwnS w10 w.heap.size vw' (LW ++ [mm, mm])) (r2 : Below w.heap.size w9 w10) (r3 : ∀ k, k < w9.heap.size → vw.ownBlock ≠ some k → w10.heap[k]? = w9.heap[k]?) (r4 : At w9 vw vw') :
    KSt w w10 B (n + 1) m v1 v2 v3 v4 va' vw' L1 L2 L3 L4 (LA ++ [l, kk]) (LW ++ [mm, mm]) ns := by
  have h8 := h.below hb
  have hsz := hb.size
  have hbw := h.bl.size
  have b9 := h8.bk.other h8.oa h8.e1 h8.e2 h8.e3 h8.e4 q3
  have ow9 := ownS_other h8.ow h8.ew q3
  have b10 := b9.other ow9 h8.f1 h8.f2 h8.f3 h8.f4 r3
  have dW : Dj va' vw := DjS.push h8.ow h8.ew q4
  have oa10 : OwnS w10 w.heap.size va' (LA ++ [l, kk]) := ownS_other q1 dW.symm r3
  have tO : ∀ {b : Nat} {x : Value} {ys : List Int}, Own w8 b x ys → Own w10 b x ys := fun hx => own_other ow9 r3 (own_other h8.oa q3 hx)
  have d1 : Dj v1 va' := (DjS.push h8.bk.o1 h8.e1.symm q4).symm
  have d2 : Dj v2 va' := (DjS.push h8.bk.o2 h8.e2.symm q4).symm
  have d3 : Dj v3 va' := (DjS.push h8.bk.o3 h8.e3.symm q4).symm
  have d4 : Dj v4 va' := (DjS.push h8.bk.o4 h8.e4.symm q4).symm
  refine ⟨b10, h.ln, h.bd, oa10, by rw [List.length_append, h.la]; simp; omega, r1, by rw [List.length_append, h.lw]; simp; omega, d1, d2, d3, d4, (DjS.push b9.o1 h8.f1.symm r4).symm, (DjS.push b9.o2 h8.f2.symm r4).symm, (DjS.push b9.o3 h8.f3.symm r4).symm, (DjS.push b9.o4 h8.f4.symm r4).symm, (DjS.push q1 dW.symm r4).symm, fun j hj => ?_, fun i j hij hj k hk => ?_, fun j hj g e => ?_, (h8.bl.trans q2).trans r2⟩
  · rw [getD_two, getD_two, h.la, h.lw]
    by_cases h1 : j = 2 * n + 1
    · rw [if_pos h1, if_pos h1]; exact ⟨zs, tO (own_up OK hbw), tO (own_up OM hbw), hz⟩
    · rw [if_neg h1, if_neg h1]
      by_cases h2 : j = 2 * n
      · rw [if_pos h2, if_pos h2]; exact ⟨zs, tO (own_up OL hbw), tO (own_up OM hbw), hz⟩
      · rw [if_neg h2, if_neg h2]
        obtain ⟨ys, a, b, c⟩ := h8.cs j (by omega)
        exact ⟨ys, tO a, tO b, c⟩
  · rw [getD_two, h.la] at hk
    rw [getD_two, h.la]
    have old : ∀ t, t < 2 * n → ∀ q, (LA.getD t undef).ownBlock = some q → q < wr.heap.size := fun t ht q e => by
      obtain ⟨ys, a, _⟩ := h.cs t ht
      exact (own_heap5 a q e).1
    by_cases h1 : j = 2 * n + 1
    · rw [if_pos h1]
      rw [if_neg (show ¬ i = 2 * n + 1 by omega)] at hk
      by_cases h2 : i = 2 * n
      · rw [if_pos h2] at hk; exact hd k hk
      · rw [if_neg h2] at hk
        intro e
        have a1 := old i (by omega) k hk
        have a2 := (OK.block k e).1
        omega
    · rw [if_neg h1]
      rw [if_neg (show ¬ i = 2 * n + 1 by omega)] at hk
      by_cases h2 : j = 2 * n
      · rw [if_pos h2]
        rw [if_neg (show ¬ i = 2 * n by omega)] at hk
        intro e
        have a1 := old i (by omega) k hk
        have a2 := (OL.block k e).1
        omega
      · rw [if_neg h2]
        rw [if_neg (show ¬ i = 2 * n by omega)] at hk
        exact h.di i j hij (by omega) k hk
  · rw [getD_two, h.la] at e
    by_cases h1 : j = 2 * n + 1
    · rw [if_pos h1] at e; exact off_fresh h.bk (OK.block g e).1
    · rw [if_neg h1] at e
      by_cases h2 : j = 2 * n
      · rw [if_pos h2] at e; exact off_fresh h.bk (OL.block g e).1
      · rw [if_neg h2] at e; exact h.of j (by omega) g e
/-- The state of the last loop: what is still to be put. -/
structure KSu (w wr : World) (B k N m : Nat) (v1 v2 v3 v4 va : Value) (L1 L2 L3 L4 LA : List Value) (ns : List Nat) : Prop where
  bk : Bk wr w.heap.size B v1 v2 v3 v4 L1 L2 L3 L4 ns
  ln : ns.length ≤ m + k
  bd : ∀ i, ns.getD i 0 ≤ 4000000
  oa : OwnS wr w.heap.size va LA
  la : LA.length = N
  e1 : Dj v1 va
  e2 : Dj v2 va
  e3 : Dj v3 va
  e4 : Dj v4 va
  cs : ∀ j, k ≤ j → j < N → ∃ zs, Own wr w.heap.size (LA.getD j undef) zs ∧ zs.length ≤ 1000000
  di : ∀ i j, i < j → j < N → ∀ k, (LA.getD i undef).ownBlock = some k → (LA.getD j undef).ownBlock ≠ some k
  of : ∀ j, k ≤ j → j < N → ∀ g, (LA.getD j undef).ownBlock = some g → Off g L1 L2 L3 L4
  bl : Below w.heap.size w wr
theorem KSu.put {w wr w8 : World} {B k N m n : Nat} {v1 v2 v3 v4 va v1' v2' v3' v4' x2 x3 x4 : Value} {L1 L2 L3 L4 LA : List Value} {ns : List Nat} (h : KSu w wr B k N m v1 v2 v3 v4 va L1 L2 L3 L4 LA ns) (hk : k < N) (hn : n ≤ 4000000)
    (q : Bk w8 w.heap.size B v1' v2' v3' v4' (L1 ++ [LA.getD k undef]) (L2 ++ [x2]) (L3 ++ [x3]) (L4 ++ [x4]) (ns ++ [n])) (t2 : At wr (LA.getD k undef) x2) (t3 : At wr (LA.getD k undef) x3) (t4 : At wr (LA.getD k undef) x4) (a1 : At wr v1 v1') (a2 : At wr v2 v2') (a3 : At wr v3 v3') (a4 : At wr v4 v4')
    (fr : ∀ j, j < wr.heap.size → (LA.getD k undef).ownBlock ≠ some j → j ≠ B → v1.ownBlock ≠ some j → v2.ownBlock ≠ some j → v3.ownBlock ≠ some j → v4.ownBlock ≠ some j → w8.heap[j]? = wr.heap[j]?) (bl : Below w.heap.size wr w8) :
    KSu w w8 B (k + 1) N m v1' v2' v3' v4' va (L1 ++ [LA.getD k undef]) (L2 ++ [x2]) (L3 ++ [x3]) (L4 ++ [x4]) LA (ns ++ [n]) := by
  obtain ⟨zs0, O0, _⟩ := h.cs k (Nat.le_refl _) hk
  have hl := h.ln
  refine ⟨q, by rw [List.length_append]; simp; omega, fun i => ?_, h.oa.of_heap fun j e => ?_, h.la, DjS.push h.oa h.e1 a1, DjS.push h.oa h.e2 a2, DjS.push h.oa h.e3 a3, DjS.push h.oa h.e4 a4, fun j j1 j2 => ?_, h.di, fun j j1 j2 g e => ?_, h.bl.trans bl⟩
  · by_cases hi : i < (ns ++ [n]).length
    · rw [getDn_snoc _ _ _ hi]
      split
      · exact hn
      · exact h.bd i
    · rw [List.getD_eq_getElem?_getD, List.getElem?_eq_none (by omega)]; simp
  · obtain ⟨_, z1, x, z2⟩ := h.oa.heap j e
    refine fr j z1 (fun e2 => ?_) (fun hj => own_ne h.oa h.bk.bk (hj ▸ e)) (fun e2 => h.e1 j e2 e) (fun e2 => h.e2 j e2 e) (fun e2 => h.e3 j e2 e) (fun e2 => h.e4 j e2 e)
    obtain ⟨_, cs, z3⟩ := own_heap5 O0 j e2
    exact ne_of_type z2 z3 (by decide) rfl
  · obtain ⟨zs, O, c⟩ := h.cs j (by omega) j2
    exact ⟨zs, own_put h.bk fr O (fun q e e2 => h.di k j (by omega) j2 q e2 e), c⟩
  · obtain ⟨zs, O, _⟩ := h.cs j (by omega) j2
    have lt := (own_heap5 O g e).1
    have ne : (LA.getD k undef).ownBlock ≠ some g := fun e2 => h.di k j (by omega) j2 g e2 e
    have at_ne : ∀ {x : Value}, At wr (LA.getD k undef) x → x.ownBlock ≠ some g := fun hx e2 => by
      rcases hx with p | ⟨q2, p, p2⟩
      · exact ne (p ▸ e2)
      · rw [p] at e2; cases e2; omega
    exact (h.of j (by omega) j2 g e).snoc ne (at_ne t2) (at_ne t3) (at_ne t4)
end Go.Proofs.YtaoongjdneaccaaDoor
