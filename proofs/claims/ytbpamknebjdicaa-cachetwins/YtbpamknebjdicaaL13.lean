import Derived.Test.YtbpamknebjdicaaL12
namespace Go.Proofs.Ytbpamknebjdicaa
set_option linter.unusedVariables false
set_option linter.unusedSimpArgs false
open Go.RowKit
attribute [local go_sem ↓] Go.wp_at_zero Go.wp_at_succ

theorem ownsRow_heap {w w1 : World} {base t k n : Nat} {v : Value} {cs : List Value} (h : w.ownsRow base t k v n cs) (hk : ∀ i, v.ownBlock = some i → w1.heap[i]? = w.heap[i]?) : w1.ownsRow base t k v n cs := by
  refine ⟨h.1, ?_⟩
  rcases h.2 with h2 | ⟨g, cap, cur, rfl, hg, hh, r⟩
  · exact Or.inl h2
  · exact Or.inr ⟨g, cap, cur, rfl, hg, (hk g rfl).trans hh, r⟩
theorem ownsRow_block {w : World} {base t k n : Nat} {v : Value} {cs : List Value} (h : w.ownsRow base t k v n cs) : ∀ i, v.ownBlock = some i → base ≤ i ∧ ∃ cur, w.heap[i]? = some (.cells cur t (0, 0)) := by
  intro i hi
  rcases h.2 with ⟨rfl, _⟩ | ⟨g, cap, cur, rfl, hg, hh, r⟩
  · simp [Value.ownBlock] at hi
  · simp [Value.ownBlock] at hi; subst hi; exact ⟨hg, cur, hh⟩
theorem ownsRow_none (w : World) (base t k : Nat) : w.ownsRow base t k (.slice none 0 0) 0 [] := ⟨by simp, Or.inl ⟨rfl, rfl⟩⟩
theorem ownsRow_form {w : World} {base t k n : Nat} {v : Value} {cs : List Value} (h : w.ownsRow base t k v n cs) : ∃ sp cap, v = .slice sp n cap := by
  rcases h.2 with ⟨rfl, rfl⟩ | ⟨g, cap, cur, rfl, _⟩
  · exact ⟨none, 0, rfl⟩
  · exact ⟨_, _, rfl⟩
/-! Lists of numbers that a call makes. -/
def OwnI (w : World) (base : Nat) (v : Value) (l : List Int) : Prop := w.ownsRow base 3 1 v l.length (ints .i64 l)
theorem ints_geti (k : IntKind) (l : List Int) (j : Nat) (hj : j < l.length) : (ints k l)[j]? = some (.int k (l.getD j 0)) := by
  simp [ints, List.getElem?_eq_getElem hj, List.getD_eq_getElem?_getD]
theorem OwnI.nil (w : World) (base : Nat) : OwnI w base (.slice none 0 0) [] := ownsRow_none _ _ _ _
theorem OwnI.heap {w w1 : World} {base : Nat} {v : Value} {l : List Int} (h : OwnI w base v l) (hk : ∀ i, v.ownBlock = some i → w1.heap[i]? = w.heap[i]?) : OwnI w1 base v l := ownsRow_heap h hk
theorem OwnI.lt {w : World} {base : Nat} {v : Value} {l : List Int} (h : OwnI w base v l) {i : Nat} (hi : v.ownBlock = some i) : base ≤ i ∧ i < w.heap.size := by
  obtain ⟨a, cur, hh⟩ := ownsRow_block h i hi; exact ⟨a, hlt hh⟩
theorem OwnI.below {w w1 : World} {base : Nat} {v : Value} {l : List Int} (h : OwnI w base v l) (hb : Below w.heap.size w w1) : OwnI w1 base v l := h.heap fun i e => hb.block i (h.lt e).2
theorem OwnI.form {w : World} {base : Nat} {v : Value} {l : List Int} (h : OwnI w base v l) : ∃ sp cap, v = .slice sp l.length cap := ownsRow_form h
theorem OwnI.at {w : World} {base : Nat} {v : Value} {l : List Int} (h : OwnI w base v l) (j : Nat) (hj : j < l.length) : ∃ g cap, v = .slice (some ⟨g, 0, none⟩) l.length cap ∧ w.cell? ⟨g, j, none⟩ = some (.int .i64 (l.getD j 0)) ∧ v.ownBlock = some g := by
  rcases h.2 with ⟨_, h0⟩ | ⟨g, cap, cur, e, hg, hh, hc, hm, hs, ht⟩
  · omega
  · refine ⟨g, cap, e, ?_, by rw [e]; rfl⟩
    have := ints_geti .i64 l j hj
    rw [← ht, List.getElem?_take, if_pos (by omega)] at this
    rw [cell_of_row _ _ _ _ _ _ hh, ← this]
    simp
theorem info3m : (Try.prog.info? 3).map (fun i => (i.zero, i.size, i.bytes)) = some (some (.int .i64 0), 1, 8) := by kernel_rfl
theorem info3 : ∃ i, Try.prog.info? 3 = some i ∧ i.zero = some (.int .i64 0) ∧ i.size = 1 ∧ i.bytes = 8 := by
  have h := info3m
  cases hq : Try.prog.info? 3 with
  | none => rw [hq] at h; cases h
  | some i =>
    rw [hq] at h
    simp only [Option.map_some, Option.some.injEq, Prod.mk.injEq] at h
    exact ⟨i, rfl, h.1, h.2.1, h.2.2⟩
theorem wpList_pushI {w : World} {ops : Array Oper} {rest : List Oper} {o : Oper} {a : Act} {Q : Exit → Act → World → Prop} (hgd : o.guard = none) (s x : Operand)
    (ho : o.op = .call { callee := .builtin .append, args := #[s, x], argTypes := #[29, 29] })
    (base : Nat) (v : Value) (l : List Int) (y : Int) (hs : a.eval s = v) (hown : OwnI w base v l) (hx : a.eval x = .slice (some ⟨w.heap.size, 0, none⟩) 1 1)
    (hlen : l.length + 1 ≤ 17592186044416) (hbase : base ≤ w.heap.size) (t : TypeId) (fr : Nat × Nat)
    (h : ∀ v' w', OwnI w' base v' (l ++ [y]) → Below base w w' → (∀ k, k < w.heap.size → v.ownBlock ≠ some k → w'.heap[k]? = w.heap[k]?) → (v'.ownBlock = v.ownBlock ∨ ∃ k, v'.ownBlock = some k ∧ w.heap.size ≤ k) → wpList Try.prog ops Q rest (a.put o.dst v') w') :
    wpList Try.prog ops Q (o :: rest) a (w.alloc (.cells #[.int .i64 y] t fr)) := by
  obtain ⟨i5, hi5, hz5, hs5, hy5⟩ := info3
  have hown' : OwnI (w.alloc (.cells #[.int .i64 y] t fr)) base v l := hown.below ((Below.refl w.heap.size w).alloc (Nat.le_refl _) _)
  refine wpList_append_own_at _ hgd s x 29 ho base 3 i5 (.int .i64 0) 1 8 Try.underlying29 hi5 hz5 hs5 hy5 rfl (by decide) v l.length (ints .i64 l) hs hown' ⟨w.heap.size, 0, none⟩ 1 1 (ints .i64 [y]) hx rfl ?_ (by intro z hz; simp [ints] at hz; subst hz; rfl) (by unfold maxLen; omega) (by omega) (by simp; omega) ?_
  · intro j u hu
    have hj : j = 0 := by
      have := (List.getElem?_eq_some_iff.1 hu).1
      simp [ints] at this; exact this
    subst hj
    rw [show (⟨w.heap.size, 0, none⟩ : Addr).add 0 = ⟨w.heap.size, 0, none⟩ from rfl, cell_of_row _ _ _ _ _ _ (hnew w _)]
    simpa [ints] using hu
  · intro v' w' h1 h2 _ h4
    have hB1 : Below base w (w.alloc (.cells #[.int .i64 y] t fr)) := (Below.refl _ _).alloc hbase _
    refine h v' w' (by unfold OwnI; rw [List.length_append]; simpa [ints] using h1) (hB1.trans (grown_keeps h2 (fun k hk => (ownsRow_block hown k hk).1) (by simp; omega))) (fun k hk hne => ?_) ?_
    · rw [h2.block k (by simp; omega) (fun e => hne e.symm)]
      show (w.heap.push _)[k]? = _
      rw [Array.getElem?_push, if_neg (by omega)]
    · rcases h4 with e | e
      · exact Or.inl e
      · exact Or.inr ⟨_, e, by simp⟩
/-- The next of an entry. -/
theorem Seg.nxt_at {κ ν : Type} {E : Nat → Ent κ ν} : ∀ {l : List Nat} {pb pe : Option Nat} (h : Seg E pb l pe) {j b : Nat} (hj : l[j]? = some b), (E b).nxt = (l[j + 1]?).or (if j + 1 = l.length then pe else none)
  | [], _, _, _, j, b, hj => by simp at hj
  | x :: l, pb, pe, h, 0, b, hj => by
    simp at hj; subst hj
    rw [h.2.1]
    cases l <;> simp
  | x :: l, pb, pe, h, j + 1, b, hj => by
    have := Seg.nxt_at h.2.2 (j := j) (b := b) (by simpa using hj)
    rw [this]
    simp
def lenV : Value → Nat
  | .slice _ n _ => n
  | _ => 0
theorem build_1 (k : Int) (w : World) : (Instr.buildSlice 29 1 #[(0, .int .i64 k)]).run Try.prog w = .ok (.slice (some ⟨w.heap.size, 0, none⟩) 1 1) (w.alloc (.cells #[.int .i64 k] 3)) := by kernel_rfl
set_option maxRecDepth 100000 in
set_option maxHeartbeats 1000000 in
theorem keys_any (w : World) (base p m n : Nat) (s : CSi) (h : CK w base p m n s) (r : Bool) (l : List Nat) (hR : RowIs s r l) (hd : ∀ b ∈ l, b ∈ s.bs) (hl : l.length < 17592186044416) (o : Nat) (ho : o = offR r) :
    Calls Try.prog 35 #[.pointer (some ⟨p, o, none⟩)] w fun x w' => ∃ v, x = .returned v ∧ OwnI w' w.heap.size v (l.map fun b => (s.E b).key) ∧ Below w.heap.size w w' := by
  obtain ⟨i3, hi3, hz3, hs3, hy3⟩ := info3
  have c2 := rowCount h r
  have c0 := rowFirst h r
  rw [← ho, hR.first, List.head?_eq_getElem?] at c0
  rw [← ho, hR.count] at c2
  have K1 := hid (show i3.bytes * l.length ≤ 281474976710656 by rw [hy3]; omega)
  have K2 := hid (show l.length ≤ maxLen by unfold maxLen; omega)
  have HI := hid hi3
  have HC := hid h
  have HR := hid hR
  have HD := hid hd
  have HL := hid hl
  have HB1 := build_1
  have hw := hlt h.cell
  have HCE := hid (fun w1 (q : Below w.heap.size w w1) => (q.cell (p := ⟨p, o, none⟩) hw).trans c0)
  have hKA : ∀ j b, l[j]? = some b → (l.map fun b => (s.E b).key).take (j + 1) = (l.map fun b => (s.E b).key).take j ++ [(s.E b).key] := fun j b hb => by
    rw [List.take_add_one]; simp [hb]
  have hKL : (l.map fun b => (s.E b).key).length = l.length := by simp
  generalize (l.map fun b => (s.E b).key) = kl at *
  have HKA := hid hKA
  have HKL := hid hKL
  generalize hW : w.heap.size = W at *
  generalize hln : l.length = ln at *
  have HLN := hid hln
  have HWW := hid hW
  generalize hp0 : optr l[0]? = p0 at *
  have HP0 := hid hp0
  clear hi3 h hR hd hl ho hKA hKL hln hp0
  go_enter Try.func35, Try.ntmps35
  go_wp2_with (first
    | (refine wpList_make_own _ rfl _ _ 29 rfl W 3 i3 (.int .i64 0) 1 Try.underlying29 HI.out hz3 hs3 .i64 .i64 _ ln rfl rfl rfl K1.out K2.out (by rw [HWW.out]; exact Nat.le_refl _) ?_; rw [HWW.out]; intro w1 hO1 hg1; have HB := hid (grown_keeps (B := W) hg1 (fun k hk => by cases hk) (by rw [HWW.out]; exact Nat.le_refl _)); have HO := hid hO1; have c0' := HCE.out w1 HB.out; clear hg1 hO1 HCE))
  go_loopw [3, 4] (fun v e wr => ∃ j, j ≤ ln ∧ OwnI wr W v (kl.take j) ∧ e = optr l[j]? ∧ Below W w wr) (fun v _ _ => ln - lenV v)
  case atStart => exact ⟨0, by omega, HO.out, HP0.out.symm, HB.out⟩
  case round =>
    obtain ⟨j, hj, hO, rfl, hB⟩ := hrel
    have hlT : (kl.take j).length = j := by have := HKL.out; simp; omega
    obtain ⟨sp, cap, rfl⟩ := hO.form
    rw [hlT] at hO
    have hlv : lenV (.slice sp (kl.take j).length cap) = j := hlT
    have HLV := hid hlv
    rw [hlT]
    clear hlv
    by_cases hlt : j < ln
    · obtain ⟨b, hb⟩ : ∃ b, l[j]? = some b := ⟨_, List.getElem?_eq_getElem (by rw [HLN.out]; exact hlt)⟩
      have hbb := HD.out b (List.mem_of_getElem? hb)
      have hC := HC.out.of_heap (w1 := wr) fun k hk => hB.block k (by have := (HC.out.lt k hk).2; have := HWW.out; omega)
      have ck := hC.ek hbb
      have hnx := HR.out.seg.nxt_at hb
      rw [show (if j + 1 = l.length then (none : Option Nat) else none) = none by split <;> rfl, or_none] at hnx
      have HCN := hid (fun w1 (q : Below W w w1) => (by
        have hC := HC.out.of_heap (w1 := w1) fun k hk => q.block k (by have := (HC.out.lt k hk).2; have := HWW.out; omega)
        have := hC.en hbb
        rw [hnx] at this
        exact this : w1.cell? ⟨b, 4, none⟩ = some (optr l[j + 1]?)))
      have HT := hid (HKA.out j b hb)
      have HO := hid hO
      have HB := hid hB
      have HLE := hid (show (kl.take j).length + 1 ≤ 17592186044416 by rw [hlT]; have := HL.out; omega)
      have HWS := hid (show W ≤ wr.heap.size by have := hB.size; have := HWW.out; omega)
      have HLT := hid hlT
      rw [hb]
      clear hO hB hC hnx hbb hlT hb
      simp only [optr, argK] at ck ⊢
      generalize hky : (s.E b).key = ky at *
      generalize hnp : optr l[j + 1]? = np at *
      have HNP := hid hnp
      clear hky hnp c0 c2 c0'
      generalize kl.take j = T at *
      go_wp2_with (first
        | (refine wpList_pushI (by rfl) (.tmp 20) (.tmp 25) (by rfl) W (.slice sp j cap) T ky (by rfl) HO.out (by rfl) HLE.out HWS.out _ _ ?_; intro v' w' h1 h2 h3 h4; have HO2 := hid h1; have HB2 := hid (HB.out.trans h2); have cn := HCN.out w' HB2.out; clear h1 h2 h3 h4))
      go_roundw
      case rel => exact ⟨j + 1, by omega, by rw [HT.out]; exact HO2.out, HNP.out.symm, HB2.out⟩
      case measure =>
        obtain ⟨sp2, cap2, e2⟩ := HO2.out.form
        have := HLT.out
        rw [e2]
        simp [lenV]
        omega
    · obtain rfl : j = ln := by omega
      have HO := hid hO
      have HB := hid hB
      have HK := hid (show kl.take j = kl by rw [← HKL.out, List.take_length])
      rw [show l[j]? = none by rw [← HLN.out]; simp]
      clear hlt hO hB hlT
      simp only [optr]
      go_wp2
      go_ret
      exact ⟨_, rfl, by rw [← HK.out]; exact HO.out, HB.out⟩
end Go.Proofs.Ytbpamknebjdicaa
