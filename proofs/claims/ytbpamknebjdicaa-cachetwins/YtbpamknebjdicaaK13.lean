import Derived.Test.YtbpamknebjdicaaK12
namespace Go.Proofs.Ytbpamknebjdicaa.K2
set_option linter.unusedVariables false
set_option linter.unusedSimpArgs false
open Go.RowKit
attribute [local go_sem ↓] Go.wp_at_zero Go.wp_at_succ

/-! Lists of keys that a call makes. -/
def keyC (l : List Int) : List Value := l.flatMap fun k => ints .u8 (pathL k)
theorem keyC_len (l : List Int) : (keyC l).length = l.length * 32 := by
  induction l with
  | nil => rfl
  | cons x l ih => simp only [keyC, List.flatMap_cons, List.length_append, List.length_cons] at *; rw [ih, show (ints .u8 (pathL x)).length = 32 from rfl]; omega
theorem keyC_at : ∀ (l : List Int) (i j : Nat) (hi : i < l.length) (u : Value), (ints .u8 (pathL (l.getD i 0)))[j]? = some u → (keyC l)[i * 32 + j]? = some u
  | x :: l, 0, j, _, u, h => by
    have hj : j < 32 := (List.getElem?_eq_some_iff.1 h).1
    simp only [keyC, List.flatMap_cons]
    rw [List.getElem?_append_left (by show 0 * 32 + j < 32; omega)]
    simpa using h
  | x :: l, i + 1, j, hi, u, h => by
    simp only [keyC, List.flatMap_cons]
    rw [List.getElem?_append_right (by show 32 ≤ _; omega)]
    rw [show (i + 1) * 32 + j - (ints .u8 (pathL x)).length = i * 32 + j by show _ - 32 = _; omega]
    exact keyC_at l i j (by simpa using hi) u (by simpa using h)
def OwnK (w : World) (base : Nat) (v : Value) (l : List Int) : Prop := w.ownsRow base 43 32 v l.length (keyC l)
theorem OwnK.lt {w : World} {base : Nat} {v : Value} {l : List Int} (h : OwnK w base v l) {i : Nat} (hi : v.ownBlock = some i) : base ≤ i ∧ i < w.heap.size := by
  obtain ⟨a, cur, hh⟩ := ownsRow_block h i hi; exact ⟨a, hlt hh⟩
theorem OwnK.below {w w1 : World} {base : Nat} {v : Value} {l : List Int} (h : OwnK w base v l) (hb : Below w.heap.size w w1) : OwnK w1 base v l := ownsRow_heap h fun i e => hb.block i (h.lt e).2
theorem OwnK.form {w : World} {base : Nat} {v : Value} {l : List Int} (h : OwnK w base v l) : ∃ sp cap, v = .slice sp l.length cap := ownsRow_form h
def zeroK : Value := .agg (ints .u8 (List.replicate 32 0)).toArray
theorem infoKm : (Try.prog.info? 43).map (fun i => (i.zero, i.size, i.bytes)) = some (some zeroK, 32, 32) := by kernel_rfl
theorem infoK : ∃ i, Try.prog.info? 43 = some i ∧ i.zero = some zeroK ∧ i.size = 32 ∧ i.bytes = 32 := by
  have h := infoKm
  cases hq : Try.prog.info? 43 with
  | none => rw [hq] at h; cases h
  | some i =>
    rw [hq] at h
    simp only [Option.map_some, Option.some.injEq, Prod.mk.injEq] at h
    exact ⟨i, rfl, h.1, h.2.1, h.2.2⟩
theorem build_K (k : Int) (w : World) : (Instr.buildSlice 49 1 #[(0, .agg (ints .u8 (pathL k)).toArray)]).run Try.prog w = .ok (.slice (some ⟨w.heap.size, 0, none⟩) 1 1) (w.alloc (.cells (ints .u8 (pathL k)).toArray 43)) := by kernel_rfl
theorem wpList_buildSliceK {w : World} {ops : Array Oper} {rest : List Oper} {o : Oper} {a : Act} {Q : Exit → Act → World → Prop} (hgd : o.guard = none) (x : Operand) (ho : o.op = Op.buildSlice 49 1 #[(0, x)]) (k : Int) (hx : a.eval x = .agg (ints .u8 (pathL k)).toArray)
    (h : wpList Try.prog ops Q rest (a.put o.dst (.slice (some ⟨w.heap.size, 0, none⟩) 1 1)) (w.alloc (.cells (ints .u8 (pathL k)).toArray 43))) : wpList Try.prog ops Q (o :: rest) a w := by
  refine wpList_plain hgd fun K hK => ?_
  have hrun := build_K k w
  rw [← hx] at hrun
  unfold Oper.wp
  simp [execOp, ho, hrun, Result.andThen]
  exact hK _ _ h
theorem wpList_pushK {w : World} {ops : Array Oper} {rest : List Oper} {o : Oper} {a : Act} {Q : Exit → Act → World → Prop} (hgd : o.guard = none) (s x : Operand)
    (ho : o.op = .call { callee := .builtin .append, args := #[s, x], argTypes := #[49, 49] })
    (base : Nat) (v : Value) (l : List Int) (y : Int) (hs : a.eval s = v) (hown : OwnK w base v l) (hx : a.eval x = .slice (some ⟨w.heap.size, 0, none⟩) 1 1)
    (hlen : l.length + 1 ≤ 4398046511104) (hbase : base ≤ w.heap.size) (t : TypeId) (fr : Nat × Nat)
    (h : ∀ v' w', OwnK w' base v' (l ++ [y]) → Below base w w' → (∀ k, k < w.heap.size → v.ownBlock ≠ some k → w'.heap[k]? = w.heap[k]?) → (v'.ownBlock = v.ownBlock ∨ ∃ k, v'.ownBlock = some k ∧ w.heap.size ≤ k) → wpList Try.prog ops Q rest (a.put o.dst v') w') :
    wpList Try.prog ops Q (o :: rest) a (w.alloc (.cells (ints .u8 (pathL y)).toArray t fr)) := by
  obtain ⟨i5, hi5, hz5, hs5, hy5⟩ := infoK
  have hown' : OwnK (w.alloc (.cells (ints .u8 (pathL y)).toArray t fr)) base v l := hown.below ((Below.refl w.heap.size w).alloc (Nat.le_refl _) _)
  refine wpList_append_own_at _ hgd s x 49 ho base 43 i5 zeroK 32 32 Try.underlying49 hi5 hz5 hs5 hy5 rfl (by decide) v l.length (keyC l) hs hown' ⟨w.heap.size, 0, none⟩ 1 1 (ints .u8 (pathL y)) hx rfl ?_ (ints_one _ _) (by unfold maxLen; omega) (by omega) (by simp; omega) ?_
  · intro j u hu
    rw [Addr.add_mid, Nat.zero_add, cell_of_row _ _ _ _ _ _ (hnew w _), List.getElem?_toArray]
    exact hu
  · intro v' w' h1 h2 _ h4
    have hB1 : Below base w (w.alloc (.cells (ints .u8 (pathL y)).toArray t fr)) := (Below.refl _ _).alloc hbase _
    refine h v' w' (by unfold OwnK; rw [List.length_append]; simpa [keyC] using h1) (hB1.trans (grown_keeps h2 (fun k hk => (ownsRow_block hown k hk).1) (by simp; omega))) (fun k hk hne => ?_) ?_
    · rw [h2.block k (by simp; omega) (fun e => hne e.symm)]
      show (w.heap.push _)[k]? = _
      rw [Array.getElem?_push, if_neg (by omega)]
    · rcases h4 with e | e
      · exact Or.inl e
      · exact Or.inr ⟨_, e, by simp⟩
set_option maxRecDepth 100000 in
set_option maxHeartbeats 1000000 in
theorem keys_any (w : World) (base p m n : Nat) (s : CSi) (h : CK w base p m n s) (r : Bool) (l : List Nat) (hR : RowIs s r l) (hd : ∀ b ∈ l, b ∈ s.bs) (hl : l.length < 4398046511104) (o : Nat) (ho : o = offR r) :
    Calls Try.prog 47 #[.pointer (some ⟨p, o, none⟩)] w fun x w' => ∃ v, x = .returned v ∧ OwnK w' w.heap.size v (l.map fun b => (s.E b).key) ∧ Below w.heap.size w w' := by
  obtain ⟨i3, hi3, hz3, hs3, hy3⟩ := infoK
  have c2 := rowCount h r
  have c0 := rowFirst h r
  rw [← ho, hR.first, List.head?_eq_getElem?] at c0
  rw [← ho, hR.count] at c2
  have K1 := hid (show i3.bytes * l.length ≤ 281474976710656 by rw [hy3]; omega)
  have K2 := hid (show l.length ≤ maxLen by unfold maxLen; omega)
  have HI := hid hi3
  have HC := hid h
  have HR := hid hR
  have HD := hid hd
  have HL := hid hl
  have hw := hlt h.cell
  have HCE := hid (fun w1 (q : Below w.heap.size w w1) => (q.cell (p := ⟨p, o, none⟩) hw).trans c0)
  have hKA : ∀ j b, l[j]? = some b → (l.map fun b => (s.E b).key).take (j + 1) = (l.map fun b => (s.E b).key).take j ++ [(s.E b).key] := fun j b hb => by
    rw [List.take_add_one]; simp [hb]
  have hKL : (l.map fun b => (s.E b).key).length = l.length := by simp
  generalize (l.map fun b => (s.E b).key) = kl at *
  have HKA := hid hKA
  have HKL := hid hKL
  generalize hW : w.heap.size = W at *
  generalize hln : l.length = ln at *
  have HLN := hid hln
  have HWW := hid hW
  generalize hp0 : optr l[0]? = p0 at *
  have HP0 := hid hp0
  clear hi3 h hR hd hl ho hKA hKL hln hp0
  go_enter Try.func47, Try.ntmps47
  go_wp2_with (first
    | (refine wpList_make_own _ rfl _ _ 49 rfl W 43 i3 zeroK 32 Try.underlying49 HI.out hz3 hs3 .i64 .i64 _ ln rfl rfl rfl K1.out K2.out (by rw [HWW.out]; exact Nat.le_refl _) ?_; rw [HWW.out]; intro w1 hO1 hg1; have HB := hid (grown_keeps (B := W) hg1 (fun k hk => by cases hk) (by rw [HWW.out]; exact Nat.le_refl _)); have HO := hid hO1; have c0' := HCE.out w1 HB.out; clear hg1 hO1 HCE))
  go_loopw [3, 4] (fun v e wr => ∃ j, j ≤ ln ∧ OwnK wr W v (kl.take j) ∧ e = optr l[j]? ∧ Below W w wr) (fun v _ _ => ln - lenV v)
  case atStart => exact ⟨0, by omega, HO.out, HP0.out.symm, HB.out⟩
  case round =>
    obtain ⟨j, hj, hO, rfl, hB⟩ := hrel
    have hlT : (kl.take j).length = j := by have := HKL.out; simp; omega
    obtain ⟨sp, cap, rfl⟩ := hO.form
    rw [hlT] at hO
    have hlv : lenV (.slice sp (kl.take j).length cap) = j := hlT
    have HLV := hid hlv
    rw [hlT]
    clear hlv
    by_cases hlt : j < ln
    · obtain ⟨b, hb⟩ : ∃ b, l[j]? = some b := ⟨_, List.getElem?_eq_getElem (by rw [HLN.out]; exact hlt)⟩
      have hbb := HD.out b (List.mem_of_getElem? hb)
      have hC := HC.out.of_heap (w1 := wr) fun k hk => hB.block k (by have := (HC.out.lt k hk).2; have := HWW.out; omega)
      have ck := hC.ek hbb
      have hnx := HR.out.seg.nxt_at hb
      rw [show (if j + 1 = l.length then (none : Option Nat) else none) = none by split <;> rfl, or_none] at hnx
      have HCN := hid (fun w1 (q : Below W w w1) => (by
        have hC := HC.out.of_heap (w1 := w1) fun k hk => q.block k (by have := (HC.out.lt k hk).2; have := HWW.out; omega)
        have := hC.en hbb
        rw [hnx] at this
        exact this : w1.cell? ⟨b, 35, none⟩ = some (optr l[j + 1]?)))
      have HT := hid (HKA.out j b hb)
      have HO := hid hO
      have HB := hid hB
      have HLE := hid (show (kl.take j).length + 1 ≤ 4398046511104 by rw [hlT]; have := HL.out; omega)
      have HWS := hid (show W ≤ wr.heap.size by have := hB.size; have := HWW.out; omega)
      have HLT := hid hlT
      rw [hb]
      clear hO hB hC hnx hbb hlT hb
      simp only [optr]
      have HCK := hid ck
      clear ck
      generalize hky : (s.E b).key = ky at *
      generalize hnp : optr l[j + 1]? = np at *
      have HNP := hid hnp
      clear hky hnp c0 c2 c0'
      generalize kl.take j = T at *
      go_wp2_with (first
        | (refine wpList_load_mid_w (by rfl) 43 (.tmp 23) (by rfl) b 0 (by rfl) (ints .u8 (pathL ky)) _ (by exact HCK.out) Try.underlying43 rfl (keyN ky) ?_)
        | (refine wpList_buildSliceK (by rfl) (.tmp 24) (by rfl) ky (by rfl) ?_)
        | (refine wpList_pushK (by rfl) (.tmp 20) (.tmp 25) (by rfl) W (.slice sp j cap) T ky (by rfl) HO.out (by rfl) HLE.out HWS.out _ _ ?_; intro v' w' h1 h2 h3 h4; have HO2 := hid h1; have HB2 := hid (HB.out.trans h2); have cn := HCN.out w' HB2.out; clear h1 h2 h3 h4))
      go_roundw
      case rel => exact ⟨j + 1, by omega, by rw [HT.out]; exact HO2.out, HNP.out.symm, HB2.out⟩
      case measure =>
        obtain ⟨sp2, cap2, e2⟩ := HO2.out.form
        have := HLT.out
        rw [e2]
        simp [lenV]
        omega
    · obtain rfl : j = ln := by omega
      have HO := hid hO
      have HB := hid hB
      have HK := hid (show kl.take j = kl by rw [← HKL.out, List.take_length])
      rw [show l[j]? = none by rw [← HLN.out]; simp]
      clear hlt hO hB hlT
      simp only [optr]
      go_wp2
      go_ret
      exact ⟨_, rfl, by rw [← HK.out]; exact HO.out, HB.out⟩
end Go.Proofs.Ytbpamknebjdicaa.K2
