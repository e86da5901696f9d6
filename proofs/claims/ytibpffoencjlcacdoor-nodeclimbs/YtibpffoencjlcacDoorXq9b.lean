import Derived.Test.YtibpffoencjlcacDoorXq9a
namespace Go.Proofs.YtibpffoencjlcacDoor
set_option linter.unusedVariables false
set_option linter.unusedSimpArgs false
open Go.RowKit
attribute [local go_sem ↓] Go.wp_at_zero Go.wp_at_succ

theorem list32 {l : List Value} (h : l.length = 32) : ∃ x0 x1 x2 x3 x4 x5 x6 x7 x8 x9 x10 x11 x12 x13 x14 x15 x16 x17 x18 x19 x20 x21 x22 x23 x24 x25 x26 x27 x28 x29 x30 x31, l = [x0, x1, x2, x3, x4, x5, x6, x7, x8, x9, x10, x11, x12, x13, x14, x15, x16, x17, x18, x19, x20, x21, x22, x23, x24, x25, x26, x27, x28, x29, x30, x31] := by
  match l, h with
  | [x0, x1, x2, x3, x4, x5, x6, x7, x8, x9, x10, x11, x12, x13, x14, x15, x16, x17, x18, x19, x20, x21, x22, x23, x24, x25, x26, x27, x28, x29, x30, x31], _ => exact ⟨x0, x1, x2, x3, x4, x5, x6, x7, x8, x9, x10, x11, x12, x13, x14, x15, x16, x17, x18, x19, x20, x21, x22, x23, x24, x25, x26, x27, x28, x29, x30, x31, rfl⟩
theorem slice_dig (ks : List Value) (hk : ks.length = 32) (w : World) :
    (Instr.buildSlice 71 1 #[(0, .agg ks.toArray)]).run Tryd.prog w = .ok (.slice (some ⟨w.heap.size, 0, none⟩) 1 1) (w.alloc (.cells ks.toArray 27)) := by
  obtain ⟨x0, x1, x2, x3, x4, x5, x6, x7, x8, x9, x10, x11, x12, x13, x14, x15, x16, x17, x18, x19, x20, x21, x22, x23, x24, x25, x26, x27, x28, x29, x30, x31, rfl⟩ := list32 hk
  kernel_rfl
theorem wpList_sliceD {w : World} {ops : Array Oper} {rest : List Oper} {o : Oper} {a : Act} {Q : Exit → Act → World → Prop} (hg : o.guard = none) (x : Operand) (ho : o.op = .buildSlice 71 1 #[(0, x)])
    (ks : List Value) (hk : ks.length = 32) (hx : a.eval x = .agg ks.toArray) (h : wpList Tryd.prog ops Q rest (a.put o.dst (.slice (some ⟨w.heap.size, 0, none⟩) 1 1)) (w.alloc (.cells ks.toArray 27))) :
    wpList Tryd.prog ops Q (o :: rest) a w := by
  refine wpList_plain hg fun K hK => ?_
  unfold Oper.wp execOp
  simp only [ho, List.map_toArray, List.map_cons, List.map_nil, hx, Sem.run_bind, slice_dig ks hk w, Result.andThen_ok, Sem.run_pure]
  exact hK _ _ h
theorem infoDm : (Tryd.prog.info? 27).map (fun i => (i.zero.map fun z => z.cells.size, i.size, i.bytes)) = some (some 32, 32, 32) := by kernel_rfl
theorem infoD : ∃ i z, Tryd.prog.info? 27 = some i ∧ i.zero = some z ∧ z.cells.size = 32 ∧ i.size = 32 ∧ i.bytes = 32 := by
  have h := infoDm
  cases hq : Tryd.prog.info? 27 with
  | none => rw [hq] at h; cases h
  | some i =>
    rw [hq] at h
    simp only [Option.map_some, Option.some.injEq, Prod.mk.injEq] at h
    obtain ⟨h1, h2, h3⟩ := h
    cases hz : i.zero with
    | none => rw [hz] at h1; cases h1
    | some z =>
      rw [hz] at h1
      simp only [Option.map_some, Option.some.injEq] at h1
      exact ⟨i, z, rfl, hz, h1, h2, h3⟩
theorem ownsRow_heap {w w1 : World} {base t k n : Nat} {v : Value} {cs : List Value} (h : w.ownsRow base t k v n cs) (hk : ∀ i, v.ownBlock = some i → w1.heap[i]? = w.heap[i]?) : w1.ownsRow base t k v n cs := by
  refine ⟨h.1, ?_⟩
  rcases h.2 with h2 | ⟨g, cap, cur, rfl, hg, hh, r⟩
  · exact Or.inl h2
  · exact Or.inr ⟨g, cap, cur, rfl, hg, (hk g rfl).trans hh, r⟩
theorem ownsRow_block {w : World} {base t k n : Nat} {v : Value} {cs : List Value} (h : w.ownsRow base t k v n cs) : ∀ i, v.ownBlock = some i → base ≤ i ∧ ∃ cur, w.heap[i]? = some (.cells cur t (0, 0)) := by
  intro i hi
  rcases h.2 with ⟨rfl, _⟩ | ⟨g, cap, cur, rfl, hg, hh, r⟩
  · simp [Value.ownBlock] at hi
  · simp [Value.ownBlock] at hi; subst hi; exact ⟨hg, cur, hh⟩
theorem ownsRow_form {w : World} {base t k n : Nat} {v : Value} {cs : List Value} (h : w.ownsRow base t k v n cs) : ∃ sp cap, v = .slice sp n cap := by
  rcases h.2 with ⟨rfl, rfl⟩ | ⟨g, cap, cur, rfl, _⟩
  · exact ⟨none, 0, rfl⟩
  · exact ⟨_, _, rfl⟩
/-- append(own list of digests, one more). -/
theorem wpList_pushD {w : World} {ops : Array Oper} {rest : List Oper} {o : Oper} {a : Act} {Q : Exit → Act → World → Prop} (hgd : o.guard = none) (s x : Operand)
    (ho : o.op = .call { callee := .builtin .append, args := #[s, x], argTypes := #[71, 71] })
    (base : Nat) (v : Value) (n : Nat) (xs : List Value) (ks : List Value) (hs : a.eval s = v) (hown : w.ownsRow base 27 32 v n xs) (hx : a.eval x = .slice (some ⟨w.heap.size, 0, none⟩) 1 1) (hl : ks.length = 32) (h1 : ∀ y ∈ ks, y.oneCell' = true)
    (hlen : n + 1 ≤ 1000000) (hbase : base ≤ w.heap.size) (t : TypeId) (fr : Nat × Nat)
    (h : ∀ v' w', w'.ownsRow base 27 32 v' (n + 1) (xs ++ ks) → Below base w w' → wpList Tryd.prog ops Q rest (a.put o.dst v') w') :
    wpList Tryd.prog ops Q (o :: rest) a (w.alloc (.cells ks.toArray t fr)) := by
  obtain ⟨i5, z, hi5, hz5, hc5, hs5, hy5⟩ := infoD
  have hown' : (w.alloc (.cells ks.toArray t fr)).ownsRow base 27 32 v n xs := ownsRow_heap hown fun k hk => by
    obtain ⟨_, cur, hh⟩ := ownsRow_block hown k hk
    rw [hh]; exact hold hh
  refine wpList_append_own_at _ hgd s x 71 ho base 27 i5 z 32 32 Tryd.underlying71 hi5 hz5 hs5 hy5 hc5 (by decide) v n _ hs hown' ⟨w.heap.size, 0, none⟩ 1 1 ks hx (by omega) ?_ h1 (by unfold maxLen; omega) (by omega) (by simp; omega) ?_
  · intro j u hu
    rw [Addr.add_mid, Nat.zero_add, cell_of_row _ _ _ _ _ _ (hnew w _)]
    simpa using hu
  · intro v' w' q1 q2 _ q4
    exact h v' w' q1 (((Below.refl base w).alloc hbase _).trans (grown_keeps q2 (fun k hk => (ownsRow_block hown k hk).1) (by simp; omega)))
/-- The digests of the empty subtrees, one behind the other. -/
def emC (k : Int) : Nat → List Value
  | 0 => []
  | n + 1 => emC k n ++ ints .u8 (emptyD k n)
theorem emC_len (k : Int) : ∀ n, (emC k n).length = 32 * n
  | 0 => rfl
  | n + 1 => by simp [emC, emC_len k n, ints_len, emptyD_len]; omega
theorem emC_get (k : Int) (i j : Nat) (hj : j < 32) : ∀ n, i < n → (emC k n)[i * 32 + j]? = (ints .u8 (emptyD k i))[j]?
  | n + 1, h => by
    unfold emC
    by_cases hc : i < n
    · rw [List.getElem?_append_left (by rw [emC_len]; omega), emC_get k i j hj n hc]
    · obtain rfl : i = n := by omega
      rw [List.getElem?_append_right (by rw [emC_len]; omega), emC_len, show i * 32 + j - 32 * i = j by omega]
theorem own_digs1 (w : World) (base : Nat) (k : Int) (hb : base ≤ w.heap.size) : (w.alloc (.cells (ints .u8 (emptyD k 0)).toArray 27)).ownsRow base 27 32 (.slice (some ⟨w.heap.size, 0, none⟩) 1 1) 1 (emC k 1) := by
  have hl := emptyD_len k 0
  refine ⟨by rw [emC_len], Or.inr ⟨w.heap.size, 1, (ints .u8 (emptyD k 0)).toArray, rfl, hb, hnew w _, Nat.le_refl _, by simp [maxLen], by rw [ints_size, hl], ?_⟩⟩
  show (ints .u8 (emptyD k 0)).take (1 * 32) = [] ++ ints .u8 (emptyD k 0)
  rw [List.take_of_length_le (by rw [ints_len, hl]; decide), List.nil_append]
theorem row_rng {w : World} {base : Nat} {v : Value} {k : Int} {n : Nat} (h : w.ownsRow base 27 32 v n (emC k n)) (hp : 0 < n) : ∃ g cap, v = .slice (some ⟨g, 0, none⟩) n cap ∧ base ≤ g ∧ g < w.heap.size ∧ ∀ i, i < n → w.rangeAt g (i * 32) (ints .u8 (emptyD k i)) := by
  obtain ⟨h1, ⟨rfl, hn⟩ | ⟨g, cap, cur, rfl, hg, hh, hc, hm, hs, ht⟩⟩ := h
  · omega
  · refine ⟨g, cap, rfl, hg, hlt hh, fun i hi j u hu => ?_⟩
    have hj : j < 32 := by have := (List.getElem?_eq_some_iff.1 hu).1; rwa [ints_len, emptyD_len] at this
    rw [cell_of_row _ _ _ _ _ _ hh]
    have h3 := emC_get k i j hj n hi
    rw [hu, ← ht, List.getElem?_take, if_pos (by omega)] at h3
    simpa using h3
set_option maxRecDepth 100000 in
set_option maxHeartbeats 2000000 in
theorem xempties_any (w : World) (hG : Gb w) (k : Int) :
    Calls Tryd.prog 44 #[.int .i64 k] w fun e w' => ∃ v, e = .returned v ∧ w'.ownsRow w.heap.size 27 32 v 257 (emC k 257) ∧ Below w.heap.size w w' := by
  have hz32 : z32.length = 32 := rfl
  have hB1 := (Below.refl w.heap.size w).alloc (Nat.le_refl _) (.cells #[.int .u8 2] 5)
  have g1 : (w.alloc (.cells #[.int .u8 2] 5)).heap[w.heap.size]? = some (.cells (ints .u8 ([2] ++ [])).toArray 5) := hnew w _
  go_enter Tryd.func44, Tryd.ntmps44
  go_wp2_with fail
  show Calls Tryd.prog 40 _ (w.alloc (.cells #[.int .u8 2] 5)) _
  generalize w.alloc (.cells #[.int .u8 2] 5) = w1 at *
  have hS1 : Src w1 (some ⟨w.heap.size, 0, none⟩) 1 [2] := src_row g1 1 (by simp) (by simp [maxLen])
  refine (xcut_any w1 (hG.keep hB1) k [2] (emptyD k 0) _ 1 hS1 (fun h => by cases h) (by simp) rfl).mono ?_
  rintro e w3 ⟨rfl, hB3⟩
  have hcl := emptyD_len k 0
  have hB3' := hB1.trans (hB3.mono hB1.size)
  have r3 := hnew w3 (.cells (ints .u8 (emptyD k 0)).toArray 27)
  have r4 := hold (o := .cells (ints .u8 (emptyD k 0)).toArray 27) r3
  have hB4 := (hB3'.alloc hB3'.size (.cells (ints .u8 (emptyD k 0)).toArray 27)).alloc (by simp; have := hB3'.size; omega) (.cells (ints .u8 (emptyD k 0)).toArray 27)
  have hs3 := hB3'.size
  have hO4 := own_digs1 (w3.alloc (.cells (ints .u8 (emptyD k 0)).toArray 27)) (w3.heap.size + 1) k (by simp)
  rw [show (w3.alloc (.cells (ints .u8 (emptyD k 0)).toArray 27)).heap.size = w3.heap.size + 1 by simp] at hO4
  clear hS1 g1 hB3 hB1 hB3'
  go_wp2_with (first | (refine wpList_store_row rfl 27 _ _ rfl _ _ rfl rfl 27 _ (by exact hnew _ (.cells (ints .u8 z32).toArray 27)) (by rw [Tryd.size27, ints_size, hcl]) (by rw [ints_size, ints_size, hcl]; rfl) (all_oneCell_toArray (ints_one .u8 _)) ?_; rw [setRow_alloc]) | refine wpList_load_row rfl 27 _ rfl _ rfl 27 _ _ _ r3 Tryd.underlying27 rfl (by rw [ints_size, hcl]; rfl) ?_ | refine wpList_sliceD rfl _ rfl (ints .u8 (emptyD k 0)) (by rw [ints_len, hcl]) rfl ?_)
  generalize (w3.alloc (.cells (ints .u8 (emptyD k 0)).toArray 27)).alloc (.cells (ints .u8 (emptyD k 0)).toArray 27) = w5 at *
  generalize w3.heap.size = E at *
  go_loopw [4, 5] (fun v iv wr => ∃ j : Nat, j ≤ 256 ∧ iv = .int .i64 j ∧ wr.ownsRow (E + 1) 27 32 v (j + 1) (emC k (j + 1)) ∧ wr.heap[E]? = some (.cells (ints .u8 (emptyD k j)).toArray 27) ∧ Below w.heap.size w wr) (fun _ iv _ => 256 - (intOf iv).toNat)
  case atStart => exact ⟨0, by omega, rfl, hO4, r4, hB4⟩
  case round =>
    clear hO4 r4 hB4 r3 hcl
    obtain ⟨j, hj, rfl, hO, r, hB⟩ := hrel
    have hcl := emptyD_len k j
    by_cases hlt' : j < 256
    · have i1 : (j : Int) < 256 := by omega
      have hcl2 := emptyD_len k (j + 1)
      have KB := hid (xbranch_to wr (hG.keep hB) k (emptyD k j) (emptyD k j) (emptyD k (j + 1)) hcl hcl rfl)
      have HE := hid (show emC k (j + 1 + 1) = emC k (j + 1) ++ ints .u8 (emptyD k (j + 1)) from rfl)
      generalize hD2 : emptyD k (j + 1) = D2 at *
      have HD2 := hid hD2
      clear hD2
      generalize emptyD k j = D1 at *
      obtain ⟨spv, capv, rfl⟩ := ownsRow_form hO
      go_wp2_with (first | refine wpList_load_row rfl 27 _ rfl _ rfl 27 _ _ _ r Tryd.underlying27 rfl (by rw [ints_size, hcl]; rfl) ?_)
      refine KB.out.mono ?_
      rintro e w7 ⟨rfl, hB7⟩
      have r7 := hbel hB7 r (hlt r)
      have hB7' := hB.trans (hB7.mono hB.size)
      have hO7 := ownsRow_heap (w1 := w7) hO fun q hq => hB7.block q (by obtain ⟨_, cur, hh⟩ := ownsRow_block hO q hq; exact hlt hh)
      have hO8 := ownsRow_heap (w1 := w7.setRow E (ints .u8 D2).toArray) hO7 fun q hq => setRow_other _ _ _ _ (by have := (ownsRow_block hO7 q hq).1; omega)
      have r8 := dig_set (E := D2) r7
      have hB8 := below_setRow hB7' hs3 (ints .u8 D2).toArray
      have hE8 : E + 1 ≤ (w7.setRow E (ints .u8 D2).toArray).heap.size := hlt r8
      clear KB hB7 r hO hO7 hB
      go_wp2_with (first | refine wpList_store_row rfl 27 _ _ rfl _ _ rfl rfl 27 _ r7 (by rw [Tryd.size27, ints_size, hcl2]) (by rw [ints_size, ints_size, hcl2, hcl]) (all_oneCell_toArray (ints_one .u8 _)) ?_ | refine wpList_load_row rfl 27 _ rfl _ rfl 27 _ _ _ r8 Tryd.underlying27 rfl (by rw [ints_size, hcl2]; rfl) ?_ | refine wpList_sliceD rfl _ rfl (ints .u8 D2) (by rw [ints_len, hcl2]) rfl ?_ | (at_builtin; refine wpList_pushD rfl (.tmp 19) (.tmp 21) rfl (E + 1) _ _ _ (ints .u8 D2) rfl hO8 rfl (by rw [ints_len, hcl2]) (ints_one _ _) (by omega) hE8 _ _ ?_; intro v2 w2 hO2 hB2))
      go_roundw
      case rel => exact ⟨j + 1, by omega, by go_num, by rw [HE.out]; exact hO2, by rw [HD2.out]; exact hbel hB2 r8 (by omega), hB8.trans (hB2.mono (by omega))⟩
      case measure => simp [intOf]; omega
    · obtain rfl : j = 256 := by omega
      clear hlt'
      obtain ⟨spv, capv, rfl⟩ := ownsRow_form hO
      go_wp2
      go_ret
      refine ⟨_, rfl, ?_, hB⟩
      refine ⟨hO.1, ?_⟩
      rcases hO.2 with h2 | ⟨g, cap, cur, e, hg, q⟩
      · exact Or.inl h2
      · exact Or.inr ⟨g, cap, cur, e, by omega, q⟩
end Go.Proofs.YtibpffoencjlcacDoor
