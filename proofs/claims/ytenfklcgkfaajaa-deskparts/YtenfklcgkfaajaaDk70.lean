import Derived.Test.YtenfklcgkfaajaaDk5
import Derived.ArgAppend
namespace Go.Proofs.Ytenfklcgkfaajaa
set_option linter.unusedVariables false
set_option linter.unusedSimpArgs false
open Go.RowKit
attribute [local go_sem ↓] Go.wp_at_zero Go.wp_at_succ

/-! Lists that are full of one mark, which may share a block. -/
theorem own_rep {w : World} {base g n cap : Nat} {m : Int} {cur : Array Value} (hh : w.heap[g]? = some (.cells cur 5 (0, 0))) (hg : base ≤ g) (hn : n ≤ cap) (hm : cap ≤ maxLen) (hs : cur.size = cap) (hc : ∀ j, j < n → cur[j]? = some (.int .u8 m)) :
    Own w base (.slice (some ⟨g, 0, none⟩) n cap) (List.replicate n m) := by
  refine ⟨by rw [ints_len, List.length_replicate, Nat.mul_one], Or.inr ⟨g, cap, cur, by rw [List.length_replicate], hg, hh, by rw [List.length_replicate]; exact hn, hm, by omega, ?_⟩⟩
  apply List.ext_getElem?
  intro j
  rw [List.length_replicate, Nat.mul_one, List.getElem?_take]
  by_cases hj : j < n
  · rw [if_pos hj, ints_get .u8 _ j (by rw [List.length_replicate]; exact hj), List.getD_eq_getElem?_getD, List.getElem?_replicate, if_pos hj]
    have := hc j hj
    simpa using this
  · rw [if_neg hj, List.getElem?_eq_none (by rw [ints_len, List.length_replicate]; omega)]
theorem rep_own {w : World} {base n : Nat} {v : Value} {m : Int} (h : Own w base v (List.replicate n m)) : (v = .slice none 0 0 ∧ n = 0) ∨ ∃ g cap cur, v = .slice (some ⟨g, 0, none⟩) n cap ∧ base ≤ g ∧ w.heap[g]? = some (.cells cur 5 (0, 0)) ∧ n ≤ cap ∧ cap ≤ maxLen ∧ cur.size = cap ∧ ∀ j, j < n → cur[j]? = some (.int .u8 m) := by
  obtain ⟨h1, ⟨rfl, hn⟩ | ⟨g, cap, cur, rfl, hg, hh, hc, hm, hs, ht⟩⟩ := h
  · rw [List.length_replicate] at hn; exact Or.inl ⟨rfl, hn⟩
  · rw [List.length_replicate] at hc ht
    refine Or.inr ⟨g, cap, cur, by rw [List.length_replicate], hg, hh, hc, hm, by omega, fun j hj => ?_⟩
    have hg2 := ints_get .u8 (List.replicate n m) j (by rw [List.length_replicate]; exact hj)
    rw [← ht, List.getElem?_take, if_pos (by omega), List.getD_eq_getElem?_getD, List.getElem?_replicate, if_pos hj] at hg2
    simpa using hg2
/-- Marks written from place o on. -/
theorem marks_row (g : Nat) (m : Int) : ∀ (c o : Nat) (w : World) (cur : Array Value), w.heap[g]? = some (.cells cur 5 (0, 0)) → ∃ cur', (w.setCells g o (ints .u8 (List.replicate c m))).heap[g]? = some (.cells cur' 5 (0, 0)) ∧ cur'.size = cur.size ∧ (∀ j, j < cur.size → cur'[j]? = if o ≤ j ∧ j < o + c then some (.int .u8 m) else cur[j]?) ∧ Keeps g w (w.setCells g o (ints .u8 (List.replicate c m)))
  | 0, o, w, cur, h => ⟨cur, h, rfl, fun j hj => by rw [if_neg (by omega)], Keeps.refl g w⟩
  | c + 1, o, w, cur, h => by
    have e : ints .u8 (List.replicate (c + 1) m) = .int .u8 m :: ints .u8 (List.replicate c m) := by rw [List.replicate_succ]; rfl
    rw [e]
    have h1 : (w.setCell ⟨g, o, none⟩ (.int .u8 m)).heap[g]? = some (.cells (cur.setIfInBounds o (.int .u8 m)) 5 (0, 0)) := by
      rw [heap_setCell_same _ _ _ _ _ _ h]
    obtain ⟨cur', a1, a2, a3, a4⟩ := marks_row g m c (o + 1) _ _ h1
    refine ⟨cur', a1, by rw [a2]; simp, fun j hj => ?_, ⟨a4.os, a4.tape, a4.output, by have := a4.size; rw [World.size_setCell] at this; exact this, fun k h1 h2 => ?_⟩⟩
    · rw [a3 j (by simpa using hj)]
      by_cases q1 : o + 1 ≤ j ∧ j < o + 1 + c
      · rw [if_pos q1, if_pos (by omega)]
      · rw [if_neg q1, Array.getElem?_setIfInBounds]
        by_cases q2 : o = j
        · rw [if_pos q2, if_pos (by omega), if_pos (by omega)]
        · rw [if_neg q2, if_neg (by omega)]
    · show ((w.setCell ⟨g, o, none⟩ (.int .u8 m)).setCells g (o + 1) _).heap[k]? = _
      rw [a4.block k (by rw [World.size_setCell]; exact h1) h2, heap_setCell_other w ⟨g, o, none⟩ k _ h2]
/-- append(full of m, m ..): the answer is full of m, and whatever was full of m stays so, in that block or in another. -/
theorem wpList_growM {w : World} {ops : Array Oper} {rest : List Oper} {o : Oper} {a : Act} {Q : Exit → Act → World → Prop} (hgd : o.guard = none) (s x : Operand)
    (ho : o.op = .call { callee := .builtin .append, args := #[s, x], argTypes := #[22, 22] })
    (base : Nat) (v : Value) (n c : Nat) (m : Int) (hs : a.eval s = v) (hown : Own w base v (List.replicate n m)) (hc0 : 0 < c) (hx : a.eval x = .slice (some ⟨w.heap.size, 0, none⟩) c c)
    (hlen : n + c ≤ 140737488355328) (hbase : base ≤ w.heap.size) (t : TypeId) (fr : Nat × Nat)
    (h : ∀ v' w', Own w' base v' (List.replicate (n + c) m) → Below base w w' → (∀ k, k < w.heap.size → v.ownBlock ≠ some k → w'.heap[k]? = w.heap[k]?) → (v'.ownBlock = v.ownBlock ∨ ∃ k, v'.ownBlock = some k ∧ w.heap.size ≤ k) →
      (∀ b u k, Own w b u (List.replicate k m) → Own w' b u (List.replicate k m)) → wpList Try.prog ops Q rest (a.put o.dst v') w') :
    wpList Try.prog ops Q (o :: rest) a (w.alloc (.cells (ints .u8 (List.replicate c m)).toArray t fr)) := by
  obtain ⟨i5, hi5, hz5, hs5, hy5⟩ := Try.info5
  have bA : Below w.heap.size w (w.alloc (.cells (ints .u8 (List.replicate c m)).toArray t fr)) := (Below.refl _ _).alloc (Nat.le_refl _) _
  have lc : (ints .u8 (List.replicate c m)).length = c := by rw [ints_len, List.length_replicate]
  have ln : (ints .u8 (List.replicate n m)).length = n := by rw [ints_len, List.length_replicate]
  have hN : ∀ j u, (ints .u8 (List.replicate c m))[j]? = some u → (w.alloc (.cells (ints .u8 (List.replicate c m)).toArray t fr)).cell? ((⟨w.heap.size, 0, none⟩ : Addr).add j) = some u := fun j u hu => by
    rw [Addr.add_mid, Nat.zero_add, cell_of_row _ _ _ _ _ _ (hnew w _)]
    simpa using hu
  have fin : ∀ v' w', w'.ownsRow (w.alloc (.cells (ints .u8 (List.replicate c m)).toArray t fr)).heap.size 5 1 v' (n + c) (ints .u8 (List.replicate n m) ++ ints .u8 (List.replicate c m)) → (w.alloc (.cells (ints .u8 (List.replicate c m)).toArray t fr)).grownBy w' none → wpList Try.prog ops Q rest (a.put o.dst v') w' := by
    intro v' w' q1 q2
    have bB : Below w.heap.size w w' := bA.trans (grown_keeps q2 (fun k hk => by cases hk) (by simp))
    have q3 : Own w' (w.alloc (.cells (ints .u8 (List.replicate c m)).toArray t fr)).heap.size v' (List.replicate n m ++ List.replicate c m) := Own.mk_append (by rw [List.length_replicate, List.length_replicate]; exact q1)
    rw [List.replicate_append_replicate] at q3
    have hsz : w.heap.size ≤ (w.alloc (.cells (ints .u8 (List.replicate c m)).toArray t fr)).heap.size := by simp
    refine h v' w' ⟨q3.1, q3.2.imp id fun ⟨g, cap, cur, e, hg, r⟩ => ⟨g, cap, cur, e, by omega, r⟩⟩ (bB.mono hbase) (fun k hk _ => bB.block k hk) ?_ (fun b u k hu => hu.below bB (Nat.le_refl _))
    rcases rep_own q3 with ⟨_, hn⟩ | ⟨g', cap', cur, e1, e2, _⟩
    · omega
    · exact Or.inr ⟨g', by rw [e1]; rfl, by omega⟩
  rcases rep_own hown with ⟨rfl, rfl⟩ | ⟨g, cap, cur, rfl, hg, hh, hn, hm, hsz, hc⟩
  · exact wpList_append_grows _ hgd s x 22 ho 5 i5 (.int .u8 0) 1 1 Try.underlying22 hi5 hz5 hs5 hy5 rfl Nat.one_pos none 0 0 (ints .u8 (List.replicate 0 m)) hs (fun _ => ⟨rfl, rfl⟩) (by rw [ln]) (fun b hb => by cases hb) ⟨w.heap.size, 0, none⟩ c c (ints .u8 (List.replicate c m)) hx (by rw [lc]; omega) hN (ints_one _ _) (by omega) (by unfold maxLen; omega) (by omega) fin
  · have hhA : (w.alloc (.cells (ints .u8 (List.replicate c m)).toArray t fr)).heap[g]? = some (.cells cur 5 (0, 0)) := hold hh
    refine wpList_append_arg _ hgd s x 22 ho 5 i5 (.int .u8 0) 1 1 Try.underlying22 hi5 hz5 hs5 hy5 rfl Nat.one_pos g 0 n cap (ints .u8 (List.replicate n m)) hs (by rw [ln]; omega) ?_ ⟨w.heap.size, 0, none⟩ c c (ints .u8 (List.replicate c m)) hx (by rw [lc]; omega) hN (ints_one _ _) ?_ (by unfold maxLen; omega) (by omega) ?_ (fun _ => fin)
    · intro j u hu
      have hj : j < n := by have := (List.getElem?_eq_some_iff.1 hu).1; rwa [ln] at this
      rw [ints_get .u8 _ j (by rw [List.length_replicate]; exact hj), List.getD_eq_getElem?_getD, List.getElem?_replicate, if_pos hj] at hu
      rw [Nat.zero_add, cell_of_row _ _ _ _ _ _ hhA, hc j hj]
      exact hu
    · intro hr j hj
      rw [lc] at hj
      refine ⟨?_, frozen_of_row _ _ _ _ _ hhA⟩
      rw [cell_of_row _ _ _ _ _ _ hhA, Array.getElem?_eq_getElem (by omega)]
      rfl
    · intro hr
      obtain ⟨cur', a1, a2, a3, a4⟩ := marks_row g m c (0 + n * 1) _ cur hhA
      have hszA : w.heap.size ≤ (w.alloc (.cells (ints .u8 (List.replicate c m)).toArray t fr)).heap.size := by simp
      refine h _ _ (own_rep a1 hg hr hm (by rw [a2, hsz]) fun j hj => ?_) ((bA.mono hbase).trans (a4.below_g hg (by omega))) (fun k hk hne => ?_) (Or.inl rfl) (fun b u k hu => ?_)
      · rw [a3 j (by omega)]
        by_cases q : j < n
        · rw [if_neg (by omega)]; exact hc j q
        · rw [if_pos (by omega)]
      · rw [a4.block k (by omega) (fun e => hne (by rw [e]; rfl))]
        exact bA.block k hk
      · rcases rep_own hu with ⟨rfl, rfl⟩ | ⟨g2, cap2, cur2, rfl, hg2, hh2, hn2, hm2, hsz2, hc2⟩
        · exact Own.nil _ _
        · by_cases q : g2 = g
          · subst q
            rw [hh] at hh2
            obtain rfl : cur = cur2 := by simpa using hh2
            refine own_rep a1 hg2 hn2 hm2 (by rw [a2, hsz2]) fun j hj => ?_
            rw [a3 j (by omega)]
            split
            · rfl
            · exact hc2 j hj
          · have e1 := a4.block g2 (by have := hlt hh2; omega) q
            exact own_rep (e1.trans (hold hh2)) hg2 hn2 hm2 hsz2 hc2
/-- Where an answer of append lies: where the list does, or in a new block. -/
def At (w : World) (v x : Value) : Prop := x.ownBlock = v.ownBlock ∨ ∃ k, x.ownBlock = some k ∧ w.heap.size ≤ k
/-- All but v's block is as it was. -/
def KV (w : World) (base : Nat) (v : Value) (w' : World) : Prop := Below base w w' ∧ ∀ k, k < w.heap.size → v.ownBlock ≠ some k → w'.heap[k]? = w.heap[k]?
theorem KV.refl (w : World) (base : Nat) (v : Value) : KV w base v w := ⟨Below.refl _ _, fun _ _ _ => rfl⟩
theorem KV.step {w w1 w2 : World} {base : Nat} {v x : Value} (h : KV w base v w1) (hx : At w v x) (hb : Below base w1 w2) (hk : ∀ k, k < w1.heap.size → x.ownBlock ≠ some k → w2.heap[k]? = w1.heap[k]?) : KV w base v w2 :=
  ⟨h.1.trans hb, fun k h1 h2 => by
    rw [hk k (Nat.lt_of_lt_of_le h1 h.1.size) fun e => ?_, h.2 k h1 h2]
    rcases hx with q | ⟨k2, q, q2⟩
    · exact h2 (q ▸ e)
    · rw [q] at e; cases e; omega⟩
theorem At.step {w w1 : World} {v x y : Value} (hx : At w v x) (hw : w.heap.size ≤ w1.heap.size) (hy : y.ownBlock = x.ownBlock ∨ ∃ k, y.ownBlock = some k ∧ w1.heap.size ≤ k) : At w v y := by
  rcases hy with q | ⟨k, q, q2⟩
  · rcases hx with e | ⟨k2, e, e2⟩
    · exact Or.inl (q.trans e)
    · exact Or.inr ⟨k2, q.trans e, e2⟩
  · exact Or.inr ⟨k, q, by omega⟩
theorem At.self (w : World) (v : Value) : At w v v := Or.inl rfl
/-- Whatever was full of m stays so. -/
def Fu (m : Int) (w w' : World) : Prop := ∀ b u k, Own w b u (List.replicate k m) → Own w' b u (List.replicate k m)

theorem rep_form {w : World} {base n : Nat} {v : Value} {m : Int} (h : Own w base v (List.replicate n m)) : ∃ sp cap, v = .slice sp n cap ∧ cap ≤ maxLen ∧ n ≤ cap := by
  rcases rep_own h with ⟨rfl, rfl⟩ | ⟨g, cap, cur, rfl, _, _, h1, h2, _⟩
  · exact ⟨none, 0, rfl, by simp [maxLen], Nat.le_refl _⟩
  · exact ⟨_, cap, rfl, h2, h1⟩
/-- A held list's cells. -/
def hlC (m : Int) (n : Nat) (l a b c d : Value) : List Value := [.int .u8 m, .int .i64 n, l, a, b, c, d]
theorem Try.sizeHl : (Try.prog.info? 47).map (·.size) = some 7 := by kernel_rfl
theorem Own.row {w : World} {base : Nat} {v : Value} {zs : List Int} (h : Own w base v zs) : (v = .slice none 0 0 ∧ zs = []) ∨ ∃ g cap cur, v = .slice (some ⟨g, 0, none⟩) zs.length cap ∧ base ≤ g ∧ w.heap[g]? = some (.cells cur 5 (0, 0)) ∧ zs.length ≤ cap ∧ cap ≤ maxLen ∧ cur.size = cap := by
  obtain ⟨h1, ⟨rfl, hn⟩ | ⟨g, cap, cur, rfl, hg, hh, hc, hm, hs, ht⟩⟩ := h
  · exact Or.inl ⟨rfl, List.eq_nil_of_length_eq_zero hn⟩
  · exact Or.inr ⟨g, cap, cur, rfl, hg, hh, hc, hm, by omega⟩
set_option maxRecDepth 100000 in
set_option maxHeartbeats 2000000 in
theorem hold_any (w : World) (base : Nat) (hb : base ≤ w.heap.size) (v : Value) (zs : List Int) (hO : Own w base v zs) (m : Int) :
    Calls Try.prog 14 #[v, .int .u8 m] w fun e w' => e = .returned (.agg (hlC m zs.length v (.slice none 0 0) (.slice none 0 0) (.slice none 0 0) (.slice none 0 0)).toArray) ∧ Own w' base v (List.replicate zs.length m) ∧ KV w base v w' := by
  have hz := hnew w (.cells #[.int .u8 0, .int .i64 0, .slice none 0 0, .slice none 0 0, .slice none 0 0, .slice none 0 0, .slice none 0 0] 47)
  have hb0 := (Below.refl w.heap.size w).alloc (Nat.le_refl _) (.cells #[.int .u8 0, .int .i64 0, .slice none 0 0, .slice none 0 0, .slice none 0 0, .slice none 0 0, .slice none 0 0] 47)
  rcases hO.row with ⟨rfl, rfl⟩ | ⟨g, cap, cur, rfl, hg, hh, hn, hm, hs⟩
  · go_enter Try.func14, Try.ntmps14
    go_wp2
    go_loopw [5] (fun i wr => i = .int .i64 0 ∧ wr = w.alloc (.cells #[.int .u8 0, .int .i64 0, .slice none 0 0, .slice none 0 0, .slice none 0 0, .slice none 0 0, .slice none 0 0] 47)) (fun i _ => 0)
    case atStart => exact ⟨rfl, rfl⟩
    case round =>
      obtain ⟨rfl, rfl⟩ := hrel
      have HZ := hid hz
      go_wp2_with (first | (refine wpList_storeRowW rfl 47 _ _ rfl w.heap.size (hlC m 0 (.slice none 0 0) (.slice none 0 0) (.slice none 0 0) (.slice none 0 0) (.slice none 0 0)) rfl rfl 47 _ HZ.out Try.sizeHl rfl (by intro y hy; simp [hlC] at hy; rcases hy with rfl | rfl | rfl <;> rfl) ?_; intro w2 hr2 hk2; refine Hid.out ?_))
      refine hid ?_
      go_wp2
      refine bodyPost_ret (results_cell_row Try.results14 _ _ w.heap.size 47 _ _ _ rfl hr2 Try.underlying47 rfl Try.sizeHl) rfl ?_
      exact ⟨rfl, Own.nil _ _, (hb0.trans (hk2.below_g (Nat.le_refl _) (by simp))).mono hb, fun k hk _ => (hk2.block k (by simp; omega) (by omega)).trans (hb0.block k hk)⟩
  · have i0 : (zs.length : Int) ≤ 9223372036854775807 := by unfold maxLen at hm; omega
    have hgw := hlt hh
    have hh0 := hold (o := .cells #[.int .u8 0, .int .i64 0, .slice none 0 0, .slice none 0 0, .slice none 0 0, .slice none 0 0, .slice none 0 0] 47) hh
    generalize hN : zs.length = N at *
    clear hO
    go_enter Try.func14, Try.ntmps14
    go_wp2
    generalize hw0 : w.alloc (.cells #[.int .u8 0, .int .i64 0, .slice none 0 0, .slice none 0 0, .slice none 0 0, .slice none 0 0, .slice none 0 0] 47) = w0 at *
    replace hw0 := hid hw0
    replace hN := hid hN
    go_loopw [5] (fun i wr => ∃ (k : Nat) (cu : Array Value), k ≤ N ∧ i = .int .i64 k ∧ wr.heap[g]? = some (.cells cu 5 (0, 0)) ∧ cu.size = cap ∧ (∀ j, j < k → cu[j]? = some (.int .u8 m)) ∧ Keeps g w0 wr) (fun i _ => N - (intOf i).toNat)
    case atStart => exact ⟨0, cur, Nat.zero_le _, rfl, hh0, hs, fun j hj => by omega, Keeps.refl _ _⟩
    case round =>
      obtain ⟨k, cu, hk, rfl, hg2, hs2, hc2, hK⟩ := hrel
      by_cases hlt' : k < N
      · have i1 : (k : Int) < (N : Int) := by omega
        have c0 : wr.cell? ⟨g, k, none⟩ = some cu[k] := by rw [cell_of_row _ _ _ _ _ _ hg2, Array.getElem?_eq_getElem (by omega)]
        have fz : wr.frozen? ⟨g, k, none⟩ = false := frozen_of_row _ _ _ _ _ hg2
        have HN := hid (show (wr.setCell ⟨g, k, none⟩ (.int .u8 m)).heap[g]? = some (.cells (cu.setIfInBounds k (.int .u8 m)) 5 (0, 0)) by rw [heap_setCell_same _ _ _ _ _ _ hg2])
        have HK := hid (hK.setCell k (.int .u8 m))
        have HC := hid hc2
        generalize cu[k] = u at c0
        clear hc2 hK hg2
        go_wp2
        go_roundw
        case rel =>
          refine ⟨k + 1, cu.setIfInBounds k (.int .u8 m), by omega, by go_num, HN.out, by simp [hs2], fun j hj => ?_, HK.out⟩
          rw [Array.getElem?_setIfInBounds]
          by_cases q : k = j
          · rw [if_pos q, if_pos (by omega)]
          · rw [if_neg q]; exact HC.out j (by omega)
        case measure => simp [intOf]; omega
      · obtain rfl : k = N := by omega
        have HZ := hid (hK.heap hz (by omega))
        have HO := hid (own_rep hg2 hg hn hm hs2 hc2)
        have hbl : Below base w wr := (hb0.mono hb).trans (hK.below_g hg (by have := hb0.size; omega))
        have hbl2 := hid hbl
        have hks := hid (fun q (hq : q < w.heap.size) (hne : q ≠ g) => (hK.block q (by have := hb0.size; omega) hne).trans (hb0.block q hq))
        have hsz := hid (show w.heap.size < wr.heap.size from Nat.lt_of_lt_of_le (hlt hz) hK.size)
        clear hlt' hK hc2 hg2 hbl
        go_wp2_with (first | (refine wpList_storeRowW rfl 47 _ _ rfl w.heap.size (hlC m k (.slice (some ⟨g, 0, none⟩) k cap) (.slice none 0 0) (.slice none 0 0) (.slice none 0 0) (.slice none 0 0)) rfl rfl 47 _ HZ.out Try.sizeHl rfl (by intro y hy; simp [hlC] at hy; rcases hy with rfl | rfl | rfl | rfl <;> rfl) ?_; intro w2 hr2 hk2; refine Hid.out ?_))
        refine hid ?_
        go_wp2
        refine bodyPost_ret (results_cell_row Try.results14 _ _ w.heap.size 47 _ _ _ rfl hr2 Try.underlying47 rfl Try.sizeHl) rfl ?_
        refine ⟨rfl, HO.out.of_heap (fun q hq => by simp [Value.ownBlock] at hq; subst hq; exact hk2.block _ (by have := hsz.out; omega) (by omega)), hbl2.out.trans (hk2.below_g hb (Nat.le_trans hb hbl2.out.size)), fun q hq hne => ?_⟩
        rw [hk2.block q (by have := hsz.out; omega) (by omega)]
        exact hks.out q hq (fun e => hne (by rw [e]; rfl))
set_option maxRecDepth 100000 in
set_option maxHeartbeats 800000 in
theorem full_any (w : World) (base : Nat) (v : Value) (m : Int) (n : Nat) (h : Own w base v (List.replicate n m)) :
    Calls Try.prog 17 #[v, .int .i64 n, .int .u8 m] w fun e w' => e = .returned (.bool true) ∧ w' = w := by
  obtain ⟨sp, cap, rfl, hcm, hnc⟩ := rep_form h
  have hrow := rep_own h
  unfold maxLen at hcm
  have i0 : (n : Int) ≤ 9223372036854775807 := by omega
  clear hcm hnc
  go_enter Try.func17, Try.ntmps17
  go_wp2
  go_loopw [7] (fun i wr => ∃ k : Nat, k ≤ n ∧ i = .int .i64 k ∧ wr = w) (fun i _ => n - (intOf i).toNat)
  case atStart => exact ⟨0, by omega, rfl, rfl⟩
  case round =>
    obtain ⟨k, hk, rfl, hwr⟩ := hrel
    obtain rfl := hwr.symm
    by_cases hkn : k < n
    · have i1 : (k : Int) < (n : Int) := by omega
      rcases hrow with ⟨_, h0⟩ | ⟨g, cap2, cur, hv, _, hh, _, _, _, hc⟩
      · omega
      · simp only [Value.slice.injEq] at hv
        obtain ⟨rfl, _, rfl⟩ := hv
        have c0 : w.cell? ⟨g, k, none⟩ = some (.int .u8 m) := by
          rw [cell_of_row _ _ _ _ _ _ hh]; exact hc k hkn
        clear hc hh h
        go_wp2
        go_roundw
        case rel => exact ⟨k + 1, by omega, by go_num, trivial⟩
        case measure => simp [intOf]; omega
    · obtain rfl : k = n := by omega
      clear hkn hrow
      go_wp2
      go_ret
      exact ⟨rfl, rfl⟩
set_option maxRecDepth 100000 in
set_option maxHeartbeats 2000000 in
theorem stands_any (w : World) (base : Nat) (m : Int) (n : Nat) (l a b c d : Value) (hn : n ≤ 140737488355000) (hl : Own w base l (List.replicate n m)) (ha : Own w base a (List.replicate (n + 1) m)) (hb : Own w base b (List.replicate (n + 2) m)) (hc : Own w base c (List.replicate (n + 3) m)) (hd : Own w base d (List.replicate (n + 100) m)) :
    Calls Try.prog 16 #[.agg (hlC m n l a b c d).toArray] w fun e w' => e = .returned (.bool true) ∧ Below w.heap.size w w' := by
  have hr := hnew w (.cells (hlC m n l a b c d).toArray 47)
  have hb0 := (Below.refl w.heap.size w).alloc (Nat.le_refl _) (.cells (hlC m n l a b c d).toArray 47)
  have c0 : (w.alloc (.cells (hlC m n l a b c d).toArray 47)).cell? ⟨w.heap.size, 0, none⟩ = some (.int .u8 m) := by rw [cell_of_row _ _ _ _ _ _ hr]; rfl
  have c1 : (w.alloc (.cells (hlC m n l a b c d).toArray 47)).cell? ⟨w.heap.size, 1, none⟩ = some (.int .i64 n) := by rw [cell_of_row _ _ _ _ _ _ hr]; rfl
  have c2 : (w.alloc (.cells (hlC m n l a b c d).toArray 47)).cell? ⟨w.heap.size, 2, none⟩ = some l := by rw [cell_of_row _ _ _ _ _ _ hr]; rfl
  have c3 : (w.alloc (.cells (hlC m n l a b c d).toArray 47)).cell? ⟨w.heap.size, 3, none⟩ = some a := by rw [cell_of_row _ _ _ _ _ _ hr]; rfl
  have c4 : (w.alloc (.cells (hlC m n l a b c d).toArray 47)).cell? ⟨w.heap.size, 4, none⟩ = some b := by rw [cell_of_row _ _ _ _ _ _ hr]; rfl
  have c5 : (w.alloc (.cells (hlC m n l a b c d).toArray 47)).cell? ⟨w.heap.size, 5, none⟩ = some c := by rw [cell_of_row _ _ _ _ _ _ hr]; rfl
  have c6 : (w.alloc (.cells (hlC m n l a b c d).toArray 47)).cell? ⟨w.heap.size, 6, none⟩ = some d := by rw [cell_of_row _ _ _ _ _ _ hr]; rfl
  have K1 := hid (full_any _ base l m n (hl.below hb0 (Nat.le_refl _)))
  have K2 := hid (full_any _ base a m (n + 1) (ha.below hb0 (Nat.le_refl _)))
  have K3 := hid (full_any _ base b m (n + 2) (hb.below hb0 (Nat.le_refl _)))
  have K4 := hid (full_any _ base c m (n + 3) (hc.below hb0 (Nat.le_refl _)))
  have K5 := hid (full_any _ base d m (n + 100) (hd.below hb0 (Nat.le_refl _)))
  obtain ⟨s1, p1, rfl, _, _⟩ := rep_form hl
  obtain ⟨s2, p2, rfl, _, _⟩ := rep_form ha
  obtain ⟨s3, p3, rfl, _, _⟩ := rep_form hb
  obtain ⟨s4, p4, rfl, _, _⟩ := rep_form hc
  obtain ⟨s5, p5, rfl, _, _⟩ := rep_form hd
  have HB := hid hb0
  have i0 : (n : Int) ≤ 140737488355000 := by omega
  clear hl ha hb hc hd hr hb0
  go_enter Try.func16, Try.ntmps16
  go_wp2_with fail
  refine K1.out.mono ?_
  rintro e w' ⟨rfl, hw'⟩
  obtain rfl := hw'.symm
  go_wp2_with fail
  refine K2.out.mono ?_
  rintro e w' ⟨rfl, hw'⟩
  obtain rfl := hw'.symm
  go_wp2_with fail
  refine K3.out.mono ?_
  rintro e w' ⟨rfl, hw'⟩
  obtain rfl := hw'.symm
  go_wp2_with fail
  refine K4.out.mono ?_
  rintro e w' ⟨rfl, hw'⟩
  obtain rfl := hw'.symm
  go_wp2_with fail
  refine K5.out.mono ?_
  rintro e w' ⟨rfl, hw'⟩
  obtain rfl := hw'.symm
  go_wp2
  go_ret
  exact ⟨rfl, HB.out⟩
end Go.Proofs.Ytenfklcgkfaajaa
