import Derived.Test.YtbmjegcnfokagacDoorSa
import Derived.ArgAppend
namespace Go.Proofs.YtbmjegcnfokagacDoor
set_option linter.unusedVariables false
set_option linter.unusedSimpArgs false
open Go.RowKit
attribute [local go_sem ↓] Go.wp_at_zero Go.wp_at_succ

/-! Lists of slices that the call made. -/
def OwnS (w : World) (base : Nat) (v : Value) (vs : List Value) : Prop := w.ownsRow base 24 1 v vs.length vs
theorem OwnS.nil (w : World) (base : Nat) : OwnS w base (.slice none 0 0) [] := ⟨rfl, Or.inl ⟨rfl, rfl⟩⟩
theorem OwnS.heap {w : World} {base : Nat} {v : Value} {vs : List Value} (h : OwnS w base v vs) : ∀ k, v.ownBlock = some k → base ≤ k ∧ k < w.heap.size ∧ ∃ cs, w.heap[k]? = some (.cells cs 24 (0, 0)) := by
  intro k hk
  rcases h.2 with ⟨rfl, _⟩ | ⟨g, cap, cur, rfl, hg, hh, _⟩
  · simp [Value.ownBlock] at hk
  · simp [Value.ownBlock] at hk; subst hk; exact ⟨hg, hlt hh, cur, hh⟩
theorem OwnS.of_heap {w w1 : World} {base : Nat} {v : Value} {vs : List Value} (h : OwnS w base v vs) (hk : ∀ k, v.ownBlock = some k → w1.heap[k]? = w.heap[k]?) : OwnS w1 base v vs := by
  refine ⟨h.1, ?_⟩
  rcases h.2 with h2 | ⟨g, cap, cur, rfl, hg, hh, r⟩
  · exact Or.inl h2
  · exact Or.inr ⟨g, cap, cur, rfl, hg, (hk g rfl).trans hh, r⟩
/-- Where the elements lie. -/
theorem OwnS.at {w : World} {base : Nat} {v : Value} {vs : List Value} (h : OwnS w base v vs) : ∃ sp cap b, v = .slice sp vs.length cap ∧ vs.length ≤ cap ∧ cap ≤ maxLen ∧ (0 < vs.length → sp = some ⟨b, 0, none⟩) ∧ ∀ j, j < vs.length → w.cell? ⟨b, j, none⟩ = some (vs.getD j undef) := by
  obtain ⟨h1, ⟨rfl, hn⟩ | ⟨g, cap, cur, rfl, hg, hh, hc, hm, hs, ht⟩⟩ := h
  · exact ⟨none, 0, 0, by rw [hn], by omega, by simp [maxLen], fun h => by omega, fun j hj => by omega⟩
  · refine ⟨some ⟨g, 0, none⟩, cap, g, rfl, hc, hm, fun _ => rfl, fun j hj => ?_⟩
    rw [cell_of_row _ _ _ _ _ _ hh]
    have e : vs[j]? = cur.toList[j]? := by
      rw [← ht, List.getElem?_take, if_pos (by omega)]
    rw [List.getD_eq_getElem?_getD, e]
    have hj2 : j < cur.toList.length := by simp; omega
    rw [List.getElem?_eq_getElem hj2]
    simp
theorem ne_of_type {w : World} {a b : Nat} {x y : Array Value} {t u : TypeId} {f f' : Nat × Nat} (ha : w.heap[a]? = some (.cells x t f)) (hb : w.heap[b]? = some (.cells y u f')) (h : t ≠ u) : a ≠ b := by
  rintro rfl
  rw [ha] at hb
  cases hb
  exact h rfl
def Dj (v1 v2 : Value) : Prop := ∀ k, v1.ownBlock = some k → v2.ownBlock = some k → False
theorem Dj.symm {u v : Value} (h : Dj u v) : Dj v u := fun k h1 h2 => h k h2 h1
theorem Dj.nil (v : Value) : Dj (.slice none 0 0) v := fun k h => by simp [Value.ownBlock] at h
theorem DjS.push {w : World} {base : Nat} {u v v' : Value} {us : List Value} (h : OwnS w base u us) (hd : Dj v u) (hv : v'.ownBlock = v.ownBlock ∨ ∃ k, v'.ownBlock = some k ∧ w.heap.size ≤ k) : Dj v' u := fun k h1 h2 => by
  rcases hv with e | ⟨k', e, hk'⟩
  · exact hd k (e ▸ h1) h2
  · rw [e] at h1; cases h1; have := (h.heap _ h2).2.1; omega
theorem Tryd.infoSm : (Tryd.prog.info? 24).map (fun i => (i.zero, i.size, i.bytes)) = some (some (.slice none 0 0), 1, 24) := by kernel_rfl
theorem Tryd.infoS : ∃ i, Tryd.prog.info? 24 = some i ∧ i.zero = some (.slice none 0 0) ∧ i.size = 1 ∧ i.bytes = 24 := by
  have h := Tryd.infoSm
  cases hq : Tryd.prog.info? 24 with
  | none => rw [hq] at h; cases h
  | some i =>
    rw [hq] at h
    simp only [Option.map_some, Option.some.injEq, Prod.mk.injEq] at h
    exact ⟨i, rfl, h.1, h.2.1, h.2.2⟩
/-- append(own list of slices, x..), the new ones in a block of their own. -/
theorem wpList_pushS {w : World} {ops : Array Oper} {rest : List Oper} {o : Oper} {a : Act} {Q : Exit → Act → World → Prop} (hgd : o.guard = none) (s x : Operand)
    (ho : o.op = .call { callee := .builtin .append, args := #[s, x], argTypes := #[22, 22] })
    (base : Nat) (v : Value) (vs ys : List Value) (hs : a.eval s = v) (hown : OwnS w base v vs) (hx : a.eval x = .slice (some ⟨w.heap.size, 0, none⟩) ys.length ys.length) (h1 : ∀ y ∈ ys, y.oneCell' = true)
    (hlen : vs.length + ys.length ≤ 1000000000000) (hbase : base ≤ w.heap.size) (t : TypeId) (fr : Nat × Nat)
    (h : ∀ v' w', OwnS w' base v' (vs ++ ys) → Below base w w' → (∀ k, k < w.heap.size → v.ownBlock ≠ some k → w'.heap[k]? = w.heap[k]?) → (v'.ownBlock = v.ownBlock ∨ ∃ k, v'.ownBlock = some k ∧ w.heap.size ≤ k) → wpList Tryd.prog ops Q rest (a.put o.dst v') w') :
    wpList Tryd.prog ops Q (o :: rest) a (w.alloc (.cells ys.toArray t fr)) := by
  obtain ⟨i5, hi5, hz5, hs5, hy5⟩ := Tryd.infoS
  have hown' : OwnS (w.alloc (.cells ys.toArray t fr)) base v vs := hown.of_heap fun k hk => by
    show (w.heap.push _)[k]? = _
    rw [Array.getElem?_push, if_neg (by have := (hown.heap k hk).2.1; omega)]
  refine wpList_append_own_at _ hgd s x 22 ho base 24 i5 (.slice none 0 0) 1 24 Tryd.underlying22 hi5 hz5 hs5 hy5 rfl Nat.one_pos v vs.length vs hs hown' ⟨w.heap.size, 0, none⟩ ys.length ys.length ys hx (by omega) ?_ h1 (by unfold maxLen; omega) (by omega) (by simp; omega) ?_
  · intro j u hu
    rw [Addr.add_mid, Nat.zero_add, cell_of_row _ _ _ _ _ _ (hnew w _)]
    simpa using hu
  · intro v' w' q1 q2 _ q4
    have hB1 : Below base w (w.alloc (.cells ys.toArray t fr)) := (Below.refl _ _).alloc hbase _
    refine h v' w' (by unfold OwnS; rw [List.length_append]; exact q1) (hB1.trans (grown_keeps q2 (fun k hk => (hown.heap k hk).1) (by simp; omega))) (fun k hk hne => ?_) ?_
    · rw [q2.block k (by simp; omega) (fun e => hne e.symm)]
      show (w.heap.push _)[k]? = _
      rw [Array.getElem?_push, if_neg (by omega)]
    · rcases q4 with e | e
      · exact Or.inl e
      · exact Or.inr ⟨_, e, by simp⟩
/-- append(l, x..) of a list of bytes with no spare room: a new block. -/
theorem wpList_grow5 {w : World} {ops : Array Oper} {rest : List Oper} {o : Oper} {a : Act} {Q : Exit → Act → World → Prop} (hgd : o.guard = none) (s x : Operand)
    (ho : o.op = .call { callee := .builtin .append, args := #[s, x], argTypes := #[24, 24] })
    (g : Nat) (os ys : List Int) (hs : a.eval s = .slice (some ⟨g, 0, none⟩) os.length os.length) (hI : In w g [] os) (hy : 0 < ys.length) (hx : a.eval x = .slice (some ⟨w.heap.size, 0, none⟩) ys.length ys.length)
    (hlen : os.length + ys.length ≤ 1000000000000) (t : TypeId) (fr : Nat × Nat)
    (h : ∀ v' w', Own w' w.heap.size v' (os ++ ys) → Below w.heap.size w w' → wpList Tryd.prog ops Q rest (a.put o.dst v') w') :
    wpList Tryd.prog ops Q (o :: rest) a (w.alloc (.cells (ints .u8 ys).toArray t fr)) := by
  obtain ⟨i5, hi5, hz5, hs5, hy5⟩ := Tryd.info5
  have hI' : In (w.alloc (.cells (ints .u8 ys).toArray t fr)) g [] os := hold hI
  refine wpList_append_grows _ hgd s x 24 ho 5 i5 (.int .u8 0) 1 1 Tryd.underlying24 hi5 hz5 hs5 hy5 rfl Nat.one_pos (some ⟨g, 0, none⟩) os.length os.length (ints .u8 os) hs (fun h => by cases h) (by rw [ints_len]; omega) ?_ ⟨w.heap.size, 0, none⟩ ys.length ys.length (ints .u8 ys) hx (by rw [ints_len]; omega) ?_ (ints_one _ _) (by omega) (by unfold maxLen; omega) (by omega) ?_
  · intro b hb j u hu
    cases hb
    have hj : j < os.length := by have := (List.getElem?_eq_some_iff.1 hu).1; rwa [ints_len] at this
    rw [ints_get .u8 os j hj] at hu
    rw [Addr.add_mid, Nat.zero_add, hI'.cell j hj]; exact hu
  · intro j u hu
    rw [Addr.add_mid, Nat.zero_add, cell_of_row _ _ _ _ _ _ (hnew w _)]
    simpa using hu
  · intro v' w' q1 q2
    have hB1 : Below w.heap.size w (w.alloc (.cells (ints .u8 ys).toArray t fr)) := (Below.refl _ _).alloc (Nat.le_refl _) _
    refine h v' w' ?_ (hB1.trans (grown_keeps q2 (fun k hk => by cases hk) (by simp)))
    have q3 := Own.mk_append (xs := os) (ys := ys) q1
    obtain ⟨z1, z2⟩ := q3
    refine ⟨z1, ?_⟩
    rcases z2 with z2 | ⟨g', cap, cur, e1, e2, e3⟩
    · exact Or.inl z2
    · exact Or.inr ⟨g', cap, cur, e1, by simp at e2; omega, e3⟩
/-- A list that is full of m. -/
def FL (w : World) (v : Value) (m : Int) (n : Nat) : Prop := ∃ g cap rest, v = .slice (some ⟨g, 0, none⟩) n cap ∧ In w g rest (List.replicate n m) ∧ n ≤ cap ∧ cap ≤ maxLen
theorem FL.of_own {w : World} {base : Nat} {v : Value} {m : Int} {n : Nat} (h : Own w base v (List.replicate n m)) (hn : 0 < n) : FL w v m n := by
  rcases h.parts with ⟨_, h0⟩ | ⟨g, cap, rest, rfl, _, hI, hc, hm, _⟩
  · have := congrArg List.length h0; simp at this; omega
  · rw [List.length_replicate] at hc
    exact ⟨g, cap, rest, by rw [List.length_replicate], hI, hc, hm⟩
theorem FL.of_heap {w w1 : World} {v : Value} {m : Int} {n : Nat} (h : FL w v m n) (hk : ∀ k, v.ownBlock = some k → w1.heap[k]? = w.heap[k]?) : FL w1 v m n := by
  obtain ⟨g, cap, rest, rfl, hI, hc⟩ := h
  exact ⟨g, cap, rest, rfl, (hk g rfl).trans hI, hc⟩
theorem FL.heap {w : World} {v : Value} {m : Int} {n : Nat} (h : FL w v m n) : ∀ k, v.ownBlock = some k → k < w.heap.size ∧ ∃ cs, w.heap[k]? = some (.cells cs 5 (0, 0)) := by
  obtain ⟨g, cap, rest, rfl, hI, hc⟩ := h
  intro k hk
  simp [Value.ownBlock] at hk; subst hk
  exact ⟨hlt hI, _, hI⟩
def mk (i : Nat) : Int := ((i % 250 + 1 : Nat) : Int)
set_option maxRecDepth 100000 in
set_option maxHeartbeats 400000 in
theorem mark_any (w : World) (i : Nat) (hi : i ≤ 1048576000) :
    Calls Tryd.prog 21 #[.int .i64 i] w fun e w' => e = .returned (.int .u8 (mk i)) ∧ w' = w := by
  have i1 : (i : Int) ≤ 1048576000 := by omega
  go_enter Tryd.func21, Tryd.ntmps21
  go_wp2
  go_ret
  refine ⟨?_, rfl⟩
  have : mk i = (i : Int) % 250 + 1 := by unfold mk; omega
  rw [this]; rfl
set_option maxRecDepth 100000 in
set_option maxHeartbeats 400000 in
theorem full_any (w : World) (v : Value) (m : Int) (n : Nat) (h : FL w v m n) (hn : n ≤ 1048576000) :
    Calls Tryd.prog 22 #[v, .int .u8 m, .int .i64 n] w fun e w' => e = .returned (.bool true) ∧ Below w.heap.size w w' := by
  obtain ⟨g, cap, rest, rfl, hI, hc, hm⟩ := h
  have i0 : (n : Int) ≤ 1048576000 := by omega
  go_enter Tryd.func22, Tryd.ntmps22
  go_wp2
  go_loopw [7] (fun i wr => ∃ k : Nat, k ≤ n ∧ i = .int .i64 k ∧ Below w.heap.size w wr) (fun i _ => n - (intOf i).toNat)
  case atStart => exact ⟨0, by omega, rfl, Below.refl _ _⟩
  case round =>
    obtain ⟨k, hk, rfl, hB⟩ := hrel
    by_cases hkn : k < n
    · have i1 : (k : Int) < (n : Int) := by omega
      have c0 : wr.cell? ⟨g, k, none⟩ = some (.int .u8 m) := by
        have := (hB.cell (p := ⟨g, k, none⟩) (hlt hI)).trans (hI.cell k (by rw [List.length_replicate]; exact hkn))
        rwa [List.getD_eq_getElem?_getD, List.getElem?_replicate, if_pos hkn] at this
      go_wp2
      go_roundw
      case rel => exact ⟨k + 1, by omega, by go_num, hB⟩
      case measure => simp [intOf]; omega
    · obtain rfl : k = n := by omega
      clear hkn
      go_wp2
      go_ret
      exact ⟨rfl, hB⟩
end Go.Proofs.YtbmjegcnfokagacDoor
