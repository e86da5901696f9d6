import Derived.Test.YtpmjijadjblkeaaDoorUd
import Derived.RegionTactic
namespace Go.Proofs.YtpmjijadjblkeaaDoor
set_option linter.unusedVariables false
set_option linter.unusedSimpArgs false
open Go.RowKit
attribute [local go_sem ↓] Go.wp_at_zero Go.wp_at_succ

/-! Lists of one-cell values that the call made: e the elements' type. -/
def OwnE (e : TypeId) (w : World) (base : Nat) (v : Value) (vs : List Value) : Prop := w.ownsRow base e 1 v vs.length vs
theorem OwnE.nil (e : TypeId) (w : World) (base : Nat) : OwnE e w base (.slice none 0 0) [] := ⟨rfl, Or.inl ⟨rfl, rfl⟩⟩
theorem OwnE.heap {e : TypeId} {w : World} {base : Nat} {v : Value} {vs : List Value} (h : OwnE e w base v vs) : ∀ k, v.ownBlock = some k → base ≤ k ∧ k < w.heap.size ∧ ∃ cs, w.heap[k]? = some (.cells cs e (0, 0)) := by
  intro k hk
  rcases h.2 with ⟨rfl, _⟩ | ⟨g, cap, cur, rfl, hg, hh, _⟩
  · simp [Value.ownBlock] at hk
  · simp [Value.ownBlock] at hk; subst hk; exact ⟨hg, hlt hh, cur, hh⟩
theorem OwnE.of_heap {e : TypeId} {w w1 : World} {base : Nat} {v : Value} {vs : List Value} (h : OwnE e w base v vs) (hk : ∀ k, v.ownBlock = some k → w1.heap[k]? = w.heap[k]?) : OwnE e w1 base v vs := by
  refine ⟨h.1, ?_⟩
  rcases h.2 with h2 | ⟨g, cap, cur, rfl, hg, hh, r⟩
  · exact Or.inl h2
  · exact Or.inr ⟨g, cap, cur, rfl, hg, (hk g rfl).trans hh, r⟩
theorem OwnE.at {e : TypeId} {w : World} {base : Nat} {v : Value} {vs : List Value} (h : OwnE e w base v vs) : ∃ sp cap b, v = .slice sp vs.length cap ∧ vs.length ≤ cap ∧ cap ≤ maxLen ∧ (0 < vs.length → sp = some ⟨b, 0, none⟩) ∧ ∀ j, j < vs.length → w.cell? ⟨b, j, none⟩ = some (vs.getD j undef) := by
  obtain ⟨h1, ⟨rfl, hn⟩ | ⟨g, cap, cur, rfl, hg, hh, hc, hm, hs, ht⟩⟩ := h
  · exact ⟨none, 0, 0, by rw [hn], by omega, by simp [maxLen], fun h => by omega, fun j hj => by omega⟩
  · refine ⟨some ⟨g, 0, none⟩, cap, g, rfl, hc, hm, fun _ => rfl, fun j hj => ?_⟩
    rw [cell_of_row _ _ _ _ _ _ hh]
    have e : vs[j]? = cur.toList[j]? := by
      rw [← ht, List.getElem?_take, if_pos (by omega)]
    rw [List.getD_eq_getElem?_getD, e]
    have hj2 : j < cur.toList.length := by simp; omega
    rw [List.getElem?_eq_getElem hj2]
    simp
theorem ne_of_type {w : World} {a b : Nat} {x y : Array Value} {t u : TypeId} {f f' : Nat × Nat} (ha : w.heap[a]? = some (.cells x t f)) (hb : w.heap[b]? = some (.cells y u f')) (h : t ≠ u) : a ≠ b := by
  rintro rfl
  rw [ha] at hb
  cases hb
  exact h rfl
/-- append(own list, x), x in a block of its own. -/
theorem wpList_pushE {w : World} {ops : Array Oper} {rest : List Oper} {o : Oper} {a : Act} {Q : Exit → Act → World → Prop} (hgd : o.guard = none) (s x : Operand) (T e : TypeId) (i : TypeInfo) (z : Value) (bytes : Nat)
    (hT : Tryd.prog.underlying T = some (.slice e)) (hi : Tryd.prog.info? e = some i) (hz : i.zero = some z) (hsz : i.size = 1) (hby : i.bytes = bytes) (hzc : z.cells.size = 1) (hbb : bytes ≤ 24)
    (ho : o.op = .call { callee := .builtin .append, args := #[s, x], argTypes := #[T, T] })
    (base : Nat) (v : Value) (vs : List Value) (y : Value) (hs : a.eval s = v) (hown : OwnE e w base v vs) (hx : a.eval x = .slice (some ⟨w.heap.size, 0, none⟩) 1 1) (h1 : y.oneCell' = true)
    (hlen : vs.length + 1 ≤ 1000000000000) (hbase : base ≤ w.heap.size) (t : TypeId) (fr : Nat × Nat)
    (h : ∀ v' w', OwnE e w' base v' (vs ++ [y]) → Below base w w' → (∀ k, k < w.heap.size → v.ownBlock ≠ some k → w'.heap[k]? = w.heap[k]?) → (v'.ownBlock = v.ownBlock ∨ ∃ k, v'.ownBlock = some k ∧ w.heap.size ≤ k) → wpList Tryd.prog ops Q rest (a.put o.dst v') w') :
    wpList Tryd.prog ops Q (o :: rest) a (w.alloc (.cells #[y] t fr)) := by
  have hown' : OwnE e (w.alloc (.cells #[y] t fr)) base v vs := hown.of_heap fun k hk => by
    show (w.heap.push _)[k]? = _
    rw [Array.getElem?_push, if_neg (by have := (hown.heap k hk).2.1; omega)]
  refine wpList_append_own_at _ hgd s x T ho base e i z 1 bytes hT hi hz hsz hby hzc Nat.one_pos v vs.length vs hs hown' ⟨w.heap.size, 0, none⟩ 1 1 [y] hx rfl ?_ (fun u hu => by rw [List.mem_singleton.1 hu]; exact h1) (by unfold maxLen; omega) ?_ (by simp; omega) ?_
  · intro j u hu
    rw [Addr.add_mid, Nat.zero_add, cell_of_row _ _ _ _ _ _ (hnew w _)]
    simpa using hu
  · have : (vs.length + 1) * bytes ≤ (vs.length + 1) * 24 := Nat.mul_le_mul_left _ hbb
    omega
  · intro v' w' q1 q2 _ q4
    have hB1 : Below base w (w.alloc (.cells #[y] t fr)) := (Below.refl _ _).alloc hbase _
    refine h v' w' (by unfold OwnE; rw [List.length_append]; exact q1) (hB1.trans (grown_keeps q2 (fun k hk => (hown.heap k hk).1) (by simp; omega))) (fun k hk hne => ?_) ?_
    · rw [q2.block k (by simp; omega) (fun e => hne e.symm)]
      show (w.heap.push _)[k]? = _
      rw [Array.getElem?_push, if_neg (by omega)]
    · rcases q4 with e | e
      · exact Or.inl e
      · exact Or.inr ⟨_, e, by simp⟩
theorem DjE.push {e : TypeId} {w : World} {base : Nat} {u v v' : Value} {us : List Value} (h : OwnE e w base u us) (hd : Dj v u) (hv : v'.ownBlock = v.ownBlock ∨ ∃ k, v'.ownBlock = some k ∧ w.heap.size ≤ k) : Dj v' u := fun k h1 h2 => by
  rcases hv with e | ⟨k', e, hk'⟩
  · exact hd k (e ▸ h1) h2
  · rw [e] at h1; cases h1; have := (h.heap _ h2).2.1; omega
theorem Tryd.info26m : (Tryd.prog.info? 26).map (fun i => (i.zero, i.size, i.bytes)) = some (some (.slice none 0 0), 1, 24) := by kernel_rfl
theorem Tryd.info26 : ∃ i, Tryd.prog.info? 26 = some i ∧ i.zero = some (.slice none 0 0) ∧ i.size = 1 ∧ i.bytes = 24 := by
  have h := Tryd.info26m
  cases hq : Tryd.prog.info? 26 with
  | none => rw [hq] at h; cases h
  | some i =>
    rw [hq] at h
    simp only [Option.map_some, Option.some.injEq, Prod.mk.injEq] at h
    exact ⟨i, rfl, h.1, h.2.1, h.2.2⟩
theorem Tryd.info29m : (Tryd.prog.info? 29).map (fun i => (i.zero, i.size, i.bytes)) = some (some (.pointer none), 1, 8) := by kernel_rfl
theorem Tryd.info29 : ∃ i, Tryd.prog.info? 29 = some i ∧ i.zero = some (.pointer none) ∧ i.size = 1 ∧ i.bytes = 8 := by
  have h := Tryd.info29m
  cases hq : Tryd.prog.info? 29 with
  | none => rw [hq] at h; cases h
  | some i =>
    rw [hq] at h
    simp only [Option.map_some, Option.some.injEq, Prod.mk.injEq] at h
    exact ⟨i, rfl, h.1, h.2.1, h.2.2⟩
def ptr (g : Nat) : Value := .pointer (some ⟨g, 0, none⟩)
/-- The row of hashers. -/
structure RS (w : World) (base R : Nat) (hv tv : Value) (held : Int) (gs : List Nat) (TV : List Value) (ms : List (List Int)) : Prop where
  hb : base ≤ R
  rk : w.heap[R]? = some (.cells #[hv, tv, .int .i64 held] 43 (0, 0))
  oh : OwnE 29 w base hv (gs.map ptr)
  ot : OwnE 26 w base tv TV
  lg : gs.length = ms.length
  lt : TV.length = ms.length
  hs : ∀ i, i < ms.length → HsT w (gs.getD i 0) (ms.getD i []) ∧ base ≤ gs.getD i 0
  tx : ∀ i, i < ms.length → Own w base (TV.getD i undef) (ms.getD i [])
  dg : ∀ i j, i < j → j < ms.length → gs.getD i 0 ≠ gs.getD j 0
  dt : ∀ i j, i < j → j < ms.length → Dj (TV.getD i undef) (TV.getD j undef)
set_option maxRecDepth 100000 in
set_option maxHeartbeats 400000 in
theorem place_any (w : World) (R : Nat) (hp : Option Addr) (n c : Nat) (tv : Value) (held h : Int) (hn : 0 < n) (hn2 : n ≤ 1000) (hrk : w.heap[R]? = some (.cells #[.slice hp n c, tv, .int .i64 held] 43 (0, 0))) (h1 : -9223372036854775808 ≤ h) (h2 : h ≤ 9223372036854775807) :
    Calls Tryd.prog 29 #[.pointer (some ⟨R, 0, none⟩), .int .i64 h] w fun e w' => ∃ k : Nat, k < n ∧ e = .returned (.int .i64 k) ∧ w' = w := by
  have c0 : w.cell? ⟨R, 0, none⟩ = some (.slice hp n c) := by rw [cell_of_row _ _ _ _ _ _ hrk]; rfl
  have i1 : (0 : Int) < n := by omega
  have i2 : (n : Int) ≤ 1000 := by omega
  have b1 : h.tmod (n : Int) < (n : Int) := Int.tmod_lt_of_pos _ i1
  have b2 : -(n : Int) < h.tmod (n : Int) := Int.lt_tmod_of_pos _ i1
  by_cases hp0 : 0 ≤ h.tmod (n : Int)
  · obtain ⟨k, hk⟩ := Int.eq_ofNat_of_zero_le hp0
    have Hk := hid hk
    have Hb := hid b1
    go_enter Tryd.func29, Tryd.ntmps29
    go_wp2
    go_ret
    exact ⟨k, by have := Hk.out; have := Hb.out; omega, rfl, rfl⟩
  · obtain ⟨k, hk⟩ := Int.eq_ofNat_of_zero_le (show 0 ≤ h.tmod (n : Int) + (n : Int) by omega)
    have Hk := hid hk
    have Hb := hid (show h.tmod (n : Int) < 0 by omega)
    have iw : IntKind.i64.wrap (h.tmod (n : Int) + (n : Int)) = h.tmod (n : Int) + (n : Int) := wrap_i64_id _ (by omega) (by omega)
    have hp1 : h.tmod (n : Int) < 0 := by omega
    have b3 : -1000 < h.tmod (n : Int) := by omega
    go_enter Tryd.func29, Tryd.ntmps29
    go_wp2
    go_ret
    exact ⟨k, by have := Hk.out; have := Hb.out; omega, (by first | rfl | (rw [← Hk.out]; rfl)), rfl⟩
end Go.Proofs.YtpmjijadjblkeaaDoor
