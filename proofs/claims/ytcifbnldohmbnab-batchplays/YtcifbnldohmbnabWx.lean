import Derived.Test.YtcifbnldohmbnabVc
import Derived.Test.YtcifbnldohmbnabSq
import Derived.Test.YtcifbnldohmbnabPe
namespace Go.Proofs.Ytcifbnldohmbnab
set_option linter.unusedVariables false
set_option linter.unusedSimpArgs false
open Go.RowKit
attribute [local go_sem ↓] Go.wp_at_zero Go.wp_at_succ

/-! Lists with room: two changes behind them, a hundred bytes behind each value. -/
def k201 : List Int := 201 :: List.replicate 31 0
def k203 : List Int := 203 :: List.replicate 31 0
def spC : List Chg := [⟨k201, false, [202]⟩, ⟨k203, true, []⟩]
def spM (h : Nat) : List MC := [⟨k201, false, .slice (some ⟨h, 0, none⟩) 1 1⟩, ⟨k203, true, .slice none 0 0⟩]
set_option maxRecDepth 100000 in
theorem spare_any (w : World) : Calls Try.prog 33 #[] w fun e w' => e = .returned (.slice (some ⟨w.heap.size + 1, 0, none⟩) 2 2) ∧ RowM w' (w.heap.size + 1) (spM w.heap.size) ∧ w'.heap[w.heap.size]? = some (.cells (ints .u8 [202]).toArray 5 (0, 0)) ∧ Below w.heap.size w w' := by
  go_enter Try.func33, Try.ntmps33
  go_wp2
  go_ret
  exact ⟨rfl, hnew2 w _ _, hold2 w _ _, below2Z w _ _⟩

/-! Lists of slices that the call made. -/
def OwnS (w : World) (base : Nat) (v : Value) (vs : List Value) : Prop := w.ownsRow base 27 1 v vs.length vs
theorem OwnS.nil (w : World) (base : Nat) : OwnS w base (.slice none 0 0) [] := ⟨rfl, Or.inl ⟨rfl, rfl⟩⟩
theorem OwnS.heap {w : World} {base : Nat} {v : Value} {vs : List Value} (h : OwnS w base v vs) : ∀ k, v.ownBlock = some k → base ≤ k ∧ k < w.heap.size ∧ ∃ cs, w.heap[k]? = some (.cells cs 27 (0, 0)) := by
  intro k hk
  rcases h.2 with ⟨rfl, _⟩ | ⟨g, cap, cur, rfl, hg, hh, _⟩
  · simp [Value.ownBlock] at hk
  · simp [Value.ownBlock] at hk; subst hk; exact ⟨hg, hlt_ hh, cur, hh⟩
theorem OwnS.of_heap {w w1 : World} {base : Nat} {v : Value} {vs : List Value} (h : OwnS w base v vs) (hk : ∀ k, v.ownBlock = some k → w1.heap[k]? = w.heap[k]?) : OwnS w1 base v vs := by
  refine ⟨h.1, ?_⟩
  rcases h.2 with h2 | ⟨g, cap, cur, rfl, hg, hh, r⟩
  · exact Or.inl h2
  · exact Or.inr ⟨g, cap, cur, rfl, hg, (hk g rfl).trans hh, r⟩
theorem OwnS.below {w w1 : World} {base : Nat} {v : Value} {vs : List Value} (h : OwnS w base v vs) (hb : Below w.heap.size w w1) : OwnS w1 base v vs := h.of_heap fun k hk => hb.block k (h.heap k hk).2.1
/-- Where the elements lie. -/
theorem OwnS.at {w : World} {base : Nat} {v : Value} {vs : List Value} (h : OwnS w base v vs) : ∃ sp cap b, v = .slice sp vs.length cap ∧ vs.length ≤ cap ∧ cap ≤ maxLen ∧ (0 < vs.length → sp = some ⟨b, 0, none⟩ ∧ b < w.heap.size) ∧ ∀ j, j < vs.length → w.cell? ⟨b, j, none⟩ = some (vs.getD j undef) := by
  obtain ⟨h1, ⟨rfl, hn⟩ | ⟨g, cap, cur, rfl, hg, hh, hc, hm, hs, ht⟩⟩ := h
  · exact ⟨none, 0, 0, by rw [hn], by omega, by simp [maxLen], fun h => by omega, fun j hj => by omega⟩
  · refine ⟨some ⟨g, 0, none⟩, cap, g, rfl, hc, hm, fun _ => ⟨rfl, hlt_ hh⟩, fun j hj => ?_⟩
    rw [cell_of_row _ _ _ _ _ _ hh]
    have e : vs[j]? = cur.toList[j]? := by
      rw [← ht, List.getElem?_take, if_pos (by omega)]
    rw [List.getD_eq_getElem?_getD, e]
    have hj2 : j < cur.toList.length := by simp; omega
    rw [List.getElem?_eq_getElem hj2]
    simp
theorem Try.infoSm : (Try.prog.info? 27).map (fun i => (i.zero, i.size, i.bytes)) = some (some (.slice none 0 0), 1, 24) := by kernel_rfl
theorem Try.infoS : ∃ i, Try.prog.info? 27 = some i ∧ i.zero = some (.slice none 0 0) ∧ i.size = 1 ∧ i.bytes = 24 := by
  have h := Try.infoSm
  cases hq : Try.prog.info? 27 with
  | none => rw [hq] at h; cases h
  | some i =>
    rw [hq] at h
    simp only [Option.map_some, Option.some.injEq, Prod.mk.injEq] at h
    exact ⟨i, rfl, h.1, h.2.1, h.2.2⟩
/-- append(own list of slices, x..), the new ones in a block of their own. -/
theorem wpList_pushS {w : World} {ops : Array Oper} {rest : List Oper} {o : Oper} {a : Act} {Q : Exit → Act → World → Prop} (hgd : o.guard = none) (s x : Operand)
    (ho : o.op = .call { callee := .builtin .append, args := #[s, x], argTypes := #[34, 34] })
    (base : Nat) (v : Value) (vs ys : List Value) (hs : a.eval s = v) (hown : OwnS w base v vs) (hx : a.eval x = .slice (some ⟨w.heap.size, 0, none⟩) ys.length ys.length) (h1 : ∀ y ∈ ys, y.oneCell' = true)
    (hlen : vs.length + ys.length ≤ 4000000000000) (hbase : base ≤ w.heap.size) (t : TypeId) (fr : Nat × Nat)
    (h : ∀ v' w', OwnS w' base v' (vs ++ ys) → Below base w w' → (∀ k, k < w.heap.size → v.ownBlock ≠ some k → w'.heap[k]? = w.heap[k]?) → w.heap.size ≤ w'.heap.size → wpList Try.prog ops Q rest (a.put o.dst v') w') :
    wpList Try.prog ops Q (o :: rest) a (w.alloc (.cells ys.toArray t fr)) := by
  obtain ⟨i5, hi5, hz5, hs5, hy5⟩ := Try.infoS
  have hown' : OwnS (w.alloc (.cells ys.toArray t fr)) base v vs := hown.of_heap fun k hk => by
    show (w.heap.push _)[k]? = _
    rw [Array.getElem?_push, if_neg (by have := (hown.heap k hk).2.1; omega)]
  refine wpList_append_own_at _ hgd s x 34 ho base 27 i5 (.slice none 0 0) 1 24 Try.underlying34 hi5 hz5 hs5 hy5 rfl Nat.one_pos v vs.length vs hs hown' ⟨w.heap.size, 0, none⟩ ys.length ys.length ys hx (by omega) ?_ h1 (by unfold maxLen; omega) (by omega) (by simp; omega) ?_
  · intro j u hu
    rw [Addr.add_mid, Nat.zero_add, cell_of_row _ _ _ _ _ _ (hnew w _)]
    simpa using hu
  · intro v' w' q1 q2 _ q4
    have hB1 : Below base w (w.alloc (.cells ys.toArray t fr)) := (Below.refl _ _).alloc hbase _
    refine h v' w' (by unfold OwnS; rw [List.length_append]; exact q1) (hB1.trans (grown_keeps q2 (fun k hk => (hown.heap k hk).1) (by simp; omega))) (fun k hk hne => ?_) (by have := q2.size; simp at this; omega)
    rw [q2.block k (by simp; omega) (fun e => hne e.symm)]
    show (w.heap.push _)[k]? = _
    rw [Array.getElem?_push, if_neg (by omega)]

abbrev RC := Nat × Chg
def rmM (x : RC) : MC := ⟨x.2.key, x.2.del, .slice (some ⟨x.1, 0, none⟩) x.2.val.length (x.2.val.length + 100)⟩
def rmV (x : RC) : Value := .slice (some ⟨x.1, 0, none⟩) (x.2.val.length + 100) (x.2.val.length + 100)
def dR : RC := (0, dC)
structure Room (w : World) (base hi g h : Nat) (rs : List RC) : Prop where
  row : RowM w g (rs.map rmM ++ spM h)
  val : ∀ x ∈ rs, w.heap[x.1]? = some (.cells (ints .u8 (rm x.2.val)).toArray 5 (0, 0))
  spr : w.heap[h]? = some (.cells (ints .u8 [202]).toArray 5 (0, 0))
  ok : ∀ x ∈ rs, OkC x.2
  nod : (rs.map Prod.fst).Nodup
  hne : ∀ x ∈ rs, x.1 ≠ h
  bas : base ≤ g ∧ base ≤ h ∧ ∀ x ∈ rs, base ≤ x.1
  top : g < hi ∧ h < hi ∧ ∀ x ∈ rs, x.1 < hi
  len : rs.length ≤ 2199023255488
theorem Room.keep {w w1 : World} {base hi g h : Nat} {rs : List RC} (r : Room w base hi g h rs) (hk : ∀ k, base ≤ k → k < hi → k < w.heap.size → w1.heap[k]? = w.heap[k]?) : Room w1 base hi g h rs :=
  ⟨by have := r.row; unfold RowM at *; rw [hk g r.bas.1 r.top.1 (hlt_ this)]; exact this, fun x hx => by rw [hk x.1 (r.bas.2.2 x hx) (r.top.2.2 x hx) (hlt_ (r.val x hx))]; exact r.val x hx, by rw [hk h r.bas.2.1 r.top.2.1 (hlt_ r.spr)]; exact r.spr, r.ok, r.nod, r.hne, r.bas, r.top, r.len⟩
theorem Room.below {w w1 : World} {base hi g h : Nat} {rs : List RC} (r : Room w base hi g h rs) (hb : Below w.heap.size w w1) : Room w1 base hi g h rs := r.keep fun k _ _ h3 => hb.block k h3
theorem spM_len (h : Nat) : Len34 (spM h) := fun m hm => by
  simp only [spM, List.mem_cons, List.not_mem_nil, or_false] at hm
  rcases hm with rfl | rfl <;> simp [encM, ints, k201, k203]
theorem rmM_len {x : RC} (h : OkC x.2) : (encM (rmM x)).length = 34 := by simp [encM, ints, rmM, h.1]
theorem rmM_one (x : RC) : ∀ v ∈ encM (rmM x), v.oneCell' = true := by
  intro v hv
  rcases List.mem_append.1 hv with h1 | h1
  · exact ints_one _ _ v h1
  · simp [rmM] at h1; rcases h1 with rfl | rfl <;> rfl
theorem len34_app {a b : List MC} (ha : Len34 a) (hb : Len34 b) : Len34 (a ++ b) := fun m hm => (List.mem_append.1 hm).elim (ha m) (hb m)
theorem rmMs_len {rs : List RC} (h : ∀ x ∈ rs, OkC x.2) : Len34 (rs.map rmM) := fun m hm => by
  obtain ⟨x, hx, rfl⟩ := List.mem_map.1 hm
  exact rmM_len (h x hx)
theorem Room.l34 {w : World} {base hi g h : Nat} {rs : List RC} (r : Room w base hi g h rs) : Len34 (rs.map rmM ++ spM h) := len34_app (rmMs_len r.ok) (spM_len h)
theorem RowM.rng {w : World} {g : Nat} {os : List MC} (h : RowM w g os) (hl : Len34 os) (i : Nat) (hi : i < os.length) : w.rangeAt g (i * 34) (encM (os.getD i dM)) := fun j v hv => by
  have hj := (List.getElem?_eq_some_iff.1 hv).1
  have hm : (encM (os.getD i dM)).length = 34 := hl _ (by rw [List.getD_eq_getElem?_getD, List.getElem?_eq_getElem hi]; exact List.getElem_mem hi)
  rw [cell_of_row _ _ _ _ _ _ h, List.getElem?_toArray, flat_get os hl i j (by omega), if_pos hi]
  exact hv
theorem getD_map' {α β : Type} (f : α → β) (l : List α) (d : α) (e : β) (i : Nat) (h : i < l.length) : (l.map f).getD i e = f (l.getD i d) := by
  rw [List.getD_eq_getElem?_getD, List.getElem?_map, List.getElem?_eq_getElem h, List.getD_eq_getElem?_getD, List.getElem?_eq_getElem h]; rfl
theorem getD_mem' {α : Type} (l : List α) (d : α) (i : Nat) (h : i < l.length) : l.getD i d ∈ l := by
  rw [List.getD_eq_getElem?_getD, List.getElem?_eq_getElem h]; exact List.getElem_mem h
theorem rm_src {w : World} {x : RC} (h : w.heap[x.1]? = some (.cells (ints .u8 (rm x.2.val)).toArray 5 (0, 0))) (ok : OkC x.2) : Src w (some ⟨x.1, 0, none⟩) (x.2.val.length + 100) x.2.val :=
  src_row (tl := tail100) h _ (by omega) (by have := ok.2.2.2; unfold maxLen; omega)
theorem rm_srcV {w : World} {x : RC} (h : w.heap[x.1]? = some (.cells (ints .u8 (rm x.2.val)).toArray 5 (0, 0))) (ok : OkC x.2) : Src w (some ⟨x.1, 0, none⟩) (x.2.val.length + 100) (rm x.2.val) :=
  src_row (tl := []) (by rw [List.append_nil]; exact h) _ (by rw [rm_len]; exact Nat.le_refl _) (by have := ok.2.2.2; unfold maxLen; omega)
/-- The front of the row reads as the list. -/
theorem Room.chs {w : World} {base hi g h : Nat} {rs : List RC} (r : Room w base hi g h rs) : Chs w (some ⟨g, 0, none⟩) (rs.length + 2) (rs.map Prod.snd) g 0 (rs.map rmM) := by
  have hl : (rs.map Prod.snd).length = rs.length := List.length_map ..
  refine ⟨by omega, by have := r.len; unfold maxLen; omega, (fun e => by cases e), fun _ => ⟨hlt_ r.row, rfl⟩, fun i hi => ?_, by simp, fun i hi => ?_⟩
  · have := r.row.rng r.l34 i (by simp; omega)
    rw [List.getD_eq_getElem?_getD, List.getElem?_append_left (by simp; omega), ← List.getD_eq_getElem?_getD] at this
    rw [Nat.zero_add]; exact this
  · rw [getD_map' rmM rs dR dM i (by omega), getD_map' Prod.snd rs dR dC i (by omega)]
    have hm := getD_mem' rs dR i (by omega)
    exact ⟨rfl, (r.ok _ hm).1, rfl, _, _, rfl, (fun e => by cases e), rm_src (r.val _ hm) (r.ok _ hm)⟩
/-- And the two behind it. -/
theorem sp_chs {w : World} {g h n o : Nat} (rd : ∀ i, i < 2 → w.rangeAt g (o + i * 34) (encM ((spM h).getD i dM))) (hg : g < w.heap.size) (hs : w.heap[h]? = some (.cells (ints .u8 [202]).toArray 5 (0, 0))) : Chs w (some ⟨g, o, none⟩) 2 spC g o (spM h) := by
  refine ⟨Nat.le_refl _, by unfold maxLen; omega, (fun e => by cases e), fun _ => ⟨hg, rfl⟩, fun i hi => rd i hi, rfl, fun i hi => ?_⟩
  match i, hi with
  | 0, _ => exact ⟨rfl, rfl, rfl, _, _, rfl, (fun e => by cases e), src_row (tl := []) (zs := [202]) hs 1 (Nat.le_refl _) (by unfold maxLen; omega)⟩
  | 1, _ => exact ⟨rfl, rfl, rfl, none, 0, rfl, fun _ => rfl, Src.empty w _ _ (by unfold maxLen; omega)⟩
theorem Room.spare {w : World} {base hi g h : Nat} {rs : List RC} (r : Room w base hi g h rs) : Chs w (some ⟨g, rs.length * 34, none⟩) 2 spC g (rs.length * 34) (spM h) := by
  refine sp_chs (n := 0) (fun i hi => ?_) (hlt_ r.row) r.spr
  have h2 : (spM h).length = 2 := rfl
  have := r.row.rng r.l34 (rs.length + i) (by simp [h2]; omega)
  rw [List.getD_eq_getElem?_getD, List.getElem?_append_right (by simp), ← List.getD_eq_getElem?_getD] at this
  rw [show rs.length * 34 + i * 34 = (rs.length + i) * 34 by omega]
  simpa using this
theorem set_two (os : List MC) (n : Nat) (a b : MC) (h : os.length = n + 2) : (os.set n a).set (n + 1) b = os.take n ++ [a, b] := by
  apply List.ext_getElem?
  intro i
  rcases Nat.lt_trichotomy i n with hi | rfl | hi
  · rw [List.getElem?_set_ne (by omega), List.getElem?_set_ne (by omega), List.getElem?_append_left (by rw [List.length_take]; omega), List.getElem?_take, if_pos hi]
  · rw [List.getElem?_set_ne (by omega), List.getElem?_set_self (by omega), List.getElem?_append_right (by rw [List.length_take]; omega), List.length_take, Nat.min_eq_left (by omega), Nat.sub_self]; rfl
  · by_cases h1 : i = n + 1
    · subst h1
      rw [List.getElem?_set_self (by rw [List.length_set]; omega), List.getElem?_append_right (by rw [List.length_take]; omega), List.length_take, Nat.min_eq_left (by omega), show n + 1 - n = 1 by omega]; rfl
    · rw [List.getElem?_eq_none (by simp; omega), List.getElem?_eq_none (by simp; omega)]
end Go.Proofs.Ytcifbnldohmbnab
