import Derived.Test.YtenfklcgkfaajaaDk72
import Derived.Test.YtenfklcgkfaajaaDw
import Derived.Test.YtenfklcgkfaajaaDk12
import Derived.Test.YtenfklcgkfaajaaDk38
namespace Go.Proofs.Ytenfklcgkfaajaa
set_option linter.unusedVariables false
set_option linter.unusedSimpArgs false
open Go.RowKit
attribute [local go_sem ↓] Go.wp_at_zero Go.wp_at_succ

/-- A list's row: where each element's value stands. -/
def LRow (c : Bool) (w : World) (lv : Value) (ms : List ME) (n : Nat) : Prop := ∃ sp cap b, ∃ cur : Array Value, lv = .slice sp n cap ∧ n ≤ cap ∧ cap ≤ maxLen ∧ (0 < n → sp = some ⟨b, 0, none⟩ ∧ w.heap[b]? = some (.cells cur (tyE c) (0, 0)) ∧ ∀ k, k < n → cur[k * szE c + (szE c - 1)]? = some (ms.getD k dM).sv)
theorem elC_last {c : Bool} {k : List Int} {d : Bool} {v : Value} (h : k.length = 32) : (elC c k d v)[szE c - 1]? = some v := by
  unfold elC szE
  cases c
  · rw [List.getElem?_append_right (by rw [ints_len, h]; decide), ints_len, h]; rfl
  · rw [List.getElem?_append_right (by rw [ints_len, h]; decide), ints_len, h]; rfl
theorem ElO.lrow {c : Bool} {w : World} {base : Nat} {v : Value} {ms : List ME} {xs : List Cg} (h : ElO c w base v ms xs) : LRow c w v ms xs.length := by
  have hml : ∀ m ∈ ms, (enM c m).length = szE c := fun m hm => by
    obtain ⟨i, hi, e⟩ := List.mem_iff_getElem.1 hm
    obtain ⟨a1, a2, _, _⟩ := h.el i (by rw [← h.len]; exact hi)
    have e2 : ms.getD i dM = m := by rw [List.getD_eq_getElem?_getD, List.getElem?_eq_getElem hi, e]; rfl
    rw [e2] at a1
    exact elC_len (by rw [a1]; exact a2)
  have hs := h.len
  obtain ⟨h1, ⟨rfl, hn⟩ | ⟨g, cap, cur, rfl, hg, hh, hc, hm, hsz, ht⟩⟩ := h.own
  · have h0 : xs.length = 0 := by rw [← hs, hn]
    exact ⟨none, 0, 0, #[], by rw [h0], by omega, by simp [maxLen], fun hp => by omega⟩
  · refine ⟨some ⟨g, 0, none⟩, cap, g, cur, by rw [hs], by rw [← hs]; exact hc, hm, fun _ => ⟨rfl, hh, fun k hk => ?_⟩⟩
    obtain ⟨a1, a2, a3, a4⟩ := h.el k hk
    have hk' : k < ms.length := by rw [hs]; exact hk
    have hj : szE c - 1 < szE c := by unfold szE; cases c <;> simp
    have hb : k * szE c + (szE c - 1) < ms.length * szE c := by
      have : (k + 1) * szE c ≤ ms.length * szE c := Nat.mul_le_mul_right _ hk'
      rw [Nat.add_mul] at this; omega
    have hfl := flat_get c ms hml k (szE c - 1) hj
    rw [if_pos hk'] at hfl
    have e : cur.toList[k * szE c + (szE c - 1)]? = (ms.flatMap (enM c))[k * szE c + (szE c - 1)]? := by rw [← ht, List.getElem?_take, if_pos hb]
    rw [← Array.getElem?_toList, e, hfl]
    unfold enM
    exact elC_last (by rw [a1]; exact a2)
theorem LRow.of_heap {c : Bool} {w w1 : World} {lv : Value} {ms : List ME} {n : Nat} (h : LRow c w lv ms n) (hk : ∀ (k : Nat) (cs : Array Value) (t : TypeId), w.heap[k]? = some (Obj.cells cs t (0, 0)) → t ≠ 5 → t ≠ 47 → w1.heap[k]? = w.heap[k]?) : LRow c w1 lv ms n := by
  obtain ⟨sp, cap, b, cur, h1, h2, h3, h4⟩ := h
  refine ⟨sp, cap, b, cur, h1, h2, h3, fun hp => ?_⟩
  obtain ⟨a, e, f⟩ := h4 hp
  exact ⟨a, (hk b cur _ e (tyE_5 c) (by cases c <;> decide)).trans e, f⟩
/-! All lists of what was read. -/
def prs (ms : List ME) (xs : List Cg) : List (Value × List Int) := List.zipWith (fun m x => (m.sv, x.val)) ms xs
theorem prs_len {ms : List ME} {xs : List Cg} (h : ms.length = xs.length) : (prs ms xs).length = xs.length := by unfold prs; rw [List.length_zipWith]; omega
theorem prs_get {ms : List ME} {xs : List Cg} (h : ms.length = xs.length) {k : Nat} (hk : k < xs.length) : (prs ms xs).getD k dV = ((ms.getD k dM).sv, (xs.getD k dX).val) := by
  unfold prs
  rw [List.getD_eq_getElem?_getD, List.getElem?_zipWith, List.getD_eq_getElem?_getD, List.getD_eq_getElem?_getD, List.getElem?_eq_getElem hk, List.getElem?_eq_getElem (by omega)]; rfl
theorem prs_map {ms : List ME} {xs : List Cg} (h : ms.length = xs.length) : (prs ms xs).map (·.1) = ms.map ME.sv := by
  apply List.ext_getElem?
  intro i
  unfold prs
  rw [List.map_zipWith, List.getElem?_zipWith, List.getElem?_map]
  by_cases hi : i < ms.length
  · rw [List.getElem?_eq_getElem hi, List.getElem?_eq_getElem (by omega)]; rfl
  · rw [List.getElem?_eq_none (by omega)]; rfl
def VL (r : Rp) (q : Rq) (vv rv kv hv bv : Value) (ml mc : List ME) : List (Value × List Int) := (vv, r.val) :: (rv, r.raw) :: (kv, q.key) :: (hv, q.high) :: (bv, q.batch) :: (prs ml r.list ++ prs mc r.chs)
theorem VL_len {r : Rp} {q : Rq} {vv rv kv hv bv : Value} {ml mc : List ME} (h1 : ml.length = r.list.length) (h2 : mc.length = r.chs.length) : (VL r q vv rv kv hv bv ml mc).length = 5 + (r.list.length + r.chs.length) := by
  unfold VL
  simp only [List.length_cons, List.length_append, prs_len h1, prs_len h2]; omega
theorem VL_list {r : Rp} {q : Rq} {vv rv kv hv bv : Value} {ml mc : List ME} (h1 : ml.length = r.list.length) {k : Nat} (hk : k < r.list.length) : (VL r q vv rv kv hv bv ml mc).getD (5 + k) dV = ((ml.getD k dM).sv, (r.list.getD k dX).val) := by
  unfold VL
  rw [show 5 + k = k + 1 + 1 + 1 + 1 + 1 by omega]
  simp only [List.getD_cons_succ]
  rw [List.getD_eq_getElem?_getD, List.getElem?_append_left (by rw [prs_len h1]; exact hk), ← List.getD_eq_getElem?_getD, prs_get h1 hk]
theorem VL_chs {r : Rp} {q : Rq} {vv rv kv hv bv : Value} {ml mc : List ME} (h1 : ml.length = r.list.length) (h2 : mc.length = r.chs.length) {k : Nat} (hk : k < r.chs.length) : (VL r q vv rv kv hv bv ml mc).getD (5 + r.list.length + k) dV = ((mc.getD k dM).sv, (r.chs.getD k dX).val) := by
  unfold VL
  rw [show 5 + r.list.length + k = r.list.length + k + 1 + 1 + 1 + 1 + 1 by omega]
  simp only [List.getD_cons_succ]
  rw [List.getD_eq_getElem?_getD, List.getElem?_append_right (by rw [prs_len h1]; omega), prs_len h1, show r.list.length + k - r.list.length = k by omega, ← List.getD_eq_getElem?_getD, prs_get h2 hk]
theorem VL_dj {r : Rp} {q : Rq} {vv rv kv hv bv : Value} {ml mc : List ME} (h1 : ml.length = r.list.length) (h2 : mc.length = r.chs.length) (sd : Sd vv rv ml mc) (dl : DjM ml) (dc : DjM mc) (dq : DjQ kv hv bv)
    (age : ∀ u, (u = vv ∨ u = rv ∨ u ∈ ml.map ME.sv ∨ u ∈ mc.map ME.sv) → Dj u kv ∧ Dj u hv ∧ Dj u bv) : DjV (VL r q vv rv kv hv bv ml mc) := by
  unfold DjV VL
  simp only [List.map_cons, List.map_append, prs_map h1, prs_map h2]
  obtain ⟨q1, q2, q3⟩ := dq
  unfold DjM at dl dc
  have av := age vv (Or.inl rfl)
  have ar := age rv (Or.inr (Or.inl rfl))
  have am : ∀ u, u ∈ ml.map ME.sv ++ mc.map ME.sv → Dj kv u ∧ Dj hv u ∧ Dj bv u := fun u hu => by
    have := age u (Or.inr (Or.inr (List.mem_append.1 hu)))
    exact ⟨this.1.symm, this.2.1.symm, this.2.2.symm⟩
  have pm : (ml.map ME.sv ++ mc.map ME.sv).Pairwise Dj := by
    rcases sd with ⟨_, e1, e2⟩ | ⟨_, e1, e2⟩ | ⟨_, _, e2⟩ | ⟨_, _, e1⟩
    · subst e1; subst e2; exact List.Pairwise.nil
    · subst e1; subst e2; exact List.Pairwise.nil
    · subst e2; simpa using dl
    · subst e1; simpa using dc
  have pv : ∀ u, u ∈ ml.map ME.sv ++ mc.map ME.sv → Dj vv u ∧ Dj rv u := fun u hu => by
    rcases sd with ⟨_, e1, e2⟩ | ⟨_, e1, e2⟩ | ⟨e0, e1, _⟩ | ⟨e0, e1, _⟩
    · subst e1; subst e2; simp at hu
    · subst e1; subst e2; simp at hu
    · subst e0; subst e1; exact ⟨Dj.nil _, Dj.nil _⟩
    · subst e0; subst e1; exact ⟨Dj.nil _, Dj.nil _⟩
  have pvr : Dj vv rv := by
    rcases sd with ⟨e0, _⟩ | ⟨e0, _⟩ | ⟨e0, _⟩ | ⟨e0, _⟩ <;> subst e0
    · exact Dj.nil' _
    all_goals exact Dj.nil _
  refine List.Pairwise.cons (fun u hu => ?_) (List.Pairwise.cons (fun u hu => ?_) (List.Pairwise.cons (fun u hu => ?_) (List.Pairwise.cons (fun u hu => ?_) (List.Pairwise.cons (fun u hu => ?_) pm))))
  · simp only [List.mem_cons] at hu
    rcases hu with rfl | rfl | rfl | rfl | hu
    · exact pvr
    · exact av.1
    · exact av.2.1
    · exact av.2.2
    · exact (pv u hu).1
  · simp only [List.mem_cons] at hu
    rcases hu with rfl | rfl | rfl | hu
    · exact ar.1
    · exact ar.2.1
    · exact ar.2.2
    · exact (pv u hu).2
  · simp only [List.mem_cons] at hu
    rcases hu with rfl | rfl | hu
    · exact q1
    · exact q2
    · exact (am u hu).1
  · simp only [List.mem_cons] at hu
    rcases hu with rfl | hu
    · exact q3
    · exact (am u hu).2.1
  · exact (am u hu).2.2
theorem RpO.hp {w : World} {base : Nat} {r : Rp} {q : Rq} {vv rv lv cv kv hv bv : Value} {ml mc : List ME} (h : RpO w base r vv rv lv cv ml mc) (ok : Own w base kv q.key) (oh : Own w base hv q.high) (ob : Own w base bv q.batch) : HP w base (VL r q vv rv kv hv bv ml mc) [] := by
  refine ⟨by simp, fun j hj => by simp at hj, fun j _ hj => ?_⟩
  rw [VL_len h.ol.len h.oc.len] at hj
  by_cases h5 : j < 5
  · have : j = 0 ∨ j = 1 ∨ j = 2 ∨ j = 3 ∨ j = 4 := by omega
    rcases this with rfl | rfl | rfl | rfl | rfl
    · exact h.ov
    · exact h.orw
    · exact ok
    · exact oh
    · exact ob
  · by_cases h6 : j < 5 + r.list.length
    · obtain ⟨k, rfl⟩ : ∃ k, j = 5 + k := ⟨j - 5, by omega⟩
      rw [VL_list h.ol.len (by omega)]
      exact (h.ol.el k (by omega)).2.2.2
    · obtain ⟨k, rfl⟩ : ∃ k, j = 5 + r.list.length + k := ⟨j - (5 + r.list.length), by omega⟩
      rw [VL_chs h.ol.len h.oc.len (by omega)]
      exact (h.oc.el k (by omega)).2.2.2
/-! What stands beside the book while the lists are held. -/
structure HS (w wB wc : World) (base pb qb : Nat) (r : Rp) (q : Rq) (vv rv lv cv kv hv bv : Value) (ml mc : List ME) (kw n cw : Nat) : Prop where
  rp : wc.heap[pb]? = some (.cells (rpC r vv rv lv cv).toArray 32 (0, 0))
  rq : wc.heap[qb]? = some (.cells (rqC q.op q.ver q.oth q.lim kv hv bv).toArray 36 (0, 0))
  ll : LRow false wc lv ml r.list.length
  lc : LRow true wc cv mc r.chs.length
  ow : Own wc 0 (.slice (some ⟨kw, 0, none⟩) n cw) (List.replicate n 238)
  kb : kw < base
  bel : Below w.heap.size w wc
  bb : base ≤ wc.heap.size
  wb : w.heap.size ≤ base
theorem HS.step {w wB wc w1 : World} {base pb qb : Nat} {r : Rp} {q : Rq} {vv rv lv cv kv hv bv : Value} {ml mc : List ME} {kw n cw : Nat} (h : HS w wB wc base pb qb r q vv rv lv cv kv hv bv ml mc kw n cw)
    (hk : ∀ (k : Nat) (cs : Array Value) (t : TypeId), wc.heap[k]? = some (Obj.cells cs t (0, 0)) → t ≠ 5 → t ≠ 47 → w1.heap[k]? = wc.heap[k]?) (hb : Below base wc w1) : HS w wB w1 base pb qb r q vv rv lv cv kv hv bv ml mc kw n cw :=
  ⟨(hk _ _ _ h.rp (by decide) (by decide)).trans h.rp, (hk _ _ _ h.rq (by decide) (by decide)).trans h.rq, h.ll.of_heap hk, h.lc.of_heap hk, h.ow.of_heap (fun k hv => by simp [Value.ownBlock] at hv; subst hv; exact hb.block _ h.kb), h.kb, h.bel.trans (hb.mono h.wb), Nat.le_trans h.bb hb.size, h.wb⟩
theorem kv_ty {w w1 : World} {base : Nat} {v : Value} {zs : List Int} (h : KV w base v w1) (ho : Own w base v zs) : ∀ (k : Nat) (cs : Array Value) (t : TypeId), w.heap[k]? = some (Obj.cells cs t (0, 0)) → t ≠ 5 → t ≠ 47 → w1.heap[k]? = w.heap[k]? := fun k cs t e h5 _ => h.2 k (hlt e) fun hv => by
  obtain ⟨_, _, ds, e2⟩ := own_ty5 ho k hv
  rw [e2] at e; cases e; exact h5 rfl
theorem kv_held {w w1 : World} {base : Nat} {v bv : Value} {zs : List Int} {hs : List Hc} (h : KV w base v w1) (ho : Own w base v zs) (hb : OwnH w base bv hs) : OwnH w1 base bv hs := hb.of_heap fun k hk => by
  obtain ⟨_, _, cs, e⟩ := hb.block k hk
  exact h.2 k (hlt e) fun hv => by
    obtain ⟨_, _, ds, e2⟩ := own_ty5 ho k hv
    have := e2.symm.trans e
    simp only [Option.some.injEq, Obj.cells.injEq] at this
    exact absurd this.2.1 (by decide)
theorem grown_ty {w w1 : World} {base : Nat} {bv : Value} {hs : List Hc} (h : w.grownBy w1 bv.ownBlock) (hb : OwnH w base bv hs) : ∀ (k : Nat) (cs : Array Value) (t : TypeId), w.heap[k]? = some (Obj.cells cs t (0, 0)) → t ≠ 47 → w1.heap[k]? = w.heap[k]? := fun k cs t e ht => h.block k (hlt e) fun hv => by
  obtain ⟨_, _, ds, e2⟩ := hb.block k hv.symm
  rw [e2] at e; cases e; exact ht rfl
theorem HS.hold {w wB wc w1 : World} {base pb qb : Nat} {r : Rp} {q : Rq} {vv rv lv cv kv hv bv v : Value} {zs : List Int} {ml mc : List ME} {kw n cw : Nat} (h : HS w wB wc base pb qb r q vv rv lv cv kv hv bv ml mc kw n cw) (k : KV wc base v w1) (ho : Own wc base v zs) : HS w wB w1 base pb qb r q vv rv lv cv kv hv bv ml mc kw n cw := h.step (kv_ty k ho) k.1
theorem HS.grow {w wB wc w1 : World} {base pb qb : Nat} {r : Rp} {q : Rq} {vv rv lv cv kv hv bv v : Value} {hs : List Hc} {ml mc : List ME} {kw n cw : Nat} (h : HS w wB wc base pb qb r q vv rv lv cv kv hv bv ml mc kw n cw) (hg : wc.grownBy w1 v.ownBlock) (ho : OwnH wc base v hs) : HS w wB w1 base pb qb r q vv rv lv cv kv hv bv ml mc kw n cw :=
  h.step (fun k cs t e _ ht => grown_ty hg ho k cs t e ht) (grown_keeps hg (fun k hk => (ho.block k hk).1) h.bb)
theorem HP.grow {w w1 : World} {base : Nat} {V : List (Value × List Int)} {hs hs2 : List Hc} {v : Value} (h : HP w base V hs) (hg : w.grownBy w1 v.ownBlock) (ho : OwnH w base v hs2) : HP w1 base V hs := h.of_heap fun k cs _ e => grown_ty hg ho k cs 5 e (by decide)
end Go.Proofs.Ytenfklcgkfaajaa
