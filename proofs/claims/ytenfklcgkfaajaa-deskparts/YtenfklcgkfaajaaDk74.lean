import Derived.Test.YtenfklcgkfaajaaDk73
import Derived.Test.YtenfklcgkfaajaaDk47
namespace Go.Proofs.Ytenfklcgkfaajaa
set_option linter.unusedVariables false
set_option linter.unusedSimpArgs false
open Go.RowKit

/-! How long what was read is. -/
structure RpW (r : Rp) : Prop where
  val : r.val.length ≤ 128
  raw : r.raw.length ≤ 140737488351232
  ln : r.list.length ≤ 4096
  cn : r.chs.length ≤ 4096
  list : ∀ x ∈ r.list, x.val.length ≤ 128
  chs : ∀ x ∈ r.chs, x.val.length ≤ 128
theorem elV_len (c : Bool) (R : Rd) : (elV c R).val.length ≤ 128 := by
  unfold elV
  cases c with
  | false => exact va_len _
  | true =>
    show (cgV R).val.length ≤ 128
    unfold cgV
    split
    · exact va_len _
    · split <;> simp
theorem liP_len (c : Bool) : ∀ (n : Nat) (R : Rd) (acc : List Cg), (liP c n R acc).1.length ≤ acc.length + n
  | 0, R, acc => by unfold liP; simp
  | n + 1, R, acc => by
    unfold liP
    split
    · simp
    · have := liP_len c n (elS c R) (acc ++ [elV c R])
      rw [List.length_append, List.length_singleton] at this
      omega
theorem liP_val (c : Bool) : ∀ (n : Nat) (R : Rd) (acc : List Cg), (∀ x ∈ acc, x.val.length ≤ 128) → ∀ x ∈ (liP c n R acc).1, x.val.length ≤ 128
  | 0, R, acc, ha => ha
  | n + 1, R, acc, ha => by
    unfold liP
    split
    · intro x hx; cases hx
    · refine liP_val c n _ _ (fun x hx => ?_)
      rcases List.mem_append.1 hx with h | h
      · exact ha x h
      · obtain rfl : x = elV c R := by simpa using h
        exact elV_len c R
theorem lsP_wide (c : Bool) (R : Rd) : (lsP c R).1.length ≤ 4096 ∧ ∀ x ∈ (lsP c R).1, x.val.length ≤ 128 := by
  unfold lsP
  have h1 := liP_len c (upV R 4096 4).toNat (upS R 4096 4) []
  have h2 := upV_le R 4096 4 (by omega)
  refine ⟨by rw [List.length_nil] at h1; omega, liP_val c _ _ _ (fun x hx => by cases hx)⟩
theorem rp0_w : RpW rp0 := ⟨by simp [rp0], by simp [rp0], by simp [rp0], by simp [rp0], fun x hx => by simp [rp0] at hx, fun x hx => by simp [rp0] at hx⟩
theorem fdP_wide (op : Int) (R : Rd) (hl : R.rest.length ≤ 140737488351232) : RpW (fdP op R).1 := by
  have z := rp0_w
  unfold fdP
  split
  · exact ⟨z.val, z.raw, z.ln, z.cn, z.list, z.chs⟩
  split
  · split
    · exact ⟨va_len _, z.raw, z.ln, z.cn, z.list, z.chs⟩
    · exact z
  split
  · exact ⟨z.val, z.raw, z.ln, z.cn, z.list, z.chs⟩
  split
  · exact ⟨z.val, by show (tkV R R.rest.length).length ≤ _; rw [tkV_len]; exact hl, z.ln, z.cn, z.list, z.chs⟩
  split
  · exact ⟨z.val, z.raw, (lsP_wide _ _).1, z.cn, (lsP_wide _ _).2, z.chs⟩
  split
  · exact ⟨z.val, z.raw, z.ln, (lsP_wide _ _).1, z.list, (lsP_wide _ _).2⟩
  split
  · exact ⟨z.val, z.raw, z.ln, z.cn, z.list, z.chs⟩
  · exact z
theorem dcP_wide (op : Int) (raw : List Int) (hl : raw.length ≤ 140737488351234) : RpW ((dcP op raw).getD rp0) := by
  have z := rp0_w
  unfold dcP
  split
  · show RpW (rpP op ⟨raw, false⟩).1
    unfold rpP
    split
    · exact fdP_wide op _ (rest2 raw hl)
    · exact ⟨z.val, z.raw, z.ln, z.cn, z.list, z.chs⟩
  · exact z
structure RqW (q : Rq) : Prop where
  key : q.key.length ≤ 140737488351232
  high : q.high.length ≤ 140737488351232
  batch : q.batch.length ≤ 140737488351232
theorem askP_wide (raw : List Int) (hl : raw.length ≤ 140737488351232) : RqW ((askP raw).getD rq0) := by
  have hc : ∀ a n, (cutL raw a n).length ≤ 140737488351232 := fun a n => by unfold cutL; rw [List.length_take, List.length_drop]; omega
  have n0 : ([] : List Int).length ≤ 140737488351232 := by simp
  unfold askP
  split
  · show RqW (askQ raw)
    unfold askQ
    simp only
    repeat' split
    all_goals (refine ⟨?_, ?_, ?_⟩ <;> first | exact n0 | exact hc _ _)
  · exact ⟨n0, n0, n0⟩
theorem VL_wide {r : Rp} {q : Rq} {vv rv kv hv bv : Value} {ml mc : List ME} (h1 : ml.length = r.list.length) (h2 : mc.length = r.chs.length) (hr : RpW r) (hq : RqW q) : (VL r q vv rv kv hv bv ml mc).length ≤ 8197 ∧ ∀ j, j < (VL r q vv rv kv hv bv ml mc).length → ((VL r q vv rv kv hv bv ml mc).getD j dV).2.length ≤ 140737488351232 := by
  have hL := VL_len (r := r) (q := q) (vv := vv) (rv := rv) (kv := kv) (hv := hv) (bv := bv) h1 h2
  refine ⟨by have := hr.ln; have := hr.cn; omega, fun j hj => ?_⟩
  rw [hL] at hj
  by_cases h5 : j < 5
  · have : j = 0 ∨ j = 1 ∨ j = 2 ∨ j = 3 ∨ j = 4 := by omega
    rcases this with rfl | rfl | rfl | rfl | rfl
    · exact Nat.le_trans hr.val (by omega)
    · exact hr.raw
    · exact hq.key
    · exact hq.high
    · exact hq.batch
  · by_cases h6 : j < 5 + r.list.length
    · obtain ⟨k, rfl⟩ : ∃ k, j = 5 + k := ⟨j - 5, by omega⟩
      rw [VL_list h1 (by omega)]
      exact Nat.le_trans (hr.list _ (getD_mem (by omega))) (by omega)
    · obtain ⟨k, rfl⟩ : ∃ k, j = 5 + r.list.length + k := ⟨j - (5 + r.list.length), by omega⟩
      rw [VL_chs h1 h2 (by omega)]
      exact Nat.le_trans (hr.chs _ (getD_mem (by omega))) (by omega)
/-- A list that is held and not yet grown. -/
def hcN (m : Int) (n : Nat) (v : Value) : Hc := ⟨m, n, v, .slice none 0 0, .slice none 0 0, .slice none 0 0, .slice none 0 0⟩
theorem hcN_one {m : Int} {n : Nat} {v : Value} (h : v.oneCell' = true) : ∀ y ∈ hcC (hcN m n v), y.oneCell' = true := by
  intro y hy
  simp only [hcC, hcN, hlC, List.mem_cons, List.not_mem_nil, or_false] at hy
  rcases hy with rfl | rfl | rfl | rfl | rfl | rfl | rfl <;> first | rfl | assumption
theorem HP.own {w : World} {base : Nat} {V : List (Value × List Int)} {hs : List Hc} (h : HP w base V hs) {i : Nat} (hi : hs.length = i) (hV : i < V.length) {v : Value} {zs : List Int} (e : V.getD i dV = (v, zs)) : Own w base v zs := by
  have := h.rest i (by omega) hV
  rw [e] at this; exact this
theorem HP.one {w w1 : World} {base : Nat} {V : List (Value × List Int)} {hs : List Hc} (h : HP w base V hs) (hd : DjV V) {i : Nat} (hi : hs.length = i) (hV : i < V.length) {v : Value} {zs : List Int} (e : V.getD i dV = (v, zs)) {m : Int} (ho : Own w1 base v (List.replicate zs.length m)) (kv : KV w base v w1) : HP w1 base V (hs ++ [hcN m zs.length v]) := by
  subst hi
  have := HP.step h hd hV (m := m) (w1 := w1) (by rw [e]; exact ho) (by rw [e]; exact kv)
  rw [e] at this; exact this
theorem HP.drew {w : World} {base : Nat} {V : List (Value × List Int)} {hs : List Hc} (h : HP w base V hs) : HP w.drew base V hs := h.of_heap fun _ _ _ _ => rfl
theorem HS.drew {w wB wc : World} {base pb qb : Nat} {r : Rp} {q : Rq} {vv rv lv cv kv hv bv : Value} {ml mc : List ME} {kw n cw : Nat} (h : HS w wB wc base pb qb r q vv rv lv cv kv hv bv ml mc kw n cw) : HS w wB wc.drew base pb qb r q vv rv lv cv kv hv bv ml mc kw n cw := h.step (fun _ _ _ _ _ _ => rfl) (Below.refl base wc).drew
theorem HS.alloc {w wB wc : World} {base pb qb : Nat} {r : Rp} {q : Rq} {vv rv lv cv kv hv bv : Value} {ml mc : List ME} {kw n cw : Nat} (h : HS w wB wc base pb qb r q vv rv lv cv kv hv bv ml mc kw n cw) (o : Obj) : HS w wB (wc.alloc o) base pb qb r q vv rv lv cv kv hv bv ml mc kw n cw := h.step (fun k cs t e _ _ => ((Below.refl wc.heap.size wc).alloc (Nat.le_refl _) o).block k (hlt e)) ((Below.refl base wc).alloc h.bb o)
theorem HP.alloc {w : World} {base : Nat} {V : List (Value × List Int)} {hs : List Hc} (h : HP w base V hs) (o : Obj) : HP (w.alloc o) base V hs := h.below ((Below.refl _ _).alloc (Nat.le_refl _) o)
theorem OwnH.new (w : World) (base : Nat) (hb : base ≤ w.heap.size) (hs : List Hc) (h : hs.length ≤ maxLen) : OwnH (w.alloc (.cells (flC hs).toArray 47)) base (.slice (some ⟨w.heap.size, 0, none⟩) hs.length hs.length) hs :=
  ⟨flC_len hs, Or.inr ⟨w.heap.size, hs.length, (flC hs).toArray, rfl, hb, hnew w _, Nat.le_refl _, h, by simp [flC_len], by
    show (flC hs).take (hs.length * 7) = flC hs
    rw [List.take_of_length_le (by rw [flC_len]; exact Nat.le_refl _)]⟩⟩
theorem HS.pc {w wB wc : World} {base pb qb : Nat} {r : Rp} {q : Rq} {vv rv lv cv kv hv bv : Value} {ml mc : List ME} {kw n cw : Nat} (h : HS w wB wc base pb qb r q vv rv lv cv kv hv bv ml mc kw n cw) (l : RpL r) : wc.cell? ⟨pb, 38, none⟩ = some lv ∧ wc.cell? ⟨pb, 39, none⟩ = some cv := ⟨(RC.of h.rp l).c38, (RC.of h.rp l).c39⟩
theorem HS.lrow {w wB wc : World} {base pb qb : Nat} {r : Rp} {q : Rq} {vv rv lv cv kv hv bv : Value} {ml mc : List ME} {kw n cw : Nat} (h : HS w wB wc base pb qb r q vv rv lv cv kv hv bv ml mc kw n cw) {k : Nat} (hk : k < r.list.length) : ∃ b cap, lv = .slice (some ⟨b, 0, none⟩) r.list.length cap ∧ wc.cell? ⟨b, k * 33 + 32, none⟩ = some (ml.getD k dM).sv := by
  obtain ⟨sp, cap, b, cur, rfl, _, _, h4⟩ := h.ll
  obtain ⟨rfl, e, f⟩ := h4 (by omega)
  exact ⟨b, cap, rfl, by rw [cell_of_row _ _ _ _ _ _ e]; exact f k hk⟩
theorem HS.crow {w wB wc : World} {base pb qb : Nat} {r : Rp} {q : Rq} {vv rv lv cv kv hv bv : Value} {ml mc : List ME} {kw n cw : Nat} (h : HS w wB wc base pb qb r q vv rv lv cv kv hv bv ml mc kw n cw) {k : Nat} (hk : k < r.chs.length) : ∃ b cap, cv = .slice (some ⟨b, 0, none⟩) r.chs.length cap ∧ wc.cell? ⟨b, k * 34 + 33, none⟩ = some (mc.getD k dM).sv := by
  obtain ⟨sp, cap, b, cur, rfl, _, _, h4⟩ := h.lc
  obtain ⟨rfl, e, f⟩ := h4 (by omega)
  exact ⟨b, cap, rfl, by rw [cell_of_row _ _ _ _ _ _ e]; exact f k hk⟩
theorem GP.at {w : World} {base S0 : Nat} {V : List (Value × List Int)} {hs : List Hc} {i : Nat} (h : GP w base S0 V hs i) (hi : i < V.length) : hs.getD i hc0 = hcN (hs.getD i hc0).m (V.getD i dV).2.length (V.getD i dV).1 := by
  obtain ⟨a1, a2, _⟩ := h.all i hi
  obtain ⟨b1, b2, b3, b4⟩ := h.new i (Nat.le_refl _) hi
  generalize hs.getD i hc0 = x at *
  obtain ⟨m, n, v, a, b, c, d⟩ := x
  simp only at a1 a2 b1 b2 b3 b4
  subst a1 a2 b1 b2 b3 b4
  rfl
theorem OwnH.rowAt {w : World} {base g N cap : Nat} {hs : List Hc} (h : OwnH w base (.slice (some ⟨g, 0, none⟩) N cap) hs) : ∃ rest, base ≤ g ∧ w.heap[g]? = some (.cells (flC hs ++ rest).toArray 47 (0, 0)) ∧ hs.length = N := by
  rcases h.2 with ⟨e, h0⟩ | ⟨g', cap', cur, e, hg, hh, hc, hm, hs', ht⟩
  · cases e
  · obtain ⟨e1, rfl, rfl⟩ := Value.slice.inj e
    cases e1
    refine ⟨cur.toList.drop (hs.length * 7), hg, ?_, rfl⟩
    rw [← ht, List.take_append_drop]
    simpa using hh
theorem OwnH.range {w : World} {base g N cap i : Nat} {hs : List Hc} (h : OwnH w base (.slice (some ⟨g, 0, none⟩) N cap) hs) (hi : i < N) : w.rangeAt g (i * 7) (hcC (hs.getD i hc0)) := by
  obtain ⟨rest, _, hh, hl⟩ := h.rowAt
  intro j u hu
  have hj : j < 7 := (List.getElem?_eq_some_iff.1 hu).1
  have hb : i * 7 + j < (flC hs).length := by rw [flC_len]; omega
  rw [cell_of_row _ _ _ _ _ _ hh, List.getElem?_toArray, List.getElem?_append_left hb, flC_get hs i j (by omega) hj]
  exact hu
/-- One of the book is written again. -/
theorem OwnH.put {w w1 : World} {base g N cap i : Nat} {hs : List Hc} {h' : Hc} {rest : List Value} (h : OwnH w base (.slice (some ⟨g, 0, none⟩) N cap) hs) (hi : i < N) (hr : w.heap[g]? = some (.cells (flC hs ++ rest).toArray 47 (0, 0)))
    (h1 : w1.heap[g]? = some (.cells ((flC hs ++ rest).take (i * 7) ++ hcC h' ++ (flC hs ++ rest).drop (i * 7 + (hcC h').length)).toArray 47 (0, 0))) : OwnH w1 base (.slice (some ⟨g, 0, none⟩) N cap) (hs.set i h') := by
  rcases h.2 with ⟨e, h0⟩ | ⟨g', cap', cur, e, hg, hh, hc, hm, hs', ht⟩
  · cases e
  · obtain ⟨e1, rfl, rfl⟩ := Value.slice.inj e
    cases e1
    rw [hr] at hh
    obtain rfl : (flC hs ++ rest).toArray = cur := by simpa using hh
    rw [show (hcC h').length = 7 from rfl, flC_set hs rest i h' hi] at h1
    refine ⟨by rw [flC_len, List.length_set], Or.inr ⟨g, cap, _, by rw [List.length_set], hg, h1, by rw [List.length_set]; exact hc, hm, ?_, ?_⟩⟩
    · rw [← hs']
      simp [flC_len]
    · rw [List.length_set, List.take_append_of_le_length (by rw [flC_len, List.length_set]; exact Nat.le_refl _), List.take_of_length_le (by rw [flC_len, List.length_set]; exact Nat.le_refl _)]
theorem GP.keeps {w w1 : World} {base S0 g : Nat} {V : List (Value × List Int)} {hs : List Hc} {i : Nat} {cs : Array Value} (h : GP w base S0 V hs i) (hr : w.heap[g]? = some (.cells cs 47 (0, 0))) (hk : Keeps g w w1) : GP w1 base S0 V hs i := h.of_heap fun k ds _ e => hk.block k (hlt e) (ne_ty e hr (by decide))
theorem HS.keeps {w wB wc w1 : World} {base pb qb g : Nat} {r : Rp} {q : Rq} {vv rv lv cv kv hv bv : Value} {ml mc : List ME} {kw n cw : Nat} {cs : Array Value} (h : HS w wB wc base pb qb r q vv rv lv cv kv hv bv ml mc kw n cw) (hr : wc.heap[g]? = some (.cells cs 47 (0, 0))) (hb : base ≤ g) (hk : Keeps g wc w1) : HS w wB w1 base pb qb r q vv rv lv cv kv hv bv ml mc kw n cw :=
  h.step (fun k ds t e _ ht => hk.block k (hlt e) (ne_ty e hr ht)) (hk.below_g hb h.bb)
theorem OwnH.below {w w1 : World} {base : Nat} {v : Value} {hs : List Hc} (h : OwnH w base v hs) (hb : Below w.heap.size w w1) : OwnH w1 base v hs := h.of_heap fun k hk => hb.block k (h.block k hk).2.1
theorem GP.below {w w1 : World} {base S0 : Nat} {V : List (Value × List Int)} {hs : List Hc} {i : Nat} (h : GP w base S0 V hs i) (hb : Below w.heap.size w w1) : GP w1 base S0 V hs i := h.of_heap fun k ds _ e => hb.block k (hlt e)
theorem HS.below {w wB wc w1 : World} {base pb qb : Nat} {r : Rp} {q : Rq} {vv rv lv cv kv hv bv : Value} {ml mc : List ME} {kw n cw : Nat} (h : HS w wB wc base pb qb r q vv rv lv cv kv hv bv ml mc kw n cw) (hb : Below wc.heap.size wc w1) : HS w wB w1 base pb qb r q vv rv lv cv kv hv bv ml mc kw n cw := h.step (fun k ds t e _ _ => hb.block k (hlt e)) (hb.mono h.bb)
theorem hcC_one {m : Int} {n : Nat} {v a b c d : Value} (hv : v.oneCell' = true) (ha : a.oneCell' = true) (hb : b.oneCell' = true) (hc : c.oneCell' = true) (hd : d.oneCell' = true) : ∀ y ∈ hcC ⟨m, n, v, a, b, c, d⟩, y.oneCell' = true := by
  intro y hy
  simp only [hcC, hlC, List.mem_cons, List.not_mem_nil, or_false] at hy
  rcases hy with rfl | rfl | rfl | rfl | rfl | rfl | rfl <;> first | rfl | assumption
theorem GP.stands {w : World} {base S0 : Nat} {V : List (Value × List Int)} {hs : List Hc} (h : GP w base S0 V hs V.length) {k : Nat} (hk : k < V.length) (hn : (V.getD k dV).2.length ≤ 140737488351232) :
    Calls Try.prog 16 #[.agg (hcC (hs.getD k hc0)).toArray] w fun e w' => e = .returned (.bool true) ∧ Below w.heap.size w w' := by
  obtain ⟨a1, a2, o⟩ := h.all k hk
  have hgr := h.grown k hk hk
  generalize hs.getD k hc0 = x at *
  obtain ⟨m, n, v, a, b, c, d⟩ := x
  simp only at a1 a2 o hgr
  subst a1 a2
  exact stands_any w base m (V.getD k dV).2.length (V.getD k dV).1 a b c d (by omega) o (hgr a 1 (by simp)).1 (hgr b 2 (by simp)).1 (hgr c 3 (by simp)).1 (hgr d 100 (by simp)).1
end Go.Proofs.Ytenfklcgkfaajaa
