import Derived.Test.YtenfklcgkfaajaaDk36
import Derived.Test.YtenfklcgkfaajaaDk12
namespace Go.Proofs.Ytenfklcgkfaajaa
set_option linter.unusedVariables false
set_option linter.unusedSimpArgs false
open Go.RowKit
attribute [local go_sem ↓] Go.wp_at_zero Go.wp_at_succ

/-- A row of bytes compared, at any depth. -/
theorem eqIn_ints {P : Program} {t e : TypeId} {kd : IntKind} {n : Nat} (ht : P.underlying t = some (.array n e)) (hu : P.underlying e = some (.int kd)) (hs : (P.info? e).map (·.size) = some 1) (k : IntKind) (d : Nat) (ax bs : List Int) (ha : ax.length = n) (hb : bs.length = n) (w : World) :
    (Op.equalIn (d + 1 + 1) t (.agg (ax.map (Value.int k)).toArray) (.agg (bs.map (Value.int k)).toArray)).run P w = .ok (decide (ax = bs)) w := by
  obtain ⟨i, hi⟩ := info_of_underlying hu
  have hc : P.cellsOf e = 1 := by simp [Program.cellsOf, hi] at hs ⊢; exact hs
  rw [run_equalIn_array w (d + 1) _ _ ht hi, hc, eqItems_ints hu d k ax bs w _ (fun j hj => by simp at hj; omega), all_range_eq ax bs n ha hb]
theorem part_row {P : Program} {e t : TypeId} {n : Nat} (hu : P.underlying t = some (.array n e)) {m : Nat} (hs : (P.info? t).map (·.size) = some m) (xs : Array Value) (o : Nat) (w : World) : (part t xs o).run P w = .ok (.agg (xs.extract o (o + m))) w := by
  have hagg : (isAgg t).run P w = .ok true w := by
    unfold isAgg
    rw [Sem.run_bind, run_underlying hu w]
    rfl
  obtain ⟨i, hi, rfl⟩ := Option.map_eq_some_iff.1 hs
  simp [part, Sem.run_bind, hagg, sizeOf, typeInfo, hi]
theorem eqFields_cons {P : Program} {d : Nat} {xs ys : Array Value} {f : Field} {fs : List Field} {w : World} {a b : Value} {r : Bool} (hn : f.name ≠ "_") (ha : (part f.type xs f.offset).run P w = .ok a w) (hb : (part f.type ys f.offset).run P w = .ok b w) (hr : (Op.equalIn d f.type a b).run P w = .ok r w) :
    (Op.eqFields d xs ys (f :: fs)).run P w = if r = true then (Op.eqFields d xs ys fs).run P w else .ok false w := by
  simp only [Op.eqFields, ne_eq, hn, not_false_eq_true, if_true, Sem.run_bind, ha, hb, hr, Result.andThen_ok]
  cases r <;> simp

theorem Try.stoodInf : Try.prog.stoodInHeld 30 = false := by kernel_rfl
theorem Try.guardInf : Try.prog.eqGuardType Try.prog.depth 30 = false := by kernel_rfl
theorem Try.undInf : Try.prog.underlying 30 = some (.struct (Try.prog.fieldsOf 30)) := by kernel_rfl
set_option maxRecDepth 100000 in
theorem Try.fieldsInf : ∃ a b c d e f g, (Try.prog.fieldsOf 30).toList = [a, b, c, d, e, f, g] ∧ (a.name ≠ "_" ∧ b.name ≠ "_" ∧ c.name ≠ "_" ∧ d.name ≠ "_" ∧ e.name ≠ "_" ∧ f.name ≠ "_" ∧ g.name ≠ "_") ∧ (a.type = 3 ∧ b.type = 3 ∧ c.type = 3 ∧ d.type = 3 ∧ e.type = 3 ∧ f.type = 3 ∧ g.type = 26) ∧ a.offset = 0 ∧ b.offset = 1 ∧ c.offset = 2 ∧ d.offset = 3 ∧ e.offset = 4 ∧ f.offset = 5 ∧ g.offset = 6 := by
  refine ⟨_, _, _, _, _, _, _, rfl, ⟨?_, ?_, ?_, ?_, ?_, ?_, ?_⟩, ⟨?_, ?_, ?_, ?_, ?_, ?_, ?_⟩, ?_, ?_, ?_, ?_, ?_, ?_, ?_⟩ <;> decide
set_option maxRecDepth 100000 in
theorem eqInf (x : Nf) (h : x.sum.length = 32) (w : World) :
    (Op.equalIn 10000 30 (.agg (inC x).toArray) (.agg (inC x).toArray)).run Try.prog w = .ok true w := by
  rw [run_equalIn_struct w 9999 _ _ _ Try.undInf Try.stoodInf]
  obtain ⟨a, b, c, d, e, f, g, hf, ⟨na, nb, nc, nd, ne, nf, ng⟩, ⟨ta, tb, tc, td, te, tf, tg⟩, oa, ob, oc, od, oe, of, og⟩ := Try.fieldsInf
  rw [hf]
  have hu3 : Try.prog.underlying 3 = some (.int .i64) := by kernel_rfl
  have e3 : ((inC x).toArray).extract 6 (6 + 32) = (x.sum.map (Value.int .u8)).toArray := by
    simp only [inC, ints, List.extract_toArray]
    congr 1
    simp only [List.extract_eq_take_drop, List.cons_append, List.nil_append, List.drop_succ_cons, List.drop_zero]
    rw [List.take_of_length_le (by simp [h])]
  have hd := fun xs o => part_row Try.underlying26 Try.sizeDg xs o w
  have hq := eqIn_ints Try.underlying26 Try.underlying5 Try.size5 .u8 9997 x.sum x.sum h h w
  rw [decide_eq_true rfl] at hq
  have hi : ∀ z : Int, (Op.equalIn 9999 3 (.int .i64 z) (.int .i64 z)).run Try.prog w = .ok true w := fun z => by
    have := run_equalIn_int w 9998 3 .i64 .i64 z z hu3
    simpa using this
  rw [eqFields_cons na (by rw [ta, oa]; exact part_int hu3 _ _ (.int .i64 x.width) rfl w) (by rw [ta, oa]; exact part_int hu3 _ _ (.int .i64 x.width) rfl w) (by rw [ta]; exact hi _), if_pos rfl,
    eqFields_cons nb (by rw [tb, ob]; exact part_int hu3 _ _ (.int .i64 x.first) rfl w) (by rw [tb, ob]; exact part_int hu3 _ _ (.int .i64 x.first) rfl w) (by rw [tb]; exact hi _), if_pos rfl,
    eqFields_cons nc (by rw [tc, oc]; exact part_int hu3 _ _ (.int .i64 x.last) rfl w) (by rw [tc, oc]; exact part_int hu3 _ _ (.int .i64 x.last) rfl w) (by rw [tc]; exact hi _), if_pos rfl,
    eqFields_cons nd (by rw [td, od]; exact part_int hu3 _ _ (.int .i64 x.used) rfl w) (by rw [td, od]; exact part_int hu3 _ _ (.int .i64 x.used) rfl w) (by rw [td]; exact hi _), if_pos rfl,
    eqFields_cons ne (by rw [te, oe]; exact part_int hu3 _ _ (.int .i64 x.pages) rfl w) (by rw [te, oe]; exact part_int hu3 _ _ (.int .i64 x.pages) rfl w) (by rw [te]; exact hi _), if_pos rfl,
    eqFields_cons nf (by rw [tf, of]; exact part_int hu3 _ _ (.int .i64 x.keys) rfl w) (by rw [tf, of]; exact part_int hu3 _ _ (.int .i64 x.keys) rfl w) (by rw [tf]; exact hi _), if_pos rfl,
    eqFields_cons ng (by rw [tg, og]; exact (hd _ 6).trans (by rw [e3])) (by rw [tg, og]; exact (hd _ 6).trans (by rw [e3])) (by rw [tg]; exact hq), if_pos rfl]
  simp [Op.eqFields]

theorem eqDg_self (xs : List Int) (ha : xs.length = 32) (w : World) : (Op.equalIn 10000 26 (.agg (ints .u8 xs).toArray) (.agg (ints .u8 xs).toArray)).run Try.prog w = .ok true w := by
  have := equalIn_ints (P := Try.prog) Try.underlying26 Try.underlying5 Try.size5 .u8 xs xs ha ha w
  rw [decide_eq_true rfl] at this; exact this
theorem eqKy_self (xs : List Int) (ha : xs.length = 32) (w : World) : (Op.equalIn 10000 50 (.agg (ints .u8 xs).toArray) (.agg (ints .u8 xs).toArray)).run Try.prog w = .ok true w := by
  have := equalIn_ints (P := Try.prog) Try.underlying50 Try.underlying5 Try.size5 .u8 xs xs ha ha w
  rw [decide_eq_true rfl] at this; exact this
theorem cellH {w w' : World} {a : Addr} {v : Value} (h : w'.heap = w.heap) (hc : w.cell? a = some v) : w'.cell? a = some v := by
  unfold World.cell? at hc ⊢; rw [h]; exact hc
theorem rngH {w w' : World} {b o : Nat} {cs : List Value} (h : w'.heap = w.heap) (hc : w.rangeAt b o cs) : w'.rangeAt b o cs := fun j v hv => cellH h (hc j v hv)
theorem srcH {w w' : World} {sp : Option Addr} {cap : Nat} {zs : List Int} (h : w'.heap = w.heap) (hS : Src w sp cap zs) : Src w' sp cap zs := by
  obtain ⟨h1, h2, b, o, h3, h4, h5⟩ := hS
  exact ⟨h1, h2, b, o, fun hp => by rw [h]; exact h3 hp, h4, fun j hj => cellH h (h5 j hj)⟩
theorem flat_get (c : Bool) : ∀ (ms : List ME) (hl : ∀ m ∈ ms, (enM c m).length = szE c) (i j : Nat) (hj : j < szE c), (ms.flatMap (enM c))[i * szE c + j]? = if i < ms.length then (enM c (ms.getD i dM))[j]? else none
  | [], _, i, j, hj => by simp
  | m :: r, hl, 0, j, hj => by
    rw [List.flatMap_cons, Nat.zero_mul, Nat.zero_add, List.getElem?_append_left (by rw [hl m (by simp)]; exact hj)]; simp
  | m :: r, hl, i + 1, j, hj => by
    have e := hl m (by simp)
    rw [List.flatMap_cons, List.getElem?_append_right (by rw [e, Nat.add_mul]; omega), e, show (i + 1) * szE c + j - szE c = i * szE c + j by rw [Nat.add_mul]; omega, flat_get c r (fun x hx => hl x (by simp [hx])) i j hj]
    simp
theorem ElO.src {c : Bool} {w : World} {base : Nat} {v : Value} {ms : List ME} {xs : List Cg} (h : ElO c w base v ms xs) : ∃ sp cap, v = .slice sp xs.length cap ∧ (sp = none → cap = 0) ∧ xs.length ≤ cap ∧ cap ≤ maxLen ∧ ∃ b o, (0 < xs.length → sp = some ⟨b, o, none⟩ ∧ b < w.heap.size) ∧ ∀ k, k < xs.length → ∃ sv, w.rangeAt b (o + k * szE c) (elC c (xs.getD k dX).key (xs.getD k dX).del sv) ∧ (xs.getD k dX).key.length = 32 ∧ Own w base sv (xs.getD k dX).val := by
  have hml : ∀ m ∈ ms, (enM c m).length = szE c := fun m hm => by
    obtain ⟨i, hi, e⟩ := List.mem_iff_getElem.1 hm
    obtain ⟨a1, a2, _, _⟩ := h.el i (by rw [← h.len]; exact hi)
    have e2 : ms.getD i dM = m := by rw [List.getD_eq_getElem?_getD, List.getElem?_eq_getElem hi, e]; rfl
    rw [e2] at a1
    exact elC_len (by rw [a1]; exact a2)
  have hs := h.len
  obtain ⟨h1, ⟨rfl, hn⟩ | ⟨g, cap, cur, rfl, hg, hh, hc, hm, hsz, ht⟩⟩ := h.own
  · have h0 : xs.length = 0 := by rw [← hs, hn]
    exact ⟨none, 0, by rw [h0], fun _ => rfl, by omega, by simp [maxLen], 0, 0, fun hp => by omega, fun k hk => by omega⟩
  · refine ⟨some ⟨g, 0, none⟩, cap, by rw [hs], (fun e => by cases e), by rw [← hs]; exact hc, hm, g, 0, fun _ => ⟨rfl, hlt hh⟩, fun k hk => ?_⟩
    obtain ⟨a1, a2, a3, a4⟩ := h.el k hk
    refine ⟨(ms.getD k dM).sv, fun j v' hv => ?_, a2, a4⟩
    have hj : j < szE c := by have := (List.getElem?_eq_some_iff.1 hv).1; rwa [elC_len a2] at this
    have hk' : k < ms.length := by rw [hs]; exact hk
    have hb : k * szE c + j < ms.length * szE c := by
      have : (k + 1) * szE c ≤ ms.length * szE c := Nat.mul_le_mul_right _ hk'
      rw [Nat.add_mul] at this; omega
    have hfl := flat_get c ms hml k j hj
    rw [if_pos hk'] at hfl
    rw [Nat.zero_add, cell_of_row _ _ _ _ _ _ hh]
    have e : cur.toList[k * szE c + j]? = (ms.flatMap (enM c))[k * szE c + j]? := by rw [← ht, List.getElem?_take, if_pos hb]
    rw [← Array.getElem?_toList, e, hfl]
    unfold enM
    rw [a1, a3]; exact hv
end Go.Proofs.Ytenfklcgkfaajaa
