import Derived.Test.YtcifbnldohmbnaaCo
namespace Go.Proofs.Ytcifbnldohmbnaa
set_option linter.unusedVariables false
set_option linter.unusedSimpArgs false
open Go.RowKit
attribute [local go_sem ↓] Go.wp_at_zero Go.wp_at_succ

theorem flat_set : ∀ (ms : List MC) (hl : ∀ m ∈ ms, m.key.length = 32) (i : Nat) (hi : i < ms.length) (x : Value),
    (ms.set i ⟨(ms.getD i dM).key, (ms.getD i dM).del, x⟩).flatMap encM = (ms.flatMap encM).set (i * 34 + 33) x
  | [], _, i, hi, x => by simp at hi
  | m :: ms, hl, 0, hi, x => by
    have hk := hl m (by simp)
    have hi32 : (ints .u8 m.key).length = 32 := by rw [ints_len, hk]
    simp only [List.set_cons_zero, List.flatMap_cons, Nat.zero_mul, Nat.zero_add]
    rw [List.set_append_left _ _ (by simp [encM, ints, hk])]
    congr 1
    show encM ⟨m.key, m.del, x⟩ = (encM m).set 33 x
    unfold encM
    rw [List.set_append_right _ _ (by omega), hi32]
    rfl
  | m :: ms, hl, i + 1, hi, x => by
    have hk := hl m (by simp)
    have hm : (encM m).length = 34 := by simp [encM, ints, hk]
    have ih := flat_set ms (fun m hm => hl m (by simp [hm])) i (by simpa using hi) x
    have e : (m :: ms).getD (i + 1) dM = ms.getD i dM := by simp
    rw [e]
    simp only [List.set_cons_succ, List.flatMap_cons]
    rw [ih, List.set_append_right _ _ (by omega), hm]
    congr 2
    omega
/-- l[i].Val = x, of a list that the call made. -/
theorem OwnM.setv {w : World} {base g n cap : Nat} {ms : List MC} (h : OwnM w base (.slice (some ⟨g, 0, none⟩) n cap) ms) (hl : ∀ m ∈ ms, m.key.length = 32) (i : Nat) (hi : i < ms.length) (x : Value) :
    OwnM (w.setCell ⟨g, i * 34 + 33, none⟩ x) base (.slice (some ⟨g, 0, none⟩) n cap) (ms.set i ⟨(ms.getD i dM).key, (ms.getD i dM).del, x⟩) := by
  obtain ⟨h1, ⟨hv, _⟩ | ⟨g', cap', cur, hv, hg, hh, hc, hm, hs, ht⟩⟩ := h
  · cases hv
  · simp only [Value.slice.injEq, Option.some.injEq, Addr.mk.injEq] at hv
    obtain ⟨⟨rfl, _⟩, rfl, rfl⟩ := hv
    unfold OwnM
    rw [List.length_set, flat_set ms hl i hi x]
    refine ⟨by rw [List.length_set]; exact h1, Or.inr ⟨g, cap, cur.setIfInBounds (i * 34 + 33) x, rfl, hg, ?_, hc, hm, by simp [hs], ?_⟩⟩
    · rw [setCell_eq_setRow w g _ _ _ _ _ hh, setRow_heap _ _ _ _ _ _ hh]
    · rw [← ht, Array.toList_setIfInBounds, List.take_set]
theorem OwnM.at0 {w : World} {base : Nat} {v : Value} {ms : List MC} (h : OwnM w base v ms) (hp : 0 < ms.length) : ∃ g cap cur, v = .slice (some ⟨g, 0, none⟩) ms.length cap ∧ base ≤ g ∧ w.heap[g]? = some (.cells cur 40 (0, 0)) := by
  obtain ⟨h1, ⟨rfl, hn⟩ | ⟨g, cap, cur, rfl, hg, hh, _⟩⟩ := h
  · omega
  · exact ⟨g, cap, cur, rfl, hg, hh⟩
/-- The first i changes bare. -/
def bareTo (cs : List Chg) (i : Nat) : List Chg := (cs.take i).map plainC ++ cs.drop i
theorem bareTo_len (cs : List Chg) (i : Nat) : (bareTo cs i).length = cs.length := by simp [bareTo]; omega
theorem bareTo_all (cs : List Chg) : bareTo cs cs.length = cs.map plainC := by simp [bareTo]
theorem bareTo_at (cs : List Chg) (i : Nat) (hi : i < cs.length) : (bareTo cs i).getD i dC = cs.getD i dC := by
  rw [bareTo, List.getD_eq_getElem?_getD, List.getElem?_append_right (by simp; omega)]
  simp [List.length_take, Nat.min_eq_left (Nat.le_of_lt hi), List.getD_eq_getElem?_getD]
theorem bareTo_step (cs : List Chg) (i : Nat) (hi : i < cs.length) : bareTo cs (i + 1) = (bareTo cs i).set i (plainC (cs.getD i dC)) := by
  unfold bareTo
  rw [List.set_append_right _ _ (by simp; omega), List.drop_eq_getElem_cons hi]
  simp only [List.length_map, List.length_take, Nat.min_eq_left (Nat.le_of_lt hi), Nat.sub_self, List.set_cons_zero]
  rw [take_snoc cs i hi]
  simp
theorem OwnV.set {w : World} {base : Nat} {ms : List MC} {cs : List Chg} (h : OwnV w base ms cs) (i : Nat) (hi : i < cs.length) {m : MC} {c : Chg} (h1 : m.key = c.key) (h2 : c.key.length = 32) (h3 : m.del = c.del) (h4 : Own w base m.sv c.val) : OwnV w base (ms.set i m) (cs.set i c) := by
  refine ⟨by simp [h.1], fun j hj => ?_⟩
  rw [List.length_set] at hj
  by_cases e : i = j
  · subst e
    rw [List.getD_eq_getElem?_getD, List.getElem?_set_self (by rw [h.1]; exact hi), List.getD_eq_getElem?_getD, List.getElem?_set_self hi]
    exact ⟨h1, h2, h3, h4⟩
  · have := h.2 j hj
    rw [List.getD_eq_getElem?_getD, List.getElem?_set_ne e, List.getD_eq_getElem?_getD, List.getElem?_set_ne e]
    rwa [List.getD_eq_getElem?_getD, List.getD_eq_getElem?_getD] at this
theorem OwnV.keys {w : World} {base : Nat} {ms : List MC} {cs : List Chg} (h : OwnV w base ms cs) : ∀ m ∈ ms, m.key.length = 32 := fun m hm => by
  obtain ⟨i, hi, rfl⟩ := List.mem_iff_getElem.1 hm
  have hj := h.2 i (by rw [← h.1]; exact hi)
  rw [show ms.getD i dM = ms[i] by rw [List.getD_eq_getElem?_getD, List.getElem?_eq_getElem hi]; rfl] at hj
  rw [hj.1]; exact hj.2.1
set_option maxRecDepth 100000 in
set_option maxHeartbeats 1000000 in
theorem bare_any (w : World) (cs : List Chg) (sp : Option Addr) (cap b o : Nat) (ms : List MC) (hC : Chs w sp cap cs b o ms) (hok : ∀ c ∈ cs, c.val.length ≤ 140737488351232) (hlen : cs.length ≤ 2199023255500) :
    Calls Try.prog 20 #[.slice sp cs.length cap] w fun e w' => ∃ v, e = .returned v ∧ Mine w' w.heap.size v (cs.map plainC) ∧ Below w.heap.size w w' := by
  have i0 : (cs.length : Int) ≤ 2199023255500 := by omega
  have KC := hid (copyChanges_any w cs sp cap b o ms hC hok hlen)
  clear hC hok
  go_enter Try.func20, Try.ntmps20
  go_wp2_with fail
  refine KC.out.mono ?_
  rintro e w1 ⟨v1, rfl, ⟨ns, hO, hV⟩, hB1⟩
  have hvl : ∃ s c, v1 = .slice s cs.length c := by
    obtain ⟨s, c, _, e, _⟩ := hO.chs hV.says
    exact ⟨s, c, e⟩
  obtain ⟨s1, c1, rfl⟩ := hvl
  go_wp2
  go_loopw [4] (fun iv wr => ∃ (i : Nat) (ns : List MC), i ≤ cs.length ∧ iv = .int .i64 i ∧ OwnM wr w.heap.size (.slice s1 cs.length c1) ns ∧ OwnV wr w.heap.size ns (bareTo cs i) ∧ Below w.heap.size w wr) (fun iv _ => cs.length - (intOf iv).toNat)
  case atStart => exact ⟨0, ns, by omega, rfl, hO, hV, hB1⟩
  case round =>
    clear hO hV hB1
    obtain ⟨i, ns, hi, rfl, hO, hV, hB⟩ := hrel
    by_cases hlt : i < cs.length
    · have i1 : (i : Int) < (cs.length : Int) := by omega
      have hnl : ns.length = cs.length := by rw [hV.1, bareTo_len]
      obtain ⟨g, cc, cur, hv, hg, hh⟩ := hO.at0 (by omega)
      simp only [Value.slice.injEq] at hv
      obtain ⟨rfl, hz1, rfl⟩ := hv
      clear hz1
      obtain ⟨spx, capx, bx, ex, hCx, _⟩ := hO.chs hV.says
      simp only [Value.slice.injEq] at ex
      obtain ⟨ex1, hz2, rfl⟩ := ex
      clear hz2
      obtain ⟨_, ex2⟩ := hCx.pos (by rw [bareTo_len]; omega)
      rw [ex2] at ex1
      simp only [Option.some.injEq, Addr.mk.injEq] at ex1
      obtain ⟨rfl, hz3, hz4⟩ := ex1
      clear hz3 hz4
      obtain ⟨spi, ci, _, rd, rv, _, _, lk, hsv⟩ := hCx.at i (by rw [bareTo_len]; exact hlt)
      rw [bareTo_at cs i hlt, Nat.zero_add] at rd rv
      rw [bareTo_at cs i hlt] at lk hsv
      have hvi := hV.2 i (by rw [bareTo_len]; exact hlt)
      rw [bareTo_at cs i hlt] at hvi
      have HST := hid (bareTo_step cs i hlt)
      have fz := frozen_of_row _ _ (i * 34 + 33) _ _ hh
      cases hd : (cs.getD i dC).del with
      | true =>
        rw [hd] at rd
        have HF := hid (show OwnM (wr.setCell ⟨g, i * 34 + 33, none⟩ (.slice none 0 0)) w.heap.size (.slice (some ⟨g, 0, none⟩) cs.length c1) (ns.set i ⟨(ns.getD i dM).key, (ns.getD i dM).del, .slice none 0 0⟩) ∧ OwnV (wr.setCell ⟨g, i * 34 + 33, none⟩ (.slice none 0 0)) w.heap.size (ns.set i ⟨(ns.getD i dM).key, (ns.getD i dM).del, .slice none 0 0⟩) (bareTo cs (i + 1)) ∧ Below w.heap.size w (wr.setCell ⟨g, i * 34 + 33, none⟩ (.slice none 0 0)) from by
          refine ⟨hO.setv hV.keys i (by omega) _, ?_, hB.setCell hg _⟩
          rw [HST.out]
          refine OwnV.set (hV.of_heap fun kk x hx => heap_setCell_other _ _ _ _ (ne_of_type hx hh (by decide))) i (by rw [bareTo_len]; exact hlt) hvi.1 hvi.2.1 hvi.2.2.1 ?_
          simp only [plainC, hd, if_true]
          exact Own.nil _ _)
        clear HST hvi hCx hV hO hsv lk hnl hd
        generalize (cs.getD i dC).val.length = vl at *
        go_wp2
        go_roundw
        case rel => exact ⟨i + 1, _, by omega, by go_num, HF.out.1, HF.out.2.1, HF.out.2.2⟩
        case measure => simp [intOf]; omega
      | false =>
        rw [hd] at rd
        have HF := hid (show bareTo cs (i + 1) = bareTo cs i by
          rw [HST.out]
          have : plainC (cs.getD i dC) = cs.getD i dC := by
            cases hcc : cs.getD i dC with
            | mk k d v => rw [hcc] at hd; simp at hd; subst hd; rfl
          rw [this]
          apply List.ext_getElem?
          intro j
          by_cases e : i = j
          · subst e
            rw [List.getElem?_set_self (by rw [bareTo_len]; exact hlt)]
            have := bareTo_at cs i hlt
            rw [List.getD_eq_getElem?_getD, List.getElem?_eq_getElem (by rw [bareTo_len]; exact hlt)] at this
            rw [List.getElem?_eq_getElem (by rw [bareTo_len]; exact hlt)]
            simp at this
            rw [this]
            simp
          · rw [List.getElem?_set_ne e])
        clear HST hvi hCx hsv rv lk hnl hd
        go_wp2
        go_roundw
        case rel => exact ⟨i + 1, ns, by omega, by go_num, hO, (by rw [HF.out]; exact hV), hB⟩
        case measure => simp [intOf]; omega
    · obtain rfl : i = cs.length := by omega
      rw [bareTo_all] at hV
      clear hlt
      go_wp2
      go_ret
      exact ⟨_, rfl, ⟨ns, hO, hV⟩, hB⟩
end Go.Proofs.Ytcifbnldohmbnaa
