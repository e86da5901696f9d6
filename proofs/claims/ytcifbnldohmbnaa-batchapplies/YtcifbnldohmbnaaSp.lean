import Derived.Test.YtcifbnldohmbnaaSo
import Derived.Test.YtcifbnldohmbnaaCq
namespace Go.Proofs.Ytcifbnldohmbnaa
set_option linter.unusedVariables false
set_option linter.unusedSimpArgs false
open Go.RowKit Go.Shelf
attribute [local go_sem ↓] Go.wp_at_zero Go.wp_at_succ

/-! The sort of a list of changes. -/
def OkS (m : MC) : Prop := m.key.length = 32 ∧ Byts m.key ∧ m.sv.oneCell' = true
theorem okS_dM : OkS dM := ⟨by simp [dM], fun x hx => by simp [dM] at hx; omega, rfl⟩
abbrev SMC := { m : MC // OkS m }
instance : Inhabited SMC := ⟨⟨dM, okS_dM⟩⟩
def encS (x : SMC) : List Value := encM x.1
theorem encS_len (x : SMC) : (encS x).length = 34 := by simp [encS, encM, ints, x.2.1]
theorem encS_one (x : SMC) : ∀ v ∈ encS x, v.oneCell' = true := by
  intro v hv
  rcases List.mem_append.1 hv with h | h
  · exact ints_one _ _ v h
  · simp at h; rcases h with rfl | rfl
    · rfl
    · exact x.2.2.2
def cfS (x y : SMC) : Int := cmpK x.1.key y.1.key
theorem ltS (x y : SMC) : ltOf cfS x y = decide (cmpK x.1.key y.1.key < 0) := rfl
theorem swoS : Go.Sort.SWO (ltOf cfS) where
  irrefl x := by rw [ltS, cmpK_self]; rfl
  trans x y z h1 h2 := by
    rw [ltS, decide_eq_true_eq] at *
    have a : cmpK x.1.key y.1.key = -1 := by rcases cmpK_cases x.1.key y.1.key with h | h | h <;> omega
    have b : cmpK y.1.key z.1.key = -1 := by rcases cmpK_cases y.1.key z.1.key with h | h | h <;> omega
    rw [cmpK_trans a b]; decide
  ntrans x y z h1 h2 := by
    rw [ltS, decide_eq_false_iff_not] at *
    have n1 := cmpK_neg y.1.key x.1.key
    have n2 := cmpK_neg z.1.key y.1.key
    have n3 := cmpK_neg z.1.key x.1.key
    have := cmpK_le_trans (l := z.1.key) (m := y.1.key) (n := x.1.key) (by omega) (by omega)
    omega
theorem enc_row {w : World} {g t : Nat} {fr : Nat × Nat} {m : MC} (h : w.heap[g]? = some (.cells (encM m).toArray t fr)) (hk : m.key.length = 32) : w.rangeAt g 0 (ints .u8 m.key) := fun j v hv => by
  have hj := (List.getElem?_eq_some_iff.1 hv).1
  rw [Nat.zero_add, cell_of_row _ _ _ _ _ _ h, List.getElem?_toArray, encM, List.getElem?_append_left hj, hv]
theorem alloc4 (W : World) (A B C D : Obj) (q : Nat) : ((((W.alloc A).alloc B).alloc C).alloc D).drewN q = Go.Sort.grow (W.drewN q) #[A, B, C, D] := by
  have h : (((W.alloc A).alloc B).alloc C).alloc D = Go.Sort.grow W #[A, B, C, D] := by
    rw [Go.Sort.alloc_eq_grow, Go.Sort.alloc_eq_grow, Go.Sort.alloc_eq_grow, Go.Sort.alloc_eq_grow, Go.Sort.grow_grow, Go.Sort.grow_grow, Go.Sort.grow_grow]; rfl
  rw [h]; rfl
set_option maxRecDepth 100000 in
set_option maxHeartbeats 1000000 in
theorem closure_any (x y : MC) (hx : OkS x) (hy : OkS y) (W : World) : Calls Try.prog 46 #[.agg (encM x).toArray, .agg (encM y).toArray] W fun e w' => e = .returned (.int .i64 (cmpK x.key y.key)) ∧ ∃ q os', w' = Go.Sort.grow (W.drewN q) os' := by
  have g1 := enc_row (hold2 W (.cells (encM x).toArray 40) (.cells (encM y).toArray 40)) hx.1
  have g2 := enc_row (hnew2 W (.cells (encM x).toArray 40) (.cells (encM y).toArray 40)) hy.1
  have hi1 : (Try.prog.info? 24).map (·.size) = some (ints .u8 x.key).length := by rw [keySize, ints_len, hx.1]
  have hi2 : (Try.prog.info? 24).map (·.size) = some (ints .u8 y.key).length := by rw [keySize, ints_len, hy.1]
  have KC := hid (Compare_ex ((W.alloc (.cells (encM x).toArray 40)).alloc (.cells (encM y).toArray 40)) x.key y.key hx.2.1 hy.2.1 hx.1 hy.1)
  go_enter Try.func46, Try.ntmps46
  go_wp2_with (first
    | refine wpList_load_mid rfl 24 _ rfl W.heap.size 0 rfl (ints .u8 x.key) _ g1 Try.underlying24 rfl hi1 ?_
    | refine wpList_load_mid rfl 24 _ rfl (W.heap.size + 1) 0 rfl (ints .u8 y.key) _ g2 Try.underlying24 rfl hi2 ?_)
  refine KC.out.mono ?_
  rintro e w1 ⟨rfl, q, rfl⟩
  go_wp2
  go_ret
  exact ⟨rfl, q, _, alloc4 _ _ _ _ _ _⟩
theorem heap_sortK {w : World} {g n : Nat} {os : Array Obj} {cur : Array Value} {e : TypeId} {fr : Nat × Nat} (F : Array Value) (hb : w.heap[g]? = some (.cells cur e fr)) :
    (Go.Sort.grow (Go.Sort.putRow id (Go.Sort.ahead w n) g 0 F) os).heap[g]? = some (.cells (Go.Sort.putCells id 0 F cur) e fr) := by
  have hg : g < w.heap.size := (Array.getElem?_eq_some_iff.1 hb).1
  rw [Go.Sort.heap_grow_old _ _ (by simpa using hg)]
  simp [Go.Sort.putRow, Go.Sort.mapBlock, Go.Sort.ahead, Array.getElem?_modify, hb, Go.Sort.onCells]
theorem grown_sortK {w : World} {g n : Nat} {os : Array Obj} (F : Array Value) : w.grownBy (Go.Sort.grow (Go.Sort.putRow id (Go.Sort.ahead w n) g 0 F) os) (some g) := by
  refine ⟨rfl, rfl, rfl, by simp, fun k hk hne => ?_⟩
  rw [Go.Sort.heap_grow_old _ _ (by simpa using hk)]
  have : g ≠ k := fun e => hne (by rw [e])
  simp [Go.Sort.putRow, Go.Sort.mapBlock, Go.Sort.ahead, Array.getElem?_modify, this]
/-- The cells of the elements, flat. -/
theorem flat_cells (d : Array SMC) (ms : List MC) (hd : d.toList.map Subtype.val = ms) : (Go.Sort.flatK encS 34 d).toList = ms.flatMap encM := by
  have hsz : d.size = ms.length := by rw [← hd]; simp
  have hl : ∀ m ∈ ms, (encM m).length = 34 := fun m hm => by
    rw [← hd] at hm
    obtain ⟨x, _, rfl⟩ := List.mem_map.1 hm
    exact encS_len x
  apply List.ext_getElem?
  intro j
  by_cases hj : j < ms.length * 34
  · have h1 : j / 34 < ms.length := by omega
    have h2 : j % 34 < 34 := Nat.mod_lt _ (by decide)
    have e := flat_get ms hl (j / 34) (j % 34) h2
    rw [show j / 34 * 34 + j % 34 = j by omega, if_pos h1] at e
    rw [e]
    have hm : ms.getD (j / 34) dM = (d[j / 34]!).1 := by
      rw [← hd, List.getD_eq_getElem?_getD, List.getElem?_map, Array.getElem?_toList, Array.getElem?_eq_getElem (by omega), getElem!_pos d (j / 34) (by omega)]
      rfl
    rw [hm, Array.getElem?_toList, Array.getElem?_eq_getElem (by simp; omega)]
    have := Go.Sort.get_flatK encS 34 d j (by omega)
    rw [getElem!_pos _ j (by simp; omega)] at this
    rw [this]
    show some ((encM (d[j / 34]!).1)[j % 34]!) = _
    rw [getElem!_pos _ _ (by have := encS_len d[j / 34]!; unfold encS at this; omega), List.getElem?_eq_getElem]
  · rw [List.getElem?_eq_none (by simp; omega), List.getElem?_eq_none (by rw [flat_len ms hl]; omega)]
set_option maxRecDepth 100000 in
set_option maxHeartbeats 1000000 in
/-- slices.SortFunc over a list of changes that the call made. -/
theorem sort_any (w : World) (base g n cap : Nat) (ms : List MC) (hO : OwnM w base (.slice (some ⟨g, 0, none⟩) n cap) ms) (hok : ∀ m ∈ ms, OkS m) (hn : n ≤ 1000000000) :
    Calls Try.prog 45 #[.slice (some ⟨g, 0, none⟩) n cap, .func (Fn.func 46) #[] #[]] w fun e w' => e = .returned (.tuple #[]) ∧ ∃ ms', ms'.Perm ms ∧ ms'.Pairwise (fun a b => cmpK a.key b.key ≤ 0) ∧ OwnM w' base (.slice (some ⟨g, 0, none⟩) n cap) ms' ∧ w.grownBy w' (some g) := by
  have hl : ∀ m ∈ ms, (encM m).length = 34 := fun m hm => encS_len ⟨m, hok m hm⟩
  obtain ⟨h1, ⟨hv, _⟩ | ⟨g', cap', cur, hv, hg, hh, hc, hm, hs, ht⟩⟩ := hO
  · cases hv
  · simp only [Value.slice.injEq, Option.some.injEq, Addr.mk.injEq] at hv
    obtain ⟨⟨rfl, _⟩, rfl, rfl⟩ := hv
    have hd : ∃ d : Array SMC, d.toList.map Subtype.val = ms := ⟨(ms.pmap (fun m h => (⟨m, h⟩ : SMC)) hok).toArray, by simp [List.map_pmap]⟩
    obtain ⟨d, hd⟩ := hd
    have hsz : d.size = ms.length := by rw [← hd]; simp
    have hfl := flat_cells d ms hd
    have hH : Go.Sort.HoldsK encS 34 w g 0 d := by
      intro j hj
      rw [Go.Sort.size_flatK] at hj
      refine ⟨?_, frozen_of_row _ _ _ _ _ hh⟩
      have e : (ms.flatMap encM)[j]? = cur.toList[j]? := by rw [← ht, List.getElem?_take, if_pos (by omega)]
      have e2 : (Go.Sort.flatK encS 34 d).toList[j]? = (ms.flatMap encM)[j]? := by rw [hfl]
      rw [Array.getElem?_toList, Array.getElem?_eq_getElem (by simp; omega)] at e2
      rw [Nat.zero_add, cell_of_row _ _ _ _ _ _ hh, getElem!_pos _ j (by simp; omega)]
      have := e2.trans e
      rw [Array.getElem?_toList] at this
      exact this.symm
    have eg : ∀ args w, (callFunc 46 args).run Try.prog w = .ok (.enter 46 args) w := enters_of Try.func46 (by kernel_rfl) rfl
    have hcmp : CmpLays Try.prog 46 #[] encS 34 cfS g 0 d.size w := fun _ _ _ _ x y => closure_any x.1 y.1 x.2 y.2 _
    have hcon := AnyQ.slices_SortFunc sortLays 34 Try.isAgg40 Try.sizeOf40 encS encS_len encS_one cfS swoS 46 #[] g 0 cap d w eg hcmp hH (hlt hh) (by omega)
    rw [hsz] at hcon
    refine hcon.mono ?_
    rintro e w' ⟨rfl, d', q, os, hp, hso, rfl⟩
    obtain ⟨p1, p2, p3⟩ := hp
    have hsz' : d'.size = ms.length := by rw [p1, hsz]
    refine ⟨rfl, d'.toList.map Subtype.val, ?_, ?_, ?_, grown_sortK _⟩
    · rw [← hd]
      have e1 : (d'.extract 0 ms.length).toList = d'.toList := by rw [← hsz']; simp
      have e2 : (d.extract 0 ms.length).toList = d.toList := by rw [← hsz]; simp
      rw [e1, e2] at p3
      exact p3.map _
    · rw [List.pairwise_map, List.pairwise_iff_getElem]
      intro i j hi hj hij
      have hi' : i < d'.size := by simpa using hi
      have hj' : j < d'.size := by simpa using hj
      have := hso i j (Nat.zero_le _) hij (by omega)
      rw [getElem!_pos d' j hj', getElem!_pos d' i hi', ltS, decide_eq_false_iff_not] at this
      have n1 := cmpK_neg d'[j].1.key d'[i].1.key
      simp only [Array.getElem_toList]
      omega
    · have hfl' := flat_cells d' _ rfl
      unfold OwnM
      have hlen' : (d'.toList.map Subtype.val).length = ms.length := by simp [hsz']
      have hl' : ∀ m ∈ d'.toList.map Subtype.val, (encM m).length = 34 := fun m hm => by
        obtain ⟨x, _, rfl⟩ := List.mem_map.1 hm
        exact encS_len x
      rw [hlen']
      refine ⟨by rw [flat_len _ hl', hlen'], Or.inr ⟨g, cap, _, rfl, hg, heap_sortK _ hh, hc, hm, by simp [Go.Sort.putCells, hs], ?_⟩⟩
      rw [← hfl']
      apply List.ext_getElem?
      intro j
      by_cases hj : j < ms.length * 34
      · rw [List.getElem?_take, if_pos hj, Array.getElem?_toList, Array.getElem?_toList]
        have hjc : j < cur.size := by omega
        have hjf : j < (Go.Sort.flatK encS 34 d').size := by simp; omega
        simp only [Go.Sort.putCells, Array.getElem?_mapIdx, Array.getElem?_eq_getElem hjc, Option.map_some, Nat.zero_le, true_and, Nat.zero_add, hjf, if_true, Nat.sub_zero, id]
        rw [getElem!_pos _ j hjf, Array.getElem?_eq_getElem hjf]
      · rw [List.getElem?_eq_none (by simp; omega), List.getElem?_eq_none (by simp; omega)]
end Go.Proofs.Ytcifbnldohmbnaa
