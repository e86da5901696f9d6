import Derived.Test.YtibpffoencjlcaaVb9
namespace Go.Proofs.Ytibpffoencjlcaa
set_option linter.unusedVariables false
set_option linter.unusedSimpArgs false
open Go.RowKit
attribute [local go_sem ↓] Go.wp_at_zero Go.wp_at_succ

/-- A digest cut. -/
def cutZ (zs : List Int) (n : Nat) : List Int := splice (List.replicate 32 0) 0 (zs.take n)
theorem cutV_ints (zs : List Int) (n : Nat) : cutV (ints .u8 zs) n = ints .u8 (cutZ zs n) := by
  simp [cutV, cutZ, ints, splice, zero32, List.map_take]
theorem cutZ_len (zs : List Int) (n : Nat) (h : zs.length = 32) : (cutZ zs n).length = 32 := by
  unfold cutZ; rw [length_splice _ _ _ (by simp; omega)]; simp
theorem cutD_any (zs : List Int) (hl : zs.length = 32) (k : Int) (w : World) :
    Calls Try.prog 10 #[.agg (ints .u8 zs).toArray, .int .i64 k] w fun e w' => e = .returned (.agg (ints .u8 (cutZ zs (kept k))).toArray) ∧ Below w.heap.size w w' := by
  have := cut_any (ints .u8 zs) (by rw [ints_len, hl]) (ints_one _ _) k w
  rwa [cutV_ints] at this
/-- A block of a digest, filled anew. -/
theorem dig_set {w : World} {g t : Nat} {D E : List Int} (h : w.heap[g]? = some (.cells (ints .u8 D).toArray t (0, 0))) : (w.setRow g (ints .u8 E).toArray).heap[g]? = some (.cells (ints .u8 E).toArray t (0, 0)) := setRow_heap _ _ _ _ _ _ h

/-- Blocks of bytes that this call made. -/
def DR (w0 w : World) (L : List (Nat × List Int × Nat)) : Prop := Below w0.heap.size w0 w ∧ ∀ x, x ∈ L → w.heap[x.1]? = some (.cells (ints .u8 x.2.1).toArray x.2.2 (0, 0))
theorem DR.nil (w : World) : DR w w [] := ⟨Below.refl _ _, fun x h => by cases h⟩
theorem DR.row {w0 w : World} {L : List (Nat × List Int × Nat)} (h : DR w0 w L) {b t : Nat} {zs : List Int} (hm : (b, zs, t) ∈ L) : w.heap[b]? = some (.cells (ints .u8 zs).toArray t (0, 0)) := h.2 _ hm
theorem DR.rng {w0 w : World} {L : List (Nat × List Int × Nat)} (h : DR w0 w L) {b t : Nat} {zs : List Int} (hm : (b, zs, t) ∈ L) : w.rangeAt b 0 (ints .u8 zs) := Go.Proofs.Ytibpffoencjlcaa.rng (h.row hm)
theorem DR.call {w0 w w' : World} {L : List (Nat × List Int × Nat)} (h : DR w0 w L) (hb : Below w.heap.size w w') : DR w0 w' L :=
  ⟨h.1.trans (hb.mono h.1.size), fun x hx => hbel hb (h.2 x hx) (hlt (h.2 x hx))⟩
theorem DR.alloc {w0 w : World} {L : List (Nat × List Int × Nat)} (h : DR w0 w L) (zs : List Int) (t : Nat) : DR w0 (w.alloc (.cells (ints .u8 zs).toArray t)) ((w.heap.size, zs, t) :: L) := by
  refine ⟨h.1.alloc h.1.size _, fun x hx => ?_⟩
  rcases List.mem_cons.1 hx with rfl | hx
  · exact hnew w _
  · exact hold (h.2 x hx)
theorem DR.other {w0 w : World} {L : List (Nat × List Int × Nat)} (h : DR w0 w L) (o : Obj) : DR w0 (w.alloc o) L := ⟨h.1.alloc h.1.size _, fun x hx => hold (h.2 x hx)⟩
theorem DR.drew {w0 w : World} {L : List (Nat × List Int × Nat)} (h : DR w0 w L) : DR w0 w.drew L := ⟨h.1.drew, h.2⟩
theorem DR.lt {w0 w : World} {L : List (Nat × List Int × Nat)} (h : DR w0 w L) {b t : Nat} {zs : List Int} (hm : (b, zs, t) ∈ L) : b < w.heap.size := hlt (h.row hm)
theorem DR.src {w0 w : World} {L : List (Nat × List Int × Nat)} (h : DR w0 w L) {sp : Option Addr} {cap : Nat} {zs : List Int} (hs : Src w0 sp cap zs) : Src w sp cap zs := hs.below h.1 (Nat.le_refl _)
/-- The first of them written over. -/
theorem DR.set {w0 w : World} {L : List (Nat × List Int × Nat)} {b t : Nat} {zs : List Int} (h : DR w0 w ((b, zs, t) :: L)) (hb : w0.heap.size ≤ b) (hL : ∀ x, x ∈ L → x.1 ≠ b) (ys : List Int) : DR w0 (w.setRow b (ints .u8 ys).toArray) ((b, ys, t) :: L) := by
  refine ⟨below_setRow h.1 hb _, fun x hx => ?_⟩
  rcases List.mem_cons.1 hx with rfl | hx
  · exact dig_set (h.row (List.mem_cons_self ..))
  · exact (setRow_other _ _ _ _ (hL x hx)).trans (h.2 x (List.mem_cons_of_mem _ hx))
theorem Try.guardD : Try.prog.eqGuardType Try.prog.depth 29 = false := by kernel_rfl
theorem eqD (xs ys : List Int) (ha : xs.length = 32) (hb : ys.length = 32) (w : World) :
    (Op.equalIn 10000 29 (.agg (ints .u8 xs).toArray) (.agg (ints .u8 ys).toArray)).run Try.prog w = .ok (decide (xs = ys)) w :=
  equalIn_ints Try.underlying29 Try.underlying5 Try.size5 .u8 xs ys ha hb w
theorem eqD_self (xs : List Int) (ha : xs.length = 32) (w : World) :
    (Op.equalIn 10000 29 (.agg (ints .u8 xs).toArray) (.agg (ints .u8 xs).toArray)).run Try.prog w = .ok true w := by
  rw [eqD xs xs ha ha]; simp
theorem eqD_ne (xs ys : List Int) (ha : xs.length = 32) (hb : ys.length = 32) (h : xs ≠ ys) (w : World) :
    (Op.equalIn 10000 29 (.agg (ints .u8 xs).toArray) (.agg (ints .u8 ys).toArray)).run Try.prog w = .ok false w := by
  rw [eqD xs ys ha hb]; simp [h]
theorem cutZ_get (zs : List Int) (hl : zs.length = 32) (n : Nat) (hn : n ≤ 32) (j : Nat) : (cutZ zs n)[j]? = if j < n then zs[j]? else if j < 32 then some 0 else none := by
  simp only [cutZ, splice, List.take_zero, List.nil_append, Nat.zero_add, List.length_take]
  by_cases c : j < n
  · rw [if_pos c, List.getElem?_append_left (by simp [hl]; omega), List.getElem?_take, if_pos c]
  · rw [if_neg c, List.getElem?_append_right (by simp; omega), List.getElem?_drop, List.getElem?_replicate, List.length_take, hl]
    by_cases d : j < 32
    · rw [if_pos d, if_pos (by omega)]
    · rw [if_neg d, if_neg (by omega)]
theorem cutZ_cutZ (zs : List Int) (hl : zs.length = 32) (n : Nat) (hn : n ≤ 32) : cutZ (cutZ zs n) n = cutZ zs n := by
  apply List.ext_getElem?; intro j
  rw [cutZ_get _ (cutZ_len zs n hl) n hn, cutZ_get zs hl n hn]
  by_cases c : j < n <;> simp [c]
theorem cutZ_take (zs : List Int) (hl : zs.length = 32) (n : Nat) (hn : n ≤ 32) : (cutZ zs n).take n = zs.take n := by
  apply List.ext_getElem?; intro j
  rw [List.getElem?_take, List.getElem?_take, cutZ_get zs hl n hn]
  by_cases c : j < n <;> simp [c]
theorem built_zeroD : Try.prog.built 29 [] = some (ints .u8 z32).toArray := by kernel_rfl
/-- A zero value built, guarded or not. -/
theorem wpList_zero_w {P : Program} {ops : Array Oper} {rest : List Oper} {o : Oper} {a : Act} {w : World} {Q : Exit → Act → World → Prop} (hw : Region.wanted o (yielded ops a.tmps) = true) (t : TypeId) (ho : o.op = .build t #[]) (cs : Array Value) (hb : P.built t [] = some cs)
    (h : wpList P ops Q rest (a.put o.dst (.agg cs)) w) : wpList P ops Q (o :: rest) a w := by
  have e : P.built t ((#[] : Array (Nat × Operand)).map fun (i, x) => (i, a.eval x)).toList = some cs := by simpa using hb
  exact BigFrame.wpList_want hw fun _ hK => wp_build t #[] ho (by rw [e]; rfl) (by rw [e]; exact hK _ _ h)
theorem cmpK_all {z y : List Int} (hl : z.length = y.length) (h : ∀ j, j < z.length → z.getD j 0 = y.getD j 0) : z = y := by
  apply List.ext_getElem hl
  intro i h1 h2
  have := h i h1
  simpa [List.getD_eq_getElem?_getD, List.getElem?_eq_getElem h1, List.getElem?_eq_getElem h2] using this
set_option maxRecDepth 100000 in
set_option maxHeartbeats 400000 in
theorem copyBytes_any (w : World) (zs : List Int) (sp : Option Addr) (cap : Nat) (hS : Src w sp cap zs) (hlen : zs.length ≤ 140737488355000) :
    Calls Try.prog 16 #[.slice sp zs.length cap] w fun e w' => ∃ v, e = .returned v ∧ Own w' w.heap.size v zs ∧ Below w.heap.size w w' := by
  obtain ⟨hc, hm, b, o, hb, hsp, hsrc⟩ := hS
  have hO := Own.nil w w.heap.size
  have i0 : (zs.length : Int) ≤ 140737488355000 := by omega
  go_enter Try.func16, Try.ntmps16
  go_wp2
  go_loopw [3, 4] (fun v i wr => ∃ k : Nat, k ≤ zs.length ∧ i = .int .i64 k ∧ Own wr w.heap.size v (zs.take k) ∧ Below w.heap.size w wr) (fun _ i _ => zs.length - (intOf i).toNat)
  case atStart => exact ⟨0, by omega, rfl, hO, Below.refl _ _⟩
  case round =>
    clear hO
    obtain ⟨k, hk, rfl, hO, hB⟩ := hrel
    by_cases hlt : k < zs.length
    · have i1 : (k : Int) < (zs.length : Int) := by omega
      obtain rfl := hsp (by omega)
      have c0 := (hB.cell (p := ⟨b, o + k, none⟩) (hb (by omega))).trans (hsrc k hlt)
      have HT := hid (show zs.take (k + 1) = zs.take k ++ [zs.getD k 0] by
        rw [List.take_succ_eq_append_getElem hlt, List.getD_eq_getElem?_getD, List.getElem?_eq_getElem hlt]; rfl)
      have KL := hid (show (zs.take k).length + 1 ≤ 140737488355328 by rw [List.length_take]; omega)
      generalize zs.getD k 0 = x at *
      generalize zs.take k = zk at *
      go_wp2_with (first | (at_builtin; refine wpList_push_any rfl (.tmp 11) (.tmp 16) rfl w.heap.size _ _ x rfl hO rfl KL.out hB.size _ _ ?_; intro v2 w2 hO2 hB2))
      go_roundw
      case rel => exact ⟨k + 1, by omega, by go_num, (by rw [HT.out]; exact hO2), hB.trans hB2⟩
      case measure => simp [intOf]; omega
    · obtain rfl : k = zs.length := by omega
      rw [List.take_length] at hO
      clear hlt
      go_wp2
      go_ret
      exact ⟨_, rfl, hO, hB⟩
set_option maxRecDepth 100000 in
set_option maxHeartbeats 400000 in
theorem sameBytes_any (w : World) (zs ys : List Int) (sp tp : Option Addr) (cap dap : Nat) (hS : Src w sp cap zs) (hT : Src w tp dap ys) :
    Calls Try.prog 7 #[.slice sp zs.length cap, .slice tp ys.length dap] w fun e w' => e = .returned (.bool (decide (zs = ys))) ∧ Below w.heap.size w w' := by
  obtain ⟨hc, hm, b, o, hb, hsp, hsrc⟩ := hS
  obtain ⟨hc2, hm2, b2, o2, hb2, hsp2, hsrc2⟩ := hT
  unfold maxLen at hm hm2
  by_cases hl : zs.length = ys.length
  · go_enter Try.func7, Try.ntmps7
    rw [hl] at hsp hsrc hb hc ⊢
    have hN := hid hl
    have i0 : (ys.length : Int) ≤ 9223372036854775807 := by omega
    generalize hn : ys.length = n at *
    have HN := hid hn
    clear hl hn
    go_wp2
    go_loopw [5] (fun i wr => ∃ k : Nat, k ≤ n ∧ i = .int .i64 k ∧ (∀ j, j < k → zs.getD j 0 = ys.getD j 0) ∧ Below w.heap.size w wr) (fun i _ => n - (intOf i).toNat)
    case atStart => exact ⟨0, by omega, rfl, fun j hj => by omega, Below.refl _ _⟩
    case round =>
      obtain ⟨k, hk, rfl, hsame, hB⟩ := hrel
      by_cases hlt : k < n
      · have i1 : (k : Int) < (n : Int) := by omega
        obtain rfl := hsp (by omega)
        obtain rfl := hsp2 (by omega)
        have c0 := (hB.cell (p := ⟨b, o + k, none⟩) (hb (by omega))).trans (hsrc k hlt)
        have c1 := (hB.cell (p := ⟨b2, o2 + k, none⟩) (hb2 (by omega))).trans (hsrc2 k hlt)
        by_cases he : zs.getD k 0 = ys.getD k 0
        · have HE := hid (show ∀ j, j < k + 1 → zs.getD j 0 = ys.getD j 0 from fun j hj => by rcases Nat.lt_succ_iff_lt_or_eq.1 hj with h | rfl; exact hsame j h; exact he)
          rw [he] at c0
          clear he hsame
          generalize ys.getD k 0 = x at *
          go_wp2
          go_quiet (fail)
          go_wp2
          go_roundw
          case rel => exact ⟨k + 1, by omega, by go_num, HE.out, below_drewN hB _⟩
          case measure => simp [intOf]; omega
        · have hne : zs ≠ ys := fun e => he (by rw [e])
          clear hsame
          generalize ys.getD k 0 = x at *
          generalize zs.getD k 0 = y at *
          have hd : decide (zs = ys) = false := by simp [hne]
          have HD := hid hd
          clear hd hne
          go_wp2
          go_quiet (fail)
          go_wp2
          go_ret
          exact ⟨(by rw [HD.out]; rfl), below_drewN hB _⟩
      · obtain rfl : k = n := by omega
        have e : zs = ys := cmpK_all (by rw [hN.out, HN.out]) fun j hj => hsame j (by have := hN.out; omega)
        have HD := hid (show decide (zs = ys) = true by simp [e])
        clear e hlt
        go_wp2
        go_ret
        exact ⟨(by rw [HD.out]; rfl), hB⟩
  · have hne : zs ≠ ys := fun e => hl (by rw [e])
    have HD := hid (show decide (zs = ys) = false by simp [hne])
    clear hne
    have hl2 : ¬ ((zs.length : Int) = (ys.length : Int)) := by omega
    generalize decide (zs = ys) = d at *
    generalize zs.length = n at *
    generalize ys.length = m at *
    go_enter Try.func7, Try.ntmps7
    go_wp2
    go_ret
    exact ⟨(by rw [HD.out]; rfl), Below.refl _ _⟩
theorem leafT_inj (ks ls us vs : List Int) (h : ks.length = ls.length) : leafT ks us = leafT ls vs ↔ ks = ls ∧ us = vs := by
  unfold leafT
  constructor
  · intro e
    rw [List.cons.injEq] at e
    exact List.append_inj e.2 h
  · rintro ⟨rfl, rfl⟩; rfl
theorem cutZ_eq (a b : List Int) (n : Nat) (ha : a.length = 32) (hb : b.length = 32) (hn : n ≤ 32) : cutZ a n = cutZ b n ↔ a.take n = b.take n := by
  constructor
  · intro e; rw [← cutZ_take a ha n hn, ← cutZ_take b hb n hn, e]
  · intro e; unfold cutZ; rw [e]
theorem branchT_inj (n : Nat) (a b c d : List Int) (ha : a.length = 32) (hb : b.length = 32) (hc : c.length = 32) (hd : d.length = 32) (hn : n ≤ 32) : branchT n a b = branchT n c d ↔ cutZ a n = cutZ c n ∧ cutZ b n = cutZ d n := by
  rw [cutZ_eq a c n ha hc hn, cutZ_eq b d n hb hd hn]
  unfold branchT
  constructor
  · intro e
    rw [List.cons.injEq] at e
    exact List.append_inj e.2 (by simp; omega)
  · rintro ⟨h1, h2⟩; rw [h1, h2]
/-- A list that a call made, not empty. -/
theorem Own.pos {w : World} {base : Nat} {v : Value} {zs : List Int} (h : Own w base v zs) (hp : 0 < zs.length) : ∃ g cap, v = .slice (some ⟨g, 0, none⟩) zs.length cap ∧ w.cell? ⟨g, 0, none⟩ = some (.int .u8 (zs.getD 0 0)) ∧ Src w (some ⟨g, 0, none⟩) cap zs ∧ g < w.heap.size := by
  obtain ⟨h1, ⟨rfl, hn⟩ | ⟨g, cap, cur, rfl, hg, hh, hc, hm, hs, ht⟩⟩ := h
  · omega
  · have hS : Src w (some ⟨g, 0, none⟩) cap zs := by
      refine ⟨hc, hm, g, 0, fun _ => hlt hh, fun _ => rfl, fun j hj => ?_⟩
      rw [Nat.zero_add, cell_of_row _ _ _ _ _ _ hh]
      have hg2 := ints_get .u8 zs j hj
      rw [← ht, List.getElem?_take, if_pos (by omega)] at hg2
      simpa using hg2
    refine ⟨g, cap, rfl, ?_, hS, hlt hh⟩
    obtain ⟨_, _, b, o, _, h4, h5⟩ := hS
    have e := h4 hp
    simp only [Option.some.injEq, Addr.mk.injEq] at e
    obtain ⟨rfl, rfl, _⟩ := e
    exact h5 0 hp
set_option maxRecDepth 100000 in
set_option maxHeartbeats 400000 in
theorem lwithin_any (k lo hi : Int) (h : lo ≤ hi) (w : World) : Calls Try.prog 9 #[.int .i64 k, .int .i64 lo, .int .i64 hi] w fun e w' => e = .returned (.int .i64 (min (max k lo) hi)) ∧ w' = w := by
  by_cases a : k < lo
  · rw [show min (max k lo) hi = lo by omega]
    go_enter Try.func9, Try.ntmps9
    go_wp2
    go_ret
    exact ⟨rfl, rfl⟩
  · by_cases b : hi < k
    · rw [show min (max k lo) hi = hi by omega]
      go_enter Try.func9, Try.ntmps9
      go_wp2
      go_ret
      exact ⟨rfl, rfl⟩
    · rw [show min (max k lo) hi = k by omega]
      go_enter Try.func9, Try.ntmps9
      go_wp2
      go_ret
      exact ⟨rfl, rfl⟩
end Go.Proofs.Ytibpffoencjlcaa
