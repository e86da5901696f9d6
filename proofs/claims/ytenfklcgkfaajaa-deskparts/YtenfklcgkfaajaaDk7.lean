import Derived.Test.YtenfklcgkfaajaaDk6
namespace Go.Proofs.Ytenfklcgkfaajaa
set_option linter.unusedVariables false
set_option linter.unusedSimpArgs false
open Go.RowKit
attribute [local go_sem ↓] Go.wp_at_zero Go.wp_at_succ

theorem cut_to (w : World) (zs : List Int) (sp : Option Addr) (cap : Nat) (hS : Src w sp cap zs) (a n L : Nat) (x : Int) (hx : x = n) (hL : zs.length = L) (hl : a + n ≤ zs.length) (hlen : zs.length ≤ 140737488355000) :
    Calls Try.prog 33 #[.slice sp L cap, .int .i64 a, .int .i64 x] w fun e w' => ∃ v, e = .returned v ∧ Own w' w.heap.size v (cutL zs a n) ∧ Below w.heap.size w w' := by
  subst hx hL; exact cut_any w zs sp cap hS a n hl hlen
theorem high_to (w : World) (zs : List Int) (hy : Bys zs) (sp : Option Addr) (cap : Nat) (hS : Src w sp cap zs) (a n L : Nat) (hL : zs.length = L) (hn : n ≤ 8) (hl : a + n ≤ zs.length) :
    Calls Try.prog 34 #[.slice sp L cap, .int .i64 a, .int .i64 n] w fun e w' => e = .returned (.int .i64 (hiL zs a n)) ∧ w' = w := by
  subst hL; exact High_any w zs hy sp cap hS a n hn hl
/-- Asked midway: its answer x, the request y that is made. -/
structure AQ (w wc : World) (x y : Nat) (q : Rq) (kv hv bv : Value) : Prop where
  bel : Below w.heap.size w wc
  hx : w.heap.size ≤ x
  hy : w.heap.size ≤ y
  ne : x ≠ y
  ans : wc.heap[x]? = some (.cells (rqC 0 0 0 0 (.slice none 0 0) (.slice none 0 0) (.slice none 0 0)).toArray 36 (0, 0))
  row : wc.heap[y]? = some (.cells (rqC q.op q.ver q.oth q.lim kv hv bv).toArray 36 (0, 0))
  ok : Own wc w.heap.size kv q.key
  oh : Own wc w.heap.size hv q.high
  ob : Own wc w.heap.size bv q.batch
theorem AQ.call {w wc w1 : World} {x y : Nat} {q : Rq} {kv hv bv : Value} (h : AQ w wc x y q kv hv bv) (k : Below wc.heap.size wc w1) : AQ w w1 x y q kv hv bv :=
  ⟨h.bel.trans (k.mono h.bel.size), h.hx, h.hy, h.ne, hbel k h.ans (hlt h.ans), hbel k h.row (hlt h.row), h.ok.below k (Nat.le_refl _), h.oh.below k (Nat.le_refl _), h.ob.below k (Nat.le_refl _)⟩
theorem AQ.put {w wc w1 : World} {x y : Nat} {q : Rq} {kv hv bv : Value} (h : AQ w wc x y q kv hv bv) (q' : Rq) (kv' hv' bv' : Value) (row : w1.heap[y]? = some (.cells (rqC q'.op q'.ver q'.oth q'.lim kv' hv' bv').toArray 36 (0, 0))) (k : Keeps y wc w1)
    (o1 : Own wc w.heap.size kv' q'.key) (o2 : Own wc w.heap.size hv' q'.high) (o3 : Own wc w.heap.size bv' q'.batch) : AQ w w1 x y q' kv' hv' bv' :=
  ⟨h.bel.trans (k.below_g h.hy h.bel.size), h.hx, h.hy, h.ne, k.heap h.ans h.ne, row, own_far o1 h.row (by decide) k, own_far o2 h.row (by decide) k, own_far o3 h.row (by decide) k⟩
theorem AQ.out {w wc w1 : World} {x y : Nat} {q : Rq} {kv hv bv : Value} (h : AQ w wc x y q kv hv bv) (k : Keeps x wc w1) : RqOwn w1 w.heap.size (.agg (rqC q.op q.ver q.oth q.lim kv hv bv).toArray) q ∧ Below w.heap.size w w1 :=
  ⟨⟨kv, hv, bv, rfl, own_far h.ok h.ans (by decide) k, own_far h.oh h.ans (by decide) k, own_far h.ob h.ans (by decide) k⟩, h.bel.trans (k.below_g h.hx h.bel.size)⟩

set_option maxRecDepth 100000 in
set_option maxHeartbeats 4000000 in
theorem asked_e (w : World) (zs : List Int) (hy : Bys zs) (sp : Option Addr) (cap : Nat) (hS : Src w sp cap zs) (hl : zs.length ≤ 140737488351232) (h0 : zs.length = 0) :
    Calls Try.prog 10 #[.slice sp zs.length cap] w fun e w' => ∃ v, e = .returned (.tuple #[v, .int .i64 200]) ∧ RqOwn w' w.heap.size v rq0 ∧ Below w.heap.size w w' := by
  have hm := hS.2.1
  have hc := hS.1
  unfold maxLen at hm
  have i0 : (zs.length : Int) ≤ 140737488351232 := by omega
  have i1 : (zs.length : Int) ≤ (cap : Int) := by omega
  have i2 : (cap : Int) ≤ 9223372036854775807 := by omega
  obtain rfl := List.eq_nil_of_length_eq_zero h0
  clear h0 i0 i1
  simp only [List.length_nil]
  go_enter Try.func10, Try.ntmps10
  go_wp2
  exact bodyPost_ret (v := .tuple #[.agg (rqC 0 0 0 0 (.slice none 0 0) (.slice none 0 0) (.slice none 0 0)).toArray, .int .i64 200]) (by simp [results, Try.results10, go_sem, rqC]) rfl ⟨_, rfl, RqOwn.zero _ _, ((Below.refl _ _).alloc (Nat.le_refl _) _).alloc (by simp) _⟩

set_option maxRecDepth 100000 in
set_option maxHeartbeats 4000000 in
theorem asked_l (w : World) (zs : List Int) (hy : Bys zs) (sp : Option Addr) (cap : Nat) (hS : Src w sp cap zs) (hl : zs.length ≤ 140737488351232) (h0 : 12000 < zs.length) :
    Calls Try.prog 10 #[.slice sp zs.length cap] w fun e w' => ∃ v, e = .returned (.tuple #[v, .int .i64 200]) ∧ RqOwn w' w.heap.size v rq0 ∧ Below w.heap.size w w' := by
  have hm := hS.2.1
  have hc := hS.1
  unfold maxLen at hm
  have i0 : (zs.length : Int) ≤ 140737488351232 := by omega
  have i1 : (zs.length : Int) ≤ (cap : Int) := by omega
  have i2 : (cap : Int) ≤ 9223372036854775807 := by omega
  have i3 : (12000 : Int) < (zs.length : Int) := by omega
  have i4 : ((zs.length : Int) == 0) = false := beq_eq_false_iff_ne.2 (by omega)
  generalize zs.length = L at *
  go_enter Try.func10, Try.ntmps10
  go_wp2
  exact bodyPost_ret (v := .tuple #[.agg (rqC 0 0 0 0 (.slice none 0 0) (.slice none 0 0) (.slice none 0 0)).toArray, .int .i64 200]) (by simp [results, Try.results10, go_sem, rqC]) rfl ⟨_, rfl, RqOwn.zero _ _, ((Below.refl _ _).alloc (Nat.le_refl _) _).alloc (by simp) _⟩

set_option maxRecDepth 100000 in
set_option maxHeartbeats 4000000 in
theorem asked_k (w : World) (zs : List Int) (hy : Bys zs) (sp : Option Addr) (cap : Nat) (hS : Src w sp cap zs) (hl : zs.length ≤ 140737488351232) (h0 : 0 < zs.length) (h1 : zs.length ≤ 12000) (hp : prt (zs.getD 0 0) = -2) :
    Calls Try.prog 10 #[.slice sp zs.length cap] w fun e w' => ∃ v, e = .returned (.tuple #[v, .int .i64 200]) ∧ RqOwn w' w.heap.size v rq0 ∧ Below w.heap.size w w' := by
  have hm := hS.2.1
  have hc := hS.1
  unfold maxLen at hm
  have i0 : (zs.length : Int) ≤ 140737488351232 := by omega
  have i1 : (zs.length : Int) ≤ (cap : Int) := by omega
  have i2 : (cap : Int) ≤ 9223372036854775807 := by omega
  have i3 : ¬ (12000 : Int) < (zs.length : Int) := by omega
  have i4 : ((zs.length : Int) == 0) = false := beq_eq_false_iff_ne.2 (by omega)
  have i5 : (0 : Int) < (zs.length : Int) := by omega
  obtain ⟨b, o, hb, hsp, hsrc⟩ := hS.2.2
  obtain rfl := hsp (by omega)
  replace hb := hb (by omega)
  have c0 := hsrc 0 (by omega)
  rw [Nat.add_zero] at c0
  clear hsrc hsp
  have hz := hy.at 0 h0
  generalize zs.getD 0 0 = op at *
  have KP := hid (fun w => parts_any w op (by omega) (by omega))
  rw [hp] at KP
  clear hp
  generalize zs.length = L at *
  go_enter Try.func10, Try.ntmps10
  go_wp2_with (first | (go_at_call 30; refine (KP.out _).mono ?_; rintro e w' ⟨rfl, rfl⟩))
  exact bodyPost_ret (v := .tuple #[.agg (rqC 0 0 0 0 (.slice none 0 0) (.slice none 0 0) (.slice none 0 0)).toArray, .int .i64 200]) (by simp [results, Try.results10, go_sem, rqC]) rfl ⟨_, rfl, RqOwn.zero _ _, ((Below.refl _ _).alloc (Nat.le_refl _) _).alloc (by simp) _⟩

set_option maxRecDepth 100000 in
set_option maxHeartbeats 4000000 in
theorem asked_w (w : World) (zs : List Int) (hy : Bys zs) (sp : Option Addr) (cap : Nat) (hS : Src w sp cap zs) (hl : zs.length ≤ 140737488351232) (h0 : 0 < zs.length) (h1 : zs.length ≤ 12000) (hp : 0 ≤ prt (zs.getD 0 0)) (hp1 : prt (zs.getD 0 0) ≤ 1000) (hn : (zs.length : Int) ≠ prt (zs.getD 0 0) + 1) :
    Calls Try.prog 10 #[.slice sp zs.length cap] w fun e w' => ∃ v, e = .returned (.tuple #[v, .int .i64 200]) ∧ RqOwn w' w.heap.size v rq0 ∧ Below w.heap.size w w' := by
  have hm := hS.2.1
  have hc := hS.1
  unfold maxLen at hm
  have i0 : (zs.length : Int) ≤ 140737488351232 := by omega
  have i1 : (zs.length : Int) ≤ (cap : Int) := by omega
  have i2 : (cap : Int) ≤ 9223372036854775807 := by omega
  have i3 : ¬ (12000 : Int) < (zs.length : Int) := by omega
  have i4 : ((zs.length : Int) == 0) = false := beq_eq_false_iff_ne.2 (by omega)
  have i5 : (0 : Int) < (zs.length : Int) := by omega
  obtain ⟨b, o, hb, hsp, hsrc⟩ := hS.2.2
  obtain rfl := hsp (by omega)
  replace hb := hb (by omega)
  have c0 := hsrc 0 (by omega)
  rw [Nat.add_zero] at c0
  clear hsrc hsp
  have hz := hy.at 0 h0
  generalize zs.getD 0 0 = op at *
  have KP := hid (fun w => parts_any w op (by omega) (by omega))
  generalize prt op = pn at *
  have k1 : (pn == -2) = false := beq_eq_false_iff_ne.2 (by omega)
  have k2 : ((zs.length : Int) == pn + 1) = false := beq_eq_false_iff_ne.2 hn
  clear hn
  generalize zs.length = L at *
  go_enter Try.func10, Try.ntmps10
  go_wp2_with (first | (go_at_call 30; refine (KP.out _).mono ?_; rintro e w' ⟨rfl, rfl⟩))
  exact bodyPost_ret (v := .tuple #[.agg (rqC 0 0 0 0 (.slice none 0 0) (.slice none 0 0) (.slice none 0 0)).toArray, .int .i64 200]) (by simp [results, Try.results10, go_sem, rqC]) rfl ⟨_, rfl, RqOwn.zero _ _, ((Below.refl _ _).alloc (Nat.le_refl _) _).alloc (by simp) _⟩

set_option maxRecDepth 100000 in
set_option maxHeartbeats 4000000 in
theorem asked_1 (w : World) (zs : List Int) (hy : Bys zs) (sp : Option Addr) (cap : Nat) (hS : Src w sp cap zs) (hl : zs.length ≤ 140737488351232) (h0 : 0 < zs.length) (h1 : zs.length ≤ 12000) (hop : zs.getD 0 0 = 1) :
    Calls Try.prog 10 #[.slice sp zs.length cap] w fun e w' => ∃ v, e = .returned (.tuple #[v, .int .i64 0]) ∧ RqOwn w' w.heap.size v (⟨1, 0, 0, 0, [], [], cutL zs 1 (zs.length - 1)⟩ : Rq) ∧ Below w.heap.size w w' := by
  have hm := hS.2.1
  have hc := hS.1
  unfold maxLen at hm
  have i0 : (zs.length : Int) ≤ 140737488351232 := by omega
  have i1 : (zs.length : Int) ≤ (cap : Int) := by omega
  have i2 : (cap : Int) ≤ 9223372036854775807 := by omega
  have i3 : ¬ (12000 : Int) < (zs.length : Int) := by omega
  have i4 : ((zs.length : Int) == 0) = false := beq_eq_false_iff_ne.2 (by omega)
  have i5 : (0 : Int) < (zs.length : Int) := by omega
  obtain ⟨b, o, hb, hsp, hsrc⟩ := hS.2.2
  obtain rfl := hsp (by omega)
  replace hb := hb (by omega)
  have c0 := hsrc 0 (by omega)
  rw [Nat.add_zero] at c0
  clear hsrc hsp
  rw [hop] at c0
  have KP := hid (fun w => parts_any w 1 (by omega) (by omega))
  rw [show prt 1 = -1 from by decide] at KP
  generalize hL : zs.length = L at *
  have HL := hid hL
  clear hL hop
  go_enter Try.func10, Try.ntmps10
  go_wp2_with (first | (go_at_call 30; refine (KP.out _).mono ?_; rintro e w' ⟨rfl, rfl⟩) | (refine wpList_storeRowW rfl 36 _ _ rfl (w.heap.size + 2) (rqC 1 0 0 0 (.slice none 0 0) (.slice none 0 0) (.slice none 0 0)) rfl rfl 36 _ (heap3_new w (.cells (rqC 0 0 0 0 (.slice none 0 0) (.slice none 0 0) (.slice none 0 0)).toArray 36) (.cells (rqC 0 0 0 0 (.slice none 0 0) (.slice none 0 0) (.slice none 0 0)).toArray 36) (.cells (rqC 0 0 0 0 (.slice none 0 0) (.slice none 0 0) (.slice none 0 0)).toArray 36)) Try.sizeRq rfl (rqC_one rfl rfl rfl) ?_; intro w5 hrow5 hk5; refine Hid.out ?_))
  refine hid ?_
  have A5 : AQ w w5 w.heap.size (w.heap.size + 2) ⟨1, 0, 0, 0, [], [], []⟩ (.slice none 0 0) (.slice none 0 0) (.slice none 0 0) := by
    have hb5 := below3 w (.cells (rqC 0 0 0 0 (.slice none 0 0) (.slice none 0 0) (.slice none 0 0)).toArray 36) (.cells (rqC 0 0 0 0 (.slice none 0 0) (.slice none 0 0) (.slice none 0 0)).toArray 36) (.cells (rqC 0 0 0 0 (.slice none 0 0) (.slice none 0 0) (.slice none 0 0)).toArray 36)
    exact ⟨hb5.trans (hk5.below_g (by omega) (by simp; omega)), Nat.le_refl _, by omega, by omega, hk5.heap (heap3_old w _ _ _) (by omega), hrow5, Own.nil _ _, Own.nil _ _, Own.nil _ _⟩
  clear hrow5 hk5
  go_wp2_with fail
  refine (cut_to w5 zs _ cap (hS.below A5.bel (Nat.le_refl _)) 1 (L - 1) _ _ (by omega) HL.out (by rw [HL.out]; omega) (by rw [HL.out]; omega)).mono ?_
  rintro e w6 ⟨v6, rfl, ho6, hb6⟩
  have A6 := A5.call hb6
  replace ho6 := own_lower ho6 A5.bel.size
  go_wp2_with (first | (refine wpList_storeW rfl 22 _ _ rfl (w.heap.size + 2) 6 v6 rfl rfl _ 36 A6.row (by simp [rqC]) Try.sizeBy ho6.cells.1 ho6.cells.2 ?_; intro w7 hrow7 hk7; refine Hid.out ?_))
  refine hid ?_
  have A7 := A6.put ⟨1, 0, 0, 0, [], [], cutL zs 1 (L - 1)⟩ (.slice none 0 0) (.slice none 0 0) v6 hrow7 hk7 A6.ok A6.oh ho6
  clear hrow7 hk7
  go_wp2_with (first
    | (refine wpList_load_row rfl 36 _ rfl (w.heap.size + 2) rfl 36 _ (0, 0) _ A7.row Try.underlying36 rfl Try.sizeRq ?_)
    | (refine wpList_storeRowW rfl 36 _ _ rfl w.heap.size (rqC _ _ _ _ _ _ _) rfl rfl 36 _ A7.ans Try.sizeRq rfl (rqC_one A7.ok.cells.2 A7.oh.cells.2 A7.ob.cells.2) ?_; intro wz hrowz hkz))
  have AZ := A7.out hkz
  refine bodyPost_ret (results_c2 Try.results10 _ _ w.heap.size 36 _ (0, 0) _ rfl hrowz Try.underlying36 rfl Try.sizeRq) rfl ?_
  have e := HL.out
  subst e
  exact ⟨_, rfl, AZ.1, AZ.2⟩

set_option maxRecDepth 100000 in
set_option maxHeartbeats 4000000 in
theorem asked_2 (w : World) (zs : List Int) (hy : Bys zs) (sp : Option Addr) (cap : Nat) (hS : Src w sp cap zs) (hl : zs.length ≤ 140737488351232) (h0 : 0 < zs.length) (h1 : zs.length ≤ 12000) (hop : zs.getD 0 0 = 2) (hn : (zs.length : Int) = 41) :
    Calls Try.prog 10 #[.slice sp zs.length cap] w fun e w' => ∃ v, e = .returned (.tuple #[v, .int .i64 0]) ∧ RqOwn w' w.heap.size v (⟨2, hiL zs 33 8, 0, 0, cutL zs 1 32, [], []⟩ : Rq) ∧ Below w.heap.size w w' := by
  have hm := hS.2.1
  have hc := hS.1
  unfold maxLen at hm
  have i0 : (zs.length : Int) ≤ 140737488351232 := by omega
  have i1 : (zs.length : Int) ≤ (cap : Int) := by omega
  have i2 : (cap : Int) ≤ 9223372036854775807 := by omega
  have i3 : ¬ (12000 : Int) < (zs.length : Int) := by omega
  have i4 : ((zs.length : Int) == 0) = false := beq_eq_false_iff_ne.2 (by omega)
  have i5 : (0 : Int) < (zs.length : Int) := by omega
  obtain ⟨b, o, hb, hsp, hsrc⟩ := hS.2.2
  obtain rfl := hsp (by omega)
  replace hb := hb (by omega)
  have c0 := hsrc 0 (by omega)
  rw [Nat.add_zero] at c0
  clear hsrc hsp
  rw [hop] at c0
  have KP := hid (fun w => parts_any w 2 (by omega) (by omega))
  rw [show prt 2 = 40 from by decide] at KP
  obtain hL : zs.length = 41 := by omega
  have HL := hid hL
  rw [hL]
  clear hL hn i0 i1 i3 i4 i5 h0 h1 hc hop
  go_enter Try.func10, Try.ntmps10
  go_wp2_with (first | (go_at_call 30; refine (KP.out _).mono ?_; rintro e w' ⟨rfl, rfl⟩) | (refine wpList_storeRowW rfl 36 _ _ rfl (w.heap.size + 2) (rqC 2 0 0 0 (.slice none 0 0) (.slice none 0 0) (.slice none 0 0)) rfl rfl 36 _ (heap3_new w (.cells (rqC 0 0 0 0 (.slice none 0 0) (.slice none 0 0) (.slice none 0 0)).toArray 36) (.cells (rqC 0 0 0 0 (.slice none 0 0) (.slice none 0 0) (.slice none 0 0)).toArray 36) (.cells (rqC 0 0 0 0 (.slice none 0 0) (.slice none 0 0) (.slice none 0 0)).toArray 36)) Try.sizeRq rfl (rqC_one rfl rfl rfl) ?_; intro w5 hrow5 hk5; refine Hid.out ?_))
  refine hid ?_
  have A5 : AQ w w5 w.heap.size (w.heap.size + 2) ⟨2, 0, 0, 0, [], [], []⟩ (.slice none 0 0) (.slice none 0 0) (.slice none 0 0) := by
    have hb5 := below3 w (.cells (rqC 0 0 0 0 (.slice none 0 0) (.slice none 0 0) (.slice none 0 0)).toArray 36) (.cells (rqC 0 0 0 0 (.slice none 0 0) (.slice none 0 0) (.slice none 0 0)).toArray 36) (.cells (rqC 0 0 0 0 (.slice none 0 0) (.slice none 0 0) (.slice none 0 0)).toArray 36)
    exact ⟨hb5.trans (hk5.below_g (by omega) (by simp; omega)), Nat.le_refl _, by omega, by omega, hk5.heap (heap3_old w _ _ _) (by omega), hrow5, Own.nil _ _, Own.nil _ _, Own.nil _ _⟩
  clear hrow5 hk5
  go_wp2_with fail
  refine (cut_to w5 zs _ cap (hS.below A5.bel (Nat.le_refl _)) 1 32 _ _ (by rfl) HL.out (by rw [HL.out]; omega) (by rw [HL.out]; omega)).mono ?_
  rintro e w6 ⟨v6, rfl, ho6, hb6⟩
  have A6 := A5.call hb6
  replace ho6 := own_lower ho6 A5.bel.size
  go_wp2_with (first | (refine wpList_storeW rfl 22 _ _ rfl (w.heap.size + 2) 4 v6 rfl rfl _ 36 A6.row (by simp [rqC]) Try.sizeBy ho6.cells.1 ho6.cells.2 ?_; intro w7 hrow7 hk7; refine Hid.out ?_))
  refine hid ?_
  have A7 := A6.put ⟨2, 0, 0, 0, cutL zs 1 32, [], []⟩ v6 (.slice none 0 0) (.slice none 0 0) hrow7 hk7 ho6 A6.oh A6.ob
  clear hrow7 hk7
  go_wp2_with fail
  refine (high_to w7 zs hy _ cap (hS.below A7.bel (Nat.le_refl _)) 33 8 _ HL.out (by omega) (by rw [HL.out]; omega)).mono ?_
  rintro e w8 ⟨rfl, hw8⟩
  obtain rfl := hw8.symm
  go_wp2_with (first | (refine wpList_storeW rfl 3 _ _ rfl (w.heap.size + 2) 1 (.int .i64 (hiL zs 33 8)) rfl rfl _ 36 A7.row (by simp [rqC]) Try.sizeInt rfl rfl ?_; intro w9 hrow9 hk9; refine Hid.out ?_))
  refine hid ?_
  have A9 := A7.put ⟨2, hiL zs 33 8, 0, 0, cutL zs 1 32, [], []⟩ v6 (.slice none 0 0) (.slice none 0 0) hrow9 hk9 A7.ok A7.oh A7.ob
  clear hrow9 hk9
  go_wp2_with (first
    | (refine wpList_load_row rfl 36 _ rfl (w.heap.size + 2) rfl 36 _ (0, 0) _ A9.row Try.underlying36 rfl Try.sizeRq ?_)
    | (refine wpList_storeRowW rfl 36 _ _ rfl w.heap.size (rqC _ _ _ _ _ _ _) rfl rfl 36 _ A9.ans Try.sizeRq rfl (rqC_one A9.ok.cells.2 A9.oh.cells.2 A9.ob.cells.2) ?_; intro wz hrowz hkz))
  have AZ := A9.out hkz
  refine bodyPost_ret (results_c2 Try.results10 _ _ w.heap.size 36 _ (0, 0) _ rfl hrowz Try.underlying36 rfl Try.sizeRq) rfl ?_
  exact ⟨_, rfl, AZ.1, AZ.2⟩

set_option maxRecDepth 100000 in
set_option maxHeartbeats 4000000 in
theorem asked_3 (w : World) (zs : List Int) (hy : Bys zs) (sp : Option Addr) (cap : Nat) (hS : Src w sp cap zs) (hl : zs.length ≤ 140737488351232) (h0 : 0 < zs.length) (h1 : zs.length ≤ 12000) (hop : zs.getD 0 0 = 3) (hn : (zs.length : Int) = 9) :
    Calls Try.prog 10 #[.slice sp zs.length cap] w fun e w' => ∃ v, e = .returned (.tuple #[v, .int .i64 0]) ∧ RqOwn w' w.heap.size v (⟨3, hiL zs 1 8, 0, 0, [], [], []⟩ : Rq) ∧ Below w.heap.size w w' := by
  have hm := hS.2.1
  have hc := hS.1
  unfold maxLen at hm
  have i0 : (zs.length : Int) ≤ 140737488351232 := by omega
  have i1 : (zs.length : Int) ≤ (cap : Int) := by omega
  have i2 : (cap : Int) ≤ 9223372036854775807 := by omega
  have i3 : ¬ (12000 : Int) < (zs.length : Int) := by omega
  have i4 : ((zs.length : Int) == 0) = false := beq_eq_false_iff_ne.2 (by omega)
  have i5 : (0 : Int) < (zs.length : Int) := by omega
  obtain ⟨b, o, hb, hsp, hsrc⟩ := hS.2.2
  obtain rfl := hsp (by omega)
  replace hb := hb (by omega)
  have c0 := hsrc 0 (by omega)
  rw [Nat.add_zero] at c0
  clear hsrc hsp
  rw [hop] at c0
  have KP := hid (fun w => parts_any w 3 (by omega) (by omega))
  rw [show prt 3 = 8 from by decide] at KP
  obtain hL : zs.length = 9 := by omega
  have HL := hid hL
  rw [hL]
  clear hL hn i0 i1 i3 i4 i5 h0 h1 hc hop
  go_enter Try.func10, Try.ntmps10
  go_wp2_with (first | (go_at_call 30; refine (KP.out _).mono ?_; rintro e w' ⟨rfl, rfl⟩) | (refine wpList_storeRowW rfl 36 _ _ rfl (w.heap.size + 2) (rqC 3 0 0 0 (.slice none 0 0) (.slice none 0 0) (.slice none 0 0)) rfl rfl 36 _ (heap3_new w (.cells (rqC 0 0 0 0 (.slice none 0 0) (.slice none 0 0) (.slice none 0 0)).toArray 36) (.cells (rqC 0 0 0 0 (.slice none 0 0) (.slice none 0 0) (.slice none 0 0)).toArray 36) (.cells (rqC 0 0 0 0 (.slice none 0 0) (.slice none 0 0) (.slice none 0 0)).toArray 36)) Try.sizeRq rfl (rqC_one rfl rfl rfl) ?_; intro w5 hrow5 hk5; refine Hid.out ?_))
  refine hid ?_
  have A5 : AQ w w5 w.heap.size (w.heap.size + 2) ⟨3, 0, 0, 0, [], [], []⟩ (.slice none 0 0) (.slice none 0 0) (.slice none 0 0) := by
    have hb5 := below3 w (.cells (rqC 0 0 0 0 (.slice none 0 0) (.slice none 0 0) (.slice none 0 0)).toArray 36) (.cells (rqC 0 0 0 0 (.slice none 0 0) (.slice none 0 0) (.slice none 0 0)).toArray 36) (.cells (rqC 0 0 0 0 (.slice none 0 0) (.slice none 0 0) (.slice none 0 0)).toArray 36)
    exact ⟨hb5.trans (hk5.below_g (by omega) (by simp; omega)), Nat.le_refl _, by omega, by omega, hk5.heap (heap3_old w _ _ _) (by omega), hrow5, Own.nil _ _, Own.nil _ _, Own.nil _ _⟩
  clear hrow5 hk5
  go_wp2_with fail
  refine (high_to w5 zs hy _ cap (hS.below A5.bel (Nat.le_refl _)) 1 8 _ HL.out (by omega) (by rw [HL.out]; omega)).mono ?_
  rintro e w6 ⟨rfl, hw6⟩
  obtain rfl := hw6.symm
  go_wp2_with (first | (refine wpList_storeW rfl 3 _ _ rfl (w.heap.size + 2) 1 (.int .i64 (hiL zs 1 8)) rfl rfl _ 36 A5.row (by simp [rqC]) Try.sizeInt rfl rfl ?_; intro w7 hrow7 hk7; refine Hid.out ?_))
  refine hid ?_
  have A7 := A5.put ⟨3, hiL zs 1 8, 0, 0, [], [], []⟩ (.slice none 0 0) (.slice none 0 0) (.slice none 0 0) hrow7 hk7 A5.ok A5.oh A5.ob
  clear hrow7 hk7
  go_wp2_with (first
    | (refine wpList_load_row rfl 36 _ rfl (w.heap.size + 2) rfl 36 _ (0, 0) _ A7.row Try.underlying36 rfl Try.sizeRq ?_)
    | (refine wpList_storeRowW rfl 36 _ _ rfl w.heap.size (rqC _ _ _ _ _ _ _) rfl rfl 36 _ A7.ans Try.sizeRq rfl (rqC_one A7.ok.cells.2 A7.oh.cells.2 A7.ob.cells.2) ?_; intro wz hrowz hkz))
  have AZ := A7.out hkz
  refine bodyPost_ret (results_c2 Try.results10 _ _ w.heap.size 36 _ (0, 0) _ rfl hrowz Try.underlying36 rfl Try.sizeRq) rfl ?_
  exact ⟨_, rfl, AZ.1, AZ.2⟩

set_option maxRecDepth 100000 in
set_option maxHeartbeats 4000000 in
theorem asked_4 (w : World) (zs : List Int) (hy : Bys zs) (sp : Option Addr) (cap : Nat) (hS : Src w sp cap zs) (hl : zs.length ≤ 140737488351232) (h0 : 0 < zs.length) (h1 : zs.length ≤ 12000) (hop : zs.getD 0 0 = 4) (hn : (zs.length : Int) = 41) :
    Calls Try.prog 10 #[.slice sp zs.length cap] w fun e w' => ∃ v, e = .returned (.tuple #[v, .int .i64 0]) ∧ RqOwn w' w.heap.size v (⟨4, hiL zs 33 8, 0, 0, cutL zs 1 32, [], []⟩ : Rq) ∧ Below w.heap.size w w' := by
  have hm := hS.2.1
  have hc := hS.1
  unfold maxLen at hm
  have i0 : (zs.length : Int) ≤ 140737488351232 := by omega
  have i1 : (zs.length : Int) ≤ (cap : Int) := by omega
  have i2 : (cap : Int) ≤ 9223372036854775807 := by omega
  have i3 : ¬ (12000 : Int) < (zs.length : Int) := by omega
  have i4 : ((zs.length : Int) == 0) = false := beq_eq_false_iff_ne.2 (by omega)
  have i5 : (0 : Int) < (zs.length : Int) := by omega
  obtain ⟨b, o, hb, hsp, hsrc⟩ := hS.2.2
  obtain rfl := hsp (by omega)
  replace hb := hb (by omega)
  have c0 := hsrc 0 (by omega)
  rw [Nat.add_zero] at c0
  clear hsrc hsp
  rw [hop] at c0
  have KP := hid (fun w => parts_any w 4 (by omega) (by omega))
  rw [show prt 4 = 40 from by decide] at KP
  obtain hL : zs.length = 41 := by omega
  have HL := hid hL
  rw [hL]
  clear hL hn i0 i1 i3 i4 i5 h0 h1 hc hop
  go_enter Try.func10, Try.ntmps10
  go_wp2_with (first | (go_at_call 30; refine (KP.out _).mono ?_; rintro e w' ⟨rfl, rfl⟩) | (refine wpList_storeRowW rfl 36 _ _ rfl (w.heap.size + 2) (rqC 4 0 0 0 (.slice none 0 0) (.slice none 0 0) (.slice none 0 0)) rfl rfl 36 _ (heap3_new w (.cells (rqC 0 0 0 0 (.slice none 0 0) (.slice none 0 0) (.slice none 0 0)).toArray 36) (.cells (rqC 0 0 0 0 (.slice none 0 0) (.slice none 0 0) (.slice none 0 0)).toArray 36) (.cells (rqC 0 0 0 0 (.slice none 0 0) (.slice none 0 0) (.slice none 0 0)).toArray 36)) Try.sizeRq rfl (rqC_one rfl rfl rfl) ?_; intro w5 hrow5 hk5; refine Hid.out ?_))
  refine hid ?_
  have A5 : AQ w w5 w.heap.size (w.heap.size + 2) ⟨4, 0, 0, 0, [], [], []⟩ (.slice none 0 0) (.slice none 0 0) (.slice none 0 0) := by
    have hb5 := below3 w (.cells (rqC 0 0 0 0 (.slice none 0 0) (.slice none 0 0) (.slice none 0 0)).toArray 36) (.cells (rqC 0 0 0 0 (.slice none 0 0) (.slice none 0 0) (.slice none 0 0)).toArray 36) (.cells (rqC 0 0 0 0 (.slice none 0 0) (.slice none 0 0) (.slice none 0 0)).toArray 36)
    exact ⟨hb5.trans (hk5.below_g (by omega) (by simp; omega)), Nat.le_refl _, by omega, by omega, hk5.heap (heap3_old w _ _ _) (by omega), hrow5, Own.nil _ _, Own.nil _ _, Own.nil _ _⟩
  clear hrow5 hk5
  go_wp2_with fail
  refine (cut_to w5 zs _ cap (hS.below A5.bel (Nat.le_refl _)) 1 32 _ _ (by rfl) HL.out (by rw [HL.out]; omega) (by rw [HL.out]; omega)).mono ?_
  rintro e w6 ⟨v6, rfl, ho6, hb6⟩
  have A6 := A5.call hb6
  replace ho6 := own_lower ho6 A5.bel.size
  go_wp2_with (first | (refine wpList_storeW rfl 22 _ _ rfl (w.heap.size + 2) 4 v6 rfl rfl _ 36 A6.row (by simp [rqC]) Try.sizeBy ho6.cells.1 ho6.cells.2 ?_; intro w7 hrow7 hk7; refine Hid.out ?_))
  refine hid ?_
  have A7 := A6.put ⟨4, 0, 0, 0, cutL zs 1 32, [], []⟩ v6 (.slice none 0 0) (.slice none 0 0) hrow7 hk7 ho6 A6.oh A6.ob
  clear hrow7 hk7
  go_wp2_with fail
  refine (high_to w7 zs hy _ cap (hS.below A7.bel (Nat.le_refl _)) 33 8 _ HL.out (by omega) (by rw [HL.out]; omega)).mono ?_
  rintro e w8 ⟨rfl, hw8⟩
  obtain rfl := hw8.symm
  go_wp2_with (first | (refine wpList_storeW rfl 3 _ _ rfl (w.heap.size + 2) 1 (.int .i64 (hiL zs 33 8)) rfl rfl _ 36 A7.row (by simp [rqC]) Try.sizeInt rfl rfl ?_; intro w9 hrow9 hk9; refine Hid.out ?_))
  refine hid ?_
  have A9 := A7.put ⟨4, hiL zs 33 8, 0, 0, cutL zs 1 32, [], []⟩ v6 (.slice none 0 0) (.slice none 0 0) hrow9 hk9 A7.ok A7.oh A7.ob
  clear hrow9 hk9
  go_wp2_with (first
    | (refine wpList_load_row rfl 36 _ rfl (w.heap.size + 2) rfl 36 _ (0, 0) _ A9.row Try.underlying36 rfl Try.sizeRq ?_)
    | (refine wpList_storeRowW rfl 36 _ _ rfl w.heap.size (rqC _ _ _ _ _ _ _) rfl rfl 36 _ A9.ans Try.sizeRq rfl (rqC_one A9.ok.cells.2 A9.oh.cells.2 A9.ob.cells.2) ?_; intro wz hrowz hkz))
  have AZ := A9.out hkz
  refine bodyPost_ret (results_c2 Try.results10 _ _ w.heap.size 36 _ (0, 0) _ rfl hrowz Try.underlying36 rfl Try.sizeRq) rfl ?_
  exact ⟨_, rfl, AZ.1, AZ.2⟩

set_option maxRecDepth 100000 in
set_option maxHeartbeats 4000000 in
theorem asked_5 (w : World) (zs : List Int) (hy : Bys zs) (sp : Option Addr) (cap : Nat) (hS : Src w sp cap zs) (hl : zs.length ≤ 140737488351232) (h0 : 0 < zs.length) (h1 : zs.length ≤ 12000) (hop : zs.getD 0 0 = 5) (hn : (zs.length : Int) = 73) :
    Calls Try.prog 10 #[.slice sp zs.length cap] w fun e w' => ∃ v, e = .returned (.tuple #[v, .int .i64 0]) ∧ RqOwn w' w.heap.size v (⟨5, hiL zs 65 8, 0, 0, cutL zs 1 32, cutL zs 33 32, []⟩ : Rq) ∧ Below w.heap.size w w' := by
  have hm := hS.2.1
  have hc := hS.1
  unfold maxLen at hm
  have i0 : (zs.length : Int) ≤ 140737488351232 := by omega
  have i1 : (zs.length : Int) ≤ (cap : Int) := by omega
  have i2 : (cap : Int) ≤ 9223372036854775807 := by omega
  have i3 : ¬ (12000 : Int) < (zs.length : Int) := by omega
  have i4 : ((zs.length : Int) == 0) = false := beq_eq_false_iff_ne.2 (by omega)
  have i5 : (0 : Int) < (zs.length : Int) := by omega
  obtain ⟨b, o, hb, hsp, hsrc⟩ := hS.2.2
  obtain rfl := hsp (by omega)
  replace hb := hb (by omega)
  have c0 := hsrc 0 (by omega)
  rw [Nat.add_zero] at c0
  clear hsrc hsp
  rw [hop] at c0
  have KP := hid (fun w => parts_any w 5 (by omega) (by omega))
  rw [show prt 5 = 72 from by decide] at KP
  obtain hL : zs.length = 73 := by omega
  have HL := hid hL
  rw [hL]
  clear hL hn i0 i1 i3 i4 i5 h0 h1 hc hop
  go_enter Try.func10, Try.ntmps10
  go_wp2_with (first | (go_at_call 30; refine (KP.out _).mono ?_; rintro e w' ⟨rfl, rfl⟩) | (refine wpList_storeRowW rfl 36 _ _ rfl (w.heap.size + 2) (rqC 5 0 0 0 (.slice none 0 0) (.slice none 0 0) (.slice none 0 0)) rfl rfl 36 _ (heap3_new w (.cells (rqC 0 0 0 0 (.slice none 0 0) (.slice none 0 0) (.slice none 0 0)).toArray 36) (.cells (rqC 0 0 0 0 (.slice none 0 0) (.slice none 0 0) (.slice none 0 0)).toArray 36) (.cells (rqC 0 0 0 0 (.slice none 0 0) (.slice none 0 0) (.slice none 0 0)).toArray 36)) Try.sizeRq rfl (rqC_one rfl rfl rfl) ?_; intro w5 hrow5 hk5; refine Hid.out ?_))
  refine hid ?_
  have A5 : AQ w w5 w.heap.size (w.heap.size + 2) ⟨5, 0, 0, 0, [], [], []⟩ (.slice none 0 0) (.slice none 0 0) (.slice none 0 0) := by
    have hb5 := below3 w (.cells (rqC 0 0 0 0 (.slice none 0 0) (.slice none 0 0) (.slice none 0 0)).toArray 36) (.cells (rqC 0 0 0 0 (.slice none 0 0) (.slice none 0 0) (.slice none 0 0)).toArray 36) (.cells (rqC 0 0 0 0 (.slice none 0 0) (.slice none 0 0) (.slice none 0 0)).toArray 36)
    exact ⟨hb5.trans (hk5.below_g (by omega) (by simp; omega)), Nat.le_refl _, by omega, by omega, hk5.heap (heap3_old w _ _ _) (by omega), hrow5, Own.nil _ _, Own.nil _ _, Own.nil _ _⟩
  clear hrow5 hk5
  go_wp2_with fail
  refine (cut_to w5 zs _ cap (hS.below A5.bel (Nat.le_refl _)) 1 32 _ _ (by rfl) HL.out (by rw [HL.out]; omega) (by rw [HL.out]; omega)).mono ?_
  rintro e w6 ⟨v6, rfl, ho6, hb6⟩
  have A6 := A5.call hb6
  replace ho6 := own_lower ho6 A5.bel.size
  go_wp2_with (first | (refine wpList_storeW rfl 22 _ _ rfl (w.heap.size + 2) 4 v6 rfl rfl _ 36 A6.row (by simp [rqC]) Try.sizeBy ho6.cells.1 ho6.cells.2 ?_; intro w7 hrow7 hk7; refine Hid.out ?_))
  refine hid ?_
  have A7 := A6.put ⟨5, 0, 0, 0, cutL zs 1 32, [], []⟩ v6 (.slice none 0 0) (.slice none 0 0) hrow7 hk7 ho6 A6.oh A6.ob
  clear hrow7 hk7
  go_wp2_with fail
  refine (cut_to w7 zs _ cap (hS.below A7.bel (Nat.le_refl _)) 33 32 _ _ (by rfl) HL.out (by rw [HL.out]; omega) (by rw [HL.out]; omega)).mono ?_
  rintro e w8 ⟨v8, rfl, ho8, hb8⟩
  have A8 := A7.call hb8
  replace ho8 := own_lower ho8 A7.bel.size
  go_wp2_with (first | (refine wpList_storeW rfl 22 _ _ rfl (w.heap.size + 2) 5 v8 rfl rfl _ 36 A8.row (by simp [rqC]) Try.sizeBy ho8.cells.1 ho8.cells.2 ?_; intro w9 hrow9 hk9; refine Hid.out ?_))
  refine hid ?_
  have A9 := A8.put ⟨5, 0, 0, 0, cutL zs 1 32, cutL zs 33 32, []⟩ v6 v8 (.slice none 0 0) hrow9 hk9 A8.ok ho8 A8.ob
  clear hrow9 hk9
  go_wp2_with fail
  refine (high_to w9 zs hy _ cap (hS.below A9.bel (Nat.le_refl _)) 65 8 _ HL.out (by omega) (by rw [HL.out]; omega)).mono ?_
  rintro e w10 ⟨rfl, hw10⟩
  obtain rfl := hw10.symm
  go_wp2_with (first | (refine wpList_storeW rfl 3 _ _ rfl (w.heap.size + 2) 1 (.int .i64 (hiL zs 65 8)) rfl rfl _ 36 A9.row (by simp [rqC]) Try.sizeInt rfl rfl ?_; intro w11 hrow11 hk11; refine Hid.out ?_))
  refine hid ?_
  have A11 := A9.put ⟨5, hiL zs 65 8, 0, 0, cutL zs 1 32, cutL zs 33 32, []⟩ v6 v8 (.slice none 0 0) hrow11 hk11 A9.ok A9.oh A9.ob
  clear hrow11 hk11
  go_wp2_with (first
    | (refine wpList_load_row rfl 36 _ rfl (w.heap.size + 2) rfl 36 _ (0, 0) _ A11.row Try.underlying36 rfl Try.sizeRq ?_)
    | (refine wpList_storeRowW rfl 36 _ _ rfl w.heap.size (rqC _ _ _ _ _ _ _) rfl rfl 36 _ A11.ans Try.sizeRq rfl (rqC_one A11.ok.cells.2 A11.oh.cells.2 A11.ob.cells.2) ?_; intro wz hrowz hkz))
  have AZ := A11.out hkz
  refine bodyPost_ret (results_c2 Try.results10 _ _ w.heap.size 36 _ (0, 0) _ rfl hrowz Try.underlying36 rfl Try.sizeRq) rfl ?_
  exact ⟨_, rfl, AZ.1, AZ.2⟩

set_option maxRecDepth 100000 in
set_option maxHeartbeats 4000000 in
theorem asked_6 (w : World) (zs : List Int) (hy : Bys zs) (sp : Option Addr) (cap : Nat) (hS : Src w sp cap zs) (hl : zs.length ≤ 140737488351232) (h0 : 0 < zs.length) (h1 : zs.length ≤ 12000) (hop : zs.getD 0 0 = 6) (hn : (zs.length : Int) = 77) :
    Calls Try.prog 10 #[.slice sp zs.length cap] w fun e w' => ∃ v, e = .returned (.tuple #[v, .int .i64 0]) ∧ RqOwn w' w.heap.size v (⟨6, hiL zs 65 8, 0, hiL zs 73 4, cutL zs 1 32, cutL zs 33 32, []⟩ : Rq) ∧ Below w.heap.size w w' := by
  have hm := hS.2.1
  have hc := hS.1
  unfold maxLen at hm
  have i0 : (zs.length : Int) ≤ 140737488351232 := by omega
  have i1 : (zs.length : Int) ≤ (cap : Int) := by omega
  have i2 : (cap : Int) ≤ 9223372036854775807 := by omega
  have i3 : ¬ (12000 : Int) < (zs.length : Int) := by omega
  have i4 : ((zs.length : Int) == 0) = false := beq_eq_false_iff_ne.2 (by omega)
  have i5 : (0 : Int) < (zs.length : Int) := by omega
  obtain ⟨b, o, hb, hsp, hsrc⟩ := hS.2.2
  obtain rfl := hsp (by omega)
  replace hb := hb (by omega)
  have c0 := hsrc 0 (by omega)
  rw [Nat.add_zero] at c0
  clear hsrc hsp
  rw [hop] at c0
  have KP := hid (fun w => parts_any w 6 (by omega) (by omega))
  rw [show prt 6 = 76 from by decide] at KP
  obtain hL : zs.length = 77 := by omega
  have HL := hid hL
  rw [hL]
  clear hL hn i0 i1 i3 i4 i5 h0 h1 hc hop
  go_enter Try.func10, Try.ntmps10
  go_wp2_with (first | (go_at_call 30; refine (KP.out _).mono ?_; rintro e w' ⟨rfl, rfl⟩) | (refine wpList_storeRowW rfl 36 _ _ rfl (w.heap.size + 2) (rqC 6 0 0 0 (.slice none 0 0) (.slice none 0 0) (.slice none 0 0)) rfl rfl 36 _ (heap3_new w (.cells (rqC 0 0 0 0 (.slice none 0 0) (.slice none 0 0) (.slice none 0 0)).toArray 36) (.cells (rqC 0 0 0 0 (.slice none 0 0) (.slice none 0 0) (.slice none 0 0)).toArray 36) (.cells (rqC 0 0 0 0 (.slice none 0 0) (.slice none 0 0) (.slice none 0 0)).toArray 36)) Try.sizeRq rfl (rqC_one rfl rfl rfl) ?_; intro w5 hrow5 hk5; refine Hid.out ?_))
  refine hid ?_
  have A5 : AQ w w5 w.heap.size (w.heap.size + 2) ⟨6, 0, 0, 0, [], [], []⟩ (.slice none 0 0) (.slice none 0 0) (.slice none 0 0) := by
    have hb5 := below3 w (.cells (rqC 0 0 0 0 (.slice none 0 0) (.slice none 0 0) (.slice none 0 0)).toArray 36) (.cells (rqC 0 0 0 0 (.slice none 0 0) (.slice none 0 0) (.slice none 0 0)).toArray 36) (.cells (rqC 0 0 0 0 (.slice none 0 0) (.slice none 0 0) (.slice none 0 0)).toArray 36)
    exact ⟨hb5.trans (hk5.below_g (by omega) (by simp; omega)), Nat.le_refl _, by omega, by omega, hk5.heap (heap3_old w _ _ _) (by omega), hrow5, Own.nil _ _, Own.nil _ _, Own.nil _ _⟩
  clear hrow5 hk5
  go_wp2_with fail
  refine (cut_to w5 zs _ cap (hS.below A5.bel (Nat.le_refl _)) 1 32 _ _ (by rfl) HL.out (by rw [HL.out]; omega) (by rw [HL.out]; omega)).mono ?_
  rintro e w6 ⟨v6, rfl, ho6, hb6⟩
  have A6 := A5.call hb6
  replace ho6 := own_lower ho6 A5.bel.size
  go_wp2_with (first | (refine wpList_storeW rfl 22 _ _ rfl (w.heap.size + 2) 4 v6 rfl rfl _ 36 A6.row (by simp [rqC]) Try.sizeBy ho6.cells.1 ho6.cells.2 ?_; intro w7 hrow7 hk7; refine Hid.out ?_))
  refine hid ?_
  have A7 := A6.put ⟨6, 0, 0, 0, cutL zs 1 32, [], []⟩ v6 (.slice none 0 0) (.slice none 0 0) hrow7 hk7 ho6 A6.oh A6.ob
  clear hrow7 hk7
  go_wp2_with fail
  refine (cut_to w7 zs _ cap (hS.below A7.bel (Nat.le_refl _)) 33 32 _ _ (by rfl) HL.out (by rw [HL.out]; omega) (by rw [HL.out]; omega)).mono ?_
  rintro e w8 ⟨v8, rfl, ho8, hb8⟩
  have A8 := A7.call hb8
  replace ho8 := own_lower ho8 A7.bel.size
  go_wp2_with (first | (refine wpList_storeW rfl 22 _ _ rfl (w.heap.size + 2) 5 v8 rfl rfl _ 36 A8.row (by simp [rqC]) Try.sizeBy ho8.cells.1 ho8.cells.2 ?_; intro w9 hrow9 hk9; refine Hid.out ?_))
  refine hid ?_
  have A9 := A8.put ⟨6, 0, 0, 0, cutL zs 1 32, cutL zs 33 32, []⟩ v6 v8 (.slice none 0 0) hrow9 hk9 A8.ok ho8 A8.ob
  clear hrow9 hk9
  go_wp2_with fail
  refine (high_to w9 zs hy _ cap (hS.below A9.bel (Nat.le_refl _)) 65 8 _ HL.out (by omega) (by rw [HL.out]; omega)).mono ?_
  rintro e w10 ⟨rfl, hw10⟩
  obtain rfl := hw10.symm
  go_wp2_with (first | (refine wpList_storeW rfl 3 _ _ rfl (w.heap.size + 2) 1 (.int .i64 (hiL zs 65 8)) rfl rfl _ 36 A9.row (by simp [rqC]) Try.sizeInt rfl rfl ?_; intro w11 hrow11 hk11; refine Hid.out ?_))
  refine hid ?_
  have A11 := A9.put ⟨6, hiL zs 65 8, 0, 0, cutL zs 1 32, cutL zs 33 32, []⟩ v6 v8 (.slice none 0 0) hrow11 hk11 A9.ok A9.oh A9.ob
  clear hrow11 hk11
  go_wp2_with fail
  refine (high_to w11 zs hy _ cap (hS.below A11.bel (Nat.le_refl _)) 73 4 _ HL.out (by omega) (by rw [HL.out]; omega)).mono ?_
  rintro e w12 ⟨rfl, hw12⟩
  obtain rfl := hw12.symm
  go_wp2_with (first | (refine wpList_storeW rfl 3 _ _ rfl (w.heap.size + 2) 3 (.int .i64 (hiL zs 73 4)) rfl rfl _ 36 A11.row (by simp [rqC]) Try.sizeInt rfl rfl ?_; intro w13 hrow13 hk13; refine Hid.out ?_))
  refine hid ?_
  have A13 := A11.put ⟨6, hiL zs 65 8, 0, hiL zs 73 4, cutL zs 1 32, cutL zs 33 32, []⟩ v6 v8 (.slice none 0 0) hrow13 hk13 A11.ok A11.oh A11.ob
  clear hrow13 hk13
  go_wp2_with (first
    | (refine wpList_load_row rfl 36 _ rfl (w.heap.size + 2) rfl 36 _ (0, 0) _ A13.row Try.underlying36 rfl Try.sizeRq ?_)
    | (refine wpList_storeRowW rfl 36 _ _ rfl w.heap.size (rqC _ _ _ _ _ _ _) rfl rfl 36 _ A13.ans Try.sizeRq rfl (rqC_one A13.ok.cells.2 A13.oh.cells.2 A13.ob.cells.2) ?_; intro wz hrowz hkz))
  have AZ := A13.out hkz
  refine bodyPost_ret (results_c2 Try.results10 _ _ w.heap.size 36 _ (0, 0) _ rfl hrowz Try.underlying36 rfl Try.sizeRq) rfl ?_
  exact ⟨_, rfl, AZ.1, AZ.2⟩

set_option maxRecDepth 100000 in
set_option maxHeartbeats 4000000 in
theorem asked_7 (w : World) (zs : List Int) (hy : Bys zs) (sp : Option Addr) (cap : Nat) (hS : Src w sp cap zs) (hl : zs.length ≤ 140737488351232) (h0 : 0 < zs.length) (h1 : zs.length ≤ 12000) (hop : zs.getD 0 0 = 7) (hn : (zs.length : Int) = 17) :
    Calls Try.prog 10 #[.slice sp zs.length cap] w fun e w' => ∃ v, e = .returned (.tuple #[v, .int .i64 0]) ∧ RqOwn w' w.heap.size v (⟨7, hiL zs 1 8, hiL zs 9 8, 0, [], [], []⟩ : Rq) ∧ Below w.heap.size w w' := by
  have hm := hS.2.1
  have hc := hS.1
  unfold maxLen at hm
  have i0 : (zs.length : Int) ≤ 140737488351232 := by omega
  have i1 : (zs.length : Int) ≤ (cap : Int) := by omega
  have i2 : (cap : Int) ≤ 9223372036854775807 := by omega
  have i3 : ¬ (12000 : Int) < (zs.length : Int) := by omega
  have i4 : ((zs.length : Int) == 0) = false := beq_eq_false_iff_ne.2 (by omega)
  have i5 : (0 : Int) < (zs.length : Int) := by omega
  obtain ⟨b, o, hb, hsp, hsrc⟩ := hS.2.2
  obtain rfl := hsp (by omega)
  replace hb := hb (by omega)
  have c0 := hsrc 0 (by omega)
  rw [Nat.add_zero] at c0
  clear hsrc hsp
  rw [hop] at c0
  have KP := hid (fun w => parts_any w 7 (by omega) (by omega))
  rw [show prt 7 = 16 from by decide] at KP
  obtain hL : zs.length = 17 := by omega
  have HL := hid hL
  rw [hL]
  clear hL hn i0 i1 i3 i4 i5 h0 h1 hc hop
  go_enter Try.func10, Try.ntmps10
  go_wp2_with (first | (go_at_call 30; refine (KP.out _).mono ?_; rintro e w' ⟨rfl, rfl⟩) | (refine wpList_storeRowW rfl 36 _ _ rfl (w.heap.size + 2) (rqC 7 0 0 0 (.slice none 0 0) (.slice none 0 0) (.slice none 0 0)) rfl rfl 36 _ (heap3_new w (.cells (rqC 0 0 0 0 (.slice none 0 0) (.slice none 0 0) (.slice none 0 0)).toArray 36) (.cells (rqC 0 0 0 0 (.slice none 0 0) (.slice none 0 0) (.slice none 0 0)).toArray 36) (.cells (rqC 0 0 0 0 (.slice none 0 0) (.slice none 0 0) (.slice none 0 0)).toArray 36)) Try.sizeRq rfl (rqC_one rfl rfl rfl) ?_; intro w5 hrow5 hk5; refine Hid.out ?_))
  refine hid ?_
  have A5 : AQ w w5 w.heap.size (w.heap.size + 2) ⟨7, 0, 0, 0, [], [], []⟩ (.slice none 0 0) (.slice none 0 0) (.slice none 0 0) := by
    have hb5 := below3 w (.cells (rqC 0 0 0 0 (.slice none 0 0) (.slice none 0 0) (.slice none 0 0)).toArray 36) (.cells (rqC 0 0 0 0 (.slice none 0 0) (.slice none 0 0) (.slice none 0 0)).toArray 36) (.cells (rqC 0 0 0 0 (.slice none 0 0) (.slice none 0 0) (.slice none 0 0)).toArray 36)
    exact ⟨hb5.trans (hk5.below_g (by omega) (by simp; omega)), Nat.le_refl _, by omega, by omega, hk5.heap (heap3_old w _ _ _) (by omega), hrow5, Own.nil _ _, Own.nil _ _, Own.nil _ _⟩
  clear hrow5 hk5
  go_wp2_with fail
  refine (high_to w5 zs hy _ cap (hS.below A5.bel (Nat.le_refl _)) 1 8 _ HL.out (by omega) (by rw [HL.out]; omega)).mono ?_
  rintro e w6 ⟨rfl, hw6⟩
  obtain rfl := hw6.symm
  go_wp2_with (first | (refine wpList_storeW rfl 3 _ _ rfl (w.heap.size + 2) 1 (.int .i64 (hiL zs 1 8)) rfl rfl _ 36 A5.row (by simp [rqC]) Try.sizeInt rfl rfl ?_; intro w7 hrow7 hk7; refine Hid.out ?_))
  refine hid ?_
  have A7 := A5.put ⟨7, hiL zs 1 8, 0, 0, [], [], []⟩ (.slice none 0 0) (.slice none 0 0) (.slice none 0 0) hrow7 hk7 A5.ok A5.oh A5.ob
  clear hrow7 hk7
  go_wp2_with fail
  refine (high_to w7 zs hy _ cap (hS.below A7.bel (Nat.le_refl _)) 9 8 _ HL.out (by omega) (by rw [HL.out]; omega)).mono ?_
  rintro e w8 ⟨rfl, hw8⟩
  obtain rfl := hw8.symm
  go_wp2_with (first | (refine wpList_storeW rfl 3 _ _ rfl (w.heap.size + 2) 2 (.int .i64 (hiL zs 9 8)) rfl rfl _ 36 A7.row (by simp [rqC]) Try.sizeInt rfl rfl ?_; intro w9 hrow9 hk9; refine Hid.out ?_))
  refine hid ?_
  have A9 := A7.put ⟨7, hiL zs 1 8, hiL zs 9 8, 0, [], [], []⟩ (.slice none 0 0) (.slice none 0 0) (.slice none 0 0) hrow9 hk9 A7.ok A7.oh A7.ob
  clear hrow9 hk9
  go_wp2_with (first
    | (refine wpList_load_row rfl 36 _ rfl (w.heap.size + 2) rfl 36 _ (0, 0) _ A9.row Try.underlying36 rfl Try.sizeRq ?_)
    | (refine wpList_storeRowW rfl 36 _ _ rfl w.heap.size (rqC _ _ _ _ _ _ _) rfl rfl 36 _ A9.ans Try.sizeRq rfl (rqC_one A9.ok.cells.2 A9.oh.cells.2 A9.ob.cells.2) ?_; intro wz hrowz hkz))
  have AZ := A9.out hkz
  refine bodyPost_ret (results_c2 Try.results10 _ _ w.heap.size 36 _ (0, 0) _ rfl hrowz Try.underlying36 rfl Try.sizeRq) rfl ?_
  exact ⟨_, rfl, AZ.1, AZ.2⟩

set_option maxRecDepth 100000 in
set_option maxHeartbeats 4000000 in
theorem asked_8 (w : World) (zs : List Int) (hy : Bys zs) (sp : Option Addr) (cap : Nat) (hS : Src w sp cap zs) (hl : zs.length ≤ 140737488351232) (h0 : 0 < zs.length) (h1 : zs.length ≤ 12000) (hop : zs.getD 0 0 = 8) (hn : (zs.length : Int) = 1) :
    Calls Try.prog 10 #[.slice sp zs.length cap] w fun e w' => ∃ v, e = .returned (.tuple #[v, .int .i64 0]) ∧ RqOwn w' w.heap.size v (⟨8, 0, 0, 0, [], [], []⟩ : Rq) ∧ Below w.heap.size w w' := by
  have hm := hS.2.1
  have hc := hS.1
  unfold maxLen at hm
  have i0 : (zs.length : Int) ≤ 140737488351232 := by omega
  have i1 : (zs.length : Int) ≤ (cap : Int) := by omega
  have i2 : (cap : Int) ≤ 9223372036854775807 := by omega
  have i3 : ¬ (12000 : Int) < (zs.length : Int) := by omega
  have i4 : ((zs.length : Int) == 0) = false := beq_eq_false_iff_ne.2 (by omega)
  have i5 : (0 : Int) < (zs.length : Int) := by omega
  obtain ⟨b, o, hb, hsp, hsrc⟩ := hS.2.2
  obtain rfl := hsp (by omega)
  replace hb := hb (by omega)
  have c0 := hsrc 0 (by omega)
  rw [Nat.add_zero] at c0
  clear hsrc hsp
  rw [hop] at c0
  have KP := hid (fun w => parts_any w 8 (by omega) (by omega))
  rw [show prt 8 = 0 from by decide] at KP
  obtain hL : zs.length = 1 := by omega
  have HL := hid hL
  rw [hL]
  clear hL hn i0 i1 i3 i4 i5 h0 h1 hc hop
  go_enter Try.func10, Try.ntmps10
  go_wp2_with (first | (go_at_call 30; refine (KP.out _).mono ?_; rintro e w' ⟨rfl, rfl⟩) | (refine wpList_storeRowW rfl 36 _ _ rfl (w.heap.size + 2) (rqC 8 0 0 0 (.slice none 0 0) (.slice none 0 0) (.slice none 0 0)) rfl rfl 36 _ (heap3_new w (.cells (rqC 0 0 0 0 (.slice none 0 0) (.slice none 0 0) (.slice none 0 0)).toArray 36) (.cells (rqC 0 0 0 0 (.slice none 0 0) (.slice none 0 0) (.slice none 0 0)).toArray 36) (.cells (rqC 0 0 0 0 (.slice none 0 0) (.slice none 0 0) (.slice none 0 0)).toArray 36)) Try.sizeRq rfl (rqC_one rfl rfl rfl) ?_; intro w5 hrow5 hk5; refine Hid.out ?_))
  refine hid ?_
  have A5 : AQ w w5 w.heap.size (w.heap.size + 2) ⟨8, 0, 0, 0, [], [], []⟩ (.slice none 0 0) (.slice none 0 0) (.slice none 0 0) := by
    have hb5 := below3 w (.cells (rqC 0 0 0 0 (.slice none 0 0) (.slice none 0 0) (.slice none 0 0)).toArray 36) (.cells (rqC 0 0 0 0 (.slice none 0 0) (.slice none 0 0) (.slice none 0 0)).toArray 36) (.cells (rqC 0 0 0 0 (.slice none 0 0) (.slice none 0 0) (.slice none 0 0)).toArray 36)
    exact ⟨hb5.trans (hk5.below_g (by omega) (by simp; omega)), Nat.le_refl _, by omega, by omega, hk5.heap (heap3_old w _ _ _) (by omega), hrow5, Own.nil _ _, Own.nil _ _, Own.nil _ _⟩
  clear hrow5 hk5
  go_wp2_with (first
    | (refine wpList_load_row rfl 36 _ rfl (w.heap.size + 2) rfl 36 _ (0, 0) _ A5.row Try.underlying36 rfl Try.sizeRq ?_)
    | (refine wpList_storeRowW rfl 36 _ _ rfl w.heap.size (rqC _ _ _ _ _ _ _) rfl rfl 36 _ A5.ans Try.sizeRq rfl (rqC_one A5.ok.cells.2 A5.oh.cells.2 A5.ob.cells.2) ?_; intro wz hrowz hkz))
  have AZ := A5.out hkz
  refine bodyPost_ret (results_c2 Try.results10 _ _ w.heap.size 36 _ (0, 0) _ rfl hrowz Try.underlying36 rfl Try.sizeRq) rfl ?_
  exact ⟨_, rfl, AZ.1, AZ.2⟩

set_option maxRecDepth 100000 in
set_option maxHeartbeats 4000000 in
theorem asked_9 (w : World) (zs : List Int) (hy : Bys zs) (sp : Option Addr) (cap : Nat) (hS : Src w sp cap zs) (hl : zs.length ≤ 140737488351232) (h0 : 0 < zs.length) (h1 : zs.length ≤ 12000) (hop : zs.getD 0 0 = 9) (hn : (zs.length : Int) = 1) :
    Calls Try.prog 10 #[.slice sp zs.length cap] w fun e w' => ∃ v, e = .returned (.tuple #[v, .int .i64 0]) ∧ RqOwn w' w.heap.size v (⟨9, 0, 0, 0, [], [], []⟩ : Rq) ∧ Below w.heap.size w w' := by
  have hm := hS.2.1
  have hc := hS.1
  unfold maxLen at hm
  have i0 : (zs.length : Int) ≤ 140737488351232 := by omega
  have i1 : (zs.length : Int) ≤ (cap : Int) := by omega
  have i2 : (cap : Int) ≤ 9223372036854775807 := by omega
  have i3 : ¬ (12000 : Int) < (zs.length : Int) := by omega
  have i4 : ((zs.length : Int) == 0) = false := beq_eq_false_iff_ne.2 (by omega)
  have i5 : (0 : Int) < (zs.length : Int) := by omega
  obtain ⟨b, o, hb, hsp, hsrc⟩ := hS.2.2
  obtain rfl := hsp (by omega)
  replace hb := hb (by omega)
  have c0 := hsrc 0 (by omega)
  rw [Nat.add_zero] at c0
  clear hsrc hsp
  rw [hop] at c0
  have KP := hid (fun w => parts_any w 9 (by omega) (by omega))
  rw [show prt 9 = 0 from by decide] at KP
  obtain hL : zs.length = 1 := by omega
  have HL := hid hL
  rw [hL]
  clear hL hn i0 i1 i3 i4 i5 h0 h1 hc hop
  go_enter Try.func10, Try.ntmps10
  go_wp2_with (first | (go_at_call 30; refine (KP.out _).mono ?_; rintro e w' ⟨rfl, rfl⟩) | (refine wpList_storeRowW rfl 36 _ _ rfl (w.heap.size + 2) (rqC 9 0 0 0 (.slice none 0 0) (.slice none 0 0) (.slice none 0 0)) rfl rfl 36 _ (heap3_new w (.cells (rqC 0 0 0 0 (.slice none 0 0) (.slice none 0 0) (.slice none 0 0)).toArray 36) (.cells (rqC 0 0 0 0 (.slice none 0 0) (.slice none 0 0) (.slice none 0 0)).toArray 36) (.cells (rqC 0 0 0 0 (.slice none 0 0) (.slice none 0 0) (.slice none 0 0)).toArray 36)) Try.sizeRq rfl (rqC_one rfl rfl rfl) ?_; intro w5 hrow5 hk5; refine Hid.out ?_))
  refine hid ?_
  have A5 : AQ w w5 w.heap.size (w.heap.size + 2) ⟨9, 0, 0, 0, [], [], []⟩ (.slice none 0 0) (.slice none 0 0) (.slice none 0 0) := by
    have hb5 := below3 w (.cells (rqC 0 0 0 0 (.slice none 0 0) (.slice none 0 0) (.slice none 0 0)).toArray 36) (.cells (rqC 0 0 0 0 (.slice none 0 0) (.slice none 0 0) (.slice none 0 0)).toArray 36) (.cells (rqC 0 0 0 0 (.slice none 0 0) (.slice none 0 0) (.slice none 0 0)).toArray 36)
    exact ⟨hb5.trans (hk5.below_g (by omega) (by simp; omega)), Nat.le_refl _, by omega, by omega, hk5.heap (heap3_old w _ _ _) (by omega), hrow5, Own.nil _ _, Own.nil _ _, Own.nil _ _⟩
  clear hrow5 hk5
  go_wp2_with (first
    | (refine wpList_load_row rfl 36 _ rfl (w.heap.size + 2) rfl 36 _ (0, 0) _ A5.row Try.underlying36 rfl Try.sizeRq ?_)
    | (refine wpList_storeRowW rfl 36 _ _ rfl w.heap.size (rqC _ _ _ _ _ _ _) rfl rfl 36 _ A5.ans Try.sizeRq rfl (rqC_one A5.ok.cells.2 A5.oh.cells.2 A5.ob.cells.2) ?_; intro wz hrowz hkz))
  have AZ := A5.out hkz
  refine bodyPost_ret (results_c2 Try.results10 _ _ w.heap.size 36 _ (0, 0) _ rfl hrowz Try.underlying36 rfl Try.sizeRq) rfl ?_
  exact ⟨_, rfl, AZ.1, AZ.2⟩
end Go.Proofs.Ytenfklcgkfaajaa
