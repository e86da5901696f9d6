import Derived.Test.YtlhmhpkgdcdjkaaZr2
import Derived.Test.YtlhmhpkgdcdjkaaZf2
namespace Go.Proofs.Ytlhmhpkgdcdjkaa
set_option linter.unusedVariables false
set_option linter.unusedSimpArgs false
open Go.RowKit
attribute [local go_sem ↓] Go.wp_at_zero Go.wp_at_succ

theorem pfC_setb {p : Pf} (hl : p.bs.length = 32) (v s : Value) (k : Nat) (x : Int) (hk : k < 32) : (pfC p v s).set (2 + k) (.int .u8 x) = pfC ⟨p.f, p.vs, p.bs.set k x, p.ss⟩ v s := by
  unfold pfC
  rw [List.set_append_right _ _ (by simp), show 2 + k - [Value.bool p.f, v].length = k by simp, List.set_append_left _ _ (by rw [ints_len]; omega)]
  simp [ints, List.map_set]
theorem pad_next (t : List Int) (a k : Nat) (h : a + k < t.length) (hk : k < 32 := by omega) : (padz ((t.drop a).take k) 32).set k (t.getD (a + k) 0) = padz ((t.drop a).take (k + 1)) 32 := by
  have hkr : k < (t.drop a).length := by rw [List.length_drop]; omega
  have lk : ((t.drop a).take k).length = k := by rw [List.length_take]; omega
  have e := padz_set ((t.drop a).take k) 32 (t.getD (a + k) 0) (by omega)
  rw [lk] at e
  rw [e, List.take_succ_eq_append_getElem hkr, List.getElem_drop, List.getD_eq_getElem?_getD, List.getElem?_eq_getElem h]
  rfl
theorem decP_of {t : List Int} {f : Bool} {v r : List Int} (h : decA t = some (f, v, r)) : decP t = (decB r).map fun y => ⟨f, v, y.1, y.2⟩ := by unfold decP; rw [h]; rfl
theorem decP_noA {t : List Int} (h : decA t = none) : decP t = none := by unfold decP; rw [h]; rfl
set_option maxRecDepth 100000 in
set_option maxHeartbeats 2000000 in
theorem xd_nil (w : World) (t : List Int) (hy : Bys t) (sp : Option Addr) (cap : Nat) (hS : Src w sp cap t) (h : t.length = 0) :
    Calls Try.prog 29 #[.slice sp t.length cap] w (DecP w t) := by
  have HNN := hid (show decP t = none by rw [List.eq_nil_of_length_eq_zero h]; rfl)
  have AP := hid allocPf
  have BZ := hid built_pf0
  have SZ := hid (show (Try.prog.info? 26).map (·.size) = some (pfC pf0 (.slice none 0 0) (.slice none 0 0)).toArray.size by rw [Try.sizeP]; rfl)
  have ON := hid (pfC_one pf0 (.slice none 0 0) (.slice none 0 0) rfl rfl)
  have FZ := hid (fun w' (hb : Below w.heap.size w w') (hn : decP t = none) => decP_none (t := t) hn hb)
  have FY := hid (fun w' (hb : Below w.heap.size w w') p (hn : decP t = some p) s1 s2 c1 c2 h1 h2 => decP_some (t := t) (p := p) hn hb s1 s2 c1 c2 h1 h2)
  have d0 := ((BK.nil w).alloc (pfC pf0 (.slice none 0 0) (.slice none 0 0)) 26).alloc (pfC pf0 (.slice none 0 0) (.slice none 0 0)) 26
  rw [show (w.alloc (.cells (pfC pf0 (.slice none 0 0) (.slice none 0 0)).toArray 26)).heap.size = w.heap.size + 1 by simp] at d0
  have r0 := d0.row (.tail _ (.head _))
  rw [h] at *
  generalize DecP w t = P at *
  generalize hIZ : pfC pf0 (.slice none 0 0) (.slice none 0 0) = IZ at *
  clear hIZ
  go_enter Try.func29, Try.ntmps29
  go_wp2_with (first | refine wpList_allocV AP.out rfl rfl ?_ | refine wpList_built (by rfl) 26 _ (by rfl) _ (by rfl) _ BZ.out ?_ | refine wpList_store_row rfl 26 _ _ (by rfl) w.heap.size IZ.toArray (by rfl) (by rfl) 26 _ r0 SZ.out (by rfl) (all_oneCell_toArray ON.out) ?_)
  exact bodyPost_ret (v := .tuple #[.agg IZ.toArray, .int .i64 120]) (results_c2 Try.results29 _ _ w.heap.size 26 _ _ _ rfl (setRow_heap _ _ _ _ _ _ r0) Try.underlying26 rfl SZ.out) rfl (FZ.out _ (below_setRow d0.1 (Nat.le_refl _) _) HNN.out)
set_option maxRecDepth 100000 in
set_option maxHeartbeats 2000000 in
theorem xd_badS (w : World) (t : List Int) (hy : Bys t) (sp : Option Addr) (cap : Nat) (hS : Src w sp cap t) (x : Int) (r : List Int) (ht : t = x :: r) (hm : t.length < 3) (hx : x ≠ 0) :
    Calls Try.prog 29 #[.slice sp t.length cap] w (DecP w t) := by
  have HNN := hid (show decP t = none by rw [ht]; refine decP_noA ?_; simp only [decA]; rw [if_neg hx]; by_cases h1 : x = 1 <;> simp only [h1, if_true, if_false]; match r, ht with | [], _ => rfl | [a], _ => rfl | a :: y :: q, e => rw [e] at hm; simp at hm; omega)
  have hp0 : 0 < t.length := by rw [ht]; simp
  obtain ⟨hc, hmx, b, o, hb, hsp, hsrc⟩ := hS
  obtain rfl := hsp (by omega)
  have hbw : b < w.heap.size := hb (by omega)
  have CE := hid (fun j (hj : j < t.length) => hsrc j hj)
  clear hsrc hsp hb
  unfold maxLen at hmx
  have AP := hid allocPf
  have BZ := hid built_pf0
  have SZ := hid (show (Try.prog.info? 26).map (·.size) = some (pfC pf0 (.slice none 0 0) (.slice none 0 0)).toArray.size by rw [Try.sizeP]; rfl)
  have ON := hid (pfC_one pf0 (.slice none 0 0) (.slice none 0 0) rfl rfl)
  have FZ := hid (fun w' (hb : Below w.heap.size w w') (hn : decP t = none) => decP_none (t := t) hn hb)
  have FY := hid (fun w' (hb : Below w.heap.size w w') p (hn : decP t = some p) s1 s2 c1 c2 h1 h2 => decP_some (t := t) (p := p) hn hb s1 s2 c1 c2 h1 h2)
  have d0 := ((BK.nil w).alloc (pfC pf0 (.slice none 0 0) (.slice none 0 0)) 26).alloc (pfC pf0 (.slice none 0 0) (.slice none 0 0)) 26
  rw [show (w.alloc (.cells (pfC pf0 (.slice none 0 0) (.slice none 0 0)).toArray 26)).heap.size = w.heap.size + 1 by simp] at d0
  have r0 := d0.row (.tail _ (.head _))
  have i0 : (t.length : Int) < 3 := by omega
  have i1 : (0 : Int) < (t.length : Int) := by omega
  have hxb : (x != 0) = true := by simpa using hx
  have c0 := (d0.1.cell (p := ⟨b, o + 0, none⟩) hbw).trans (CE.out 0 (by omega))
  rw [Nat.add_zero] at c0
  generalize DecP w t = P at *
  have hx0 : t.getD 0 0 = x := by rw [ht]; rfl
  rw [hx0] at c0
  clear hx0 ht CE
  generalize t.length = m at *
  generalize hIZ : pfC pf0 (.slice none 0 0) (.slice none 0 0) = IZ at *
  clear hIZ
  go_enter Try.func29, Try.ntmps29
  go_wp2_with (first | refine wpList_allocV AP.out rfl rfl ?_ | refine wpList_built (by rfl) 26 _ (by rfl) _ (by rfl) _ BZ.out ?_ | refine wpList_store_row rfl 26 _ _ (by rfl) w.heap.size IZ.toArray (by rfl) (by rfl) 26 _ r0 SZ.out (by rfl) (all_oneCell_toArray ON.out) ?_)
  exact bodyPost_ret (v := .tuple #[.agg IZ.toArray, .int .i64 120]) (results_c2 Try.results29 _ _ w.heap.size 26 _ _ _ rfl (setRow_heap _ _ _ _ _ _ r0) Try.underlying26 rfl SZ.out) rfl (FZ.out _ (below_setRow d0.1 (Nat.le_refl _) _) HNN.out)
set_option maxRecDepth 100000 in
set_option maxHeartbeats 2000000 in
theorem xd_badL (w : World) (t : List Int) (hy : Bys t) (sp : Option Addr) (cap : Nat) (hS : Src w sp cap t) (x : Int) (r : List Int) (ht : t = x :: r) (hm : 3 ≤ t.length) (hx : x ≠ 0) (hx1 : x ≠ 1) :
    Calls Try.prog 29 #[.slice sp t.length cap] w (DecP w t) := by
  have HNN := hid (show decP t = none by rw [ht]; refine decP_noA ?_; simp only [decA]; rw [if_neg hx, if_neg hx1])
  have hp0 : 0 < t.length := by rw [ht]; simp
  obtain ⟨hc, hmx, b, o, hb, hsp, hsrc⟩ := hS
  obtain rfl := hsp (by omega)
  have hbw : b < w.heap.size := hb (by omega)
  have CE := hid (fun j (hj : j < t.length) => hsrc j hj)
  clear hsrc hsp hb
  unfold maxLen at hmx
  have AP := hid allocPf
  have BZ := hid built_pf0
  have SZ := hid (show (Try.prog.info? 26).map (·.size) = some (pfC pf0 (.slice none 0 0) (.slice none 0 0)).toArray.size by rw [Try.sizeP]; rfl)
  have ON := hid (pfC_one pf0 (.slice none 0 0) (.slice none 0 0) rfl rfl)
  have FZ := hid (fun w' (hb : Below w.heap.size w w') (hn : decP t = none) => decP_none (t := t) hn hb)
  have FY := hid (fun w' (hb : Below w.heap.size w w') p (hn : decP t = some p) s1 s2 c1 c2 h1 h2 => decP_some (t := t) (p := p) hn hb s1 s2 c1 c2 h1 h2)
  have d0 := ((BK.nil w).alloc (pfC pf0 (.slice none 0 0) (.slice none 0 0)) 26).alloc (pfC pf0 (.slice none 0 0) (.slice none 0 0)) 26
  rw [show (w.alloc (.cells (pfC pf0 (.slice none 0 0) (.slice none 0 0)).toArray 26)).heap.size = w.heap.size + 1 by simp] at d0
  have r0 := d0.row (.tail _ (.head _))
  have i0 : (3 : Int) ≤ (t.length : Int) := by omega
  have i2 : (t.length : Int) ≤ 9223372036854775807 := by omega
  have hxb : (x != 0) = true := by simpa using hx
  have hxc : (x == 1) = false := by simpa using hx1
  have c0 := (d0.1.cell (p := ⟨b, o + 0, none⟩) hbw).trans (CE.out 0 (by omega))
  rw [Nat.add_zero] at c0
  generalize DecP w t = P at *
  have hx0 : t.getD 0 0 = x := by rw [ht]; rfl
  rw [hx0] at c0
  clear hx0 ht CE
  generalize t.length = m at *
  generalize hIZ : pfC pf0 (.slice none 0 0) (.slice none 0 0) = IZ at *
  clear hIZ
  go_enter Try.func29, Try.ntmps29
  go_wp2_with (first | refine wpList_allocV AP.out rfl rfl ?_ | refine wpList_built (by rfl) 26 _ (by rfl) _ (by rfl) _ BZ.out ?_ | refine wpList_store_row rfl 26 _ _ (by rfl) w.heap.size IZ.toArray (by rfl) (by rfl) 26 _ r0 SZ.out (by rfl) (all_oneCell_toArray ON.out) ?_)
  exact bodyPost_ret (v := .tuple #[.agg IZ.toArray, .int .i64 120]) (results_c2 Try.results29 _ _ w.heap.size 26 _ _ _ rfl (setRow_heap _ _ _ _ _ _ r0) Try.underlying26 rfl SZ.out) rfl (FZ.out _ (below_setRow d0.1 (Nat.le_refl _) _) HNN.out)
set_option maxRecDepth 100000 in
set_option maxHeartbeats 2000000 in
theorem xd_zeroS (w : World) (t : List Int) (hy : Bys t) (sp : Option Addr) (cap : Nat) (hS : Src w sp cap t) (r : List Int) (ht : t = 0 :: r) (hm : t.length < 3) :
    Calls Try.prog 29 #[.slice sp t.length cap] w (DecP w t) := by
  have HNN := hid (show decP t = none by rw [ht] at hm ⊢; rw [decP_of (show decA (0 :: r) = some (false, [], r) from rfl), decB, if_neg (by simp at hm; omega)]; rfl)
  have hp0 : 0 < t.length := by rw [ht]; simp
  obtain ⟨hc, hmx, b, o, hb, hsp, hsrc⟩ := hS
  obtain rfl := hsp (by omega)
  have hbw : b < w.heap.size := hb (by omega)
  have CE := hid (fun j (hj : j < t.length) => hsrc j hj)
  clear hsrc hsp hb
  unfold maxLen at hmx
  have AP := hid allocPf
  have BZ := hid built_pf0
  have SZ := hid (show (Try.prog.info? 26).map (·.size) = some (pfC pf0 (.slice none 0 0) (.slice none 0 0)).toArray.size by rw [Try.sizeP]; rfl)
  have ON := hid (pfC_one pf0 (.slice none 0 0) (.slice none 0 0) rfl rfl)
  have FZ := hid (fun w' (hb : Below w.heap.size w w') (hn : decP t = none) => decP_none (t := t) hn hb)
  have FY := hid (fun w' (hb : Below w.heap.size w w') p (hn : decP t = some p) s1 s2 c1 c2 h1 h2 => decP_some (t := t) (p := p) hn hb s1 s2 c1 c2 h1 h2)
  have d0 := ((BK.nil w).alloc (pfC pf0 (.slice none 0 0) (.slice none 0 0)) 26).alloc (pfC pf0 (.slice none 0 0) (.slice none 0 0)) 26
  rw [show (w.alloc (.cells (pfC pf0 (.slice none 0 0) (.slice none 0 0)).toArray 26)).heap.size = w.heap.size + 1 by simp] at d0
  have r0 := d0.row (.tail _ (.head _))
  have i0 : (t.length : Int) < 3 := by omega
  have i1 : (0 : Int) < (t.length : Int) := by omega
  have c0 := (d0.1.cell (p := ⟨b, o + 0, none⟩) hbw).trans (CE.out 0 (by omega))
  rw [Nat.add_zero] at c0
  generalize DecP w t = P at *
  have hx0 : t.getD 0 0 = 0 := by rw [ht]; rfl
  rw [hx0] at c0
  clear hx0 ht CE
  generalize t.length = m at *
  generalize hIZ : pfC pf0 (.slice none 0 0) (.slice none 0 0) = IZ at *
  clear hIZ
  go_enter Try.func29, Try.ntmps29
  go_wp2_with (first | refine wpList_allocV AP.out rfl rfl ?_ | refine wpList_built (by rfl) 26 _ (by rfl) _ (by rfl) _ BZ.out ?_ | refine wpList_store_row rfl 26 _ _ (by rfl) w.heap.size IZ.toArray (by rfl) (by rfl) 26 _ r0 SZ.out (by rfl) (all_oneCell_toArray ON.out) ?_)
  exact bodyPost_ret (v := .tuple #[.agg IZ.toArray, .int .i64 120]) (results_c2 Try.results29 _ _ w.heap.size 26 _ _ _ rfl (setRow_heap _ _ _ _ _ _ r0) Try.underlying26 rfl SZ.out) rfl (FZ.out _ (below_setRow d0.1 (Nat.le_refl _) _) HNN.out)
set_option maxRecDepth 100000 in
set_option maxHeartbeats 2000000 in
theorem xd_long (w : World) (t : List Int) (hy : Bys t) (sp : Option Addr) (cap : Nat) (hS : Src w sp cap t) (a y : Int) (q : List Int) (ht : t = 1 :: a :: y :: q) (hn : 128 < a + 256 * y) :
    Calls Try.prog 29 #[.slice sp t.length cap] w (DecP w t) := by
  have HNN := hid (show decP t = none by rw [ht]; refine decP_noA ?_; simp only [decA]; rw [if_neg (by decide), if_pos trivial, if_neg (by rw [ht] at *; simp at *; omega)])
  have hp0 : 3 ≤ t.length := by rw [ht]; simp
  have ha := hy a (by rw [ht]; simp)
  have hyy := hy y (by rw [ht]; simp)
  obtain ⟨hc, hmx, b, o, hb, hsp, hsrc⟩ := hS
  obtain rfl := hsp (by omega)
  have hbw : b < w.heap.size := hb (by omega)
  have CE := hid (fun j (hj : j < t.length) => hsrc j hj)
  clear hsrc hsp hb
  unfold maxLen at hmx
  have AP := hid allocPf
  have BZ := hid built_pf0
  have SZ := hid (show (Try.prog.info? 26).map (·.size) = some (pfC pf0 (.slice none 0 0) (.slice none 0 0)).toArray.size by rw [Try.sizeP]; rfl)
  have ON := hid (pfC_one pf0 (.slice none 0 0) (.slice none 0 0) rfl rfl)
  have FZ := hid (fun w' (hb : Below w.heap.size w w') (hn : decP t = none) => decP_none (t := t) hn hb)
  have FY := hid (fun w' (hb : Below w.heap.size w w') p (hn : decP t = some p) s1 s2 c1 c2 h1 h2 => decP_some (t := t) (p := p) hn hb s1 s2 c1 c2 h1 h2)
  have d0 := ((BK.nil w).alloc (pfC pf0 (.slice none 0 0) (.slice none 0 0)) 26).alloc (pfC pf0 (.slice none 0 0) (.slice none 0 0)) 26
  rw [show (w.alloc (.cells (pfC pf0 (.slice none 0 0) (.slice none 0 0)).toArray 26)).heap.size = w.heap.size + 1 by simp] at d0
  have r0 := d0.row (.tail _ (.head _))
  have i0 : (3 : Int) ≤ (t.length : Int) := by omega
  have i2 : (t.length : Int) ≤ 9223372036854775807 := by omega
  have i3 : a + 256 * y ≤ 65535 := by omega
  have c0 := (d0.1.cell (p := ⟨b, o + 0, none⟩) hbw).trans (CE.out 0 (by omega))
  have c1 := (d0.1.cell (p := ⟨b, o + 1, none⟩) hbw).trans (CE.out 1 (by omega))
  have c2 := (d0.1.cell (p := ⟨b, o + 2, none⟩) hbw).trans (CE.out 2 (by omega))
  rw [Nat.add_zero] at c0
  generalize DecP w t = P at *
  have hx0 : t.getD 0 0 = 1 := by rw [ht]; rfl
  have hx1 : t.getD 1 0 = a := by rw [ht]; rfl
  have hx2 : t.getD 2 0 = y := by rw [ht]; rfl
  rw [hx0] at c0
  rw [hx1] at c1
  rw [hx2] at c2
  clear hx0 hx1 hx2 CE
  clear ht
  generalize t.length = m at *
  generalize hIZ : pfC pf0 (.slice none 0 0) (.slice none 0 0) = IZ at *
  clear hIZ
  go_enter Try.func29, Try.ntmps29
  go_wp2_with (first | refine wpList_allocV AP.out rfl rfl ?_ | refine wpList_built (by rfl) 26 _ (by rfl) _ (by rfl) _ BZ.out ?_ | refine wpList_store_row rfl 26 _ _ (by rfl) w.heap.size IZ.toArray (by rfl) (by rfl) 26 _ r0 SZ.out (by rfl) (all_oneCell_toArray ON.out) ?_)
  go_quiet (fail)
  go_wp2_with (first | refine wpList_allocV AP.out rfl rfl ?_ | refine wpList_built (by rfl) 26 _ (by rfl) _ (by rfl) _ BZ.out ?_ | refine wpList_store_row rfl 26 _ _ (by rfl) w.heap.size IZ.toArray (by rfl) (by rfl) 26 _ r0 SZ.out (by rfl) (all_oneCell_toArray ON.out) ?_)
  exact bodyPost_ret (v := .tuple #[.agg IZ.toArray, .int .i64 120]) (results_c2 Try.results29 _ _ w.heap.size 26 _ _ _ rfl (setRow_heap _ _ _ _ _ _ r0) Try.underlying26 rfl SZ.out) rfl (FZ.out _ (below_setRow (below_drewN d0.1 _) (Nat.le_refl _) _) HNN.out)
set_option maxRecDepth 100000 in
set_option maxHeartbeats 2000000 in
theorem xd_miss (w : World) (t : List Int) (hy : Bys t) (sp : Option Addr) (cap : Nat) (hS : Src w sp cap t) (a y : Int) (q : List Int) (ht : t = 1 :: a :: y :: q) (hn : a + 256 * y ≤ 128) (hq : t.length < 3 + (a + 256 * y).toNat) :
    Calls Try.prog 29 #[.slice sp t.length cap] w (DecP w t) := by
  have HNN := hid (show decP t = none by rw [ht]; refine decP_noA ?_; simp only [decA]; rw [if_neg (by decide), if_pos trivial, if_neg (by rw [ht] at *; simp at *; omega)])
  have hp0 : 3 ≤ t.length := by rw [ht]; simp
  have ha := hy a (by rw [ht]; simp)
  have hyy := hy y (by rw [ht]; simp)
  obtain ⟨hc, hmx, b, o, hb, hsp, hsrc⟩ := hS
  obtain rfl := hsp (by omega)
  have hbw : b < w.heap.size := hb (by omega)
  have CE := hid (fun j (hj : j < t.length) => hsrc j hj)
  clear hsrc hsp hb
  unfold maxLen at hmx
  have AP := hid allocPf
  have BZ := hid built_pf0
  have SZ := hid (show (Try.prog.info? 26).map (·.size) = some (pfC pf0 (.slice none 0 0) (.slice none 0 0)).toArray.size by rw [Try.sizeP]; rfl)
  have ON := hid (pfC_one pf0 (.slice none 0 0) (.slice none 0 0) rfl rfl)
  have FZ := hid (fun w' (hb : Below w.heap.size w w') (hn : decP t = none) => decP_none (t := t) hn hb)
  have FY := hid (fun w' (hb : Below w.heap.size w w') p (hn : decP t = some p) s1 s2 c1 c2 h1 h2 => decP_some (t := t) (p := p) hn hb s1 s2 c1 c2 h1 h2)
  have d0 := ((BK.nil w).alloc (pfC pf0 (.slice none 0 0) (.slice none 0 0)) 26).alloc (pfC pf0 (.slice none 0 0) (.slice none 0 0)) 26
  rw [show (w.alloc (.cells (pfC pf0 (.slice none 0 0) (.slice none 0 0)).toArray 26)).heap.size = w.heap.size + 1 by simp] at d0
  have r0 := d0.row (.tail _ (.head _))
  have i0 : (3 : Int) ≤ (t.length : Int) := by omega
  have i2 : (t.length : Int) ≤ 9223372036854775807 := by omega
  have i3 : (t.length : Int) < 3 + (a + 256 * y) := by omega
  have c0 := (d0.1.cell (p := ⟨b, o + 0, none⟩) hbw).trans (CE.out 0 (by omega))
  have c1 := (d0.1.cell (p := ⟨b, o + 1, none⟩) hbw).trans (CE.out 1 (by omega))
  have c2 := (d0.1.cell (p := ⟨b, o + 2, none⟩) hbw).trans (CE.out 2 (by omega))
  rw [Nat.add_zero] at c0
  generalize DecP w t = P at *
  have hx0 : t.getD 0 0 = 1 := by rw [ht]; rfl
  have hx1 : t.getD 1 0 = a := by rw [ht]; rfl
  have hx2 : t.getD 2 0 = y := by rw [ht]; rfl
  rw [hx0] at c0
  rw [hx1] at c1
  rw [hx2] at c2
  clear hx0 hx1 hx2 CE
  clear ht hq
  generalize t.length = m at *
  generalize hIZ : pfC pf0 (.slice none 0 0) (.slice none 0 0) = IZ at *
  clear hIZ
  go_enter Try.func29, Try.ntmps29
  go_wp2_with (first | refine wpList_allocV AP.out rfl rfl ?_ | refine wpList_built (by rfl) 26 _ (by rfl) _ (by rfl) _ BZ.out ?_ | refine wpList_store_row rfl 26 _ _ (by rfl) w.heap.size IZ.toArray (by rfl) (by rfl) 26 _ r0 SZ.out (by rfl) (all_oneCell_toArray ON.out) ?_)
  go_quiet (fail)
  go_wp2_with (first | refine wpList_allocV AP.out rfl rfl ?_ | refine wpList_built (by rfl) 26 _ (by rfl) _ (by rfl) _ BZ.out ?_ | refine wpList_store_row rfl 26 _ _ (by rfl) w.heap.size IZ.toArray (by rfl) (by rfl) 26 _ r0 SZ.out (by rfl) (all_oneCell_toArray ON.out) ?_)
  exact bodyPost_ret (v := .tuple #[.agg IZ.toArray, .int .i64 120]) (results_c2 Try.results29 _ _ w.heap.size 26 _ _ _ rfl (setRow_heap _ _ _ _ _ _ r0) Try.underlying26 rfl SZ.out) rfl (FZ.out _ (below_setRow (below_drewN d0.1 _) (Nat.le_refl _) _) HNN.out)
end Go.Proofs.Ytlhmhpkgdcdjkaa
