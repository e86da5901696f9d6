import Derived.Test.YtenfklcgkfaajaaDk5
namespace Go.Proofs.Ytenfklcgkfaajaa
set_option linter.unusedVariables false
set_option linter.unusedSimpArgs false
open Go.RowKit
attribute [local go_sem ↓] Go.wp_at_zero Go.wp_at_succ

theorem request_any (w0 w : World) (g b : Nat) (raw : List Int) (hy : Bys raw) (hl : raw.length ≤ 140737488351232) (hK : RK w0 w g b ⟨raw, false⟩) :
    Calls Try.prog 29 #[.pointer (some ⟨g, 0, none⟩)] w fun e w' => ∃ kv hv bv, e = .returned (.tuple #[.agg (rqC (rdQ raw).1.op (rdQ raw).1.ver (rdQ raw).1.oth (rdQ raw).1.lim kv hv bv).toArray, .bool (knO (rdQ raw).1.op)]) ∧ Own w' w.heap.size kv (rdQ raw).1.key ∧ Own w' w.heap.size hv (rdQ raw).1.high ∧ Own w' w.heap.size bv (rdQ raw).1.batch ∧ RK w0 w' g b (rdQ raw).2 ∧ Keeps g w w' ∧ DjQ kv hv bv := by
  by_cases h1 : nmV ⟨raw, false⟩ 1 = 1
  · exact request_1 w0 w g b raw hy hl hK (by unfold shO; rw [if_pos h1])
  by_cases h2 : nmV ⟨raw, false⟩ 1 = 2 ∨ nmV ⟨raw, false⟩ 1 = 4
  · exact request_2 w0 w g b raw hy hl hK (by unfold shO; rw [if_neg h1, if_pos h2])
  by_cases h3 : nmV ⟨raw, false⟩ 1 = 3
  · exact request_3 w0 w g b raw hy hl hK (by unfold shO; rw [if_neg h1, if_neg h2, if_pos h3])
  by_cases h5 : nmV ⟨raw, false⟩ 1 = 5
  · exact request_5 w0 w g b raw hy hl hK (by unfold shO; rw [if_neg h1, if_neg h2, if_neg h3, if_pos h5])
  by_cases h6 : nmV ⟨raw, false⟩ 1 = 6
  · exact request_6 w0 w g b raw hy hl hK (by unfold shO; rw [if_neg h1, if_neg h2, if_neg h3, if_neg h5, if_pos h6])
  by_cases h7 : nmV ⟨raw, false⟩ 1 = 7
  · exact request_7 w0 w g b raw hy hl hK (by unfold shO; rw [if_neg h1, if_neg h2, if_neg h3, if_neg h5, if_neg h6, if_pos h7])
  · exact request_0 w0 w g b raw hy hl hK (by unfold shO; rw [if_neg h1, if_neg h2, if_neg h3, if_neg h5, if_neg h6, if_neg h7]; rfl)
/-- A request that a call made: its lists are its own. -/
def RqOwn (w : World) (base : Nat) (v : Value) (q : Rq) : Prop := ∃ kv hv bv, v = .agg (rqC q.op q.ver q.oth q.lim kv hv bv).toArray ∧ Own w base kv q.key ∧ Own w base hv q.high ∧ Own w base bv q.batch
def rq0 : Rq := ⟨0, 0, 0, 0, [], [], []⟩
theorem RqOwn.zero (w : World) (base : Nat) : RqOwn w base (.agg (rqC 0 0 0 0 (.slice none 0 0) (.slice none 0 0) (.slice none 0 0)).toArray) rq0 := ⟨_, _, _, rfl, Own.nil _ _, Own.nil _ _, Own.nil _ _⟩
theorem RqOwn.below {w w1 : World} {base : Nat} {v : Value} {q : Rq} (h : RqOwn w base v q) (hb : Below w.heap.size w w1) : RqOwn w1 base v q := by
  obtain ⟨k, h2, b, rfl, a1, a2, a3⟩ := h
  exact ⟨k, h2, b, rfl, a1.below hb (Nat.le_refl _), a2.below hb (Nat.le_refl _), a3.below hb (Nat.le_refl _)⟩
/-- The same, and no two of them share a block. -/
def RqOwnD (w : World) (base : Nat) (v : Value) (q : Rq) : Prop := ∃ kv hv bv, v = .agg (rqC q.op q.ver q.oth q.lim kv hv bv).toArray ∧ Own w base kv q.key ∧ Own w base hv q.high ∧ Own w base bv q.batch ∧ DjQ kv hv bv
theorem RqOwnD.zero (w : World) (base : Nat) : RqOwnD w base (.agg (rqC 0 0 0 0 (.slice none 0 0) (.slice none 0 0) (.slice none 0 0)).toArray) rq0 := ⟨_, _, _, rfl, Own.nil _ _, Own.nil _ _, Own.nil _ _, Dj.nil _, Dj.nil _, Dj.nil _⟩
theorem RqOwnD.below {w w1 : World} {base : Nat} {v : Value} {q : Rq} (h : RqOwnD w base v q) (hb : Below w.heap.size w w1) : RqOwnD w1 base v q := by
  obtain ⟨k, h2, b, rfl, a1, a2, a3, d⟩ := h
  exact ⟨k, h2, b, rfl, a1.below hb (Nat.le_refl _), a2.below hb (Nat.le_refl _), a3.below hb (Nat.le_refl _), d⟩
def ecode {α : Type} (x : Option α) : Int := if x.isSome then 0 else 200
set_option maxRecDepth 100000 in
set_option maxHeartbeats 4000000 in
theorem decodeD_any (w : World) (raw : List Int) (hy : Bys raw) (b o cap : Nat) (hS : Src w (some ⟨b, o, none⟩) cap raw) (hl : raw.length ≤ 140737488351232) :
    Calls Try.prog 8 #[.slice (some ⟨b, o, none⟩) raw.length cap] w fun e w' => ∃ v, e = .returned (.tuple #[v, .int .i64 (ecode (decP raw))]) ∧ RqOwnD w' w.heap.size v ((decP raw).getD rq0) ∧ Below w.heap.size w w' := by
  have i0 : (raw.length : Int) ≤ 140737488351232 := by omega
  have hm := hS.2.1
  have hc := hS.1
  unfold maxLen at hm
  have i1 : (raw.length : Int) ≤ (cap : Int) := by omega
  have i2 : (cap : Int) ≤ 9223372036854775807 := by omega
  by_cases hbig : 12000 < raw.length
  · have HD := hid (show decP raw = none by unfold decP; rw [if_pos hbig])
    rw [HD.out]
    have i3 : (12000 : Int) < (raw.length : Int) := by omega
    generalize raw.length = n at *
    go_enter Try.func8, Try.ntmps8
    go_wp2
    exact bodyPost_ret (v := .tuple #[.agg (rqC 0 0 0 0 (.slice none 0 0) (.slice none 0 0) (.slice none 0 0)).toArray, .int .i64 200]) (by simp [results, Try.results8, go_sem, rqC]) rfl ⟨_, rfl, RqOwnD.zero _ _, (Below.refl _ _).alloc (Nat.le_refl _) _⟩
  · have i3 : ¬ (12000 : Int) < (raw.length : Int) := by omega
    have hlow : Below w.heap.size w ((w.alloc (.cells (rqC 0 0 0 0 (.slice none 0 0) (.slice none 0 0) (.slice none 0 0)).toArray 36)).alloc (.cells #[.slice (some ⟨b, o, none⟩) raw.length cap, .bool false] 78)) := ((Below.refl _ _).alloc (Nat.le_refl _) _).alloc (by simp) _
    have hr1 := hold (o := .cells #[.slice (some ⟨b, o, none⟩) raw.length cap, .bool false] 78) (hnew w (.cells (rqC 0 0 0 0 (.slice none 0 0) (.slice none 0 0) (.slice none 0 0)).toArray 36))
    have hg1 := hnew (w.alloc (.cells (rqC 0 0 0 0 (.slice none 0 0) (.slice none 0 0) (.slice none 0 0)).toArray 36)) (.cells #[.slice (some ⟨b, o, none⟩) raw.length cap, .bool false] 78)
    have hz : (w.alloc (.cells (rqC 0 0 0 0 (.slice none 0 0) (.slice none 0 0) (.slice none 0 0)).toArray 36)).heap.size = w.heap.size + 1 := by simp
    rw [hz] at hg1
    have hK : RK w _ (w.heap.size + 1) b ⟨raw, false⟩ := ⟨hlow, by omega, o, cap, hg1, hS⟩
    have KR := hid (request_any w _ _ b raw hy hl hK)
    have hz2 : ((w.alloc (.cells (rqC 0 0 0 0 (.slice none 0 0) (.slice none 0 0) (.slice none 0 0)).toArray 36)).alloc (.cells #[.slice (some ⟨b, o, none⟩) raw.length cap, .bool false] 78)).heap.size = w.heap.size + 2 := by simp
    have HD := hid (show decP raw = if knO (rdQ raw).1.op && !(rdQ raw).2.wrong && (rdQ raw).2.rest.isEmpty then some (rdQ raw).1 else none by unfold decP; rw [if_neg hbig])
    rw [HD.out]
    clear HD
    generalize rdQ raw = qR at *
    obtain ⟨q, R⟩ := qR
    simp only at KR ⊢
    clear hz hg1 hK
    generalize hD : (if (knO q.op && !R.wrong && R.rest.isEmpty) = true then some q else none) = D
    replace hD := hid hD
    go_enter Try.func8, Try.ntmps8
    go_wp2_with fail
    refine KR.out.mono ?_
    clear KR
    generalize ((w.alloc (.cells (rqC 0 0 0 0 (.slice none 0 0) (.slice none 0 0) (.slice none 0 0)).toArray 36)).alloc (.cells #[.slice (some ⟨b, o, none⟩) raw.length cap, .bool false] 78)) = w1 at *
    rintro e w2 ⟨kv, hv, bv, rfl, o1, o2, o3, hK2, hk2, DQ2⟩
    have hr2 := hk2.heap hr1 (by omega)
    have C1 := hid (rqC_one (op := q.op) (ver := q.ver) (oth := q.oth) (lim := q.lim) o1.cells.2 o2.cells.2 o3.cells.2)
    go_wp2_with (first | (refine wpList_storeRowW rfl 36 _ _ rfl w2.heap.size (rqC q.op q.ver q.oth q.lim kv hv bv) rfl rfl 36 _ (hnew w2 (.cells (rqC 0 0 0 0 (.slice none 0 0) (.slice none 0 0) (.slice none 0 0)).toArray 36)) Try.sizeRq rfl C1.out ?_; intro w3 hv3 hk3; refine Hid.out ?_))
    refine hid ?_
    have hb2 : Below w2.heap.size w2 w3 := ((Below.refl w2.heap.size w2).alloc (Nat.le_refl _) _).trans (hk3.below_g (Nat.le_refl _) (by simp))
    replace hv3 := hid hv3
    have hr3 := hid (hbel hb2 hr2 (hlt hr2))
    have hK3 := hK2.keep (hb2.mono hK2.lt)
    have hB3 : Below w.heap.size w w3 := hlow.trans (((hk2.trans_b hb2).below_g (by omega) (by omega)))
    have hO3 := hid (RqOwnD.below (show RqOwnD w2 w.heap.size (.agg (rqC q.op q.ver q.oth q.lim kv hv bv).toArray) q from ⟨kv, hv, bv, rfl, own_lower o1 (by omega), own_lower o2 (by omega), own_lower o3 (by omega), DQ2⟩) hb2)
    have KD := hid (done_any w _ _ b R hK3)
    clear hK3 hK2 hk2 hb2 hr2 hr1 hlow o1 o2 o3 hk3
    have T1 := fun (w' : World) (k : Keeps w.heap.size w3 w') => hid (show Below w.heap.size w w' from hB3.trans (k.below_g (Nat.le_refl _) hB3.size))
    have T2 := fun (w' : World) (k : Keeps w.heap.size w3 w') => hid (show RqOwnD w' w.heap.size (.agg (rqC q.op q.ver q.oth q.lim kv hv bv).toArray) q from by
      obtain ⟨k1, h1, b1, he, a1, a2, a3, d1⟩ := hO3.out
      exact ⟨k1, h1, b1, he, own_far a1 hr3.out (by decide) k, own_far a2 hr3.out (by decide) k, own_far a3 hr3.out (by decide) k, d1⟩)
    cases hkn : knO q.op
    · replace hkn := hid hkn
      go_wp2_with (first | (refine wpList_storeRowW rfl 36 _ _ rfl w.heap.size (rqC 0 0 0 0 (.slice none 0 0) (.slice none 0 0) (.slice none 0 0)) rfl rfl 36 _ hr3.out Try.sizeRq rfl (rqC_one rfl rfl rfl) ?_; intro wz hrowz hkz))
      refine bodyPost_ret (results_c2 Try.results8 _ _ w.heap.size 36 _ (0, 0) _ rfl hrowz Try.underlying36 rfl Try.sizeRq) rfl ?_
      obtain rfl : D = none := by rw [← hD.out, hkn.out]; rfl
      exact ⟨_, rfl, RqOwnD.zero _ _, (T1 wz hkz).out⟩
    · replace hkn := hid hkn
      cases hdn : (!R.wrong && R.rest.isEmpty)
      · rw [hdn] at KD
        replace hdn := hid hdn
        go_wp2_with (first | (go_at_call 28; refine KD.out.mono ?_; rintro e w' ⟨rfl, rfl⟩) | (refine wpList_storeRowW rfl 36 _ _ rfl w.heap.size (rqC 0 0 0 0 (.slice none 0 0) (.slice none 0 0) (.slice none 0 0)) rfl rfl 36 _ hr3.out Try.sizeRq rfl (rqC_one rfl rfl rfl) ?_; intro wz hrowz hkz))
        refine bodyPost_ret (results_c2 Try.results8 _ _ w.heap.size 36 _ (0, 0) _ rfl hrowz Try.underlying36 rfl Try.sizeRq) rfl ?_
        obtain rfl : D = none := by
          have hx : (knO q.op && !R.wrong && R.rest.isEmpty) = false := by rw [hkn.out, Bool.true_and]; exact hdn.out
          rw [← hD.out, hx]; rfl
        exact ⟨_, rfl, RqOwnD.zero _ _, (T1 wz hkz).out⟩
      · rw [hdn] at KD
        replace hdn := hid hdn
        go_wp2_with (first | (go_at_call 28; refine KD.out.mono ?_; rintro e w' ⟨rfl, rfl⟩) | (refine wpList_load_row rfl 36 _ rfl w2.heap.size rfl 36 _ (0, 0) _ hv3.out Try.underlying36 rfl Try.sizeRq ?_) | (refine wpList_storeRowW rfl 36 _ _ rfl w.heap.size (rqC q.op q.ver q.oth q.lim kv hv bv) rfl rfl 36 _ hr3.out Try.sizeRq rfl C1.out ?_; intro wz hrowz hkz))
        refine bodyPost_ret (results_c2 Try.results8 _ _ w.heap.size 36 _ (0, 0) _ rfl hrowz Try.underlying36 rfl Try.sizeRq) rfl ?_
        obtain rfl : D = some q := by
          have hx : (knO q.op && !R.wrong && R.rest.isEmpty) = true := by rw [hkn.out, Bool.true_and]; exact hdn.out
          rw [← hD.out, hx]; rfl
        exact ⟨_, rfl, (T2 wz hkz).out, (T1 wz hkz).out⟩
theorem decode_any (w : World) (raw : List Int) (hy : Bys raw) (b o cap : Nat) (hS : Src w (some ⟨b, o, none⟩) cap raw) (hl : raw.length ≤ 140737488351232) :
    Calls Try.prog 8 #[.slice (some ⟨b, o, none⟩) raw.length cap] w fun e w' => ∃ v, e = .returned (.tuple #[v, .int .i64 (ecode (decP raw))]) ∧ RqOwn w' w.heap.size v ((decP raw).getD rq0) ∧ Below w.heap.size w w' :=
  (decodeD_any w raw hy b o cap hS hl).mono fun e w' ⟨v, h1, ⟨k, h, bb, h2, h3, h4, h5, _⟩, h6⟩ => ⟨v, h1, ⟨k, h, bb, h2, h3, h4, h5⟩, h6⟩
end Go.Proofs.Ytenfklcgkfaajaa
