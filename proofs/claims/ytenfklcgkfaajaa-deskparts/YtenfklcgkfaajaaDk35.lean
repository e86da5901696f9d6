import Derived.Test.YtenfklcgkfaajaaDc
import Derived.Test.YtenfklcgkfaajaaDd
import Derived.Test.YtenfklcgkfaajaaDk34f6
import Derived.Test.YtenfklcgkfaajaaDk34f7
namespace Go.Proofs.Ytenfklcgkfaajaa
set_option linter.unusedVariables false
set_option linter.unusedSimpArgs false
open Go.RowKit
attribute [local go_sem ↓] Go.wp_at_zero Go.wp_at_succ

theorem fields_any (w0 w : World) (g : Nat) (sp : Option Addr) (cap : Nat) (bs : List Int) (hy : Bys bs) (L : Lk) (h : LM w0 w g sp cap bs L) (op : Int) :
    Calls Try.prog 32 #[.pointer (some ⟨g, 0, none⟩), .int .i64 op, .agg (rpC rp0 (.slice none 0 0) (.slice none 0 0) (.slice none 0 0) (.slice none 0 0)).toArray] w fun e w' => ∃ vv rv lv cv, e = .returned (.agg (rpC (ffP op bs L).1 vv rv lv cv).toArray) ∧ (∃ ml mc, RpO w' w.heap.size (ffP op bs L).1 vv rv lv cv ml mc) ∧ LM w0 w' g sp cap bs (ffP op bs L).2 ∧ Keeps g w w' := by
  by_cases h1 : op = 1
  · exact fields_1 w0 w g sp cap bs hy L h op h1
  by_cases h2 : op = 2
  · cases hf : lyV bs L
    · exact fields_2n w0 w g sp cap bs hy L h op h2 hf
    · exact fields_2y w0 w g sp cap bs hy L h op h2 hf
  by_cases h3 : op = 3
  · exact fields_3 w0 w g sp cap bs hy L h op h3
  by_cases h4 : op = 4
  · exact fields_4 w0 w g sp cap bs hy L h op h4
  by_cases h5 : op = 5
  · exact fields_5 w0 w g sp cap bs hy L h op h5
  by_cases h6 : op = 6
  · exact fields_6 w0 w g sp cap bs hy L h op h6
  by_cases h7 : op = 7
  · exact fields_7 w0 w g sp cap bs hy L h op h7
  by_cases h8 : op = 8
  · exact fields_8 w0 w g sp cap bs hy L h op h8
  · exact fields_0 w0 w g sp cap bs hy L h op (by omega)
theorem built_rep (x : Int) : Try.prog.built 32 [(0, .int .i64 x)] = some (rpC { rp0 with err := x } (.slice none 0 0) (.slice none 0 0) (.slice none 0 0) (.slice none 0 0)).toArray := by kernel_rfl
/-- Told midway: its answer and the empty reply. -/
structure TQ (w wc : World) : Prop where
  ra : wc.heap[w.heap.size]? = some (.cells (rpC rp0 (.slice none 0 0) (.slice none 0 0) (.slice none 0 0) (.slice none 0 0)).toArray 32 (0, 0))
  rb : wc.heap[w.heap.size + 1]? = some (.cells (rpC rp0 (.slice none 0 0) (.slice none 0 0) (.slice none 0 0) (.slice none 0 0)).toArray 32 (0, 0))
  bel : Below w.heap.size w wc
theorem TQ.keeps {w wc w1 : World} {g : Nat} (h : TQ w wc) (k : Keeps g wc w1) (hg : w.heap.size + 2 ≤ g) : TQ w w1 :=
  ⟨k.heap h.ra (by omega), k.heap h.rb (by omega), h.bel.trans (k.below_g (by omega) h.bel.size)⟩
theorem TQ.below {w wc w1 : World} (h : TQ w wc) (k : Below wc.heap.size wc w1) : TQ w w1 :=
  ⟨hbel k h.ra (hlt h.ra), hbel k h.rb (hlt h.rb), h.bel.trans (k.mono h.bel.size)⟩
theorem repSizes {r : Rp} {vv rv lv cv : Value} (h : RpL r) : (Try.prog.info? 32).map (·.size) = some (rpC r vv rv lv cv).toArray.size ∧ (Try.prog.info? 32).map (·.size) = some (rpC r vv rv lv cv).length ∧ (rpC rp0 (.slice none 0 0) (.slice none 0 0) (.slice none 0 0) (.slice none 0 0)).length = (rpC r vv rv lv cv).length :=
  ⟨by rw [List.size_toArray, rpC_len h]; exact Try.sizeRep, by rw [rpC_len h]; exact Try.sizeRep, (rpC_len rp0_L).trans (rpC_len h).symm⟩
theorem rp0_one : ∀ v ∈ rpC rp0 (.slice none 0 0) (.slice none 0 0) (.slice none 0 0) (.slice none 0 0), v.oneCell' = true := rpC_one rfl rfl rfl rfl
set_option maxRecDepth 100000 in
set_option maxHeartbeats 4000000 in
theorem told_no (w : World) (sp : Option Addr) (cap : Nat) (n : Nat) (op : Int) (h0 : -9223372036854775808 ≤ op) (h1 : op ≤ 9223372036854775807) (hk : knO op = false) :
    Calls Try.prog 9 #[.int .i64 op, .slice sp n cap] w fun e w' => e = .returned (.tuple #[.agg (rpC rp0 (.slice none 0 0) (.slice none 0 0) (.slice none 0 0) (.slice none 0 0)).toArray, .int .i64 200]) ∧ Below w.heap.size w w' := by
  have T2 : TQ w ((w.alloc (.cells (rpC rp0 (.slice none 0 0) (.slice none 0 0) (.slice none 0 0) (.slice none 0 0)).toArray 32)).alloc (.cells (rpC rp0 (.slice none 0 0) (.slice none 0 0) (.slice none 0 0) (.slice none 0 0)).toArray 32)) := by
    refine ⟨hold (hnew w _), ?_, ((Below.refl _ _).alloc (Nat.le_refl _) _).alloc (by simp) _⟩
    have := hnew (w.alloc (.cells (rpC rp0 (.slice none 0 0) (.slice none 0 0) (.slice none 0 0) (.slice none 0 0)).toArray 32)) (.cells (rpC rp0 (.slice none 0 0) (.slice none 0 0) (.slice none 0 0) (.slice none 0 0)).toArray 32)
    rwa [show (w.alloc (.cells (rpC rp0 (.slice none 0 0) (.slice none 0 0) (.slice none 0 0) (.slice none 0 0)).toArray 32)).heap.size = w.heap.size + 1 by simp] at this
  have KP := hid (fun w => parts_any w op h0 h1)
  rw [(prt_shape op).2 hk] at KP
  clear hk
  obtain ⟨z1, z2, z3⟩ := repSizes (vv := .slice none 0 0) (rv := .slice none 0 0) (lv := .slice none 0 0) (cv := .slice none 0 0) rp0_L
  have Z1 := hid z1
  have Z2 := hid z2
  clear z1 z2 z3
  go_enter Try.func9, Try.ntmps9
  go_wp2_with (first | (refine wpList_allocV allocRep rfl rfl ?_) | (go_at_call 30; refine (KP.out _).mono ?_; rintro e w' ⟨rfl, rfl⟩; refine Hid.out ?_))
  refine hid ?_
  generalize ((w.alloc (.cells (rpC rp0 (.slice none 0 0) (.slice none 0 0) (.slice none 0 0) (.slice none 0 0)).toArray 32)).alloc (.cells (rpC rp0 (.slice none 0 0) (.slice none 0 0) (.slice none 0 0) (.slice none 0 0)).toArray 32)) = w2 at *
  have RA := hid T2.ra
  have RB := hid T2.rb
  go_wp2_with (first | (refine wpList_load_row rfl 32 _ rfl (w.heap.size + 1) rfl 32 _ (0, 0) _ RB.out Try.underlying32 rfl Z1.out ?_) | (refine wpList_storeRowW rfl 32 _ _ rfl w.heap.size (rpC rp0 (.slice none 0 0) (.slice none 0 0) (.slice none 0 0) (.slice none 0 0)) rfl rfl 32 _ RA.out Z2.out rfl rp0_one ?_; intro wz hrz hkz))
  exact bodyPost_ret (results_c2 Try.results9 _ _ w.heap.size 32 _ (0, 0) _ rfl hrz Try.underlying32 rfl Z1.out) rfl ⟨rfl, T2.bel.trans (hkz.below_g (Nat.le_refl _) T2.bel.size)⟩
set_option maxRecDepth 100000 in
set_option maxHeartbeats 4000000 in
theorem told_yes (w : World) (sp : Option Addr) (cap : Nat) (bs : List Int) (hy : Bys bs) (hS : Src w sp cap bs) (hl : bs.length ≤ 140737488351234) (op : Int) (h0 : -9223372036854775808 ≤ op) (h1 : op ≤ 9223372036854775807) (hk : knO op = true) :
    Calls Try.prog 9 #[.int .i64 op, .slice sp bs.length cap] w fun e w' => ∃ vv rv lv cv, e = .returned (.tuple #[.agg (rpC ((tlP op bs).getD rp0) vv rv lv cv).toArray, .int .i64 (ecode (tlP op bs))]) ∧ (∃ ml mc, RpO w' w.heap.size ((tlP op bs).getD rp0) vv rv lv cv ml mc) ∧ Below w.heap.size w w' := by
  have T2 : TQ w ((w.alloc (.cells (rpC rp0 (.slice none 0 0) (.slice none 0 0) (.slice none 0 0) (.slice none 0 0)).toArray 32)).alloc (.cells (rpC rp0 (.slice none 0 0) (.slice none 0 0) (.slice none 0 0) (.slice none 0 0)).toArray 32)) := by
    refine ⟨hold (hnew w _), ?_, ((Below.refl _ _).alloc (Nat.le_refl _) _).alloc (by simp) _⟩
    have := hnew (w.alloc (.cells (rpC rp0 (.slice none 0 0) (.slice none 0 0) (.slice none 0 0) (.slice none 0 0)).toArray 32)) (.cells (rpC rp0 (.slice none 0 0) (.slice none 0 0) (.slice none 0 0) (.slice none 0 0)).toArray 32)
    rwa [show (w.alloc (.cells (rpC rp0 (.slice none 0 0) (.slice none 0 0) (.slice none 0 0) (.slice none 0 0)).toArray 32)).heap.size = w.heap.size + 1 by simp] at this
  have hs2 : ((w.alloc (.cells (rpC rp0 (.slice none 0 0) (.slice none 0 0) (.slice none 0 0) (.slice none 0 0)).toArray 32)).alloc (.cells (rpC rp0 (.slice none 0 0) (.slice none 0 0) (.slice none 0 0) (.slice none 0 0)).toArray 32)).heap.size = w.heap.size + 2 := by simp
  have KP := hid (fun w => parts_any w op h0 h1)
  have hp : prt op ≠ -2 := fun e => by rw [(prt_shape op).1 e] at hk; cases hk
  have hpe : (prt op == -2) = false := beq_eq_false_iff_ne.2 hp
  generalize prt op = pn at *
  clear hp
  have HT := hid (show tlP op bs = if (!(lrP op bs ⟨0, false⟩).2.bad && decide ((lrP op bs ⟨0, false⟩).2.at_ = bs.length)) then some (lrP op bs ⟨0, false⟩).1 else none by unfold tlP; rw [hk, Bool.true_and])
  clear hk
  generalize hD : tlP op bs = D at *
  clear hD
  go_enter Try.func9, Try.ntmps9
  go_wp2_with (first | (refine wpList_allocV allocRep rfl rfl ?_) | (go_at_call 30; refine (KP.out _).mono ?_; rintro e w' ⟨rfl, rfl⟩; refine Hid.out ?_))
  refine hid ?_
  generalize ((w.alloc (.cells (rpC rp0 (.slice none 0 0) (.slice none 0 0) (.slice none 0 0) (.slice none 0 0)).toArray 32)).alloc (.cells (rpC rp0 (.slice none 0 0) (.slice none 0 0) (.slice none 0 0) (.slice none 0 0)).toArray 32)) = w2 at *
  have hb3 := (Below.refl w2.heap.size w2).alloc (Nat.le_refl _) (.cells #[.slice sp bs.length cap, .int .i64 0, .bool false] 89)
  have T3 := T2.below hb3
  have hge : w.heap.size + 2 ≤ w2.heap.size := by omega
  clear hs2
  have M3 : LM w (w2.alloc (.cells #[.slice sp bs.length cap, .int .i64 0, .bool false] 89)) w2.heap.size sp cap bs ⟨0, false⟩ := ⟨T3.bel, by omega, hnew w2 _, hS, Nat.zero_le _, hl⟩
  have KN := hid (num_any w _ w2.heap.size sp cap bs hy ⟨0, false⟩ M3 2 (by omega))
  unfold lrP at HT
  generalize lkN bs ⟨0, false⟩ 2 = x at *
  generalize lkS bs ⟨0, false⟩ 2 = L1 at *
  clear T2 hb3
  go_wp2_with fail
  refine KN.out.mono ?_
  generalize w2.alloc (.cells #[.slice sp bs.length cap, .int .i64 0, .bool false] 89) = w3 at *
  rintro e w4 ⟨rfl, M4, hk4⟩
  have T4 := T3.keeps hk4 hge
  obtain ⟨z1, z2, z3⟩ := repSizes (r := { rp0 with err := x }) (vv := .slice none 0 0) (rv := .slice none 0 0) (lv := .slice none 0 0) (cv := .slice none 0 0) ⟨z32_len, z32_len⟩
  have Z1 := hid z1
  have Z2 := hid z2
  have Z3 := hid z3
  have BR := hid (built_rep x)
  clear KN M3 T3 hk4 z1 z2 z3
  go_wp2_with (first
    | (refine wpList_built (by rfl) 32 _ rfl [(0, .int .i64 x)] rfl _ BR.out ?_)
    | (refine wpList_allocV allocRep rfl rfl ?_)
    | (refine wpList_storeRowW rfl 32 _ _ rfl w4.heap.size (rpC { rp0 with err := x } (.slice none 0 0) (.slice none 0 0) (.slice none 0 0) (.slice none 0 0)) rfl rfl 32 _ (hnew w4 (.cells (rpC rp0 (.slice none 0 0) (.slice none 0 0) (.slice none 0 0) (.slice none 0 0)).toArray 32)) Z2.out Z3.out (rpC_one rfl rfl rfl rfl) ?_; intro w5 hr5 hk5; refine Hid.out ?_))
  refine hid ?_
  have hb5 : Below w4.heap.size w4 w5 := ((Below.refl w4.heap.size w4).alloc (Nat.le_refl _) _).trans (hk5.below_g (Nat.le_refl _) (by simp))
  have T5 := T4.below hb5
  have M5 := M4.keep (hb5.mono M4.lt)
  have hg4 := M4.lt
  have hz5 := T5.bel.size
  have c5 : w5.cell? ⟨w4.heap.size, 0, none⟩ = some (.int .i64 x) := by rw [cell_of_row _ _ _ _ _ _ hr5]; rfl
  clear hk5 hb5 M4 T4 BR
  by_cases hx : x = 0
  · subst hx
    rw [if_pos rfl] at HT
    have KF := hid (fields_any w w5 w2.heap.size sp cap bs hy L1 M5 op)
    generalize ffP op bs L1 = rL at *
    obtain ⟨r, LF⟩ := rL
    simp only at KF HT
    have R5 := hid hr5
    go_wp2_with (first
      | (refine wpList_load_row rfl 32 _ rfl w4.heap.size rfl 32 _ (0, 0) _ R5.out Try.underlying32 rfl Z1.out ?_)
      | (go_at_call 32; refine KF.out.mono ?_; rintro e w6 ⟨vv, rv, lv, cv, rfl, ⟨ml, mc, O6⟩, M6, hk6⟩; refine Hid.out ?_))
    refine hid ?_
    have T6 := T5.keeps hk6 hge
    have hr6 := hid (hk6.heap hr5 (by omega))
    obtain ⟨y1, y2, y3⟩ := repSizes (vv := vv) (rv := rv) (lv := lv) (cv := cv) O6.l
    have Y1 := hid y1
    have Y2 := hid y2
    have Y3 := hid y3
    have Y4 := hid O6.one
    clear KF R5 hr5 y1 y2 y3 M5 T5 c5
    go_wp2_with (first | (refine wpList_storeRowW rfl 32 _ _ rfl w4.heap.size (rpC r vv rv lv cv) rfl rfl 32 _ hr6.out Y2.out Y3.out Y4.out ?_; intro w7 hr7 hk7; refine Hid.out ?_))
    refine hid ?_
    have T7 := T6.keeps hk7 (by omega)
    have M7 := M6.keep2 hk7 (by omega) (by omega)
    have O7 := (O6.far hr6.out hk7).lower hz5
    clear hk6 M6 T6 O6 hr6 hk7
    obtain ⟨c0, c1, c2, fz⟩ := M7.cells
    have RA := hid T7.ra
    have RB := hid T7.rb
    have R7 := hid hr7
    have hpl := M7.pl
    have i1 : (LF.at_ : Int) ≤ (bs.length : Int) := by omega
    have i2 : (bs.length : Int) ≤ 140737488351234 := by omega
    obtain ⟨y1, y2, y3⟩ := repSizes (r := r) (vv := vv) (rv := rv) (lv := lv) (cv := cv) O7.l
    have Y1 := hid y1
    have Y2 := hid y2
    have Y3 := hid y3
    have Y4 := hid O7.one
    obtain ⟨u1, u2, u3⟩ := repSizes (vv := .slice none 0 0) (rv := .slice none 0 0) (lv := .slice none 0 0) (cv := .slice none 0 0) rp0_L
    have U1 := hid u1
    have U2 := hid u2
    clear hr7 y1 y2 y3 u1 u2 u3
    cases hb : LF.bad with
    | true =>
      rw [hb] at c2
      have HD := hid (show D = none by rw [HT.out, hb]; rfl)
      clear hb
      go_wp2_with (first | (refine wpList_load_row rfl 32 _ rfl (w.heap.size + 1) rfl 32 _ (0, 0) _ RB.out Try.underlying32 rfl U1.out ?_) | (refine wpList_storeRowW rfl 32 _ _ rfl w.heap.size (rpC rp0 (.slice none 0 0) (.slice none 0 0) (.slice none 0 0) (.slice none 0 0)) rfl rfl 32 _ RA.out U2.out rfl rp0_one ?_; intro wz hrz hkz))
      refine bodyPost_ret (results_c2 Try.results9 _ _ w.heap.size 32 _ (0, 0) _ rfl hrz Try.underlying32 rfl U1.out) rfl ?_
      obtain rfl : D = none := HD.out
      exact ⟨_, _, _, _, rfl, ⟨_, _, RpO.zero _ _⟩, T7.bel.trans (hkz.below_g (Nat.le_refl _) T7.bel.size)⟩
    | false =>
      rw [hb] at c2
      by_cases ha : LF.at_ = bs.length
      · have HD := hid (show D = some r by rw [HT.out, hb, decide_eq_true ha]; rfl)
        have ea : ((LF.at_ : Int) == (bs.length : Int)) = true := beq_iff_eq.2 (by omega)
        have eb : ((LF.at_ : Int) != (bs.length : Int)) = false := by rw [bne, ea]; rfl
        clear hb ha
        go_wp2_with (first | (refine wpList_load_row rfl 32 _ rfl w4.heap.size rfl 32 _ (0, 0) _ R7.out Try.underlying32 rfl Y1.out ?_) | (refine wpList_storeRowW rfl 32 _ _ rfl w.heap.size (rpC r vv rv lv cv) rfl rfl 32 _ RA.out Y2.out Y3.out Y4.out ?_; intro wz hrz hkz))
        refine bodyPost_ret (results_c2 Try.results9 _ _ w.heap.size 32 _ (0, 0) _ rfl hrz Try.underlying32 rfl Y1.out) rfl ?_
        obtain rfl : D = some r := HD.out
        exact ⟨_, _, _, _, rfl, ⟨_, _, O7.far RA.out hkz⟩, T7.bel.trans (hkz.below_g (Nat.le_refl _) T7.bel.size)⟩
      · have HD := hid (show D = none by rw [HT.out, hb, decide_eq_false ha]; rfl)
        have ea : ((LF.at_ : Int) == (bs.length : Int)) = false := beq_eq_false_iff_ne.2 (by omega)
        have eb : ((LF.at_ : Int) != (bs.length : Int)) = true := by rw [bne, ea]; rfl
        clear hb ha
        go_wp2_with (first | (refine wpList_load_row rfl 32 _ rfl (w.heap.size + 1) rfl 32 _ (0, 0) _ RB.out Try.underlying32 rfl U1.out ?_) | (refine wpList_storeRowW rfl 32 _ _ rfl w.heap.size (rpC rp0 (.slice none 0 0) (.slice none 0 0) (.slice none 0 0) (.slice none 0 0)) rfl rfl 32 _ RA.out U2.out rfl rp0_one ?_; intro wz hrz hkz))
        refine bodyPost_ret (results_c2 Try.results9 _ _ w.heap.size 32 _ (0, 0) _ rfl hrz Try.underlying32 rfl U1.out) rfl ?_
        obtain rfl : D = none := HD.out
        exact ⟨_, _, _, _, rfl, ⟨_, _, RpO.zero _ _⟩, T7.bel.trans (hkz.below_g (Nat.le_refl _) T7.bel.size)⟩
  · rw [if_neg hx] at HT
    have e5 : (x == 0) = false := beq_eq_false_iff_ne.2 hx
    have O5 : RpO w5 w.heap.size { rp0 with err := x } (.slice none 0 0) (.slice none 0 0) (.slice none 0 0) (.slice none 0 0) [] [] := ⟨⟨z32_len, z32_len⟩, Own.nil _ _, Own.nil _ _, ElO.nil _ _ _, ElO.nil _ _ _⟩
    clear hx
    obtain ⟨c0, c1, c2, fz⟩ := M5.cells
    have RA := hid T5.ra
    have RB := hid T5.rb
    have R7 := hid hr5
    have hpl := M5.pl
    have i1 : (L1.at_ : Int) ≤ (bs.length : Int) := by omega
    have i2 : (bs.length : Int) ≤ 140737488351234 := by omega
    obtain ⟨y1, y2, y3⟩ := repSizes (r := { rp0 with err := x }) (vv := (.slice none 0 0)) (rv := (.slice none 0 0)) (lv := (.slice none 0 0)) (cv := (.slice none 0 0)) O5.l
    have Y1 := hid y1
    have Y2 := hid y2
    have Y3 := hid y3
    have Y4 := hid O5.one
    obtain ⟨u1, u2, u3⟩ := repSizes (vv := .slice none 0 0) (rv := .slice none 0 0) (lv := .slice none 0 0) (cv := .slice none 0 0) rp0_L
    have U1 := hid u1
    have U2 := hid u2
    clear hr5 y1 y2 y3 u1 u2 u3
    cases hb : L1.bad with
    | true =>
      rw [hb] at c2
      have HD := hid (show D = none by rw [HT.out, hb]; rfl)
      clear hb
      go_wp2_with (first | (refine wpList_load_row rfl 32 _ rfl (w.heap.size + 1) rfl 32 _ (0, 0) _ RB.out Try.underlying32 rfl U1.out ?_) | (refine wpList_storeRowW rfl 32 _ _ rfl w.heap.size (rpC rp0 (.slice none 0 0) (.slice none 0 0) (.slice none 0 0) (.slice none 0 0)) rfl rfl 32 _ RA.out U2.out rfl rp0_one ?_; intro wz hrz hkz))
      refine bodyPost_ret (results_c2 Try.results9 _ _ w.heap.size 32 _ (0, 0) _ rfl hrz Try.underlying32 rfl U1.out) rfl ?_
      obtain rfl : D = none := HD.out
      exact ⟨_, _, _, _, rfl, ⟨_, _, RpO.zero _ _⟩, T5.bel.trans (hkz.below_g (Nat.le_refl _) T5.bel.size)⟩
    | false =>
      rw [hb] at c2
      by_cases ha : L1.at_ = bs.length
      · have HD := hid (show D = some { rp0 with err := x } by rw [HT.out, hb, decide_eq_true ha]; rfl)
        have ea : ((L1.at_ : Int) == (bs.length : Int)) = true := beq_iff_eq.2 (by omega)
        have eb : ((L1.at_ : Int) != (bs.length : Int)) = false := by rw [bne, ea]; rfl
        clear hb ha
        go_wp2_with (first | (refine wpList_load_row rfl 32 _ rfl w4.heap.size rfl 32 _ (0, 0) _ R7.out Try.underlying32 rfl Y1.out ?_) | (refine wpList_storeRowW rfl 32 _ _ rfl w.heap.size (rpC { rp0 with err := x } (.slice none 0 0) (.slice none 0 0) (.slice none 0 0) (.slice none 0 0)) rfl rfl 32 _ RA.out Y2.out Y3.out Y4.out ?_; intro wz hrz hkz))
        refine bodyPost_ret (results_c2 Try.results9 _ _ w.heap.size 32 _ (0, 0) _ rfl hrz Try.underlying32 rfl Y1.out) rfl ?_
        obtain rfl : D = some { rp0 with err := x } := HD.out
        exact ⟨_, _, _, _, rfl, ⟨_, _, O5.far RA.out hkz⟩, T5.bel.trans (hkz.below_g (Nat.le_refl _) T5.bel.size)⟩
      · have HD := hid (show D = none by rw [HT.out, hb, decide_eq_false ha]; rfl)
        have ea : ((L1.at_ : Int) == (bs.length : Int)) = false := beq_eq_false_iff_ne.2 (by omega)
        have eb : ((L1.at_ : Int) != (bs.length : Int)) = true := by rw [bne, ea]; rfl
        clear hb ha
        go_wp2_with (first | (refine wpList_load_row rfl 32 _ rfl (w.heap.size + 1) rfl 32 _ (0, 0) _ RB.out Try.underlying32 rfl U1.out ?_) | (refine wpList_storeRowW rfl 32 _ _ rfl w.heap.size (rpC rp0 (.slice none 0 0) (.slice none 0 0) (.slice none 0 0) (.slice none 0 0)) rfl rfl 32 _ RA.out U2.out rfl rp0_one ?_; intro wz hrz hkz))
        refine bodyPost_ret (results_c2 Try.results9 _ _ w.heap.size 32 _ (0, 0) _ rfl hrz Try.underlying32 rfl U1.out) rfl ?_
        obtain rfl : D = none := HD.out
        exact ⟨_, _, _, _, rfl, ⟨_, _, RpO.zero _ _⟩, T5.bel.trans (hkz.below_g (Nat.le_refl _) T5.bel.size)⟩
theorem told_any (w : World) (sp : Option Addr) (cap : Nat) (bs : List Int) (hy : Bys bs) (hS : Src w sp cap bs) (hl : bs.length ≤ 140737488351234) (op : Int) (h0 : -9223372036854775808 ≤ op) (h1 : op ≤ 9223372036854775807) :
    Calls Try.prog 9 #[.int .i64 op, .slice sp bs.length cap] w fun e w' => ∃ vv rv lv cv, e = .returned (.tuple #[.agg (rpC ((tlP op bs).getD rp0) vv rv lv cv).toArray, .int .i64 (ecode (tlP op bs))]) ∧ (∃ ml mc, RpO w' w.heap.size ((tlP op bs).getD rp0) vv rv lv cv ml mc) ∧ Below w.heap.size w w' := by
  cases hk : knO op with
  | true => exact told_yes w sp cap bs hy hS hl op h0 h1 hk
  | false =>
    have e : tlP op bs = none := by unfold tlP; rw [hk]; rfl
    rw [e]
    exact (told_no w sp cap bs.length op h0 h1 hk).mono fun e w' h => ⟨_, _, _, _, h.1, ⟨_, _, RpO.zero _ _⟩, h.2⟩
end Go.Proofs.Ytenfklcgkfaajaa
