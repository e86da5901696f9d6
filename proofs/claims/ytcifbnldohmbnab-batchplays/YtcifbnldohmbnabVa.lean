import Derived.Test.YtcifbnldohmbnabPc
namespace Go.Proofs.Ytcifbnldohmbnab
set_option linter.unusedVariables false
set_option linter.unusedSimpArgs false
open Go.RowKit
attribute [local go_sem ↓] Go.wp_at_zero Go.wp_at_succ

theorem hnew3 (w : World) (A B C : Obj) : (((w.alloc A).alloc B).alloc C).heap[w.heap.size + 1 + 1]? = some C := by have := hnew ((w.alloc A).alloc B) C; simpa using this
theorem below3Z (w : World) (A B C : Obj) : Below w.heap.size w (((w.alloc A).alloc B).alloc C) := (below2Z w A B).alloc (by simp; omega) _
def RPpost (w : World) (c : Chg) (e : Ending) (w' : World) : Prop := ∃ m : MC, e = .returned (.agg (encM m).toArray) ∧ m.key = c.key ∧ c.key.length = 32 ∧ m.del = c.del ∧ Own w' w.heap.size m.sv (plainC c).val ∧ Below w.heap.size w w'
theorem heap_row_far {w : World} {i g : Nat} {x : Obj} (h : w.heap[i]? = some x) (cs : Array Value) (hne : g ≠ i) : (w.setRow g cs).heap[i]? = some x := by
  rw [← h]
  unfold World.setRow
  simp only [Array.getElem?_modify, if_neg hne]
theorem enc_rowK {w : World} {g t : Nat} {fr : Nat × Nat} {m : MC} (h : w.heap[g]? = some (.cells (encM m).toArray t fr)) (hk : m.key.length = 32) : w.rangeAt g 0 (ints .u8 m.key) := fun j v hv => by
  have hj := (List.getElem?_eq_some_iff.1 hv).1
  simp [ints] at hj
  rw [Nat.zero_add, enc_cell h j hj]
  simp only [ints, List.getElem?_map, List.getElem?_eq_getElem hj] at hv
  rw [List.getD_eq_getElem?_getD, List.getElem?_eq_getElem hj]
  exact hv
set_option maxRecDepth 100000 in
set_option maxHeartbeats 1000000 in
theorem rplain_any (w : World) (m : MC) (c : Chg) (hs : Says w m c) (hv : c.val.length ≤ 140737488355000) :
    Calls Try.prog 65 #[.agg (encM m).toArray] w (RPpost w c) := by
  obtain ⟨Z, hZ⟩ : ∃ Z, Z = encM dM := ⟨_, rfl⟩
  have SO := hid (show Z.toArray.size = 34 by rw [hZ]; simpa using encD_len)
  have HZ := hid hZ
  clear hZ
  have g0 := hnew w (.cells (encM m).toArray 52)
  have g1 := hnew2 w (.cells (encM m).toArray 52) (.cells Z.toArray 52)
  have g2 := hold (o := .cells Z.toArray 52) g0
  have lm := hs.2.1
  obtain ⟨M1, hM1⟩ : ∃ M1, M1 = encM ⟨c.key, c.del, .slice none 0 0⟩ := ⟨_, rfl⟩
  have S1 := hid (show M1.toArray.size = 34 by rw [hM1]; simpa using enc_len32 ⟨c.key, c.del, .slice none 0 0⟩ lm)
  have om : ∀ v ∈ M1, v.oneCell' = true := by rw [hM1]; exact one_encM _ rfl
  have cd := enc_del hs g2
  have cd3 := enc_del hs (hold (o := .cells M1.toArray 52) g2)
  have cv3 := enc_val hs (hold (o := .cells M1.toArray 52) g2)
  have rk : (((w.alloc (.cells (encM m).toArray 52)).alloc (.cells Z.toArray 52))).rangeAt w.heap.size 0 (ints .u8 c.key) := by
    have := enc_rowK g2 (by rw [hs.1]; exact lm)
    rwa [hs.1] at this
  have hik : (Try.prog.info? 26).map (·.size) = some (ints .u8 c.key).length := by rw [keySize, ints_len, lm]
  have g4 := hnew3 w (.cells (encM m).toArray 52) (.cells Z.toArray 52) (.cells M1.toArray 52)
  have g5 := hold (o := .cells M1.toArray 52) g1
  have hB3 := below3Z w (.cells (encM m).toArray 52) (.cells Z.toArray 52) (.cells M1.toArray 52)
  have HM1 := hid hM1
  have hsz : w.heap.size + 1 + 1 < ((((w.alloc (.cells (encM m).toArray 52)).alloc (.cells Z.toArray 52))).alloc (.cells M1.toArray 52)).heap.size := by simp
  obtain ⟨_, _, _, sp, cap, hsv, hnil, hsrc⟩ := id hs
  cases hd : c.del with
  | true =>
    rw [hd] at cd cd3 hM1
    go_enter Try.func65, Try.ntmps65
    go_wp2_with (first
      | refine wpList_allocZ rfl rfl Z HZ.out ?_
      | refine wpList_load_mid rfl 26 _ rfl w.heap.size 0 rfl (ints .u8 c.key) _ rk Try.underlying26 rfl hik ?_
      | (refine wpList_build_del rfl _ _ rfl c.key lm true rfl rfl ?_; rw [← hM1]; clear hM1)
      | (refine wpList_store_row rfl 52 (.tmp 3) _ rfl _ _ rfl rfl 52 _ (by exact hnew _ _) (by rw [chgSize, S1.out]) (by simp only [S1.out, SO.out]) (all_oneCell_toArray om) ?_; rw [setRow_alloc])
      | refine wpList_load_row rfl 52 _ rfl _ rfl 52 _ _ _ (by exact g4) Try.underlying52 rfl (by rw [chgSize, S1.out]) ?_
      | refine wpList_store_row rfl 52 (.tmp 2) _ rfl _ _ rfl rfl 52 _ (by exact g5) (by rw [chgSize, S1.out]) (by simp only [S1.out, SO.out]) (all_oneCell_toArray om) ?_)
    refine bodyPost_ret (results_cell_row Try.results65 _ _ (w.heap.size + 1) 52 _ _ _ rfl (setRow_heap _ _ _ _ _ _ g5) Try.underlying52 rfl (by rw [chgSize, S1.out])) rfl ?_
    refine ⟨⟨c.key, c.del, .slice none 0 0⟩, by rw [HM1.out], rfl, lm, rfl, ?_, below_setRow hB3 (by omega) _⟩
    have : (plainC c).val = [] := by simp [plainC, hd]
    rw [this]; exact Own.nil _ _
  | false =>
    rw [hd] at cd cd3 hM1
    have hpv : (plainC c).val = c.val := by simp [plainC, hd]
    have HPV := hid hpv
    have KB := hid (rbytes_any _ c.val sp cap (hsrc.below hB3 (Nat.le_refl _)) hv)
    rw [hsv] at cv3
    clear hpv
    go_enter Try.func65, Try.ntmps65
    go_wp2_with (first
      | refine wpList_allocZ rfl rfl Z HZ.out ?_
      | refine wpList_load_mid rfl 26 _ rfl w.heap.size 0 rfl (ints .u8 c.key) _ rk Try.underlying26 rfl hik ?_
      | (refine wpList_build_del rfl _ _ rfl c.key lm false rfl rfl ?_; rw [← hM1]; clear hM1)
      | (refine wpList_store_row rfl 52 (.tmp 3) _ rfl _ _ rfl rfl 52 _ (by exact hnew _ _) (by rw [chgSize, S1.out]) (by simp only [S1.out, SO.out]) (all_oneCell_toArray om) ?_; rw [setRow_alloc]))
    refine KB.out.mono ?_
    rintro e w4 ⟨v9, rfl, hO9, hb9⟩
    clear KB
    obtain ⟨sp9, cap9, rfl, _, _⟩ := id hO9.form
    have f1 := hbel hb9 g4 hsz
    have f2 := hbel hb9 g5 (by omega)
    rw [HM1.out] at f1
    have f3 : Below w.heap.size w w4 := hB3.trans (hb9.mono (by omega))
    have hO8 := hO9.base (show w.heap.size ≤ _ by omega)
    have fz := frozen_of_row _ _ 33 _ _ f1
    have c3 := enc_cellV f1 lm
    simp only at c3
    have f4 := heap_enc_v f1 (.slice sp9 c.val.length cap9) lm
    simp only at f4
    have f5 := heap_set_far f2 ⟨w.heap.size + 1 + 1, 33, none⟩ (.slice sp9 c.val.length cap9) (by simp)
    have f6 : Below w.heap.size w (w4.setCell ⟨w.heap.size + 1 + 1, 33, none⟩ (.slice sp9 c.val.length cap9)) := f3.setCell (by simp; omega) _
    have f7 : Own (w4.setCell ⟨w.heap.size + 1 + 1, 33, none⟩ (.slice sp9 c.val.length cap9)) w.heap.size (.slice sp9 c.val.length cap9) c.val := hO8.of_heap fun q e => by obtain ⟨_, x, hx⟩ := hO8.ne_chg q e; rw [hx]; exact heap_set_far hx _ _ (fun e => ne_of_type hx f1 (by decide) e)
    have om2 : ∀ v ∈ encM ⟨c.key, c.del, .slice sp9 c.val.length cap9⟩, v.oneCell' = true := one_encM _ rfl
    have S2 := hid (show (encM ⟨c.key, c.del, .slice sp9 c.val.length cap9⟩).toArray.size = 34 by simpa using enc_len32 ⟨c.key, c.del, .slice sp9 c.val.length cap9⟩ lm)
    clear cd cd3 cv3 hB3 hb9 hO9 hO8 f3 g4 g5 rk
    go_wp2_with (first
      | refine wpList_load_row rfl 52 _ rfl _ rfl 52 _ _ _ (by exact f4) Try.underlying52 rfl (by rw [chgSize, S2.out]) ?_
      | refine wpList_store_row rfl 52 (.tmp 2) _ rfl _ _ rfl rfl 52 _ (by exact f5) (by rw [chgSize, S2.out]) (by simp only [S2.out, SO.out]) (all_oneCell_toArray om2) ?_)
    refine bodyPost_ret (results_cell_row Try.results65 _ _ (w.heap.size + 1) 52 _ _ _ rfl (setRow_heap _ _ _ _ _ _ f5) Try.underlying52 rfl (by rw [chgSize, S2.out])) rfl ?_
    refine ⟨⟨c.key, c.del, .slice sp9 c.val.length cap9⟩, rfl, rfl, lm, rfl, ?_, below_setRow f6 (by omega) _⟩
    rw [HPV.out]
    exact f7.of_heap fun q e => by obtain ⟨_, x, hx⟩ := f7.ne_chg q e; rw [hx]; exact heap_row_far hx _ (fun e => ne_of_type hx f5 (by decide) e.symm)
end Go.Proofs.Ytcifbnldohmbnab
