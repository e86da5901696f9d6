import Derived.Test.YthdjgpdgedhonaaDk31
namespace Go.Proofs.Ythdjgpdgedhonaa
set_option linter.unusedVariables false
set_option linter.unusedSimpArgs false
open Go.RowKit
attribute [local go_sem ↓] Go.wp_at_zero Go.wp_at_succ

set_option maxRecDepth 100000 in
set_option maxHeartbeats 800000 in
theorem yes_any (w0 w : World) (g : Nat) (sp : Option Addr) (cap : Nat) (bs : List Int) (hy : Bys bs) (L : Lk) (h : LM w0 w g sp cap bs L) :
    Calls Try.prog 50 #[.pointer (some ⟨g, 0, none⟩)] w fun e w' => e = .returned (.bool (lyV bs L)) ∧ LM w0 w' g sp cap bs (lyS bs L) ∧ Keeps g w w' := by
  have KN := hid (num_any w0 w g sp cap bs hy L h 1 (by omega))
  unfold lyV lyS
  generalize lkN bs L 1 = x at *
  generalize lkS bs L 1 = L1 at *
  clear h
  by_cases hx : 1 < x
  · simp only [if_pos hx]
    go_enter Try.func50, Try.ntmps50
    go_wp2_with fail
    refine KN.out.mono ?_
    rintro e w1 ⟨rfl, hM, hk⟩
    obtain ⟨c0, c1, c2, fz⟩ := hM.cells
    have HX := hid hM.bad
    clear KN
    go_wp2
    go_ret
    exact ⟨rfl, HX.out.1, hk.trans HX.out.2⟩
  · simp only [if_neg hx]
    go_enter Try.func50, Try.ntmps50
    go_wp2_with fail
    refine KN.out.mono ?_
    rintro e w1 ⟨rfl, hM, hk⟩
    clear KN
    go_wp2
    go_ret
    exact ⟨rfl, hM, hk⟩
theorem lkN_bd {bs : List Int} (hy : Bys bs) (L : Lk) (n : Nat) (hn : n ≤ 7) : 0 ≤ lkN bs L n ∧ lkN bs L n < 256 ^ n := by
  unfold lkN
  split
  · exact ⟨Int.le_refl _, by rw [← pw256]; exact Int.natCast_pos.2 (Nat.pow_pos (by omega))⟩
  · have := leN_small (cutL_bys hy L.at_ n) n (by unfold cutL; rw [List.length_take]; omega) hn
    unfold hiL; rw [this.2.2]; exact ⟨this.1, this.2.1⟩
set_option maxRecDepth 100000 in
set_option maxHeartbeats 800000 in
theorem count_any (w0 w : World) (g : Nat) (sp : Option Addr) (cap : Nat) (bs : List Int) (hy : Bys bs) (L : Lk) (h : LM w0 w g sp cap bs L) :
    Calls Try.prog 54 #[.pointer (some ⟨g, 0, none⟩)] w fun e w' => e = .returned (.int .i64 (lcV bs L)) ∧ LM w0 w' g sp cap bs (lcS bs L) ∧ Keeps g w w' := by
  have KN := hid (num_any w0 w g sp cap bs hy L h 4 (by omega))
  have hb := (lkN_bd hy L 4 (by omega)).1
  unfold lcV lcS
  generalize lkN bs L 4 = x at *
  generalize lkS bs L 4 = L1 at *
  clear h
  by_cases hx : 4096 < x
  · simp only [if_pos hx]
    go_enter Try.func54, Try.ntmps54
    go_wp2_with fail
    refine KN.out.mono ?_
    rintro e w1 ⟨rfl, hM, hk⟩
    obtain ⟨c0, c1, c2, fz⟩ := hM.cells
    have HX := hid hM.bad
    clear KN
    go_wp2
    go_ret
    exact ⟨rfl, HX.out.1, hk.trans HX.out.2⟩
  · simp only [if_neg hx]
    rw [Int.toNat_of_nonneg hb]
    go_enter Try.func54, Try.ntmps54
    go_wp2_with fail
    refine KN.out.mono ?_
    rintro e w1 ⟨rfl, hM, hk⟩
    clear KN
    go_wp2
    go_ret
    exact ⟨rfl, hM, hk⟩
set_option maxRecDepth 100000 in
set_option maxHeartbeats 800000 in
theorem lval_any (w0 w : World) (g : Nat) (sp : Option Addr) (cap : Nat) (bs : List Int) (hy : Bys bs) (L : Lk) (h : LM w0 w g sp cap bs L) :
    Calls Try.prog 51 #[.pointer (some ⟨g, 0, none⟩)] w fun e w' => ∃ v, e = .returned v ∧ Own w' w.heap.size v (lvV bs L) ∧ LM w0 w' g sp cap bs (lvS bs L) ∧ Keeps g w w' := by
  have KN := hid (num_any w0 w g sp cap bs hy L h 2 (by omega))
  have hb := (lkN_bd hy L 2 (by omega)).1
  unfold lvV lvS
  by_cases hx : 128 < lkN bs L 2
  · simp only [if_pos hx]
    generalize lkN bs L 2 = x at *
    generalize lkS bs L 2 = L1 at *
    go_enter Try.func51, Try.ntmps51
    go_wp2_with fail
    refine KN.out.mono ?_
    rintro e w1 ⟨rfl, hM, hk⟩
    obtain ⟨c0, c1, c2, fz⟩ := hM.cells
    have HX := hid hM.bad
    clear KN
    go_wp2
    go_ret
    exact ⟨_, rfl, Own.nil _ _, HX.out.1, hk.trans HX.out.2⟩
  · simp only [if_neg hx]
    have KS := hid (fun (w1 : World) (h1 : LM w0 w1 g sp cap bs (lkS bs L 2)) => some_any w0 w1 g sp cap bs (lkS bs L 2) h1 (lkN bs L 2).toNat (by omega))
    rw [Int.toNat_of_nonneg hb] at KS
    generalize lkN bs L 2 = x at *
    generalize lkS bs L 2 = L1 at *
    go_enter Try.func51, Try.ntmps51
    go_wp2_with fail
    refine KN.out.mono ?_
    rintro e w1 ⟨rfl, hM, hk⟩
    clear KN
    go_wp2_with fail
    refine (KS.out w1 hM).mono ?_
    rintro e w2 ⟨v2, rfl, O2, hM2, hk2⟩
    clear KS
    go_wp2
    go_ret
    exact ⟨_, rfl, own_lower O2 hk.size, hM2, hk.trans hk2⟩
end Go.Proofs.Ythdjgpdgedhonaa
