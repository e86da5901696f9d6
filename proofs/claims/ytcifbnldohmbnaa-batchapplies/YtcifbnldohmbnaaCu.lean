import Derived.Test.YtcifbnldohmbnaaCt
namespace Go.Proofs.Ytcifbnldohmbnaa
set_option linter.unusedVariables false
set_option linter.unusedSimpArgs false
open Go.RowKit
attribute [local go_sem ↓] Go.wp_at_zero Go.wp_at_succ

theorem step_store {P : Program} {ops : Array Oper} {o : Oper} {a : Act} {w : World} {K : Act → World → Prop} {Q : Exit → Act → World → Prop} {E : Prop} (hw : Region.wanted o (yielded ops a.tmps) = true) (ty : TypeId) (x y : Operand) (ho : o.op = .store ty x y)
    (g : Nat) (cells : Array Value) (hx : a.eval x = .pointer (some ⟨g, 0, none⟩)) (hy : a.eval y = .agg cells)
    (t : TypeId) (old : Array Value) (hg : w.heap[g]? = some (.cells old t (0, 0))) (hi : (P.info? ty).map (·.size) = some cells.size)
    (hold : old.size = cells.size) (h1 : cells.all (·.oneCell') = true)
    (h : K (a.put o.dst undef) (w.setRow g cells)) : if Region.wanted o (yielded ops a.tmps) = true then Oper.wp P o a w K Q else E := by
  rw [if_pos hw]
  exact wp_store_row ty x y ho g cells hx hy t old hg hi hold h1 h
set_option maxRecDepth 100000 in
set_option maxHeartbeats 1000000 in
theorem parseChange_err3 (w : World) (z : List Int) (sp : Option Addr) (cap : Nat) (hS : Src w sp cap z) (hy : Byts z) (hl35 : 35 ≤ z.length) (h2 : z.getD 0 0 = 1) (h128 : 128 < z.getD 33 0 + 256 * z.getD 34 0) :
    Calls Try.prog 42 #[.slice sp z.length cap] w (PCpost w z) := by
  have HO := hid (show (one z).e = 32 ∧ (one z).n = 0 by unfold one; rw [if_neg (by omega), if_neg (by omega), if_neg (by omega), if_pos h128]; exact ⟨rfl, rfl⟩)
  obtain ⟨hc, hm, b, o, hb, hsp, hsrc⟩ := id hS
  unfold maxLen at hm
  have i0 : (z.length : Int) ≤ 9223372036854775807 := by omega
  obtain rfl := hsp (by omega)
  have hbl := hb (by omega)
  obtain ⟨Z, hZ⟩ : ∃ Z, Z = encM dM := ⟨_, rfl⟩
  have SO := hid (show Z.toArray.size = 34 by rw [hZ]; simpa using encD_len)
  have oo : ∀ v ∈ Z, v.oneCell' = true := by rw [hZ]; decide
  have HZ := hid hZ
  have lk : ((z.drop 1).take 32).length = 32 := by rw [List.length_take, List.length_drop]; omega
  have rk := Src.row (cap := cap) hsrc 1 32 (by omega)
  have hB : Below w.heap.size w (w.alloc (.cells Z.toArray 40)) := (Below.refl _ _).alloc (Nat.le_refl _) _
  have c0 := (hB.cell (p := ⟨b, o, none⟩) hbl).trans (hsrc 0 (by omega))
  rw [h2] at c0
  have rk1 := rng_below rk hB hbl
  generalize hkk : (z.drop 1).take 32 = k at *
  have SK := hid (show (ints .u8 k).toArray.size = 32 by simp [ints, lk])
  have hik : (Try.prog.info? 24).map (·.size) = some (ints .u8 k).length := by rw [keySize, ints_len, lk]
  have ok : ∀ v ∈ ints .u8 k, v.oneCell' = true := ints_one _ _
  have g1 := hnew w (.cells Z.toArray 40)
  have g2 := hnew2 w (.cells Z.toArray 40) (.cells (ints .u8 k).toArray 24)
  have g3 := hold2 w (.cells Z.toArray 40) (.cells (ints .u8 k).toArray 24)
  have hB2 : Below w.heap.size w ((w.alloc (.cells Z.toArray 40)).alloc (.cells (ints .u8 k).toArray 24)) := hB.alloc (by simp) _
  have hn1 : ¬ cap = 1 := by omega
  have hl' : ¬ (z.length : Int) < 33 := by omega
  have hl2 : (0 : Int) < (z.length : Int) := by omega
  have hcap : (33 : Int) ≤ (cap : Int) := by omega
  have c1 := (hB2.cell (p := ⟨b, o, none⟩) hbl).trans (hsrc 0 (by omega))
  rw [h2] at c1
  have hat : ∀ w, (Instr.arrayAt 24 (.slice (some ⟨b, o + 1, none⟩) 32 (cap - 1))).run Try.prog w = .ok (.pointer (some ⟨b, o + 1, none⟩)) w := fun w => run_arrayAt w 24 5 32 (some ⟨b, o + 1, none⟩) 32 (cap - 1) Try.underlying24 (Nat.le_refl _)
  have hn33 : ¬ cap = 33 := by omega
  have hl5 : ¬ (z.length : Int) < 35 := by omega
  have hl3 : (33 : Int) ≤ (z.length : Int) := by omega
  have hcap2 : (33 : Int) ≤ (cap : Int) := by omega
  have S33 : Src w (some ⟨b, o + 33, none⟩) (cap - 33) (z.drop 33) := by
    have := tail_src hS (by omega) 33 (z.length - 33) (cap - 33) (by omega) (by omega) (by unfold maxLen; omega)
    rwa [List.take_of_length_le (by rw [List.length_drop]; omega)] at this
  have KN := number_any ((w.alloc (.cells Z.toArray 40)).alloc (.cells (ints .u8 k).toArray 24)) (z.drop 33) (some ⟨b, o + 33, none⟩) (cap - 33) (S33.below hB2 (Nat.le_refl _)) (fun x hx => hy x (List.mem_of_mem_drop hx)) (by rw [List.length_drop]; omega)
  rw [List.length_drop] at KN
  have e33 : (z.drop 33).getD 0 0 = z.getD 33 0 := by simp [List.getD_eq_getElem?_getD, List.getElem?_drop]
  have e34 : (z.drop 33).getD 1 0 = z.getD 34 0 := by simp [List.getD_eq_getElem?_getD, List.getElem?_drop]
  rw [e33, e34] at KN
  have KN := hid KN
  have y33 := hy.get 33
  have y34 := hy.get 34
  clear e33 e34 S33
  have hN1 : (128 : Int) < z.getD 33 0 + 256 * z.getD 34 0 := h128
  have FIN := hid (show ∀ (w' : World) v, Below w.heap.size w w' → v = .tuple #[.agg Z.toArray, .int .i64 0, .int .i64 32] → PCpost w z (.returned v) (w'.setRow w.heap.size Z.toArray) from fun w' v hb hv => pc_err HO.out (by decide) (by rw [hv, hZ]) (below_setRow hb (Nat.le_refl _) _))
  clear hsrc rk hZ
  generalize z.getD 33 0 + 256 * z.getD 34 0 = N at *
  generalize z.length = n at *
  go_enter Try.func42, Try.ntmps42
  go_wp2_with (first
    | refine wpList_allocZ rfl rfl Z HZ.out ?_
    | refine wpList_buildZ rfl rfl Z HZ.out ?_
    | refine wpList_load_mid rfl 24 _ rfl b (o + 1) rfl (ints .u8 k) _ rk1 Try.underlying24 rfl hik ?_
    | (refine wpList_store_row rfl 24 _ _ rfl _ _ rfl rfl 24 _ (by exact hnew2 _ _ _) (by rw [keySize, SK.out]) (by rw [SK.out]; rfl) (all_oneCell_toArray ok) ?_; rw [setRow_alloc2]))
  refine KN.out.mono ?_
  rintro e w1 ⟨rfl, hb1⟩
  have f1 := hbel hb1 g3 (by simp; omega)
  have f3 : Below w.heap.size w w1 := hB2.trans (hb1.mono (by simp; omega))
  go_wp2_with (first
    | refine wpList_buildZ rfl rfl Z HZ.out ?_
    | (refine wpList_store_row rfl 40 _ _ rfl _ _ rfl rfl 40 _ (by exact f1) (by rw [chgSize, SO.out]) rfl (all_oneCell_toArray oo) ?_))
  refine bodyPost_ret (results_c3 Try.results42 _ _ w.heap.size 40 _ _ _ rfl (setRow_heap _ _ _ _ _ _ f1) Try.underlying40 rfl (by rw [chgSize, SO.out])) rfl ?_
  exact FIN.out _ _ f3 rfl
set_option maxRecDepth 100000 in
set_option maxHeartbeats 1000000 in
theorem parseChange_err4 (w : World) (z : List Int) (sp : Option Addr) (cap : Nat) (hS : Src w sp cap z) (hy : Byts z) (hl35 : 35 ≤ z.length) (h2 : z.getD 0 0 = 1) (h128 : ¬ 128 < z.getD 33 0 + 256 * z.getD 34 0) (hsh : z.length < 35 + (z.getD 33 0 + 256 * z.getD 34 0).toNat) :
    Calls Try.prog 42 #[.slice sp z.length cap] w (PCpost w z) := by
  have HO := hid (show (one z).e = 30 ∧ (one z).n = 0 by unfold one; rw [if_neg (by omega), if_neg (by omega), if_neg (by omega), if_neg h128, if_pos hsh]; exact ⟨rfl, rfl⟩)
  obtain ⟨hc, hm, b, o, hb, hsp, hsrc⟩ := id hS
  unfold maxLen at hm
  have i0 : (z.length : Int) ≤ 9223372036854775807 := by omega
  obtain rfl := hsp (by omega)
  have hbl := hb (by omega)
  obtain ⟨Z, hZ⟩ : ∃ Z, Z = encM dM := ⟨_, rfl⟩
  have SO := hid (show Z.toArray.size = 34 by rw [hZ]; simpa using encD_len)
  have oo : ∀ v ∈ Z, v.oneCell' = true := by rw [hZ]; decide
  have HZ := hid hZ
  have lk : ((z.drop 1).take 32).length = 32 := by rw [List.length_take, List.length_drop]; omega
  have rk := Src.row (cap := cap) hsrc 1 32 (by omega)
  have hB : Below w.heap.size w (w.alloc (.cells Z.toArray 40)) := (Below.refl _ _).alloc (Nat.le_refl _) _
  have c0 := (hB.cell (p := ⟨b, o, none⟩) hbl).trans (hsrc 0 (by omega))
  rw [h2] at c0
  have rk1 := rng_below rk hB hbl
  generalize hkk : (z.drop 1).take 32 = k at *
  have SK := hid (show (ints .u8 k).toArray.size = 32 by simp [ints, lk])
  have hik : (Try.prog.info? 24).map (·.size) = some (ints .u8 k).length := by rw [keySize, ints_len, lk]
  have ok : ∀ v ∈ ints .u8 k, v.oneCell' = true := ints_one _ _
  have g1 := hnew w (.cells Z.toArray 40)
  have g2 := hnew2 w (.cells Z.toArray 40) (.cells (ints .u8 k).toArray 24)
  have g3 := hold2 w (.cells Z.toArray 40) (.cells (ints .u8 k).toArray 24)
  have hB2 : Below w.heap.size w ((w.alloc (.cells Z.toArray 40)).alloc (.cells (ints .u8 k).toArray 24)) := hB.alloc (by simp) _
  have hn1 : ¬ cap = 1 := by omega
  have hl' : ¬ (z.length : Int) < 33 := by omega
  have hl2 : (0 : Int) < (z.length : Int) := by omega
  have hcap : (33 : Int) ≤ (cap : Int) := by omega
  have c1 := (hB2.cell (p := ⟨b, o, none⟩) hbl).trans (hsrc 0 (by omega))
  rw [h2] at c1
  have hat : ∀ w, (Instr.arrayAt 24 (.slice (some ⟨b, o + 1, none⟩) 32 (cap - 1))).run Try.prog w = .ok (.pointer (some ⟨b, o + 1, none⟩)) w := fun w => run_arrayAt w 24 5 32 (some ⟨b, o + 1, none⟩) 32 (cap - 1) Try.underlying24 (Nat.le_refl _)
  have hn33 : ¬ cap = 33 := by omega
  have hl5 : ¬ (z.length : Int) < 35 := by omega
  have hl3 : (33 : Int) ≤ (z.length : Int) := by omega
  have hcap2 : (33 : Int) ≤ (cap : Int) := by omega
  have S33 : Src w (some ⟨b, o + 33, none⟩) (cap - 33) (z.drop 33) := by
    have := tail_src hS (by omega) 33 (z.length - 33) (cap - 33) (by omega) (by omega) (by unfold maxLen; omega)
    rwa [List.take_of_length_le (by rw [List.length_drop]; omega)] at this
  have KN := number_any ((w.alloc (.cells Z.toArray 40)).alloc (.cells (ints .u8 k).toArray 24)) (z.drop 33) (some ⟨b, o + 33, none⟩) (cap - 33) (S33.below hB2 (Nat.le_refl _)) (fun x hx => hy x (List.mem_of_mem_drop hx)) (by rw [List.length_drop]; omega)
  rw [List.length_drop] at KN
  have e33 : (z.drop 33).getD 0 0 = z.getD 33 0 := by simp [List.getD_eq_getElem?_getD, List.getElem?_drop]
  have e34 : (z.drop 33).getD 1 0 = z.getD 34 0 := by simp [List.getD_eq_getElem?_getD, List.getElem?_drop]
  rw [e33, e34] at KN
  have KN := hid KN
  have y33 := hy.get 33
  have y34 := hy.get 34
  clear e33 e34 S33
  have hN1 : ¬ (128 : Int) < z.getD 33 0 + 256 * z.getD 34 0 := h128
  have hN0 : 0 ≤ z.getD 33 0 + 256 * z.getD 34 0 := by omega
  have hN2 : (z.length : Int) < 35 + (z.getD 33 0 + 256 * z.getD 34 0) := by omega
  have FIN := hid (show ∀ (w' : World) v, Below w.heap.size w w' → v = .tuple #[.agg Z.toArray, .int .i64 0, .int .i64 30] → PCpost w z (.returned v) (w'.setRow w.heap.size Z.toArray) from fun w' v hb hv => pc_err HO.out (by decide) (by rw [hv, hZ]) (below_setRow hb (Nat.le_refl _) _))
  clear hsrc rk hZ
  generalize z.getD 33 0 + 256 * z.getD 34 0 = N at *
  generalize z.length = n at *
  go_enter Try.func42, Try.ntmps42
  go_wp2_with (first
    | refine wpList_allocZ rfl rfl Z HZ.out ?_
    | refine wpList_buildZ rfl rfl Z HZ.out ?_
    | refine wpList_load_mid rfl 24 _ rfl b (o + 1) rfl (ints .u8 k) _ rk1 Try.underlying24 rfl hik ?_
    | (refine wpList_store_row rfl 24 _ _ rfl _ _ rfl rfl 24 _ (by exact hnew2 _ _ _) (by rw [keySize, SK.out]) (by rw [SK.out]; rfl) (all_oneCell_toArray ok) ?_; rw [setRow_alloc2]))
  refine KN.out.mono ?_
  rintro e w1 ⟨rfl, hb1⟩
  have f1 := hbel hb1 g3 (by simp; omega)
  have f3 : Below w.heap.size w w1 := hB2.trans (hb1.mono (by simp; omega))
  go_wp2_with (first
    | refine wpList_buildZ rfl rfl Z HZ.out ?_
    | (refine wpList_store_row rfl 40 _ _ rfl _ _ rfl rfl 40 _ (by exact f1) (by rw [chgSize, SO.out]) rfl (all_oneCell_toArray oo) ?_))
  refine bodyPost_ret (results_c3 Try.results42 _ _ w.heap.size 40 _ _ _ rfl (setRow_heap _ _ _ _ _ _ f1) Try.underlying40 rfl (by rw [chgSize, SO.out])) rfl ?_
  exact FIN.out _ _ f3 rfl
set_option maxRecDepth 100000 in
set_option maxHeartbeats 2000000 in
theorem parseChange_put (w : World) (z : List Int) (sp : Option Addr) (cap : Nat) (hS : Src w sp cap z) (hy : Byts z) (hl35 : 35 ≤ z.length) (h2 : z.getD 0 0 = 1) (h128 : ¬ 128 < z.getD 33 0 + 256 * z.getD 34 0) (hsh : ¬ z.length < 35 + (z.getD 33 0 + 256 * z.getD 34 0).toNat) :
    Calls Try.prog 42 #[.slice sp z.length cap] w (PCpost w z) := by
  have HO := hid (show (one z).e = 0 ∧ (one z).n = 35 + (z.getD 33 0 + 256 * z.getD 34 0).toNat ∧ (one z).c = ⟨(z.drop 1).take 32, false, (z.drop 35).take (z.getD 33 0 + 256 * z.getD 34 0).toNat⟩ by unfold one; rw [if_neg (by omega), if_neg (by omega), if_neg (by omega), if_neg h128, if_neg hsh]; exact ⟨rfl, rfl, rfl⟩)
  obtain ⟨hc, hm, b, o, hb, hsp, hsrc⟩ := id hS
  unfold maxLen at hm
  have i0 : (z.length : Int) ≤ 9223372036854775807 := by omega
  obtain rfl := hsp (by omega)
  have hbl := hb (by omega)
  obtain ⟨Z, hZ⟩ : ∃ Z, Z = encM dM := ⟨_, rfl⟩
  have SO := hid (show Z.toArray.size = 34 by rw [hZ]; simpa using encD_len)
  have oo : ∀ v ∈ Z, v.oneCell' = true := by rw [hZ]; decide
  have HZ := hid hZ
  have lk : ((z.drop 1).take 32).length = 32 := by rw [List.length_take, List.length_drop]; omega
  have rk := Src.row (cap := cap) hsrc 1 32 (by omega)
  have hB : Below w.heap.size w (w.alloc (.cells Z.toArray 40)) := (Below.refl _ _).alloc (Nat.le_refl _) _
  have c0 := (hB.cell (p := ⟨b, o, none⟩) hbl).trans (hsrc 0 (by omega))
  rw [h2] at c0
  have rk1 := rng_below rk hB hbl
  generalize hkk : (z.drop 1).take 32 = k at *
  have SK := hid (show (ints .u8 k).toArray.size = 32 by simp [ints, lk])
  have hik : (Try.prog.info? 24).map (·.size) = some (ints .u8 k).length := by rw [keySize, ints_len, lk]
  have ok : ∀ v ∈ ints .u8 k, v.oneCell' = true := ints_one _ _
  have g1 := hnew w (.cells Z.toArray 40)
  have g2 := hnew2 w (.cells Z.toArray 40) (.cells (ints .u8 k).toArray 24)
  have g3 := hold2 w (.cells Z.toArray 40) (.cells (ints .u8 k).toArray 24)
  have hB2 : Below w.heap.size w ((w.alloc (.cells Z.toArray 40)).alloc (.cells (ints .u8 k).toArray 24)) := hB.alloc (by simp) _
  have hn1 : ¬ cap = 1 := by omega
  have hl' : ¬ (z.length : Int) < 33 := by omega
  have hl2 : (0 : Int) < (z.length : Int) := by omega
  have hcap : (33 : Int) ≤ (cap : Int) := by omega
  have c1 := (hB2.cell (p := ⟨b, o, none⟩) hbl).trans (hsrc 0 (by omega))
  rw [h2] at c1
  have hat : ∀ w, (Instr.arrayAt 24 (.slice (some ⟨b, o + 1, none⟩) 32 (cap - 1))).run Try.prog w = .ok (.pointer (some ⟨b, o + 1, none⟩)) w := fun w => run_arrayAt w 24 5 32 (some ⟨b, o + 1, none⟩) 32 (cap - 1) Try.underlying24 (Nat.le_refl _)
  have hn33 : ¬ cap = 33 := by omega
  have hl5 : ¬ (z.length : Int) < 35 := by omega
  have hl3 : (33 : Int) ≤ (z.length : Int) := by omega
  have hcap2 : (33 : Int) ≤ (cap : Int) := by omega
  have S33 : Src w (some ⟨b, o + 33, none⟩) (cap - 33) (z.drop 33) := by
    have := tail_src hS (by omega) 33 (z.length - 33) (cap - 33) (by omega) (by omega) (by unfold maxLen; omega)
    rwa [List.take_of_length_le (by rw [List.length_drop]; omega)] at this
  have KN := number_any ((w.alloc (.cells Z.toArray 40)).alloc (.cells (ints .u8 k).toArray 24)) (z.drop 33) (some ⟨b, o + 33, none⟩) (cap - 33) (S33.below hB2 (Nat.le_refl _)) (fun x hx => hy x (List.mem_of_mem_drop hx)) (by rw [List.length_drop]; omega)
  rw [List.length_drop] at KN
  have e33 : (z.drop 33).getD 0 0 = z.getD 33 0 := by simp [List.getD_eq_getElem?_getD, List.getElem?_drop]
  have e34 : (z.drop 33).getD 1 0 = z.getD 34 0 := by simp [List.getD_eq_getElem?_getD, List.getElem?_drop]
  rw [e33, e34] at KN
  have KN := hid KN
  have y33 := hy.get 33
  have y34 := hy.get 34
  clear e33 e34 S33
  obtain ⟨N, hN⟩ := Int.eq_ofNat_of_zero_le (show 0 ≤ z.getD 33 0 + 256 * z.getD 34 0 by omega)
  rw [hN] at KN h128 hsh HO
  simp only [Int.toNat_natCast] at hsh HO
  have hN1 : (N : Int) ≤ 128 := by omega
  have hN2 : (35 : Int) + (N : Int) ≤ (z.length : Int) := by omega
  have hN3 : (35 : Int) + (N : Int) ≤ (cap : Int) := by omega
  obtain ⟨E, hE⟩ : ∃ E : Nat, E = 35 + N := ⟨_, rfl⟩
  have hEN : (35 : Int) + (N : Int) = (E : Int) := by omega
  have hE1 : (35 : Int) ≤ (E : Int) := by omega
  have hE2 : (E : Int) ≤ (cap : Int) := by omega
  have HV := hid (show ((z.drop 35).take N).length = E - 35 by rw [List.length_take, List.length_drop]; omega)
  rw [← hE] at HO
  have hsrcv : ∃ spv, (if cap = 35 then some (⟨b, o, none⟩ : Addr) else some ⟨b, o + 35, none⟩) = spv ∧ Src w spv (cap - 35) ((z.drop 35).take N) ∧ (spv = none → cap - 35 = 0) := by
    by_cases h35 : cap = 35
    · rw [if_pos h35]
      have : (z.drop 35).take N = [] := List.eq_nil_of_length_eq_zero (by have := HV.out; omega)
      refine ⟨_, rfl, ?_, fun h => by cases h⟩
      rw [this]; exact Src.empty w _ _ (by unfold maxLen; omega)
    · rw [if_neg h35]
      exact ⟨_, rfl, tail_src hS (by omega) 35 N (cap - 35) (by omega) (by omega) (by unfold maxLen; omega), fun h => by cases h⟩
  have om : ∀ (s : Option Addr) (p q : Nat), ∀ v ∈ encM ⟨k, false, .slice s p q⟩, v.oneCell' = true := by
    intro s p q v hv
    rcases List.mem_append.1 hv with h | h
    · exact ints_one _ _ v h
    · simp at h; rcases h with rfl | rfl <;> rfl
  obtain ⟨spv, hspv, srcv, nilv⟩ := hsrcv
  have KC := hid (show ∀ w', Below w.heap.size w w' → Calls Try.prog 57 #[.slice spv ((z.drop 35).take N).length (cap - 35)] w' fun e w'' => ∃ v, e = .returned v ∧ Own w'' w'.heap.size v ((z.drop 35).take N) ∧ Below w'.heap.size w' w'' from fun w' hb' => Clone_any w' _ spv (cap - 35) (srcv.below hb' (Nat.le_refl _)) nilv (by have := HV.out; omega))
  rw [HV.out] at KC
  clear hsrc rk hZ hN srcv nilv
  generalize (z.drop 35).take N = val at *
  generalize z.length = n at *
  have hnN : ¬ (n : Int) < (E : Int) := by omega
  clear hE hN2 hN3
  have hN4 : ¬ (128 : Int) < (N : Int) := by omega
  go_enter Try.func42, Try.ntmps42
  go_wp2_with (first
    | refine wpList_allocZ rfl rfl Z HZ.out ?_
    | refine wpList_buildZ rfl rfl Z HZ.out ?_
    | refine wpList_load_mid rfl 24 _ rfl b (o + 1) rfl (ints .u8 k) _ rk1 Try.underlying24 rfl hik ?_
    | (refine wpList_store_row rfl 24 _ _ rfl _ _ rfl rfl 24 _ (by exact hnew2 _ _ _) (by rw [keySize, SK.out]) (by rw [SK.out]; rfl) (all_oneCell_toArray ok) ?_; rw [setRow_alloc2]))
  refine KN.out.mono ?_
  rintro e w1 ⟨rfl, hb1⟩
  have f1 := hbel hb1 g3 (by simp; omega)
  have f2 := hbel hb1 g2 (by simp)
  have f3 : Below w.heap.size w w1 := hB2.trans (hb1.mono (by simp; omega))
  clear KN hb1
  go_wp2
  refine wp_region_noPanic ?_
  refine wp_region_held_drew (S := fun w' => (∃ C : Array Value, C.size = 34 ∧ w'.heap[w.heap.size]? = some (.cells C 40 (0, 0))) ∧ w'.heap[w.heap.size + 1]? = some (.cells (ints .u8 k).toArray 24) ∧ Below w.heap.size w w') (by kernel_rfl) ⟨⟨Z.toArray, SO.out, f1⟩, f2, f3.drew⟩ (fun hHeld => ?_)
  refine wpAnyH_take (i := 0) (oi := { dst := some 51, op := Op.load 24 (Operand.tmp 5), type := 24, pos := "raw.go:84", after := #[], guard := none }) (v := .agg (ints .u8 k).toArray) rfl (by kernel_rfl) (by kernel_rfl) (by kernel_rfl) (fun _ _ _ h => h) (yieldsIf_load_mid (by rfl) 24 _ rfl (w.heap.size + 1) (0) rfl (ints .u8 k) _ (fun w hS => rng hS.2.1) Try.underlying24 rfl hik) hHeld ?_
  try simp only [Act.put, List.setIfInBounds_toArray, List.set_cons_zero, List.set_cons_succ]
  refine wpAnyH_take (i := 1) (oi := { dst := some 52, op := Op.move (Operand.tmp 0), type := 30, pos := "raw.go:84", after := #[], guard := none }) (v := .slice (some ⟨b, o, none⟩) n cap) rfl (by kernel_rfl) (by kernel_rfl) (by kernel_rfl) (fun _ _ _ h => h) (Or.inl ⟨by rfl, by intro w hS; go_simp⟩) hHeld ?_
  try simp only [Act.put, List.setIfInBounds_toArray, List.set_cons_zero, List.set_cons_succ]
  refine wpAnyH_take (i := 2) (oi := { dst := some 53, op := Op.move (Operand.tmp 7), type := 3, pos := "raw.go:84", after := #[], guard := none }) (v := .int .i64 E) rfl (by kernel_rfl) (by kernel_rfl) (by kernel_rfl) (fun _ _ _ h => h) (Or.inl ⟨by rfl, by intro w hS; go_simp⟩) hHeld ?_
  try simp only [Act.put, List.setIfInBounds_toArray, List.set_cons_zero, List.set_cons_succ]
  refine wpAnyH_take (i := 6) (oi := { dst := some 57, op := Op.move (Operand.tmp 7), type := 3, pos := "raw.go:84", after := #[{ on := 7, ground := Ground.gcOnly Departure.lateStores }], guard := none }) (v := .int .i64 E) rfl (by kernel_rfl) (by kernel_rfl) (by kernel_rfl) (fun _ _ _ h => h) (Or.inl ⟨by rfl, by intro w hS; go_simp⟩) hHeld ?_
  try simp only [Act.put, List.setIfInBounds_toArray, List.set_cons_zero, List.set_cons_succ]
  refine wpAnyH_take (i := 3) (oi := { dst := some 54, op := Op.slice 30 (Operand.tmp 52) (some (Operand.const (Value.int IntKind.i64 35))) (some (Operand.tmp 53)) none, type := 30, pos := "raw.go:84", after := #[{ on := 1, ground := Ground.data }, { on := 2, ground := Ground.data }], guard := none }) (v := .slice spv (E - 35) (cap - 35)) rfl (by kernel_rfl) (by kernel_rfl) (by kernel_rfl) (fun _ _ _ h => h) (Or.inl ⟨by rfl, by intro w hS; go_simp⟩) hHeld ?_
  try simp only [Act.put, List.setIfInBounds_toArray, List.set_cons_zero, List.set_cons_succ]
  refine wpAnyH_ready (rs := [4]) (by kernel_rfl) (by simp) ?_
  refine (AllReadyH.cons (o := { dst := some 55, op := Op.call { callee := Callee.value (Operand.func 57), args := #[Operand.tmp 54], argTypes := #[30] }, type := 30, pos := "raw.go:84", after := #[{ on := 3, ground := Ground.data }], guard := none }) rfl (fun K hK => ?_) AllReadyH.nil)
  go_simp
  go_at_call 57
  refine (KC.out _ hHeld.2.2).mono ?_
  rintro e w4 ⟨v9, rfl, hO9, hb9⟩
  obtain ⟨sp9, cap9, rfl, _, _⟩ := id hO9.form
  have hs9 := hHeld.2.2.size
  rw [HV.out] at *
  go_wp2_with fail
  refine hK.out _ _ (⟨by obtain ⟨C, hC1, hC2⟩ := hHeld.1; exact ⟨C, hC1, hbel hb9 hC2 (hlt_ hC2)⟩, hbel hb9 hHeld.2.1 (hlt_ hHeld.2.1), hHeld.2.2.trans (hb9.mono hHeld.2.2.size)⟩) (fun hHeld2 => ?_)
  clear hK K hHeld
  have hHeld := hHeld2
  clear hHeld2
  try simp only [Act.put, List.setIfInBounds_toArray, List.set_cons_zero, List.set_cons_succ]
  refine wpAnyH_take (i := 5) (oi := { dst := some 56, op := Op.build 40 #[(0, Operand.tmp 51), (2, Operand.tmp 55)], type := 40, pos := "raw.go:84", after := #[{ on := 0, ground := Ground.data }, { on := 4, ground := Ground.data }], guard := none }) (v := .agg (encM ⟨k, false, .slice sp9 (E - 35) cap9⟩).toArray) rfl (by kernel_rfl) (by kernel_rfl) (by kernel_rfl) (fun _ _ _ h => h) (yields_put (by rfl) _ _ rfl k lk sp9 (E - 35) cap9 rfl rfl) hHeld ?_
  try simp only [Act.put, List.setIfInBounds_toArray, List.set_cons_zero, List.set_cons_succ]
  refine wpAnyH_ready (rs := [7]) (by kernel_rfl) (by simp) ?_
  refine (AllReadyH.cons (o := { dst := none, op := Op.store 40 (Operand.tmp 2) (Operand.tmp 56), type := 0, pos := "raw.go:84", after := #[{ on := 5, ground := Ground.data }, { on := 4, ground := Ground.chain }, { on := 0, ground := Ground.phase }, { on := 1, ground := Ground.phase }, { on := 2, ground := Ground.phase }, { on := 3, ground := Ground.phase }, { on := 4, ground := Ground.phase }, { on := 5, ground := Ground.phase }, { on := 6, ground := Ground.textOnly Departure.lateStores }], guard := none }) rfl (fun K hK => ?_) AllReadyH.nil)
  obtain ⟨C, hC1, hC2⟩ := hHeld.1
  refine step_store (by rfl) 40 (.tmp 2) (.tmp 56) rfl w.heap.size _ rfl rfl 40 C hC2 (by rw [chgSize]; simp [encM, ints, lk]) (by rw [hC1]; simp [encM, ints, lk]) (all_oneCell_toArray (om sp9 (E - 35) cap9)) ?_
  refine hK.out _ _ (⟨⟨_, by simp [encM, ints, lk], setRow_heap _ _ _ _ _ _ hC2⟩, (setRow_other _ _ _ _ (by omega)).trans hHeld.2.1, below_setRow hHeld.2.2 (Nat.le_refl _) _⟩) (fun hHeld2 => ?_)
  clear hK K hHeld
  have hHeld := hHeld2
  clear hHeld2
  try simp only [Act.put, List.setIfInBounds_toArray, List.set_cons_zero, List.set_cons_succ]
  refine wpAnyH_take (i := 8) (oi := { dst := some 3, op := Op.assign (Operand.tmp 57), type := 3, pos := "raw.go:84", after := #[{ on := 6, ground := Ground.data }, { on := 7, ground := Ground.chain }, { on := 0, ground := Ground.phase }, { on := 1, ground := Ground.phase }, { on := 2, ground := Ground.phase }, { on := 3, ground := Ground.phase }, { on := 4, ground := Ground.phase }, { on := 5, ground := Ground.phase }, { on := 6, ground := Ground.phase }, { on := 7, ground := Ground.phase }], guard := none }) (v := .int .i64 E) rfl (by kernel_rfl) (by kernel_rfl) (by kernel_rfl) (fun _ _ _ h => h) (Or.inl ⟨by rfl, by intro w hS; go_simp⟩) hHeld ?_
  try simp only [Act.put, List.setIfInBounds_toArray, List.set_cons_zero, List.set_cons_succ]
  refine wpAnyH_take (i := 9) (oi := { dst := some 4, op := Op.assign (Operand.const (Value.int IntKind.i64 0)), type := 32, pos := "raw.go:84", after := #[{ on := 8, ground := Ground.chain }, { on := 0, ground := Ground.phase }, { on := 1, ground := Ground.phase }, { on := 2, ground := Ground.phase }, { on := 3, ground := Ground.phase }, { on := 4, ground := Ground.phase }, { on := 5, ground := Ground.phase }, { on := 6, ground := Ground.phase }, { on := 7, ground := Ground.phase }, { on := 8, ground := Ground.phase }], guard := none }) (v := .int .i64 0) rfl (by kernel_rfl) (by kernel_rfl) (by kernel_rfl) (fun _ _ _ h => h) (Or.inl ⟨by rfl, by intro w hS; go_simp⟩) hHeld ?_
  try simp only [Act.put, List.setIfInBounds_toArray, List.set_cons_zero, List.set_cons_succ]
  refine wpAnyH_done (by kernel_rfl) ?_ _
  refine NoPanic.normal ?_
  go_wp2
  refine bodyPost_ret (results_c3 Try.results42 _ _ w.heap.size 40 _ _ _ rfl (setRow_heap _ _ _ _ _ _ hC2) Try.underlying40 rfl (by rw [chgSize]; simp [encM, ints, lk])) rfl ?_
  refine ⟨⟨k, false, .slice sp9 (E - 35) cap9⟩, ?_, lk, ⟨sp9, E - 35, cap9, rfl⟩, fun _ => ?_, hHeld.2.2⟩
  · rw [HO.out.1, HO.out.2.1]; rfl
  · rw [HO.out.2.2]
    refine ⟨rfl, rfl, (hO9.base hs9).of_heap fun kk e => setRow_other _ _ _ _ fun e2 => ?_⟩
    obtain ⟨_, x, hx⟩ := hO9.ne_chg kk e
    rw [e2, hC2] at hx
    cases hx
theorem parseChange_any (w : World) (z : List Int) (sp : Option Addr) (cap : Nat) (hS : Src w sp cap z) (hy : Byts z) :
    Calls Try.prog 42 #[.slice sp z.length cap] w (PCpost w z) := by
  by_cases h1 : z.length < 33 ∨ (z.getD 0 0 ≠ 1 ∧ z.getD 0 0 ≠ 2)
  · exact parseChange_err1 w z sp cap hS hy h1
  · by_cases h2 : z.getD 0 0 = 2
    · exact parseChange_del w z sp cap hS hy (by omega) h2
    · have h3 : z.getD 0 0 = 1 := by omega
      by_cases h4 : z.length < 35
      · exact parseChange_err2 w z sp cap hS hy (by omega) h3 h4
      · by_cases h5 : 128 < z.getD 33 0 + 256 * z.getD 34 0
        · exact parseChange_err3 w z sp cap hS hy (by omega) h3 h5
        · by_cases h6 : z.length < 35 + (z.getD 33 0 + 256 * z.getD 34 0).toNat
          · exact parseChange_err4 w z sp cap hS hy (by omega) h3 h5 h6
          · exact parseChange_put w z sp cap hS hy (by omega) h3 h5 h6
end Go.Proofs.Ytcifbnldohmbnaa
