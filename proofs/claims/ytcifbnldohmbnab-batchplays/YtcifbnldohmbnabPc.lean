import Derived.Test.YtcifbnldohmbnabPb
namespace Go.Proofs.Ytcifbnldohmbnab
set_option linter.unusedVariables false
set_option linter.unusedSimpArgs false
open Go.RowKit
attribute [local go_sem ↓] Go.wp_at_zero Go.wp_at_succ

theorem heap_enc_k {w : World} {g t : Nat} {m : MC} (h : w.heap[g]? = some (.cells (encM m).toArray t (0, 0))) (j : Nat) (x : Int) (hj : j < m.key.length) : (w.setCell ⟨g, j, none⟩ (.int .u8 x)).heap[g]? = some (.cells (encM ⟨m.key.set j x, m.del, m.sv⟩).toArray t (0, 0)) := by
  rw [heap_setCell_same _ _ _ _ _ _ h, enc_setk m j x hj]
theorem heap_enc_d {w : World} {g t : Nat} {m : MC} (h : w.heap[g]? = some (.cells (encM m).toArray t (0, 0))) (d : Bool) (hj : m.key.length = 32) : (w.setCell ⟨g, 32, none⟩ (.bool d)).heap[g]? = some (.cells (encM ⟨m.key, d, m.sv⟩).toArray t (0, 0)) := by
  rw [heap_setCell_same _ _ _ _ _ _ h, enc_setd m d hj]
theorem heap_enc_v {w : World} {g t : Nat} {m : MC} (h : w.heap[g]? = some (.cells (encM m).toArray t (0, 0))) (v : Value) (hj : m.key.length = 32) : (w.setCell ⟨g, 33, none⟩ v).heap[g]? = some (.cells (encM ⟨m.key, m.del, v⟩).toArray t (0, 0)) := by
  rw [heap_setCell_same _ _ _ _ _ _ h, enc_setv m v hj]
theorem enc_cell {w : World} {g t : Nat} {m : MC} {fr : Nat × Nat} (h : w.heap[g]? = some (.cells (encM m).toArray t fr)) (j : Nat) (hj : j < m.key.length) : w.cell? ⟨g, j, none⟩ = some (.int .u8 (m.key.getD j 0)) := by
  rw [cell_of_row _ _ _ _ _ _ h, List.getElem?_toArray, encM, List.getElem?_append_left (by rw [ints_len]; exact hj), ints_get _ _ _ hj]
theorem enc_cellD {w : World} {g t : Nat} {m : MC} {fr : Nat × Nat} (h : w.heap[g]? = some (.cells (encM m).toArray t fr)) (hj : m.key.length = 32) : w.cell? ⟨g, 32, none⟩ = some (.bool m.del) := by
  rw [cell_of_row _ _ _ _ _ _ h, List.getElem?_toArray, encM, List.getElem?_append_right (by rw [ints_len, hj]; exact Nat.le_refl _), ints_len, hj]; rfl
theorem enc_cellV {w : World} {g t : Nat} {m : MC} {fr : Nat × Nat} (h : w.heap[g]? = some (.cells (encM m).toArray t fr)) (hj : m.key.length = 32) : w.cell? ⟨g, 33, none⟩ = some m.sv := by
  rw [cell_of_row _ _ _ _ _ _ h, List.getElem?_toArray, encM, List.getElem?_append_right (by rw [ints_len, hj]; decide), ints_len, hj]; rfl
theorem take_next (K : List Int) (j : Nat) (hj : j < K.length) : K.take (j + 1) = K.take j ++ [K.getD j 0] := by
  rw [List.take_succ_eq_append_getElem hj, List.getD_eq_getElem?_getD, List.getElem?_eq_getElem hj]; rfl
theorem enc_len32 (m : MC) (h : m.key.length = 32) : (encM m).length = 34 := by simp [encM, ints, h]
set_option maxRecDepth 100000 in
set_option maxHeartbeats 1000000 in
theorem rone_del (w : World) (z : List Int) (a : Nat) (sp : Option Addr) (cap : Nat) (hS : Src w sp cap z) (hy : Byts z) (hz : z.length ≤ 140737488355328) (ha : a ≤ z.length) (h : a + 33 ≤ z.length) (h1 : z.getD a 0 = 2) (h2 : True) :
    Calls Try.prog 44 #[.slice sp z.length cap, .int .i64 a] w (ROpost w z a) := by
  have HO := hid (show one (z.drop a) = ⟨0, ⟨(z.drop (a + 1)).take 32, true, []⟩, 33⟩ by
    unfold one
    rw [if_neg (by rw [List.length_drop, dropD, Nat.add_zero, h1]; omega), if_pos (by rw [dropD]; exact h1), List.drop_drop])
  obtain ⟨hc, hm, b, o, hb, hsp, hsrc⟩ := id hS
  unfold maxLen at hm
  have i0 : (z.length : Int) ≤ 140737488355328 := by omega
  have ia : (a : Int) ≤ (z.length : Int) := by omega
  obtain ⟨Z, hZ⟩ : ∃ Z, Z = encM dM := ⟨_, rfl⟩
  have g1 := hold2 w (.cells Z.toArray 52) (.cells Z.toArray 52)
  have g2 := hnew2 w (.cells Z.toArray 52) (.cells Z.toArray 52)
  have hB := below2Z w (.cells Z.toArray 52) (.cells Z.toArray 52)
  have SO := hid (show Z.toArray.size = 34 by rw [hZ]; simpa using encD_len)
  have oo : ∀ v ∈ Z, v.oneCell' = true := by rw [hZ]; decide
  have HZ := hid hZ
  obtain rfl := hsp (by omega)
  have hbl := hb (by omega)
  have hB2 := hB
  have c0 := (hB.cell (p := ⟨b, o + a, none⟩) hbl).trans (hsrc a (by omega))
  rw [h1] at c0
  have ib : ¬ (z.length : Int) ≤ (a : Int) := by omega
  have ic : (a : Int) < (z.length : Int) := by omega
  have ie : (a : Int) + 33 ≤ (z.length : Int) := by omega
  have hkl : ((z.drop (a + 1)).take 32).length = 32 := by rw [List.length_take, List.length_drop]; omega
  have hkg : ∀ j, j < 32 → ((z.drop (a + 1)).take 32).getD j 0 = z.getD (a + 1 + j) 0 := fun j hj => by
    rw [List.getD_eq_getElem?_getD, List.getElem?_take, if_pos hj, List.getElem?_drop, ← List.getD_eq_getElem?_getD]
  have hcell : ∀ j wr, j < 32 → Below w.heap.size w wr → wr.cell? ⟨b, o + (a + 1 + j), none⟩ = some (.int .u8 (((z.drop (a + 1)).take 32).getD j 0)) := fun j wr hj hBr => by
    rw [hkg j hj]; exact (hBr.cell (p := ⟨b, o + (a + 1 + j), none⟩) hbl).trans (hsrc _ (by omega))
  have hca : ∀ wr, Below w.heap.size w wr → wr.cell? ⟨b, o + a, none⟩ = some (.int .u8 2) := fun wr hBr => by
    have := (hBr.cell (p := ⟨b, o + a, none⟩) hbl).trans (hsrc a (by omega))
    rwa [h1] at this
  have HZ0 := hZ
  have HZP := hid (show Z = encM ⟨padz (((z.drop (a + 1)).take 32).take 0) 32, false, .slice none 0 0⟩ by rw [hZ]; rfl)
  clear hkg
  generalize hKK : (z.drop (a + 1)).take 32 = K at *
  have HKK := hid hKK
  clear hKK hsrc h2 hZ HZ0
  generalize hn : z.length = n at *
  have HN := hid hn
  clear hn h
  go_enter Try.func44, Try.ntmps44
  go_wp2_with (first
    | refine wpList_allocZ rfl rfl Z HZ.out ?_)
  clear c0
  generalize ((w.alloc (.cells Z.toArray 52)).alloc (.cells Z.toArray 52)) = w0 at *
  generalize hM : w.heap.size = M at *
  have HM := hid hM
  clear hM hB2
  rw [HZP.out] at g2
  go_loopw [8] (fun i wr => ∃ j : Nat, j ≤ 32 ∧ i = .int .i64 j ∧ wr.heap[M]? = some (.cells Z.toArray 52) ∧ wr.heap[M + 1]? = some (.cells (encM ⟨padz (K.take j) 32, false, .slice none 0 0⟩).toArray 52) ∧ Below M w wr) (fun i _ => 32 - (intOf i).toNat)
  case atStart => exact ⟨0, by omega, rfl, g1, g2, hB⟩
  case round =>
    clear g1 g2 hB
    obtain ⟨j, hj, rfl, g1, g2, hB⟩ := hrel
    by_cases hlt : j < 32
    · have i1 : (j : Int) < 32 := by omega
      have c1 := hcell j wr hlt hB
      have fz := frozen_of_row _ _ j _ _ g2
      have c2 := enc_cell g2 j (by show j < (padz (K.take j) 32).length; rw [padz_len _ _ (by rw [List.length_take]; omega)]; exact hlt)
      have FIN := hid (show ∀ y : Int, y = K.getD j 0 → (wr.setCell ⟨M + 1, j, none⟩ (.int .u8 y)).heap[M]? = some (.cells Z.toArray 52) ∧ (wr.setCell ⟨M + 1, j, none⟩ (.int .u8 y)).heap[M + 1]? = some (.cells (encM ⟨padz (K.take (j + 1)) 32, false, .slice none 0 0⟩).toArray 52) ∧ Below M w (wr.setCell ⟨M + 1, j, none⟩ (.int .u8 y)) from by
        rintro y rfl
        have hlk : (K.take j).length = j := by rw [List.length_take]; omega
        refine ⟨heap_set_far g1 _ _ (by simp), ?_, hB.setCell (by simp) _⟩
        rw [heap_enc_k g2 j _ (by show j < (padz (K.take j) 32).length; rw [padz_len _ _ (by omega)]; omega)]
        show some (Obj.cells (encM ⟨(padz (K.take j) 32).set j _, _, _⟩).toArray _ _) = _
        have := padz_set (K.take j) 32 (K.getD j 0) (by omega)
        rw [hlk] at this
        rw [this, take_next K j (by omega)])
      clear g1 g2 hB hcell hca
      generalize K.getD j 0 = y at *
      simp only at c2
      generalize (padz (K.take j) 32).getD j 0 = y0 at *
      go_wp2
      go_roundw
      case rel =>
        obtain ⟨q1, q2, q3⟩ := FIN.out y rfl
        exact ⟨j + 1, by omega, by go_num, q1, q2, q3⟩
      case measure => simp [intOf]; omega
    · obtain rfl : j = 32 := by omega
      rw [List.take_of_length_le (by omega), padz_full _ _ hkl] at g2
      clear hlt hj
      have c0 := hca wr hB
      have fz := frozen_of_row _ _ 32 _ _ g2
      have c3 := enc_cellD g2 hkl
      simp only at c3
      have g3 := heap_enc_d g2 true hkl
      have g4 := heap_set_far g1 ⟨M + 1, 32, none⟩ (.bool true) (by simp)
      have hB3 : Below M w (wr.setCell ⟨M + 1, 32, none⟩ (.bool true)) := hB.setCell (by simp) _
      have om : ∀ v ∈ encM ⟨K, true, .slice none 0 0⟩, v.oneCell' = true := one_encM _ rfl
      have SK := hid (show (encM ⟨K, true, .slice none 0 0⟩).toArray.size = 34 by simpa using enc_len32 ⟨K, true, .slice none 0 0⟩ hkl)
      simp only at g3
      clear g1 g2 hB
      go_wp2_with (first
        | refine wpList_load_row rfl 52 _ rfl _ rfl 52 _ _ _ (by exact g3) Try.underlying52 rfl (by rw [chgSize, SK.out]) ?_
        | (refine wpList_store_row rfl 52 _ _ rfl _ _ rfl rfl 52 _ (by exact g4) (by rw [chgSize, SK.out]) (by rw [SK.out, SO.out]) (all_oneCell_toArray om) ?_))
      refine bodyPost_ret (results_c3 Try.results44 _ _ M 52 _ _ _ rfl (setRow_heap _ _ _ _ _ _ g4) Try.underlying52 rfl (by rw [chgSize, SK.out])) rfl ?_
      refine ⟨⟨K, true, .slice none 0 0⟩, a + 33, ?_, hkl, ⟨none, 0, 0, rfl⟩, fun _ => ?_, ?_⟩
      · rw [HO.out]; rfl
      · rw [HO.out]; exact ⟨rfl, rfl, rfl, Own.nil _ _⟩
      · rw [HM.out]; exact below_setRow hB3 (Nat.le_refl _) _
set_option maxRecDepth 100000 in
set_option maxHeartbeats 1000000 in
theorem rone_p1 (w : World) (z : List Int) (a : Nat) (sp : Option Addr) (cap : Nat) (hS : Src w sp cap z) (hy : Byts z) (hz : z.length ≤ 140737488355328) (ha : a ≤ z.length) (h : a + 33 ≤ z.length) (h1 : z.getD a 0 = 1) (h2 : z.length < a + 35) :
    Calls Try.prog 44 #[.slice sp z.length cap, .int .i64 a] w (ROpost w z a) := by
  have HO := hid (show (one (z.drop a)).e = 30 by
    unfold one
    rw [if_neg (by rw [List.length_drop, dropD, Nat.add_zero, h1]; omega), if_neg (by rw [dropD, Nat.add_zero, h1]; decide), if_pos (by rw [List.length_drop]; omega)])
  obtain ⟨hc, hm, b, o, hb, hsp, hsrc⟩ := id hS
  unfold maxLen at hm
  have i0 : (z.length : Int) ≤ 140737488355328 := by omega
  have ia : (a : Int) ≤ (z.length : Int) := by omega
  obtain ⟨Z, hZ⟩ : ∃ Z, Z = encM dM := ⟨_, rfl⟩
  have g1 := hold2 w (.cells Z.toArray 52) (.cells Z.toArray 52)
  have g2 := hnew2 w (.cells Z.toArray 52) (.cells Z.toArray 52)
  have hB := below2Z w (.cells Z.toArray 52) (.cells Z.toArray 52)
  have SO := hid (show Z.toArray.size = 34 by rw [hZ]; simpa using encD_len)
  have oo : ∀ v ∈ Z, v.oneCell' = true := by rw [hZ]; decide
  have HZ := hid hZ
  obtain rfl := hsp (by omega)
  have hbl := hb (by omega)
  have hB2 := hB
  have c0 := (hB.cell (p := ⟨b, o + a, none⟩) hbl).trans (hsrc a (by omega))
  rw [h1] at c0
  have ib : ¬ (z.length : Int) ≤ (a : Int) := by omega
  have ic : (a : Int) < (z.length : Int) := by omega
  have ie : (a : Int) + 33 ≤ (z.length : Int) := by omega
  have hkl : ((z.drop (a + 1)).take 32).length = 32 := by rw [List.length_take, List.length_drop]; omega
  have hkg : ∀ j, j < 32 → ((z.drop (a + 1)).take 32).getD j 0 = z.getD (a + 1 + j) 0 := fun j hj => by
    rw [List.getD_eq_getElem?_getD, List.getElem?_take, if_pos hj, List.getElem?_drop, ← List.getD_eq_getElem?_getD]
  have hcell : ∀ j wr, j < 32 → Below w.heap.size w wr → wr.cell? ⟨b, o + (a + 1 + j), none⟩ = some (.int .u8 (((z.drop (a + 1)).take 32).getD j 0)) := fun j wr hj hBr => by
    rw [hkg j hj]; exact (hBr.cell (p := ⟨b, o + (a + 1 + j), none⟩) hbl).trans (hsrc _ (by omega))
  have hca : ∀ wr, Below w.heap.size w wr → wr.cell? ⟨b, o + a, none⟩ = some (.int .u8 1) := fun wr hBr => by
    have := (hBr.cell (p := ⟨b, o + a, none⟩) hbl).trans (hsrc a (by omega))
    rwa [h1] at this
  have jf : (z.length : Int) < (a : Int) + 35 := by omega
  have HZ0 := hZ
  have HZP := hid (show Z = encM ⟨padz (((z.drop (a + 1)).take 32).take 0) 32, false, .slice none 0 0⟩ by rw [hZ]; rfl)
  clear hkg
  generalize hKK : (z.drop (a + 1)).take 32 = K at *
  have HKK := hid hKK
  clear hKK hsrc h2 hZ HZ0
  generalize hn : z.length = n at *
  have HN := hid hn
  clear hn h
  go_enter Try.func44, Try.ntmps44
  go_wp2_with (first
    | refine wpList_allocZ rfl rfl Z HZ.out ?_)
  clear c0
  generalize ((w.alloc (.cells Z.toArray 52)).alloc (.cells Z.toArray 52)) = w0 at *
  generalize hM : w.heap.size = M at *
  have HM := hid hM
  clear hM hB2
  rw [HZP.out] at g2
  go_loopw [8] (fun i wr => ∃ j : Nat, j ≤ 32 ∧ i = .int .i64 j ∧ wr.heap[M]? = some (.cells Z.toArray 52) ∧ wr.heap[M + 1]? = some (.cells (encM ⟨padz (K.take j) 32, false, .slice none 0 0⟩).toArray 52) ∧ Below M w wr) (fun i _ => 32 - (intOf i).toNat)
  case atStart => exact ⟨0, by omega, rfl, g1, g2, hB⟩
  case round =>
    clear g1 g2 hB
    obtain ⟨j, hj, rfl, g1, g2, hB⟩ := hrel
    by_cases hlt : j < 32
    · have i1 : (j : Int) < 32 := by omega
      have c1 := hcell j wr hlt hB
      have fz := frozen_of_row _ _ j _ _ g2
      have c2 := enc_cell g2 j (by show j < (padz (K.take j) 32).length; rw [padz_len _ _ (by rw [List.length_take]; omega)]; exact hlt)
      have FIN := hid (show ∀ y : Int, y = K.getD j 0 → (wr.setCell ⟨M + 1, j, none⟩ (.int .u8 y)).heap[M]? = some (.cells Z.toArray 52) ∧ (wr.setCell ⟨M + 1, j, none⟩ (.int .u8 y)).heap[M + 1]? = some (.cells (encM ⟨padz (K.take (j + 1)) 32, false, .slice none 0 0⟩).toArray 52) ∧ Below M w (wr.setCell ⟨M + 1, j, none⟩ (.int .u8 y)) from by
        rintro y rfl
        have hlk : (K.take j).length = j := by rw [List.length_take]; omega
        refine ⟨heap_set_far g1 _ _ (by simp), ?_, hB.setCell (by simp) _⟩
        rw [heap_enc_k g2 j _ (by show j < (padz (K.take j) 32).length; rw [padz_len _ _ (by omega)]; omega)]
        show some (Obj.cells (encM ⟨(padz (K.take j) 32).set j _, _, _⟩).toArray _ _) = _
        have := padz_set (K.take j) 32 (K.getD j 0) (by omega)
        rw [hlk] at this
        rw [this, take_next K j (by omega)])
      clear g1 g2 hB hcell hca
      generalize K.getD j 0 = y at *
      simp only at c2
      generalize (padz (K.take j) 32).getD j 0 = y0 at *
      go_wp2
      go_roundw
      case rel =>
        obtain ⟨q1, q2, q3⟩ := FIN.out y rfl
        exact ⟨j + 1, by omega, by go_num, q1, q2, q3⟩
      case measure => simp [intOf]; omega
    · obtain rfl : j = 32 := by omega
      rw [List.take_of_length_le (by omega), padz_full _ _ hkl] at g2
      clear hlt hj
      have c0 := hca wr hB
      have om : ∀ v ∈ encM ⟨K, false, .slice none 0 0⟩, v.oneCell' = true := one_encM _ rfl
      have SK := hid (show (encM ⟨K, false, .slice none 0 0⟩).toArray.size = 34 by simpa using enc_len32 ⟨K, false, .slice none 0 0⟩ hkl)
      have hB9 := hB
      go_wp2_with (first
        | refine wpList_load_row rfl 52 _ rfl _ rfl 52 _ _ _ (by exact g2) Try.underlying52 rfl (by rw [chgSize, SK.out]) ?_
        | (refine wpList_store_row rfl 52 _ _ rfl _ _ rfl rfl 52 _ (by exact g1) (by rw [chgSize, SK.out]) (by rw [SK.out, SO.out]) (all_oneCell_toArray om) ?_))
      refine bodyPost_ret (results_c3 Try.results44 _ _ M 52 _ _ _ rfl (setRow_heap _ _ _ _ _ _ g1) Try.underlying52 rfl (by rw [chgSize, SK.out])) rfl ?_
      exact ro_err HO.out (by decide) K hkl (a + 33) (by first | rfl | simp) (by rw [HM.out]; exact below_setRow hB9 (Nat.le_refl _) _)
set_option maxRecDepth 100000 in
set_option maxHeartbeats 1000000 in
theorem rone_p2 (w : World) (z : List Int) (a : Nat) (sp : Option Addr) (cap : Nat) (hS : Src w sp cap z) (hy : Byts z) (hz : z.length ≤ 140737488355328) (ha : a ≤ z.length) (h : a + 33 ≤ z.length) (h1 : z.getD a 0 = 1) (h2 : a + 35 ≤ z.length) (h3 : 128 < z.getD (a + 33) 0 + 256 * z.getD (a + 34) 0) :
    Calls Try.prog 44 #[.slice sp z.length cap, .int .i64 a] w (ROpost w z a) := by
  have HO := hid (show (one (z.drop a)).e = 32 by
    unfold one
    rw [if_neg (by rw [List.length_drop, dropD, Nat.add_zero, h1]; omega), if_neg (by rw [dropD, Nat.add_zero, h1]; decide), if_neg (by rw [List.length_drop]; omega), if_pos (by rw [dropD, dropD]; exact h3)])
  obtain ⟨hc, hm, b, o, hb, hsp, hsrc⟩ := id hS
  unfold maxLen at hm
  have i0 : (z.length : Int) ≤ 140737488355328 := by omega
  have ia : (a : Int) ≤ (z.length : Int) := by omega
  obtain ⟨Z, hZ⟩ : ∃ Z, Z = encM dM := ⟨_, rfl⟩
  have g1 := hold2 w (.cells Z.toArray 52) (.cells Z.toArray 52)
  have g2 := hnew2 w (.cells Z.toArray 52) (.cells Z.toArray 52)
  have hB := below2Z w (.cells Z.toArray 52) (.cells Z.toArray 52)
  have SO := hid (show Z.toArray.size = 34 by rw [hZ]; simpa using encD_len)
  have oo : ∀ v ∈ Z, v.oneCell' = true := by rw [hZ]; decide
  have HZ := hid hZ
  obtain rfl := hsp (by omega)
  have hbl := hb (by omega)
  have hB2 := hB
  have c0 := (hB.cell (p := ⟨b, o + a, none⟩) hbl).trans (hsrc a (by omega))
  rw [h1] at c0
  have ib : ¬ (z.length : Int) ≤ (a : Int) := by omega
  have ic : (a : Int) < (z.length : Int) := by omega
  have ie : (a : Int) + 33 ≤ (z.length : Int) := by omega
  have hkl : ((z.drop (a + 1)).take 32).length = 32 := by rw [List.length_take, List.length_drop]; omega
  have hkg : ∀ j, j < 32 → ((z.drop (a + 1)).take 32).getD j 0 = z.getD (a + 1 + j) 0 := fun j hj => by
    rw [List.getD_eq_getElem?_getD, List.getElem?_take, if_pos hj, List.getElem?_drop, ← List.getD_eq_getElem?_getD]
  have hcell : ∀ j wr, j < 32 → Below w.heap.size w wr → wr.cell? ⟨b, o + (a + 1 + j), none⟩ = some (.int .u8 (((z.drop (a + 1)).take 32).getD j 0)) := fun j wr hj hBr => by
    rw [hkg j hj]; exact (hBr.cell (p := ⟨b, o + (a + 1 + j), none⟩) hbl).trans (hsrc _ (by omega))
  have hca : ∀ wr, Below w.heap.size w wr → wr.cell? ⟨b, o + a, none⟩ = some (.int .u8 1) := fun wr hBr => by
    have := (hBr.cell (p := ⟨b, o + a, none⟩) hbl).trans (hsrc a (by omega))
    rwa [h1] at this
  have hc33 : ∀ wr, Below w.heap.size w wr → wr.cell? ⟨b, o + (a + 33), none⟩ = some (.int .u8 (z.getD (a + 33) 0)) := fun wr hBr => (hBr.cell (p := ⟨b, o + (a + 33), none⟩) hbl).trans (hsrc _ (by omega))
  have hc34 : ∀ wr, Below w.heap.size w wr → wr.cell? ⟨b, o + (a + 33 + 1), none⟩ = some (.int .u8 (z.getD (a + 34) 0)) := fun wr hBr => (hBr.cell (p := ⟨b, o + (a + 33 + 1), none⟩) hbl).trans (hsrc _ (by omega))
  have y33 := hy.get (a + 33)
  have y34 := hy.get (a + 34)
  have jf : ¬ (z.length : Int) < (a : Int) + 35 := by omega
  have jg : (a : Int) + 33 + 1 < (z.length : Int) := by omega
  have jh : (a : Int) + 33 < (z.length : Int) := by omega
  have HZ0 := hZ
  have HZP := hid (show Z = encM ⟨padz (((z.drop (a + 1)).take 32).take 0) 32, false, .slice none 0 0⟩ by rw [hZ]; rfl)
  generalize z.getD (a + 33) 0 = p at *
  generalize z.getD (a + 34) 0 = q at *
  have p0 : 0 ≤ p := y33.1
  have p1 : p < 256 := y33.2
  have q0 : 0 ≤ q := y34.1
  have q1 : q < 256 := y34.2
  clear y33 y34
  clear hkg
  generalize hKK : (z.drop (a + 1)).take 32 = K at *
  have HKK := hid hKK
  clear hKK hsrc h2 hZ HZ0
  generalize hn : z.length = n at *
  have HN := hid hn
  clear hn h
  go_enter Try.func44, Try.ntmps44
  go_wp2_with (first
    | refine wpList_allocZ rfl rfl Z HZ.out ?_)
  clear c0
  generalize ((w.alloc (.cells Z.toArray 52)).alloc (.cells Z.toArray 52)) = w0 at *
  generalize hM : w.heap.size = M at *
  have HM := hid hM
  clear hM hB2
  rw [HZP.out] at g2
  go_loopw [8] (fun i wr => ∃ j : Nat, j ≤ 32 ∧ i = .int .i64 j ∧ wr.heap[M]? = some (.cells Z.toArray 52) ∧ wr.heap[M + 1]? = some (.cells (encM ⟨padz (K.take j) 32, false, .slice none 0 0⟩).toArray 52) ∧ Below M w wr) (fun i _ => 32 - (intOf i).toNat)
  case atStart => exact ⟨0, by omega, rfl, g1, g2, hB⟩
  case round =>
    clear g1 g2 hB
    obtain ⟨j, hj, rfl, g1, g2, hB⟩ := hrel
    by_cases hlt : j < 32
    · have i1 : (j : Int) < 32 := by omega
      have c1 := hcell j wr hlt hB
      have fz := frozen_of_row _ _ j _ _ g2
      have c2 := enc_cell g2 j (by show j < (padz (K.take j) 32).length; rw [padz_len _ _ (by rw [List.length_take]; omega)]; exact hlt)
      have FIN := hid (show ∀ y : Int, y = K.getD j 0 → (wr.setCell ⟨M + 1, j, none⟩ (.int .u8 y)).heap[M]? = some (.cells Z.toArray 52) ∧ (wr.setCell ⟨M + 1, j, none⟩ (.int .u8 y)).heap[M + 1]? = some (.cells (encM ⟨padz (K.take (j + 1)) 32, false, .slice none 0 0⟩).toArray 52) ∧ Below M w (wr.setCell ⟨M + 1, j, none⟩ (.int .u8 y)) from by
        rintro y rfl
        have hlk : (K.take j).length = j := by rw [List.length_take]; omega
        refine ⟨heap_set_far g1 _ _ (by simp), ?_, hB.setCell (by simp) _⟩
        rw [heap_enc_k g2 j _ (by show j < (padz (K.take j) 32).length; rw [padz_len _ _ (by omega)]; omega)]
        show some (Obj.cells (encM ⟨(padz (K.take j) 32).set j _, _, _⟩).toArray _ _) = _
        have := padz_set (K.take j) 32 (K.getD j 0) (by omega)
        rw [hlk] at this
        rw [this, take_next K j (by omega)])
      clear g1 g2 hB hcell hca
      generalize K.getD j 0 = y at *
      simp only at c2
      generalize (padz (K.take j) 32).getD j 0 = y0 at *
      go_wp2
      go_roundw
      case rel =>
        obtain ⟨q1, q2, q3⟩ := FIN.out y rfl
        exact ⟨j + 1, by omega, by go_num, q1, q2, q3⟩
      case measure => simp [intOf]; omega
    · obtain rfl : j = 32 := by omega
      rw [List.take_of_length_le (by omega), padz_full _ _ hkl] at g2
      clear hlt hj
      have c0 := hca wr hB
      have om : ∀ v ∈ encM ⟨K, false, .slice none 0 0⟩, v.oneCell' = true := one_encM _ rfl
      have SK := hid (show (encM ⟨K, false, .slice none 0 0⟩).toArray.size = 34 by simpa using enc_len32 ⟨K, false, .slice none 0 0⟩ hkl)
      have c33 := hc33 wr hB
      have c34 := hc34 wr hB
      clear hc33 hc34
      go_wp2
      go_quiet (fail)
      have hB9 := below_drewN hB nq
      go_wp2_with (first
        | refine wpList_load_row rfl 52 _ rfl _ rfl 52 _ _ _ (by exact g2) Try.underlying52 rfl (by rw [chgSize, SK.out]) ?_
        | (refine wpList_store_row rfl 52 _ _ rfl _ _ rfl rfl 52 _ (by exact g1) (by rw [chgSize, SK.out]) (by rw [SK.out, SO.out]) (all_oneCell_toArray om) ?_))
      refine bodyPost_ret (results_c3 Try.results44 _ _ M 52 _ _ _ rfl (setRow_heap _ _ _ _ _ _ g1) Try.underlying52 rfl (by rw [chgSize, SK.out])) rfl ?_
      exact ro_err HO.out (by decide) K hkl (a + 33) (by first | rfl | simp) (by rw [HM.out]; exact below_setRow hB9 (Nat.le_refl _) _)
set_option maxRecDepth 100000 in
set_option maxHeartbeats 1000000 in
theorem rone_p3 (w : World) (z : List Int) (a : Nat) (sp : Option Addr) (cap : Nat) (hS : Src w sp cap z) (hy : Byts z) (hz : z.length ≤ 140737488355328) (ha : a ≤ z.length) (h : a + 33 ≤ z.length) (h1 : z.getD a 0 = 1) (h2 : a + 35 ≤ z.length) (N : Nat) (hN : z.getD (a + 33) 0 + 256 * z.getD (a + 34) 0 = (N : Int)) (h3 : N ≤ 128) (h4 : z.length < a + 35 + N) :
    Calls Try.prog 44 #[.slice sp z.length cap, .int .i64 a] w (ROpost w z a) := by
  have HO := hid (show (one (z.drop a)).e = 30 by
    unfold one
    rw [if_neg (by rw [List.length_drop, dropD, Nat.add_zero, h1]; omega), if_neg (by rw [dropD, Nat.add_zero, h1]; decide), if_neg (by rw [List.length_drop]; omega), if_neg (by rw [dropD, dropD]; omega), if_pos (by rw [dropD, dropD, List.length_drop]; omega)])
  obtain ⟨hc, hm, b, o, hb, hsp, hsrc⟩ := id hS
  unfold maxLen at hm
  have i0 : (z.length : Int) ≤ 140737488355328 := by omega
  have ia : (a : Int) ≤ (z.length : Int) := by omega
  obtain ⟨Z, hZ⟩ : ∃ Z, Z = encM dM := ⟨_, rfl⟩
  have g1 := hold2 w (.cells Z.toArray 52) (.cells Z.toArray 52)
  have g2 := hnew2 w (.cells Z.toArray 52) (.cells Z.toArray 52)
  have hB := below2Z w (.cells Z.toArray 52) (.cells Z.toArray 52)
  have SO := hid (show Z.toArray.size = 34 by rw [hZ]; simpa using encD_len)
  have oo : ∀ v ∈ Z, v.oneCell' = true := by rw [hZ]; decide
  have HZ := hid hZ
  obtain rfl := hsp (by omega)
  have hbl := hb (by omega)
  have hB2 := hB
  have c0 := (hB.cell (p := ⟨b, o + a, none⟩) hbl).trans (hsrc a (by omega))
  rw [h1] at c0
  have ib : ¬ (z.length : Int) ≤ (a : Int) := by omega
  have ic : (a : Int) < (z.length : Int) := by omega
  have ie : (a : Int) + 33 ≤ (z.length : Int) := by omega
  have hkl : ((z.drop (a + 1)).take 32).length = 32 := by rw [List.length_take, List.length_drop]; omega
  have hkg : ∀ j, j < 32 → ((z.drop (a + 1)).take 32).getD j 0 = z.getD (a + 1 + j) 0 := fun j hj => by
    rw [List.getD_eq_getElem?_getD, List.getElem?_take, if_pos hj, List.getElem?_drop, ← List.getD_eq_getElem?_getD]
  have hcell : ∀ j wr, j < 32 → Below w.heap.size w wr → wr.cell? ⟨b, o + (a + 1 + j), none⟩ = some (.int .u8 (((z.drop (a + 1)).take 32).getD j 0)) := fun j wr hj hBr => by
    rw [hkg j hj]; exact (hBr.cell (p := ⟨b, o + (a + 1 + j), none⟩) hbl).trans (hsrc _ (by omega))
  have hca : ∀ wr, Below w.heap.size w wr → wr.cell? ⟨b, o + a, none⟩ = some (.int .u8 1) := fun wr hBr => by
    have := (hBr.cell (p := ⟨b, o + a, none⟩) hbl).trans (hsrc a (by omega))
    rwa [h1] at this
  have hc33 : ∀ wr, Below w.heap.size w wr → wr.cell? ⟨b, o + (a + 33), none⟩ = some (.int .u8 (z.getD (a + 33) 0)) := fun wr hBr => (hBr.cell (p := ⟨b, o + (a + 33), none⟩) hbl).trans (hsrc _ (by omega))
  have hc34 : ∀ wr, Below w.heap.size w wr → wr.cell? ⟨b, o + (a + 33 + 1), none⟩ = some (.int .u8 (z.getD (a + 34) 0)) := fun wr hBr => (hBr.cell (p := ⟨b, o + (a + 33 + 1), none⟩) hbl).trans (hsrc _ (by omega))
  have y33 := hy.get (a + 33)
  have y34 := hy.get (a + 34)
  have jf : ¬ (z.length : Int) < (a : Int) + 35 := by omega
  have jg : (a : Int) + 33 + 1 < (z.length : Int) := by omega
  have jh : (a : Int) + 33 < (z.length : Int) := by omega
  have HZ0 := hZ
  have HZP := hid (show Z = encM ⟨padz (((z.drop (a + 1)).take 32).take 0) 32, false, .slice none 0 0⟩ by rw [hZ]; rfl)
  generalize z.getD (a + 33) 0 = p at *
  generalize z.getD (a + 34) 0 = q at *
  have p0 : 0 ≤ p := y33.1
  have p1 : p < 256 := y33.2
  have q0 : 0 ≤ q := y34.1
  have q1 : q < 256 := y34.2
  clear y33 y34
  have k1 : ¬ (128 : Int) < p + 256 * q := by omega
  have k2 : (z.length : Int) < (a : Int) + 33 + 2 + (p + 256 * q) := by omega
  clear hN h3 h4
  clear hkg
  generalize hKK : (z.drop (a + 1)).take 32 = K at *
  have HKK := hid hKK
  clear hKK hsrc h2 hZ HZ0
  generalize hn : z.length = n at *
  have HN := hid hn
  clear hn h
  go_enter Try.func44, Try.ntmps44
  go_wp2_with (first
    | refine wpList_allocZ rfl rfl Z HZ.out ?_)
  clear c0
  generalize ((w.alloc (.cells Z.toArray 52)).alloc (.cells Z.toArray 52)) = w0 at *
  generalize hM : w.heap.size = M at *
  have HM := hid hM
  clear hM hB2
  rw [HZP.out] at g2
  go_loopw [8] (fun i wr => ∃ j : Nat, j ≤ 32 ∧ i = .int .i64 j ∧ wr.heap[M]? = some (.cells Z.toArray 52) ∧ wr.heap[M + 1]? = some (.cells (encM ⟨padz (K.take j) 32, false, .slice none 0 0⟩).toArray 52) ∧ Below M w wr) (fun i _ => 32 - (intOf i).toNat)
  case atStart => exact ⟨0, by omega, rfl, g1, g2, hB⟩
  case round =>
    clear g1 g2 hB
    obtain ⟨j, hj, rfl, g1, g2, hB⟩ := hrel
    by_cases hlt : j < 32
    · have i1 : (j : Int) < 32 := by omega
      have c1 := hcell j wr hlt hB
      have fz := frozen_of_row _ _ j _ _ g2
      have c2 := enc_cell g2 j (by show j < (padz (K.take j) 32).length; rw [padz_len _ _ (by rw [List.length_take]; omega)]; exact hlt)
      have FIN := hid (show ∀ y : Int, y = K.getD j 0 → (wr.setCell ⟨M + 1, j, none⟩ (.int .u8 y)).heap[M]? = some (.cells Z.toArray 52) ∧ (wr.setCell ⟨M + 1, j, none⟩ (.int .u8 y)).heap[M + 1]? = some (.cells (encM ⟨padz (K.take (j + 1)) 32, false, .slice none 0 0⟩).toArray 52) ∧ Below M w (wr.setCell ⟨M + 1, j, none⟩ (.int .u8 y)) from by
        rintro y rfl
        have hlk : (K.take j).length = j := by rw [List.length_take]; omega
        refine ⟨heap_set_far g1 _ _ (by simp), ?_, hB.setCell (by simp) _⟩
        rw [heap_enc_k g2 j _ (by show j < (padz (K.take j) 32).length; rw [padz_len _ _ (by omega)]; omega)]
        show some (Obj.cells (encM ⟨(padz (K.take j) 32).set j _, _, _⟩).toArray _ _) = _
        have := padz_set (K.take j) 32 (K.getD j 0) (by omega)
        rw [hlk] at this
        rw [this, take_next K j (by omega)])
      clear g1 g2 hB hcell hca
      generalize K.getD j 0 = y at *
      simp only at c2
      generalize (padz (K.take j) 32).getD j 0 = y0 at *
      go_wp2
      go_roundw
      case rel =>
        obtain ⟨q1, q2, q3⟩ := FIN.out y rfl
        exact ⟨j + 1, by omega, by go_num, q1, q2, q3⟩
      case measure => simp [intOf]; omega
    · obtain rfl : j = 32 := by omega
      rw [List.take_of_length_le (by omega), padz_full _ _ hkl] at g2
      clear hlt hj
      have c0 := hca wr hB
      have om : ∀ v ∈ encM ⟨K, false, .slice none 0 0⟩, v.oneCell' = true := one_encM _ rfl
      have SK := hid (show (encM ⟨K, false, .slice none 0 0⟩).toArray.size = 34 by simpa using enc_len32 ⟨K, false, .slice none 0 0⟩ hkl)
      have c33 := hc33 wr hB
      have c34 := hc34 wr hB
      clear hc33 hc34
      go_wp2
      go_quiet (fail)
      have hB9 := below_drewN hB nq
      go_wp2_with (first
        | refine wpList_load_row rfl 52 _ rfl _ rfl 52 _ _ _ (by exact g2) Try.underlying52 rfl (by rw [chgSize, SK.out]) ?_
        | (refine wpList_store_row rfl 52 _ _ rfl _ _ rfl rfl 52 _ (by exact g1) (by rw [chgSize, SK.out]) (by rw [SK.out, SO.out]) (all_oneCell_toArray om) ?_))
      refine bodyPost_ret (results_c3 Try.results44 _ _ M 52 _ _ _ rfl (setRow_heap _ _ _ _ _ _ g1) Try.underlying52 rfl (by rw [chgSize, SK.out])) rfl ?_
      exact ro_err HO.out (by decide) K hkl (a + 35) (by first | rfl | simp) (by rw [HM.out]; exact below_setRow hB9 (Nat.le_refl _) _)
set_option maxRecDepth 100000 in
set_option maxHeartbeats 2000000 in
theorem rone_p4 (w : World) (z : List Int) (a : Nat) (sp : Option Addr) (cap : Nat) (hS : Src w sp cap z) (hy : Byts z) (hz : z.length ≤ 140737488355328) (ha : a ≤ z.length) (h : a + 33 ≤ z.length) (h1 : z.getD a 0 = 1) (h2 : a + 35 ≤ z.length) (N : Nat) (hN : z.getD (a + 33) 0 + 256 * z.getD (a + 34) 0 = (N : Int)) (h3 : N ≤ 128) (h4 : a + 35 + N ≤ z.length) :
    Calls Try.prog 44 #[.slice sp z.length cap, .int .i64 a] w (ROpost w z a) := by
  have HO := hid (show one (z.drop a) = ⟨0, ⟨(z.drop (a + 1)).take 32, false, (z.drop (a + 35)).take N⟩, 35 + N⟩ by
    unfold one
    rw [if_neg (by rw [List.length_drop, dropD, Nat.add_zero, h1]; omega), if_neg (by rw [dropD, Nat.add_zero, h1]; decide), if_neg (by rw [List.length_drop]; omega), if_neg (by rw [dropD, dropD]; omega), if_neg (by rw [dropD, dropD, List.length_drop]; omega), dropD, dropD, hN, Int.toNat_natCast, List.drop_drop, List.drop_drop])
  obtain ⟨hc, hm, b, o, hb, hsp, hsrc⟩ := id hS
  unfold maxLen at hm
  have i0 : (z.length : Int) ≤ 140737488355328 := by omega
  have ia : (a : Int) ≤ (z.length : Int) := by omega
  obtain ⟨Z, hZ⟩ : ∃ Z, Z = encM dM := ⟨_, rfl⟩
  have g1 := hold2 w (.cells Z.toArray 52) (.cells Z.toArray 52)
  have g2 := hnew2 w (.cells Z.toArray 52) (.cells Z.toArray 52)
  have hB := below2Z w (.cells Z.toArray 52) (.cells Z.toArray 52)
  have SO := hid (show Z.toArray.size = 34 by rw [hZ]; simpa using encD_len)
  have oo : ∀ v ∈ Z, v.oneCell' = true := by rw [hZ]; decide
  have HZ := hid hZ
  obtain rfl := hsp (by omega)
  have hbl := hb (by omega)
  have hB2 := hB
  have c0 := (hB.cell (p := ⟨b, o + a, none⟩) hbl).trans (hsrc a (by omega))
  rw [h1] at c0
  have ib : ¬ (z.length : Int) ≤ (a : Int) := by omega
  have ic : (a : Int) < (z.length : Int) := by omega
  have ie : (a : Int) + 33 ≤ (z.length : Int) := by omega
  have hkl : ((z.drop (a + 1)).take 32).length = 32 := by rw [List.length_take, List.length_drop]; omega
  have hkg : ∀ j, j < 32 → ((z.drop (a + 1)).take 32).getD j 0 = z.getD (a + 1 + j) 0 := fun j hj => by
    rw [List.getD_eq_getElem?_getD, List.getElem?_take, if_pos hj, List.getElem?_drop, ← List.getD_eq_getElem?_getD]
  have hcell : ∀ j wr, j < 32 → Below w.heap.size w wr → wr.cell? ⟨b, o + (a + 1 + j), none⟩ = some (.int .u8 (((z.drop (a + 1)).take 32).getD j 0)) := fun j wr hj hBr => by
    rw [hkg j hj]; exact (hBr.cell (p := ⟨b, o + (a + 1 + j), none⟩) hbl).trans (hsrc _ (by omega))
  have hca : ∀ wr, Below w.heap.size w wr → wr.cell? ⟨b, o + a, none⟩ = some (.int .u8 1) := fun wr hBr => by
    have := (hBr.cell (p := ⟨b, o + a, none⟩) hbl).trans (hsrc a (by omega))
    rwa [h1] at this
  have hc33 : ∀ wr, Below w.heap.size w wr → wr.cell? ⟨b, o + (a + 33), none⟩ = some (.int .u8 (z.getD (a + 33) 0)) := fun wr hBr => (hBr.cell (p := ⟨b, o + (a + 33), none⟩) hbl).trans (hsrc _ (by omega))
  have hc34 : ∀ wr, Below w.heap.size w wr → wr.cell? ⟨b, o + (a + 33 + 1), none⟩ = some (.int .u8 (z.getD (a + 34) 0)) := fun wr hBr => (hBr.cell (p := ⟨b, o + (a + 33 + 1), none⟩) hbl).trans (hsrc _ (by omega))
  have y33 := hy.get (a + 33)
  have y34 := hy.get (a + 34)
  have jf : ¬ (z.length : Int) < (a : Int) + 35 := by omega
  have jg : (a : Int) + 33 + 1 < (z.length : Int) := by omega
  have jh : (a : Int) + 33 < (z.length : Int) := by omega
  have HZ0 := hZ
  have HZP := hid (show Z = encM ⟨padz (((z.drop (a + 1)).take 32).take 0) 32, false, .slice none 0 0⟩ by rw [hZ]; rfl)
  have HV := hid (show ∀ s, s = (if cap = a + 35 then some (⟨b, o, none⟩ : Addr) else some ⟨b, o + (a + 35), none⟩) → Src w s (cap - (a + 35)) ((z.drop (a + 35)).take N) ∧ (s = none → cap - (a + 35) = 0) from Rst.mid hS (by omega) (a + 35) N (by omega))
  have HVL := hid (show ((z.drop (a + 35)).take N).length = N by rw [List.length_take, List.length_drop]; omega)
  generalize z.getD (a + 33) 0 = p at *
  generalize z.getD (a + 34) 0 = q at *
  have p0 : 0 ≤ p := y33.1
  have p1 : p < 256 := y33.2
  have q0 : 0 ≤ q := y34.1
  have q1 : q < 256 := y34.2
  clear y33 y34
  have k1 : ¬ (128 : Int) < p + 256 * q := by omega
  have k2 : ¬ (z.length : Int) < (a : Int) + 33 + 2 + (p + 256 * q) := by omega
  have k3 : (a : Int) + 33 + 2 ≤ (z.length : Int) := by omega
  have k4 : (a : Int) + 33 + 2 + (p + 256 * q) ≤ (cap : Int) := by omega
  have k5 : (((a + 35 : Nat) : Int)) ≤ ((a + 35 + N : Nat) : Int) := by omega
  have k6 : ((a + 35 + N : Nat) : Int) ≤ (cap : Int) := by omega
  have K5 := hid k5
  have K6 := hid k6
  have HN' := hid hN
  have H3 := hid h3
  clear hN h3 h4 k5 k6
  generalize (z.drop (a + 35)).take N = val at *
  clear hkg
  generalize hKK : (z.drop (a + 1)).take 32 = K at *
  have HKK := hid hKK
  clear hKK hsrc h2 hZ HZ0
  generalize hn : z.length = n at *
  have HN := hid hn
  clear hn h
  go_enter Try.func44, Try.ntmps44
  go_wp2_with (first
    | refine wpList_allocZ rfl rfl Z HZ.out ?_)
  clear c0
  generalize ((w.alloc (.cells Z.toArray 52)).alloc (.cells Z.toArray 52)) = w0 at *
  generalize hM : w.heap.size = M at *
  have HM := hid hM
  clear hM hB2
  rw [HZP.out] at g2
  go_loopw [8] (fun i wr => ∃ j : Nat, j ≤ 32 ∧ i = .int .i64 j ∧ wr.heap[M]? = some (.cells Z.toArray 52) ∧ wr.heap[M + 1]? = some (.cells (encM ⟨padz (K.take j) 32, false, .slice none 0 0⟩).toArray 52) ∧ Below M w wr) (fun i _ => 32 - (intOf i).toNat)
  case atStart => exact ⟨0, by omega, rfl, g1, g2, hB⟩
  case round =>
    clear g1 g2 hB
    obtain ⟨j, hj, rfl, g1, g2, hB⟩ := hrel
    by_cases hlt : j < 32
    · have i1 : (j : Int) < 32 := by omega
      have c1 := hcell j wr hlt hB
      have fz := frozen_of_row _ _ j _ _ g2
      have c2 := enc_cell g2 j (by show j < (padz (K.take j) 32).length; rw [padz_len _ _ (by rw [List.length_take]; omega)]; exact hlt)
      have FIN := hid (show ∀ y : Int, y = K.getD j 0 → (wr.setCell ⟨M + 1, j, none⟩ (.int .u8 y)).heap[M]? = some (.cells Z.toArray 52) ∧ (wr.setCell ⟨M + 1, j, none⟩ (.int .u8 y)).heap[M + 1]? = some (.cells (encM ⟨padz (K.take (j + 1)) 32, false, .slice none 0 0⟩).toArray 52) ∧ Below M w (wr.setCell ⟨M + 1, j, none⟩ (.int .u8 y)) from by
        rintro y rfl
        have hlk : (K.take j).length = j := by rw [List.length_take]; omega
        refine ⟨heap_set_far g1 _ _ (by simp), ?_, hB.setCell (by simp) _⟩
        rw [heap_enc_k g2 j _ (by show j < (padz (K.take j) 32).length; rw [padz_len _ _ (by omega)]; omega)]
        show some (Obj.cells (encM ⟨(padz (K.take j) 32).set j _, _, _⟩).toArray _ _) = _
        have := padz_set (K.take j) 32 (K.getD j 0) (by omega)
        rw [hlk] at this
        rw [this, take_next K j (by omega)])
      clear g1 g2 hB hcell hca
      generalize K.getD j 0 = y at *
      simp only at c2
      generalize (padz (K.take j) 32).getD j 0 = y0 at *
      go_wp2
      go_roundw
      case rel =>
        obtain ⟨q1, q2, q3⟩ := FIN.out y rfl
        exact ⟨j + 1, by omega, by go_num, q1, q2, q3⟩
      case measure => simp [intOf]; omega
    · obtain rfl : j = 32 := by omega
      rw [List.take_of_length_le (by omega), padz_full _ _ hkl] at g2
      clear hlt hj
      have c0 := hca wr hB
      have om : ∀ v ∈ encM ⟨K, false, .slice none 0 0⟩, v.oneCell' = true := one_encM _ rfl
      have SK := hid (show (encM ⟨K, false, .slice none 0 0⟩).toArray.size = 34 by simpa using enc_len32 ⟨K, false, .slice none 0 0⟩ hkl)
      have c33 := hc33 wr hB
      have c34 := hc34 wr hB
      clear hc33 hc34
      go_wp2
      go_quiet (fail)
      have hB9 := below_drewN hB nq
      have ha35 : (a : Int) + 33 + 2 = ((a + 35 : Nat) : Int) := by omega
      have HA35 := hid ha35
      have HA36 := hid (show (a : Int) + 33 + 2 + (p + 256 * q) = ((a + 35 + N : Nat) : Int) by have := HN'.out; omega)
      clear ha35
      go_wp2_with (first
        | (refine wpList_cut2 rfl (.tmp 96) (.tmp 97) (.tmp 100) rfl b o n cap (a + 35) (a + 35 + N) rfl (congrArg (Value.int .i64) HA35.out) (congrArg (Value.int .i64) HA36.out) K5.out K6.out ?_; intro s2 hs2; replace hs2 := hid hs2))
      obtain ⟨srcv, nilv⟩ := HV.out s2 hs2.out
      have KB := rbytes_any (wr.drewN nq) val s2 (cap - (a + 35)) (srcv.below hB9 (by rw [HM.out]; exact Nat.le_refl _)) (by rw [HVL.out]; have := H3.out; omega)
      rw [HVL.out] at KB
      refine KB.mono ?_
      rintro e w4 ⟨v9, rfl, hO9, hb9⟩
      obtain ⟨sp9, cap9, rfl, _, _⟩ := id hO9.form
      have hm0 : M + 1 < (wr.drewN nq).heap.size := hlt_ g2
      have f1 := hbel hb9 g1 (by show M < (wr.drewN nq).heap.size; omega)
      have f2 := hbel hb9 g2 hm0
      have f3 : Below M w w4 := hB9.trans (hb9.mono (by omega))
      have fz := frozen_of_row _ _ 33 _ _ f2
      have c3 := enc_cellV f2 hkl
      simp only at c3
      have f4 := heap_enc_v f2 (.slice sp9 val.length cap9) hkl
      simp only at f4
      have f5 := heap_set_far f1 ⟨M + 1, 33, none⟩ (.slice sp9 val.length cap9) (by simp)
      have f6 : Below M w (w4.setCell ⟨M + 1, 33, none⟩ (.slice sp9 val.length cap9)) := f3.setCell (by simp) _
      have hO8 : Own (w4.setCell ⟨M + 1, 33, none⟩ (.slice sp9 val.length cap9)) (wr.drewN nq).heap.size (.slice sp9 val.length cap9) val := hO9.of_heap fun k hk => by
        have := (hO9.block k hk).1
        rw [heap_setCell_other _ _ _ _ (by show k ≠ M + 1; omega)]
      have om2 : ∀ v ∈ encM ⟨K, false, .slice sp9 val.length cap9⟩, v.oneCell' = true := one_encM _ rfl
      have SK2 := hid (show (encM ⟨K, false, .slice sp9 val.length cap9⟩).toArray.size = 34 by simpa using enc_len32 ⟨K, false, .slice sp9 val.length cap9⟩ hkl)
      clear g1 g2 hB hb9 hO9 KB om SK f1 f2 f3
      go_wp2_with (first
        | refine wpList_load_row rfl 52 _ rfl _ rfl 52 _ _ _ (by exact f4) Try.underlying52 rfl (by rw [chgSize, SK2.out]) ?_
        | (refine wpList_store_row rfl 52 _ _ rfl _ _ rfl rfl 52 _ (by exact f5) (by rw [chgSize, SK2.out]) (by rw [SK2.out, SO.out]) (all_oneCell_toArray om2) ?_))
      refine bodyPost_ret (results_c3 Try.results44 _ _ M 52 _ _ _ rfl (setRow_heap _ _ _ _ _ _ f5) Try.underlying52 rfl (by rw [chgSize, SK2.out])) rfl ?_
      refine ⟨⟨K, false, .slice sp9 val.length cap9⟩, a + 35 + N, ?_, hkl, ⟨_, _, _, rfl⟩, fun _ => ?_, ?_⟩
      · rw [HO.out, ← HA36.out]; rfl
      · rw [HO.out]
        refine ⟨by show a + 35 + N = a + (35 + N); omega, rfl, rfl, ?_⟩
        rw [HM.out]
        refine (hO8.base (by omega)).of_heap fun k hk => ?_
        have := (hO8.block k hk).1
        exact setRow_other _ _ _ _ (by omega)
      · rw [HM.out]; exact below_setRow f6 (Nat.le_refl _) _
end Go.Proofs.Ytcifbnldohmbnab
