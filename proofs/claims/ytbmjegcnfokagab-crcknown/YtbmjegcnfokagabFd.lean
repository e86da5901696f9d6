import Derived.Test.YtbmjegcnfokagabFc
namespace Go.Proofs.Ytbmjegcnfokagab
set_option linter.unusedVariables false
set_option linter.unusedSimpArgs false
open Go.RowKit
attribute [local go_sem ↓] Go.wp_at_zero Go.wp_at_succ

theorem imgs_pad (n m : Nat) (h : m < 32) : (padz ((imgs n).take m) 32).set m ((stepN (8 * n) (2 ^ m) : Nat) : Int) = padz ((imgs n).take (m + 1)) 32 := by
  have hl : ((imgs n).take m).length = m := by rw [List.length_take, imgs_len]; omega
  have := padz_set ((imgs n).take m) 32 ((stepN (8 * n) (2 ^ m) : Nat) : Int) (by omega)
  rw [hl] at this
  rw [this]
  congr 1
  have hm : m < (imgs n).length := by rw [imgs_len]; exact h
  rw [List.take_succ_eq_append_getElem hm]
  congr 1
  have := imgs_get n m h
  rw [List.getD_eq_getElem?_getD, List.getElem?_eq_getElem hm] at this
  simpa using this.symm
theorem imgs_all (n : Nat) : padz ((imgs n).take 32) 32 = imgs n := by
  rw [List.take_of_length_le (by rw [imgs_len]; exact Nat.le_refl _), padz_full _ _ (imgs_len n)]
theorem imgs_none (n : Nat) : padz ((imgs n).take 0) 32 = padz [] 32 := rfl
theorem zero1_src (w : World) : Src (w.alloc (.cells #[.int .u8 0] 5)) (some ⟨w.heap.size, 0, none⟩) 1 [0] := by
  have h : (w.alloc (.cells #[.int .u8 0] 5)).heap[w.heap.size]? = some (.cells (ints .u8 ([0] ++ [])).toArray 5) := hnew w _
  exact src_row h 1 (by simp) (by simp [maxLen])
theorem byts1 : Byts [0] := fun x hx => by simp at hx; subst hx; decide
theorem feed_zero1 (r : Nat) : feed r [0] = stepN (8 * 1) r := by simp [feed]
theorem ones_start : (#[Value.int IntKind.u32 0, Value.int IntKind.u32 0, Value.int IntKind.u32 0, Value.int IntKind.u32 0, Value.int IntKind.u32 0, Value.int IntKind.u32 0, Value.int IntKind.u32 0, Value.int IntKind.u32 0, Value.int IntKind.u32 0, Value.int IntKind.u32 0, Value.int IntKind.u32 0, Value.int IntKind.u32 0, Value.int IntKind.u32 0, Value.int IntKind.u32 0, Value.int IntKind.u32 0, Value.int IntKind.u32 0, Value.int IntKind.u32 0, Value.int IntKind.u32 0, Value.int IntKind.u32 0, Value.int IntKind.u32 0, Value.int IntKind.u32 0, Value.int IntKind.u32 0, Value.int IntKind.u32 0, Value.int IntKind.u32 0, Value.int IntKind.u32 0, Value.int IntKind.u32 0, Value.int IntKind.u32 0, Value.int IntKind.u32 0, Value.int IntKind.u32 0, Value.int IntKind.u32 0, Value.int IntKind.u32 0, Value.int IntKind.u32 0] : Array Value) = (ints .u32 (padz [] 32)).toArray := rfl
theorem Try.size39 : (Try.prog.info? 39).map (·.size) = some 32 := by kernel_rfl

set_option maxRecDepth 100000 in
set_option maxHeartbeats 400000 in
theorem ones_any (w : World) :
    Calls Try.prog 19 #[] w fun e w' => e = .returned (.agg (ints .u32 (imgs 1)).toArray) ∧ Below w.heap.size w w' := by
  go_enter Try.func19, Try.ntmps19
  go_wp2
  rw [ones_start]
  go_loopw [3] (fun i wr => ∃ m : Nat, m ≤ 32 ∧ i = .int .i64 m ∧ wr.heap[w.heap.size]? = some (Obj.cells (ints .u32 (padz [] 32)).toArray 39) ∧ wr.heap[w.heap.size + 1]? = some (Obj.cells (ints .u32 (padz ((imgs 1).take m) 32)).toArray 39) ∧ Below w.heap.size w wr) (fun i _ => 32 - (intOf i).toNat)
  case atStart => exact ⟨0, by omega, rfl, heap_alloc2_old w _ _, heap_alloc2_new w _ _, ((Below.refl _ _).alloc (Nat.le_refl _) _).alloc (by simp) _⟩
  case round =>
    obtain ⟨m, hm, rfl, h1, h2, hB⟩ := hrel
    by_cases hlt : m < 32
    · have i1 : (m : Int) < 32 := by omega
      have hp2 := two_pow_lt hlt
      have e1 : (2 : Int) ^ m = ((2 ^ m : Nat) : Int) := by push_cast; rfl
      have e2 : (2 : Int) ^ m < 4294967296 := by rw [e1]; omega
      have e3 : IntKind.u32.wrap ((2 : Int) ^ m) = (2 : Int) ^ m := by
        rw [IntKind.wrap_u32]; exact Int.emod_eq_of_lt (by rw [e1]; exact Int.natCast_nonneg _) e2
      have HE := hid e1
      clear e1
      have HP := hid (imgs_pad 1 m hlt)
      go_wp2_with fail
      rw [HE.out]
      refine (feed_any (wr.alloc (.cells #[.int .u8 0] 5)) (2 ^ m) hp2 [0] byts1 (some ⟨wr.heap.size, 0, none⟩) 1 (zero1_src wr)).mono ?_
      rintro e w2 ⟨rfl, b2⟩
      rw [feed_zero1]
      have bA : Below wr.heap.size wr (wr.alloc (.cells #[.int .u8 0] 5)) := (Below.refl _ _).alloc (Nat.le_refl _) _
      have b02 : Below wr.heap.size wr w2 := bA.trans (b2.mono (by simp))
      have g1 := hbel b02 h1 (_root_.Go.Proofs.Ytbmjegcnfokagab.hlt h1)
      have g2 := hbel b02 h2 (_root_.Go.Proofs.Ytbmjegcnfokagab.hlt h2)
      have bB := hB.trans (b02.mono hB.size)
      clear b2 bA b02 h1 h2 hB
      generalize stepN (8 * 1) (2 ^ m) = y at *
      have c2 := cell_ints g2 m (by rw [padz_len _ _ (by rw [List.length_take]; omega)]; omega)
      have f2 : w2.frozen? ⟨w.heap.size + 1, m, none⟩ = false := frozen_of_row _ _ _ _ _ g2
      generalize (padz (List.take m (imgs 1)) 32).getD m 0 = z at *
      go_wp2
      go_roundw
      case rel => exact ⟨m + 1, by omega, by go_num, heap_set_far g1 _ _ (by show w.heap.size ≠ w.heap.size + 1; omega), (by have := heap_set_ints g2 m (y : Int); rw [HP.out] at this; exact this), bB.setCell (by show w.heap.size ≤ w.heap.size + 1; omega) _⟩
      case measure => simp [intOf]; omega
    · obtain rfl : m = 32 := by omega
      rw [imgs_all] at h2
      have hsl := imgs_len 1
      have K1 := hid (show (Try.prog.info? 39).map (·.size) = some (ints .u32 (imgs 1)).length by rw [Try.size39, ints_len, hsl])
      have K3 := hid (show (Try.prog.info? 39).map (·.size) = some (ints .u32 (imgs 1)).toArray.size by rw [Try.size39, ints_size, hsl])
      have K2 := hid (show (ints .u32 (padz [] 32)).toArray.size = (ints .u32 (imgs 1)).toArray.size by rw [ints_size, ints_size, hsl]; rfl)
      have ho := all_oneCell_toArray (ints_one .u32 (imgs 1))
      replace hsl := hid hsl
      have rg := rng h2
      clear hlt
      go_wp2_with (first | refine wpList_load_row rfl 39 _ rfl _ rfl 39 _ _ _ h2 Try.underlying39 rfl K3.out ?_ | refine wpList_store_row rfl 39 _ _ rfl _ _ rfl rfl 39 _ h1 K3.out K2.out ho ?_)
      exact bodyPost_ret (v := .agg (ints .u32 (imgs 1)).toArray) (results_cell_row Try.results19 _ _ w.heap.size 39 _ _ _ rfl (setRow_heap _ _ _ _ _ _ h1) Try.underlying39 rfl K3.out) rfl ⟨rfl, below_setRow hB (Nat.le_refl _) _⟩
set_option maxRecDepth 100000 in
set_option maxHeartbeats 400000 in
theorem twice_any (w : World) (n : Nat) :
    Calls Try.prog 21 #[.agg (ints .u32 (imgs n)).toArray] w fun e w' => e = .returned (.agg (ints .u32 (imgs (2 * n))).toArray) ∧ Below w.heap.size w w' := by
  go_enter Try.func21, Try.ntmps21
  go_wp2
  rw [ones_start]
  go_loopw [5] (fun i wr => ∃ m : Nat, m ≤ 32 ∧ i = .int .i64 m ∧ wr.heap[w.heap.size]? = some (Obj.cells (ints .u32 (imgs n)).toArray 39) ∧ wr.heap[w.heap.size + 1]? = some (Obj.cells (ints .u32 (padz [] 32)).toArray 39) ∧ wr.heap[w.heap.size + 1 + 1]? = some (Obj.cells (ints .u32 (padz ((imgs (2 * n)).take m) 32)).toArray 39) ∧ Below w.heap.size w wr) (fun i _ => 32 - (intOf i).toNat)
  case atStart => exact ⟨0, by omega, rfl, heap3_old w _ _ _, heap3_mid w _ _ _, heap3_new w _ _ _, below3 w _ _ _⟩
  case round =>
    obtain ⟨m, hm, rfl, h1, h2, h3, hB⟩ := hrel
    by_cases hlt : m < 32
    · have i1 : (m : Int) < 32 := by omega
      have hp2 := two_pow_lt hlt
      have hq := stepN_lt (8 * n) _ hp2
      have HP := hid (imgs_pad (2 * n) m hlt)
      have c1 : wr.cell? ⟨w.heap.size, m, none⟩ = some (.int .u32 ((stepN (8 * n) (2 ^ m) : Nat) : Int)) := by rw [cell_ints h1 m (by rw [imgs_len]; omega), imgs_get n m hlt]
      rw [show stepN (8 * (2 * n)) (2 ^ m) = stepN (8 * n) (stepN (8 * n) (2 ^ m)) by rw [← stepN_add]; congr 1; omega] at HP
      have KP := hid (fun w' => pass_any w' n (stepN (8 * n) (2 ^ m)) hq)
      have rg := rng h1
      have K1 : (Try.prog.info? 39).map (·.size) = some (ints .u32 (imgs n)).length := by rw [Try.size39, ints_len, imgs_len]
      have hl32 : (ints .u32 (imgs n)).length = 32 := by rw [ints_len, imgs_len]
      have hone := ints_one .u32 (imgs n)
      have u32 := Try.underlying39
      generalize stepN (8 * n) (stepN (8 * n) (2 ^ m)) = y at *
      generalize stepN (8 * n) (2 ^ m) = q at *
      have c2 := cell_ints h3 m (by rw [padz_len _ _ (by rw [List.length_take]; omega)]; omega)
      have f2 : wr.frozen? ⟨w.heap.size + 1 + 1, m, none⟩ = false := frozen_of_row _ _ _ _ _ h3
      generalize (padz (List.take m (imgs (2 * n))) 32).getD m 0 = z at *
      go_wp2
      have h1' : wr.drew.heap[w.heap.size]? = some (Obj.cells (ints .u32 (imgs n)).toArray 39) := h1
      have h2' : wr.drew.heap[w.heap.size + 1]? = some (Obj.cells (ints .u32 (padz [] 32)).toArray 39) := h2
      have h3' : wr.drew.heap[w.heap.size + 1 + 1]? = some (Obj.cells (ints .u32 (padz (List.take m (imgs (2 * n))) 32)).toArray 39) := h3
      have hB' := hB.drew
      have KC := hid (fun (w' : World) (h : w'.heap[w.heap.size]? = some (Obj.cells (ints .u32 (imgs n)).toArray 39)) => show w'.cell? ⟨w.heap.size, m, none⟩ = some (.int .u32 (q : Int)) by
        rw [← c1, cell_of_row _ _ _ _ _ _ h, cell_of_row _ _ _ _ _ _ h1])
      have KG := hid (fun (w' : World) (h : w'.heap[w.heap.size + 1 + 1]? = some (Obj.cells (ints .u32 (padz (List.take m (imgs (2 * n))) 32)).toArray 39)) => show w'.cell? ⟨w.heap.size + 1 + 1, m, none⟩ = some (.int .u32 z) by
        rw [← c2, cell_of_row _ _ _ _ _ _ h, cell_of_row _ _ _ _ _ _ h3])
      go_region_held3 (fun w' => w'.rangeAt w.heap.size 0 (ints .u32 (imgs n)) ∧ w'.cell? ⟨w.heap.size, m, none⟩ = some (.int .u32 (q : Int))) (first | exact ⟨rg, c1⟩ | exact ⟨rg4, c4⟩ | assumption | exact ⟨rg5, c5⟩)
        (first | (go_at_call 20; refine (KP.out _).mono ?_; rintro e w4 ⟨rfl, b4⟩; have g1 := hbel b4 h1' (_root_.Go.Proofs.Ytbmjegcnfokagab.hlt h1'); have g2 := hbel b4 h2' (_root_.Go.Proofs.Ytbmjegcnfokagab.hlt h2'); have g3 := hbel b4 h3' (_root_.Go.Proofs.Ytbmjegcnfokagab.hlt h3'); have rg4 := rng g1; have c4 := KC.out w4 g1; have bB := hB'.trans (b4.mono hB'.size); have d4 := KG.out w4 g3; have f4 : w4.frozen? ⟨w.heap.size + 1 + 1, m, none⟩ = false := frozen_of_row _ _ _ _ _ g3; have g1' := heap_set_far g1 ⟨w.heap.size + 1 + 1, m, none⟩ (.int .u32 (y : Int)) (by show w.heap.size ≠ w.heap.size + 1 + 1; omega); have rg5 := rng g1'; have c5 := KC.out _ g1'))
      clear h1 h2 h3 h1' h2' h3' hB hB' KC KG rg c1 c2 f2 rg4 rg5 c5 g1' KP K1 hl32 hone u32 c4
      go_wp2
      go_roundw
      case rel => exact ⟨m + 1, by omega, by go_num, heap_set_far g1 _ _ (by show w.heap.size ≠ w.heap.size + 1 + 1; omega), heap_set_far g2 _ _ (by show w.heap.size + 1 ≠ w.heap.size + 1 + 1; omega), (by have := heap_set_ints g3 m (y : Int); rw [HP.out] at this; exact this), bB.setCell (by show w.heap.size ≤ w.heap.size + 1 + 1; omega) _⟩
      case measure => simp [intOf]; omega
    · obtain rfl : m = 32 := by omega
      rw [imgs_all] at h3
      have hsl := imgs_len (2 * n)
      have K3 := hid (show (Try.prog.info? 39).map (·.size) = some (ints .u32 (imgs (2 * n))).toArray.size by rw [Try.size39, ints_size, hsl])
      have K2 := hid (show (ints .u32 (padz [] 32)).toArray.size = (ints .u32 (imgs (2 * n))).toArray.size by rw [ints_size, ints_size, hsl]; rfl)
      have ho := all_oneCell_toArray (ints_one .u32 (imgs (2 * n)))
      replace hsl := hid hsl
      clear hlt
      go_wp2_with (first | refine wpList_load_row rfl 39 _ rfl _ rfl 39 _ _ _ h3 Try.underlying39 rfl K3.out ?_ | refine wpList_store_row rfl 39 _ _ rfl _ _ rfl rfl 39 _ h2 K3.out K2.out ho ?_)
      exact bodyPost_ret (v := .agg (ints .u32 (imgs (2 * n))).toArray) (results_cell_row Try.results21 _ _ (w.heap.size + 1) 39 _ _ _ rfl (setRow_heap _ _ _ _ _ _ h2) Try.underlying39 rfl K3.out) rfl ⟨rfl, below_setRow hB (by omega) _⟩

theorem and1_i64 (n : Nat) (hn : n < 9223372036854775808) : bits .and .i64 (n : Int) 1 = ((n % 2 : Nat) : Int) := by
  have := bits_mask .i64 63 (by decide) (fun x h1 h2 => by rw [IntKind.wrap_i64]; omega) 1 (by decide) (n : Int) (by omega) (by omega)
  simpa using this
theorem half_eq (p m : Nat) (h : m % 2 = 0) : p * m = 2 * p * (m / 2) := by
  conv => lhs; rw [show m = 2 * (m / 2) by omega]
  rw [Nat.mul_left_comm, Nat.mul_assoc]
theorem half_eq1 (p m : Nat) (h : m % 2 = 1) : p * m = p + 2 * p * (m / 2) := by
  conv => lhs; rw [show m = 1 + 2 * (m / 2) by omega, Nat.mul_add, Nat.mul_one]
  rw [Nat.mul_left_comm, Nat.mul_assoc]
theorem Try.size39' : ∀ n, (Try.prog.info? 39).map (·.size) = some (ints .u32 (imgs n)).toArray.size := fun n => by rw [Try.size39, ints_size, imgs_len]
set_option maxRecDepth 100000 in
set_option maxHeartbeats 400000 in
theorem zeros_any (w : World) (r n : Nat) (hr : r < 4294967296) (hn : n < 9223372036854775808) :
    Calls Try.prog 18 #[.int .u32 r, .int .i64 n] w fun e w' => e = .returned (.int .u32 (stepN (8 * n) r)) ∧ Below w.heap.size w w' := by
  go_enter Try.func18, Try.ntmps18
  go_wp2_with fail
  refine (ones_any w).mono ?_
  rintro e w1 ⟨rfl, b1⟩
  have K1 := hid Try.size39'
  have K2 := hid (fun n m => show (ints .u32 (imgs n)).toArray.size = (ints .u32 (imgs m)).toArray.size by rw [ints_size, ints_size, imgs_len, imgs_len])
  have K3 := hid (fun n => show (ints .u32 (padz [] 32)).toArray.size = (ints .u32 (imgs n)).toArray.size by rw [ints_size, ints_size, imgs_len]; rfl)
  have KO := hid (fun n => all_oneCell_toArray (ints_one .u32 (imgs n)))
  have HR := hid (show stepN (8 * n) r = stepN (8 * (1 * n)) r by rw [Nat.one_mul])
  go_wp2_with (first | (refine wpList_store_row rfl 39 _ _ rfl _ _ rfl rfl 39 _ (by exact hnew _ _) (K1.out 1) (by exact K3.out 1) (KO.out 1) ?_; rw [setRow_alloc]))
  have hG := b1.size
  have g1 := hnew w1 (Obj.cells (ints .u32 (imgs 1)).toArray 39)
  have b2 : Below w.heap.size w (w1.alloc (Obj.cells (ints .u32 (imgs 1)).toArray 39)) := b1.alloc hG _
  generalize w1.alloc (Obj.cells (ints .u32 (imgs 1)).toArray 39) = w2 at *
  generalize w1.heap.size = G at *
  clear b1
  simp only [Act.put]
  go_loopw [0, 1] (fun x i wr => ∃ y m p : Nat, i = .int .i64 m ∧ m < 9223372036854775808 ∧ x = .int .u32 y ∧ y < 4294967296 ∧ stepN (8 * (p * m)) y = stepN (8 * n) r ∧ wr.heap[G]? = some (Obj.cells (ints .u32 (imgs p)).toArray 39) ∧ Below w.heap.size w wr) (fun _ i _ => (intOf i).toNat)
  case atStart => exact ⟨r, n, 1, rfl, hn, rfl, hr, HR.out.symm, g1, b2⟩
  case round =>
    clear g1 b2 HR
    obtain ⟨y, m, p, rfl, hm, rfl, hy, hE, h1, hB⟩ := hrel
    replace hE := hid hE
    by_cases hp : 0 < m
    · have i1 : (0 : Int) < m := by omega
      have i2 : (m : Int) < 9223372036854775808 := by omega
      have e1 := and1_i64 m hm
      have e2 : (m : Int) / 2 = ((m / 2 : Nat) : Int) := by omega
      have HM : m / 2 < m := by omega
      rcases (show m % 2 = 1 ∨ m % 2 = 0 by omega) with e | e
      · rw [e] at e1
        have hE2 := hid (half_eq1 p m e)
        generalize m / 2 = m' at *
        go_wp2_with (first | refine wpList_load_row rfl 39 _ rfl _ rfl 39 _ _ _ h1 Try.underlying39 rfl (K1.out p) ?_)
        refine (pass_any wr p y hy).mono ?_
        rintro e w3 ⟨rfl, b3⟩
        have h3 := hbel b3 h1 (hlt h1)
        have bB := hB.trans (b3.mono hB.size)
        clear h1 hB b3
        go_wp2_with (first | refine wpList_load_row rfl 39 _ rfl _ rfl 39 _ _ _ h3 Try.underlying39 rfl (K1.out p) ?_)
        refine (twice_any _ p).mono ?_
        rintro e w4 ⟨rfl, b4⟩
        have h4 := hbel b4 h3 (hlt h3)
        have h5 := setRow_heap w4 G _ (ints .u32 (imgs (2 * p))).toArray _ _ h4
        have b5 := below_setRow (bB.trans (b4.mono bB.size)) hG (ints .u32 (imgs (2 * p))).toArray
        go_wp2_with (first | refine wpList_store_row rfl 39 _ _ rfl _ _ rfl rfl 39 _ h4 (K1.out (2 * p)) (K2.out p (2 * p)) (KO.out (2 * p)) ?_)
        go_roundw
        case rel => exact ⟨stepN (8 * p) y, m', 2 * p, rfl, by omega, rfl, stepN_lt _ _ hy, by rw [← hE.out, ← stepN_add, hE2.out, Nat.mul_add], h5, b5⟩
        case measure => simp [intOf]; omega
      · rw [e] at e1
        have hE2 := hid (half_eq p m e)
        have h3 := h1
        have bB := hB
        clear h1 hB
        generalize m / 2 = m' at *
        go_wp2_with (first | refine wpList_load_row rfl 39 _ rfl _ rfl 39 _ _ _ h3 Try.underlying39 rfl (K1.out p) ?_)
        refine (twice_any _ p).mono ?_
        rintro e w4 ⟨rfl, b4⟩
        have h4 := hbel b4 h3 (hlt h3)
        have h5 := setRow_heap w4 G _ (ints .u32 (imgs (2 * p))).toArray _ _ h4
        have b5 := below_setRow (bB.trans (b4.mono bB.size)) hG (ints .u32 (imgs (2 * p))).toArray
        go_wp2_with (first | refine wpList_store_row rfl 39 _ _ rfl _ _ rfl rfl 39 _ h4 (K1.out (2 * p)) (K2.out p (2 * p)) (KO.out (2 * p)) ?_)
        go_roundw
        case rel => exact ⟨y, m', 2 * p, rfl, by omega, rfl, hy, by rw [← hE.out, hE2.out], h5, b5⟩
        case measure => simp [intOf]; omega
    · obtain rfl : m = 0 := by omega
      have HE := hid (show stepN (8 * n) r = y by rw [← hE.out, Nat.mul_zero]; rfl)
      go_wp2
      go_ret
      exact ⟨by rw [HE.out]; rfl, hB⟩

set_option maxRecDepth 100000 in
set_option maxHeartbeats 400000 in
theorem join_any (w : World) (a b n : Nat) (ha : a < 4294967296) (hb : b < 4294967296) (hn : n < 9223372036854775808) :
    Calls Try.prog 15 #[.int .u32 a, .int .u32 b, .int .i64 n] w fun e w' => e = .returned (.int .u32 (joinF a b n)) ∧ Below w.heap.size w w' := by
  have i1 : ¬ ((n : Int) < 0) := by omega
  have e1 := xor_u32 _ b (stepN_lt (8 * n) a ha) hb
  have HJ := hid (show joinF a b n = stepN (8 * n) a ^^^ b from rfl)
  go_enter Try.func15, Try.ntmps15
  go_wp2_with fail
  refine (zeros_any w a n ha hn).mono ?_
  rintro e w1 ⟨rfl, b1⟩
  go_wp2
  go_ret
  exact ⟨by rw [HJ.out]; rfl, b1⟩
set_option maxRecDepth 100000 in
set_option maxHeartbeats 400000 in
theorem join_neg (w : World) (a b n : Int) (hn : n < 0) :
    Calls Try.prog 15 #[.int .u32 a, .int .u32 b, .int .i64 n] w fun e w' => e = .returned (.int .u32 0) ∧ w' = w := by
  go_enter Try.func15, Try.ntmps15
  go_wp2
  go_ret
  exact ⟨rfl, rfl⟩
end Go.Proofs.Ytbmjegcnfokagab
