import Derived.Test.YtbcadiecpcngdaaMr9
namespace Go.Proofs.Ytbcadiecpcngdaa
set_option linter.unusedVariables false
set_option linter.unusedSimpArgs false
open Go.RowKit
attribute [local go_sem ↓] Go.wp_at_zero Go.wp_at_succ

def BrS (n : Nd) : Prop := SideP n.l n.lc n.ls ∧ SideP n.r n.rc n.rs ∧ n.l ≠ n.r ∧ 2 ≤ n.lc + n.rc ∧ n.lc + n.rc ≤ 4096
instance (n : Nd) : Decidable (BrS n) := by unfold BrS; infer_instance
theorem SideP.le {p c : Int} {s : List Int} (h : SideP p c s) : 0 ≤ p ∧ p < 4096 ∧ 0 ≤ c ∧ c ≤ 4096 := by rcases h with h | h <;> omega
theorem brC_get {n : Nd} (h : NdOk n) (j : Nat) (v : Value) (hv : (chC n.r n.rc n.rs)[j]? = some v) : (brC n)[34 + j]? = some v := by
  unfold brC
  rw [List.getElem?_append_right (by rw [chC_len _ _ _ h.ls]; omega), chC_len _ _ _ h.ls, show 34 + j - 34 = j by omega]; exact hv
theorem brC_get0 {n : Nd} (h : NdOk n) (j : Nat) (v : Value) (hv : (chC n.l n.lc n.ls)[j]? = some v) : (brC n)[j]? = some v := by
  unfold brC
  rw [List.getElem?_append_left (List.getElem?_eq_some_iff.1 hv).1]; exact hv
theorem chC_s (p c : Int) (s : List Int) (j : Nat) (v : Value) (hv : (ints .u8 s)[j]? = some v) : (chC p c s)[2 + j]? = some v := by
  unfold chC
  rw [List.getElem?_append_right (by simp), show 2 + j - [Value.int IntKind.i64 p, Value.int .i64 c].length = j by simp]; exact hv
/-- A branch in a block of its own. -/
structure BB (w0 w : World) (g : Nat) (n : Nd) : Prop where
  ok : NdOk n
  bel : Below w0.heap.size w0 w
  row : w.heap[g]? = some (.cells (brC n).toArray 98 (0, 0))
theorem BB.box {w : World} {n : Nd} (h : NdOk n) : BB w (w.alloc (.cells (brC n).toArray 98)) w.heap.size n := ⟨h, (Below.refl _ _).alloc (Nat.le_refl _) _, hnew w _⟩
theorem BB.call {w0 w w' : World} {g : Nat} {n : Nd} (h : BB w0 w g n) (hb : Below w.heap.size w w') : BB w0 w' g n := ⟨h.ok, h.bel.trans (hb.mono h.bel.size), hbel hb h.row (hlt h.row)⟩
theorem BB.cell {w0 w : World} {g : Nat} {n : Nd} (h : BB w0 w g n) {j : Nat} {v : Value} (hv : (brC n)[j]? = some v) : w.cell? ⟨g, j, none⟩ = some v := by rw [cell_of_row _ _ _ _ _ _ h.row]; simpa using hv
theorem BB.cl {w0 w : World} {g : Nat} {n : Nd} (h : BB w0 w g n) : w.cell? ⟨g, 0, none⟩ = some (.int .i64 n.l) := h.cell rfl
theorem BB.clc {w0 w : World} {g : Nat} {n : Nd} (h : BB w0 w g n) : w.cell? ⟨g, 1, none⟩ = some (.int .i64 n.lc) := h.cell rfl
theorem BB.cr {w0 w : World} {g : Nat} {n : Nd} (h : BB w0 w g n) : w.cell? ⟨g, 34, none⟩ = some (.int .i64 n.r) := h.cell (brC_get h.ok 0 _ rfl)
theorem BB.crc {w0 w : World} {g : Nat} {n : Nd} (h : BB w0 w g n) : w.cell? ⟨g, 35, none⟩ = some (.int .i64 n.rc) := h.cell (brC_get h.ok 1 _ rfl)
theorem BB.rl {w0 w : World} {g : Nat} {n : Nd} (h : BB w0 w g n) : w.rangeAt g 0 (chC n.l n.lc n.ls) := fun j v hv => h.cell (brC_get0 h.ok _ v (by rw [Nat.zero_add]; exact hv))
theorem BB.rr {w0 w : World} {g : Nat} {n : Nd} (h : BB w0 w g n) : w.rangeAt g 34 (chC n.r n.rc n.rs) := fun j v hv => h.cell (brC_get h.ok j v hv)
theorem BB.rls {w0 w : World} {g : Nat} {n : Nd} (h : BB w0 w g n) : w.rangeAt g 2 (ints .u8 n.ls) := fun j v hv => h.cell (brC_get0 h.ok _ v (chC_s _ _ _ j v hv))
theorem BB.rrs {w0 w : World} {g : Nat} {n : Nd} (h : BB w0 w g n) : w.rangeAt g 36 (ints .u8 n.rs) := fun j v hv => by
  have := h.cell (brC_get h.ok _ v (chC_s n.r n.rc n.rs j v hv))
  rw [show 36 + j = 34 + (2 + j) by omega]; exact this
set_option maxRecDepth 100000 in
set_option maxHeartbeats 1000000 in
theorem branchStands_l (w : World) (n : Nd) (ok : NdOk n) (h1 : ¬ SideP n.l n.lc n.ls) :
    Calls Try.prog 89 #[.agg (brC n).toArray] w fun e w' => e = .returned (.bool (decide (BrS n))) ∧ Below w.heap.size w w' := by
  have d0 := BB.box (w := w) ok
  have rl := d0.rl
  have rr := d0.rr
  have SL := hid (show (Try.prog.info? 94).map (·.size) = some (chC n.l n.lc n.ls).length by rw [Try.sizeCh, chC_len _ _ _ ok.ls])
  have SR := hid (show (Try.prog.info? 94).map (·.size) = some (chC n.r n.rc n.rs).length by rw [Try.sizeCh, chC_len _ _ _ ok.rs])
  have KL := hid (fun w1 => childStands_any w1 n.l n.lc n.ls ok.ls)
  have KR := hid (fun w1 => childStands_any w1 n.r n.rc n.rs ok.rs)
  have HD := hid (show decide (BrS n) = false from decide_eq_false (fun h => h1 h.1))
  rw [decide_eq_false h1] at KL
  clear h1
  generalize decide (BrS n) = D at *
  go_enter Try.func89, Try.ntmps89
  go_wp2_with (first
    | refine wpList_load_mid_w (by rfl) 94 _ (by rfl) w.heap.size 0 (by rfl) _ _ rl Try.underlying94 rfl SL.out ?_
    | refine wpList_load_mid_w (by rfl) 94 _ (by rfl) w.heap.size 34 (by rfl) _ _ rr Try.underlying94 rfl SR.out ?_)
  refine (KL.out _).mono ?_
  rintro e w1 ⟨rfl, hb1⟩
  have d1 := d0.call hb1
  have rr := d1.rr
  go_wp2
  go_ret
  exact ⟨by rw [HD.out]; rfl, d1.bel⟩
set_option maxRecDepth 100000 in
set_option maxHeartbeats 1000000 in
theorem branchStands_r (w : World) (n : Nd) (ok : NdOk n) (h1 : SideP n.l n.lc n.ls) (h2 : ¬ SideP n.r n.rc n.rs) :
    Calls Try.prog 89 #[.agg (brC n).toArray] w fun e w' => e = .returned (.bool (decide (BrS n))) ∧ Below w.heap.size w w' := by
  have d0 := BB.box (w := w) ok
  have rl := d0.rl
  have rr := d0.rr
  have SL := hid (show (Try.prog.info? 94).map (·.size) = some (chC n.l n.lc n.ls).length by rw [Try.sizeCh, chC_len _ _ _ ok.ls])
  have SR := hid (show (Try.prog.info? 94).map (·.size) = some (chC n.r n.rc n.rs).length by rw [Try.sizeCh, chC_len _ _ _ ok.rs])
  have KL := hid (fun w1 => childStands_any w1 n.l n.lc n.ls ok.ls)
  have KR := hid (fun w1 => childStands_any w1 n.r n.rc n.rs ok.rs)
  have HD := hid (show decide (BrS n) = false from decide_eq_false (fun h => h2 h.2.1))
  rw [decide_eq_true h1] at KL
  rw [decide_eq_false h2] at KR
  clear h1 h2
  generalize decide (BrS n) = D at *
  go_enter Try.func89, Try.ntmps89
  go_wp2_with (first
    | refine wpList_load_mid_w (by rfl) 94 _ (by rfl) w.heap.size 0 (by rfl) _ _ rl Try.underlying94 rfl SL.out ?_
    | refine wpList_load_mid_w (by rfl) 94 _ (by rfl) w.heap.size 34 (by rfl) _ _ rr Try.underlying94 rfl SR.out ?_)
  refine (KL.out _).mono ?_
  rintro e w1 ⟨rfl, hb1⟩
  have d1 := d0.call hb1
  have rr := d1.rr
  go_wp2_with (first
    | refine wpList_load_mid_w (by rfl) 94 _ (by rfl) w.heap.size 0 (by rfl) _ _ rl Try.underlying94 rfl SL.out ?_
    | refine wpList_load_mid_w (by rfl) 94 _ (by rfl) w.heap.size 34 (by rfl) _ _ rr Try.underlying94 rfl SR.out ?_)
  refine (KR.out _).mono ?_
  rintro e w2 ⟨rfl, hb2⟩
  have d2 := d1.call hb2
  have k0 := d2.cl
  have k1 := d2.clc
  have k2 := d2.cr
  have k3 := d2.crc
  generalize n.l = a at *
  generalize n.lc = b at *
  generalize n.r = c at *
  generalize n.rc = d at *
  go_wp2
  go_ret
  exact ⟨by rw [HD.out]; first | rfl | (rw [← decide_eq_false (show ¬ (b + d ≤ 4096) by omega)]; rfl) | (rw [← decide_eq_true (show b + d ≤ 4096 by omega)]; rfl), d2.bel⟩
set_option maxRecDepth 100000 in
set_option maxHeartbeats 1000000 in
theorem branchStands_e (w : World) (n : Nd) (ok : NdOk n) (h1 : SideP n.l n.lc n.ls) (h2 : SideP n.r n.rc n.rs) (h3 : n.l = n.r) :
    Calls Try.prog 89 #[.agg (brC n).toArray] w fun e w' => e = .returned (.bool (decide (BrS n))) ∧ Below w.heap.size w w' := by
  have d0 := BB.box (w := w) ok
  have rl := d0.rl
  have rr := d0.rr
  have SL := hid (show (Try.prog.info? 94).map (·.size) = some (chC n.l n.lc n.ls).length by rw [Try.sizeCh, chC_len _ _ _ ok.ls])
  have SR := hid (show (Try.prog.info? 94).map (·.size) = some (chC n.r n.rc n.rs).length by rw [Try.sizeCh, chC_len _ _ _ ok.rs])
  have KL := hid (fun w1 => childStands_any w1 n.l n.lc n.ls ok.ls)
  have KR := hid (fun w1 => childStands_any w1 n.r n.rc n.rs ok.rs)
  have HD := hid (show decide (BrS n) = false from decide_eq_false (fun h => h.2.2.1 h3))
  rw [decide_eq_true h1] at KL
  rw [decide_eq_true h2] at KR
  have K3 := hid h3
  clear h1 h2 h3
  generalize decide (BrS n) = D at *
  go_enter Try.func89, Try.ntmps89
  go_wp2_with (first
    | refine wpList_load_mid_w (by rfl) 94 _ (by rfl) w.heap.size 0 (by rfl) _ _ rl Try.underlying94 rfl SL.out ?_
    | refine wpList_load_mid_w (by rfl) 94 _ (by rfl) w.heap.size 34 (by rfl) _ _ rr Try.underlying94 rfl SR.out ?_)
  refine (KL.out _).mono ?_
  rintro e w1 ⟨rfl, hb1⟩
  have d1 := d0.call hb1
  have rr := d1.rr
  go_wp2_with (first
    | refine wpList_load_mid_w (by rfl) 94 _ (by rfl) w.heap.size 0 (by rfl) _ _ rl Try.underlying94 rfl SL.out ?_
    | refine wpList_load_mid_w (by rfl) 94 _ (by rfl) w.heap.size 34 (by rfl) _ _ rr Try.underlying94 rfl SR.out ?_)
  refine (KR.out _).mono ?_
  rintro e w2 ⟨rfl, hb2⟩
  have d2 := d1.call hb2
  have k0 := d2.cl
  have k1 := d2.clc
  have k2 := d2.cr
  have k3 := d2.crc
  rw [← K3.out] at k2
  clear K3
  generalize n.l = a at *
  generalize n.lc = b at *
  generalize n.r = c at *
  generalize n.rc = d at *
  go_wp2
  go_ret
  exact ⟨by rw [HD.out]; first | rfl | (rw [← decide_eq_false (show ¬ (b + d ≤ 4096) by omega)]; rfl) | (rw [← decide_eq_true (show b + d ≤ 4096 by omega)]; rfl), d2.bel⟩
set_option maxRecDepth 100000 in
set_option maxHeartbeats 1000000 in
theorem branchStands_f (w : World) (n : Nd) (ok : NdOk n) (h1 : SideP n.l n.lc n.ls) (h2 : SideP n.r n.rc n.rs) (h3 : ¬ n.l = n.r) (h4 : n.lc + n.rc < 2) :
    Calls Try.prog 89 #[.agg (brC n).toArray] w fun e w' => e = .returned (.bool (decide (BrS n))) ∧ Below w.heap.size w w' := by
  have d0 := BB.box (w := w) ok
  have rl := d0.rl
  have rr := d0.rr
  have SL := hid (show (Try.prog.info? 94).map (·.size) = some (chC n.l n.lc n.ls).length by rw [Try.sizeCh, chC_len _ _ _ ok.ls])
  have SR := hid (show (Try.prog.info? 94).map (·.size) = some (chC n.r n.rc n.rs).length by rw [Try.sizeCh, chC_len _ _ _ ok.rs])
  have KL := hid (fun w1 => childStands_any w1 n.l n.lc n.ls ok.ls)
  have KR := hid (fun w1 => childStands_any w1 n.r n.rc n.rs ok.rs)
  have HD := hid (show decide (BrS n) = false from decide_eq_false (by rintro ⟨_, _, _, h, _⟩; omega))
  have q1 := h1.le
  have q2 := h2.le
  rw [decide_eq_true h1] at KL
  rw [decide_eq_true h2] at KR
  clear h1 h2
  generalize decide (BrS n) = D at *
  go_enter Try.func89, Try.ntmps89
  go_wp2_with (first
    | refine wpList_load_mid_w (by rfl) 94 _ (by rfl) w.heap.size 0 (by rfl) _ _ rl Try.underlying94 rfl SL.out ?_
    | refine wpList_load_mid_w (by rfl) 94 _ (by rfl) w.heap.size 34 (by rfl) _ _ rr Try.underlying94 rfl SR.out ?_)
  refine (KL.out _).mono ?_
  rintro e w1 ⟨rfl, hb1⟩
  have d1 := d0.call hb1
  have rr := d1.rr
  go_wp2_with (first
    | refine wpList_load_mid_w (by rfl) 94 _ (by rfl) w.heap.size 0 (by rfl) _ _ rl Try.underlying94 rfl SL.out ?_
    | refine wpList_load_mid_w (by rfl) 94 _ (by rfl) w.heap.size 34 (by rfl) _ _ rr Try.underlying94 rfl SR.out ?_)
  refine (KR.out _).mono ?_
  rintro e w2 ⟨rfl, hb2⟩
  have d2 := d1.call hb2
  have k0 := d2.cl
  have k1 := d2.clc
  have k2 := d2.cr
  have k3 := d2.crc
  generalize n.l = a at *
  generalize n.lc = b at *
  generalize n.r = c at *
  generalize n.rc = d at *
  go_wp2
  go_ret
  exact ⟨by rw [HD.out]; first | rfl | (rw [← decide_eq_false (show ¬ (b + d ≤ 4096) by omega)]; rfl) | (rw [← decide_eq_true (show b + d ≤ 4096 by omega)]; rfl), d2.bel⟩
set_option maxRecDepth 100000 in
set_option maxHeartbeats 1000000 in
theorem branchStands_m (w : World) (n : Nd) (ok : NdOk n) (h1 : SideP n.l n.lc n.ls) (h2 : SideP n.r n.rc n.rs) (h3 : ¬ n.l = n.r) (h4 : 4096 < n.lc + n.rc) :
    Calls Try.prog 89 #[.agg (brC n).toArray] w fun e w' => e = .returned (.bool (decide (BrS n))) ∧ Below w.heap.size w w' := by
  have d0 := BB.box (w := w) ok
  have rl := d0.rl
  have rr := d0.rr
  have SL := hid (show (Try.prog.info? 94).map (·.size) = some (chC n.l n.lc n.ls).length by rw [Try.sizeCh, chC_len _ _ _ ok.ls])
  have SR := hid (show (Try.prog.info? 94).map (·.size) = some (chC n.r n.rc n.rs).length by rw [Try.sizeCh, chC_len _ _ _ ok.rs])
  have KL := hid (fun w1 => childStands_any w1 n.l n.lc n.ls ok.ls)
  have KR := hid (fun w1 => childStands_any w1 n.r n.rc n.rs ok.rs)
  have HD := hid (show decide (BrS n) = false from decide_eq_false (by rintro ⟨_, _, _, _, h⟩; omega))
  have q1 := h1.le
  have q2 := h2.le
  rw [decide_eq_true h1] at KL
  rw [decide_eq_true h2] at KR
  clear h1 h2
  generalize decide (BrS n) = D at *
  go_enter Try.func89, Try.ntmps89
  go_wp2_with (first
    | refine wpList_load_mid_w (by rfl) 94 _ (by rfl) w.heap.size 0 (by rfl) _ _ rl Try.underlying94 rfl SL.out ?_
    | refine wpList_load_mid_w (by rfl) 94 _ (by rfl) w.heap.size 34 (by rfl) _ _ rr Try.underlying94 rfl SR.out ?_)
  refine (KL.out _).mono ?_
  rintro e w1 ⟨rfl, hb1⟩
  have d1 := d0.call hb1
  have rr := d1.rr
  go_wp2_with (first
    | refine wpList_load_mid_w (by rfl) 94 _ (by rfl) w.heap.size 0 (by rfl) _ _ rl Try.underlying94 rfl SL.out ?_
    | refine wpList_load_mid_w (by rfl) 94 _ (by rfl) w.heap.size 34 (by rfl) _ _ rr Try.underlying94 rfl SR.out ?_)
  refine (KR.out _).mono ?_
  rintro e w2 ⟨rfl, hb2⟩
  have d2 := d1.call hb2
  have k0 := d2.cl
  have k1 := d2.clc
  have k2 := d2.cr
  have k3 := d2.crc
  generalize n.l = a at *
  generalize n.lc = b at *
  generalize n.r = c at *
  generalize n.rc = d at *
  go_wp2
  go_ret
  exact ⟨by rw [HD.out]; first | rfl | (rw [← decide_eq_false (show ¬ (b + d ≤ 4096) by omega)]; rfl) | (rw [← decide_eq_true (show b + d ≤ 4096 by omega)]; rfl), d2.bel⟩
set_option maxRecDepth 100000 in
set_option maxHeartbeats 1000000 in
theorem branchStands_y (w : World) (n : Nd) (ok : NdOk n) (h1 : SideP n.l n.lc n.ls) (h2 : SideP n.r n.rc n.rs) (h3 : ¬ n.l = n.r) (h4 : 2 ≤ n.lc + n.rc) (h5 : n.lc + n.rc ≤ 4096) :
    Calls Try.prog 89 #[.agg (brC n).toArray] w fun e w' => e = .returned (.bool (decide (BrS n))) ∧ Below w.heap.size w w' := by
  have d0 := BB.box (w := w) ok
  have rl := d0.rl
  have rr := d0.rr
  have SL := hid (show (Try.prog.info? 94).map (·.size) = some (chC n.l n.lc n.ls).length by rw [Try.sizeCh, chC_len _ _ _ ok.ls])
  have SR := hid (show (Try.prog.info? 94).map (·.size) = some (chC n.r n.rc n.rs).length by rw [Try.sizeCh, chC_len _ _ _ ok.rs])
  have KL := hid (fun w1 => childStands_any w1 n.l n.lc n.ls ok.ls)
  have KR := hid (fun w1 => childStands_any w1 n.r n.rc n.rs ok.rs)
  have HD := hid (show decide (BrS n) = true from decide_eq_true ⟨h1, h2, h3, h4, h5⟩)
  have q1 := h1.le
  have q2 := h2.le
  rw [decide_eq_true h1] at KL
  rw [decide_eq_true h2] at KR
  clear h1 h2
  generalize decide (BrS n) = D at *
  go_enter Try.func89, Try.ntmps89
  go_wp2_with (first
    | refine wpList_load_mid_w (by rfl) 94 _ (by rfl) w.heap.size 0 (by rfl) _ _ rl Try.underlying94 rfl SL.out ?_
    | refine wpList_load_mid_w (by rfl) 94 _ (by rfl) w.heap.size 34 (by rfl) _ _ rr Try.underlying94 rfl SR.out ?_)
  refine (KL.out _).mono ?_
  rintro e w1 ⟨rfl, hb1⟩
  have d1 := d0.call hb1
  have rr := d1.rr
  go_wp2_with (first
    | refine wpList_load_mid_w (by rfl) 94 _ (by rfl) w.heap.size 0 (by rfl) _ _ rl Try.underlying94 rfl SL.out ?_
    | refine wpList_load_mid_w (by rfl) 94 _ (by rfl) w.heap.size 34 (by rfl) _ _ rr Try.underlying94 rfl SR.out ?_)
  refine (KR.out _).mono ?_
  rintro e w2 ⟨rfl, hb2⟩
  have d2 := d1.call hb2
  have k0 := d2.cl
  have k1 := d2.clc
  have k2 := d2.cr
  have k3 := d2.crc
  generalize n.l = a at *
  generalize n.lc = b at *
  generalize n.r = c at *
  generalize n.rc = d at *
  go_wp2
  go_ret
  exact ⟨by rw [HD.out]; first | rfl | (rw [← decide_eq_false (show ¬ (b + d ≤ 4096) by omega)]; rfl) | (rw [← decide_eq_true (show b + d ≤ 4096 by omega)]; rfl), d2.bel⟩
theorem branchStands_any (w : World) (n : Nd) (ok : NdOk n) :
    Calls Try.prog 89 #[.agg (brC n).toArray] w fun e w' => e = .returned (.bool (decide (BrS n))) ∧ Below w.heap.size w w' := by
  by_cases h1 : SideP n.l n.lc n.ls
  · by_cases h2 : SideP n.r n.rc n.rs
    · by_cases h3 : n.l = n.r
      · exact branchStands_e w n ok h1 h2 h3
      · by_cases h4 : n.lc + n.rc < 2
        · exact branchStands_f w n ok h1 h2 h3 h4
        · by_cases h5 : 4096 < n.lc + n.rc
          · exact branchStands_m w n ok h1 h2 h3 h5
          · exact branchStands_y w n ok h1 h2 h3 (by omega) (by omega)
    · exact branchStands_r w n ok h1 h2
  · exact branchStands_l w n ok h1
end Go.Proofs.Ytbcadiecpcngdaa
