import Derived.Test.YtbpamknebjdicaaL3
namespace Go.Proofs.Ytbpamknebjdicaa
set_option linter.unusedVariables false
set_option linter.unusedSimpArgs false
open Go.RowKit
attribute [local go_sem ↓] Go.wp_at_zero Go.wp_at_succ

theorem rowCount {w : World} {base p m n : Nat} {s : CSi} (h : CK w base p m n s) (r : Bool) : w.cell? ⟨p, offR r + 2, none⟩ = some (.int .i64 (s.row r).count) := by cases r <;> first | exact h.c4 | exact h.c7
theorem rowFirst {w : World} {base p m n : Nat} {s : CSi} (h : CK w base p m n s) (r : Bool) : w.cell? ⟨p, offR r, none⟩ = some (optr (s.row r).first) := by cases r <;> first | exact h.c2 | exact h.c5
theorem rowLast {w : World} {base p m n : Nat} {s : CSi} (h : CK w base p m n s) (r : Bool) : w.cell? ⟨p, offR r + 1, none⟩ = some (optr (s.row r).last) := by cases r <;> first | exact h.c3 | exact h.c6
theorem join_to (w : World) (base p m n : Nat) (s : CSi) (h : CK w base p m n s) (r : Bool) (b a : Option Nat) (hb : inBs s b) (ha : inBs s a) (o : Nat) (ho : o = offR r) (vb va : Value) (hvb : vb = optr b) (hva : va = optr a) :
    Calls Try.prog 58 #[.pointer (some ⟨p, o, none⟩), vb, va] w fun e w' => e = .returned (.tuple #[]) ∧ LN base p m n s w (s.join r b a) w' := by
  subst ho hvb hva; exact join_any w base p m n s h r b a hb ha
set_option maxHeartbeats 400000 in
theorem link_any (w : World) (base p m n : Nat) (s : CSi) (h : CK w base p m n s) (r : Bool) (b : Option Nat) (e : Nat) (a : Option Nat) (hb : inBs s b) (he : e ∈ s.bs) (ha : inBs s a) (hc : 0 ≤ (s.row r).count ∧ (s.row r).count < 4000000000000000000) (o : Nat) (ho : o = offR r) (vb va : Value) (hvb : vb = optr b) (hva : va = optr a) :
    Calls Try.prog 57 #[.pointer (some ⟨p, o, none⟩), vb, .pointer (some ⟨e, 0, none⟩), va] w fun x w' => x = .returned (.tuple #[]) ∧ LN base p m n s w (s.link r b e a) w' := by
  have H1 := hid (join_to w base p m n s h r b (some e) hb (fun x q => by cases q; exact he) o ho vb (.pointer (some ⟨e, 0, none⟩)) hvb rfl)
  have H2 := hid (fun w1 (q : LN base p m n s w (s.join r b (some e)) w1) => join_to w1 base p m n _ q.1 r (some e) a (fun x q2 => by cases q2; rw [q.2.2]; exact he) (fun x q2 => by rw [q.2.2]; exact ha x q2) o ho (.pointer (some ⟨e, 0, none⟩)) va rfl hva)
  have hcc : ((s.join r b (some e)).join r (some e) a |>.row r).count = (s.row r).count := by rw [join_row, join_row]
  have H3 := hid (fun w1 w2 (q1 : LN base p m n s w (s.join r b (some e)) w1) (q2 : LN base p m n (s.join r b (some e)) w1 ((s.join r b (some e)).join r (some e) a) w2) => (by
    have q := q1.trans q2
    have e1 := rowCount q.1 r
    have e2 := q.1.count r ((s.row r).count + 1)
    rw [hcc] at e1
    subst ho
    exact ⟨e1, q.1.fz (offR r + 2), by unfold CS.link; simp only; rw [hcc]; exact e2, q.2.1.setCell (mem_p p m s) _ _, (Sm.link s r b e a).bs⟩ : w2.cell? ⟨p, o + 2, none⟩ = some (.int .i64 (s.row r).count) ∧ w2.frozen? ⟨p, o + 2, none⟩ = false ∧ LN base p m n s w (s.link r b e a) (w2.setCell ⟨p, o + 2, none⟩ (.int .i64 ((s.row r).count + 1)))))
  have k1 := hc.1
  have k2 := hc.2
  clear h hc hcc ha he hb ho hvb hva
  generalize (s.row r).count = C at *
  generalize s.link r b e a = L at *
  generalize (s.join r b (some e)).join r (some e) a = J2 at *
  generalize s.join r b (some e) = J1 at *
  go_enter Try.func57, Try.ntmps57
  go_wp2_with (first
    | (go_at_call 58; refine H1.out.mono ?_; rintro e w1 ⟨rfl, hl1⟩; clear H1)
    | (go_at_call 58; refine (H2.out w1 hl1).mono ?_; rintro e w2 ⟨rfl, hl2⟩; obtain ⟨c7, f7, hL⟩ := H3.out w1 w2 hl1 hl2; clear H2 H3 hl1 hl2))
  go_end0
  exact ⟨rfl, hL⟩
theorem CK.drew {w : World} {base p m n : Nat} {s : CSi} (h : CK w base p m n s) : CK w.drew base p m n s := ⟨h.cell, h.ents, h.mp, h.kwf, h.bp, h.bm, h.bb⟩
theorem LN.undrew {w w1 : World} {base p m n : Nat} {s t : CSi} (h : LN base p m n s w.drew t w1) : LN base p m n s w t w1 := ⟨h.1, ⟨h.2.1.os, h.2.1.tape, h.2.1.output, h.2.1.size, h.2.1.block⟩, h.2.2⟩
theorem take_end {base p m n : Nat} {s : CSi} {r : Bool} {e : Nat} {w w1 : World} (q : LN base p m n s w (s.join r (s.E e).prv (s.E e).nxt) w1) :
    w1.cell? ⟨p, offR r + 2, none⟩ = some (.int .i64 (s.row r).count) ∧ w1.frozen? ⟨p, offR r + 2, none⟩ = false ∧ LN base p m n s w (s.takeOut r e) (w1.setCell ⟨p, offR r + 2, none⟩ (.int .i64 ((s.row r).count - 1))) := by
  have hcc : ((s.join r (s.E e).prv (s.E e).nxt).row r).count = (s.row r).count := by rw [join_row]
  have e1 := rowCount q.1 r
  have e2 := q.1.count r ((s.row r).count - 1)
  rw [hcc] at e1
  exact ⟨e1, q.1.fz (offR r + 2), by unfold CS.takeOut; simp only; rw [hcc]; exact e2, q.2.1.setCell (mem_p p m s) _ _, (Sm.takeOut s r e).bs⟩
set_option maxRecDepth 100000 in
set_option maxHeartbeats 1000000 in
theorem takeOut_any (w : World) (base p m n : Nat) (s : CSi) (h : CK w base p m n s) (r : Bool) (e : Nat) (he : e ∈ s.bs) (hb : inBs s (s.E e).prv) (ha : inBs s (s.E e).nxt) (nb : (s.E e).prv ≠ some e) (na : (s.E e).nxt ≠ some e) (hc : 0 < (s.row r).count ∧ (s.row r).count < 4000000000000000000) (o : Nat) (ho : o = offR r) :
    Calls Try.prog 36 #[.pointer (some ⟨p, o, none⟩), .pointer (some ⟨e, 0, none⟩)] w fun x w' => x = .returned (.tuple #[]) ∧ LN base p m n s w (s.takeOut r e) w' := by
  have cp := h.ep he
  have cn := h.en he
  have H1 := hid (fun vb va hvb hva => join_to w.drew base p m n s h.drew r (s.E e).prv (s.E e).nxt hb ha o ho vb va hvb hva)
  have H3 := hid (fun w1 (q : LN base p m n s w.drew (s.join r (s.E e).prv (s.E e).nxt) w1) => take_end q.undrew)
  have HK := hid (fun w1 (q : LN base p m n s w.drew (s.join r (s.E e).prv (s.E e).nxt) w1) => (by
    have e1 := q.1.ep (b := e) (by rw [q.2.2]; exact he)
    have e2 := q.1.en (b := e) (by rw [q.2.2]; exact he)
    rw [join_prv, if_neg na] at e1
    rw [join_nxt, if_neg nb] at e2
    exact ⟨e1, e2⟩ : w1.cell? ⟨e, 3, none⟩ = some (optr (s.E e).prv) ∧ w1.cell? ⟨e, 4, none⟩ = some (optr (s.E e).nxt)))
  rw [← ho] at H3
  have k1 := hc.1
  have k2 := hc.2
  clear h hc ha he hb ho nb na
  generalize (s.row r).count = C at *
  generalize s.takeOut r e = L at *
  generalize (s.join r (s.E e).prv (s.E e).nxt) = J1 at *
  generalize hvb : optr (s.E e).prv = vb at *
  generalize hva : optr (s.E e).nxt = va at *
  go_enter Try.func36, Try.ntmps36
  go_wp2
  refine wp_region_noPanic ?_
  refine wp_region_held_drew (S := fun w' => w'.cell? ⟨e, 3, none⟩ = some vb ∧ w'.cell? ⟨e, 4, none⟩ = some va) (by kernel_rfl) ⟨cp, cn⟩ (fun hHeld => ?_)
  refine wpAnyH_take (i := 0) (oi := { dst := some 4, op := Op.move (Operand.tmp 0), type := 98, pos := "row.go:32", after := #[], guard := none }) (v := .pointer (some ⟨p, o, none⟩)) rfl (by kernel_rfl) (by kernel_rfl) (by kernel_rfl) (fun _ _ _ h => h) (Or.inl ⟨by rfl, by intro w hS; go_simp⟩) hHeld ?_
  try simp only [Act.put, List.setIfInBounds_toArray, List.set_cons_zero, List.set_cons_succ]
  refine wpAnyH_take (i := 1) (oi := { dst := some 5, op := Op.move (Operand.tmp 1), type := 64, pos := "row.go:32", after := #[], guard := none }) (v := .pointer (some ⟨e, 0, none⟩)) rfl (by kernel_rfl) (by kernel_rfl) (by kernel_rfl) (fun _ _ _ h => h) (Or.inl ⟨by rfl, by intro w hS; go_simp⟩) hHeld ?_
  try simp only [Act.put, List.setIfInBounds_toArray, List.set_cons_zero, List.set_cons_succ]
  refine wpAnyH_take (i := 5) (oi := { dst := some 9, op := Op.move (Operand.tmp 1), type := 64, pos := "row.go:32", after := #[], guard := none }) (v := .pointer (some ⟨e, 0, none⟩)) rfl (by kernel_rfl) (by kernel_rfl) (by kernel_rfl) (fun _ _ _ h => h) (Or.inl ⟨by rfl, by intro w hS; go_simp⟩) hHeld ?_
  try simp only [Act.put, List.setIfInBounds_toArray, List.set_cons_zero, List.set_cons_succ]
  refine wpAnyH_take (i := 2) (oi := { dst := some 6, op := Op.nilCheck (Operand.tmp 5), type := 0, pos := "row.go:32", after := #[{ on := 1, ground := Ground.data }], guard := none }) (v := .pointer (some ⟨e, 0, none⟩)) rfl (by kernel_rfl) (by kernel_rfl) (by kernel_rfl) (fun _ _ _ h => h) (Or.inl ⟨by rfl, by intro w hS; go_simp⟩) hHeld ?_
  try simp only [Act.put, List.setIfInBounds_toArray, List.set_cons_zero, List.set_cons_succ]
  refine wpAnyH_take (i := 6) (oi := { dst := some 10, op := Op.nilCheck (Operand.tmp 9), type := 0, pos := "row.go:32", after := #[{ on := 5, ground := Ground.data }], guard := none }) (v := .pointer (some ⟨e, 0, none⟩)) rfl (by kernel_rfl) (by kernel_rfl) (by kernel_rfl) (fun _ _ _ h => h) (Or.inl ⟨by rfl, by intro w hS; go_simp⟩) hHeld ?_
  try simp only [Act.put, List.setIfInBounds_toArray, List.set_cons_zero, List.set_cons_succ]
  refine wpAnyH_take (i := 3) (oi := { dst := some 7, op := Op.fieldAddr 71 (Operand.tmp 6) 3, type := 0, pos := "row.go:32", after := #[{ on := 2, ground := Ground.data }], guard := none }) (v := .pointer (some ⟨e, 3, none⟩)) rfl (by kernel_rfl) (by kernel_rfl) (by kernel_rfl) (fun _ _ _ h => h) (Or.inl ⟨by rfl, by intro w hS; go_simp⟩) hHeld ?_
  try simp only [Act.put, List.setIfInBounds_toArray, List.set_cons_zero, List.set_cons_succ]
  refine wpAnyH_take (i := 7) (oi := { dst := some 11, op := Op.fieldAddr 71 (Operand.tmp 10) 4, type := 0, pos := "row.go:32", after := #[{ on := 6, ground := Ground.data }], guard := none }) (v := .pointer (some ⟨e, 4, none⟩)) rfl (by kernel_rfl) (by kernel_rfl) (by kernel_rfl) (fun _ _ _ h => h) (Or.inl ⟨by rfl, by intro w hS; go_simp⟩) hHeld ?_
  try simp only [Act.put, List.setIfInBounds_toArray, List.set_cons_zero, List.set_cons_succ]
  refine wpAnyH_take (i := 4) (oi := { dst := some 8, op := Op.load 64 (Operand.tmp 7), type := 64, pos := "row.go:32", after := #[{ on := 3, ground := Ground.data }], guard := none }) (v := vb) rfl (by kernel_rfl) (by kernel_rfl) (by kernel_rfl) (fun _ _ _ h => h) (Or.inl ⟨by rfl, by intro w hS; have hc := hS.1; go_simp⟩) hHeld ?_
  try simp only [Act.put, List.setIfInBounds_toArray, List.set_cons_zero, List.set_cons_succ]
  refine wpAnyH_take (i := 8) (oi := { dst := some 12, op := Op.load 64 (Operand.tmp 11), type := 64, pos := "row.go:32", after := #[{ on := 7, ground := Ground.data }], guard := none }) (v := va) rfl (by kernel_rfl) (by kernel_rfl) (by kernel_rfl) (fun _ _ _ h => h) (Or.inl ⟨by rfl, by intro w hS; have hc := hS.2; go_simp⟩) hHeld ?_
  try simp only [Act.put, List.setIfInBounds_toArray, List.set_cons_zero, List.set_cons_succ]
  refine wpAnyH_ready (rs := [9]) (by kernel_rfl) (by simp) ?_
  refine (AllReadyH.cons (o := { dst := some 13, op := Op.call { callee := Callee.value (Operand.func 58), args := #[Operand.tmp 4, Operand.tmp 8, Operand.tmp 12], argTypes := #[98, 64, 64] }, type := 0, pos := "row.go:32", after := #[{ on := 0, ground := Ground.data }, { on := 4, ground := Ground.data }, { on := 8, ground := Ground.data }], guard := none }) rfl (fun K hK => ?_) AllReadyH.nil)
  go_simp
  go_at_call 58
  refine (H1.out vb va rfl rfl).mono ?_
  rintro e w1 ⟨rfl, hl1⟩
  go_wp2_with fail
  refine hK.out _ _ (HK.out w1 hl1) (fun hHeld2 => ?_)
  clear hK K hHeld
  have hHeld := hHeld2
  clear hHeld2
  obtain ⟨c7, f7, hL⟩ := H3.out w1 hl1
  clear H1 H3 HK hl1
  try simp only [Act.put, List.setIfInBounds_toArray, List.set_cons_zero, List.set_cons_succ]
  refine wpAnyH_done (by kernel_rfl) ?_ _
  refine NoPanic.normal ?_
  go_wp2
  go_end0
  exact ⟨rfl, hL⟩
set_option maxHeartbeats 400000 in
theorem pushFirst_any (w : World) (base p m n : Nat) (s : CSi) (h : CK w base p m n s) (r : Bool) (e : Nat) (he : e ∈ s.bs) (hf : inBs s (s.row r).first) (hc : 0 ≤ (s.row r).count ∧ (s.row r).count < 4000000000000000000) (o : Nat) (ho : o = offR r) :
    Calls Try.prog 32 #[.pointer (some ⟨p, o, none⟩), .pointer (some ⟨e, 0, none⟩)] w fun x w' => x = .returned (.tuple #[]) ∧ LN base p m n s w (s.pushFirst r e) w' := by
  have cp := rowFirst h r
  rw [← ho] at cp
  have H1 := hid (fun va hva => link_any w base p m n s h r none e (s.row r).first (fun x q => by cases q) he hf hc o ho (.pointer none) va rfl hva)
  clear h hc he hf ho
  unfold CS.pushFirst
  generalize (s.link r none e (s.row r).first) = J1 at *
  generalize optr (s.row r).first = vb at *
  go_enter Try.func32, Try.ntmps32
  go_wp2_with (go_at_call 57; refine (H1.out vb rfl).mono ?_; rintro e w1 ⟨rfl, hl1⟩)
  go_end0
  exact ⟨rfl, hl1⟩
set_option maxHeartbeats 400000 in
theorem pushLast_any (w : World) (base p m n : Nat) (s : CSi) (h : CK w base p m n s) (r : Bool) (e : Nat) (he : e ∈ s.bs) (hf : inBs s (s.row r).last) (hc : 0 ≤ (s.row r).count ∧ (s.row r).count < 4000000000000000000) (o : Nat) (ho : o = offR r) :
    Calls Try.prog 37 #[.pointer (some ⟨p, o, none⟩), .pointer (some ⟨e, 0, none⟩)] w fun x w' => x = .returned (.tuple #[]) ∧ LN base p m n s w (s.pushLast r e) w' := by
  have cp := rowLast h r
  rw [← ho] at cp
  have H1 := hid (fun va hva => link_any w base p m n s h r (s.row r).last e none hf he (fun x q => by cases q) hc o ho va (.pointer none) hva rfl)
  clear h hc he hf ho
  unfold CS.pushLast
  generalize (s.link r (s.row r).last e none) = J1 at *
  generalize optr (s.row r).last = vb at *
  go_enter Try.func37, Try.ntmps37
  go_wp2_with (go_at_call 57; refine (H1.out vb rfl).mono ?_; rintro e w1 ⟨rfl, hl1⟩)
  go_end0
  exact ⟨rfl, hl1⟩
end Go.Proofs.Ytbpamknebjdicaa
