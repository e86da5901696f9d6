import Derived.Test.YtenfklcgkfaajaaDk33
namespace Go.Proofs.Ytenfklcgkfaajaa
set_option linter.unusedVariables false
set_option linter.unusedSimpArgs false
open Go.RowKit
attribute [local go_sem ↓] Go.wp_at_zero Go.wp_at_succ

theorem wp_storeW4 {P : Program} {ops : Array Oper} {op : Oper} {a : Act} {w : World} {K : Act → World → Prop} {Q : Exit → Act → World → Prop} {E : Prop} (hgd : op.guard = none) (ty : TypeId) (x y : Operand) (ho : op.op = .store ty x y)
    (b o : Nat) (v : Value) (hx : a.eval x = .pointer (some ⟨b, o, none⟩)) (hy : a.eval y = v) (cs : List Value) (t : TypeId) (hrow : w.heap[b]? = some (.cells cs.toArray t (0, 0))) (hj : o < cs.length) (hi : (P.info? ty).map (·.size) = some 1) (hv : v.cells = #[v]) (h1 : v.oneCell' = true)
    (h : ∀ w', w'.heap[b]? = some (.cells (cs.set o v).toArray t (0, 0)) → Keeps b w w' → K (a.put op.dst undef) w') : if Region.wanted op (yielded ops a.tmps) = true then Oper.wp P op a w K Q else E := by
  rw [if_pos (by simp [Region.wanted, hgd])]
  unfold Oper.wp execOp
  simp only [ho, hx, hy, Instr.storeAt, Instr.sureAddr, Sem.run_bind, Sem.run_pure, Result.andThen_ok, run_storeVar_c w b o ty v cs t hrow hj hi hv h1]
  exact h _ (setRow_keeps hrow).1 (setRow_keeps hrow).2

set_option maxRecDepth 100000 in
set_option maxHeartbeats 4000000 in
theorem fields_4 (w0 w : World) (g : Nat) (sp : Option Addr) (cap : Nat) (bs : List Int) (hy : Bys bs) (L : Lk) (h : LM w0 w g sp cap bs L) (op : Int) (ho : op = 4) :
    Calls Try.prog 32 #[.pointer (some ⟨g, 0, none⟩), .int .i64 op, .agg (rpC rp0 (.slice none 0 0) (.slice none 0 0) (.slice none 0 0) (.slice none 0 0)).toArray] w fun e w' => ∃ vv rv lv cv, e = .returned (.agg (rpC (ffP op bs L).1 vv rv lv cv).toArray) ∧ (∃ ml mc, RpO w' w.heap.size (ffP op bs L).1 vv rv lv cv ml mc) ∧ LM w0 w' g sp cap bs (ffP op bs L).2 ∧ Keeps g w w' := by
  have Q2 := FQ.start h
  have HP := hid (show ffP op bs L = ({ rp0 with raw := lkC bs L (bs.length - L.at_) }, lkS bs L (bs.length - L.at_)) by rw [ho]; rfl)
  rw [HP.out]
  clear HP
  subst ho
  have hpl := h.pl
  have hbl := h.bl
  have KS := hid (fun (wc : World) (h : LM w0 wc g sp cap bs L) => some_any w0 wc g sp cap bs L h (bs.length - L.at_) (by omega))
  rw [show ((bs.length - L.at_ : Nat) : Int) = (bs.length : Int) - (L.at_ : Int) by omega] at KS
  have i0 : (bs.length : Int) ≤ 140737488351234 := by omega
  have i1 : (L.at_ : Int) ≤ (bs.length : Int) := by omega
  generalize hc : lkC bs L (bs.length - L.at_) = cc at *
  generalize hL1 : lkS bs L (bs.length - L.at_) = L1 at *
  clear hc hL1
  go_enter Try.func32, Try.ntmps32
  go_wp2_with (first | (refine wpList_allocV allocRep rfl rfl ?_; refine Hid.out ?_))
  refine hid ?_
  generalize ((w.alloc (.cells (rpC rp0 (.slice none 0 0) (.slice none 0 0) (.slice none 0 0) (.slice none 0 0)).toArray 32)).alloc (.cells (rpC rp0 (.slice none 0 0) (.slice none 0 0) (.slice none 0 0) (.slice none 0 0)).toArray 32)) = w2 at *
  obtain ⟨c0, c1, c2, fz⟩ := Q2.lm.cells
  have d0 : w2.drew.cell? ⟨g, 0, none⟩ = some (.slice sp bs.length cap) := c0
  have d1 : w2.drew.cell? ⟨g, 1, none⟩ = some (.int .i64 L.at_) := c1
  have QD := hid (show LM w0 w2.drew g sp cap bs L ∧ Keeps g w2 w2.drew from ⟨Q2.lm.drewN 1, below_keepsN g w2 1⟩)
  go_wp2
  refine wp_region_noPanic ?_
  refine wp_region_held_drew (S := (fun _ => True)) (by kernel_rfl) trivial (fun hHeld => ?_)
  refine wpAnyH_take (i := 0) (oi := { dst := some 39, op := Op.move (Operand.tmp 0), type := 87, pos := "ledgerref20.go:341", after := #[], guard := none }) (v := .pointer (some ⟨g, 0, none⟩)) rfl (by kernel_rfl) (by kernel_rfl) (by kernel_rfl) (fun _ _ _ h => h) (Or.inl ⟨by rfl, by intro w hS; go_simp⟩) hHeld ?_
  try simp only [Act.put, List.setIfInBounds_toArray, List.set_cons_zero, List.set_cons_succ]
  refine wpAnyH_take (i := 1) (oi := { dst := some 40, op := Op.move (Operand.tmp 0), type := 87, pos := "ledgerref20.go:341", after := #[], guard := none }) (v := .pointer (some ⟨g, 0, none⟩)) rfl (by kernel_rfl) (by kernel_rfl) (by kernel_rfl) (fun _ _ _ h => h) (Or.inl ⟨by rfl, by intro w hS; go_simp⟩) hHeld ?_
  try simp only [Act.put, List.setIfInBounds_toArray, List.set_cons_zero, List.set_cons_succ]
  refine wpAnyH_take (i := 6) (oi := { dst := some 45, op := Op.move (Operand.tmp 0), type := 87, pos := "ledgerref20.go:341", after := #[], guard := none }) (v := .pointer (some ⟨g, 0, none⟩)) rfl (by kernel_rfl) (by kernel_rfl) (by kernel_rfl) (fun _ _ _ h => h) (Or.inl ⟨by rfl, by intro w hS; go_simp⟩) hHeld ?_
  try simp only [Act.put, List.setIfInBounds_toArray, List.set_cons_zero, List.set_cons_succ]
  refine wpAnyH_take (i := 2) (oi := { dst := some 41, op := Op.nilCheck (Operand.tmp 40), type := 0, pos := "ledgerref20.go:341", after := #[{ on := 1, ground := Ground.data }], guard := none }) (v := .pointer (some ⟨g, 0, none⟩)) rfl (by kernel_rfl) (by kernel_rfl) (by kernel_rfl) (fun _ _ _ h => h) (Or.inl ⟨by rfl, by intro w hS; go_simp⟩) hHeld ?_
  try simp only [Act.put, List.setIfInBounds_toArray, List.set_cons_zero, List.set_cons_succ]
  refine wpAnyH_take (i := 7) (oi := { dst := some 46, op := Op.nilCheck (Operand.tmp 45), type := 0, pos := "ledgerref20.go:341", after := #[{ on := 6, ground := Ground.data }], guard := none }) (v := .pointer (some ⟨g, 0, none⟩)) rfl (by kernel_rfl) (by kernel_rfl) (by kernel_rfl) (fun _ _ _ h => h) (Or.inl ⟨by rfl, by intro w hS; go_simp⟩) hHeld ?_
  try simp only [Act.put, List.setIfInBounds_toArray, List.set_cons_zero, List.set_cons_succ]
  refine wpAnyH_take (i := 3) (oi := { dst := some 42, op := Op.fieldAddr 89 (Operand.tmp 41) 0, type := 0, pos := "ledgerref20.go:341", after := #[{ on := 2, ground := Ground.data }], guard := none }) (v := .pointer (some ⟨g, 0, none⟩)) rfl (by kernel_rfl) (by kernel_rfl) (by kernel_rfl) (fun _ _ _ h => h) (Or.inl ⟨by rfl, by intro w hS; go_simp⟩) hHeld ?_
  try simp only [Act.put, List.setIfInBounds_toArray, List.set_cons_zero, List.set_cons_succ]
  refine wpAnyH_take (i := 8) (oi := { dst := some 47, op := Op.fieldAddr 89 (Operand.tmp 46) 1, type := 0, pos := "ledgerref20.go:341", after := #[{ on := 7, ground := Ground.data }], guard := none }) (v := .pointer (some ⟨g, 1, none⟩)) rfl (by kernel_rfl) (by kernel_rfl) (by kernel_rfl) (fun _ _ _ h => h) (Or.inl ⟨by rfl, by intro w hS; go_simp⟩) hHeld ?_
  try simp only [Act.put, List.setIfInBounds_toArray, List.set_cons_zero, List.set_cons_succ]
  refine wpAnyH_ready (rs := [4, 9]) (by kernel_rfl) (by simp) ?_
  refine (AllReadyH.cons (o := { dst := some 43, op := Op.load 22 (Operand.tmp 42), type := 22, pos := "ledgerref20.go:341", after := #[{ on := 3, ground := Ground.data }], guard := none }) rfl (fun K hK => ?_) (AllReadyH.cons (o := { dst := some 48, op := Op.load 3 (Operand.tmp 47), type := 3, pos := "ledgerref20.go:341", after := #[{ on := 8, ground := Ground.data }], guard := none }) rfl (fun K hK => ?_) AllReadyH.nil))
  · skip
    go_simp
    refine hK.out _ _ (trivial) (fun hHeld2 => ?_)
    clear hK K hHeld
    have hHeld := hHeld2
    clear hHeld2
    try simp only [Act.put, List.setIfInBounds_toArray, List.set_cons_zero, List.set_cons_succ]
    refine wpAnyH_take (i := 5) (oi := { dst := some 44, op := Op.call { callee := Callee.builtin Builtin.len, args := #[Operand.tmp 43], argTypes := #[22] }, type := 3, pos := "ledgerref20.go:341", after := #[{ on := 4, ground := Ground.data }], guard := none }) (v := .int .i64 bs.length) rfl (by kernel_rfl) (by kernel_rfl) (by kernel_rfl) (fun _ _ _ h => h) (Or.inl ⟨by rfl, by intro w hS; go_simp⟩) hHeld ?_
    try simp only [Act.put, List.setIfInBounds_toArray, List.set_cons_zero, List.set_cons_succ]
    refine wpAnyH_ready (rs := [9]) (by kernel_rfl) (by simp) ?_
    refine (AllReadyH.cons (o := { dst := some 48, op := Op.load 3 (Operand.tmp 47), type := 3, pos := "ledgerref20.go:341", after := #[{ on := 8, ground := Ground.data }], guard := none }) rfl (fun K hK => ?_) AllReadyH.nil)
    go_simp
    refine hK.out _ _ (trivial) (fun hHeld2 => ?_)
    clear hK K hHeld
    have hHeld := hHeld2
    clear hHeld2
    try simp only [Act.put, List.setIfInBounds_toArray, List.set_cons_zero, List.set_cons_succ]
    refine wpAnyH_take (i := 10) (oi := { dst := some 49, op := Op.binOp BinOp.sub 3 (Operand.tmp 44) (Operand.tmp 48) 3, type := 3, pos := "ledgerref20.go:341", after := #[{ on := 5, ground := Ground.data }, { on := 9, ground := Ground.data }], guard := none }) (v := .int .i64 ((bs.length : Int) - (L.at_ : Int))) rfl (by kernel_rfl) (by kernel_rfl) (by kernel_rfl) (fun _ _ _ h => h) (Or.inl ⟨by rfl, by intro w hS; go_simp; exact wrap_i64_id _ (by omega) (by omega)⟩) hHeld ?_
    try simp only [Act.put, List.setIfInBounds_toArray, List.set_cons_zero, List.set_cons_succ]
    refine wpAnyH_ready (rs := [11]) (by kernel_rfl) (by simp) ?_
    refine (AllReadyH.cons (o := { dst := some 50, op := Op.call { callee := Callee.value (Operand.func 53), args := #[Operand.tmp 39, Operand.tmp 49], argTypes := #[87, 3] }, type := 22, pos := "ledgerref20.go:341", after := #[{ on := 0, ground := Ground.data }, { on := 10, ground := Ground.data }], guard := none }) rfl (fun K hK => ?_) AllReadyH.nil)
    go_simp
    go_at_call 53
    refine (KS.out _ QD.out.1).mono ?_
    rintro e w4 ⟨v4, rfl, O4, hM4, hk4⟩
    have Q4 := Q2.call hM4 (QD.out.2.trans hk4)
    have C4 := O4.cells
    have W4 := hid Q4.row
    have LJ := hid (Q4.o.lt (i := 37) (by decide))
    go_wp2_with fail
    refine hK.out _ _ (trivial) (fun hHeld2 => ?_)
    clear hK K hHeld
    have hHeld := hHeld2
    clear hHeld2
    try simp only [Act.put, List.setIfInBounds_toArray, List.set_cons_zero, List.set_cons_succ]
    refine wpAnyH_take (i := 12) (oi := { dst := some 51, op := Op.fieldAddr 32 (Operand.tmp 5) 6, type := 0, pos := "ledgerref20.go:341", after := #[{ on := 0, ground := Ground.phase }, { on := 1, ground := Ground.phase }, { on := 2, ground := Ground.phase }, { on := 3, ground := Ground.phase }, { on := 4, ground := Ground.phase }, { on := 5, ground := Ground.phase }, { on := 6, ground := Ground.phase }, { on := 7, ground := Ground.phase }, { on := 8, ground := Ground.phase }, { on := 9, ground := Ground.phase }, { on := 10, ground := Ground.phase }, { on := 11, ground := Ground.phase }], guard := none }) (v := .pointer (some ⟨w.heap.size, 37, none⟩)) rfl (by kernel_rfl) (by kernel_rfl) (by kernel_rfl) (fun _ _ _ h => h) (Or.inl ⟨by rfl, by intro w hS; go_simp⟩) hHeld ?_
    try simp only [Act.put, List.setIfInBounds_toArray, List.set_cons_zero, List.set_cons_succ]
    refine wpAnyH_ready (rs := [13]) (by kernel_rfl) (by simp) ?_
    refine (AllReadyH.cons (o := { dst := none, op := Op.store 22 (Operand.tmp 51) (Operand.tmp 50), type := 0, pos := "ledgerref20.go:341", after := #[{ on := 12, ground := Ground.data }, { on := 11, ground := Ground.data }, { on := 11, ground := Ground.chain }, { on := 0, ground := Ground.phase }, { on := 1, ground := Ground.phase }, { on := 2, ground := Ground.phase }, { on := 3, ground := Ground.phase }, { on := 4, ground := Ground.phase }, { on := 5, ground := Ground.phase }, { on := 6, ground := Ground.phase }, { on := 7, ground := Ground.phase }, { on := 8, ground := Ground.phase }, { on := 9, ground := Ground.phase }, { on := 10, ground := Ground.phase }, { on := 11, ground := Ground.phase }], guard := none }) rfl (fun K hK => ?_) AllReadyH.nil)
    refine wp_storeW4 rfl 22 _ _ rfl w.heap.size 37 v4 rfl rfl _ 32 W4.out LJ.out Try.sizeBy C4.1 C4.2 ?_
    intro w5 hr5 hk5
    refine hK.out _ _ (trivial) (fun hHeld2 => ?_)
    clear hK K hHeld
    have hHeld := hHeld2
    clear hHeld2
    try simp only [Act.put, List.setIfInBounds_toArray, List.set_cons_zero, List.set_cons_succ]
    refine wpAnyH_done (by kernel_rfl) ?_ _
    refine NoPanic.normal ?_
    rw [rpC_raw Q4.o.l] at hr5
    have Q5 : FQ w0 w w5 g sp cap bs _ { rp0 with raw := cc } (.slice none 0 0) v4 (.slice none 0 0) (.slice none 0 0) [] [] := Q4.put hr5 hk5 ⟨⟨z32_len, z32_len⟩, Q4.o.ov, own_lower O4 (Nat.le_trans (by have := Q2.sz; omega) Q2.kp.size), Q4.o.ol, Q4.o.oc⟩
    clear W4 LJ hr5 hk5
    have Z1 := hid Q5.row
    have Z2 := hid (show (Try.prog.info? 32).map (·.size) = some (rpC { rp0 with raw := cc } (.slice none 0 0) v4 (.slice none 0 0) (.slice none 0 0)).toArray.size by rw [List.size_toArray, rpC_len Q5.o.l]; exact Try.sizeRep)
    have Z3 := hid (show (Try.prog.info? 32).map (·.size) = some (rpC { rp0 with raw := cc } (.slice none 0 0) v4 (.slice none 0 0) (.slice none 0 0)).length by rw [rpC_len Q5.o.l]; exact Try.sizeRep)
    have Z5 := hid (show (rpC rp0 (.slice none 0 0) (.slice none 0 0) (.slice none 0 0) (.slice none 0 0)).length = (rpC { rp0 with raw := cc } (.slice none 0 0) v4 (.slice none 0 0) (.slice none 0 0)).length from (rpC_len rp0_L).trans (rpC_len Q5.o.l).symm)
    have Z4 := hid Q5.o.one
    have Z6 := hid Q5.ans
    go_wp2_with (first | (refine wpList_load_row rfl 32 _ rfl w.heap.size rfl 32 _ (0, 0) _ Z1.out Try.underlying32 rfl Z2.out ?_) | (refine wpList_storeRowW rfl 32 _ _ rfl (w.heap.size + 1) (rpC { rp0 with raw := cc } (.slice none 0 0) v4 (.slice none 0 0) (.slice none 0 0)) rfl rfl 32 _ Z6.out Z3.out Z5.out Z4.out ?_; intro wz hrz hkz))
    obtain ⟨z1, z2, z3⟩ := Q5.out hkz
    exact bodyPost_ret (results_c1 Try.results32 _ _ (w.heap.size + 1) 32 _ (0, 0) _ rfl hrz Try.underlying32 rfl Z2.out) rfl ⟨_, _, _, _, rfl, ⟨_, _, z1⟩, z2, z3⟩
  · skip
    go_simp
    refine hK.out _ _ (trivial) (fun hHeld2 => ?_)
    clear hK K hHeld
    have hHeld := hHeld2
    clear hHeld2
    try simp only [Act.put, List.setIfInBounds_toArray, List.set_cons_zero, List.set_cons_succ]
    refine wpAnyH_ready (rs := [4]) (by kernel_rfl) (by simp) ?_
    refine (AllReadyH.cons (o := { dst := some 43, op := Op.load 22 (Operand.tmp 42), type := 22, pos := "ledgerref20.go:341", after := #[{ on := 3, ground := Ground.data }], guard := none }) rfl (fun K hK => ?_) AllReadyH.nil)
    go_simp
    refine hK.out _ _ (trivial) (fun hHeld2 => ?_)
    clear hK K hHeld
    have hHeld := hHeld2
    clear hHeld2
    try simp only [Act.put, List.setIfInBounds_toArray, List.set_cons_zero, List.set_cons_succ]
    refine wpAnyH_take (i := 5) (oi := { dst := some 44, op := Op.call { callee := Callee.builtin Builtin.len, args := #[Operand.tmp 43], argTypes := #[22] }, type := 3, pos := "ledgerref20.go:341", after := #[{ on := 4, ground := Ground.data }], guard := none }) (v := .int .i64 bs.length) rfl (by kernel_rfl) (by kernel_rfl) (by kernel_rfl) (fun _ _ _ h => h) (Or.inl ⟨by rfl, by intro w hS; go_simp⟩) hHeld ?_
    try simp only [Act.put, List.setIfInBounds_toArray, List.set_cons_zero, List.set_cons_succ]
    refine wpAnyH_take (i := 10) (oi := { dst := some 49, op := Op.binOp BinOp.sub 3 (Operand.tmp 44) (Operand.tmp 48) 3, type := 3, pos := "ledgerref20.go:341", after := #[{ on := 5, ground := Ground.data }, { on := 9, ground := Ground.data }], guard := none }) (v := .int .i64 ((bs.length : Int) - (L.at_ : Int))) rfl (by kernel_rfl) (by kernel_rfl) (by kernel_rfl) (fun _ _ _ h => h) (Or.inl ⟨by rfl, by intro w hS; go_simp; exact wrap_i64_id _ (by omega) (by omega)⟩) hHeld ?_
    try simp only [Act.put, List.setIfInBounds_toArray, List.set_cons_zero, List.set_cons_succ]
    refine wpAnyH_ready (rs := [11]) (by kernel_rfl) (by simp) ?_
    refine (AllReadyH.cons (o := { dst := some 50, op := Op.call { callee := Callee.value (Operand.func 53), args := #[Operand.tmp 39, Operand.tmp 49], argTypes := #[87, 3] }, type := 22, pos := "ledgerref20.go:341", after := #[{ on := 0, ground := Ground.data }, { on := 10, ground := Ground.data }], guard := none }) rfl (fun K hK => ?_) AllReadyH.nil)
    go_simp
    go_at_call 53
    refine (KS.out _ QD.out.1).mono ?_
    rintro e w4 ⟨v4, rfl, O4, hM4, hk4⟩
    have Q4 := Q2.call hM4 (QD.out.2.trans hk4)
    have C4 := O4.cells
    have W4 := hid Q4.row
    have LJ := hid (Q4.o.lt (i := 37) (by decide))
    go_wp2_with fail
    refine hK.out _ _ (trivial) (fun hHeld2 => ?_)
    clear hK K hHeld
    have hHeld := hHeld2
    clear hHeld2
    try simp only [Act.put, List.setIfInBounds_toArray, List.set_cons_zero, List.set_cons_succ]
    refine wpAnyH_take (i := 12) (oi := { dst := some 51, op := Op.fieldAddr 32 (Operand.tmp 5) 6, type := 0, pos := "ledgerref20.go:341", after := #[{ on := 0, ground := Ground.phase }, { on := 1, ground := Ground.phase }, { on := 2, ground := Ground.phase }, { on := 3, ground := Ground.phase }, { on := 4, ground := Ground.phase }, { on := 5, ground := Ground.phase }, { on := 6, ground := Ground.phase }, { on := 7, ground := Ground.phase }, { on := 8, ground := Ground.phase }, { on := 9, ground := Ground.phase }, { on := 10, ground := Ground.phase }, { on := 11, ground := Ground.phase }], guard := none }) (v := .pointer (some ⟨w.heap.size, 37, none⟩)) rfl (by kernel_rfl) (by kernel_rfl) (by kernel_rfl) (fun _ _ _ h => h) (Or.inl ⟨by rfl, by intro w hS; go_simp⟩) hHeld ?_
    try simp only [Act.put, List.setIfInBounds_toArray, List.set_cons_zero, List.set_cons_succ]
    refine wpAnyH_ready (rs := [13]) (by kernel_rfl) (by simp) ?_
    refine (AllReadyH.cons (o := { dst := none, op := Op.store 22 (Operand.tmp 51) (Operand.tmp 50), type := 0, pos := "ledgerref20.go:341", after := #[{ on := 12, ground := Ground.data }, { on := 11, ground := Ground.data }, { on := 11, ground := Ground.chain }, { on := 0, ground := Ground.phase }, { on := 1, ground := Ground.phase }, { on := 2, ground := Ground.phase }, { on := 3, ground := Ground.phase }, { on := 4, ground := Ground.phase }, { on := 5, ground := Ground.phase }, { on := 6, ground := Ground.phase }, { on := 7, ground := Ground.phase }, { on := 8, ground := Ground.phase }, { on := 9, ground := Ground.phase }, { on := 10, ground := Ground.phase }, { on := 11, ground := Ground.phase }], guard := none }) rfl (fun K hK => ?_) AllReadyH.nil)
    refine wp_storeW4 rfl 22 _ _ rfl w.heap.size 37 v4 rfl rfl _ 32 W4.out LJ.out Try.sizeBy C4.1 C4.2 ?_
    intro w5 hr5 hk5
    refine hK.out _ _ (trivial) (fun hHeld2 => ?_)
    clear hK K hHeld
    have hHeld := hHeld2
    clear hHeld2
    try simp only [Act.put, List.setIfInBounds_toArray, List.set_cons_zero, List.set_cons_succ]
    refine wpAnyH_done (by kernel_rfl) ?_ _
    refine NoPanic.normal ?_
    rw [rpC_raw Q4.o.l] at hr5
    have Q5 : FQ w0 w w5 g sp cap bs _ { rp0 with raw := cc } (.slice none 0 0) v4 (.slice none 0 0) (.slice none 0 0) [] [] := Q4.put hr5 hk5 ⟨⟨z32_len, z32_len⟩, Q4.o.ov, own_lower O4 (Nat.le_trans (by have := Q2.sz; omega) Q2.kp.size), Q4.o.ol, Q4.o.oc⟩
    clear W4 LJ hr5 hk5
    have Z1 := hid Q5.row
    have Z2 := hid (show (Try.prog.info? 32).map (·.size) = some (rpC { rp0 with raw := cc } (.slice none 0 0) v4 (.slice none 0 0) (.slice none 0 0)).toArray.size by rw [List.size_toArray, rpC_len Q5.o.l]; exact Try.sizeRep)
    have Z3 := hid (show (Try.prog.info? 32).map (·.size) = some (rpC { rp0 with raw := cc } (.slice none 0 0) v4 (.slice none 0 0) (.slice none 0 0)).length by rw [rpC_len Q5.o.l]; exact Try.sizeRep)
    have Z5 := hid (show (rpC rp0 (.slice none 0 0) (.slice none 0 0) (.slice none 0 0) (.slice none 0 0)).length = (rpC { rp0 with raw := cc } (.slice none 0 0) v4 (.slice none 0 0) (.slice none 0 0)).length from (rpC_len rp0_L).trans (rpC_len Q5.o.l).symm)
    have Z4 := hid Q5.o.one
    have Z6 := hid Q5.ans
    go_wp2_with (first | (refine wpList_load_row rfl 32 _ rfl w.heap.size rfl 32 _ (0, 0) _ Z1.out Try.underlying32 rfl Z2.out ?_) | (refine wpList_storeRowW rfl 32 _ _ rfl (w.heap.size + 1) (rpC { rp0 with raw := cc } (.slice none 0 0) v4 (.slice none 0 0) (.slice none 0 0)) rfl rfl 32 _ Z6.out Z3.out Z5.out Z4.out ?_; intro wz hrz hkz))
    obtain ⟨z1, z2, z3⟩ := Q5.out hkz
    exact bodyPost_ret (results_c1 Try.results32 _ _ (w.heap.size + 1) 32 _ (0, 0) _ rfl hrz Try.underlying32 rfl Z2.out) rfl ⟨_, _, _, _, rfl, ⟨_, _, z1⟩, z2, z3⟩
end Go.Proofs.Ytenfklcgkfaajaa
namespace Go.Proofs.Ytenfklcgkfaajaa
set_option linter.unusedVariables false
set_option linter.unusedSimpArgs false
open Go.RowKit
attribute [local go_sem ↓] Go.wp_at_zero Go.wp_at_succ

theorem wp_storeW5 {P : Program} {ops : Array Oper} {op : Oper} {a : Act} {w : World} {K : Act → World → Prop} {Q : Exit → Act → World → Prop} {E : Prop} (hgd : op.guard = none) (ty : TypeId) (x y : Operand) (ho : op.op = .store ty x y)
    (b o : Nat) (v : Value) (hx : a.eval x = .pointer (some ⟨b, o, none⟩)) (hy : a.eval y = v) (cs : List Value) (t : TypeId) (hrow : w.heap[b]? = some (.cells cs.toArray t (0, 0))) (hj : o < cs.length) (hi : (P.info? ty).map (·.size) = some 1) (hv : v.cells = #[v]) (h1 : v.oneCell' = true)
    (h : ∀ w', w'.heap[b]? = some (.cells (cs.set o v).toArray t (0, 0)) → Keeps b w w' → K (a.put op.dst undef) w') : if Region.wanted op (yielded ops a.tmps) = true then Oper.wp P op a w K Q else E := by
  rw [if_pos (by simp [Region.wanted, hgd])]
  unfold Oper.wp execOp
  simp only [ho, hx, hy, Instr.storeAt, Instr.sureAddr, Sem.run_bind, Sem.run_pure, Result.andThen_ok, run_storeVar_c w b o ty v cs t hrow hj hi hv h1]
  exact h _ (setRow_keeps hrow).1 (setRow_keeps hrow).2

set_option maxRecDepth 100000 in
set_option maxHeartbeats 4000000 in
theorem fields_5 (w0 w : World) (g : Nat) (sp : Option Addr) (cap : Nat) (bs : List Int) (hy : Bys bs) (L : Lk) (h : LM w0 w g sp cap bs L) (op : Int) (ho : op = 5) :
    Calls Try.prog 32 #[.pointer (some ⟨g, 0, none⟩), .int .i64 op, .agg (rpC rp0 (.slice none 0 0) (.slice none 0 0) (.slice none 0 0) (.slice none 0 0)).toArray] w fun e w' => ∃ vv rv lv cv, e = .returned (.agg (rpC (ffP op bs L).1 vv rv lv cv).toArray) ∧ (∃ ml mc, RpO w' w.heap.size (ffP op bs L).1 vv rv lv cv ml mc) ∧ LM w0 w' g sp cap bs (ffP op bs L).2 ∧ Keeps g w w' := by
  have Q2 := FQ.start h
  have HP := hid (show ffP op bs L = ({ rp0 with raw := lkC bs L (bs.length - L.at_) }, lkS bs L (bs.length - L.at_)) by rw [ho]; rfl)
  rw [HP.out]
  clear HP
  subst ho
  have hpl := h.pl
  have hbl := h.bl
  have KS := hid (fun (wc : World) (h : LM w0 wc g sp cap bs L) => some_any w0 wc g sp cap bs L h (bs.length - L.at_) (by omega))
  rw [show ((bs.length - L.at_ : Nat) : Int) = (bs.length : Int) - (L.at_ : Int) by omega] at KS
  have i0 : (bs.length : Int) ≤ 140737488351234 := by omega
  have i1 : (L.at_ : Int) ≤ (bs.length : Int) := by omega
  generalize hc : lkC bs L (bs.length - L.at_) = cc at *
  generalize hL1 : lkS bs L (bs.length - L.at_) = L1 at *
  clear hc hL1
  go_enter Try.func32, Try.ntmps32
  go_wp2_with (first | (refine wpList_allocV allocRep rfl rfl ?_; refine Hid.out ?_))
  refine hid ?_
  generalize ((w.alloc (.cells (rpC rp0 (.slice none 0 0) (.slice none 0 0) (.slice none 0 0) (.slice none 0 0)).toArray 32)).alloc (.cells (rpC rp0 (.slice none 0 0) (.slice none 0 0) (.slice none 0 0) (.slice none 0 0)).toArray 32)) = w2 at *
  obtain ⟨c0, c1, c2, fz⟩ := Q2.lm.cells
  have d0 : w2.drew.cell? ⟨g, 0, none⟩ = some (.slice sp bs.length cap) := c0
  have d1 : w2.drew.cell? ⟨g, 1, none⟩ = some (.int .i64 L.at_) := c1
  have QD := hid (show LM w0 w2.drew g sp cap bs L ∧ Keeps g w2 w2.drew from ⟨Q2.lm.drewN 1, below_keepsN g w2 1⟩)
  go_wp2
  refine wp_region_noPanic ?_
  refine wp_region_held_drew (S := (fun _ => True)) (by kernel_rfl) trivial (fun hHeld => ?_)
  refine wpAnyH_take (i := 0) (oi := { dst := some 39, op := Op.move (Operand.tmp 0), type := 87, pos := "ledgerref20.go:341", after := #[], guard := none }) (v := .pointer (some ⟨g, 0, none⟩)) rfl (by kernel_rfl) (by kernel_rfl) (by kernel_rfl) (fun _ _ _ h => h) (Or.inl ⟨by rfl, by intro w hS; go_simp⟩) hHeld ?_
  try simp only [Act.put, List.setIfInBounds_toArray, List.set_cons_zero, List.set_cons_succ]
  refine wpAnyH_take (i := 1) (oi := { dst := some 40, op := Op.move (Operand.tmp 0), type := 87, pos := "ledgerref20.go:341", after := #[], guard := none }) (v := .pointer (some ⟨g, 0, none⟩)) rfl (by kernel_rfl) (by kernel_rfl) (by kernel_rfl) (fun _ _ _ h => h) (Or.inl ⟨by rfl, by intro w hS; go_simp⟩) hHeld ?_
  try simp only [Act.put, List.setIfInBounds_toArray, List.set_cons_zero, List.set_cons_succ]
  refine wpAnyH_take (i := 6) (oi := { dst := some 45, op := Op.move (Operand.tmp 0), type := 87, pos := "ledgerref20.go:341", after := #[], guard := none }) (v := .pointer (some ⟨g, 0, none⟩)) rfl (by kernel_rfl) (by kernel_rfl) (by kernel_rfl) (fun _ _ _ h => h) (Or.inl ⟨by rfl, by intro w hS; go_simp⟩) hHeld ?_
  try simp only [Act.put, List.setIfInBounds_toArray, List.set_cons_zero, List.set_cons_succ]
  refine wpAnyH_take (i := 2) (oi := { dst := some 41, op := Op.nilCheck (Operand.tmp 40), type := 0, pos := "ledgerref20.go:341", after := #[{ on := 1, ground := Ground.data }], guard := none }) (v := .pointer (some ⟨g, 0, none⟩)) rfl (by kernel_rfl) (by kernel_rfl) (by kernel_rfl) (fun _ _ _ h => h) (Or.inl ⟨by rfl, by intro w hS; go_simp⟩) hHeld ?_
  try simp only [Act.put, List.setIfInBounds_toArray, List.set_cons_zero, List.set_cons_succ]
  refine wpAnyH_take (i := 7) (oi := { dst := some 46, op := Op.nilCheck (Operand.tmp 45), type := 0, pos := "ledgerref20.go:341", after := #[{ on := 6, ground := Ground.data }], guard := none }) (v := .pointer (some ⟨g, 0, none⟩)) rfl (by kernel_rfl) (by kernel_rfl) (by kernel_rfl) (fun _ _ _ h => h) (Or.inl ⟨by rfl, by intro w hS; go_simp⟩) hHeld ?_
  try simp only [Act.put, List.setIfInBounds_toArray, List.set_cons_zero, List.set_cons_succ]
  refine wpAnyH_take (i := 3) (oi := { dst := some 42, op := Op.fieldAddr 89 (Operand.tmp 41) 0, type := 0, pos := "ledgerref20.go:341", after := #[{ on := 2, ground := Ground.data }], guard := none }) (v := .pointer (some ⟨g, 0, none⟩)) rfl (by kernel_rfl) (by kernel_rfl) (by kernel_rfl) (fun _ _ _ h => h) (Or.inl ⟨by rfl, by intro w hS; go_simp⟩) hHeld ?_
  try simp only [Act.put, List.setIfInBounds_toArray, List.set_cons_zero, List.set_cons_succ]
  refine wpAnyH_take (i := 8) (oi := { dst := some 47, op := Op.fieldAddr 89 (Operand.tmp 46) 1, type := 0, pos := "ledgerref20.go:341", after := #[{ on := 7, ground := Ground.data }], guard := none }) (v := .pointer (some ⟨g, 1, none⟩)) rfl (by kernel_rfl) (by kernel_rfl) (by kernel_rfl) (fun _ _ _ h => h) (Or.inl ⟨by rfl, by intro w hS; go_simp⟩) hHeld ?_
  try simp only [Act.put, List.setIfInBounds_toArray, List.set_cons_zero, List.set_cons_succ]
  refine wpAnyH_ready (rs := [4, 9]) (by kernel_rfl) (by simp) ?_
  refine (AllReadyH.cons (o := { dst := some 43, op := Op.load 22 (Operand.tmp 42), type := 22, pos := "ledgerref20.go:341", after := #[{ on := 3, ground := Ground.data }], guard := none }) rfl (fun K hK => ?_) (AllReadyH.cons (o := { dst := some 48, op := Op.load 3 (Operand.tmp 47), type := 3, pos := "ledgerref20.go:341", after := #[{ on := 8, ground := Ground.data }], guard := none }) rfl (fun K hK => ?_) AllReadyH.nil))
  · skip
    go_simp
    refine hK.out _ _ (trivial) (fun hHeld2 => ?_)
    clear hK K hHeld
    have hHeld := hHeld2
    clear hHeld2
    try simp only [Act.put, List.setIfInBounds_toArray, List.set_cons_zero, List.set_cons_succ]
    refine wpAnyH_take (i := 5) (oi := { dst := some 44, op := Op.call { callee := Callee.builtin Builtin.len, args := #[Operand.tmp 43], argTypes := #[22] }, type := 3, pos := "ledgerref20.go:341", after := #[{ on := 4, ground := Ground.data }], guard := none }) (v := .int .i64 bs.length) rfl (by kernel_rfl) (by kernel_rfl) (by kernel_rfl) (fun _ _ _ h => h) (Or.inl ⟨by rfl, by intro w hS; go_simp⟩) hHeld ?_
    try simp only [Act.put, List.setIfInBounds_toArray, List.set_cons_zero, List.set_cons_succ]
    refine wpAnyH_ready (rs := [9]) (by kernel_rfl) (by simp) ?_
    refine (AllReadyH.cons (o := { dst := some 48, op := Op.load 3 (Operand.tmp 47), type := 3, pos := "ledgerref20.go:341", after := #[{ on := 8, ground := Ground.data }], guard := none }) rfl (fun K hK => ?_) AllReadyH.nil)
    go_simp
    refine hK.out _ _ (trivial) (fun hHeld2 => ?_)
    clear hK K hHeld
    have hHeld := hHeld2
    clear hHeld2
    try simp only [Act.put, List.setIfInBounds_toArray, List.set_cons_zero, List.set_cons_succ]
    refine wpAnyH_take (i := 10) (oi := { dst := some 49, op := Op.binOp BinOp.sub 3 (Operand.tmp 44) (Operand.tmp 48) 3, type := 3, pos := "ledgerref20.go:341", after := #[{ on := 5, ground := Ground.data }, { on := 9, ground := Ground.data }], guard := none }) (v := .int .i64 ((bs.length : Int) - (L.at_ : Int))) rfl (by kernel_rfl) (by kernel_rfl) (by kernel_rfl) (fun _ _ _ h => h) (Or.inl ⟨by rfl, by intro w hS; go_simp; exact wrap_i64_id _ (by omega) (by omega)⟩) hHeld ?_
    try simp only [Act.put, List.setIfInBounds_toArray, List.set_cons_zero, List.set_cons_succ]
    refine wpAnyH_ready (rs := [11]) (by kernel_rfl) (by simp) ?_
    refine (AllReadyH.cons (o := { dst := some 50, op := Op.call { callee := Callee.value (Operand.func 53), args := #[Operand.tmp 39, Operand.tmp 49], argTypes := #[87, 3] }, type := 22, pos := "ledgerref20.go:341", after := #[{ on := 0, ground := Ground.data }, { on := 10, ground := Ground.data }], guard := none }) rfl (fun K hK => ?_) AllReadyH.nil)
    go_simp
    go_at_call 53
    refine (KS.out _ QD.out.1).mono ?_
    rintro e w4 ⟨v4, rfl, O4, hM4, hk4⟩
    have Q4 := Q2.call hM4 (QD.out.2.trans hk4)
    have C4 := O4.cells
    have W4 := hid Q4.row
    have LJ := hid (Q4.o.lt (i := 37) (by decide))
    go_wp2_with fail
    refine hK.out _ _ (trivial) (fun hHeld2 => ?_)
    clear hK K hHeld
    have hHeld := hHeld2
    clear hHeld2
    try simp only [Act.put, List.setIfInBounds_toArray, List.set_cons_zero, List.set_cons_succ]
    refine wpAnyH_take (i := 12) (oi := { dst := some 51, op := Op.fieldAddr 32 (Operand.tmp 5) 6, type := 0, pos := "ledgerref20.go:341", after := #[{ on := 0, ground := Ground.phase }, { on := 1, ground := Ground.phase }, { on := 2, ground := Ground.phase }, { on := 3, ground := Ground.phase }, { on := 4, ground := Ground.phase }, { on := 5, ground := Ground.phase }, { on := 6, ground := Ground.phase }, { on := 7, ground := Ground.phase }, { on := 8, ground := Ground.phase }, { on := 9, ground := Ground.phase }, { on := 10, ground := Ground.phase }, { on := 11, ground := Ground.phase }], guard := none }) (v := .pointer (some ⟨w.heap.size, 37, none⟩)) rfl (by kernel_rfl) (by kernel_rfl) (by kernel_rfl) (fun _ _ _ h => h) (Or.inl ⟨by rfl, by intro w hS; go_simp⟩) hHeld ?_
    try simp only [Act.put, List.setIfInBounds_toArray, List.set_cons_zero, List.set_cons_succ]
    refine wpAnyH_ready (rs := [13]) (by kernel_rfl) (by simp) ?_
    refine (AllReadyH.cons (o := { dst := none, op := Op.store 22 (Operand.tmp 51) (Operand.tmp 50), type := 0, pos := "ledgerref20.go:341", after := #[{ on := 12, ground := Ground.data }, { on := 11, ground := Ground.data }, { on := 11, ground := Ground.chain }, { on := 0, ground := Ground.phase }, { on := 1, ground := Ground.phase }, { on := 2, ground := Ground.phase }, { on := 3, ground := Ground.phase }, { on := 4, ground := Ground.phase }, { on := 5, ground := Ground.phase }, { on := 6, ground := Ground.phase }, { on := 7, ground := Ground.phase }, { on := 8, ground := Ground.phase }, { on := 9, ground := Ground.phase }, { on := 10, ground := Ground.phase }, { on := 11, ground := Ground.phase }], guard := none }) rfl (fun K hK => ?_) AllReadyH.nil)
    refine wp_storeW5 rfl 22 _ _ rfl w.heap.size 37 v4 rfl rfl _ 32 W4.out LJ.out Try.sizeBy C4.1 C4.2 ?_
    intro w5 hr5 hk5
    refine hK.out _ _ (trivial) (fun hHeld2 => ?_)
    clear hK K hHeld
    have hHeld := hHeld2
    clear hHeld2
    try simp only [Act.put, List.setIfInBounds_toArray, List.set_cons_zero, List.set_cons_succ]
    refine wpAnyH_done (by kernel_rfl) ?_ _
    refine NoPanic.normal ?_
    rw [rpC_raw Q4.o.l] at hr5
    have Q5 : FQ w0 w w5 g sp cap bs _ { rp0 with raw := cc } (.slice none 0 0) v4 (.slice none 0 0) (.slice none 0 0) [] [] := Q4.put hr5 hk5 ⟨⟨z32_len, z32_len⟩, Q4.o.ov, own_lower O4 (Nat.le_trans (by have := Q2.sz; omega) Q2.kp.size), Q4.o.ol, Q4.o.oc⟩
    clear W4 LJ hr5 hk5
    have Z1 := hid Q5.row
    have Z2 := hid (show (Try.prog.info? 32).map (·.size) = some (rpC { rp0 with raw := cc } (.slice none 0 0) v4 (.slice none 0 0) (.slice none 0 0)).toArray.size by rw [List.size_toArray, rpC_len Q5.o.l]; exact Try.sizeRep)
    have Z3 := hid (show (Try.prog.info? 32).map (·.size) = some (rpC { rp0 with raw := cc } (.slice none 0 0) v4 (.slice none 0 0) (.slice none 0 0)).length by rw [rpC_len Q5.o.l]; exact Try.sizeRep)
    have Z5 := hid (show (rpC rp0 (.slice none 0 0) (.slice none 0 0) (.slice none 0 0) (.slice none 0 0)).length = (rpC { rp0 with raw := cc } (.slice none 0 0) v4 (.slice none 0 0) (.slice none 0 0)).length from (rpC_len rp0_L).trans (rpC_len Q5.o.l).symm)
    have Z4 := hid Q5.o.one
    have Z6 := hid Q5.ans
    go_wp2_with (first | (refine wpList_load_row rfl 32 _ rfl w.heap.size rfl 32 _ (0, 0) _ Z1.out Try.underlying32 rfl Z2.out ?_) | (refine wpList_storeRowW rfl 32 _ _ rfl (w.heap.size + 1) (rpC { rp0 with raw := cc } (.slice none 0 0) v4 (.slice none 0 0) (.slice none 0 0)) rfl rfl 32 _ Z6.out Z3.out Z5.out Z4.out ?_; intro wz hrz hkz))
    obtain ⟨z1, z2, z3⟩ := Q5.out hkz
    exact bodyPost_ret (results_c1 Try.results32 _ _ (w.heap.size + 1) 32 _ (0, 0) _ rfl hrz Try.underlying32 rfl Z2.out) rfl ⟨_, _, _, _, rfl, ⟨_, _, z1⟩, z2, z3⟩
  · skip
    go_simp
    refine hK.out _ _ (trivial) (fun hHeld2 => ?_)
    clear hK K hHeld
    have hHeld := hHeld2
    clear hHeld2
    try simp only [Act.put, List.setIfInBounds_toArray, List.set_cons_zero, List.set_cons_succ]
    refine wpAnyH_ready (rs := [4]) (by kernel_rfl) (by simp) ?_
    refine (AllReadyH.cons (o := { dst := some 43, op := Op.load 22 (Operand.tmp 42), type := 22, pos := "ledgerref20.go:341", after := #[{ on := 3, ground := Ground.data }], guard := none }) rfl (fun K hK => ?_) AllReadyH.nil)
    go_simp
    refine hK.out _ _ (trivial) (fun hHeld2 => ?_)
    clear hK K hHeld
    have hHeld := hHeld2
    clear hHeld2
    try simp only [Act.put, List.setIfInBounds_toArray, List.set_cons_zero, List.set_cons_succ]
    refine wpAnyH_take (i := 5) (oi := { dst := some 44, op := Op.call { callee := Callee.builtin Builtin.len, args := #[Operand.tmp 43], argTypes := #[22] }, type := 3, pos := "ledgerref20.go:341", after := #[{ on := 4, ground := Ground.data }], guard := none }) (v := .int .i64 bs.length) rfl (by kernel_rfl) (by kernel_rfl) (by kernel_rfl) (fun _ _ _ h => h) (Or.inl ⟨by rfl, by intro w hS; go_simp⟩) hHeld ?_
    try simp only [Act.put, List.setIfInBounds_toArray, List.set_cons_zero, List.set_cons_succ]
    refine wpAnyH_take (i := 10) (oi := { dst := some 49, op := Op.binOp BinOp.sub 3 (Operand.tmp 44) (Operand.tmp 48) 3, type := 3, pos := "ledgerref20.go:341", after := #[{ on := 5, ground := Ground.data }, { on := 9, ground := Ground.data }], guard := none }) (v := .int .i64 ((bs.length : Int) - (L.at_ : Int))) rfl (by kernel_rfl) (by kernel_rfl) (by kernel_rfl) (fun _ _ _ h => h) (Or.inl ⟨by rfl, by intro w hS; go_simp; exact wrap_i64_id _ (by omega) (by omega)⟩) hHeld ?_
    try simp only [Act.put, List.setIfInBounds_toArray, List.set_cons_zero, List.set_cons_succ]
    refine wpAnyH_ready (rs := [11]) (by kernel_rfl) (by simp) ?_
    refine (AllReadyH.cons (o := { dst := some 50, op := Op.call { callee := Callee.value (Operand.func 53), args := #[Operand.tmp 39, Operand.tmp 49], argTypes := #[87, 3] }, type := 22, pos := "ledgerref20.go:341", after := #[{ on := 0, ground := Ground.data }, { on := 10, ground := Ground.data }], guard := none }) rfl (fun K hK => ?_) AllReadyH.nil)
    go_simp
    go_at_call 53
    refine (KS.out _ QD.out.1).mono ?_
    rintro e w4 ⟨v4, rfl, O4, hM4, hk4⟩
    have Q4 := Q2.call hM4 (QD.out.2.trans hk4)
    have C4 := O4.cells
    have W4 := hid Q4.row
    have LJ := hid (Q4.o.lt (i := 37) (by decide))
    go_wp2_with fail
    refine hK.out _ _ (trivial) (fun hHeld2 => ?_)
    clear hK K hHeld
    have hHeld := hHeld2
    clear hHeld2
    try simp only [Act.put, List.setIfInBounds_toArray, List.set_cons_zero, List.set_cons_succ]
    refine wpAnyH_take (i := 12) (oi := { dst := some 51, op := Op.fieldAddr 32 (Operand.tmp 5) 6, type := 0, pos := "ledgerref20.go:341", after := #[{ on := 0, ground := Ground.phase }, { on := 1, ground := Ground.phase }, { on := 2, ground := Ground.phase }, { on := 3, ground := Ground.phase }, { on := 4, ground := Ground.phase }, { on := 5, ground := Ground.phase }, { on := 6, ground := Ground.phase }, { on := 7, ground := Ground.phase }, { on := 8, ground := Ground.phase }, { on := 9, ground := Ground.phase }, { on := 10, ground := Ground.phase }, { on := 11, ground := Ground.phase }], guard := none }) (v := .pointer (some ⟨w.heap.size, 37, none⟩)) rfl (by kernel_rfl) (by kernel_rfl) (by kernel_rfl) (fun _ _ _ h => h) (Or.inl ⟨by rfl, by intro w hS; go_simp⟩) hHeld ?_
    try simp only [Act.put, List.setIfInBounds_toArray, List.set_cons_zero, List.set_cons_succ]
    refine wpAnyH_ready (rs := [13]) (by kernel_rfl) (by simp) ?_
    refine (AllReadyH.cons (o := { dst := none, op := Op.store 22 (Operand.tmp 51) (Operand.tmp 50), type := 0, pos := "ledgerref20.go:341", after := #[{ on := 12, ground := Ground.data }, { on := 11, ground := Ground.data }, { on := 11, ground := Ground.chain }, { on := 0, ground := Ground.phase }, { on := 1, ground := Ground.phase }, { on := 2, ground := Ground.phase }, { on := 3, ground := Ground.phase }, { on := 4, ground := Ground.phase }, { on := 5, ground := Ground.phase }, { on := 6, ground := Ground.phase }, { on := 7, ground := Ground.phase }, { on := 8, ground := Ground.phase }, { on := 9, ground := Ground.phase }, { on := 10, ground := Ground.phase }, { on := 11, ground := Ground.phase }], guard := none }) rfl (fun K hK => ?_) AllReadyH.nil)
    refine wp_storeW5 rfl 22 _ _ rfl w.heap.size 37 v4 rfl rfl _ 32 W4.out LJ.out Try.sizeBy C4.1 C4.2 ?_
    intro w5 hr5 hk5
    refine hK.out _ _ (trivial) (fun hHeld2 => ?_)
    clear hK K hHeld
    have hHeld := hHeld2
    clear hHeld2
    try simp only [Act.put, List.setIfInBounds_toArray, List.set_cons_zero, List.set_cons_succ]
    refine wpAnyH_done (by kernel_rfl) ?_ _
    refine NoPanic.normal ?_
    rw [rpC_raw Q4.o.l] at hr5
    have Q5 : FQ w0 w w5 g sp cap bs _ { rp0 with raw := cc } (.slice none 0 0) v4 (.slice none 0 0) (.slice none 0 0) [] [] := Q4.put hr5 hk5 ⟨⟨z32_len, z32_len⟩, Q4.o.ov, own_lower O4 (Nat.le_trans (by have := Q2.sz; omega) Q2.kp.size), Q4.o.ol, Q4.o.oc⟩
    clear W4 LJ hr5 hk5
    have Z1 := hid Q5.row
    have Z2 := hid (show (Try.prog.info? 32).map (·.size) = some (rpC { rp0 with raw := cc } (.slice none 0 0) v4 (.slice none 0 0) (.slice none 0 0)).toArray.size by rw [List.size_toArray, rpC_len Q5.o.l]; exact Try.sizeRep)
    have Z3 := hid (show (Try.prog.info? 32).map (·.size) = some (rpC { rp0 with raw := cc } (.slice none 0 0) v4 (.slice none 0 0) (.slice none 0 0)).length by rw [rpC_len Q5.o.l]; exact Try.sizeRep)
    have Z5 := hid (show (rpC rp0 (.slice none 0 0) (.slice none 0 0) (.slice none 0 0) (.slice none 0 0)).length = (rpC { rp0 with raw := cc } (.slice none 0 0) v4 (.slice none 0 0) (.slice none 0 0)).length from (rpC_len rp0_L).trans (rpC_len Q5.o.l).symm)
    have Z4 := hid Q5.o.one
    have Z6 := hid Q5.ans
    go_wp2_with (first | (refine wpList_load_row rfl 32 _ rfl w.heap.size rfl 32 _ (0, 0) _ Z1.out Try.underlying32 rfl Z2.out ?_) | (refine wpList_storeRowW rfl 32 _ _ rfl (w.heap.size + 1) (rpC { rp0 with raw := cc } (.slice none 0 0) v4 (.slice none 0 0) (.slice none 0 0)) rfl rfl 32 _ Z6.out Z3.out Z5.out Z4.out ?_; intro wz hrz hkz))
    obtain ⟨z1, z2, z3⟩ := Q5.out hkz
    exact bodyPost_ret (results_c1 Try.results32 _ _ (w.heap.size + 1) 32 _ (0, 0) _ rfl hrz Try.underlying32 rfl Z2.out) rfl ⟨_, _, _, _, rfl, ⟨_, _, z1⟩, z2, z3⟩
end Go.Proofs.Ytenfklcgkfaajaa
namespace Go.Proofs.Ytenfklcgkfaajaa
set_option linter.unusedVariables false
set_option linter.unusedSimpArgs false
open Go.RowKit
attribute [local go_sem ↓] Go.wp_at_zero Go.wp_at_succ

theorem rpC_insum {r : Rp} {vv rv lv cv : Value} (h : RpL r) (k : List Int) (hk : k.length = 32) : (rpC r vv rv lv cv).take 46 ++ ints .u8 k ++ (rpC r vv rv lv cv).drop (46 + (ints .u8 k).length) = rpC { r with info := { r.info with sum := k } } vv rv lv cv := by
  rw [List.drop_of_length_le (by rw [rpC_len h, ints_len, hk]; decide), List.append_nil]
  unfold rpC inC
  rw [← List.append_assoc, ← List.append_assoc, ← List.append_assoc, List.take_append_of_le_length (by simp [ints, h.sum]), List.take_of_length_le (by simp [ints, h.sum])]
  simp

set_option maxRecDepth 100000 in
set_option maxHeartbeats 4000000 in
theorem fields_8 (w0 w : World) (g : Nat) (sp : Option Addr) (cap : Nat) (bs : List Int) (hy : Bys bs) (L : Lk) (h : LM w0 w g sp cap bs L) (op : Int) (ho : op = 8) :
    Calls Try.prog 32 #[.pointer (some ⟨g, 0, none⟩), .int .i64 op, .agg (rpC rp0 (.slice none 0 0) (.slice none 0 0) (.slice none 0 0) (.slice none 0 0)).toArray] w fun e w' => ∃ vv rv lv cv, e = .returned (.agg (rpC (ffP op bs L).1 vv rv lv cv).toArray) ∧ (∃ ml mc, RpO w' w.heap.size (ffP op bs L).1 vv rv lv cv ml mc) ∧ LM w0 w' g sp cap bs (ffP op bs L).2 ∧ Keeps g w w' := by
  have Q2 := FQ.start h
  have HP := hid (show ffP op bs L = ({ rp0 with info := liV bs L }, liS bs L) by rw [ho]; rfl)
  rw [HP.out]
  clear HP
  subst ho
  unfold liV liS
  have KN0 := hid (fun (wc : World) (h : LM w0 wc g sp cap bs L) => num_any w0 wc g sp cap bs hy L h 1 (by omega))
  generalize hx0 : lkN bs L 1 = x0 at *
  generalize hL1 : lkS bs L 1 = L1 at *
  have KN1 := hid (fun (wc : World) (h : LM w0 wc g sp cap bs L1) => num_any w0 wc g sp cap bs hy L1 h 8 (by omega))
  generalize hx1 : lkN bs L1 8 = x1 at *
  generalize hL2 : lkS bs L1 8 = L2 at *
  have KN2 := hid (fun (wc : World) (h : LM w0 wc g sp cap bs L2) => num_any w0 wc g sp cap bs hy L2 h 8 (by omega))
  generalize hx2 : lkN bs L2 8 = x2 at *
  generalize hL3 : lkS bs L2 8 = L3 at *
  have KN3 := hid (fun (wc : World) (h : LM w0 wc g sp cap bs L3) => num_any w0 wc g sp cap bs hy L3 h 4 (by omega))
  generalize hx3 : lkN bs L3 4 = x3 at *
  generalize hL4 : lkS bs L3 4 = L4 at *
  have KN4 := hid (fun (wc : World) (h : LM w0 wc g sp cap bs L4) => num_any w0 wc g sp cap bs hy L4 h 4 (by omega))
  generalize hx4 : lkN bs L4 4 = x4 at *
  generalize hL5 : lkS bs L4 4 = L5 at *
  have KN5 := hid (fun (wc : World) (h : LM w0 wc g sp cap bs L5) => num_any w0 wc g sp cap bs hy L5 h 4 (by omega))
  generalize hx5 : lkN bs L5 4 = x5 at *
  generalize hL6 : lkS bs L5 4 = L6 at *
  have KR := hid (fun (wc : World) (h : LM w0 wc g sp cap bs L6) => row_any w0 wc g sp cap bs L6 h)
  have hkl := lkR_len bs L6
  generalize hxk : lkR bs L6 = key at *
  generalize hL7 : lkS bs L6 32 = L7 at *
  clear hx0 hx1 hx2 hx3 hx4 hx5 hL1 hL2 hL3 hL4 hL5 hL6 hxk hL7
  go_enter Try.func32, Try.ntmps32
  go_wp2_with (first | (refine wpList_allocV allocRep rfl rfl ?_))
  refine (KN0.out _ Q2.lm).mono ?_
  generalize ((w.alloc (.cells (rpC rp0 (.slice none 0 0) (.slice none 0 0) (.slice none 0 0) (.slice none 0 0)).toArray 32)).alloc (.cells (rpC rp0 (.slice none 0 0) (.slice none 0 0) (.slice none 0 0) (.slice none 0 0)).toArray 32)) = w2 at *
  rintro e w10 ⟨rfl, hM10, hk10⟩
  have Q10 := Q2.call hM10 hk10
  clear KN0
  have W11 := hid Q10.row
  have LJ11 := hid (Q10.o.lt (i := 40) (by decide))
  go_wp2_with (first | (refine wpList_storeW rfl 3 _ _ rfl w.heap.size 40 (.int .i64 x0) rfl rfl _ 32 W11.out LJ11.out Try.sizeInt rfl rfl ?_; intro w11 hr11 hk11; refine Hid.out ?_))
  refine hid ?_
  rw [show (40 : Nat) = 40 + 0 from rfl, rpC_inset Q10.o.l 0 (by decide) _ ⟨x0, 0, 0, 0, 0, 0, z32⟩ rfl] at hr11
  have Q11 : FQ w0 w w11 g sp cap bs _ { rp0 with info := ⟨x0, 0, 0, 0, 0, 0, z32⟩ } (.slice none 0 0) (.slice none 0 0) (.slice none 0 0) (.slice none 0 0) [] [] := Q10.put hr11 hk11 ⟨⟨z32_len, z32_len⟩, Q10.o.ov, Q10.o.orw, Q10.o.ol, Q10.o.oc⟩
  clear W11 LJ11 hr11 hk11
  clear Q10 Q2
  go_wp2_with fail
  refine (KN1.out _ Q11.lm).mono ?_
  rintro e w12 ⟨rfl, hM12, hk12⟩
  have Q12 := Q11.call hM12 hk12
  clear KN1
  have W13 := hid Q12.row
  have LJ13 := hid (Q12.o.lt (i := 41) (by decide))
  go_wp2_with (first | (refine wpList_storeW rfl 3 _ _ rfl w.heap.size 41 (.int .i64 x1) rfl rfl _ 32 W13.out LJ13.out Try.sizeInt rfl rfl ?_; intro w13 hr13 hk13; refine Hid.out ?_))
  refine hid ?_
  rw [show (41 : Nat) = 40 + 1 from rfl, rpC_inset Q12.o.l 1 (by decide) _ ⟨x0, x1, 0, 0, 0, 0, z32⟩ rfl] at hr13
  have Q13 : FQ w0 w w13 g sp cap bs _ { rp0 with info := ⟨x0, x1, 0, 0, 0, 0, z32⟩ } (.slice none 0 0) (.slice none 0 0) (.slice none 0 0) (.slice none 0 0) [] [] := Q12.put hr13 hk13 ⟨⟨z32_len, z32_len⟩, Q12.o.ov, Q12.o.orw, Q12.o.ol, Q12.o.oc⟩
  clear W13 LJ13 hr13 hk13
  clear Q12 Q11
  go_wp2_with fail
  refine (KN2.out _ Q13.lm).mono ?_
  rintro e w14 ⟨rfl, hM14, hk14⟩
  have Q14 := Q13.call hM14 hk14
  clear KN2
  have W15 := hid Q14.row
  have LJ15 := hid (Q14.o.lt (i := 42) (by decide))
  go_wp2_with (first | (refine wpList_storeW rfl 3 _ _ rfl w.heap.size 42 (.int .i64 x2) rfl rfl _ 32 W15.out LJ15.out Try.sizeInt rfl rfl ?_; intro w15 hr15 hk15; refine Hid.out ?_))
  refine hid ?_
  rw [show (42 : Nat) = 40 + 2 from rfl, rpC_inset Q14.o.l 2 (by decide) _ ⟨x0, x1, x2, 0, 0, 0, z32⟩ rfl] at hr15
  have Q15 : FQ w0 w w15 g sp cap bs _ { rp0 with info := ⟨x0, x1, x2, 0, 0, 0, z32⟩ } (.slice none 0 0) (.slice none 0 0) (.slice none 0 0) (.slice none 0 0) [] [] := Q14.put hr15 hk15 ⟨⟨z32_len, z32_len⟩, Q14.o.ov, Q14.o.orw, Q14.o.ol, Q14.o.oc⟩
  clear W15 LJ15 hr15 hk15
  clear Q14 Q13
  go_wp2_with fail
  refine (KN3.out _ Q15.lm).mono ?_
  rintro e w16 ⟨rfl, hM16, hk16⟩
  have Q16 := Q15.call hM16 hk16
  clear KN3
  have W17 := hid Q16.row
  have LJ17 := hid (Q16.o.lt (i := 43) (by decide))
  go_wp2_with (first | (refine wpList_storeW rfl 3 _ _ rfl w.heap.size 43 (.int .i64 x3) rfl rfl _ 32 W17.out LJ17.out Try.sizeInt rfl rfl ?_; intro w17 hr17 hk17; refine Hid.out ?_))
  refine hid ?_
  rw [show (43 : Nat) = 40 + 3 from rfl, rpC_inset Q16.o.l 3 (by decide) _ ⟨x0, x1, x2, x3, 0, 0, z32⟩ rfl] at hr17
  have Q17 : FQ w0 w w17 g sp cap bs _ { rp0 with info := ⟨x0, x1, x2, x3, 0, 0, z32⟩ } (.slice none 0 0) (.slice none 0 0) (.slice none 0 0) (.slice none 0 0) [] [] := Q16.put hr17 hk17 ⟨⟨z32_len, z32_len⟩, Q16.o.ov, Q16.o.orw, Q16.o.ol, Q16.o.oc⟩
  clear W17 LJ17 hr17 hk17
  clear Q16 Q15
  go_wp2_with fail
  refine (KN4.out _ Q17.lm).mono ?_
  rintro e w18 ⟨rfl, hM18, hk18⟩
  have Q18 := Q17.call hM18 hk18
  clear KN4
  have W19 := hid Q18.row
  have LJ19 := hid (Q18.o.lt (i := 44) (by decide))
  go_wp2_with (first | (refine wpList_storeW rfl 3 _ _ rfl w.heap.size 44 (.int .i64 x4) rfl rfl _ 32 W19.out LJ19.out Try.sizeInt rfl rfl ?_; intro w19 hr19 hk19; refine Hid.out ?_))
  refine hid ?_
  rw [show (44 : Nat) = 40 + 4 from rfl, rpC_inset Q18.o.l 4 (by decide) _ ⟨x0, x1, x2, x3, x4, 0, z32⟩ rfl] at hr19
  have Q19 : FQ w0 w w19 g sp cap bs _ { rp0 with info := ⟨x0, x1, x2, x3, x4, 0, z32⟩ } (.slice none 0 0) (.slice none 0 0) (.slice none 0 0) (.slice none 0 0) [] [] := Q18.put hr19 hk19 ⟨⟨z32_len, z32_len⟩, Q18.o.ov, Q18.o.orw, Q18.o.ol, Q18.o.oc⟩
  clear W19 LJ19 hr19 hk19
  clear Q18 Q17
  go_wp2_with fail
  refine (KN5.out _ Q19.lm).mono ?_
  rintro e w20 ⟨rfl, hM20, hk20⟩
  have Q20 := Q19.call hM20 hk20
  clear KN5
  have W21 := hid Q20.row
  have LJ21 := hid (Q20.o.lt (i := 45) (by decide))
  go_wp2_with (first | (refine wpList_storeW rfl 3 _ _ rfl w.heap.size 45 (.int .i64 x5) rfl rfl _ 32 W21.out LJ21.out Try.sizeInt rfl rfl ?_; intro w21 hr21 hk21; refine Hid.out ?_))
  refine hid ?_
  rw [show (45 : Nat) = 40 + 5 from rfl, rpC_inset Q20.o.l 5 (by decide) _ ⟨x0, x1, x2, x3, x4, x5, z32⟩ rfl] at hr21
  have Q21 : FQ w0 w w21 g sp cap bs _ { rp0 with info := ⟨x0, x1, x2, x3, x4, x5, z32⟩ } (.slice none 0 0) (.slice none 0 0) (.slice none 0 0) (.slice none 0 0) [] [] := Q20.put hr21 hk21 ⟨⟨z32_len, z32_len⟩, Q20.o.ov, Q20.o.orw, Q20.o.ol, Q20.o.oc⟩
  clear W21 LJ21 hr21 hk21
  clear Q20 Q19
  go_wp2_with fail
  refine (KR.out _ Q21.lm).mono ?_
  rintro e w30 ⟨rfl, hM30, hk30⟩
  have Q30 := Q21.call hM30 hk30
  have SK := hid (show (Try.prog.info? 26).map (·.size) = some (ints .u8 key).length by rw [ints_len, hkl]; exact Try.sizeDg)
  have SL := hid (show 46 + (ints .u8 key).length ≤ (rpC { rp0 with info := ⟨x0, x1, x2, x3, x4, x5, z32⟩ } (.slice none 0 0) (.slice none 0 0) (.slice none 0 0) (.slice none 0 0)).length by rw [ints_len, hkl, rpC_len Q30.o.l]; decide)
  have W4 := hid Q30.row
  go_wp2_with (first
    | (refine wpList_storeMidW rfl 26 _ _ rfl w.heap.size 46 (ints .u8 key) rfl rfl _ 32 W4.out SL.out SK.out (ints_one _ _) ?_; intro w31 hr31 hk31; refine Hid.out ?_))
  refine hid ?_
  rw [rpC_insum Q30.o.l _ hkl] at hr31
  have Q31 : FQ w0 w w31 g sp cap bs _ { rp0 with info := ⟨x0, x1, x2, x3, x4, x5, key⟩ } (.slice none 0 0) (.slice none 0 0) (.slice none 0 0) (.slice none 0 0) [] [] := Q30.put hr31 hk31 ⟨⟨z32_len, hkl⟩, Q30.o.ov, Q30.o.orw, Q30.o.ol, Q30.o.oc⟩
  clear SK SL W4 hr31 hk31
  have Z1 := hid Q31.row
  have Z2 := hid (show (Try.prog.info? 32).map (·.size) = some (rpC { rp0 with info := ⟨x0, x1, x2, x3, x4, x5, key⟩ } (.slice none 0 0) (.slice none 0 0) (.slice none 0 0) (.slice none 0 0)).toArray.size by rw [List.size_toArray, rpC_len Q31.o.l]; exact Try.sizeRep)
  have Z3 := hid (show (Try.prog.info? 32).map (·.size) = some (rpC { rp0 with info := ⟨x0, x1, x2, x3, x4, x5, key⟩ } (.slice none 0 0) (.slice none 0 0) (.slice none 0 0) (.slice none 0 0)).length by rw [rpC_len Q31.o.l]; exact Try.sizeRep)
  have Z5 := hid (show (rpC rp0 (.slice none 0 0) (.slice none 0 0) (.slice none 0 0) (.slice none 0 0)).length = (rpC { rp0 with info := ⟨x0, x1, x2, x3, x4, x5, key⟩ } (.slice none 0 0) (.slice none 0 0) (.slice none 0 0) (.slice none 0 0)).length from (rpC_len rp0_L).trans (rpC_len Q31.o.l).symm)
  have Z4 := hid Q31.o.one
  have Z6 := hid Q31.ans
  go_wp2_with (first | (refine wpList_load_row rfl 32 _ rfl w.heap.size rfl 32 _ (0, 0) _ Z1.out Try.underlying32 rfl Z2.out ?_) | (refine wpList_storeRowW rfl 32 _ _ rfl (w.heap.size + 1) (rpC { rp0 with info := ⟨x0, x1, x2, x3, x4, x5, key⟩ } (.slice none 0 0) (.slice none 0 0) (.slice none 0 0) (.slice none 0 0)) rfl rfl 32 _ Z6.out Z3.out Z5.out Z4.out ?_; intro wz hrz hkz))
  obtain ⟨z1, z2, z3⟩ := Q31.out hkz
  exact bodyPost_ret (results_c1 Try.results32 _ _ (w.heap.size + 1) 32 _ (0, 0) _ rfl hrz Try.underlying32 rfl Z2.out) rfl ⟨_, _, _, _, rfl, ⟨_, _, z1⟩, z2, z3⟩
end Go.Proofs.Ytenfklcgkfaajaa
namespace Go.Proofs.Ytenfklcgkfaajaa
set_option linter.unusedVariables false
set_option linter.unusedSimpArgs false
open Go.RowKit
attribute [local go_sem ↓] Go.wp_at_zero Go.wp_at_succ


set_option maxRecDepth 100000 in
set_option maxHeartbeats 4000000 in
theorem fields_0 (w0 w : World) (g : Nat) (sp : Option Addr) (cap : Nat) (bs : List Int) (hy : Bys bs) (L : Lk) (h : LM w0 w g sp cap bs L) (op : Int) (ho : ¬ (1 ≤ op ∧ op ≤ 8)) :
    Calls Try.prog 32 #[.pointer (some ⟨g, 0, none⟩), .int .i64 op, .agg (rpC rp0 (.slice none 0 0) (.slice none 0 0) (.slice none 0 0) (.slice none 0 0)).toArray] w fun e w' => ∃ vv rv lv cv, e = .returned (.agg (rpC (ffP op bs L).1 vv rv lv cv).toArray) ∧ (∃ ml mc, RpO w' w.heap.size (ffP op bs L).1 vv rv lv cv ml mc) ∧ LM w0 w' g sp cap bs (ffP op bs L).2 ∧ Keeps g w w' := by
  have Q2 := FQ.start h
  have HP := hid (show ffP op bs L = (rp0, L) by unfold ffP; rw [if_neg (by omega), if_neg (by omega), if_neg (by omega), if_neg (by omega), if_neg (by omega), if_neg (by omega), if_neg (by omega)])
  rw [HP.out]
  clear HP
  have o1 : (op == 1) = false := beq_eq_false_iff_ne.2 (by omega)
  have o2 : (op == 2) = false := beq_eq_false_iff_ne.2 (by omega)
  have o3 : (op == 3) = false := beq_eq_false_iff_ne.2 (by omega)
  have o4 : (op == 4) = false := beq_eq_false_iff_ne.2 (by omega)
  have o5 : (op == 5) = false := beq_eq_false_iff_ne.2 (by omega)
  have o6 : (op == 6) = false := beq_eq_false_iff_ne.2 (by omega)
  have o7 : (op == 7) = false := beq_eq_false_iff_ne.2 (by omega)
  have o8 : (op == 8) = false := beq_eq_false_iff_ne.2 (by omega)
  clear ho
  go_enter Try.func32, Try.ntmps32
  go_wp2_with (first | (refine wpList_allocV allocRep rfl rfl ?_; refine Hid.out ?_))
  refine hid ?_
  generalize ((w.alloc (.cells (rpC rp0 (.slice none 0 0) (.slice none 0 0) (.slice none 0 0) (.slice none 0 0)).toArray 32)).alloc (.cells (rpC rp0 (.slice none 0 0) (.slice none 0 0) (.slice none 0 0) (.slice none 0 0)).toArray 32)) = w2 at *
  have Z1 := hid Q2.row
  have Z2 := hid (show (Try.prog.info? 32).map (·.size) = some (rpC rp0 (.slice none 0 0) (.slice none 0 0) (.slice none 0 0) (.slice none 0 0)).toArray.size by rw [List.size_toArray, rpC_len Q2.o.l]; exact Try.sizeRep)
  have Z3 := hid (show (Try.prog.info? 32).map (·.size) = some (rpC rp0 (.slice none 0 0) (.slice none 0 0) (.slice none 0 0) (.slice none 0 0)).length by rw [rpC_len Q2.o.l]; exact Try.sizeRep)
  have Z5 := hid (show (rpC rp0 (.slice none 0 0) (.slice none 0 0) (.slice none 0 0) (.slice none 0 0)).length = (rpC rp0 (.slice none 0 0) (.slice none 0 0) (.slice none 0 0) (.slice none 0 0)).length from (rpC_len rp0_L).trans (rpC_len Q2.o.l).symm)
  have Z4 := hid Q2.o.one
  have Z6 := hid Q2.ans
  go_wp2_with (first | (refine wpList_load_row rfl 32 _ rfl w.heap.size rfl 32 _ (0, 0) _ Z1.out Try.underlying32 rfl Z2.out ?_) | (refine wpList_storeRowW rfl 32 _ _ rfl (w.heap.size + 1) (rpC rp0 (.slice none 0 0) (.slice none 0 0) (.slice none 0 0) (.slice none 0 0)) rfl rfl 32 _ Z6.out Z3.out Z5.out Z4.out ?_; intro wz hrz hkz))
  obtain ⟨z1, z2, z3⟩ := Q2.out hkz
  exact bodyPost_ret (results_c1 Try.results32 _ _ (w.heap.size + 1) 32 _ (0, 0) _ rfl hrz Try.underlying32 rfl Z2.out) rfl ⟨_, _, _, _, rfl, ⟨_, _, z1⟩, z2, z3⟩
end Go.Proofs.Ytenfklcgkfaajaa
