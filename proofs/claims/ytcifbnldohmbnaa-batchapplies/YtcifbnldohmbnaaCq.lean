import Derived.Test.YtcifbnldohmbnaaCo
namespace Go.Proofs.Ytcifbnldohmbnaa
set_option linter.unusedVariables false
set_option linter.unusedSimpArgs false
open Go.RowKit
attribute [local go_sem ↓] Go.wp_at_zero Go.wp_at_succ

theorem chgSize : (Try.prog.info? 40).map (·.size) = some 34 := by kernel_rfl
theorem or_byte_nat (a b : Nat) (ha : a < 256) (hb : b < 256) : bits .or .i64 (a : Int) ((b : Int) * 256) = ((a + 256 * b : Nat) : Int) := by
  have h1 : (BitVec.ofInt 64 (a : Int)).toNat = a := by
    rw [BitVec.ofInt_natCast, BitVec.toNat_ofNat]; exact Nat.mod_eq_of_lt (by omega)
  have h2 : (BitVec.ofInt 64 ((b : Int) * 256)).toNat = b * 256 := by
    rw [show ((b : Int) * 256) = ((b * 256 : Nat) : Int) by simp, BitVec.ofInt_natCast, BitVec.toNat_ofNat]; exact Nat.mod_eq_of_lt (by omega)
  have h3 : a ||| b * 256 = a + 256 * b := by
    have := Nat.shiftLeft_add_eq_or_of_lt (b := a) (i := 8) (by omega) b
    rw [Nat.shiftLeft_eq] at this
    rw [Nat.or_comm]
    simp at this
    omega
  show IntKind.i64.wrap ((BitVec.ofInt 64 (a : Int) ||| BitVec.ofInt 64 ((b : Int) * 256)).toNat : Int) = _
  rw [BitVec.toNat_or, h1, h2, h3]
  exact wrap_i64_id _ (by omega) (by omega)
theorem or_byte {a b : Int} (ha : 0 ≤ a ∧ a < 256) (hb : 0 ≤ b ∧ b < 256) : bits .or .i64 a (b * 256) = a + 256 * b := by
  obtain ⟨x, rfl⟩ := Int.eq_ofNat_of_zero_le ha.1
  obtain ⟨y, rfl⟩ := Int.eq_ofNat_of_zero_le hb.1
  rw [or_byte_nat x y (by omega) (by omega)]; simp
set_option maxRecDepth 100000 in
set_option maxHeartbeats 400000 in
theorem number_any (w : World) (zs : List Int) (sp : Option Addr) (cap : Nat) (hS : Src w sp cap zs) (hy : Byts zs) (hl : 2 ≤ zs.length) :
    Calls Try.prog 41 #[.slice sp zs.length cap] w fun e w' => e = .returned (.int .i64 (zs.getD 0 0 + 256 * zs.getD 1 0)) ∧ Below w.heap.size w w' := by
  obtain ⟨hc, hm, b, o, hb, hsp, hsrc⟩ := hS
  obtain rfl := hsp (by omega)
  have c0 := hsrc 0 (by omega)
  have c1 := hsrc 1 (by omega)
  have y0 := hy.get 0
  have y1 := hy.get 1
  have HO := hid (or_byte y0 y1)
  have i0 : (0 : Int) < (zs.length : Int) := by omega
  have i1 : (1 : Int) < (zs.length : Int) := by omega
  generalize zs.getD 0 0 = x at *
  generalize zs.getD 1 0 = y at *
  generalize zs.length = n at *
  have x0 : 0 ≤ x := y0.1
  have x1 : x < 256 := y0.2
  have x2 : 0 ≤ y := y1.1
  have x3 : y < 256 := y1.2
  rw [Nat.add_zero] at c0
  go_enter Try.func41, Try.ntmps41
  go_wp2
  go_quiet (fail)
  go_wp2
  go_ret
  exact ⟨by rw [← HO.out]; rfl, below_drewN (Below.refl _ _) _⟩
/-- append(own bytes, src...), as a step of a region that draws its order. -/
theorem step_appendB {w : World} {ops : Array Oper} {o : Oper} {a : Act} {K : Act → World → Prop} {Q : Exit → Act → World → Prop} {E : Prop} (hgd : o.guard = none) (s x : Operand)
    (ho : o.op = .call { callee := .builtin .append, args := #[s, x], argTypes := #[30, 30] })
    (base : Nat) (v : Value) (zs ys : List Int) (hs : a.eval s = v) (hown : Own w base v zs) (sp : Option Addr) (c : Nat) (hx : a.eval x = .slice sp ys.length c) (hnil : sp = none → c = 0) (hS : Src w sp c ys)
    (hlen : zs.length + ys.length ≤ 140737488351232) (hbase : base ≤ w.heap.size)
    (h : ∀ v' w', Own w' base v' (zs ++ ys) → w.grownBy w' v.ownBlock → (v'.ownBlock = v.ownBlock ∨ v'.ownBlock = some w.heap.size) → K (a.put o.dst v') w') :
    if Region.wanted o (yielded ops a.tmps) = true then Oper.wp Try.prog o a w K Q else E := by
  have hw : Region.wanted o (yielded ops a.tmps) = true := by simp [Region.wanted, hgd]
  rw [if_pos hw]
  obtain ⟨i5, hi5, hz5, hs5, hy5⟩ := Try.info5
  cases sp with
  | none =>
    obtain rfl := hnil rfl
    obtain rfl : ys = [] := List.eq_nil_of_length_eq_zero (by have := hS.1; omega)
    have hrun := run_append_owned_none (P := Try.prog) w base 30 o.type 5 i5 1 Try.underlying30 hi5 v _ _ hown
    unfold Oper.wp
    simp [execOp, ho, resolve, invoke, builtin, hs, hx, hrun, Result.andThen]
    exact h v w (by rw [List.append_nil]; exact hown) ⟨rfl, rfl, rfl, Nat.le_refl _, fun _ _ _ => rfl⟩ (Or.inl rfl)
  | some ad =>
    obtain ⟨v', w', hr, q1, q2, _, q4⟩ := run_append_own_at (P := Try.prog) w base 30 o.type 5 i5 (.int .u8 0) 1 1 Try.underlying30 hi5 hz5 hs5 hy5 rfl Nat.one_pos v zs.length (ints .u8 zs) hown ad ys.length c (ints .u8 ys) (by rw [ints_len]; omega) (src_news hS) (ints_one _ _) (by unfold maxLen; omega) (by omega) hbase
    unfold Oper.wp execOp
    simp only [ho, resolve, invoke, builtin, Sem.run_bind, Sem.run_pure, Result.andThen_ok, List.map_toArray, List.map_cons, List.map_nil, hs, hx, hr]
    exact h v' w' (Own.mk_append q1) q2 q4
theorem src_new (w : World) (ys : List Int) (t : TypeId) (fr : Nat × Nat) (hl : ys.length ≤ maxLen) : Src (w.alloc (.cells (ints .u8 ys).toArray t fr)) (some ⟨w.heap.size, 0, none⟩) ys.length ys :=
  ⟨Nat.le_refl _, hl, w.heap.size, 0, fun _ => by simp, fun _ => rfl, fun j hj => by rw [Nat.zero_add]; exact cell_ints (hnew w _) j hj⟩
theorem src_row' {w : World} {g t o : Nat} {zs : List Int} {cs : List Value} {fr : Nat × Nat} (h : w.heap[g]? = some (.cells cs.toArray t fr)) (hr : ∀ j, j < zs.length → cs[o + j]? = some (.int .u8 (zs.getD j 0))) (cap : Nat) (hc : zs.length ≤ cap) (hm : cap ≤ maxLen) : Src w (some ⟨g, o, none⟩) cap zs := by
  refine ⟨hc, hm, g, o, fun _ => hlt h, fun _ => rfl, ?_⟩
  intro j hj
  have e := hr j hj
  rw [cell_of_row w g (o + j) cs.toArray t fr h, List.getElem?_toArray]
  exact e
theorem grown_alloc {w w' : World} {o : Obj} {r : Option Nat} (h : (w.alloc o).grownBy w' r) : w.grownBy w' r :=
  ⟨h.os, h.tape, h.output, by have := h.size; simp at this; omega, fun k hk hne => by
    rw [h.block k (by simp; omega) hne]
    show (w.heap.push _)[k]? = _
    rw [Array.getElem?_push, if_neg (by omega)]⟩
theorem grown_trans {w w1 w2 : World} {r r' : Option Nat} (h : w.grownBy w1 r) (k : w1.grownBy w2 r') (hr : r' = r ∨ ∃ q, r' = some q ∧ w.heap.size ≤ q) : w.grownBy w2 r :=
  ⟨k.os.trans h.os, k.tape.trans h.tape, k.output.trans h.output, Nat.le_trans h.size k.size, fun i hi hne => by
    rw [k.block i (Nat.lt_of_lt_of_le hi h.size) (by rcases hr with e | ⟨q, e, hq⟩; rw [e]; exact hne; rw [e]; intro e2; cases e2; omega)]
    exact h.block i hi hne⟩
theorem new_trans {w w1 : World} {r r1 r2 : Option Nat} (hs : w.heap.size ≤ w1.heap.size) (h : r1 = r ∨ ∃ k, r1 = some k ∧ w.heap.size ≤ k) (k : r2 = r1 ∨ ∃ q, r2 = some q ∧ w1.heap.size ≤ q) : r2 = r ∨ ∃ k, r2 = some k ∧ w.heap.size ≤ k := by
  rcases k with rfl | ⟨q, e, hq⟩
  · exact h
  · exact Or.inr ⟨q, e, by omega⟩
set_option maxRecDepth 100000 in
set_option maxHeartbeats 400000 in
theorem appendNumber_any (w : World) (base : Nat) (v : Value) (zs : List Int) (hO : Own w base v zs) (n : Nat) (hn : n < 65536) (hlen : zs.length ≤ 140737488000000) (hbase : base ≤ w.heap.size) :
    Calls Try.prog 39 #[v, .int .i64 n] w fun e w' => ∃ v', e = .returned v' ∧ Own w' base v' (zs ++ num2 n) ∧ w.grownBy w' v.ownBlock ∧ (v'.ownBlock = v.ownBlock ∨ ∃ k, v'.ownBlock = some k ∧ w.heap.size ≤ k) := by
  have i1 : (n : Int) < 65536 := by omega
  obtain ⟨sp, cap, rfl, hS, hnil⟩ := id hO.form
  have hP := own_pushes hO
  have HN := hid (show num2 n = [((n : Int) % 256), (n : Int) / 256] by simp [num2])
  have HL := hid (show zs.length + [((n : Int) % 256), (n : Int) / 256].length ≤ 140737488351232 by simp; omega)
  go_enter Try.func39, Try.ntmps39
  go_wp2_with (first | (at_builtin; refine wpList_append_wide rfl (.tmp 5) (.tmp 11) rfl base _ zs [((n : Int) % 256), (n : Int) / 256] rfl (hP _) (some ⟨w.heap.size, 0, none⟩) 2 rfl (fun h => by cases h) (src_new w _ _ _ (by simp [maxLen])) HL.out (by simp; omega) ?_; intro v2 w2 hO2 hg2 hd2))
  go_ret
  refine ⟨_, rfl, (by rw [HN.out]; exact hO2), grown_alloc hg2, ?_⟩
  rcases hd2 with e | e
  · exact Or.inl e
  · exact Or.inr ⟨_, e, by simp⟩
theorem enc_key {w : World} {m : MC} {c : Chg} (h : Says w m c) (j : Nat) (hj : j < 32) : (encM m)[0 + j]? = some (.int .u8 (c.key.getD j 0)) := by
  obtain ⟨e1, e2, _⟩ := h
  rw [Nat.zero_add, encM, List.getElem?_append_left (by rw [ints_len, e1, e2]; exact hj), e1]
  exact ints_get .u8 c.key j (by omega)
theorem enc_del {w w1 : World} {g t : Nat} {fr : Nat × Nat} {m : MC} {c : Chg} (hs : Says w m c) (h : w1.heap[g]? = some (.cells (encM m).toArray t fr)) : w1.cell? ⟨g, 32, none⟩ = some (.bool c.del) := by
  have hl : (ints .u8 m.key).length = 32 := by rw [ints_len, hs.1, hs.2.1]
  rw [cell_of_row _ _ _ _ _ _ h, List.getElem?_toArray, encM, List.getElem?_append_right (by omega), hl, hs.2.2.1]; rfl
theorem enc_val {w w1 : World} {g t : Nat} {fr : Nat × Nat} {m : MC} {c : Chg} (hs : Says w m c) (h : w1.heap[g]? = some (.cells (encM m).toArray t fr)) : w1.cell? ⟨g, 33, none⟩ = some m.sv := by
  have hl : (ints .u8 m.key).length = 32 := by rw [ints_len, hs.1, hs.2.1]
  rw [cell_of_row _ _ _ _ _ _ h, List.getElem?_toArray, encM, List.getElem?_append_right (by omega), hl]; rfl
theorem grown_alloc' {w w' : World} {o : Obj} {r : Option Nat} (h : w.grownBy w' r) : w.grownBy (w'.alloc o) r :=
  ⟨h.os, h.tape, h.output, by have := h.size; simp; omega, fun k hk hne => by
    show (w'.heap.push _)[k]? = _
    rw [Array.getElem?_push, if_neg (by have := h.size; omega)]; exact h.block k hk hne⟩
theorem grown_drew {w w' : World} {r : Option Nat} (h : w.drew.grownBy w' r) : w.grownBy w' r := ⟨h.os, h.tape, h.output, h.size, h.block⟩
theorem grown_refl' (w : World) (r : Option Nat) : w.grownBy w.drew r := ⟨rfl, rfl, rfl, Nat.le_refl _, fun _ _ _ => rfl⟩
set_option maxRecDepth 100000 in
set_option maxHeartbeats 1000000 in
theorem appendChange_any (w : World) (base : Nat) (v : Value) (zs : List Int) (hO : Own w base v zs) (W0 : World) (m : MC) (c : Chg) (hs : Says W0 m c) (hB0 : Below base W0 w) (hW0 : W0.heap.size ≤ base) (hv : c.del = false → c.val.length ≤ 128) (hlen : zs.length ≤ 140737480000000) (hbase : base ≤ w.heap.size) :
    Calls Try.prog 40 #[v, .agg (encM m).toArray] w fun e w' => ∃ v', e = .returned v' ∧ Own w' base v' (zs ++ lay1 c) ∧ w.grownBy w' v.ownBlock ∧ (v'.ownBlock = v.ownBlock ∨ ∃ k, v'.ownBlock = some k ∧ w.heap.size ≤ k) := by
  obtain ⟨sp0, cap0, rfl, hS0, hnil0⟩ := id hO.form
  have hrow : ∀ k, (Value.slice sp0 zs.length cap0).ownBlock = some k → base ≤ k := fun k e => (hO.block k e).1
  have g1 := hnew w (.cells (encM m).toArray 40)
  have hO1 := own_pushes hO (.cells (encM m).toArray 40)
  have cd := enc_del hs g1
  have cv := enc_val hs g1
  have HK := hid hs.2.1
  have hb1 : base ≤ (w.alloc (.cells (encM m).toArray 40)).heap.size := by simp; omega
  go_enter Try.func40, Try.ntmps40
  cases hd : c.del with
  | true =>
    rw [hd] at cd
    have HL := hid (show lay1 c = [2] ++ c.key by simp [lay1, hd])
    go_wp2
    have grown_of : ∀ {w' : World}, (w.alloc (.cells (encM m).toArray 40)).grownBy w' (Value.slice sp0 zs.length cap0).ownBlock → w.grownBy w' (Value.slice sp0 zs.length cap0).ownBlock := fun h => grown_alloc h
    generalize hw0 : w.alloc (.cells (encM m).toArray 40) = w0 at *
    have hg0 : w.heap.size ≤ w0.heap.size := by rw [← hw0]; simp
    generalize hg : w.heap.size = g at *
    have hne : some g ≠ (Value.slice sp0 zs.length cap0).ownBlock := fun e => by obtain ⟨_, x, hx⟩ := hO1.ne_chg g e.symm; exact ne_of_type hx g1 (by decide) rfl
    clear hw0 cd cv
    refine wp_region_noPanic ?_
    refine wp_region_held_drew (S := fun w' => w'.heap[g]? = some (.cells (encM m).toArray 40) ∧ w0.grownBy w' (Value.slice sp0 zs.length cap0).ownBlock) (by kernel_rfl) ⟨g1, grown_refl' _ _⟩ (fun hHeld => ?_)
    refine wpAnyH_take (i := 0) (oi := { dst := some 7, op := Op.move (Operand.tmp 0), type := 30, pos := "raw.go:90", after := #[], guard := none }) (v := .slice sp0 zs.length cap0) rfl (by kernel_rfl) (by kernel_rfl) (by kernel_rfl) (fun _ _ _ h => h) (Or.inl ⟨by rfl, by intro w hS; go_simp⟩) hHeld ?_
    try simp only [Act.put, List.setIfInBounds_toArray, List.set_cons_zero, List.set_cons_succ]
    refine wpAnyH_take (i := 3) (oi := { dst := some 10, op := Op.fieldAddr 40 (Operand.tmp 3) 0, type := 0, pos := "raw.go:90", after := #[], guard := none }) (v := .pointer (some ⟨g, 0, none⟩)) rfl (by kernel_rfl) (by kernel_rfl) (by kernel_rfl) (fun _ _ _ h => h) (Or.inl ⟨by rfl, by intro w hS; go_simp⟩) hHeld ?_
    try simp only [Act.put, List.setIfInBounds_toArray, List.set_cons_zero, List.set_cons_succ]
    refine wpAnyH_take (i := 4) (oi := { dst := some 11, op := Op.slice 24 (Operand.tmp 10) none none none, type := 30, pos := "raw.go:90", after := #[{ on := 3, ground := Ground.data }], guard := none }) (v := .slice (some ⟨g, 0, none⟩) 32 32) rfl (by kernel_rfl) (by kernel_rfl) (by kernel_rfl) (fun _ _ _ h => h) (Or.inl ⟨by rfl, by intro w hS; go_simp⟩) hHeld ?_
    try simp only [Act.put, List.setIfInBounds_toArray, List.set_cons_zero, List.set_cons_succ]
    refine wpAnyH_ready (rs := [1]) (by kernel_rfl) (by simp) ?_
    refine (AllReadyH.cons (o := { dst := some 8, op := Op.buildSlice 30 1 #[(0, Operand.const (Value.int IntKind.u8 2))], type := 30, pos := "raw.go:90", after := #[], guard := none }) rfl (fun K hK => ?_) AllReadyH.nil)
    go_simp
    refine hK.out _ _ (⟨hold hHeld.1, grown_alloc' hHeld.2⟩) (fun hHeld2 => ?_)
    clear hK K hHeld
    have hHeld := hHeld2
    clear hHeld2
    try simp only [Act.put, List.setIfInBounds_toArray, List.set_cons_zero, List.set_cons_succ]
    refine wpAnyH_ready (rs := [2]) (by kernel_rfl) (by simp) ?_
    refine (AllReadyH.cons (o := { dst := some 9, op := Op.call { callee := Callee.builtin Builtin.append, args := #[Operand.tmp 7, Operand.tmp 8], argTypes := #[30, 30] }, type := 30, pos := "raw.go:90", after := #[{ on := 0, ground := Ground.data }, { on := 1, ground := Ground.data }], guard := none }) rfl (fun K hK => ?_) AllReadyH.nil)
    refine step_appendB rfl (.tmp 7) (.tmp 8) rfl base _ zs [2] rfl (own_pushes (w := w0.drew) hO1 _) (some ⟨w0.heap.size, 0, none⟩) 1 rfl (fun h => by cases h) (src_new w0.drew [2] _ _ (by simp [maxLen])) (by simp; omega) (by simp; omega) ?_
    intro v7 w7 hO7 hg7 hd7
    refine hK.out _ _ (⟨(hg7.block g (hlt_ hHeld.1) hne).trans hHeld.1, grown_trans hHeld.2 hg7 (Or.inl rfl)⟩) (fun hHeld2 => ?_)
    clear hK K hHeld
    have hHeld := hHeld2
    clear hHeld2
    have hd9 : v7.ownBlock = (Value.slice sp0 zs.length cap0).ownBlock ∨ ∃ q, v7.ownBlock = some q ∧ w0.heap.size ≤ q := by
      rcases hd7 with e | e
      · exact Or.inl e
      · exact Or.inr ⟨_, e, by simp⟩
    have hne2 : some g ≠ v7.ownBlock := fun e => by obtain ⟨_, x, hx⟩ := hO7.ne_chg g e.symm; exact ne_of_type hx hHeld.1 (by decide) rfl
    clear hg7 hd7
    obtain ⟨sp7, cap7, rfl, _, _⟩ := id hO7.form
    try simp only [Act.put, List.setIfInBounds_toArray, List.set_cons_zero, List.set_cons_succ]
    refine wpAnyH_ready (rs := [5]) (by kernel_rfl) (by simp) ?_
    refine (AllReadyH.cons (o := { dst := some 12, op := Op.call { callee := Callee.builtin Builtin.append, args := #[Operand.tmp 9, Operand.tmp 11], argTypes := #[30, 30] }, type := 30, pos := "raw.go:90", after := #[{ on := 2, ground := Ground.data }, { on := 4, ground := Ground.data }, { on := 2, ground := Ground.chain }], guard := none }) rfl (fun K hK => ?_) AllReadyH.nil)
    have hsz7 := hHeld.2.size
    refine step_appendB rfl (.tmp 9) (.tmp 11) rfl base _ (zs ++ [2]) c.key rfl hO7 (some ⟨g, 0, none⟩) 32 (by rw [HK.out]; rfl) (fun h => by cases h) (src_row' hHeld.1 (fun j hj => enc_key hs j (by have := HK.out; omega)) 32 (by have := HK.out; omega) (by simp [maxLen])) (by have := HK.out; simp; omega) (by have := hHeld.2.size; omega) ?_
    intro v8 w8 hO8 hg8 hd8
    refine hK.out _ _ (⟨(hg8.block g (hlt_ hHeld.1) hne2).trans hHeld.1, grown_trans hHeld.2 hg8 hd9⟩) (fun hHeld2 => ?_)
    clear hK K hHeld
    have hHeld := hHeld2
    clear hHeld2
    have hdA : v8.ownBlock = (Value.slice sp0 zs.length cap0).ownBlock ∨ ∃ q, v8.ownBlock = some q ∧ w0.heap.size ≤ q := by
      rcases hd8 with e | e
      · rw [e]; exact hd9
      · exact Or.inr ⟨_, e, hsz7⟩
    clear hg8 hd8
    try simp only [Act.put, List.setIfInBounds_toArray, List.set_cons_zero, List.set_cons_succ]
    refine wpAnyH_take (i := 6) (oi := { dst := some 4, op := Op.assign (Operand.tmp 12), type := 30, pos := "raw.go:90", after := #[{ on := 5, ground := Ground.data }, { on := 5, ground := Ground.chain }, { on := 0, ground := Ground.phase }, { on := 1, ground := Ground.phase }, { on := 2, ground := Ground.phase }, { on := 3, ground := Ground.phase }, { on := 4, ground := Ground.phase }, { on := 5, ground := Ground.phase }], guard := none }) (v := v8) rfl (by kernel_rfl) (by kernel_rfl) (by kernel_rfl) (fun _ _ _ h => h) (Or.inl ⟨by rfl, by intro w hS; go_simp⟩) hHeld ?_
    try simp only [Act.put, List.setIfInBounds_toArray, List.set_cons_zero, List.set_cons_succ]
    refine wpAnyH_done (by kernel_rfl) ?_ _
    refine NoPanic.normal ?_
    go_wp2
    go_ret
    refine ⟨_, rfl, (by rw [HL.out, ← List.append_assoc]; exact hO8), grown_of hHeld.2, ?_⟩
    rcases hdA with e | ⟨q, e, hq⟩
    · exact Or.inl e
    · exact Or.inr ⟨q, e, by omega⟩
  | false =>
    rw [hd] at cd
    obtain ⟨_, _, _, spv, capv, esv, nilv, srcv⟩ := id hs
    rw [esv] at cv
    have HL := hid (show lay1 c = [1] ++ (c.key ++ (num2 c.val.length ++ c.val)) by simp [lay1, hd])
    have hB1 : Below base W0 (w.alloc (.cells (encM m).toArray 40)) := hB0.alloc hbase _
    have EV : ∀ {W' : World}, W'.heap[w.heap.size]? = some (.cells (encM m).toArray 40) → W'.cell? ⟨w.heap.size, 33, none⟩ = some (.slice spv c.val.length capv) := fun h => by rw [enc_val hs h, esv]
    have hv := hv hd
    have hv : c.val.length < 65536 := by omega
    have iv : (c.val.length : Int) < 65536 := by omega
    go_wp2
    have grown_of : ∀ {w' : World}, (w.alloc (.cells (encM m).toArray 40)).grownBy w' (Value.slice sp0 zs.length cap0).ownBlock → w.grownBy w' (Value.slice sp0 zs.length cap0).ownBlock := fun h => grown_alloc h
    generalize hw0 : w.alloc (.cells (encM m).toArray 40) = w0 at *
    have hg0 : w.heap.size ≤ w0.heap.size := by rw [← hw0]; simp
    generalize hg : w.heap.size = g at *
    have hne : some g ≠ (Value.slice sp0 zs.length cap0).ownBlock := fun e => by obtain ⟨_, x, hx⟩ := hO1.ne_chg g e.symm; exact ne_of_type hx g1 (by decide) rfl
    clear cd
    refine wp_region_noPanic ?_
    refine wp_region_held_drew (S := fun w' => w'.heap[g]? = some (.cells (encM m).toArray 40) ∧ w0.grownBy w' (Value.slice sp0 zs.length cap0).ownBlock) (by kernel_rfl) ⟨g1, grown_refl' _ _⟩ (fun hHeld => ?_)
    refine wpAnyH_take (i := 0) (oi := { dst := some 13, op := Op.move (Operand.tmp 0), type := 30, pos := "raw.go:92", after := #[], guard := none }) (v := .slice sp0 zs.length cap0) rfl (by kernel_rfl) (by kernel_rfl) (by kernel_rfl) (fun _ _ _ h => h) (Or.inl ⟨by rfl, by intro w hS; go_simp⟩) hHeld ?_
    try simp only [Act.put, List.setIfInBounds_toArray, List.set_cons_zero, List.set_cons_succ]
    refine wpAnyH_take (i := 3) (oi := { dst := some 16, op := Op.fieldAddr 40 (Operand.tmp 3) 0, type := 0, pos := "raw.go:92", after := #[], guard := none }) (v := .pointer (some ⟨g, 0, none⟩)) rfl (by kernel_rfl) (by kernel_rfl) (by kernel_rfl) (fun _ _ _ h => h) (Or.inl ⟨by rfl, by intro w hS; go_simp⟩) hHeld ?_
    try simp only [Act.put, List.setIfInBounds_toArray, List.set_cons_zero, List.set_cons_succ]
    refine wpAnyH_take (i := 4) (oi := { dst := some 17, op := Op.slice 24 (Operand.tmp 16) none none none, type := 30, pos := "raw.go:92", after := #[{ on := 3, ground := Ground.data }], guard := none }) (v := .slice (some ⟨g, 0, none⟩) 32 32) rfl (by kernel_rfl) (by kernel_rfl) (by kernel_rfl) (fun _ _ _ h => h) (Or.inl ⟨by rfl, by intro w hS; go_simp⟩) hHeld ?_
    try simp only [Act.put, List.setIfInBounds_toArray, List.set_cons_zero, List.set_cons_succ]
    refine wpAnyH_ready (rs := [1]) (by kernel_rfl) (by simp) ?_
    refine (AllReadyH.cons (o := { dst := some 14, op := Op.buildSlice 30 1 #[(0, Operand.const (Value.int IntKind.u8 1))], type := 30, pos := "raw.go:92", after := #[], guard := none }) rfl (fun K hK => ?_) AllReadyH.nil)
    go_simp
    refine hK.out _ _ (⟨hold hHeld.1, grown_alloc' hHeld.2⟩) (fun hHeld2 => ?_)
    clear hK K hHeld
    have hHeld := hHeld2
    clear hHeld2
    try simp only [Act.put, List.setIfInBounds_toArray, List.set_cons_zero, List.set_cons_succ]
    refine wpAnyH_ready (rs := [2]) (by kernel_rfl) (by simp) ?_
    refine (AllReadyH.cons (o := { dst := some 15, op := Op.call { callee := Callee.builtin Builtin.append, args := #[Operand.tmp 13, Operand.tmp 14], argTypes := #[30, 30] }, type := 30, pos := "raw.go:92", after := #[{ on := 0, ground := Ground.data }, { on := 1, ground := Ground.data }], guard := none }) rfl (fun K hK => ?_) AllReadyH.nil)
    refine step_appendB rfl (.tmp 13) (.tmp 14) rfl base _ zs [1] rfl (own_pushes (w := w0.drew) hO1 _) (some ⟨w0.heap.size, 0, none⟩) 1 rfl (fun h => by cases h) (src_new w0.drew [1] _ _ (by simp [maxLen])) (by simp; omega) (by simp; omega) ?_
    intro v7 w7 hO7 hg7 hd7
    refine hK.out _ _ (⟨(hg7.block g (hlt_ hHeld.1) hne).trans hHeld.1, grown_trans hHeld.2 hg7 (Or.inl rfl)⟩) (fun hHeld2 => ?_)
    clear hK K hHeld
    have hHeld := hHeld2
    clear hHeld2
    have hd9 : v7.ownBlock = (Value.slice sp0 zs.length cap0).ownBlock ∨ ∃ q, v7.ownBlock = some q ∧ w0.heap.size ≤ q := by
      rcases hd7 with e | e
      · exact Or.inl e
      · exact Or.inr ⟨_, e, by simp⟩
    have hne2 : some g ≠ v7.ownBlock := fun e => by obtain ⟨_, x, hx⟩ := hO7.ne_chg g e.symm; exact ne_of_type hx hHeld.1 (by decide) rfl
    clear hg7 hd7
    obtain ⟨sp7, cap7, rfl, _, _⟩ := id hO7.form
    try simp only [Act.put, List.setIfInBounds_toArray, List.set_cons_zero, List.set_cons_succ]
    refine wpAnyH_ready (rs := [5]) (by kernel_rfl) (by simp) ?_
    refine (AllReadyH.cons (o := { dst := some 18, op := Op.call { callee := Callee.builtin Builtin.append, args := #[Operand.tmp 15, Operand.tmp 17], argTypes := #[30, 30] }, type := 30, pos := "raw.go:92", after := #[{ on := 2, ground := Ground.data }, { on := 4, ground := Ground.data }, { on := 2, ground := Ground.chain }], guard := none }) rfl (fun K hK => ?_) AllReadyH.nil)
    have hsz7 := hHeld.2.size
    refine step_appendB rfl (.tmp 15) (.tmp 17) rfl base _ (zs ++ [1]) c.key rfl hO7 (some ⟨g, 0, none⟩) 32 (by rw [HK.out]; rfl) (fun h => by cases h) (src_row' hHeld.1 (fun j hj => enc_key hs j (by have := HK.out; omega)) 32 (by have := HK.out; omega) (by simp [maxLen])) (by have := HK.out; simp; omega) (by have := hHeld.2.size; omega) ?_
    intro v8 w8 hO8 hg8 hd8
    refine hK.out _ _ (⟨(hg8.block g (hlt_ hHeld.1) hne2).trans hHeld.1, grown_trans hHeld.2 hg8 hd9⟩) (fun hHeld2 => ?_)
    clear hK K hHeld
    have hHeld := hHeld2
    clear hHeld2
    have hdA : v8.ownBlock = (Value.slice sp0 zs.length cap0).ownBlock ∨ ∃ q, v8.ownBlock = some q ∧ w0.heap.size ≤ q := by
      rcases hd8 with e | e
      · rw [e]; exact hd9
      · exact Or.inr ⟨_, e, hsz7⟩
    clear hg8 hd8
    try simp only [Act.put, List.setIfInBounds_toArray, List.set_cons_zero, List.set_cons_succ]
    refine wpAnyH_take (i := 6) (oi := { dst := some 0, op := Op.assign (Operand.tmp 18), type := 30, pos := "raw.go:92", after := #[{ on := 5, ground := Ground.data }, { on := 5, ground := Ground.chain }, { on := 0, ground := Ground.phase }, { on := 1, ground := Ground.phase }, { on := 2, ground := Ground.phase }, { on := 3, ground := Ground.phase }, { on := 4, ground := Ground.phase }, { on := 5, ground := Ground.phase }], guard := none }) (v := v8) rfl (by kernel_rfl) (by kernel_rfl) (by kernel_rfl) (fun _ _ _ h => h) (Or.inl ⟨by rfl, by intro w hS; go_simp⟩) hHeld ?_
    try simp only [Act.put, List.setIfInBounds_toArray, List.set_cons_zero, List.set_cons_succ]
    refine wpAnyH_done (by kernel_rfl) ?_ _
    refine NoPanic.normal ?_
    have hf := hHeld
    clear hHeld
    have hBB : Below base W0 w8 := hB1.trans (grown_keeps hf.2 hrow (by omega))
    have hne8 : some g ≠ v8.ownBlock := fun e => by obtain ⟨_, x, hx⟩ := hO8.ne_chg g e.symm; exact ne_of_type hx hf.1 (by decide) rfl
    have KN := hid (appendNumber_any w8.drew base v8 (zs ++ [1] ++ c.key) hO8 c.val.length hv (by have := HK.out; simp; omega) (show base ≤ w8.heap.size by have := hf.2.size; omega))
    go_wp2
    refine wp_region_noPanic ?_
    refine wp_region_held_drew (S := fun w' => w'.heap[g]? = some (.cells (encM m).toArray 40) ∧ w8.grownBy w' v8.ownBlock) (by kernel_rfl) ⟨hf.1, grown_refl' _ _⟩ (fun hHeld => ?_)
    refine wpAnyH_take (i := 0) (oi := { dst := some 19, op := Op.move (Operand.tmp 0), type := 30, pos := "raw.go:93", after := #[], guard := none }) (v := v8) rfl (by kernel_rfl) (by kernel_rfl) (by kernel_rfl) (fun _ _ _ h => h) (Or.inl ⟨by rfl, by intro w hS; go_simp⟩) hHeld ?_
    try simp only [Act.put, List.setIfInBounds_toArray, List.set_cons_zero, List.set_cons_succ]
    refine wpAnyH_take (i := 1) (oi := { dst := some 20, op := Op.fieldAddr 40 (Operand.tmp 3) 2, type := 0, pos := "raw.go:93", after := #[], guard := none }) (v := .pointer (some ⟨g, 33, none⟩)) rfl (by kernel_rfl) (by kernel_rfl) (by kernel_rfl) (fun _ _ _ h => h) (Or.inl ⟨by rfl, by intro w hS; go_simp⟩) hHeld ?_
    try simp only [Act.put, List.setIfInBounds_toArray, List.set_cons_zero, List.set_cons_succ]
    refine wpAnyH_take (i := 5) (oi := { dst := some 24, op := Op.fieldAddr 40 (Operand.tmp 3) 2, type := 0, pos := "raw.go:93", after := #[], guard := none }) (v := .pointer (some ⟨g, 33, none⟩)) rfl (by kernel_rfl) (by kernel_rfl) (by kernel_rfl) (fun _ _ _ h => h) (Or.inl ⟨by rfl, by intro w hS; go_simp⟩) hHeld ?_
    try simp only [Act.put, List.setIfInBounds_toArray, List.set_cons_zero, List.set_cons_succ]
    refine wpAnyH_take (i := 2) (oi := { dst := some 21, op := Op.load 30 (Operand.tmp 20), type := 30, pos := "raw.go:93", after := #[{ on := 1, ground := Ground.data }], guard := none }) (v := .slice spv c.val.length capv) rfl (by kernel_rfl) (by kernel_rfl) (by kernel_rfl) (fun _ _ _ h => h) (Or.inl ⟨by rfl, by intro w hS; have hc := EV hS.1; go_simp⟩) hHeld ?_
    try simp only [Act.put, List.setIfInBounds_toArray, List.set_cons_zero, List.set_cons_succ]
    refine wpAnyH_take (i := 6) (oi := { dst := some 25, op := Op.load 30 (Operand.tmp 24), type := 30, pos := "raw.go:93", after := #[{ on := 5, ground := Ground.data }], guard := none }) (v := .slice spv c.val.length capv) rfl (by kernel_rfl) (by kernel_rfl) (by kernel_rfl) (fun _ _ _ h => h) (Or.inl ⟨by rfl, by intro w hS; have hc := EV hS.1; go_simp⟩) hHeld ?_
    try simp only [Act.put, List.setIfInBounds_toArray, List.set_cons_zero, List.set_cons_succ]
    refine wpAnyH_take (i := 3) (oi := { dst := some 22, op := Op.call { callee := Callee.builtin Builtin.len, args := #[Operand.tmp 21], argTypes := #[30] }, type := 3, pos := "raw.go:93", after := #[{ on := 2, ground := Ground.data }], guard := none }) (v := .int .i64 c.val.length) rfl (by kernel_rfl) (by kernel_rfl) (by kernel_rfl) (fun _ _ _ h => h) (Or.inl ⟨by rfl, by intro w hS; go_simp⟩) hHeld ?_
    try simp only [Act.put, List.setIfInBounds_toArray, List.set_cons_zero, List.set_cons_succ]
    refine wpAnyH_ready (rs := [4]) (by kernel_rfl) (by simp) ?_
    refine (AllReadyH.cons (o := { dst := some 23, op := Op.call { callee := Callee.value (Operand.func 39), args := #[Operand.tmp 19, Operand.tmp 22], argTypes := #[30, 3] }, type := 30, pos := "raw.go:93", after := #[{ on := 0, ground := Ground.data }, { on := 3, ground := Ground.data }], guard := none }) rfl (fun K hK => ?_) AllReadyH.nil)
    go_simp
    go_at_call 39
    refine (KN.out).mono ?_
    rintro e w4 ⟨v9, rfl, hO9, hg9, hdB⟩
    have hg9 := grown_drew hg9
    go_wp2_with fail
    refine hK.out _ _ (⟨(hg9.block g (hlt_ hHeld.1) hne8).trans hHeld.1, hg9⟩) (fun hHeld2 => ?_)
    clear hK K hHeld
    have hHeld := hHeld2
    clear hHeld2
    have hBC : Below base W0 w4 := hBB.trans (grown_keeps hg9 (fun k e => (hO8.block k e).1) (Nat.le_trans hb1 hf.2.size))
    have hS9 := srcv.below hBC hW0
    have hne9 : some g ≠ v9.ownBlock := fun e => by obtain ⟨_, x, hx⟩ := hO9.ne_chg g e.symm; exact ne_of_type hx hHeld.1 (by decide) rfl
    have hs9 := hg9.size
    try simp only [Act.put, List.setIfInBounds_toArray, List.set_cons_zero, List.set_cons_succ]
    refine wpAnyH_ready (rs := [7]) (by kernel_rfl) (by simp) ?_
    refine (AllReadyH.cons (o := { dst := some 26, op := Op.call { callee := Callee.builtin Builtin.append, args := #[Operand.tmp 23, Operand.tmp 25], argTypes := #[30, 30] }, type := 30, pos := "raw.go:93", after := #[{ on := 4, ground := Ground.data }, { on := 6, ground := Ground.data }, { on := 4, ground := Ground.chain }], guard := none }) rfl (fun K hK => ?_) AllReadyH.nil)
    refine step_appendB rfl (.tmp 23) (.tmp 25) rfl base _ ((zs ++ [1]) ++ c.key ++ num2 c.val.length) c.val rfl hO9 spv capv rfl nilv hS9 (by have := HK.out; simp [num2]; omega) (Nat.le_trans (Nat.le_trans hb1 hf.2.size) hs9) ?_
    intro vA wA hOA hgA hdC
    refine hK.out _ _ (⟨(hgA.block g (hlt_ hHeld.1) hne9).trans hHeld.1, grown_trans hHeld.2 hgA hdB⟩) (fun hHeld2 => ?_)
    clear hK K hHeld
    have hHeld := hHeld2
    clear hHeld2
    try simp only [Act.put, List.setIfInBounds_toArray, List.set_cons_zero, List.set_cons_succ]
    refine wpAnyH_take (i := 8) (oi := { dst := some 4, op := Op.assign (Operand.tmp 26), type := 30, pos := "raw.go:93", after := #[{ on := 7, ground := Ground.data }, { on := 7, ground := Ground.chain }, { on := 0, ground := Ground.phase }, { on := 1, ground := Ground.phase }, { on := 2, ground := Ground.phase }, { on := 3, ground := Ground.phase }, { on := 4, ground := Ground.phase }, { on := 5, ground := Ground.phase }, { on := 6, ground := Ground.phase }, { on := 7, ground := Ground.phase }], guard := none }) (v := vA) rfl (by kernel_rfl) (by kernel_rfl) (by kernel_rfl) (fun _ _ _ h => h) (Or.inl ⟨by rfl, by intro w hS; go_simp⟩) hHeld ?_
    try simp only [Act.put, List.setIfInBounds_toArray, List.set_cons_zero, List.set_cons_succ]
    refine wpAnyH_done (by kernel_rfl) ?_ _
    refine NoPanic.normal ?_
    go_wp2
    go_ret
    refine ⟨_, rfl, (by rw [HL.out, ← List.append_assoc, ← List.append_assoc, ← List.append_assoc]; exact hOA), grown_of (grown_trans hf.2 hHeld.2 hdA), ?_⟩
    have hdD := new_trans (Nat.le_refl _) hdA (by rcases hdC with e | e; exact (show vA.ownBlock = v8.ownBlock ∨ ∃ q, vA.ownBlock = some q ∧ w0.heap.size ≤ q by rw [e]; rcases hdB with e2 | ⟨q, e2, hq⟩; exact Or.inl e2; exact Or.inr ⟨q, e2, Nat.le_trans hf.2.size hq⟩); exact Or.inr ⟨_, e, Nat.le_trans hf.2.size hs9⟩)
    rcases hdD with e | ⟨q, e, hq⟩
    · exact Or.inl e
    · exact Or.inr ⟨q, e, by omega⟩
end Go.Proofs.Ytcifbnldohmbnaa
