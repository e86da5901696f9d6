import Derived.Test.YtlhmhpkgdcdjkaaZh2
namespace Go.Proofs.Ytlhmhpkgdcdjkaa
set_option linter.unusedVariables false
set_option linter.unusedSimpArgs false
open Go.RowKit
attribute [local go_sem ↓] Go.wp_at_zero Go.wp_at_succ

theorem step_allocV {P : Program} {t : TypeId} {Z : List Value} (hz : ∀ (a : Act) (o : Oper) (w : World), o.op = .alloc t → (execOp a.eval o).run P w = .ok (.value (.pointer (some ⟨w.heap.size, 0, none⟩))) (w.alloc (.cells Z.toArray t)))
    {ops : Array Oper} {o : Oper} {a : Act} {w : World} {K : Act → World → Prop} {Q : Exit → Act → World → Prop} {E : Prop} (hw : Region.wanted o (yielded ops a.tmps) = true) (ho : o.op = .alloc t)
    (h : K (a.put o.dst (.pointer (some ⟨w.heap.size, 0, none⟩))) (w.alloc (.cells Z.toArray t))) : if Region.wanted o (yielded ops a.tmps) = true then Oper.wp P o a w K Q else E := by
  rw [if_pos hw]
  unfold Oper.wp
  rw [hz a o w ho]
  exact h
theorem step_sliceD {ops : Array Oper} {o : Oper} {a : Act} {w : World} {K : Act → World → Prop} {Q : Exit → Act → World → Prop} {E : Prop} (hw : Region.wanted o (yielded ops a.tmps) = true) (x : Operand) (ho : o.op = .buildSlice 24 1 #[(0, x)])
    (ks : List Value) (hk : ks.length = 32) (hx : a.eval x = .agg ks.toArray) (h : K (a.put o.dst (.slice (some ⟨w.heap.size, 0, none⟩) 1 1)) (w.alloc (.cells ks.toArray 43))) :
    if Region.wanted o (yielded ops a.tmps) = true then Oper.wp Try.prog o a w K Q else E := by
  rw [if_pos hw]
  unfold Oper.wp execOp
  simp only [ho, List.map_toArray, List.map_cons, List.map_nil, hx, Sem.run_bind, slice_dig ks hk w, Result.andThen_ok, Sem.run_pure]
  exact h
/-- append(own list of digests, one more that lies in a block of its own), in a region that draws its order. -/
theorem step_pushD {w : World} {ops : Array Oper} {o : Oper} {a : Act} {K : Act → World → Prop} {Q : Exit → Act → World → Prop} {E : Prop} (hgd : o.guard = none) (s x : Operand)
    (ho : o.op = .call { callee := .builtin .append, args := #[s, x], argTypes := #[24, 24] })
    (base : Nat) (v : Value) (ss : List (List Int)) (d : List Int) (hs : a.eval s = v) (hown : OwnD w base v ss) (b : Nat) (hb : w.rangeAt b 0 (ints .u8 d)) (hx : a.eval x = .slice (some ⟨b, 0, none⟩) 1 1) (hl : d.length = 32)
    (hlen : ss.length + 1 ≤ 4398046511104) (hbase : base ≤ w.heap.size)
    (h : ∀ v' w', OwnD w' base v' (ss ++ [d]) → w.grownBy w' v.ownBlock → K (a.put o.dst v') w') :
    if Region.wanted o (yielded ops a.tmps) = true then Oper.wp Try.prog o a w K Q else E := by
  have hw : Region.wanted o (yielded ops a.tmps) = true := by simp [Region.wanted, hgd]
  rw [if_pos hw]
  obtain ⟨i5, z, hi5, hz5, hc5, hs5, hy5⟩ := infoD
  obtain ⟨v', w', hr, q1, q2, _, q4⟩ := run_append_own_at (P := Try.prog) w base 24 o.type 43 i5 z 32 32 Try.underlying24 hi5 hz5 hs5 hy5 hc5 (by decide) v ss.length _ hown.2 ⟨b, 0, none⟩ 1 1 (ints .u8 d) (by rw [ints_len]; omega) (fun j u hu => by rw [Addr.add_mid]; exact hb j u hu) (ints_one _ _) (by unfold maxLen; omega) (by omega) hbase
  unfold Oper.wp execOp
  simp only [ho, resolve, invoke, builtin, Sem.run_bind, Sem.run_pure, Result.andThen_ok, List.map_toArray, List.map_cons, List.map_nil, hs, hx, hr]
  refine h v' w' ⟨fun x hx => ?_, ?_⟩ q2
  · rcases List.mem_append.1 hx with hx | hx
    · exact hown.1 x hx
    · rw [List.mem_singleton.1 hx]; exact hl
  · rw [List.length_append, List.length_singleton, List.flatten_append, List.flatten_singleton, show ints .u8 (ss.flatten ++ d) = ints .u8 ss.flatten ++ ints .u8 d by simp [ints]]
    exact q1
theorem BK.grown {w0 w w' : World} {L : List (Nat × List Value × Nat)} {row : Option Nat} (h : BK w0 w L) (hg : w.grownBy w' row) (hr : ∀ k, row = some k → w0.heap.size ≤ k ∧ ∀ x ∈ L, x.1 ≠ k) : BK w0 w' L :=
  ⟨h.1.trans (grown_keeps hg (fun k hk => (hr k hk).1) h.1.size), fun x hx => (hg.block x.1 (hlt (h.2 x hx)) (fun e => (hr x.1 e.symm).2 x hx rfl)).trans (h.2 x hx)⟩
theorem BK.setC {w0 w : World} {L : List (Nat × List Value × Nat)} {b t : Nat} {zs : List Value} (h : BK w0 w ((b, zs, t) :: L)) (hb : w0.heap.size ≤ b) (hL : ∀ x, x ∈ L → x.1 ≠ b) (j : Nat) (v : Value) : BK w0 (w.setCell ⟨b, j, none⟩ v) ((b, zs.set j v, t) :: L) := by
  rw [setCell_eq_setRow w b _ _ _ _ _ (h.row (.head _))]
  have := h.set hb hL (zs.set j v)
  rwa [← List.setIfInBounds_toArray] at this
theorem pfC_set {p : Pf} (ok : PfOk p) (v s s' : Value) : (pfC p v s).set 34 s' = pfC p v s' := by
  unfold pfC
  rw [List.set_append_right _ _ (by simp), List.set_append_right _ _ (by simp [ints_len, ok.bs])]
  simp [ints_len, ok.bs]
theorem own_ne {w : World} {base g : Nat} {v : Value} {zs : List Int} {cs : Array Value} {t : Nat} {fr : Nat × Nat} (h : Own w base v zs) (hg : w.heap[g]? = some (.cells cs t fr)) (ht : t ≠ 5) : ∀ k, v.ownBlock = some k → k ≠ g := fun k hk e => by
  obtain ⟨_, cur, hh⟩ := ownsRow_block h k hk
  subst e
  rw [hg] at hh
  simp only [Option.some.injEq, Obj.cells.injEq] at hh
  exact ht hh.2.1
theorem ownD_ne {w : World} {base g : Nat} {v : Value} {ss : List (List Int)} {cs : Array Value} {t : Nat} {fr : Nat × Nat} (h : OwnD w base v ss) (hg : w.heap[g]? = some (.cells cs t fr)) (ht : t ≠ 43) : ∀ k, v.ownBlock = some k → k ≠ g := fun k hk e => by
  obtain ⟨_, cur, hh⟩ := ownsRow_block h.2 k hk
  subst e
  rw [hg] at hh
  simp only [Option.some.injEq, Obj.cells.injEq] at hh
  exact ht hh.2.1
/-- Two own lists, of bytes and of digests, lie in two blocks. -/
theorem own_apart {w : World} {b1 b2 : Nat} {v u : Value} {zs : List Int} {ss : List (List Int)} (h : Own w b1 v zs) (g : OwnD w b2 u ss) : ∀ k, v.ownBlock = some k → u.ownBlock ≠ some k := fun k hk e => by
  obtain ⟨_, cur, hh⟩ := ownsRow_block h k hk
  exact ownD_ne g hh (by decide) k e rfl
theorem own_setC {w : World} {base : Nat} {v : Value} {zs : List Int} (h : Own w base v zs) (g j : Nat) (x : Value) (hg : ∀ k, v.ownBlock = some k → k ≠ g) : Own (w.setCell ⟨g, j, none⟩ x) base v zs := h.of_heap fun k hk => heap_setCell_other _ _ _ _ (hg k hk)
theorem ownD_setC {w : World} {base : Nat} {v : Value} {ss : List (List Int)} (h : OwnD w base v ss) (g j : Nat) (x : Value) (hg : ∀ k, v.ownBlock = some k → k ≠ g) : OwnD (w.setCell ⟨g, j, none⟩ x) base v ss := h.of_heap fun k hk => heap_setCell_other _ _ _ _ (hg k hk)
theorem own_grown {w w' : World} {base : Nat} {v : Value} {zs : List Int} {row : Option Nat} (h : Own w base v zs) (hg : w.grownBy w' row) (hr : ∀ k, v.ownBlock = some k → row ≠ some k) : Own w' base v zs := h.of_heap fun k hk => hg.block k (h.block k hk).2 (fun e => hr k hk e.symm)
set_option maxRecDepth 100000 in
set_option maxHeartbeats 8000000 in
theorem copyProof_any (w : World) (p : Pf) (ok : PfOk p) (s1 s2 : Option Addr) (c1 c2 : Nat) (hS : Src w s1 c1 p.vs) (hT : SrcD w s2 c2 p.ss) (hv : p.vs.length ≤ 140737488355000) (hm : p.ss.length ≤ 4398046511104) :
    Calls Try.prog 9 #[.agg (pfC p (.slice s1 p.vs.length c1) (.slice s2 p.ss.length c2)).toArray] w fun e w' => ∃ s3 c3 s4 c4, e = .returned (.agg (pfC p (.slice s3 p.vs.length c3) (.slice s4 p.ss.length c4)).toArray) ∧ Own w' w.heap.size (.slice s3 p.vs.length c3) p.vs ∧ OwnD w' w.heap.size (.slice s4 p.ss.length c4) p.ss ∧ Below w.heap.size w w' := by
  have AP := hid allocPf
  have d0 := ((BK.nil w).alloc (pfC p (.slice s1 p.vs.length c1) (.slice s2 p.ss.length c2)) 26).alloc (pfC pf0 (.slice none 0 0) (.slice none 0 0)) 26
  rw [show (w.alloc (.cells (pfC p (.slice s1 p.vs.length c1) (.slice s2 p.ss.length c2)).toArray 26)).heap.size = w.heap.size + 1 by simp] at d0
  replace d0 : BK w _ [(w.heap.size, pfC p (.slice s1 p.vs.length c1) (.slice s2 p.ss.length c2), 26), (w.heap.size + 1, pfC pf0 (.slice none 0 0) (.slice none 0 0), 26)] := ⟨d0.1, fun x hx => d0.2 x (by simp only [List.mem_cons, List.not_mem_nil, or_false] at hx ⊢; exact hx.symm)⟩
  have k0 := hid (pfC_f p (.slice s1 p.vs.length c1) (.slice s2 p.ss.length c2))
  have k1 := hid (pfC_v p (.slice s1 p.vs.length c1) (.slice s2 p.ss.length c2))
  have k34 := hid (pfC_s ok (.slice s1 p.vs.length c1) (.slice s2 p.ss.length c2))
  have kb := hid (pfC_b p (.slice s1 p.vs.length c1) (.slice s2 p.ss.length c2))
  have LZ := hid (show (pfC pf0 (.slice none 0 0) (.slice none 0 0)).length = 35 from rfl)
  have LF := hid (fun v s => pfC_len ok v s)
  have SF := hid (fun v s => show (Try.prog.info? 26).map (·.size) = some (pfC p v s).toArray.size by rw [Try.sizeP, List.size_toArray, pfC_len ok])
  have OF := hid (fun a b c d e f => pfC_one p (.slice a b c) (.slice d e f) rfl rfl)
  have PS := hid (fun v s s' => pfC_set ok v s s')
  have KS := hid (fun v s => pfC_s ok v s)
  have B3 := hid (fun s n c => built_pf3 p ok s n c)
  have LB := hid (show (Try.prog.info? 23).map (·.size) = some (ints .u8 p.bs).length by rw [Try.sizeA, ints_len, ok.bs])
  have KC := hid (fun w1 (h : Src w1 s1 c1 p.vs) => copyBytes_any w1 p.vs s1 c1 h hv)
  have DL := hid (fun j (hj : j < p.ss.length) => hT.dlen j hj)
  have G2 := hid hT
  have im : (p.ss.length : Int) ≤ 4398046511104 := by omega
  have hS0 := hid hS
  have hmm := hid hm
  clear hS hT hv
  generalize pfC p (.slice s1 p.vs.length c1) (.slice s2 p.ss.length c2) = C at *
  generalize pfC pf0 (.slice none 0 0) (.slice none 0 0) = Z at *
  generalize pfC p = PF at *
  generalize ints .u8 p.bs = IB at *
  generalize p.f = vf at *
  go_enter Try.func9, Try.ntmps9
  go_wp2_with (first | refine wpList_allocV AP.out rfl rfl ?_)
  have hz1 := d0.lt (.tail _ (.head _))
  generalize hw1 : (w.alloc (.cells C.toArray 26)).alloc (.cells Z.toArray 26) = w1 at *
  have hs1 : w.heap.size + 2 ≤ w1.heap.size := by rw [← hw1]; simp
  clear hw1
  refine wp_region_noPanic ?_
  refine wp_region_held_drew (S := (fun w' => BK w w' [(w.heap.size, C, 26), (w.heap.size + 1, Z, 26)])) (by kernel_rfl) d0.drew (fun hHeld => ?_)
  refine wpAnyH_take (i := 0) (oi := { dst := some 5, op := Op.fieldAddr 26 (Operand.tmp 1) 0, type := 0, pos := "law.go:279", after := #[], guard := none }) (v := .pointer (some ⟨w.heap.size, 0, none⟩)) rfl (by kernel_rfl) (by kernel_rfl) (by kernel_rfl) (fun _ _ _ h => h) (Or.inl ⟨by rfl, by intro w hS; go_simp⟩) hHeld ?_
  try simp only [Act.put, List.setIfInBounds_toArray, List.set_cons_zero, List.set_cons_succ]
  refine wpAnyH_take (i := 2) (oi := { dst := some 7, op := Op.fieldAddr 26 (Operand.tmp 1) 1, type := 0, pos := "law.go:279", after := #[], guard := none }) (v := .pointer (some ⟨w.heap.size, 1, none⟩)) rfl (by kernel_rfl) (by kernel_rfl) (by kernel_rfl) (fun _ _ _ h => h) (Or.inl ⟨by rfl, by intro w hS; go_simp⟩) hHeld ?_
  try simp only [Act.put, List.setIfInBounds_toArray, List.set_cons_zero, List.set_cons_succ]
  refine wpAnyH_take (i := 5) (oi := { dst := some 10, op := Op.fieldAddr 26 (Operand.tmp 1) 2, type := 0, pos := "law.go:279", after := #[], guard := none }) (v := .pointer (some ⟨w.heap.size, 2, none⟩)) rfl (by kernel_rfl) (by kernel_rfl) (by kernel_rfl) (fun _ _ _ h => h) (Or.inl ⟨by rfl, by intro w hS; go_simp⟩) hHeld ?_
  try simp only [Act.put, List.setIfInBounds_toArray, List.set_cons_zero, List.set_cons_succ]
  refine wpAnyH_take (i := 1) (oi := { dst := some 6, op := Op.load 4 (Operand.tmp 5), type := 4, pos := "law.go:279", after := #[{ on := 0, ground := Ground.data }], guard := none }) (v := .bool vf) rfl (by kernel_rfl) (by kernel_rfl) (by kernel_rfl) (fun _ _ _ h => h) (Or.inl ⟨by rfl, by intro w hS; have hc := hS.cell (.head _) k0.out; go_simp⟩) hHeld ?_
  try simp only [Act.put, List.setIfInBounds_toArray, List.set_cons_zero, List.set_cons_succ]
  refine wpAnyH_take (i := 3) (oi := { dst := some 8, op := Op.load 22 (Operand.tmp 7), type := 22, pos := "law.go:279", after := #[{ on := 2, ground := Ground.data }], guard := none }) (v := .slice s1 p.vs.length c1) rfl (by kernel_rfl) (by kernel_rfl) (by kernel_rfl) (fun _ _ _ h => h) (Or.inl ⟨by rfl, by intro w hS; have hc := hS.cell (.head _) k1.out; go_simp⟩) hHeld ?_
  try simp only [Act.put, List.setIfInBounds_toArray, List.set_cons_zero, List.set_cons_succ]
  refine wpAnyH_take (i := 6) (oi := { dst := some 11, op := Op.load 23 (Operand.tmp 10), type := 23, pos := "law.go:279", after := #[{ on := 5, ground := Ground.data }], guard := none }) (v := .agg (IB).toArray) rfl (by kernel_rfl) (by kernel_rfl) (by kernel_rfl) (fun _ _ _ h => h) (yieldsIf_load_mid (by rfl) 23 _ rfl w.heap.size (2) rfl (IB) _ (fun w hS => hS.rng (.head _) kb.out) Try.underlying23 rfl LB.out) hHeld ?_
  try simp only [Act.put, List.setIfInBounds_toArray, List.set_cons_zero, List.set_cons_succ]
  refine wpAnyH_ready (rs := [4, 8]) (by kernel_rfl) (by simp) ?_
  refine (AllReadyH.cons (o := { dst := some 9, op := Op.call { callee := Callee.value (Operand.func 14), args := #[Operand.tmp 8], argTypes := #[22] }, type := 22, pos := "law.go:279", after := #[{ on := 3, ground := Ground.data }], guard := none }) rfl (fun K hK => ?_) (AllReadyH.cons (o := { dst := some 3, op := Op.alloc 26, type := 0, pos := "law.go:279", after := #[], guard := none }) rfl (fun K hK => ?_) AllReadyH.nil))
  · skip
    go_simp
    go_at_call 14
    refine (KC.out _ (hS0.out.below hHeld.1 (Nat.le_refl _))).mono ?_
    rintro e w4 ⟨v4, rfl, hO4, hb4⟩
    obtain ⟨s4, c4, rfl, _, _⟩ := hO4.form
    have hO4 := own_lower hO4 (show w.heap.size ≤ _ by simp; omega)
    go_wp2_with fail
    refine hK.out _ _ (hHeld.call hb4) (fun hHeld2 => ?_)
    clear hK K hHeld
    have hHeld := hHeld2
    clear hHeld2
    try simp only [Act.put, List.setIfInBounds_toArray, List.set_cons_zero, List.set_cons_succ]
    refine wpAnyH_take (i := 7) (oi := { dst := some 12, op := Op.build 26 #[(0, Operand.tmp 6), (1, Operand.tmp 9), (2, Operand.tmp 11)], type := 26, pos := "law.go:279", after := #[{ on := 1, ground := Ground.data }, { on := 4, ground := Ground.data }, { on := 6, ground := Ground.data }], guard := none }) (v := .agg (PF (.slice s4 p.vs.length c4) (.slice none 0 0)).toArray) rfl (by kernel_rfl) (by kernel_rfl) (by kernel_rfl) (fun _ _ _ h => h) (yieldsIf_built (by rfl) 26 #[(0, Operand.tmp 6), (1, Operand.tmp 9), (2, Operand.tmp 11)] rfl _ rfl _ (B3.out _ _ _)) hHeld ?_
    try simp only [Act.put, List.setIfInBounds_toArray, List.set_cons_zero, List.set_cons_succ]
    refine wpAnyH_ready (rs := [8]) (by kernel_rfl) (by simp) ?_
    refine (AllReadyH.cons (o := { dst := some 3, op := Op.alloc 26, type := 0, pos := "law.go:279", after := #[], guard := none }) rfl (fun K hK => ?_) AllReadyH.nil)
    refine step_allocV AP.out (by rfl) (by rfl) ?_
    have g4 := hnew w4 (.cells Z.toArray 26)
    have hO4 := hO4.below ((Below.refl w4.heap.size w4).alloc (Nat.le_refl _) (.cells Z.toArray 26)) (Nat.le_refl _)
    refine hK.out _ _ (hHeld.other _) (fun hHeld2 => ?_)
    clear hK K hHeld
    have hHeld := hHeld2
    clear hHeld2
    try simp only [Act.put, List.setIfInBounds_toArray, List.set_cons_zero, List.set_cons_succ]
    refine wpAnyH_ready (rs := [9]) (by kernel_rfl) (by simp) ?_
    refine (AllReadyH.cons (o := { dst := none, op := Op.store 26 (Operand.tmp 3) (Operand.tmp 12), type := 0, pos := "law.go:279", after := #[{ on := 8, ground := Ground.data }, { on := 7, ground := Ground.data }, { on := 4, ground := Ground.chain }, { on := 0, ground := Ground.phase }, { on := 1, ground := Ground.phase }, { on := 2, ground := Ground.phase }, { on := 3, ground := Ground.phase }, { on := 4, ground := Ground.phase }, { on := 5, ground := Ground.phase }, { on := 6, ground := Ground.phase }, { on := 7, ground := Ground.phase }, { on := 8, ground := Ground.phase }], guard := none }) rfl (fun K hK => ?_) AllReadyH.nil)
    have d8 : BK w (w4.alloc (.cells Z.toArray 26)) [(w4.heap.size, Z, 26), (w.heap.size, C, 26), (w.heap.size + 1, Z, 26)] := ⟨hHeld.1, fun x hx => by rcases List.mem_cons.1 hx with rfl | hx; exact g4; exact hHeld.2 x hx⟩
    have hg8 : w.heap.size + 2 ≤ w4.heap.size := by have := hHeld.lt (.tail _ (.head _)); have := hb4.size; have : w1.drew.heap.size = w1.heap.size := rfl; omega
    have d9 := d8.set (by omega) (by intro x hx; simp only [List.mem_cons, List.not_mem_nil, or_false] at hx; rcases hx with rfl | rfl <;> simp <;> omega) (PF (.slice s4 p.vs.length c4) (.slice none 0 0))
    have hO9 := hO4.of_heap (fun k hk => setRow_other _ w4.heap.size k (PF (.slice s4 p.vs.length c4) (.slice none 0 0)).toArray (own_ne hO4 g4 (by decide) k hk))
    rw [if_pos (by rfl)]
    refine wp_store_row 26 _ _ rfl w4.heap.size (PF (.slice s4 p.vs.length c4) (.slice none 0 0)).toArray rfl rfl 26 _ g4 (SF.out _ _) (by rw [List.size_toArray, List.size_toArray, LZ.out, LF.out]) (all_oneCell_toArray (OF.out _ _ _ _ _ _)) ?_
    refine hK.out _ _ (d9.sub (fun x hx => .tail _ hx)) (fun hHeld2 => ?_)
    clear hK K hHeld
    have hHeld := hHeld2
    clear hHeld2
    try simp only [Act.put, List.setIfInBounds_toArray, List.set_cons_zero, List.set_cons_succ]
    refine wpAnyH_done (by kernel_rfl) ?_ _
    refine NoPanic.normal ?_
    clear d8 g4 hO4 hHeld
    generalize hgg : w4.heap.size = g at *
    clear hgg
    have hgw : w.heap.size ≤ g := by omega
    go_wp2
    go_loopw [4] (fun i wr => ∃ (k : Nat) (v3 : Value), k ≤ p.ss.length ∧ i = .int .i64 k ∧ BK w wr [(g, PF (.slice s4 p.vs.length c4) v3, 26), (w.heap.size, C, 26), (w.heap.size + 1, Z, 26)] ∧ OwnD wr w.heap.size v3 (p.ss.take k) ∧ Own wr w.heap.size (.slice s4 p.vs.length c4) p.vs) (fun i _ => p.ss.length - (intOf i).toNat)
    case atStart => exact ⟨0, .slice none 0 0, by omega, rfl, d9, OwnD.nil _ _, hO9⟩
    case round =>
      clear d9 hO9
      obtain ⟨k, v3, hk, rfl, d9, hQ, hO9⟩ := hrel
      have x34 := d9.cell (.tail _ (.head _)) k34.out
      by_cases hlt : k < p.ss.length
      · have i1 : (k : Int) < (p.ss.length : Int) := by omega
        have dl := DL.out k hlt
        obtain ⟨b2, o2, rfl, hl2, R2⟩ := G2.out.at (by omega)
        have r2 := R2 k hlt
        have SD := hid (show (Try.prog.info? 43).map (·.size) = some (ints .u8 (p.ss.getD k [])).length by rw [Try.sizeD, ints_len, dl])
        have L2 := hid (show (ints .u8 (p.ss.getD k [])).length = 32 by rw [ints_len, dl])
        have HT := hid (show p.ss.take (k + 1) = p.ss.take k ++ [p.ss.getD k []] by rw [List.take_succ_eq_append_getElem hlt, List.getD_eq_getElem?_getD, List.getElem?_eq_getElem hlt]; rfl)
        have HL := hid (show (p.ss.take k).length + 1 ≤ 4398046511104 by rw [List.length_take]; omega)
        have dl2 := hid dl
        obtain ⟨s3, c3, rfl, _, _⟩ := hQ.form
        have cq := d9.cell (.head _) (KS.out (.slice s4 p.vs.length c4) (.slice s3 (p.ss.take k).length c3))
        clear dl R2
        generalize p.ss.take k = TK at *
        generalize p.ss.getD k [] = dg at *
        generalize hmm : p.ss.length = m at *
        clear hmm
        have hdz := d9.1.size
        go_wp2
        refine wp_region_noPanic ?_
        refine wp_region_held_drew (S := (fun w' => BK w w' [(w.heap.size, C, 26), (w.heap.size + 1, Z, 26)])) (by kernel_rfl) (d9.sub (fun x hx => .tail _ hx)).drew (fun hHeld => ?_)
        refine wpAnyH_take (i := 0) (oi := { dst := some 20, op := Op.fieldAddr 26 (Operand.tmp 3) 3, type := 0, pos := "law.go:281", after := #[], guard := none }) (v := .pointer (some ⟨g, 34, none⟩)) rfl (by kernel_rfl) (by kernel_rfl) (by kernel_rfl) (fun _ _ _ h => h) (Or.inl ⟨by rfl, by intro w hS; go_simp⟩) hHeld ?_
        try simp only [Act.put, List.setIfInBounds_toArray, List.set_cons_zero, List.set_cons_succ]
        refine wpAnyH_take (i := 2) (oi := { dst := some 22, op := Op.fieldAddr 26 (Operand.tmp 1) 3, type := 0, pos := "law.go:281", after := #[], guard := none }) (v := .pointer (some ⟨w.heap.size, 34, none⟩)) rfl (by kernel_rfl) (by kernel_rfl) (by kernel_rfl) (fun _ _ _ h => h) (Or.inl ⟨by rfl, by intro w hS; go_simp⟩) hHeld ?_
        try simp only [Act.put, List.setIfInBounds_toArray, List.set_cons_zero, List.set_cons_succ]
        refine wpAnyH_take (i := 4) (oi := { dst := some 24, op := Op.move (Operand.tmp 4), type := 3, pos := "law.go:281", after := #[], guard := none }) (v := .int .i64 k) rfl (by kernel_rfl) (by kernel_rfl) (by kernel_rfl) (fun _ _ _ h => h) (Or.inl ⟨by rfl, by intro w hS; go_simp⟩) hHeld ?_
        try simp only [Act.put, List.setIfInBounds_toArray, List.set_cons_zero, List.set_cons_succ]
        refine wpAnyH_take (i := 3) (oi := { dst := some 23, op := Op.load 24 (Operand.tmp 22), type := 24, pos := "law.go:281", after := #[{ on := 2, ground := Ground.data }], guard := none }) (v := .slice (some ⟨b2, o2, none⟩) m c2) rfl (by kernel_rfl) (by kernel_rfl) (by kernel_rfl) (fun _ _ _ h => h) (Or.inl ⟨by rfl, by intro w hS; have hc := hS.cell (.head _) k34.out; go_simp⟩) hHeld ?_
        try simp only [Act.put, List.setIfInBounds_toArray, List.set_cons_zero, List.set_cons_succ]
        refine wpAnyH_take (i := 5) (oi := { dst := some 25, op := Op.indexAddr 24 (Operand.tmp 23) (Operand.tmp 24), type := 0, pos := "law.go:281", after := #[{ on := 3, ground := Ground.data }, { on := 4, ground := Ground.data }], guard := none }) (v := .pointer (some ⟨b2, o2 + k * 32, none⟩)) rfl (by kernel_rfl) (by kernel_rfl) (by kernel_rfl) (fun _ _ _ h => h) (Or.inl ⟨by rfl, by intro w hS; go_simp⟩) hHeld ?_
        try simp only [Act.put, List.setIfInBounds_toArray, List.set_cons_zero, List.set_cons_succ]
        refine wpAnyH_take (i := 6) (oi := { dst := some 26, op := Op.load 43 (Operand.tmp 25), type := 43, pos := "law.go:281", after := #[{ on := 5, ground := Ground.data }], guard := none }) (v := .agg (ints .u8 dg).toArray) rfl (by kernel_rfl) (by kernel_rfl) (by kernel_rfl) (fun _ _ _ h => h) (yieldsIf_load_mid (by rfl) 43 _ rfl b2 (o2 + k * 32) rfl (ints .u8 dg) _ (fun w hS => rng_below r2 hS.1 hl2) Try.underlying43 rfl SD.out) hHeld ?_
        try simp only [Act.put, List.setIfInBounds_toArray, List.set_cons_zero, List.set_cons_succ]
        refine wpAnyH_ready (rs := [1, 7]) (by kernel_rfl) (by simp) ?_
        refine (AllReadyH.cons (o := { dst := some 21, op := Op.load 24 (Operand.tmp 20), type := 24, pos := "law.go:281", after := #[{ on := 0, ground := Ground.data }], guard := none }) rfl (fun K hK => ?_) (AllReadyH.cons (o := { dst := some 27, op := Op.buildSlice 24 1 #[(0, Operand.tmp 26)], type := 24, pos := "law.go:281", after := #[{ on := 6, ground := Ground.data }], guard := none }) rfl (fun K hK => ?_) AllReadyH.nil))
        · skip
          go_simp
          refine hK.out _ _ (hHeld) (fun hHeld2 => ?_)
          clear hK K hHeld
          have hHeld := hHeld2
          clear hHeld2
          try simp only [Act.put, List.setIfInBounds_toArray, List.set_cons_zero, List.set_cons_succ]
          refine wpAnyH_ready (rs := [7]) (by kernel_rfl) (by simp) ?_
          refine (AllReadyH.cons (o := { dst := some 27, op := Op.buildSlice 24 1 #[(0, Operand.tmp 26)], type := 24, pos := "law.go:281", after := #[{ on := 6, ground := Ground.data }], guard := none }) rfl (fun K hK => ?_) AllReadyH.nil)
          refine step_sliceD (by rfl) (.tmp 26) (by rfl) (ints .u8 dg) L2.out (by rfl) ?_
          refine hK.out _ _ (hHeld.other _) (fun hHeld2 => ?_)
          clear hK K hHeld
          have hHeld := hHeld2
          clear hHeld2
          try simp only [Act.put, List.setIfInBounds_toArray, List.set_cons_zero, List.set_cons_succ]
          refine wpAnyH_ready (rs := [8]) (by kernel_rfl) (by simp) ?_
          refine (AllReadyH.cons (o := { dst := some 28, op := Op.call { callee := Callee.builtin Builtin.append, args := #[Operand.tmp 21, Operand.tmp 27], argTypes := #[24, 24] }, type := 24, pos := "law.go:281", after := #[{ on := 1, ground := Ground.data }, { on := 7, ground := Ground.data }], guard := none }) rfl (fun K hK => ?_) AllReadyH.nil)
          have d10 := d9.drew.other (.cells (ints .u8 dg).toArray 43)
          have hQ10 : OwnD (wr.drew.alloc (.cells (ints .u8 dg).toArray 43)) w.heap.size (.slice s3 TK.length c3) TK := hQ.below ((Below.refl wr.heap.size wr).drew.alloc (Nat.le_refl _) _) (Nat.le_refl _)
          have hO10 : Own (wr.drew.alloc (.cells (ints .u8 dg).toArray 43)) w.heap.size (.slice s4 p.vs.length c4) p.vs := hO9.below ((Below.refl wr.heap.size wr).drew.alloc (Nat.le_refl _) _) (Nat.le_refl _)
          refine step_pushD rfl (.tmp 21) (.tmp 27) rfl w.heap.size _ TK dg rfl hQ10 wr.heap.size (rng (hnew wr.drew _)) rfl dl2.out HL.out d10.1.size ?_
          intro v11 w11 hQ11 hg11
          obtain ⟨s11, c11, e11, _, _⟩ := hQ11.form
          rw [List.length_append, List.length_singleton] at e11
          subst e11
          have d11 := d10.grown hg11 (fun k hk => ⟨(hQ10.block k hk).1, fun x hx => by simp only [List.mem_cons, List.not_mem_nil, or_false] at hx; rcases hx with rfl | rfl | rfl <;> exact fun e => ownD_ne (t := 26) hQ10 (d10.2 _ (by simp)) (by decide) k hk e.symm⟩)
          have hO11 := own_grown hO10 hg11 (own_apart hO10 hQ10)
          have c11g := d11.cell (.head _) (KS.out (.slice s4 p.vs.length c4) (.slice s3 TK.length c3))
          have f11 : w11.frozen? ⟨g, 34, none⟩ = false := frozen_of_row _ _ _ _ _ (d11.row (.head _))
          clear d10 hQ10 hO10 hg11
          refine hK.out _ _ (d11.sub (fun x hx => .tail _ hx)) (fun hHeld2 => ?_)
          clear hK K hHeld
          have hHeld := hHeld2
          clear hHeld2
          try simp only [Act.put, List.setIfInBounds_toArray, List.set_cons_zero, List.set_cons_succ]
          refine wpAnyH_take (i := 9) (oi := { dst := some 29, op := Op.fieldAddr 26 (Operand.tmp 3) 3, type := 0, pos := "law.go:281", after := #[{ on := 0, ground := Ground.phase }, { on := 1, ground := Ground.phase }, { on := 2, ground := Ground.phase }, { on := 3, ground := Ground.phase }, { on := 4, ground := Ground.phase }, { on := 5, ground := Ground.phase }, { on := 6, ground := Ground.phase }, { on := 7, ground := Ground.phase }, { on := 8, ground := Ground.phase }], guard := none }) (v := .pointer (some ⟨g, 34, none⟩)) rfl (by kernel_rfl) (by kernel_rfl) (by kernel_rfl) (fun _ _ _ h => h) (Or.inl ⟨by rfl, by intro w hS; go_simp⟩) hHeld ?_
          try simp only [Act.put, List.setIfInBounds_toArray, List.set_cons_zero, List.set_cons_succ]
          refine wpAnyH_ready (rs := [10]) (by kernel_rfl) (by simp) ?_
          refine (AllReadyH.cons (o := { dst := none, op := Op.store 24 (Operand.tmp 29) (Operand.tmp 28), type := 0, pos := "law.go:281", after := #[{ on := 9, ground := Ground.data }, { on := 8, ground := Ground.data }, { on := 8, ground := Ground.chain }, { on := 0, ground := Ground.phase }, { on := 1, ground := Ground.phase }, { on := 2, ground := Ground.phase }, { on := 3, ground := Ground.phase }, { on := 4, ground := Ground.phase }, { on := 5, ground := Ground.phase }, { on := 6, ground := Ground.phase }, { on := 7, ground := Ground.phase }, { on := 8, ground := Ground.phase }], guard := none }) rfl (fun K hK => ?_) AllReadyH.nil)
          have d12 := d11.setC hgw (by intro x hx; simp only [List.mem_cons, List.not_mem_nil, or_false] at hx; rcases hx with rfl | rfl <;> simp <;> omega) 34 (.slice s11 (TK.length + 1) c11)
          rw [PS.out] at d12
          have hQ12 := ownD_setC hQ11 g 34 (.slice s11 (TK.length + 1) c11) (ownD_ne hQ11 (d11.row (.head _)) (by decide))
          have hO12 := own_setC hO11 g 34 (.slice s11 (TK.length + 1) c11) (own_ne hO11 (d11.row (.head _)) (by decide))
          go_simp
          refine hK.out _ _ (d12.sub (fun x hx => .tail _ hx)) (fun hHeld2 => ?_)
          clear hK K hHeld
          have hHeld := hHeld2
          clear hHeld2
          try simp only [Act.put, List.setIfInBounds_toArray, List.set_cons_zero, List.set_cons_succ]
          refine wpAnyH_done (by kernel_rfl) ?_ _
          refine NoPanic.normal ?_
          clear d11 hQ11 hO11 c11g f11 cq x34
          go_wp2
          go_roundw
          case rel => exact ⟨k + 1, _, by omega, by go_num, d12, by rw [HT.out]; exact hQ12, hO12⟩
          case measure => simp [intOf]; omega
        · skip
          refine step_sliceD (by rfl) (.tmp 26) (by rfl) (ints .u8 dg) L2.out (by rfl) ?_
          refine hK.out _ _ (hHeld.other _) (fun hHeld2 => ?_)
          clear hK K hHeld
          have hHeld := hHeld2
          clear hHeld2
          try simp only [Act.put, List.setIfInBounds_toArray, List.set_cons_zero, List.set_cons_succ]
          refine wpAnyH_ready (rs := [1]) (by kernel_rfl) (by simp) ?_
          refine (AllReadyH.cons (o := { dst := some 21, op := Op.load 24 (Operand.tmp 20), type := 24, pos := "law.go:281", after := #[{ on := 0, ground := Ground.data }], guard := none }) rfl (fun K hK => ?_) AllReadyH.nil)
          have cq : (wr.drew.alloc (.cells (ints .u8 dg).toArray 43)).cell? ⟨g, 34, none⟩ = some (.slice s3 TK.length c3) := (((Below.refl wr.heap.size wr).drew.alloc (Nat.le_refl _) (.cells (ints .u8 dg).toArray 43)).cell (p := ⟨g, 34, none⟩) (d9.lt (.head _))).trans cq
          have cq2 : (wr.alloc (.cells (ints .u8 dg).toArray 43)).cell? ⟨g, 34, none⟩ = some (.slice s3 TK.length c3) := cq
          go_simp
          refine hK.out _ _ (hHeld) (fun hHeld2 => ?_)
          clear hK K hHeld
          have hHeld := hHeld2
          clear hHeld2
          try simp only [Act.put, List.setIfInBounds_toArray, List.set_cons_zero, List.set_cons_succ]
          refine wpAnyH_ready (rs := [8]) (by kernel_rfl) (by simp) ?_
          refine (AllReadyH.cons (o := { dst := some 28, op := Op.call { callee := Callee.builtin Builtin.append, args := #[Operand.tmp 21, Operand.tmp 27], argTypes := #[24, 24] }, type := 24, pos := "law.go:281", after := #[{ on := 1, ground := Ground.data }, { on := 7, ground := Ground.data }], guard := none }) rfl (fun K hK => ?_) AllReadyH.nil)
          have d10 := d9.drew.other (.cells (ints .u8 dg).toArray 43)
          have hQ10 : OwnD (wr.drew.alloc (.cells (ints .u8 dg).toArray 43)) w.heap.size (.slice s3 TK.length c3) TK := hQ.below ((Below.refl wr.heap.size wr).drew.alloc (Nat.le_refl _) _) (Nat.le_refl _)
          have hO10 : Own (wr.drew.alloc (.cells (ints .u8 dg).toArray 43)) w.heap.size (.slice s4 p.vs.length c4) p.vs := hO9.below ((Below.refl wr.heap.size wr).drew.alloc (Nat.le_refl _) _) (Nat.le_refl _)
          refine step_pushD rfl (.tmp 21) (.tmp 27) rfl w.heap.size _ TK dg rfl hQ10 wr.heap.size (rng (hnew wr.drew _)) rfl dl2.out HL.out d10.1.size ?_
          intro v11 w11 hQ11 hg11
          obtain ⟨s11, c11, e11, _, _⟩ := hQ11.form
          rw [List.length_append, List.length_singleton] at e11
          subst e11
          have d11 := d10.grown hg11 (fun k hk => ⟨(hQ10.block k hk).1, fun x hx => by simp only [List.mem_cons, List.not_mem_nil, or_false] at hx; rcases hx with rfl | rfl | rfl <;> exact fun e => ownD_ne (t := 26) hQ10 (d10.2 _ (by simp)) (by decide) k hk e.symm⟩)
          have hO11 := own_grown hO10 hg11 (own_apart hO10 hQ10)
          have c11g := d11.cell (.head _) (KS.out (.slice s4 p.vs.length c4) (.slice s3 TK.length c3))
          have f11 : w11.frozen? ⟨g, 34, none⟩ = false := frozen_of_row _ _ _ _ _ (d11.row (.head _))
          clear d10 hQ10 hO10 hg11
          refine hK.out _ _ (d11.sub (fun x hx => .tail _ hx)) (fun hHeld2 => ?_)
          clear hK K hHeld
          have hHeld := hHeld2
          clear hHeld2
          try simp only [Act.put, List.setIfInBounds_toArray, List.set_cons_zero, List.set_cons_succ]
          refine wpAnyH_take (i := 9) (oi := { dst := some 29, op := Op.fieldAddr 26 (Operand.tmp 3) 3, type := 0, pos := "law.go:281", after := #[{ on := 0, ground := Ground.phase }, { on := 1, ground := Ground.phase }, { on := 2, ground := Ground.phase }, { on := 3, ground := Ground.phase }, { on := 4, ground := Ground.phase }, { on := 5, ground := Ground.phase }, { on := 6, ground := Ground.phase }, { on := 7, ground := Ground.phase }, { on := 8, ground := Ground.phase }], guard := none }) (v := .pointer (some ⟨g, 34, none⟩)) rfl (by kernel_rfl) (by kernel_rfl) (by kernel_rfl) (fun _ _ _ h => h) (Or.inl ⟨by rfl, by intro w hS; go_simp⟩) hHeld ?_
          try simp only [Act.put, List.setIfInBounds_toArray, List.set_cons_zero, List.set_cons_succ]
          refine wpAnyH_ready (rs := [10]) (by kernel_rfl) (by simp) ?_
          refine (AllReadyH.cons (o := { dst := none, op := Op.store 24 (Operand.tmp 29) (Operand.tmp 28), type := 0, pos := "law.go:281", after := #[{ on := 9, ground := Ground.data }, { on := 8, ground := Ground.data }, { on := 8, ground := Ground.chain }, { on := 0, ground := Ground.phase }, { on := 1, ground := Ground.phase }, { on := 2, ground := Ground.phase }, { on := 3, ground := Ground.phase }, { on := 4, ground := Ground.phase }, { on := 5, ground := Ground.phase }, { on := 6, ground := Ground.phase }, { on := 7, ground := Ground.phase }, { on := 8, ground := Ground.phase }], guard := none }) rfl (fun K hK => ?_) AllReadyH.nil)
          have d12 := d11.setC hgw (by intro x hx; simp only [List.mem_cons, List.not_mem_nil, or_false] at hx; rcases hx with rfl | rfl <;> simp <;> omega) 34 (.slice s11 (TK.length + 1) c11)
          rw [PS.out] at d12
          have hQ12 := ownD_setC hQ11 g 34 (.slice s11 (TK.length + 1) c11) (ownD_ne hQ11 (d11.row (.head _)) (by decide))
          have hO12 := own_setC hO11 g 34 (.slice s11 (TK.length + 1) c11) (own_ne hO11 (d11.row (.head _)) (by decide))
          go_simp
          refine hK.out _ _ (d12.sub (fun x hx => .tail _ hx)) (fun hHeld2 => ?_)
          clear hK K hHeld
          have hHeld := hHeld2
          clear hHeld2
          try simp only [Act.put, List.setIfInBounds_toArray, List.set_cons_zero, List.set_cons_succ]
          refine wpAnyH_done (by kernel_rfl) ?_ _
          refine NoPanic.normal ?_
          clear d11 hQ11 hO11 c11g f11 cq x34
          go_wp2
          go_roundw
          case rel => exact ⟨k + 1, _, by omega, by go_num, d12, by rw [HT.out]; exact hQ12, hO12⟩
          case measure => simp [intOf]; omega
      · obtain rfl : k = p.ss.length := by omega
        rw [List.take_length] at hQ
        obtain ⟨s3, c3, rfl, _, _⟩ := hQ.form
        have rg := d9.row (.head _)
        have rz := d9.row (.tail _ (.tail _ (.head _)))
        go_wp2_with (first
          | refine wpList_load_row_w (by rfl) 26 _ (by rfl) _ (by rfl) 26 _ _ _ rg Try.underlying26 rfl (SF.out _ _) ?_
          | refine wpList_store_row rfl 26 _ _ (by rfl) (w.heap.size + 1) (PF (.slice s4 p.vs.length c4) (.slice s3 p.ss.length c3)).toArray (by rfl) (by rfl) 26 _ rz (SF.out _ _) (by rw [List.size_toArray, List.size_toArray, LZ.out, LF.out]) (all_oneCell_toArray (OF.out _ _ _ _ _ _)) ?_)
        exact bodyPost_ret (v := .agg (PF (.slice s4 p.vs.length c4) (.slice s3 p.ss.length c3)).toArray) (results_cell_row Try.results9 _ _ (w.heap.size + 1) 26 _ _ _ rfl (setRow_heap _ _ _ _ _ _ rz) Try.underlying26 rfl (SF.out _ _)) rfl ⟨s4, c4, s3, c3, rfl,
          hO9.of_heap (fun k hk => setRow_other _ _ _ _ (own_ne hO9 rz (by decide) k hk)), hQ.of_heap (fun k hk => setRow_other _ _ _ _ (ownD_ne hQ rz (by decide) k hk)), below_setRow d9.1 (by omega) _⟩
  · skip
    refine step_allocV AP.out (by rfl) (by rfl) ?_
    refine hK.out _ _ (hHeld.other _) (fun hHeld2 => ?_)
    clear hK K hHeld
    have hHeld := hHeld2
    clear hHeld2
    try simp only [Act.put, List.setIfInBounds_toArray, List.set_cons_zero, List.set_cons_succ]
    refine wpAnyH_ready (rs := [4]) (by kernel_rfl) (by simp) ?_
    refine (AllReadyH.cons (o := { dst := some 9, op := Op.call { callee := Callee.value (Operand.func 14), args := #[Operand.tmp 8], argTypes := #[22] }, type := 22, pos := "law.go:279", after := #[{ on := 3, ground := Ground.data }], guard := none }) rfl (fun K hK => ?_) AllReadyH.nil)
    go_simp
    go_at_call 14
    refine (KC.out _ (hS0.out.below hHeld.1 (Nat.le_refl _))).mono ?_
    rintro e w4 ⟨v4, rfl, hO4, hb4⟩
    obtain ⟨s4, c4, rfl, _, _⟩ := hO4.form
    have g4 := hbel hb4 (hnew w1.drew (.cells Z.toArray 26)) (by simp)
    have hO4 := own_lower hO4 (show w.heap.size ≤ _ by simp; omega)
    go_wp2_with fail
    refine hK.out _ _ (hHeld.call hb4) (fun hHeld2 => ?_)
    clear hK K hHeld
    have hHeld := hHeld2
    clear hHeld2
    try simp only [Act.put, List.setIfInBounds_toArray, List.set_cons_zero, List.set_cons_succ]
    refine wpAnyH_take (i := 7) (oi := { dst := some 12, op := Op.build 26 #[(0, Operand.tmp 6), (1, Operand.tmp 9), (2, Operand.tmp 11)], type := 26, pos := "law.go:279", after := #[{ on := 1, ground := Ground.data }, { on := 4, ground := Ground.data }, { on := 6, ground := Ground.data }], guard := none }) (v := .agg (PF (.slice s4 p.vs.length c4) (.slice none 0 0)).toArray) rfl (by kernel_rfl) (by kernel_rfl) (by kernel_rfl) (fun _ _ _ h => h) (yieldsIf_built (by rfl) 26 #[(0, Operand.tmp 6), (1, Operand.tmp 9), (2, Operand.tmp 11)] rfl _ rfl _ (B3.out _ _ _)) hHeld ?_
    try simp only [Act.put, List.setIfInBounds_toArray, List.set_cons_zero, List.set_cons_succ]
    refine wpAnyH_ready (rs := [9]) (by kernel_rfl) (by simp) ?_
    refine (AllReadyH.cons (o := { dst := none, op := Op.store 26 (Operand.tmp 3) (Operand.tmp 12), type := 0, pos := "law.go:279", after := #[{ on := 8, ground := Ground.data }, { on := 7, ground := Ground.data }, { on := 4, ground := Ground.chain }, { on := 0, ground := Ground.phase }, { on := 1, ground := Ground.phase }, { on := 2, ground := Ground.phase }, { on := 3, ground := Ground.phase }, { on := 4, ground := Ground.phase }, { on := 5, ground := Ground.phase }, { on := 6, ground := Ground.phase }, { on := 7, ground := Ground.phase }, { on := 8, ground := Ground.phase }], guard := none }) rfl (fun K hK => ?_) AllReadyH.nil)
    have d8 : BK w w4 [(w1.heap.size, Z, 26), (w.heap.size, C, 26), (w.heap.size + 1, Z, 26)] := ⟨hHeld.1, fun x hx => by rcases List.mem_cons.1 hx with rfl | hx; exact g4; exact hHeld.2 x hx⟩
    have hg8 : w.heap.size + 2 ≤ w1.heap.size := by have := hHeld.lt (.tail _ (.head _)); omega
    have d9 := d8.set (by omega) (by intro x hx; simp only [List.mem_cons, List.not_mem_nil, or_false] at hx; rcases hx with rfl | rfl <;> simp <;> omega) (PF (.slice s4 p.vs.length c4) (.slice none 0 0))
    have hO9 := hO4.of_heap (fun k hk => setRow_other _ w1.heap.size k (PF (.slice s4 p.vs.length c4) (.slice none 0 0)).toArray (own_ne hO4 g4 (by decide) k hk))
    rw [if_pos (by rfl)]
    refine wp_store_row 26 _ _ rfl w1.heap.size (PF (.slice s4 p.vs.length c4) (.slice none 0 0)).toArray rfl rfl 26 _ g4 (SF.out _ _) (by rw [List.size_toArray, List.size_toArray, LZ.out, LF.out]) (all_oneCell_toArray (OF.out _ _ _ _ _ _)) ?_
    refine hK.out _ _ (d9.sub (fun x hx => .tail _ hx)) (fun hHeld2 => ?_)
    clear hK K hHeld
    have hHeld := hHeld2
    clear hHeld2
    try simp only [Act.put, List.setIfInBounds_toArray, List.set_cons_zero, List.set_cons_succ]
    refine wpAnyH_done (by kernel_rfl) ?_ _
    refine NoPanic.normal ?_
    clear d8 g4 hO4 hHeld
    generalize hgg : w1.heap.size = g at *
    clear hgg
    have hgw : w.heap.size ≤ g := by omega
    go_wp2
    go_loopw [4] (fun i wr => ∃ (k : Nat) (v3 : Value), k ≤ p.ss.length ∧ i = .int .i64 k ∧ BK w wr [(g, PF (.slice s4 p.vs.length c4) v3, 26), (w.heap.size, C, 26), (w.heap.size + 1, Z, 26)] ∧ OwnD wr w.heap.size v3 (p.ss.take k) ∧ Own wr w.heap.size (.slice s4 p.vs.length c4) p.vs) (fun i _ => p.ss.length - (intOf i).toNat)
    case atStart => exact ⟨0, .slice none 0 0, by omega, rfl, d9, OwnD.nil _ _, hO9⟩
    case round =>
      clear d9 hO9
      obtain ⟨k, v3, hk, rfl, d9, hQ, hO9⟩ := hrel
      have x34 := d9.cell (.tail _ (.head _)) k34.out
      by_cases hlt : k < p.ss.length
      · have i1 : (k : Int) < (p.ss.length : Int) := by omega
        have dl := DL.out k hlt
        obtain ⟨b2, o2, rfl, hl2, R2⟩ := G2.out.at (by omega)
        have r2 := R2 k hlt
        have SD := hid (show (Try.prog.info? 43).map (·.size) = some (ints .u8 (p.ss.getD k [])).length by rw [Try.sizeD, ints_len, dl])
        have L2 := hid (show (ints .u8 (p.ss.getD k [])).length = 32 by rw [ints_len, dl])
        have HT := hid (show p.ss.take (k + 1) = p.ss.take k ++ [p.ss.getD k []] by rw [List.take_succ_eq_append_getElem hlt, List.getD_eq_getElem?_getD, List.getElem?_eq_getElem hlt]; rfl)
        have HL := hid (show (p.ss.take k).length + 1 ≤ 4398046511104 by rw [List.length_take]; omega)
        have dl2 := hid dl
        obtain ⟨s3, c3, rfl, _, _⟩ := hQ.form
        have cq := d9.cell (.head _) (KS.out (.slice s4 p.vs.length c4) (.slice s3 (p.ss.take k).length c3))
        clear dl R2
        generalize p.ss.take k = TK at *
        generalize p.ss.getD k [] = dg at *
        generalize hmm : p.ss.length = m at *
        clear hmm
        have hdz := d9.1.size
        go_wp2
        refine wp_region_noPanic ?_
        refine wp_region_held_drew (S := (fun w' => BK w w' [(w.heap.size, C, 26), (w.heap.size + 1, Z, 26)])) (by kernel_rfl) (d9.sub (fun x hx => .tail _ hx)).drew (fun hHeld => ?_)
        refine wpAnyH_take (i := 0) (oi := { dst := some 20, op := Op.fieldAddr 26 (Operand.tmp 3) 3, type := 0, pos := "law.go:281", after := #[], guard := none }) (v := .pointer (some ⟨g, 34, none⟩)) rfl (by kernel_rfl) (by kernel_rfl) (by kernel_rfl) (fun _ _ _ h => h) (Or.inl ⟨by rfl, by intro w hS; go_simp⟩) hHeld ?_
        try simp only [Act.put, List.setIfInBounds_toArray, List.set_cons_zero, List.set_cons_succ]
        refine wpAnyH_take (i := 2) (oi := { dst := some 22, op := Op.fieldAddr 26 (Operand.tmp 1) 3, type := 0, pos := "law.go:281", after := #[], guard := none }) (v := .pointer (some ⟨w.heap.size, 34, none⟩)) rfl (by kernel_rfl) (by kernel_rfl) (by kernel_rfl) (fun _ _ _ h => h) (Or.inl ⟨by rfl, by intro w hS; go_simp⟩) hHeld ?_
        try simp only [Act.put, List.setIfInBounds_toArray, List.set_cons_zero, List.set_cons_succ]
        refine wpAnyH_take (i := 4) (oi := { dst := some 24, op := Op.move (Operand.tmp 4), type := 3, pos := "law.go:281", after := #[], guard := none }) (v := .int .i64 k) rfl (by kernel_rfl) (by kernel_rfl) (by kernel_rfl) (fun _ _ _ h => h) (Or.inl ⟨by rfl, by intro w hS; go_simp⟩) hHeld ?_
        try simp only [Act.put, List.setIfInBounds_toArray, List.set_cons_zero, List.set_cons_succ]
        refine wpAnyH_take (i := 3) (oi := { dst := some 23, op := Op.load 24 (Operand.tmp 22), type := 24, pos := "law.go:281", after := #[{ on := 2, ground := Ground.data }], guard := none }) (v := .slice (some ⟨b2, o2, none⟩) m c2) rfl (by kernel_rfl) (by kernel_rfl) (by kernel_rfl) (fun _ _ _ h => h) (Or.inl ⟨by rfl, by intro w hS; have hc := hS.cell (.head _) k34.out; go_simp⟩) hHeld ?_
        try simp only [Act.put, List.setIfInBounds_toArray, List.set_cons_zero, List.set_cons_succ]
        refine wpAnyH_take (i := 5) (oi := { dst := some 25, op := Op.indexAddr 24 (Operand.tmp 23) (Operand.tmp 24), type := 0, pos := "law.go:281", after := #[{ on := 3, ground := Ground.data }, { on := 4, ground := Ground.data }], guard := none }) (v := .pointer (some ⟨b2, o2 + k * 32, none⟩)) rfl (by kernel_rfl) (by kernel_rfl) (by kernel_rfl) (fun _ _ _ h => h) (Or.inl ⟨by rfl, by intro w hS; go_simp⟩) hHeld ?_
        try simp only [Act.put, List.setIfInBounds_toArray, List.set_cons_zero, List.set_cons_succ]
        refine wpAnyH_take (i := 6) (oi := { dst := some 26, op := Op.load 43 (Operand.tmp 25), type := 43, pos := "law.go:281", after := #[{ on := 5, ground := Ground.data }], guard := none }) (v := .agg (ints .u8 dg).toArray) rfl (by kernel_rfl) (by kernel_rfl) (by kernel_rfl) (fun _ _ _ h => h) (yieldsIf_load_mid (by rfl) 43 _ rfl b2 (o2 + k * 32) rfl (ints .u8 dg) _ (fun w hS => rng_below r2 hS.1 hl2) Try.underlying43 rfl SD.out) hHeld ?_
        try simp only [Act.put, List.setIfInBounds_toArray, List.set_cons_zero, List.set_cons_succ]
        refine wpAnyH_ready (rs := [1, 7]) (by kernel_rfl) (by simp) ?_
        refine (AllReadyH.cons (o := { dst := some 21, op := Op.load 24 (Operand.tmp 20), type := 24, pos := "law.go:281", after := #[{ on := 0, ground := Ground.data }], guard := none }) rfl (fun K hK => ?_) (AllReadyH.cons (o := { dst := some 27, op := Op.buildSlice 24 1 #[(0, Operand.tmp 26)], type := 24, pos := "law.go:281", after := #[{ on := 6, ground := Ground.data }], guard := none }) rfl (fun K hK => ?_) AllReadyH.nil))
        · skip
          go_simp
          refine hK.out _ _ (hHeld) (fun hHeld2 => ?_)
          clear hK K hHeld
          have hHeld := hHeld2
          clear hHeld2
          try simp only [Act.put, List.setIfInBounds_toArray, List.set_cons_zero, List.set_cons_succ]
          refine wpAnyH_ready (rs := [7]) (by kernel_rfl) (by simp) ?_
          refine (AllReadyH.cons (o := { dst := some 27, op := Op.buildSlice 24 1 #[(0, Operand.tmp 26)], type := 24, pos := "law.go:281", after := #[{ on := 6, ground := Ground.data }], guard := none }) rfl (fun K hK => ?_) AllReadyH.nil)
          refine step_sliceD (by rfl) (.tmp 26) (by rfl) (ints .u8 dg) L2.out (by rfl) ?_
          refine hK.out _ _ (hHeld.other _) (fun hHeld2 => ?_)
          clear hK K hHeld
          have hHeld := hHeld2
          clear hHeld2
          try simp only [Act.put, List.setIfInBounds_toArray, List.set_cons_zero, List.set_cons_succ]
          refine wpAnyH_ready (rs := [8]) (by kernel_rfl) (by simp) ?_
          refine (AllReadyH.cons (o := { dst := some 28, op := Op.call { callee := Callee.builtin Builtin.append, args := #[Operand.tmp 21, Operand.tmp 27], argTypes := #[24, 24] }, type := 24, pos := "law.go:281", after := #[{ on := 1, ground := Ground.data }, { on := 7, ground := Ground.data }], guard := none }) rfl (fun K hK => ?_) AllReadyH.nil)
          have d10 := d9.drew.other (.cells (ints .u8 dg).toArray 43)
          have hQ10 : OwnD (wr.drew.alloc (.cells (ints .u8 dg).toArray 43)) w.heap.size (.slice s3 TK.length c3) TK := hQ.below ((Below.refl wr.heap.size wr).drew.alloc (Nat.le_refl _) _) (Nat.le_refl _)
          have hO10 : Own (wr.drew.alloc (.cells (ints .u8 dg).toArray 43)) w.heap.size (.slice s4 p.vs.length c4) p.vs := hO9.below ((Below.refl wr.heap.size wr).drew.alloc (Nat.le_refl _) _) (Nat.le_refl _)
          refine step_pushD rfl (.tmp 21) (.tmp 27) rfl w.heap.size _ TK dg rfl hQ10 wr.heap.size (rng (hnew wr.drew _)) rfl dl2.out HL.out d10.1.size ?_
          intro v11 w11 hQ11 hg11
          obtain ⟨s11, c11, e11, _, _⟩ := hQ11.form
          rw [List.length_append, List.length_singleton] at e11
          subst e11
          have d11 := d10.grown hg11 (fun k hk => ⟨(hQ10.block k hk).1, fun x hx => by simp only [List.mem_cons, List.not_mem_nil, or_false] at hx; rcases hx with rfl | rfl | rfl <;> exact fun e => ownD_ne (t := 26) hQ10 (d10.2 _ (by simp)) (by decide) k hk e.symm⟩)
          have hO11 := own_grown hO10 hg11 (own_apart hO10 hQ10)
          have c11g := d11.cell (.head _) (KS.out (.slice s4 p.vs.length c4) (.slice s3 TK.length c3))
          have f11 : w11.frozen? ⟨g, 34, none⟩ = false := frozen_of_row _ _ _ _ _ (d11.row (.head _))
          clear d10 hQ10 hO10 hg11
          refine hK.out _ _ (d11.sub (fun x hx => .tail _ hx)) (fun hHeld2 => ?_)
          clear hK K hHeld
          have hHeld := hHeld2
          clear hHeld2
          try simp only [Act.put, List.setIfInBounds_toArray, List.set_cons_zero, List.set_cons_succ]
          refine wpAnyH_take (i := 9) (oi := { dst := some 29, op := Op.fieldAddr 26 (Operand.tmp 3) 3, type := 0, pos := "law.go:281", after := #[{ on := 0, ground := Ground.phase }, { on := 1, ground := Ground.phase }, { on := 2, ground := Ground.phase }, { on := 3, ground := Ground.phase }, { on := 4, ground := Ground.phase }, { on := 5, ground := Ground.phase }, { on := 6, ground := Ground.phase }, { on := 7, ground := Ground.phase }, { on := 8, ground := Ground.phase }], guard := none }) (v := .pointer (some ⟨g, 34, none⟩)) rfl (by kernel_rfl) (by kernel_rfl) (by kernel_rfl) (fun _ _ _ h => h) (Or.inl ⟨by rfl, by intro w hS; go_simp⟩) hHeld ?_
          try simp only [Act.put, List.setIfInBounds_toArray, List.set_cons_zero, List.set_cons_succ]
          refine wpAnyH_ready (rs := [10]) (by kernel_rfl) (by simp) ?_
          refine (AllReadyH.cons (o := { dst := none, op := Op.store 24 (Operand.tmp 29) (Operand.tmp 28), type := 0, pos := "law.go:281", after := #[{ on := 9, ground := Ground.data }, { on := 8, ground := Ground.data }, { on := 8, ground := Ground.chain }, { on := 0, ground := Ground.phase }, { on := 1, ground := Ground.phase }, { on := 2, ground := Ground.phase }, { on := 3, ground := Ground.phase }, { on := 4, ground := Ground.phase }, { on := 5, ground := Ground.phase }, { on := 6, ground := Ground.phase }, { on := 7, ground := Ground.phase }, { on := 8, ground := Ground.phase }], guard := none }) rfl (fun K hK => ?_) AllReadyH.nil)
          have d12 := d11.setC hgw (by intro x hx; simp only [List.mem_cons, List.not_mem_nil, or_false] at hx; rcases hx with rfl | rfl <;> simp <;> omega) 34 (.slice s11 (TK.length + 1) c11)
          rw [PS.out] at d12
          have hQ12 := ownD_setC hQ11 g 34 (.slice s11 (TK.length + 1) c11) (ownD_ne hQ11 (d11.row (.head _)) (by decide))
          have hO12 := own_setC hO11 g 34 (.slice s11 (TK.length + 1) c11) (own_ne hO11 (d11.row (.head _)) (by decide))
          go_simp
          refine hK.out _ _ (d12.sub (fun x hx => .tail _ hx)) (fun hHeld2 => ?_)
          clear hK K hHeld
          have hHeld := hHeld2
          clear hHeld2
          try simp only [Act.put, List.setIfInBounds_toArray, List.set_cons_zero, List.set_cons_succ]
          refine wpAnyH_done (by kernel_rfl) ?_ _
          refine NoPanic.normal ?_
          clear d11 hQ11 hO11 c11g f11 cq x34
          go_wp2
          go_roundw
          case rel => exact ⟨k + 1, _, by omega, by go_num, d12, by rw [HT.out]; exact hQ12, hO12⟩
          case measure => simp [intOf]; omega
        · skip
          refine step_sliceD (by rfl) (.tmp 26) (by rfl) (ints .u8 dg) L2.out (by rfl) ?_
          refine hK.out _ _ (hHeld.other _) (fun hHeld2 => ?_)
          clear hK K hHeld
          have hHeld := hHeld2
          clear hHeld2
          try simp only [Act.put, List.setIfInBounds_toArray, List.set_cons_zero, List.set_cons_succ]
          refine wpAnyH_ready (rs := [1]) (by kernel_rfl) (by simp) ?_
          refine (AllReadyH.cons (o := { dst := some 21, op := Op.load 24 (Operand.tmp 20), type := 24, pos := "law.go:281", after := #[{ on := 0, ground := Ground.data }], guard := none }) rfl (fun K hK => ?_) AllReadyH.nil)
          have cq : (wr.drew.alloc (.cells (ints .u8 dg).toArray 43)).cell? ⟨g, 34, none⟩ = some (.slice s3 TK.length c3) := (((Below.refl wr.heap.size wr).drew.alloc (Nat.le_refl _) (.cells (ints .u8 dg).toArray 43)).cell (p := ⟨g, 34, none⟩) (d9.lt (.head _))).trans cq
          have cq2 : (wr.alloc (.cells (ints .u8 dg).toArray 43)).cell? ⟨g, 34, none⟩ = some (.slice s3 TK.length c3) := cq
          go_simp
          refine hK.out _ _ (hHeld) (fun hHeld2 => ?_)
          clear hK K hHeld
          have hHeld := hHeld2
          clear hHeld2
          try simp only [Act.put, List.setIfInBounds_toArray, List.set_cons_zero, List.set_cons_succ]
          refine wpAnyH_ready (rs := [8]) (by kernel_rfl) (by simp) ?_
          refine (AllReadyH.cons (o := { dst := some 28, op := Op.call { callee := Callee.builtin Builtin.append, args := #[Operand.tmp 21, Operand.tmp 27], argTypes := #[24, 24] }, type := 24, pos := "law.go:281", after := #[{ on := 1, ground := Ground.data }, { on := 7, ground := Ground.data }], guard := none }) rfl (fun K hK => ?_) AllReadyH.nil)
          have d10 := d9.drew.other (.cells (ints .u8 dg).toArray 43)
          have hQ10 : OwnD (wr.drew.alloc (.cells (ints .u8 dg).toArray 43)) w.heap.size (.slice s3 TK.length c3) TK := hQ.below ((Below.refl wr.heap.size wr).drew.alloc (Nat.le_refl _) _) (Nat.le_refl _)
          have hO10 : Own (wr.drew.alloc (.cells (ints .u8 dg).toArray 43)) w.heap.size (.slice s4 p.vs.length c4) p.vs := hO9.below ((Below.refl wr.heap.size wr).drew.alloc (Nat.le_refl _) _) (Nat.le_refl _)
          refine step_pushD rfl (.tmp 21) (.tmp 27) rfl w.heap.size _ TK dg rfl hQ10 wr.heap.size (rng (hnew wr.drew _)) rfl dl2.out HL.out d10.1.size ?_
          intro v11 w11 hQ11 hg11
          obtain ⟨s11, c11, e11, _, _⟩ := hQ11.form
          rw [List.length_append, List.length_singleton] at e11
          subst e11
          have d11 := d10.grown hg11 (fun k hk => ⟨(hQ10.block k hk).1, fun x hx => by simp only [List.mem_cons, List.not_mem_nil, or_false] at hx; rcases hx with rfl | rfl | rfl <;> exact fun e => ownD_ne (t := 26) hQ10 (d10.2 _ (by simp)) (by decide) k hk e.symm⟩)
          have hO11 := own_grown hO10 hg11 (own_apart hO10 hQ10)
          have c11g := d11.cell (.head _) (KS.out (.slice s4 p.vs.length c4) (.slice s3 TK.length c3))
          have f11 : w11.frozen? ⟨g, 34, none⟩ = false := frozen_of_row _ _ _ _ _ (d11.row (.head _))
          clear d10 hQ10 hO10 hg11
          refine hK.out _ _ (d11.sub (fun x hx => .tail _ hx)) (fun hHeld2 => ?_)
          clear hK K hHeld
          have hHeld := hHeld2
          clear hHeld2
          try simp only [Act.put, List.setIfInBounds_toArray, List.set_cons_zero, List.set_cons_succ]
          refine wpAnyH_take (i := 9) (oi := { dst := some 29, op := Op.fieldAddr 26 (Operand.tmp 3) 3, type := 0, pos := "law.go:281", after := #[{ on := 0, ground := Ground.phase }, { on := 1, ground := Ground.phase }, { on := 2, ground := Ground.phase }, { on := 3, ground := Ground.phase }, { on := 4, ground := Ground.phase }, { on := 5, ground := Ground.phase }, { on := 6, ground := Ground.phase }, { on := 7, ground := Ground.phase }, { on := 8, ground := Ground.phase }], guard := none }) (v := .pointer (some ⟨g, 34, none⟩)) rfl (by kernel_rfl) (by kernel_rfl) (by kernel_rfl) (fun _ _ _ h => h) (Or.inl ⟨by rfl, by intro w hS; go_simp⟩) hHeld ?_
          try simp only [Act.put, List.setIfInBounds_toArray, List.set_cons_zero, List.set_cons_succ]
          refine wpAnyH_ready (rs := [10]) (by kernel_rfl) (by simp) ?_
          refine (AllReadyH.cons (o := { dst := none, op := Op.store 24 (Operand.tmp 29) (Operand.tmp 28), type := 0, pos := "law.go:281", after := #[{ on := 9, ground := Ground.data }, { on := 8, ground := Ground.data }, { on := 8, ground := Ground.chain }, { on := 0, ground := Ground.phase }, { on := 1, ground := Ground.phase }, { on := 2, ground := Ground.phase }, { on := 3, ground := Ground.phase }, { on := 4, ground := Ground.phase }, { on := 5, ground := Ground.phase }, { on := 6, ground := Ground.phase }, { on := 7, ground := Ground.phase }, { on := 8, ground := Ground.phase }], guard := none }) rfl (fun K hK => ?_) AllReadyH.nil)
          have d12 := d11.setC hgw (by intro x hx; simp only [List.mem_cons, List.not_mem_nil, or_false] at hx; rcases hx with rfl | rfl <;> simp <;> omega) 34 (.slice s11 (TK.length + 1) c11)
          rw [PS.out] at d12
          have hQ12 := ownD_setC hQ11 g 34 (.slice s11 (TK.length + 1) c11) (ownD_ne hQ11 (d11.row (.head _)) (by decide))
          have hO12 := own_setC hO11 g 34 (.slice s11 (TK.length + 1) c11) (own_ne hO11 (d11.row (.head _)) (by decide))
          go_simp
          refine hK.out _ _ (d12.sub (fun x hx => .tail _ hx)) (fun hHeld2 => ?_)
          clear hK K hHeld
          have hHeld := hHeld2
          clear hHeld2
          try simp only [Act.put, List.setIfInBounds_toArray, List.set_cons_zero, List.set_cons_succ]
          refine wpAnyH_done (by kernel_rfl) ?_ _
          refine NoPanic.normal ?_
          clear d11 hQ11 hO11 c11g f11 cq x34
          go_wp2
          go_roundw
          case rel => exact ⟨k + 1, _, by omega, by go_num, d12, by rw [HT.out]; exact hQ12, hO12⟩
          case measure => simp [intOf]; omega
      · obtain rfl : k = p.ss.length := by omega
        rw [List.take_length] at hQ
        obtain ⟨s3, c3, rfl, _, _⟩ := hQ.form
        have rg := d9.row (.head _)
        have rz := d9.row (.tail _ (.tail _ (.head _)))
        go_wp2_with (first
          | refine wpList_load_row_w (by rfl) 26 _ (by rfl) _ (by rfl) 26 _ _ _ rg Try.underlying26 rfl (SF.out _ _) ?_
          | refine wpList_store_row rfl 26 _ _ (by rfl) (w.heap.size + 1) (PF (.slice s4 p.vs.length c4) (.slice s3 p.ss.length c3)).toArray (by rfl) (by rfl) 26 _ rz (SF.out _ _) (by rw [List.size_toArray, List.size_toArray, LZ.out, LF.out]) (all_oneCell_toArray (OF.out _ _ _ _ _ _)) ?_)
        exact bodyPost_ret (v := .agg (PF (.slice s4 p.vs.length c4) (.slice s3 p.ss.length c3)).toArray) (results_cell_row Try.results9 _ _ (w.heap.size + 1) 26 _ _ _ rfl (setRow_heap _ _ _ _ _ _ rz) Try.underlying26 rfl (SF.out _ _)) rfl ⟨s4, c4, s3, c3, rfl,
          hO9.of_heap (fun k hk => setRow_other _ _ _ _ (own_ne hO9 rz (by decide) k hk)), hQ.of_heap (fun k hk => setRow_other _ _ _ _ (ownD_ne hQ rz (by decide) k hk)), below_setRow d9.1 (by omega) _⟩
end Go.Proofs.Ytlhmhpkgdcdjkaa
