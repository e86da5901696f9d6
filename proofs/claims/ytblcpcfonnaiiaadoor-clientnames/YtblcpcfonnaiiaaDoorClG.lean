import Derived.Test.YtblcpcfonnaiiaaDoorClF
namespace Go.Proofs.YtblcpcfonnaiiaaDoor
set_option linter.unusedVariables false
set_option linter.unusedSimpArgs false
open Go.RowKit
attribute [local go_sem ↓] Go.wp_at_zero Go.wp_at_succ

theorem results_cc {P : Program} {fn : Func} {p q : Tmp} {ty ty2 : TypeId} (h : fn.results = #[.cell p ty, .cell q ty2]) (tmps : Array Value) (w : World) (g : Nat) (t : TypeId) (cs : Array Value) (fr : Nat × Nat) (d : TypeDesc)
    (hp : tmps.getD p undef = .pointer (some ⟨g, 0, none⟩)) (hg : w.heap[g]? = some (.cells cs t fr))
    (hu : P.underlying ty = some d) (hd : (match d with | .struct _ | .array _ _ => true | _ => false) = true) (hi : (P.info? ty).map (·.size) = some cs.size) (g2 : Nat) (x : Value)
    (hq : tmps.getD q undef = .pointer (some ⟨g2, 0, none⟩)) (hx : (loadVar ty2 ⟨g2, 0, none⟩).run P w = .ok x w) :
    (results fn tmps).run P w = .ok (.tuple #[.agg cs, x]) w := by
  have hp' : tmps[p]?.getD undef = .pointer (some ⟨g, 0, none⟩) := by simpa using hp
  have hq' : tmps[q]?.getD undef = .pointer (some ⟨g2, 0, none⟩) := by simpa using hq
  simp [results, h, hp', hq', asAddr, run_loadVar_row w g t ty cs fr d hg hu hd hi, hx]
/-! A check that is read: where its parts lie. -/
structure CkP where
  ge : Nat
  rv : Value
  s1 : Option Addr
  c1 : Nat
  s2 : Option Addr
  c2 : Nat
  g : Nat
  c : Nat
def ckR (P : CkP) (n : Nat) (root ks : List Int) (p : Pf) : List Value := ckC n root ks (.slice (some ⟨P.ge, 0, none⟩) 256 256) P.rv (pfC p (.slice P.s1 p.vs.length P.c1) (.slice P.s2 p.ss.length P.c2)) (.slice (some ⟨P.g, 0, none⟩) 256 P.c)
structure CkV (w : World) (cb : Nat) (P : CkP) (n : Nat) (root ks : List Int) (p : Pf) (NB : List (List Int)) : Prop where
  hr : root.length = 32
  hk : ks.length = 32
  hy : Bys ks
  hn : n ≤ 32
  ok : PfOk p
  vl : p.vs.length ≤ 128
  nl : NB.length = 256
  nd : ∀ d ∈ NB, d.length = 32
  row : w.heap[cb]? = some (.cells (ckR P n root ks p).toArray 50 (0, 0))
  emp : w.heap[P.ge]? = some (.cells (ints .u8 (emps n 256).flatten).toArray 29 (0, 0))
  val : Src w P.s1 P.c1 p.vs
  nil : P.s1 = none → P.c1 = 0
  bes : SrcD w (some ⟨P.g, 0, none⟩) P.c NB
theorem CkV.below {w w1 : World} {cb : Nat} {P : CkP} {n : Nat} {root ks : List Int} {p : Pf} {NB : List (List Int)} (h : CkV w cb P n root ks p NB) (hb : Below w.heap.size w w1) : CkV w1 cb P n root ks p NB :=
  ⟨h.hr, h.hk, h.hy, h.hn, h.ok, h.vl, h.nl, h.nd, hbel hb h.row (hlt h.row), hbel hb h.emp (hlt h.emp), h.val.below hb (Nat.le_refl _), h.nil, h.bes.below hb (Nat.le_refl _)⟩
section
variable {w : World} {cb : Nat} {P : CkP} {n : Nat} {root ks : List Int} {p : Pf} {NB : List (List Int)}
theorem CkV.c0 (h : CkV w cb P n root ks p NB) : w.cell? ⟨cb, 0, none⟩ = some (.int .i64 n) := cell_ck h.row ckC_k
theorem CkV.rootR (h : CkV w cb P n root ks p NB) : w.rangeAt cb 1 (ints .u8 root) := rng_ck h.row (fun j x hx => ckC_root j x hx)
theorem CkV.c33 (h : CkV w cb P n root ks p NB) : w.cell? ⟨cb, 33, none⟩ = some (.slice (some ⟨P.ge, 0, none⟩) 256 256) := cell_ck h.row (ckC_e h.hr)
theorem CkV.key (h : CkV w cb P n root ks p NB) : w.rangeAt cb 34 (ints .u8 ks) := rng_ck h.row (fun j x hx => ckC_key h.hr j x hx)
theorem CkV.f (h : CkV w cb P n root ks p NB) : w.cell? ⟨cb, 67, none⟩ = some (.bool p.f) := cell_ck h.row (ckC_p h.hr h.hk 0 _ (pfC_f p _ _))
theorem CkV.v (h : CkV w cb P n root ks p NB) : w.cell? ⟨cb, 68, none⟩ = some (.slice P.s1 p.vs.length P.c1) := cell_ck h.row (ckC_p h.hr h.hk 1 _ (pfC_v p _ _))
theorem CkV.c102 (h : CkV w cb P n root ks p NB) : w.cell? ⟨cb, 102, none⟩ = some (.slice (some ⟨P.g, 0, none⟩) 256 P.c) := cell_ck h.row (ckC_b h.hr h.hk (pfC_len h.ok _ _))
theorem CkV.cbl (h : CkV w cb P n root ks p NB) : cb < w.heap.size := hlt h.row
theorem CkV.nb (h : CkV w cb P n root ks p NB) (j : Nat) (hj : j < 256) : P.g < w.heap.size ∧ w.rangeAt P.g (0 + j * 32) (ints .u8 (NB.getD j [])) ∧ (NB.getD j []).length = 32 := by
  have hnl := h.nl
  obtain ⟨b, o, e, hb, hr⟩ := h.bes.at (by omega)
  simp only [Option.some.injEq, Addr.mk.injEq] at e
  obtain ⟨rfl, rfl, -⟩ := e
  exact ⟨hb, hr j (by omega), h.nd _ (by rw [List.getD_eq_getElem?_getD, List.getElem?_eq_getElem (by omega)]; exact List.getElem_mem _)⟩
end
set_option maxRecDepth 100000 in
set_option maxHeartbeats 4000000 in
theorem foot_any (w : World) (hG : Glob w) (cb : Nat) (P : CkP) (n : Nat) (root ks : List Int) (p : Pf) (NB : List (List Int)) (h : CkV w cb P n root ks p NB) :
    Calls Tryd.prog 33 #[.pointer (some ⟨cb, 0, none⟩)] w fun en w' => en = .returned (.agg (ints .u8 (footD n ks p.f p.vs)).toArray) ∧ Below w.heap.size w w' := by
  have AD := hid allocDg
  have hcb := h.cbl
  have c0 := h.c0
  have ck := h.key
  have cf := h.f
  have cv := h.v
  have c33 := h.c33
  have hv := h.vl
  have hk := h.hk
  have LK := hid (show (Tryd.prog.info? 31).map (·.size) = some (ints .u8 ks).length by rw [Tryd.sizeKy, ints_len, hk])
  have LZ := hid (show (ints .u8 zB).length = 32 from rfl)
  have d0 := (BK.nil w).alloc (ints .u8 zB) 29
  have r0 := d0.row (.head _)
  have hb1 := d0.1
  have hG1 := hG.below hb1 hG.1
  have f1 := (hb1.cell (p := ⟨cb, 67, none⟩) hcb).trans cf
  have e33 := (hb1.cell (p := ⟨cb, 33, none⟩) hcb).trans c33
  cases hf : p.f with
  | true =>
    rw [hf] at f1
    have KL := hid (fun w1 (hG1 : Glob w1) (hS1 : Src w1 P.s1 P.c1 p.vs) => leaf_any w1 hG1 n ks p.vs hk P.s1 P.c1 hS1 h.nil (by omega))
    have HD := hid (show leafD n ks p.vs = footD n ks true p.vs from rfl)
    rw [HD.out] at KL
    have hDl := footD_len n ks true p.vs
    generalize footD n ks true p.vs = D at *
    have LDD := hid (show (ints .u8 D).length = 32 by rw [ints_len, hDl])
    have HV := hid h.val
    generalize hM : p.vs.length = m at *
    have HM := hid hM
    generalize P.s1 = s1 at *
    generalize P.c1 = c1 at *
    clear h hM hv HD e33 c33 hf
    generalize ints .u8 zB = Z at *
    go_enter Tryd.func33, Tryd.ntmps33
    go_wp2_with (first | refine wpList_allocV AD.out rfl rfl ?_)
    generalize w.alloc (.cells Z.toArray 29) = w1 at *
    refine wp_region_noPanic ?_
    refine wp_region_held_drew (S := (fun w' => Below w.heap.size w w' ∧ w.heap.size < w'.heap.size)) (by kernel_rfl) ⟨hb1.drew, hlt r0⟩ (fun hHeld => ?_)
    refine wpAnyH_take (i := 0) (oi := { dst := some 8, op := Op.move (Operand.tmp 0), type := 44, pos := "path.go:45", after := #[], guard := none }) (v := .pointer (some ⟨cb, 0, none⟩)) rfl (by kernel_rfl) (by kernel_rfl) (by kernel_rfl) (fun _ _ _ h => h) (Or.inl ⟨by rfl, by intro w hS; go_simp⟩) hHeld ?_
    try simp only [Act.put, List.setIfInBounds_toArray, List.set_cons_zero, List.set_cons_succ]
    refine wpAnyH_take (i := 5) (oi := { dst := some 13, op := Op.move (Operand.tmp 0), type := 44, pos := "path.go:45", after := #[], guard := none }) (v := .pointer (some ⟨cb, 0, none⟩)) rfl (by kernel_rfl) (by kernel_rfl) (by kernel_rfl) (fun _ _ _ h => h) (Or.inl ⟨by rfl, by intro w hS; go_simp⟩) hHeld ?_
    try simp only [Act.put, List.setIfInBounds_toArray, List.set_cons_zero, List.set_cons_succ]
    refine wpAnyH_take (i := 9) (oi := { dst := some 17, op := Op.move (Operand.tmp 0), type := 44, pos := "path.go:45", after := #[], guard := none }) (v := .pointer (some ⟨cb, 0, none⟩)) rfl (by kernel_rfl) (by kernel_rfl) (by kernel_rfl) (fun _ _ _ h => h) (Or.inl ⟨by rfl, by intro w hS; go_simp⟩) hHeld ?_
    try simp only [Act.put, List.setIfInBounds_toArray, List.set_cons_zero, List.set_cons_succ]
    refine wpAnyH_take (i := 1) (oi := { dst := some 9, op := Op.nilCheck (Operand.tmp 8), type := 0, pos := "path.go:45", after := #[{ on := 0, ground := Ground.data }], guard := none }) (v := .pointer (some ⟨cb, 0, none⟩)) rfl (by kernel_rfl) (by kernel_rfl) (by kernel_rfl) (fun _ _ _ h => h) (Or.inl ⟨by rfl, by intro w hS; go_simp⟩) hHeld ?_
    try simp only [Act.put, List.setIfInBounds_toArray, List.set_cons_zero, List.set_cons_succ]
    refine wpAnyH_take (i := 6) (oi := { dst := some 14, op := Op.nilCheck (Operand.tmp 13), type := 0, pos := "path.go:45", after := #[{ on := 5, ground := Ground.data }], guard := none }) (v := .pointer (some ⟨cb, 0, none⟩)) rfl (by kernel_rfl) (by kernel_rfl) (by kernel_rfl) (fun _ _ _ h => h) (Or.inl ⟨by rfl, by intro w hS; go_simp⟩) hHeld ?_
    try simp only [Act.put, List.setIfInBounds_toArray, List.set_cons_zero, List.set_cons_succ]
    refine wpAnyH_take (i := 10) (oi := { dst := some 18, op := Op.nilCheck (Operand.tmp 17), type := 0, pos := "path.go:45", after := #[{ on := 9, ground := Ground.data }], guard := none }) (v := .pointer (some ⟨cb, 0, none⟩)) rfl (by kernel_rfl) (by kernel_rfl) (by kernel_rfl) (fun _ _ _ h => h) (Or.inl ⟨by rfl, by intro w hS; go_simp⟩) hHeld ?_
    try simp only [Act.put, List.setIfInBounds_toArray, List.set_cons_zero, List.set_cons_succ]
    refine wpAnyH_take (i := 2) (oi := { dst := some 10, op := Op.fieldAddr 50 (Operand.tmp 9) 0, type := 0, pos := "path.go:45", after := #[{ on := 1, ground := Ground.data }], guard := none }) (v := .pointer (some ⟨cb, 0, none⟩)) rfl (by kernel_rfl) (by kernel_rfl) (by kernel_rfl) (fun _ _ _ h => h) (Or.inl ⟨by rfl, by intro w hS; go_simp⟩) hHeld ?_
    try simp only [Act.put, List.setIfInBounds_toArray, List.set_cons_zero, List.set_cons_succ]
    refine wpAnyH_take (i := 7) (oi := { dst := some 15, op := Op.fieldAddr 50 (Operand.tmp 14) 1, type := 0, pos := "path.go:45", after := #[{ on := 6, ground := Ground.data }], guard := none }) (v := .pointer (some ⟨cb, 34, none⟩)) rfl (by kernel_rfl) (by kernel_rfl) (by kernel_rfl) (fun _ _ _ h => h) (Or.inl ⟨by rfl, by intro w hS; go_simp⟩) hHeld ?_
    try simp only [Act.put, List.setIfInBounds_toArray, List.set_cons_zero, List.set_cons_succ]
    refine wpAnyH_take (i := 11) (oi := { dst := some 19, op := Op.fieldAddr 50 (Operand.tmp 18) 3, type := 0, pos := "path.go:45", after := #[{ on := 10, ground := Ground.data }], guard := none }) (v := .pointer (some ⟨cb, 67, none⟩)) rfl (by kernel_rfl) (by kernel_rfl) (by kernel_rfl) (fun _ _ _ h => h) (Or.inl ⟨by rfl, by intro w hS; go_simp⟩) hHeld ?_
    try simp only [Act.put, List.setIfInBounds_toArray, List.set_cons_zero, List.set_cons_succ]
    refine wpAnyH_take (i := 3) (oi := { dst := some 11, op := Op.fieldAddr 41 (Operand.tmp 10) 0, type := 0, pos := "path.go:45", after := #[{ on := 2, ground := Ground.data }], guard := none }) (v := .pointer (some ⟨cb, 0, none⟩)) rfl (by kernel_rfl) (by kernel_rfl) (by kernel_rfl) (fun _ _ _ h => h) (Or.inl ⟨by rfl, by intro w hS; go_simp⟩) hHeld ?_
    try simp only [Act.put, List.setIfInBounds_toArray, List.set_cons_zero, List.set_cons_succ]
    refine wpAnyH_take (i := 8) (oi := { dst := some 16, op := Op.load 31 (Operand.tmp 15), type := 31, pos := "path.go:45", after := #[{ on := 7, ground := Ground.data }], guard := none }) (v := .agg (ints .u8 ks).toArray) rfl (by kernel_rfl) (by kernel_rfl) (by kernel_rfl) (fun _ _ _ h => h) (yieldsIf_load_mid (by rfl) 31 _ rfl cb (34) rfl (ints .u8 ks) _ (fun w hS => rng_below ck hS.1 hcb) Tryd.underlying31 rfl LK.out) hHeld ?_
    try simp only [Act.put, List.setIfInBounds_toArray, List.set_cons_zero, List.set_cons_succ]
    refine wpAnyH_take (i := 12) (oi := { dst := some 20, op := Op.fieldAddr 48 (Operand.tmp 19) 1, type := 0, pos := "path.go:45", after := #[{ on := 11, ground := Ground.data }], guard := none }) (v := .pointer (some ⟨cb, 68, none⟩)) rfl (by kernel_rfl) (by kernel_rfl) (by kernel_rfl) (fun _ _ _ h => h) (Or.inl ⟨by rfl, by intro w hS; go_simp⟩) hHeld ?_
    try simp only [Act.put, List.setIfInBounds_toArray, List.set_cons_zero, List.set_cons_succ]
    refine wpAnyH_take (i := 4) (oi := { dst := some 12, op := Op.load 3 (Operand.tmp 11), type := 3, pos := "path.go:45", after := #[{ on := 3, ground := Ground.data }], guard := none }) (v := .int .i64 n) rfl (by kernel_rfl) (by kernel_rfl) (by kernel_rfl) (fun _ _ _ h => h) (Or.inl ⟨by rfl, by intro w hS; have hc := (hS.1.cell (p := ⟨cb, 0, none⟩) hcb).trans c0; go_simp⟩) hHeld ?_
    try simp only [Act.put, List.setIfInBounds_toArray, List.set_cons_zero, List.set_cons_succ]
    refine wpAnyH_take (i := 13) (oi := { dst := some 21, op := Op.load 22 (Operand.tmp 20), type := 22, pos := "path.go:45", after := #[{ on := 12, ground := Ground.data }], guard := none }) (v := .slice s1 m c1) rfl (by kernel_rfl) (by kernel_rfl) (by kernel_rfl) (fun _ _ _ h => h) (Or.inl ⟨by rfl, by intro w hS; have hc := (hS.1.cell (p := ⟨cb, 68, none⟩) hcb).trans cv; go_simp⟩) hHeld ?_
    try simp only [Act.put, List.setIfInBounds_toArray, List.set_cons_zero, List.set_cons_succ]
    refine wpAnyH_ready (rs := [14]) (by kernel_rfl) (by simp) ?_
    refine (AllReadyH.cons (o := { dst := some 22, op := Op.call { callee := Callee.value (Operand.func 51), args := #[Operand.tmp 12, Operand.tmp 16, Operand.tmp 21], argTypes := #[3, 31, 22] }, type := 29, pos := "path.go:45", after := #[{ on := 4, ground := Ground.data }, { on := 8, ground := Ground.data }, { on := 13, ground := Ground.data }], guard := none }) rfl (fun K hK => ?_) AllReadyH.nil)
    go_simp
    go_at_call 51
    refine (KL.out _ (hG.below hHeld.1 hG.1) (HV.out.below hHeld.1 (Nat.le_refl _))).mono ?_
    rintro e w4 ⟨rfl, hb4⟩
    have r4 := hbel hb4 (show w1.drew.heap[w.heap.size]? = _ from r0) (hlt r0)
    go_wp2_with fail
    refine hK.out _ _ (⟨hHeld.1.trans (hb4.mono hHeld.1.size), Nat.lt_of_lt_of_le hHeld.2 hb4.size⟩) (fun hHeld2 => ?_)
    clear hK K hHeld
    have hHeld := hHeld2
    clear hHeld2
    try simp only [Act.put, List.setIfInBounds_toArray, List.set_cons_zero, List.set_cons_succ]
    refine wpAnyH_ready (rs := [15]) (by kernel_rfl) (by simp) ?_
    refine (AllReadyH.cons (o := { dst := none, op := Op.store 29 (Operand.tmp 2) (Operand.tmp 22), type := 0, pos := "path.go:45", after := #[{ on := 14, ground := Ground.data }, { on := 14, ground := Ground.chain }, { on := 0, ground := Ground.phase }, { on := 1, ground := Ground.phase }, { on := 2, ground := Ground.phase }, { on := 3, ground := Ground.phase }, { on := 4, ground := Ground.phase }, { on := 5, ground := Ground.phase }, { on := 6, ground := Ground.phase }, { on := 7, ground := Ground.phase }, { on := 8, ground := Ground.phase }, { on := 9, ground := Ground.phase }, { on := 10, ground := Ground.phase }, { on := 11, ground := Ground.phase }, { on := 12, ground := Ground.phase }, { on := 13, ground := Ground.phase }, { on := 14, ground := Ground.phase }], guard := none }) rfl (fun K hK => ?_) AllReadyH.nil)
    rw [if_pos (by rfl)]
    refine wp_store_row 29 _ _ rfl w.heap.size (ints .u8 D).toArray rfl rfl 29 _ r4 (by rw [Tryd.sizeD, List.size_toArray, LDD.out]) (by rw [List.size_toArray, List.size_toArray, LDD.out, LZ.out]) (all_oneCell_toArray (ints_one _ _)) ?_
    have hb5 := below_setRow hHeld.1 (Nat.le_refl w.heap.size) (ints .u8 D).toArray
    refine hK.out _ _ (⟨hb5, hlt (setRow_heap _ _ _ _ _ _ r4)⟩) (fun hHeld2 => ?_)
    clear hK K hHeld
    have hHeld := hHeld2
    clear hHeld2
    try simp only [Act.put, List.setIfInBounds_toArray, List.set_cons_zero, List.set_cons_succ]
    refine wpAnyH_done (by kernel_rfl) ?_ _
    refine NoPanic.normal ?_
    go_wp2
    exact bodyPost_ret (v := .agg (ints .u8 D).toArray) (results_cell_row Tryd.results33 _ _ w.heap.size 29 _ _ _ rfl (setRow_heap _ _ _ _ _ _ r4) Tryd.underlying29 rfl (by rw [Tryd.sizeD, List.size_toArray, LDD.out])) rfl ⟨rfl, hb5⟩
  | false =>
    rw [hf] at f1
    have HD := hid (show emptyD n 0 = footD n ks false p.vs from rfl)
    have hDl := footD_len n ks false p.vs
    have RE : w.rangeAt P.ge 0 (ints .u8 (emptyD n 0)) := by
      have h1 := srcD_row h.emp (emps_mem n 256) 256 (by rw [emps_len]; omega) (by simp [maxLen])
      obtain ⟨_, _, _, b, o, _, h4, h5⟩ := h1
      have e := h4 (by rw [emps_len]; omega)
      simp only [Option.some.injEq, Addr.mk.injEq] at e
      obtain ⟨rfl, rfl, -⟩ := e
      have := h5 0 (by rw [emps_len]; omega)
      rwa [emps_get n 256 0 (by omega)] at this
    rw [HD.out] at RE
    have RE1 := rng_below RE hb1 (hlt h.emp)
    generalize footD n ks false p.vs = D at *
    have LDD := hid (show (ints .u8 D).length = 32 by rw [ints_len, hDl])
    have LD2 := hid (show (Tryd.prog.info? 29).map (·.size) = some (ints .u8 D).length by rw [Tryd.sizeD, LDD.out])
    generalize P.ge = ge at *
    clear h hv hf HD RE cf c33 cv c0 LK
    generalize ints .u8 zB = Z at *
    go_enter Tryd.func33, Tryd.ntmps33
    go_wp2_with (first
      | refine wpList_allocV AD.out rfl rfl ?_
      | refine wpList_load_mid rfl 29 _ rfl ge 0 rfl (ints .u8 D) _ RE1 Tryd.underlying29 rfl LD2.out ?_
      | refine wpList_store_row rfl 29 _ _ rfl _ _ rfl rfl 29 _ r0 (by rw [Tryd.sizeD, List.size_toArray, LDD.out]) (by rw [List.size_toArray, List.size_toArray, LDD.out, LZ.out]) (all_oneCell_toArray (ints_one _ _)) ?_)
    exact bodyPost_ret (v := .agg (ints .u8 D).toArray) (results_cell_row Tryd.results33 _ _ w.heap.size 29 _ _ _ rfl (setRow_heap _ _ _ _ _ _ r0) Tryd.underlying29 rfl (by rw [Tryd.sizeD, List.size_toArray, LDD.out])) rfl ⟨rfl, below_setRow hb1 (Nat.le_refl _) _⟩
/-- The two sides of a step. -/
def sideL (ks : List Int) (h : Nat) (d n : List Int) : List Int := if bitK ks (255 - h) = 0 then d else n
def sideR (ks : List Int) (h : Nat) (d n : List Int) : List Int := if bitK ks (255 - h) = 0 then n else d
set_option maxRecDepth 100000 in
set_option maxHeartbeats 4000000 in
theorem sides_any (w : World) (cb : Nat) (P : CkP) (n : Nat) (root ks : List Int) (p : Pf) (NB : List (List Int)) (hV : CkV w cb P n root ks p NB) (h : Nat) (hh : h < 256) (d : List Int) (hd : d.length = 32) :
    Calls Tryd.prog 35 #[.pointer (some ⟨cb, 0, none⟩), .int .i64 h, .agg (ints .u8 d).toArray] w fun en w' => en = .returned (.tuple #[.agg (ints .u8 (sideL ks h d (NB.getD h []))).toArray, .agg (ints .u8 (sideR ks h d (NB.getD h []))).toArray]) ∧ Below w.heap.size w w' := by
  have AD := hid allocDg
  have hcb := hV.cbl
  have ck := hV.key
  have c102 := hV.c102
  obtain ⟨hng, hnr, hnl⟩ := hV.nb h hh
  have hk := hV.hk
  have KB := hid (fun w1 => Bit_in w1 ks hk hV.hy (255 - h) (by omega))
  rw [show (((255 - h : Nat)) : Int) = 255 - (h : Int) by omega] at KB
  have i1 : (h : Int) < 256 := by omega
  have LK := hid (show (Tryd.prog.info? 31).map (·.size) = some (ints .u8 ks).length by rw [Tryd.sizeKy, ints_len, hk])
  have LZ := hid (show (ints .u8 zB).length = 32 from rfl)
  have HL := hid (show sideL ks h d (NB.getD h []) = if bitK ks (255 - h) = 0 then d else NB.getD h [] from rfl)
  have HR := hid (show sideR ks h d (NB.getD h []) = if bitK ks (255 - h) = 0 then NB.getD h [] else d from rfl)
  rw [HL.out, HR.out]
  clear HL HR
  generalize NB.getD h [] = NBh at *
  generalize P.g = pg at *
  generalize P.c = pc at *
  have Ld := hid (show (ints .u8 d).length = 32 by rw [ints_len, hd])
  have LNBh := hid (show (ints .u8 NBh).length = 32 by rw [ints_len, hnl])
  have LD := hid (show (Tryd.prog.info? 29).map (·.size) = some (ints .u8 d).length by rw [Tryd.sizeD, Ld.out])
  have LN := hid (show (Tryd.prog.info? 29).map (·.size) = some (ints .u8 NBh).length by rw [Tryd.sizeD, LNBh.out])
  have d5 := (((BK.nil w).alloc (ints .u8 d) 29).alloc (ints .u8 zB) 29).alloc (ints .u8 zB) 29
  rw [show (w.alloc (.cells (ints .u8 d).toArray 29)).heap.size = w.heap.size + 1 by simp, show ((w.alloc (.cells (ints .u8 d).toArray 29)).alloc (.cells (ints .u8 zB).toArray 29)).heap.size = w.heap.size + 2 by simp] at d5
  have ck1 := rng_below ck d5.1 hcb
  clear hV
  generalize ints .u8 zB = Z at *
  have hb01 := bitK_01 ks (255 - h)
  go_enter Tryd.func35, Tryd.ntmps35
  go_wp2_with (first
    | (refine wpList_allocV AD.out rfl rfl ?_)
    | (refine wpList_load_mid rfl 31 _ rfl cb 34 rfl (ints .u8 ks) _ ck1 Tryd.underlying31 rfl LK.out ?_)
    | (refine (KB.out _).mono ?_; rintro e w2 ⟨rfl, hb2⟩; refine Hid.out ?_))
  refine hid ?_
  replace d5 := d5.call hb2
  have r2 := d5.row (.head _)
  have r1 := d5.row (.tail _ (.head _))
  replace d5 : BK w w2 [(w.heap.size, ints .u8 d, 29)] := d5.sub (fun x hx => .tail _ (.tail _ hx))
  clear KB AD hb2 ck1
  rcases hb01 with hb | hb
  · rw [hb]
    have HI : (if (0 : Int) = 0 then d else NBh) = d := if_pos rfl
    have HJ : (if (0 : Int) = 0 then NBh else d) = NBh := if_pos rfl
    have HI' := hid HI
    have HJ' := hid HJ
    clear HI HJ
    go_wp2_with fail
    refine wp_region_noPanic ?_
    refine wp_region_held_drew (S := (fun w' => BK w w' [(w.heap.size, ints .u8 d, 29)])) (by kernel_rfl) d5.drew (fun hHeld => ?_)
    refine wpAnyH_take (i := 0) (oi := { dst := some 16, op := Op.load 29 (Operand.tmp 5), type := 29, pos := "path.go:27", after := #[], guard := none }) (v := .agg (ints .u8 d).toArray) rfl (by kernel_rfl) (by kernel_rfl) (by kernel_rfl) (fun _ _ _ h => h) (yieldsIf_load_mid (by rfl) 29 _ rfl w.heap.size (0) rfl (ints .u8 d) _ (fun w hS => hS.rng (.head _) (fun j x hx => by rw [Nat.zero_add]; exact hx)) Tryd.underlying29 rfl LD.out) hHeld ?_
    try simp only [Act.put, List.setIfInBounds_toArray, List.set_cons_zero, List.set_cons_succ]
    refine wpAnyH_take (i := 1) (oi := { dst := some 17, op := Op.move (Operand.tmp 0), type := 44, pos := "path.go:27", after := #[{ on := 8, ground := Ground.gcOnly Departure.lateStores }], guard := none }) (v := .pointer (some ⟨cb, 0, none⟩)) rfl (by kernel_rfl) (by kernel_rfl) (by kernel_rfl) (fun _ _ _ h => h) (Or.inl ⟨by rfl, by intro w hS; go_simp⟩) hHeld ?_
    try simp only [Act.put, List.setIfInBounds_toArray, List.set_cons_zero, List.set_cons_succ]
    refine wpAnyH_take (i := 5) (oi := { dst := some 21, op := Op.move (Operand.tmp 1), type := 3, pos := "path.go:27", after := #[{ on := 8, ground := Ground.gcOnly Departure.lateStores }], guard := none }) (v := .int .i64 h) rfl (by kernel_rfl) (by kernel_rfl) (by kernel_rfl) (fun _ _ _ h => h) (Or.inl ⟨by rfl, by intro w hS; go_simp⟩) hHeld ?_
    try simp only [Act.put, List.setIfInBounds_toArray, List.set_cons_zero, List.set_cons_succ]
    refine wpAnyH_take (i := 2) (oi := { dst := some 18, op := Op.nilCheck (Operand.tmp 17), type := 0, pos := "path.go:27", after := #[{ on := 1, ground := Ground.data }, { on := 8, ground := Ground.gcOnly Departure.lateStores }], guard := none }) (v := .pointer (some ⟨cb, 0, none⟩)) rfl (by kernel_rfl) (by kernel_rfl) (by kernel_rfl) (fun _ _ _ h => h) (Or.inl ⟨by rfl, by intro w hS; go_simp⟩) hHeld ?_
    try simp only [Act.put, List.setIfInBounds_toArray, List.set_cons_zero, List.set_cons_succ]
    refine wpAnyH_take (i := 3) (oi := { dst := some 19, op := Op.fieldAddr 50 (Operand.tmp 18) 4, type := 0, pos := "path.go:27", after := #[{ on := 2, ground := Ground.data }, { on := 8, ground := Ground.gcOnly Departure.lateStores }], guard := none }) (v := .pointer (some ⟨cb, 102, none⟩)) rfl (by kernel_rfl) (by kernel_rfl) (by kernel_rfl) (fun _ _ _ h => h) (Or.inl ⟨by rfl, by intro w hS; go_simp⟩) hHeld ?_
    try simp only [Act.put, List.setIfInBounds_toArray, List.set_cons_zero, List.set_cons_succ]
    refine wpAnyH_take (i := 4) (oi := { dst := some 20, op := Op.load 39 (Operand.tmp 19), type := 39, pos := "path.go:27", after := #[{ on := 3, ground := Ground.data }, { on := 8, ground := Ground.gcOnly Departure.lateStores }], guard := none }) (v := .slice (some ⟨pg, 0, none⟩) 256 pc) rfl (by kernel_rfl) (by kernel_rfl) (by kernel_rfl) (fun _ _ _ h => h) (Or.inl ⟨by rfl, by intro w hS; have hc := (hS.1.cell (p := ⟨cb, 102, none⟩) hcb).trans c102; go_simp⟩) hHeld ?_
    try simp only [Act.put, List.setIfInBounds_toArray, List.set_cons_zero, List.set_cons_succ]
    refine wpAnyH_take (i := 6) (oi := { dst := some 22, op := Op.indexAddr 39 (Operand.tmp 20) (Operand.tmp 21), type := 0, pos := "path.go:27", after := #[{ on := 4, ground := Ground.data }, { on := 5, ground := Ground.data }, { on := 8, ground := Ground.gcOnly Departure.lateStores }], guard := none }) (v := .pointer (some ⟨pg, 0 + h * 32, none⟩)) rfl (by kernel_rfl) (by kernel_rfl) (by kernel_rfl) (fun _ _ _ h => h) (Or.inl ⟨by rfl, by intro w hS; go_simp⟩) hHeld ?_
    try simp only [Act.put, List.setIfInBounds_toArray, List.set_cons_zero, List.set_cons_succ]
    refine wpAnyH_take (i := 7) (oi := { dst := some 23, op := Op.load 29 (Operand.tmp 22), type := 29, pos := "path.go:27", after := #[{ on := 6, ground := Ground.data }, { on := 8, ground := Ground.gcOnly Departure.lateStores }], guard := none }) (v := .agg (ints .u8 NBh).toArray) rfl (by kernel_rfl) (by kernel_rfl) (by kernel_rfl) (fun _ _ _ h => h) (yieldsIf_load_mid (by rfl) 29 _ rfl pg (0 + h * 32) rfl (ints .u8 NBh) _ (fun w hS => rng_below hnr hS.1 hng) Tryd.underlying29 rfl LN.out) hHeld ?_
    try simp only [Act.put, List.setIfInBounds_toArray, List.set_cons_zero, List.set_cons_succ]
    refine wpAnyH_ready (rs := [8]) (by kernel_rfl) (by simp) ?_
    refine (AllReadyH.cons (o := { dst := none, op := Op.store 29 (Operand.tmp 6) (Operand.tmp 16), type := 0, pos := "path.go:27", after := #[{ on := 0, ground := Ground.data }, { on := 0, ground := Ground.phase }, { on := 1, ground := Ground.textOnly Departure.lateStores }, { on := 2, ground := Ground.textOnly Departure.lateStores }, { on := 3, ground := Ground.textOnly Departure.lateStores }, { on := 4, ground := Ground.textOnly Departure.lateStores }, { on := 5, ground := Ground.textOnly Departure.lateStores }, { on := 6, ground := Ground.textOnly Departure.lateStores }, { on := 7, ground := Ground.textOnly Departure.lateStores }], guard := none }) rfl (fun K hK => ?_) AllReadyH.nil)
    rw [if_pos (by rfl)]
    refine wp_store_row 29 _ _ rfl (w.heap.size + 1) (ints .u8 d).toArray rfl rfl 29 _ (show w2.drew.heap[w.heap.size + 1]? = _ from r1) (by rw [Tryd.sizeD, List.size_toArray, Ld.out]) (by rw [List.size_toArray, List.size_toArray, Ld.out, LZ.out]) (all_oneCell_toArray (ints_one _ _)) ?_
    have q8 := (setRow_other w2.drew (w.heap.size + 1) (w.heap.size + 2) (ints .u8 d).toArray (by omega)).trans (show w2.drew.heap[w.heap.size + 2]? = _ from r2)
    have p8 := setRow_heap w2.drew (w.heap.size + 1) _ (ints .u8 d).toArray _ _ (show w2.drew.heap[w.heap.size + 1]? = _ from r1)
    refine hK.out _ _ (hHeld.setO (by omega) (by intro x hx; simp only [List.mem_cons, List.not_mem_nil, or_false] at hx; subst hx; simp) _) (fun hHeld2 => ?_)
    clear hK K hHeld
    have hHeld := hHeld2
    clear hHeld2
    try simp only [Act.put, List.setIfInBounds_toArray, List.set_cons_zero, List.set_cons_succ]
    refine wpAnyH_ready (rs := [9]) (by kernel_rfl) (by simp) ?_
    refine (AllReadyH.cons (o := { dst := none, op := Op.store 29 (Operand.tmp 7) (Operand.tmp 23), type := 0, pos := "path.go:27", after := #[{ on := 7, ground := Ground.data }, { on := 8, ground := Ground.chain }, { on := 0, ground := Ground.phase }, { on := 1, ground := Ground.phase }, { on := 2, ground := Ground.phase }, { on := 3, ground := Ground.phase }, { on := 4, ground := Ground.phase }, { on := 5, ground := Ground.phase }, { on := 6, ground := Ground.phase }, { on := 7, ground := Ground.phase }, { on := 8, ground := Ground.phase }], guard := none }) rfl (fun K hK => ?_) AllReadyH.nil)
    rw [if_pos (by rfl)]
    refine wp_store_row 29 _ _ rfl (w.heap.size + 2) (ints .u8 NBh).toArray rfl rfl 29 _ q8 (by rw [Tryd.sizeD, List.size_toArray, LNBh.out]) (by rw [List.size_toArray, List.size_toArray, LNBh.out, LZ.out]) (all_oneCell_toArray (ints_one _ _)) ?_
    have p9 := (setRow_other _ (w.heap.size + 2) (w.heap.size + 1) (ints .u8 NBh).toArray (by omega)).trans p8
    have q9 := setRow_heap _ (w.heap.size + 2) _ (ints .u8 NBh).toArray _ _ q8
    refine hK.out _ _ (hHeld.setO (by omega) (by intro x hx; simp only [List.mem_cons, List.not_mem_nil, or_false] at hx; subst hx; simp) _) (fun hHeld2 => ?_)
    clear hK K hHeld
    have hHeld := hHeld2
    clear hHeld2
    try simp only [Act.put, List.setIfInBounds_toArray, List.set_cons_zero, List.set_cons_succ]
    refine wpAnyH_done (by kernel_rfl) ?_ _
    refine NoPanic.normal ?_
    go_wp2
    exact bodyPost_ret (v := .tuple #[.agg (ints .u8 d).toArray, .agg (ints .u8 NBh).toArray]) (results_cc Tryd.results35 _ _ (w.heap.size + 1) 29 _ _ _ rfl p9 Tryd.underlying29 rfl (by rw [Tryd.sizeD, List.size_toArray, Ld.out]) (w.heap.size + 2) (.agg (ints .u8 NBh).toArray) rfl (run_loadVar_row _ _ 29 29 _ _ _ q9 Tryd.underlying29 rfl (by rw [Tryd.sizeD, List.size_toArray, LNBh.out]))) rfl ⟨rfl, hHeld.1⟩
  · rw [hb]
    have HI : (if (1 : Int) = 0 then d else NBh) = NBh := if_neg (by decide)
    have HJ : (if (1 : Int) = 0 then NBh else d) = d := if_neg (by decide)
    have HI' := hid HI
    have HJ' := hid HJ
    clear HI HJ
    go_wp2_with fail
    refine wp_region_noPanic ?_
    refine wp_region_held_drew (S := (fun w' => BK w w' [(w.heap.size, ints .u8 d, 29)])) (by kernel_rfl) d5.drew (fun hHeld => ?_)
    refine wpAnyH_take (i := 0) (oi := { dst := some 24, op := Op.move (Operand.tmp 0), type := 44, pos := "path.go:29", after := #[], guard := none }) (v := .pointer (some ⟨cb, 0, none⟩)) rfl (by kernel_rfl) (by kernel_rfl) (by kernel_rfl) (fun _ _ _ h => h) (Or.inl ⟨by rfl, by intro w hS; go_simp⟩) hHeld ?_
    try simp only [Act.put, List.setIfInBounds_toArray, List.set_cons_zero, List.set_cons_succ]
    refine wpAnyH_take (i := 4) (oi := { dst := some 28, op := Op.move (Operand.tmp 1), type := 3, pos := "path.go:29", after := #[], guard := none }) (v := .int .i64 h) rfl (by kernel_rfl) (by kernel_rfl) (by kernel_rfl) (fun _ _ _ h => h) (Or.inl ⟨by rfl, by intro w hS; go_simp⟩) hHeld ?_
    try simp only [Act.put, List.setIfInBounds_toArray, List.set_cons_zero, List.set_cons_succ]
    refine wpAnyH_take (i := 7) (oi := { dst := some 31, op := Op.load 29 (Operand.tmp 5), type := 29, pos := "path.go:29", after := #[{ on := 8, ground := Ground.gcOnly Departure.lateStores }], guard := none }) (v := .agg (ints .u8 d).toArray) rfl (by kernel_rfl) (by kernel_rfl) (by kernel_rfl) (fun _ _ _ h => h) (yieldsIf_load_mid (by rfl) 29 _ rfl w.heap.size (0) rfl (ints .u8 d) _ (fun w hS => hS.rng (.head _) (fun j x hx => by rw [Nat.zero_add]; exact hx)) Tryd.underlying29 rfl LD.out) hHeld ?_
    try simp only [Act.put, List.setIfInBounds_toArray, List.set_cons_zero, List.set_cons_succ]
    refine wpAnyH_take (i := 1) (oi := { dst := some 25, op := Op.nilCheck (Operand.tmp 24), type := 0, pos := "path.go:29", after := #[{ on := 0, ground := Ground.data }], guard := none }) (v := .pointer (some ⟨cb, 0, none⟩)) rfl (by kernel_rfl) (by kernel_rfl) (by kernel_rfl) (fun _ _ _ h => h) (Or.inl ⟨by rfl, by intro w hS; go_simp⟩) hHeld ?_
    try simp only [Act.put, List.setIfInBounds_toArray, List.set_cons_zero, List.set_cons_succ]
    refine wpAnyH_take (i := 2) (oi := { dst := some 26, op := Op.fieldAddr 50 (Operand.tmp 25) 4, type := 0, pos := "path.go:29", after := #[{ on := 1, ground := Ground.data }], guard := none }) (v := .pointer (some ⟨cb, 102, none⟩)) rfl (by kernel_rfl) (by kernel_rfl) (by kernel_rfl) (fun _ _ _ h => h) (Or.inl ⟨by rfl, by intro w hS; go_simp⟩) hHeld ?_
    try simp only [Act.put, List.setIfInBounds_toArray, List.set_cons_zero, List.set_cons_succ]
    refine wpAnyH_take (i := 3) (oi := { dst := some 27, op := Op.load 39 (Operand.tmp 26), type := 39, pos := "path.go:29", after := #[{ on := 2, ground := Ground.data }], guard := none }) (v := .slice (some ⟨pg, 0, none⟩) 256 pc) rfl (by kernel_rfl) (by kernel_rfl) (by kernel_rfl) (fun _ _ _ h => h) (Or.inl ⟨by rfl, by intro w hS; have hc := (hS.1.cell (p := ⟨cb, 102, none⟩) hcb).trans c102; go_simp⟩) hHeld ?_
    try simp only [Act.put, List.setIfInBounds_toArray, List.set_cons_zero, List.set_cons_succ]
    refine wpAnyH_take (i := 5) (oi := { dst := some 29, op := Op.indexAddr 39 (Operand.tmp 27) (Operand.tmp 28), type := 0, pos := "path.go:29", after := #[{ on := 3, ground := Ground.data }, { on := 4, ground := Ground.data }], guard := none }) (v := .pointer (some ⟨pg, 0 + h * 32, none⟩)) rfl (by kernel_rfl) (by kernel_rfl) (by kernel_rfl) (fun _ _ _ h => h) (Or.inl ⟨by rfl, by intro w hS; go_simp⟩) hHeld ?_
    try simp only [Act.put, List.setIfInBounds_toArray, List.set_cons_zero, List.set_cons_succ]
    refine wpAnyH_take (i := 6) (oi := { dst := some 30, op := Op.load 29 (Operand.tmp 29), type := 29, pos := "path.go:29", after := #[{ on := 5, ground := Ground.data }], guard := none }) (v := .agg (ints .u8 NBh).toArray) rfl (by kernel_rfl) (by kernel_rfl) (by kernel_rfl) (fun _ _ _ h => h) (yieldsIf_load_mid (by rfl) 29 _ rfl pg (0 + h * 32) rfl (ints .u8 NBh) _ (fun w hS => rng_below hnr hS.1 hng) Tryd.underlying29 rfl LN.out) hHeld ?_
    try simp only [Act.put, List.setIfInBounds_toArray, List.set_cons_zero, List.set_cons_succ]
    refine wpAnyH_ready (rs := [8]) (by kernel_rfl) (by simp) ?_
    refine (AllReadyH.cons (o := { dst := none, op := Op.store 29 (Operand.tmp 6) (Operand.tmp 30), type := 0, pos := "path.go:29", after := #[{ on := 6, ground := Ground.data }, { on := 0, ground := Ground.phase }, { on := 1, ground := Ground.phase }, { on := 2, ground := Ground.phase }, { on := 3, ground := Ground.phase }, { on := 4, ground := Ground.phase }, { on := 5, ground := Ground.phase }, { on := 6, ground := Ground.phase }, { on := 7, ground := Ground.textOnly Departure.lateStores }], guard := none }) rfl (fun K hK => ?_) AllReadyH.nil)
    rw [if_pos (by rfl)]
    refine wp_store_row 29 _ _ rfl (w.heap.size + 1) (ints .u8 NBh).toArray rfl rfl 29 _ (show w2.drew.heap[w.heap.size + 1]? = _ from r1) (by rw [Tryd.sizeD, List.size_toArray, LNBh.out]) (by rw [List.size_toArray, List.size_toArray, LNBh.out, LZ.out]) (all_oneCell_toArray (ints_one _ _)) ?_
    have q8 := (setRow_other w2.drew (w.heap.size + 1) (w.heap.size + 2) (ints .u8 NBh).toArray (by omega)).trans (show w2.drew.heap[w.heap.size + 2]? = _ from r2)
    have p8 := setRow_heap w2.drew (w.heap.size + 1) _ (ints .u8 NBh).toArray _ _ (show w2.drew.heap[w.heap.size + 1]? = _ from r1)
    refine hK.out _ _ (hHeld.setO (by omega) (by intro x hx; simp only [List.mem_cons, List.not_mem_nil, or_false] at hx; subst hx; simp) _) (fun hHeld2 => ?_)
    clear hK K hHeld
    have hHeld := hHeld2
    clear hHeld2
    try simp only [Act.put, List.setIfInBounds_toArray, List.set_cons_zero, List.set_cons_succ]
    refine wpAnyH_ready (rs := [9]) (by kernel_rfl) (by simp) ?_
    refine (AllReadyH.cons (o := { dst := none, op := Op.store 29 (Operand.tmp 7) (Operand.tmp 31), type := 0, pos := "path.go:29", after := #[{ on := 7, ground := Ground.data }, { on := 8, ground := Ground.chain }, { on := 0, ground := Ground.phase }, { on := 1, ground := Ground.phase }, { on := 2, ground := Ground.phase }, { on := 3, ground := Ground.phase }, { on := 4, ground := Ground.phase }, { on := 5, ground := Ground.phase }, { on := 6, ground := Ground.phase }, { on := 7, ground := Ground.phase }, { on := 8, ground := Ground.phase }], guard := none }) rfl (fun K hK => ?_) AllReadyH.nil)
    rw [if_pos (by rfl)]
    refine wp_store_row 29 _ _ rfl (w.heap.size + 2) (ints .u8 d).toArray rfl rfl 29 _ q8 (by rw [Tryd.sizeD, List.size_toArray, Ld.out]) (by rw [List.size_toArray, List.size_toArray, Ld.out, LZ.out]) (all_oneCell_toArray (ints_one _ _)) ?_
    have p9 := (setRow_other _ (w.heap.size + 2) (w.heap.size + 1) (ints .u8 d).toArray (by omega)).trans p8
    have q9 := setRow_heap _ (w.heap.size + 2) _ (ints .u8 d).toArray _ _ q8
    refine hK.out _ _ (hHeld.setO (by omega) (by intro x hx; simp only [List.mem_cons, List.not_mem_nil, or_false] at hx; subst hx; simp) _) (fun hHeld2 => ?_)
    clear hK K hHeld
    have hHeld := hHeld2
    clear hHeld2
    try simp only [Act.put, List.setIfInBounds_toArray, List.set_cons_zero, List.set_cons_succ]
    refine wpAnyH_done (by kernel_rfl) ?_ _
    refine NoPanic.normal ?_
    go_wp2
    exact bodyPost_ret (v := .tuple #[.agg (ints .u8 NBh).toArray, .agg (ints .u8 d).toArray]) (results_cc Tryd.results35 _ _ (w.heap.size + 1) 29 _ _ _ rfl p9 Tryd.underlying29 rfl (by rw [Tryd.sizeD, List.size_toArray, LNBh.out]) (w.heap.size + 2) (.agg (ints .u8 d).toArray) rfl (run_loadVar_row _ _ 29 29 _ _ _ q9 Tryd.underlying29 rfl (by rw [Tryd.sizeD, List.size_toArray, Ld.out]))) rfl ⟨rfl, hHeld.1⟩
end Go.Proofs.YtblcpcfonnaiiaaDoor
