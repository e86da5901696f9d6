import Derived.Test.YtbpamknebjdicaaK8
namespace Go.Proofs.Ytbpamknebjdicaa.K2
set_option linter.unusedVariables false
set_option linter.unusedSimpArgs false
open Go.RowKit
attribute [local go_sem ↓] Go.wp_at_zero Go.wp_at_succ


/-- What a Get tells. -/
def getV : Option Int → Value
  | none => .string ⟨#[]⟩
  | some v => argV v
theorem zero_pentry (w : World) : (zeroValue 76).run Try.prog w = .ok (.pointer none) w := by kernel_rfl
theorem CK.look_no {w : World} {base p m n : Nat} {s : CSi} (h : CK w base p m n s) {k : Int} (hk : wfK k) (hl : s.look k = none) : (Instr.lookup 75 (.map (some m)) (argK k) true).run Try.prog w = .ok (.tuple #[.pointer none, .bool false]) w := by
  obtain ⟨M, hm, hM⟩ := h.mp
  obtain ⟨v, ps, hrun, hv⟩ := hm.look_ok keyedK Try.underlying75 (zero_pentry w) PR_none (keyOfK hk).2
  obtain ⟨e1, e2⟩ := hM.no k hk hl
  rw [e2] at hv
  rw [hrun, e1, PR_inv0 hv]
theorem CK.look_yes {w : World} {base p m n : Nat} {s : CSi} (h : CK w base p m n s) {k : Int} (hk : wfK k) {b : Nat} (hl : s.look k = some b) : (Instr.lookup 75 (.map (some m)) (argK k) true).run Try.prog w = .ok (.tuple #[.pointer (some ⟨b, 0, none⟩), .bool true]) w := by
  obtain ⟨M, hm, hM⟩ := h.mp
  obtain ⟨v, ps, hrun, hv⟩ := hm.look_ok keyedK Try.underlying75 (zero_pentry w) PR_none (keyOfK hk).2
  obtain ⟨e1, e2⟩ := hM.yes k b hk hl
  rw [e2] at hv
  rw [hrun, e1, PR_inv hv]
/-- A cache in memory, its footprint and its pointer. -/
def CA (w : World) (base : Nat) (F : List Nat) (p : Nat) (N : Nat) (a : AS Int Int) : Prop :=
  ∃ m n s L, F = fpC p m s ∧ CK w base p m n s ∧ Abs s L none a ∧ n ≤ N ∧ a.tot ≤ N ∧ a.clean.length ≤ a.room
theorem CK.lt {w : World} {base p m n : Nat} {s : CSi} (h : CK w base p m n s) : ∀ k ∈ fpC p m s, base ≤ k ∧ k < w.heap.size := by
  intro k hk
  obtain ⟨M, hm, _⟩ := h.mp
  simp only [fpC, List.mem_cons] at hk
  rcases hk with rfl | rfl | e
  · exact ⟨h.bp, hlt h.cell⟩
  · exact ⟨h.bm, hm.lt⟩
  · exact ⟨h.bb k e, hlt (h.ents k e)⟩
theorem CA.lt {w : World} {base : Nat} {F : List Nat} {p N : Nat} {a : AS Int Int} (h : CA w base F p N a) : ∀ k ∈ F, base ≤ k ∧ k < w.heap.size := by
  obtain ⟨m, n, s, L, rfl, h, _⟩ := h; exact h.lt
theorem CK.of_heap {w w1 : World} {base p m n : Nat} {s : CSi} (h : CK w base p m n s) (hk : ∀ k ∈ fpC p m s, w1.heap[k]? = w.heap[k]?) : CK w1 base p m n s := by
  obtain ⟨M, hm, hM⟩ := h.mp
  exact ⟨(hk p (mem_p p m s)).trans h.cell, fun b hb => (hk b (mem_b hb)).trans (h.ents b hb), ⟨M, ownsMap_heap' hm (hk m (mem_m p m s)), hM⟩, h.kwf, h.bp, h.bm, h.bb⟩
theorem CA.other {w w1 : World} {base : Nat} {F G : List Nat} {p N : Nat} {a : AS Int Int} (h : CA w base G p N a) (hf : Fr F w w1) (ha : Apart F G) : CA w1 base G p N a := by
  have hl := h.lt
  obtain ⟨m, n, s, L, rfl, h, r⟩ := h
  exact ⟨m, n, s, L, rfl, h.of_heap fun i hi => hf.block i (hl i hi).2 (fun e => ha i e hi), r⟩
theorem CA.below {w w1 : World} {base : Nat} {F : List Nat} {p N : Nat} {a : AS Int Int} (h : CA w base F p N a) (hb : Below w.heap.size w w1) : CA w1 base F p N a := by
  have hl := h.lt
  obtain ⟨m, n, s, L, rfl, h, r⟩ := h
  exact ⟨m, n, s, L, rfl, h.of_heap fun i hi => hb.block i (hl i hi).2, r⟩
theorem CA.mono {w : World} {base : Nat} {F : List Nat} {p N N' : Nat} {a : AS Int Int} (h : CA w base F p N a) (hn : N ≤ N') : CA w base F p N' a := by
  obtain ⟨m, n, s, L, rfl, h, r1, r2, r3, r4⟩ := h
  exact ⟨m, n, s, L, rfl, h, r1, by omega, by omega, r4⟩
/-- What a call leaves. -/
def Nx (base : Nat) (F : List Nat) (p N : Nat) (w : World) (a : AS Int Int) (w' : World) : Prop := ∃ F', CA w' base F' p (N + 1) a ∧ Fr F w w' ∧ Gr w F F'
theorem LN.nx {base p m n N : Nat} {s t : CSi} {w w' : World} {L : Bool → List Nat} {a : AS Int Int} (h : LN base p m n s w t w') (hA : Abs t L none a) (h1 : n ≤ N + 1) (h2 : a.tot ≤ N + 1) (h3 : a.clean.length ≤ a.room) : Nx base (fpC p m s) p N w a w' :=
  ⟨fpC p m t, ⟨m, n, t, L, rfl, h.1, hA, h1, h2, h3⟩, h.2.1, by rw [show fpC p m t = fpC p m s by simp [fpC, h.2.2]]; exact Gr.refl _ _⟩
theorem CA.drew {w : World} {base : Nat} {F : List Nat} {p N : Nat} {a : AS Int Int} (h : CA w base F p N a) : CA w.drew base F p N a := by
  obtain ⟨m, n, s, L, rfl, h, r⟩ := h
  exact ⟨m, n, s, L, rfl, h.drew, r⟩
theorem Nx.unal {base : Nat} {F : List Nat} {p N : Nat} {w w' : World} {o : Obj} {a : AS Int Int} (h : Nx base F p N (w.alloc o).drew a w') : Nx base F p N w a w' := by
  obtain ⟨F', h1, h2, h3⟩ := h
  have h2' : Fr F (w.alloc o) w' := ⟨h2.os, h2.tape, h2.output, h2.size, h2.block⟩
  exact ⟨F', h1, (Fr.alloc' F w o).trans' h2', fun k hk => (h3 k hk).imp id (fun q => by have : (w.alloc o).heap.size ≤ k := q; simp at this; omega)⟩
set_option maxRecDepth 100000 in
set_option maxHeartbeats 1000000 in
theorem Get_any (w : World) (base : Nat) (F : List Nat) (p N : Nat) (a : AS Int Int) (h0 : CA w base F p N a) (k : Int) (hk : wfK k) (hN : N < 4000000000000000000) :
    Calls Try.prog 43 #[.pointer (some ⟨p, 0, none⟩), argK k] w fun x w' => x = .returned (.tuple #[getV (a.val k), .bool (a.val k).isSome]) ∧ Nx base F p N w (a.get k) w' := by
  obtain ⟨KL, hKL⟩ : ∃ KL, KL = ints .u8 (pathL k) := ⟨_, rfl⟩
  have hb0 := (Below.refl w.heap.size w).alloc (Nat.le_refl _) (.cells KL.toArray 43)
  have hz : CA (w.alloc (.cells KL.toArray 43)).drew base F p N a := (h0.below hb0).drew
  have HUN := hid (fun a' w' (x : Nx base F p N (w.alloc (.cells KL.toArray 43)).drew a' w') => x.unal)
  have hrz : (w.alloc (.cells KL.toArray 43)).drew.heap[w.heap.size]? = some (.cells KL.toArray 43 (0, 0)) := hnew w _
  have hnf : w.heap.size ∉ F := fun e => by have := (h0.lt _ e).2; omega
  have hka : argK k = .agg KL.toArray := by rw [hKL]; rfl
  have HKN := hid (show (Try.prog.info? 43).map (·.size) = some KL.toArray.size by rw [hKL]; exact keyN k)
  have HKN2 := hid (show (Try.prog.info? 43).map (·.size) = some KL.length by rw [hKL]; exact keyN k)
  clear h0 hb0 hKL
  obtain ⟨wz, hwz⟩ : ∃ wz, (w.alloc (.cells KL.toArray 43)).drew = wz := ⟨_, rfl⟩
  rw [hwz] at hz HUN hrz
  have hH0 : w.heap.size < wz.heap.size := hlt hrz
  obtain ⟨m, n, s, L, rfl, hC, hA, h1, h2, h3⟩ := hz
  have hgt := get_tot a k
  have c1 := hC.c1
  cases hl : s.look k with
  | none =>
    have hlk := hC.look_no hk hl
    have c9 := hC.c9
    have f9 := hC.fz 9
    have e1 : a.get k = { a with misses := a.misses + 1 } := by unfold AS.get; rw [hA.findH_no hl]; simp only; rw [hA.findC_no hl]
    have e2 : a.val k = none := by unfold AS.val; rw [hA.findH_no hl, hA.findC_no hl]; rfl
    have hE := LN.nx (N := N) ⟨hC.setMisses (s.misses + 1), (Fr.refl _ wz).setCell (mem_p p m s) _ _, rfl⟩ hA.miss (by omega) (by rw [← e1]; omega) h3
    have HE := hid hE
    rw [e1, e2]
    have g1 : 0 ≤ s.misses := by rw [hA.misses]; omega
    have g2 : s.misses < 4000000000000000000 := by rw [hA.misses]; unfold AS.tot at h2; omega
    clear hC hA hE hl hgt e1 e2
    simp only [hka] at *
    generalize s.misses = G at *
    have HSZ := hid (And.intro c1 (And.intro hrz hlk))
    go_enter Try.func43, Try.ntmps43
    go_wp2
    refine wp_region_noPanic ?_
    refine wp_region_held_drew (S := fun w' => w'.cell? ⟨p, 1, none⟩ = some (.map (some m)) ∧ w'.heap[w.heap.size]? = some (.cells KL.toArray 43 (0, 0)) ∧ (Instr.lookup 75 (.map (some m)) (.agg KL.toArray) true).run Try.prog w' = .ok (.tuple #[.pointer none, .bool false]) w') (by kernel_rfl) (by rw [hwz]; exact HSZ.out) (fun hHeld => ?_)
    refine wpAnyH_take (i := 0) (oi := { dst := some 10, op := Op.move (Operand.tmp 0), type := 40, pos := "cache.go:26", after := #[], guard := none }) (v := .pointer (some ⟨p, 0, none⟩)) rfl (by kernel_rfl) (by kernel_rfl) (by kernel_rfl) (fun _ _ _ h => h) (Or.inl ⟨by rfl, by intro w hS; go_simp⟩) hHeld ?_
    try simp only [Act.put, List.setIfInBounds_toArray, List.set_cons_zero, List.set_cons_succ]
    refine wpAnyH_take (i := 4) (oi := { dst := some 14, op := Op.load 43 (Operand.tmp 3), type := 43, pos := "cache.go:26", after := #[], guard := none }) (v := .agg (KL).toArray) rfl (by kernel_rfl) (by kernel_rfl) (by kernel_rfl) (fun _ _ _ h => h) (yieldsIf_load_mid (by rfl) 43 _ rfl w.heap.size (0) rfl (KL) _ (fun w hS => rng hS.2.1) Try.underlying43 rfl HKN2.out) hHeld ?_
    try simp only [Act.put, List.setIfInBounds_toArray, List.set_cons_zero, List.set_cons_succ]
    refine wpAnyH_take (i := 1) (oi := { dst := some 11, op := Op.nilCheck (Operand.tmp 10), type := 0, pos := "cache.go:26", after := #[{ on := 0, ground := Ground.data }], guard := none }) (v := .pointer (some ⟨p, 0, none⟩)) rfl (by kernel_rfl) (by kernel_rfl) (by kernel_rfl) (fun _ _ _ h => h) (Or.inl ⟨by rfl, by intro w hS; go_simp⟩) hHeld ?_
    try simp only [Act.put, List.setIfInBounds_toArray, List.set_cons_zero, List.set_cons_succ]
    refine wpAnyH_take (i := 2) (oi := { dst := some 12, op := Op.fieldAddr 80 (Operand.tmp 11) 1, type := 0, pos := "cache.go:26", after := #[{ on := 1, ground := Ground.data }], guard := none }) (v := .pointer (some ⟨p, 1, none⟩)) rfl (by kernel_rfl) (by kernel_rfl) (by kernel_rfl) (fun _ _ _ h => h) (Or.inl ⟨by rfl, by intro w hS; go_simp⟩) hHeld ?_
    try simp only [Act.put, List.setIfInBounds_toArray, List.set_cons_zero, List.set_cons_succ]
    refine wpAnyH_take (i := 3) (oi := { dst := some 13, op := Op.load 75 (Operand.tmp 12), type := 75, pos := "cache.go:26", after := #[{ on := 2, ground := Ground.data }], guard := none }) (v := .map (some m)) rfl (by kernel_rfl) (by kernel_rfl) (by kernel_rfl) (fun _ _ _ h => h) (Or.inl ⟨by rfl, by intro w hS; have hc := hS.1; go_simp⟩) hHeld ?_
    try simp only [Act.put, List.setIfInBounds_toArray, List.set_cons_zero, List.set_cons_succ]
    refine wpAnyH_take (i := 5) (oi := { dst := some 15, op := Op.lookup 75 (Operand.tmp 13) (Operand.tmp 14) true, type := 81, pos := "cache.go:26", after := #[{ on := 3, ground := Ground.data }, { on := 4, ground := Ground.data }], guard := none }) (v := .tuple #[.pointer none, .bool false]) rfl (by kernel_rfl) (by kernel_rfl) (by kernel_rfl) (fun _ _ _ h => h) (Or.inl ⟨by rfl, by intro w hS; (have hq := hS.2.2; go_simp)⟩) hHeld ?_
    try simp only [Act.put, List.setIfInBounds_toArray, List.set_cons_zero, List.set_cons_succ]
    refine wpAnyH_take (i := 6) (oi := { dst := some 9, op := Op.move (Operand.tmp 15), type := 81, pos := "cache.go:26", after := #[{ on := 5, ground := Ground.data }], guard := none }) (v := .tuple #[.pointer none, .bool false]) rfl (by kernel_rfl) (by kernel_rfl) (by kernel_rfl) (fun _ _ _ h => h) (Or.inl ⟨by rfl, by intro w hS; go_simp⟩) hHeld ?_
    try simp only [Act.put, List.setIfInBounds_toArray, List.set_cons_zero, List.set_cons_succ]
    refine wpAnyH_take (i := 7) (oi := { dst := some 16, op := Op.extract (Operand.tmp 9) 0, type := 76, pos := "cache.go:26", after := #[{ on := 6, ground := Ground.data }], guard := none }) (v := .pointer none) rfl (by kernel_rfl) (by kernel_rfl) (by kernel_rfl) (fun _ _ _ h => h) (Or.inl ⟨by rfl, by intro w hS; go_simp⟩) hHeld ?_
    try simp only [Act.put, List.setIfInBounds_toArray, List.set_cons_zero, List.set_cons_succ]
    refine wpAnyH_take (i := 8) (oi := { dst := some 17, op := Op.extract (Operand.tmp 9) 1, type := 4, pos := "cache.go:26", after := #[{ on := 6, ground := Ground.data }, { on := 9, ground := Ground.gcOnly Departure.lateStores }], guard := none }) (v := .bool false) rfl (by kernel_rfl) (by kernel_rfl) (by kernel_rfl) (fun _ _ _ h => h) (Or.inl ⟨by rfl, by intro w hS; go_simp⟩) hHeld ?_
    try simp only [Act.put, List.setIfInBounds_toArray, List.set_cons_zero, List.set_cons_succ]
    refine wpAnyH_take (i := 9) (oi := { dst := some 6, op := Op.assign (Operand.tmp 16), type := 76, pos := "cache.go:26", after := #[{ on := 7, ground := Ground.data }, { on := 0, ground := Ground.phase }, { on := 1, ground := Ground.phase }, { on := 2, ground := Ground.phase }, { on := 3, ground := Ground.phase }, { on := 4, ground := Ground.phase }, { on := 5, ground := Ground.phase }, { on := 6, ground := Ground.phase }, { on := 7, ground := Ground.phase }, { on := 8, ground := Ground.textOnly Departure.lateStores }], guard := none }) (v := .pointer none) rfl (by kernel_rfl) (by kernel_rfl) (by kernel_rfl) (fun _ _ _ h => h) (Or.inl ⟨by rfl, by intro w hS; go_simp⟩) hHeld ?_
    try simp only [Act.put, List.setIfInBounds_toArray, List.set_cons_zero, List.set_cons_succ]
    refine wpAnyH_take (i := 10) (oi := { dst := some 7, op := Op.assign (Operand.tmp 17), type := 4, pos := "cache.go:26", after := #[{ on := 8, ground := Ground.data }, { on := 9, ground := Ground.chain }, { on := 0, ground := Ground.phase }, { on := 1, ground := Ground.phase }, { on := 2, ground := Ground.phase }, { on := 3, ground := Ground.phase }, { on := 4, ground := Ground.phase }, { on := 5, ground := Ground.phase }, { on := 6, ground := Ground.phase }, { on := 7, ground := Ground.phase }, { on := 8, ground := Ground.phase }, { on := 9, ground := Ground.phase }], guard := none }) (v := .bool false) rfl (by kernel_rfl) (by kernel_rfl) (by kernel_rfl) (fun _ _ _ h => h) (Or.inl ⟨by rfl, by intro w hS; go_simp⟩) hHeld ?_
    try simp only [Act.put, List.setIfInBounds_toArray, List.set_cons_zero, List.set_cons_succ]
    refine wpAnyH_done (by kernel_rfl) ?_ _
    refine NoPanic.normal ?_
    rw [hwz]
    go_wp2
    go_ret2
    exact ⟨rfl, HUN.out _ _ HE.out⟩
  | some e =>
    obtain ⟨hin, hkey⟩ := hA.ref.look_in hl
    have heb : e ∈ s.bs := hin.elim (hA.ref.dom true e) (hA.ref.dom false e)
    have hlk := hC.look_yes hk hl
    have c8 := hC.c8
    have f8 := hC.fz 8
    have hC1 := hC.setHits (s.hits + 1)
    have hA1 := hA.hit
    have g1 : 0 ≤ s.hits := by rw [hA.hits]; omega
    have g2 : s.hits < 4000000000000000000 := by rw [hA.hits]; unfold AS.tot at h2; omega
    have hF1 : Fr (fpC p m s) wz (wz.setCell ⟨p, 8, none⟩ (.int .i64 (s.hits + 1))) := (Fr.refl _ wz).setCell (mem_p p m s) _ _
    rcases hin with hin | hin
    · obtain ⟨A, B, hL⟩ := mem_split' hin
      have H1 := hid (use_clean _ base p m n _ hC1 L hA1.ref A B e hL (by rw [hA1.lenC]; unfold AS.tot at h2; simp only; omega))
      have e1 : a.get k = { a with clean := (k, (s.E e).val) :: delL a.clean k, hits := a.hits + 1 } := by
        unfold AS.get
        rw [← hkey, (hA.findC hin).2]; simp only; rw [(hA.findC hin).1]
      have e2 : a.val k = some (s.E e).val := by unfold AS.val; rw [← hkey, (hA.findC hin).2, (hA.findC hin).1]; rfl
      have HE := hid (fun (t : CSi) (wz' : World) (q : LN base p m n { s with hits := s.hits + 1 } (wz.setCell ⟨p, 8, none⟩ (.int .i64 (s.hits + 1))) t wz') (q1 : Sm { s with hits := s.hits + 1 } t) (q2 : Ref t (updL L true (e :: (A ++ B))) none) => (by
        have hb : e ∈ t.bs := by rw [q.2.2]; exact heb
        have hv := q.1.ev hb
        rw [q1.val] at hv
        refine ⟨hv, ?_⟩
        have r := hA1.use hL q1 q2
        have hx := hA.use_len hL (s.E e).val
        rw [show (CS.E { s with hits := s.hits + 1 } e) = s.E e from rfl, hkey] at r
        rw [hkey] at hx
        rw [e1] at hgt ⊢
        exact LN.nx (s := s) ⟨q.1, hF1.trans' q.2.1, q.2.2⟩ r (by omega) (by omega) (by simp only; omega) : wz'.cell? ⟨e, 32, none⟩ = some (argV (s.E e).val) ∧ Nx base (fpC p m s) p N wz (a.get k) wz'))
      rw [e2]
      clear hC hA hC1 hA1 hl hgt e1 e2 hF1 hL hin hkey heb
      simp only [hka, argV] at *
      generalize s.hits = G at *
      generalize (s.E e).val = VV at *
      have HSZ := hid (And.intro c1 (And.intro hrz hlk))
      go_enter Try.func43, Try.ntmps43
      go_wp2
      refine wp_region_noPanic ?_
      refine wp_region_held_drew (S := fun w' => w'.cell? ⟨p, 1, none⟩ = some (.map (some m)) ∧ w'.heap[w.heap.size]? = some (.cells KL.toArray 43 (0, 0)) ∧ (Instr.lookup 75 (.map (some m)) (.agg KL.toArray) true).run Try.prog w' = .ok (.tuple #[.pointer (some ⟨e, 0, none⟩), .bool true]) w') (by kernel_rfl) (by rw [hwz]; exact HSZ.out) (fun hHeld => ?_)
      refine wpAnyH_take (i := 0) (oi := { dst := some 10, op := Op.move (Operand.tmp 0), type := 40, pos := "cache.go:26", after := #[], guard := none }) (v := .pointer (some ⟨p, 0, none⟩)) rfl (by kernel_rfl) (by kernel_rfl) (by kernel_rfl) (fun _ _ _ h => h) (Or.inl ⟨by rfl, by intro w hS; go_simp⟩) hHeld ?_
      try simp only [Act.put, List.setIfInBounds_toArray, List.set_cons_zero, List.set_cons_succ]
      refine wpAnyH_take (i := 4) (oi := { dst := some 14, op := Op.load 43 (Operand.tmp 3), type := 43, pos := "cache.go:26", after := #[], guard := none }) (v := .agg (KL).toArray) rfl (by kernel_rfl) (by kernel_rfl) (by kernel_rfl) (fun _ _ _ h => h) (yieldsIf_load_mid (by rfl) 43 _ rfl w.heap.size (0) rfl (KL) _ (fun w hS => rng hS.2.1) Try.underlying43 rfl HKN2.out) hHeld ?_
      try simp only [Act.put, List.setIfInBounds_toArray, List.set_cons_zero, List.set_cons_succ]
      refine wpAnyH_take (i := 1) (oi := { dst := some 11, op := Op.nilCheck (Operand.tmp 10), type := 0, pos := "cache.go:26", after := #[{ on := 0, ground := Ground.data }], guard := none }) (v := .pointer (some ⟨p, 0, none⟩)) rfl (by kernel_rfl) (by kernel_rfl) (by kernel_rfl) (fun _ _ _ h => h) (Or.inl ⟨by rfl, by intro w hS; go_simp⟩) hHeld ?_
      try simp only [Act.put, List.setIfInBounds_toArray, List.set_cons_zero, List.set_cons_succ]
      refine wpAnyH_take (i := 2) (oi := { dst := some 12, op := Op.fieldAddr 80 (Operand.tmp 11) 1, type := 0, pos := "cache.go:26", after := #[{ on := 1, ground := Ground.data }], guard := none }) (v := .pointer (some ⟨p, 1, none⟩)) rfl (by kernel_rfl) (by kernel_rfl) (by kernel_rfl) (fun _ _ _ h => h) (Or.inl ⟨by rfl, by intro w hS; go_simp⟩) hHeld ?_
      try simp only [Act.put, List.setIfInBounds_toArray, List.set_cons_zero, List.set_cons_succ]
      refine wpAnyH_take (i := 3) (oi := { dst := some 13, op := Op.load 75 (Operand.tmp 12), type := 75, pos := "cache.go:26", after := #[{ on := 2, ground := Ground.data }], guard := none }) (v := .map (some m)) rfl (by kernel_rfl) (by kernel_rfl) (by kernel_rfl) (fun _ _ _ h => h) (Or.inl ⟨by rfl, by intro w hS; have hc := hS.1; go_simp⟩) hHeld ?_
      try simp only [Act.put, List.setIfInBounds_toArray, List.set_cons_zero, List.set_cons_succ]
      refine wpAnyH_take (i := 5) (oi := { dst := some 15, op := Op.lookup 75 (Operand.tmp 13) (Operand.tmp 14) true, type := 81, pos := "cache.go:26", after := #[{ on := 3, ground := Ground.data }, { on := 4, ground := Ground.data }], guard := none }) (v := .tuple #[.pointer (some ⟨e, 0, none⟩), .bool true]) rfl (by kernel_rfl) (by kernel_rfl) (by kernel_rfl) (fun _ _ _ h => h) (Or.inl ⟨by rfl, by intro w hS; (have hq := hS.2.2; go_simp)⟩) hHeld ?_
      try simp only [Act.put, List.setIfInBounds_toArray, List.set_cons_zero, List.set_cons_succ]
      refine wpAnyH_take (i := 6) (oi := { dst := some 9, op := Op.move (Operand.tmp 15), type := 81, pos := "cache.go:26", after := #[{ on := 5, ground := Ground.data }], guard := none }) (v := .tuple #[.pointer (some ⟨e, 0, none⟩), .bool true]) rfl (by kernel_rfl) (by kernel_rfl) (by kernel_rfl) (fun _ _ _ h => h) (Or.inl ⟨by rfl, by intro w hS; go_simp⟩) hHeld ?_
      try simp only [Act.put, List.setIfInBounds_toArray, List.set_cons_zero, List.set_cons_succ]
      refine wpAnyH_take (i := 7) (oi := { dst := some 16, op := Op.extract (Operand.tmp 9) 0, type := 76, pos := "cache.go:26", after := #[{ on := 6, ground := Ground.data }], guard := none }) (v := .pointer (some ⟨e, 0, none⟩)) rfl (by kernel_rfl) (by kernel_rfl) (by kernel_rfl) (fun _ _ _ h => h) (Or.inl ⟨by rfl, by intro w hS; go_simp⟩) hHeld ?_
      try simp only [Act.put, List.setIfInBounds_toArray, List.set_cons_zero, List.set_cons_succ]
      refine wpAnyH_take (i := 8) (oi := { dst := some 17, op := Op.extract (Operand.tmp 9) 1, type := 4, pos := "cache.go:26", after := #[{ on := 6, ground := Ground.data }, { on := 9, ground := Ground.gcOnly Departure.lateStores }], guard := none }) (v := .bool true) rfl (by kernel_rfl) (by kernel_rfl) (by kernel_rfl) (fun _ _ _ h => h) (Or.inl ⟨by rfl, by intro w hS; go_simp⟩) hHeld ?_
      try simp only [Act.put, List.setIfInBounds_toArray, List.set_cons_zero, List.set_cons_succ]
      refine wpAnyH_take (i := 9) (oi := { dst := some 6, op := Op.assign (Operand.tmp 16), type := 76, pos := "cache.go:26", after := #[{ on := 7, ground := Ground.data }, { on := 0, ground := Ground.phase }, { on := 1, ground := Ground.phase }, { on := 2, ground := Ground.phase }, { on := 3, ground := Ground.phase }, { on := 4, ground := Ground.phase }, { on := 5, ground := Ground.phase }, { on := 6, ground := Ground.phase }, { on := 7, ground := Ground.phase }, { on := 8, ground := Ground.textOnly Departure.lateStores }], guard := none }) (v := .pointer (some ⟨e, 0, none⟩)) rfl (by kernel_rfl) (by kernel_rfl) (by kernel_rfl) (fun _ _ _ h => h) (Or.inl ⟨by rfl, by intro w hS; go_simp⟩) hHeld ?_
      try simp only [Act.put, List.setIfInBounds_toArray, List.set_cons_zero, List.set_cons_succ]
      refine wpAnyH_take (i := 10) (oi := { dst := some 7, op := Op.assign (Operand.tmp 17), type := 4, pos := "cache.go:26", after := #[{ on := 8, ground := Ground.data }, { on := 9, ground := Ground.chain }, { on := 0, ground := Ground.phase }, { on := 1, ground := Ground.phase }, { on := 2, ground := Ground.phase }, { on := 3, ground := Ground.phase }, { on := 4, ground := Ground.phase }, { on := 5, ground := Ground.phase }, { on := 6, ground := Ground.phase }, { on := 7, ground := Ground.phase }, { on := 8, ground := Ground.phase }, { on := 9, ground := Ground.phase }], guard := none }) (v := .bool true) rfl (by kernel_rfl) (by kernel_rfl) (by kernel_rfl) (fun _ _ _ h => h) (Or.inl ⟨by rfl, by intro w hS; go_simp⟩) hHeld ?_
      try simp only [Act.put, List.setIfInBounds_toArray, List.set_cons_zero, List.set_cons_succ]
      refine wpAnyH_done (by kernel_rfl) ?_ _
      refine NoPanic.normal ?_
      rw [hwz]
      go_wp2_with (go_at_call 61; refine H1.out.mono ?_; rintro x w1 ⟨rfl, t, hl1, hs1, hr1⟩; obtain ⟨cv, hnx⟩ := HE.out t w1 hl1 hs1 hr1; have HX := hid hnx; clear H1 HE hl1 hs1 hr1 hnx)
      go_ret2
      exact ⟨rfl, HUN.out _ _ HX.out⟩
    · have H1 := hid (use_held _ base p m n _ hC1 e heb (hA.ref.flag false e hin))
      have cv := hC1.ev (b := e) heb
      have e1 : a.get k = { a with hits := a.hits + 1 } := by
        unfold AS.get
        rw [← hkey, hA.findH hin]
      have e2 : a.val k = some (s.E e).val := by unfold AS.val; rw [← hkey, hA.findH hin]; rfl
      have HE := hid (LN.nx (N := N) ⟨hC1, hF1, rfl⟩ hA1 (by omega) (by rw [← e1]; omega) h3)
      rw [e1, e2]
      clear hC hA hC1 hA1 hl hgt e1 e2 hF1 hin hkey heb
      change (wz.setCell _ _).cell? _ = some (argV (s.E e).val) at cv
      simp only [hka, argV] at *
      generalize s.hits = G at *
      generalize (s.E e).val = VV at *
      have HSZ := hid (And.intro c1 (And.intro hrz hlk))
      go_enter Try.func43, Try.ntmps43
      go_wp2
      refine wp_region_noPanic ?_
      refine wp_region_held_drew (S := fun w' => w'.cell? ⟨p, 1, none⟩ = some (.map (some m)) ∧ w'.heap[w.heap.size]? = some (.cells KL.toArray 43 (0, 0)) ∧ (Instr.lookup 75 (.map (some m)) (.agg KL.toArray) true).run Try.prog w' = .ok (.tuple #[.pointer (some ⟨e, 0, none⟩), .bool true]) w') (by kernel_rfl) (by rw [hwz]; exact HSZ.out) (fun hHeld => ?_)
      refine wpAnyH_take (i := 0) (oi := { dst := some 10, op := Op.move (Operand.tmp 0), type := 40, pos := "cache.go:26", after := #[], guard := none }) (v := .pointer (some ⟨p, 0, none⟩)) rfl (by kernel_rfl) (by kernel_rfl) (by kernel_rfl) (fun _ _ _ h => h) (Or.inl ⟨by rfl, by intro w hS; go_simp⟩) hHeld ?_
      try simp only [Act.put, List.setIfInBounds_toArray, List.set_cons_zero, List.set_cons_succ]
      refine wpAnyH_take (i := 4) (oi := { dst := some 14, op := Op.load 43 (Operand.tmp 3), type := 43, pos := "cache.go:26", after := #[], guard := none }) (v := .agg (KL).toArray) rfl (by kernel_rfl) (by kernel_rfl) (by kernel_rfl) (fun _ _ _ h => h) (yieldsIf_load_mid (by rfl) 43 _ rfl w.heap.size (0) rfl (KL) _ (fun w hS => rng hS.2.1) Try.underlying43 rfl HKN2.out) hHeld ?_
      try simp only [Act.put, List.setIfInBounds_toArray, List.set_cons_zero, List.set_cons_succ]
      refine wpAnyH_take (i := 1) (oi := { dst := some 11, op := Op.nilCheck (Operand.tmp 10), type := 0, pos := "cache.go:26", after := #[{ on := 0, ground := Ground.data }], guard := none }) (v := .pointer (some ⟨p, 0, none⟩)) rfl (by kernel_rfl) (by kernel_rfl) (by kernel_rfl) (fun _ _ _ h => h) (Or.inl ⟨by rfl, by intro w hS; go_simp⟩) hHeld ?_
      try simp only [Act.put, List.setIfInBounds_toArray, List.set_cons_zero, List.set_cons_succ]
      refine wpAnyH_take (i := 2) (oi := { dst := some 12, op := Op.fieldAddr 80 (Operand.tmp 11) 1, type := 0, pos := "cache.go:26", after := #[{ on := 1, ground := Ground.data }], guard := none }) (v := .pointer (some ⟨p, 1, none⟩)) rfl (by kernel_rfl) (by kernel_rfl) (by kernel_rfl) (fun _ _ _ h => h) (Or.inl ⟨by rfl, by intro w hS; go_simp⟩) hHeld ?_
      try simp only [Act.put, List.setIfInBounds_toArray, List.set_cons_zero, List.set_cons_succ]
      refine wpAnyH_take (i := 3) (oi := { dst := some 13, op := Op.load 75 (Operand.tmp 12), type := 75, pos := "cache.go:26", after := #[{ on := 2, ground := Ground.data }], guard := none }) (v := .map (some m)) rfl (by kernel_rfl) (by kernel_rfl) (by kernel_rfl) (fun _ _ _ h => h) (Or.inl ⟨by rfl, by intro w hS; have hc := hS.1; go_simp⟩) hHeld ?_
      try simp only [Act.put, List.setIfInBounds_toArray, List.set_cons_zero, List.set_cons_succ]
      refine wpAnyH_take (i := 5) (oi := { dst := some 15, op := Op.lookup 75 (Operand.tmp 13) (Operand.tmp 14) true, type := 81, pos := "cache.go:26", after := #[{ on := 3, ground := Ground.data }, { on := 4, ground := Ground.data }], guard := none }) (v := .tuple #[.pointer (some ⟨e, 0, none⟩), .bool true]) rfl (by kernel_rfl) (by kernel_rfl) (by kernel_rfl) (fun _ _ _ h => h) (Or.inl ⟨by rfl, by intro w hS; (have hq := hS.2.2; go_simp)⟩) hHeld ?_
      try simp only [Act.put, List.setIfInBounds_toArray, List.set_cons_zero, List.set_cons_succ]
      refine wpAnyH_take (i := 6) (oi := { dst := some 9, op := Op.move (Operand.tmp 15), type := 81, pos := "cache.go:26", after := #[{ on := 5, ground := Ground.data }], guard := none }) (v := .tuple #[.pointer (some ⟨e, 0, none⟩), .bool true]) rfl (by kernel_rfl) (by kernel_rfl) (by kernel_rfl) (fun _ _ _ h => h) (Or.inl ⟨by rfl, by intro w hS; go_simp⟩) hHeld ?_
      try simp only [Act.put, List.setIfInBounds_toArray, List.set_cons_zero, List.set_cons_succ]
      refine wpAnyH_take (i := 7) (oi := { dst := some 16, op := Op.extract (Operand.tmp 9) 0, type := 76, pos := "cache.go:26", after := #[{ on := 6, ground := Ground.data }], guard := none }) (v := .pointer (some ⟨e, 0, none⟩)) rfl (by kernel_rfl) (by kernel_rfl) (by kernel_rfl) (fun _ _ _ h => h) (Or.inl ⟨by rfl, by intro w hS; go_simp⟩) hHeld ?_
      try simp only [Act.put, List.setIfInBounds_toArray, List.set_cons_zero, List.set_cons_succ]
      refine wpAnyH_take (i := 8) (oi := { dst := some 17, op := Op.extract (Operand.tmp 9) 1, type := 4, pos := "cache.go:26", after := #[{ on := 6, ground := Ground.data }, { on := 9, ground := Ground.gcOnly Departure.lateStores }], guard := none }) (v := .bool true) rfl (by kernel_rfl) (by kernel_rfl) (by kernel_rfl) (fun _ _ _ h => h) (Or.inl ⟨by rfl, by intro w hS; go_simp⟩) hHeld ?_
      try simp only [Act.put, List.setIfInBounds_toArray, List.set_cons_zero, List.set_cons_succ]
      refine wpAnyH_take (i := 9) (oi := { dst := some 6, op := Op.assign (Operand.tmp 16), type := 76, pos := "cache.go:26", after := #[{ on := 7, ground := Ground.data }, { on := 0, ground := Ground.phase }, { on := 1, ground := Ground.phase }, { on := 2, ground := Ground.phase }, { on := 3, ground := Ground.phase }, { on := 4, ground := Ground.phase }, { on := 5, ground := Ground.phase }, { on := 6, ground := Ground.phase }, { on := 7, ground := Ground.phase }, { on := 8, ground := Ground.textOnly Departure.lateStores }], guard := none }) (v := .pointer (some ⟨e, 0, none⟩)) rfl (by kernel_rfl) (by kernel_rfl) (by kernel_rfl) (fun _ _ _ h => h) (Or.inl ⟨by rfl, by intro w hS; go_simp⟩) hHeld ?_
      try simp only [Act.put, List.setIfInBounds_toArray, List.set_cons_zero, List.set_cons_succ]
      refine wpAnyH_take (i := 10) (oi := { dst := some 7, op := Op.assign (Operand.tmp 17), type := 4, pos := "cache.go:26", after := #[{ on := 8, ground := Ground.data }, { on := 9, ground := Ground.chain }, { on := 0, ground := Ground.phase }, { on := 1, ground := Ground.phase }, { on := 2, ground := Ground.phase }, { on := 3, ground := Ground.phase }, { on := 4, ground := Ground.phase }, { on := 5, ground := Ground.phase }, { on := 6, ground := Ground.phase }, { on := 7, ground := Ground.phase }, { on := 8, ground := Ground.phase }, { on := 9, ground := Ground.phase }], guard := none }) (v := .bool true) rfl (by kernel_rfl) (by kernel_rfl) (by kernel_rfl) (fun _ _ _ h => h) (Or.inl ⟨by rfl, by intro w hS; go_simp⟩) hHeld ?_
      try simp only [Act.put, List.setIfInBounds_toArray, List.set_cons_zero, List.set_cons_succ]
      refine wpAnyH_done (by kernel_rfl) ?_ _
      refine NoPanic.normal ?_
      rw [hwz]
      go_wp2_with (go_at_call 61; refine H1.out.mono ?_; rintro x w1 ⟨rfl, rfl⟩)
      go_ret2
      exact ⟨rfl, HUN.out _ _ HE.out⟩
end Go.Proofs.Ytbpamknebjdicaa.K2
