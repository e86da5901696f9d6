import Derived.Test.YtbpamknebjdicaaK10
namespace Go.Proofs.Ytbpamknebjdicaa.K2
set_option linter.unusedVariables false
set_option linter.unusedSimpArgs false
open Go.RowKit
attribute [local go_sem ↓] Go.wp_at_zero Go.wp_at_succ


theorem LN.setHeld {base p m n : Nat} {s t : CSi} {w w1 : World} {e : Nat} (h : LN base p m n s w t w1) (he : e ∈ t.bs) (f : Bool) : w1.cell? ⟨e, 33, none⟩ = some (.bool (t.E e).held) ∧ w1.frozen? ⟨e, 33, none⟩ = false ∧ LN base p m n s w (t.setHeld e f) (w1.setCell ⟨e, 33, none⟩ (.bool f)) :=
  ⟨h.1.eh he, h.1.fe he _, h.1.held he f, h.2.1.setCell (mem_b (by rw [← h.2.2]; exact he)) _ _, h.2.2⟩
theorem LN.refl {base p m n : Nat} {s : CSi} {w : World} (h : CK w base p m n s) : LN base p m n s w s w := ⟨h, Fr.refl _ _, rfl⟩
set_option maxRecDepth 100000 in
set_option maxHeartbeats 1000000 in
theorem Hold_any (w : World) (base : Nat) (F : List Nat) (p N : Nat) (a : AS Int Int) (h0 : CA w base F p N a) (k v : Int) (hk : wfK k) (hN : N < 3000000000000000000) :
    Calls Try.prog 19 #[.pointer (some ⟨p, 0, none⟩), argK k, argV v] w fun x w' => x = .returned (.tuple #[]) ∧ Nx base F p N w (a.hold k v) w' := by
  obtain ⟨KL, hKL⟩ : ∃ KL, KL = ints .u8 (pathL k) := ⟨_, rfl⟩
  have hb0 := (Below.refl w.heap.size w).alloc (Nat.le_refl _) (.cells KL.toArray 43)
  have hz : CA (w.alloc (.cells KL.toArray 43)).drew base F p N a := (h0.below hb0).drew
  have HUN := hid (fun a' w' (x : Nx base F p N (w.alloc (.cells KL.toArray 43)).drew a' w') => x.unal)
  have hrz : (w.alloc (.cells KL.toArray 43)).drew.heap[w.heap.size]? = some (.cells KL.toArray 43 (0, 0)) := hnew w _
  have hnf : w.heap.size ∉ F := fun e => by have := (h0.lt _ e).2; omega
  have hka : argK k = .agg KL.toArray := by rw [hKL]; rfl
  have HKN := hid (show (Try.prog.info? 43).map (·.size) = some KL.toArray.size by rw [hKL]; exact keyN k)
  have HKN2 := hid (show (Try.prog.info? 43).map (·.size) = some KL.length by rw [hKL]; exact keyN k)
  clear h0 hb0 hKL
  obtain ⟨wz, hwz⟩ : ∃ wz, (w.alloc (.cells KL.toArray 43)).drew = wz := ⟨_, rfl⟩
  rw [hwz] at hz HUN hrz
  have hH0 : w.heap.size < wz.heap.size := hlt hrz
  obtain ⟨m, n, s, L, rfl, hC, hA, h1, h2, h3⟩ := hz
  have hpt := hold_tot a k v
  have c1 := hC.c1
  have hlenH : (L false).length < 4000000000000000000 := by rw [hA.lenH]; unfold AS.tot at h2; omega
  have hlenC : (L true).length < 4000000000000000000 := by rw [hA.lenC]; unfold AS.tot at h2; omega
  cases hl : s.look k with
  | none =>
    have hlk := hC.look_no hk hl
    have hfb := hC.fresh1
    have hA1 := hA.newH hfb hl v
    have e1 : a.hold k v = { a with held := a.held ++ [(k, v)] } := by
      unfold AS.hold; rw [hA.findH_no hl]; simp only
      rw [del_none ((find_none_iff _ _).1 (hA.findC_no hl))]
    have HEN := hid (enter_any wz base p m n s hC hC.base k v hk (by omega))
    have hR := (hA.ref.enter hfb hl v).setHeld true
    obtain ⟨j1, j2, j3⟩ := hR.putOk false hlenH
    have HSH := hid (fun w1 (q : CK w1 base p m (n + 1) (s.enter (wz.heap.size + 1) k v)) => (LN.refl q).setHeld (e := (wz.heap.size + 1)) List.mem_cons_self true)
    have HPF := hid (fun w1 (q : LN base p m (n + 1) (s.enter (wz.heap.size + 1) k v) w1 ((s.enter (wz.heap.size + 1) k v).setHeld (wz.heap.size + 1) true) (w1.setCell ⟨(wz.heap.size + 1), 33, none⟩ (.bool true))) => pushLast_any _ base p m (n + 1) _ q.1 false (wz.heap.size + 1) List.mem_cons_self j2 j3 5 rfl)
    have HND := hid (fun w1 w2 (q1 : Fr (fpC p m s) wz w1) (q2 : LN base p m (n + 1) (s.enter (wz.heap.size + 1) k v) w1 ((s.enter (wz.heap.size + 1) k v).setHeld (wz.heap.size + 1) true) (w1.setCell ⟨(wz.heap.size + 1), 33, none⟩ (.bool true))) (q3 : LN base p m (n + 1) ((s.enter (wz.heap.size + 1) k v).setHeld (wz.heap.size + 1) true) (w1.setCell ⟨(wz.heap.size + 1), 33, none⟩ (.bool true)) (((s.enter (wz.heap.size + 1) k v).setHeld (wz.heap.size + 1) true).pushLast false (wz.heap.size + 1)) w2) => (by
      rw [e1]
      exact nx_enter q1 (q2.trans q3) hA1 h1 (by rw [← e1]; omega) h3 : Nx base (fpC p m s) p N wz (a.hold k v) w2))
    clear hC hA hl hpt hA1 hR j1 j2 j3 e1 hfb hlenH hlenC
    simp only [hka, argV] at *
    generalize hS1 : s.enter (wz.heap.size + 1) k v = s1 at *
    generalize hH : (wz.heap.size + 1) = H at *
    clear hS1 hH
    generalize s1.setHeld H true = s2 at *
    generalize s2.pushLast false H = s3 at *
    have HSZ := hid (And.intro c1 (And.intro hrz hlk))
    go_enter Try.func19, Try.ntmps19
    go_wp2
    refine wp_region_noPanic ?_
    refine wp_region_held_drew (S := fun w' => w'.cell? ⟨p, 1, none⟩ = some (.map (some m)) ∧ w'.heap[w.heap.size]? = some (.cells KL.toArray 43 (0, 0)) ∧ (Instr.lookup 75 (.map (some m)) (.agg KL.toArray) true).run Try.prog w' = .ok (.tuple #[.pointer none, .bool false]) w') (by kernel_rfl) (by rw [hwz]; exact HSZ.out) (fun hHeld => ?_)
    refine wpAnyH_take (i := 0) (oi := { dst := some 9, op := Op.move (Operand.tmp 0), type := 40, pos := "cache.go:50", after := #[], guard := none }) (v := .pointer (some ⟨p, 0, none⟩)) rfl (by kernel_rfl) (by kernel_rfl) (by kernel_rfl) (fun _ _ _ h => h) (Or.inl ⟨by rfl, by intro w hS; go_simp⟩) hHeld ?_
    try simp only [Act.put, List.setIfInBounds_toArray, List.set_cons_zero, List.set_cons_succ]
    refine wpAnyH_take (i := 4) (oi := { dst := some 13, op := Op.load 43 (Operand.tmp 4), type := 43, pos := "cache.go:50", after := #[], guard := none }) (v := .agg (KL).toArray) rfl (by kernel_rfl) (by kernel_rfl) (by kernel_rfl) (fun _ _ _ h => h) (yieldsIf_load_mid (by rfl) 43 _ rfl w.heap.size (0) rfl (KL) _ (fun w hS => rng hS.2.1) Try.underlying43 rfl HKN2.out) hHeld ?_
    try simp only [Act.put, List.setIfInBounds_toArray, List.set_cons_zero, List.set_cons_succ]
    refine wpAnyH_take (i := 1) (oi := { dst := some 10, op := Op.nilCheck (Operand.tmp 9), type := 0, pos := "cache.go:50", after := #[{ on := 0, ground := Ground.data }], guard := none }) (v := .pointer (some ⟨p, 0, none⟩)) rfl (by kernel_rfl) (by kernel_rfl) (by kernel_rfl) (fun _ _ _ h => h) (Or.inl ⟨by rfl, by intro w hS; go_simp⟩) hHeld ?_
    try simp only [Act.put, List.setIfInBounds_toArray, List.set_cons_zero, List.set_cons_succ]
    refine wpAnyH_take (i := 2) (oi := { dst := some 11, op := Op.fieldAddr 80 (Operand.tmp 10) 1, type := 0, pos := "cache.go:50", after := #[{ on := 1, ground := Ground.data }], guard := none }) (v := .pointer (some ⟨p, 1, none⟩)) rfl (by kernel_rfl) (by kernel_rfl) (by kernel_rfl) (fun _ _ _ h => h) (Or.inl ⟨by rfl, by intro w hS; go_simp⟩) hHeld ?_
    try simp only [Act.put, List.setIfInBounds_toArray, List.set_cons_zero, List.set_cons_succ]
    refine wpAnyH_take (i := 3) (oi := { dst := some 12, op := Op.load 75 (Operand.tmp 11), type := 75, pos := "cache.go:50", after := #[{ on := 2, ground := Ground.data }], guard := none }) (v := .map (some m)) rfl (by kernel_rfl) (by kernel_rfl) (by kernel_rfl) (fun _ _ _ h => h) (Or.inl ⟨by rfl, by intro w hS; have hc := hS.1; go_simp⟩) hHeld ?_
    try simp only [Act.put, List.setIfInBounds_toArray, List.set_cons_zero, List.set_cons_succ]
    refine wpAnyH_take (i := 5) (oi := { dst := some 14, op := Op.lookup 75 (Operand.tmp 12) (Operand.tmp 13) true, type := 81, pos := "cache.go:50", after := #[{ on := 3, ground := Ground.data }, { on := 4, ground := Ground.data }], guard := none }) (v := .tuple #[.pointer none, .bool false]) rfl (by kernel_rfl) (by kernel_rfl) (by kernel_rfl) (fun _ _ _ h => h) (Or.inl ⟨by rfl, by intro w hS; (have hq := hS.2.2; go_simp)⟩) hHeld ?_
    try simp only [Act.put, List.setIfInBounds_toArray, List.set_cons_zero, List.set_cons_succ]
    refine wpAnyH_take (i := 6) (oi := { dst := some 8, op := Op.move (Operand.tmp 14), type := 81, pos := "cache.go:50", after := #[{ on := 5, ground := Ground.data }], guard := none }) (v := .tuple #[.pointer none, .bool false]) rfl (by kernel_rfl) (by kernel_rfl) (by kernel_rfl) (fun _ _ _ h => h) (Or.inl ⟨by rfl, by intro w hS; go_simp⟩) hHeld ?_
    try simp only [Act.put, List.setIfInBounds_toArray, List.set_cons_zero, List.set_cons_succ]
    refine wpAnyH_take (i := 7) (oi := { dst := some 15, op := Op.extract (Operand.tmp 8) 0, type := 76, pos := "cache.go:50", after := #[{ on := 6, ground := Ground.data }], guard := none }) (v := .pointer none) rfl (by kernel_rfl) (by kernel_rfl) (by kernel_rfl) (fun _ _ _ h => h) (Or.inl ⟨by rfl, by intro w hS; go_simp⟩) hHeld ?_
    try simp only [Act.put, List.setIfInBounds_toArray, List.set_cons_zero, List.set_cons_succ]
    refine wpAnyH_take (i := 8) (oi := { dst := some 16, op := Op.extract (Operand.tmp 8) 1, type := 4, pos := "cache.go:50", after := #[{ on := 6, ground := Ground.data }, { on := 9, ground := Ground.gcOnly Departure.lateStores }], guard := none }) (v := .bool false) rfl (by kernel_rfl) (by kernel_rfl) (by kernel_rfl) (fun _ _ _ h => h) (Or.inl ⟨by rfl, by intro w hS; go_simp⟩) hHeld ?_
    try simp only [Act.put, List.setIfInBounds_toArray, List.set_cons_zero, List.set_cons_succ]
    refine wpAnyH_take (i := 9) (oi := { dst := some 6, op := Op.assign (Operand.tmp 15), type := 76, pos := "cache.go:50", after := #[{ on := 7, ground := Ground.data }, { on := 0, ground := Ground.phase }, { on := 1, ground := Ground.phase }, { on := 2, ground := Ground.phase }, { on := 3, ground := Ground.phase }, { on := 4, ground := Ground.phase }, { on := 5, ground := Ground.phase }, { on := 6, ground := Ground.phase }, { on := 7, ground := Ground.phase }, { on := 8, ground := Ground.textOnly Departure.lateStores }], guard := none }) (v := .pointer none) rfl (by kernel_rfl) (by kernel_rfl) (by kernel_rfl) (fun _ _ _ h => h) (Or.inl ⟨by rfl, by intro w hS; go_simp⟩) hHeld ?_
    try simp only [Act.put, List.setIfInBounds_toArray, List.set_cons_zero, List.set_cons_succ]
    refine wpAnyH_take (i := 10) (oi := { dst := some 7, op := Op.assign (Operand.tmp 16), type := 4, pos := "cache.go:50", after := #[{ on := 8, ground := Ground.data }, { on := 9, ground := Ground.chain }, { on := 0, ground := Ground.phase }, { on := 1, ground := Ground.phase }, { on := 2, ground := Ground.phase }, { on := 3, ground := Ground.phase }, { on := 4, ground := Ground.phase }, { on := 5, ground := Ground.phase }, { on := 6, ground := Ground.phase }, { on := 7, ground := Ground.phase }, { on := 8, ground := Ground.phase }, { on := 9, ground := Ground.phase }], guard := none }) (v := .bool false) rfl (by kernel_rfl) (by kernel_rfl) (by kernel_rfl) (fun _ _ _ h => h) (Or.inl ⟨by rfl, by intro w hS; go_simp⟩) hHeld ?_
    try simp only [Act.put, List.setIfInBounds_toArray, List.set_cons_zero, List.set_cons_succ]
    refine wpAnyH_done (by kernel_rfl) ?_ _
    refine NoPanic.normal ?_
    rw [hwz]
    go_wp2_with (first
      | (refine wpList_load_row_w (by rfl) 43 (.tmp 4) (by rfl) w.heap.size (by rfl) 43 KL.toArray _ _ (by exact hrz) Try.underlying43 rfl HKN.out ?_)
      | (go_at_call 40; refine HEN.out.mono ?_; rintro x w1 ⟨rfl, hc1, hf1⟩; obtain ⟨ch, fh, hln⟩ := HSH.out w1 hc1; have HF1 := hid hf1; have HL1 := hid hln; clear HEN HSH hc1 hf1 hln)
      | (go_at_call 42; refine (HPF.out w1 HL1.out).mono ?_; rintro x w2 ⟨rfl, hl2⟩; have HX := hid (HND.out w1 w2 HF1.out HL1.out hl2); clear HPF HND hl2))
    go_end0
    exact ⟨rfl, HUN.out _ _ HX.out⟩
  | some e =>
    obtain ⟨hin, hkey⟩ := hA.ref.look_in hl
    have heb : e ∈ s.bs := hin.elim (hA.ref.dom true e) (hA.ref.dom false e)
    have hlk := hC.look_yes hk hl
    have cv := hC.ev heb
    have fv := hC.fe heb 32
    have ce := hC.eh heb
    have hC1 := hC.val heb v
    have hF1 : Fr (fpC p m s) wz (wz.setCell ⟨e, 32, none⟩ (argV v)) := (Fr.refl _ wz).setCell (mem_b heb) _ _
    rcases hin with hin | hin
    · obtain ⟨A, B, hL⟩ := mem_split' hin
      rw [hA.ref.flag true e hin] at ce
      have hA1 := hA.setValC hin v
      have hM := hA1.moveH hL
      obtain ⟨k1, k2, k3, k4, k5, k6⟩ := hA1.ref.takeOk hL hlenC
      have H1 := hid (takeOut_any _ base p m n _ hC1 true e k1 k2 k3 k4 k5 k6 2 rfl)
      have hR := (hA1.ref.take hL).setHeld true
      obtain ⟨j1, j2, j3⟩ := hR.putOk false (by rw [updL_ne _ _ (by decide)]; exact hlenH)
      have e1 : a.hold k v = { a with clean := delL a.clean k, held := a.held ++ [(k, v)] } := by
        unfold AS.hold
        rw [← hkey, (hA.findC hin).2]
      have heb2 : e ∈ ((s.setVal e v).takeOut true e).bs := by rw [(Sm.takeOut (s.setVal e v) true e).bs]; exact heb
      have HSH := hid (fun w1 (q : LN base p m n (s.setVal e v) (wz.setCell ⟨e, 32, none⟩ (argV v)) ((s.setVal e v).takeOut true e) w1) => q.setHeld heb2 true)
      have HPF := hid (fun w1 (q : LN base p m n (s.setVal e v) (wz.setCell ⟨e, 32, none⟩ (argV v)) (((s.setVal e v).takeOut true e).setHeld e true) w1) => pushLast_any _ base p m n _ q.1 false e heb2 j2 j3 5 rfl)
      have HND := hid (fun w1 w2 (q : LN base p m n (s.setVal e v) (wz.setCell ⟨e, 32, none⟩ (argV v)) (((s.setVal e v).takeOut true e).setHeld e true) w1) (q3 : LN base p m n (((s.setVal e v).takeOut true e).setHeld e true) w1 ((((s.setVal e v).takeOut true e).setHeld e true).pushLast false e) w2) => (by
        rw [E_setVal_same] at hM
        simp only at hM
        rw [del_set, hkey] at hM
        rw [e1] at hpt ⊢
        have q5 := q.trans q3
        exact LN.nx (s := s) ⟨q5.1, hF1.trans' q5.2.1, q5.2.2⟩ hM (by omega) (by omega) (by have := del_le a.clean k; simp only; omega) : Nx base (fpC p m s) p N wz (a.hold k v) w2))
      clear hC hA hC1 hA1 hl hpt e1 hF1 hL hin hkey heb heb2 hM hR j1 j2 j3 k1 k2 k3 k4 k5 k6 hlenC hlenH
      simp only [hka, argV, Bool.not_true] at *
      generalize (s.E e).val = VV at *
      generalize s.setVal e v = s1 at *
      generalize hs2 : s1.takeOut true e = s2 at *
      clear hs2
      generalize (s2.E e).held = HB at *
      generalize s2.setHeld e true = s3 at *
      generalize s3.pushLast false e = s4 at *
      have HSZ := hid (And.intro c1 (And.intro hrz hlk))
      go_enter Try.func19, Try.ntmps19
      go_wp2
      refine wp_region_noPanic ?_
      refine wp_region_held_drew (S := fun w' => w'.cell? ⟨p, 1, none⟩ = some (.map (some m)) ∧ w'.heap[w.heap.size]? = some (.cells KL.toArray 43 (0, 0)) ∧ (Instr.lookup 75 (.map (some m)) (.agg KL.toArray) true).run Try.prog w' = .ok (.tuple #[.pointer (some ⟨e, 0, none⟩), .bool true]) w') (by kernel_rfl) (by rw [hwz]; exact HSZ.out) (fun hHeld => ?_)
      refine wpAnyH_take (i := 0) (oi := { dst := some 9, op := Op.move (Operand.tmp 0), type := 40, pos := "cache.go:50", after := #[], guard := none }) (v := .pointer (some ⟨p, 0, none⟩)) rfl (by kernel_rfl) (by kernel_rfl) (by kernel_rfl) (fun _ _ _ h => h) (Or.inl ⟨by rfl, by intro w hS; go_simp⟩) hHeld ?_
      try simp only [Act.put, List.setIfInBounds_toArray, List.set_cons_zero, List.set_cons_succ]
      refine wpAnyH_take (i := 4) (oi := { dst := some 13, op := Op.load 43 (Operand.tmp 4), type := 43, pos := "cache.go:50", after := #[], guard := none }) (v := .agg (KL).toArray) rfl (by kernel_rfl) (by kernel_rfl) (by kernel_rfl) (fun _ _ _ h => h) (yieldsIf_load_mid (by rfl) 43 _ rfl w.heap.size (0) rfl (KL) _ (fun w hS => rng hS.2.1) Try.underlying43 rfl HKN2.out) hHeld ?_
      try simp only [Act.put, List.setIfInBounds_toArray, List.set_cons_zero, List.set_cons_succ]
      refine wpAnyH_take (i := 1) (oi := { dst := some 10, op := Op.nilCheck (Operand.tmp 9), type := 0, pos := "cache.go:50", after := #[{ on := 0, ground := Ground.data }], guard := none }) (v := .pointer (some ⟨p, 0, none⟩)) rfl (by kernel_rfl) (by kernel_rfl) (by kernel_rfl) (fun _ _ _ h => h) (Or.inl ⟨by rfl, by intro w hS; go_simp⟩) hHeld ?_
      try simp only [Act.put, List.setIfInBounds_toArray, List.set_cons_zero, List.set_cons_succ]
      refine wpAnyH_take (i := 2) (oi := { dst := some 11, op := Op.fieldAddr 80 (Operand.tmp 10) 1, type := 0, pos := "cache.go:50", after := #[{ on := 1, ground := Ground.data }], guard := none }) (v := .pointer (some ⟨p, 1, none⟩)) rfl (by kernel_rfl) (by kernel_rfl) (by kernel_rfl) (fun _ _ _ h => h) (Or.inl ⟨by rfl, by intro w hS; go_simp⟩) hHeld ?_
      try simp only [Act.put, List.setIfInBounds_toArray, List.set_cons_zero, List.set_cons_succ]
      refine wpAnyH_take (i := 3) (oi := { dst := some 12, op := Op.load 75 (Operand.tmp 11), type := 75, pos := "cache.go:50", after := #[{ on := 2, ground := Ground.data }], guard := none }) (v := .map (some m)) rfl (by kernel_rfl) (by kernel_rfl) (by kernel_rfl) (fun _ _ _ h => h) (Or.inl ⟨by rfl, by intro w hS; have hc := hS.1; go_simp⟩) hHeld ?_
      try simp only [Act.put, List.setIfInBounds_toArray, List.set_cons_zero, List.set_cons_succ]
      refine wpAnyH_take (i := 5) (oi := { dst := some 14, op := Op.lookup 75 (Operand.tmp 12) (Operand.tmp 13) true, type := 81, pos := "cache.go:50", after := #[{ on := 3, ground := Ground.data }, { on := 4, ground := Ground.data }], guard := none }) (v := .tuple #[.pointer (some ⟨e, 0, none⟩), .bool true]) rfl (by kernel_rfl) (by kernel_rfl) (by kernel_rfl) (fun _ _ _ h => h) (Or.inl ⟨by rfl, by intro w hS; (have hq := hS.2.2; go_simp)⟩) hHeld ?_
      try simp only [Act.put, List.setIfInBounds_toArray, List.set_cons_zero, List.set_cons_succ]
      refine wpAnyH_take (i := 6) (oi := { dst := some 8, op := Op.move (Operand.tmp 14), type := 81, pos := "cache.go:50", after := #[{ on := 5, ground := Ground.data }], guard := none }) (v := .tuple #[.pointer (some ⟨e, 0, none⟩), .bool true]) rfl (by kernel_rfl) (by kernel_rfl) (by kernel_rfl) (fun _ _ _ h => h) (Or.inl ⟨by rfl, by intro w hS; go_simp⟩) hHeld ?_
      try simp only [Act.put, List.setIfInBounds_toArray, List.set_cons_zero, List.set_cons_succ]
      refine wpAnyH_take (i := 7) (oi := { dst := some 15, op := Op.extract (Operand.tmp 8) 0, type := 76, pos := "cache.go:50", after := #[{ on := 6, ground := Ground.data }], guard := none }) (v := .pointer (some ⟨e, 0, none⟩)) rfl (by kernel_rfl) (by kernel_rfl) (by kernel_rfl) (fun _ _ _ h => h) (Or.inl ⟨by rfl, by intro w hS; go_simp⟩) hHeld ?_
      try simp only [Act.put, List.setIfInBounds_toArray, List.set_cons_zero, List.set_cons_succ]
      refine wpAnyH_take (i := 8) (oi := { dst := some 16, op := Op.extract (Operand.tmp 8) 1, type := 4, pos := "cache.go:50", after := #[{ on := 6, ground := Ground.data }, { on := 9, ground := Ground.gcOnly Departure.lateStores }], guard := none }) (v := .bool true) rfl (by kernel_rfl) (by kernel_rfl) (by kernel_rfl) (fun _ _ _ h => h) (Or.inl ⟨by rfl, by intro w hS; go_simp⟩) hHeld ?_
      try simp only [Act.put, List.setIfInBounds_toArray, List.set_cons_zero, List.set_cons_succ]
      refine wpAnyH_take (i := 9) (oi := { dst := some 6, op := Op.assign (Operand.tmp 15), type := 76, pos := "cache.go:50", after := #[{ on := 7, ground := Ground.data }, { on := 0, ground := Ground.phase }, { on := 1, ground := Ground.phase }, { on := 2, ground := Ground.phase }, { on := 3, ground := Ground.phase }, { on := 4, ground := Ground.phase }, { on := 5, ground := Ground.phase }, { on := 6, ground := Ground.phase }, { on := 7, ground := Ground.phase }, { on := 8, ground := Ground.textOnly Departure.lateStores }], guard := none }) (v := .pointer (some ⟨e, 0, none⟩)) rfl (by kernel_rfl) (by kernel_rfl) (by kernel_rfl) (fun _ _ _ h => h) (Or.inl ⟨by rfl, by intro w hS; go_simp⟩) hHeld ?_
      try simp only [Act.put, List.setIfInBounds_toArray, List.set_cons_zero, List.set_cons_succ]
      refine wpAnyH_take (i := 10) (oi := { dst := some 7, op := Op.assign (Operand.tmp 16), type := 4, pos := "cache.go:50", after := #[{ on := 8, ground := Ground.data }, { on := 9, ground := Ground.chain }, { on := 0, ground := Ground.phase }, { on := 1, ground := Ground.phase }, { on := 2, ground := Ground.phase }, { on := 3, ground := Ground.phase }, { on := 4, ground := Ground.phase }, { on := 5, ground := Ground.phase }, { on := 6, ground := Ground.phase }, { on := 7, ground := Ground.phase }, { on := 8, ground := Ground.phase }, { on := 9, ground := Ground.phase }], guard := none }) (v := .bool true) rfl (by kernel_rfl) (by kernel_rfl) (by kernel_rfl) (fun _ _ _ h => h) (Or.inl ⟨by rfl, by intro w hS; go_simp⟩) hHeld ?_
      try simp only [Act.put, List.setIfInBounds_toArray, List.set_cons_zero, List.set_cons_succ]
      refine wpAnyH_done (by kernel_rfl) ?_ _
      refine NoPanic.normal ?_
      rw [hwz]
      go_wp2_with (first
        | (go_at_call 41; refine H1.out.mono ?_; rintro x w1 ⟨rfl, hl1⟩; obtain ⟨ch, fh, hln⟩ := HSH.out w1 hl1; have HL1 := hid hln; clear H1 HSH hl1 hln ce)
        | (go_at_call 42; refine (HPF.out _ HL1.out).mono ?_; rintro x w2 ⟨rfl, hl2⟩; have HX := hid (HND.out _ w2 HL1.out hl2); clear HPF HND hl2))
      go_end0
      exact ⟨rfl, HUN.out _ _ HX.out⟩
    · have hA1 := hA.setValH hin v
      rw [hA.ref.flag false e hin] at ce
      have e1 : a.hold k v = { a with held := setL a.held k v } := by
        unfold AS.hold
        rw [← hkey, hA.findH hin]
      rw [hkey] at hA1
      have HE := hid (LN.nx (N := N) ⟨hC1, hF1, rfl⟩ hA1 (by omega) (by rw [← e1]; omega) h3)
      rw [e1]
      clear hC hA hC1 hA1 hl hpt e1 hF1 hin hkey heb hlenC hlenH
      simp only [hka, argV, Bool.not_false] at *
      generalize (s.E e).val = VV at *
      have HSZ := hid (And.intro c1 (And.intro hrz hlk))
      go_enter Try.func19, Try.ntmps19
      go_wp2
      refine wp_region_noPanic ?_
      refine wp_region_held_drew (S := fun w' => w'.cell? ⟨p, 1, none⟩ = some (.map (some m)) ∧ w'.heap[w.heap.size]? = some (.cells KL.toArray 43 (0, 0)) ∧ (Instr.lookup 75 (.map (some m)) (.agg KL.toArray) true).run Try.prog w' = .ok (.tuple #[.pointer (some ⟨e, 0, none⟩), .bool true]) w') (by kernel_rfl) (by rw [hwz]; exact HSZ.out) (fun hHeld => ?_)
      refine wpAnyH_take (i := 0) (oi := { dst := some 9, op := Op.move (Operand.tmp 0), type := 40, pos := "cache.go:50", after := #[], guard := none }) (v := .pointer (some ⟨p, 0, none⟩)) rfl (by kernel_rfl) (by kernel_rfl) (by kernel_rfl) (fun _ _ _ h => h) (Or.inl ⟨by rfl, by intro w hS; go_simp⟩) hHeld ?_
      try simp only [Act.put, List.setIfInBounds_toArray, List.set_cons_zero, List.set_cons_succ]
      refine wpAnyH_take (i := 4) (oi := { dst := some 13, op := Op.load 43 (Operand.tmp 4), type := 43, pos := "cache.go:50", after := #[], guard := none }) (v := .agg (KL).toArray) rfl (by kernel_rfl) (by kernel_rfl) (by kernel_rfl) (fun _ _ _ h => h) (yieldsIf_load_mid (by rfl) 43 _ rfl w.heap.size (0) rfl (KL) _ (fun w hS => rng hS.2.1) Try.underlying43 rfl HKN2.out) hHeld ?_
      try simp only [Act.put, List.setIfInBounds_toArray, List.set_cons_zero, List.set_cons_succ]
      refine wpAnyH_take (i := 1) (oi := { dst := some 10, op := Op.nilCheck (Operand.tmp 9), type := 0, pos := "cache.go:50", after := #[{ on := 0, ground := Ground.data }], guard := none }) (v := .pointer (some ⟨p, 0, none⟩)) rfl (by kernel_rfl) (by kernel_rfl) (by kernel_rfl) (fun _ _ _ h => h) (Or.inl ⟨by rfl, by intro w hS; go_simp⟩) hHeld ?_
      try simp only [Act.put, List.setIfInBounds_toArray, List.set_cons_zero, List.set_cons_succ]
      refine wpAnyH_take (i := 2) (oi := { dst := some 11, op := Op.fieldAddr 80 (Operand.tmp 10) 1, type := 0, pos := "cache.go:50", after := #[{ on := 1, ground := Ground.data }], guard := none }) (v := .pointer (some ⟨p, 1, none⟩)) rfl (by kernel_rfl) (by kernel_rfl) (by kernel_rfl) (fun _ _ _ h => h) (Or.inl ⟨by rfl, by intro w hS; go_simp⟩) hHeld ?_
      try simp only [Act.put, List.setIfInBounds_toArray, List.set_cons_zero, List.set_cons_succ]
      refine wpAnyH_take (i := 3) (oi := { dst := some 12, op := Op.load 75 (Operand.tmp 11), type := 75, pos := "cache.go:50", after := #[{ on := 2, ground := Ground.data }], guard := none }) (v := .map (some m)) rfl (by kernel_rfl) (by kernel_rfl) (by kernel_rfl) (fun _ _ _ h => h) (Or.inl ⟨by rfl, by intro w hS; have hc := hS.1; go_simp⟩) hHeld ?_
      try simp only [Act.put, List.setIfInBounds_toArray, List.set_cons_zero, List.set_cons_succ]
      refine wpAnyH_take (i := 5) (oi := { dst := some 14, op := Op.lookup 75 (Operand.tmp 12) (Operand.tmp 13) true, type := 81, pos := "cache.go:50", after := #[{ on := 3, ground := Ground.data }, { on := 4, ground := Ground.data }], guard := none }) (v := .tuple #[.pointer (some ⟨e, 0, none⟩), .bool true]) rfl (by kernel_rfl) (by kernel_rfl) (by kernel_rfl) (fun _ _ _ h => h) (Or.inl ⟨by rfl, by intro w hS; (have hq := hS.2.2; go_simp)⟩) hHeld ?_
      try simp only [Act.put, List.setIfInBounds_toArray, List.set_cons_zero, List.set_cons_succ]
      refine wpAnyH_take (i := 6) (oi := { dst := some 8, op := Op.move (Operand.tmp 14), type := 81, pos := "cache.go:50", after := #[{ on := 5, ground := Ground.data }], guard := none }) (v := .tuple #[.pointer (some ⟨e, 0, none⟩), .bool true]) rfl (by kernel_rfl) (by kernel_rfl) (by kernel_rfl) (fun _ _ _ h => h) (Or.inl ⟨by rfl, by intro w hS; go_simp⟩) hHeld ?_
      try simp only [Act.put, List.setIfInBounds_toArray, List.set_cons_zero, List.set_cons_succ]
      refine wpAnyH_take (i := 7) (oi := { dst := some 15, op := Op.extract (Operand.tmp 8) 0, type := 76, pos := "cache.go:50", after := #[{ on := 6, ground := Ground.data }], guard := none }) (v := .pointer (some ⟨e, 0, none⟩)) rfl (by kernel_rfl) (by kernel_rfl) (by kernel_rfl) (fun _ _ _ h => h) (Or.inl ⟨by rfl, by intro w hS; go_simp⟩) hHeld ?_
      try simp only [Act.put, List.setIfInBounds_toArray, List.set_cons_zero, List.set_cons_succ]
      refine wpAnyH_take (i := 8) (oi := { dst := some 16, op := Op.extract (Operand.tmp 8) 1, type := 4, pos := "cache.go:50", after := #[{ on := 6, ground := Ground.data }, { on := 9, ground := Ground.gcOnly Departure.lateStores }], guard := none }) (v := .bool true) rfl (by kernel_rfl) (by kernel_rfl) (by kernel_rfl) (fun _ _ _ h => h) (Or.inl ⟨by rfl, by intro w hS; go_simp⟩) hHeld ?_
      try simp only [Act.put, List.setIfInBounds_toArray, List.set_cons_zero, List.set_cons_succ]
      refine wpAnyH_take (i := 9) (oi := { dst := some 6, op := Op.assign (Operand.tmp 15), type := 76, pos := "cache.go:50", after := #[{ on := 7, ground := Ground.data }, { on := 0, ground := Ground.phase }, { on := 1, ground := Ground.phase }, { on := 2, ground := Ground.phase }, { on := 3, ground := Ground.phase }, { on := 4, ground := Ground.phase }, { on := 5, ground := Ground.phase }, { on := 6, ground := Ground.phase }, { on := 7, ground := Ground.phase }, { on := 8, ground := Ground.textOnly Departure.lateStores }], guard := none }) (v := .pointer (some ⟨e, 0, none⟩)) rfl (by kernel_rfl) (by kernel_rfl) (by kernel_rfl) (fun _ _ _ h => h) (Or.inl ⟨by rfl, by intro w hS; go_simp⟩) hHeld ?_
      try simp only [Act.put, List.setIfInBounds_toArray, List.set_cons_zero, List.set_cons_succ]
      refine wpAnyH_take (i := 10) (oi := { dst := some 7, op := Op.assign (Operand.tmp 16), type := 4, pos := "cache.go:50", after := #[{ on := 8, ground := Ground.data }, { on := 9, ground := Ground.chain }, { on := 0, ground := Ground.phase }, { on := 1, ground := Ground.phase }, { on := 2, ground := Ground.phase }, { on := 3, ground := Ground.phase }, { on := 4, ground := Ground.phase }, { on := 5, ground := Ground.phase }, { on := 6, ground := Ground.phase }, { on := 7, ground := Ground.phase }, { on := 8, ground := Ground.phase }, { on := 9, ground := Ground.phase }], guard := none }) (v := .bool true) rfl (by kernel_rfl) (by kernel_rfl) (by kernel_rfl) (fun _ _ _ h => h) (Or.inl ⟨by rfl, by intro w hS; go_simp⟩) hHeld ?_
      try simp only [Act.put, List.setIfInBounds_toArray, List.set_cons_zero, List.set_cons_succ]
      refine wpAnyH_done (by kernel_rfl) ?_ _
      refine NoPanic.normal ?_
      rw [hwz]
      go_wp2
      refine bodyPost_ret (results_none rfl _ _ _) rfl ?_
      exact ⟨rfl, HUN.out _ _ HE.out⟩
end Go.Proofs.Ytbpamknebjdicaa.K2
