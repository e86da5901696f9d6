import Derived.Test.YtbpamknebjdicaaK9
namespace Go.Proofs.Ytbpamknebjdicaa.K2
set_option linter.unusedVariables false
set_option linter.unusedSimpArgs false
open Go.RowKit
attribute [local go_sem ↓] Go.wp_at_zero Go.wp_at_succ

theorem CK.base {w : World} {base p m n : Nat} {s : CSi} (h : CK w base p m n s) : base ≤ w.heap.size := by have := h.bp; have := hlt h.cell; omega
theorem CK.freshb {w : World} {base p m n : Nat} {s : CSi} (h : CK w base p m n s) : w.heap.size ∉ s.bs := fun q => by have := hlt (h.ents _ q); omega
theorem CK.fresh1 {w : World} {base p m n : Nat} {s : CSi} (h : CK w base p m n s) : w.heap.size + 1 ∉ s.bs := fun q => by have := hlt (h.ents _ q); omega
theorem fp_enter1 {w : World} {p m : Nat} {s t : CSi} (k v : Int) (h : t.bs = (s.enter (w.heap.size + 1) k v).bs) : Gr w (fpC p m s) (fpC p m t) := fun i hi => by
  simp only [fpC, h, List.mem_cons] at hi ⊢
  rcases hi with e | e | e
  · exact Or.inl (Or.inl e)
  · exact Or.inl (Or.inr (Or.inl e))
  · rcases List.mem_cons.1 e with e | e
    · exact Or.inr (by omega)
    · exact Or.inl (Or.inr (Or.inr e))
theorem nx_enter {base p m n N : Nat} {s t : CSi} {w w1 w' : World} {k v : Int} {L : Bool → List Nat} {a : AS Int Int} (h1 : Fr (fpC p m s) w w1) (h : LN base p m (n + 1) (s.enter (w.heap.size + 1) k v) w1 t w') (hA : Abs t L none a) (hn : n ≤ N) (h2 : a.tot ≤ N + 1) (h3 : a.clean.length ≤ a.room) : Nx base (fpC p m s) p N w a w' :=
  ⟨fpC p m t, ⟨m, n + 1, t, L, rfl, h.1, hA, by omega, h2, h3⟩, h1.trans h.2.1 (fp_enter1 k v rfl), fp_enter1 k v h.2.2⟩
set_option maxRecDepth 100000 in
set_option maxHeartbeats 1000000 in
theorem Put_any (w : World) (base : Nat) (F : List Nat) (p N : Nat) (a : AS Int Int) (h0 : CA w base F p N a) (k v : Int) (hk : wfK k) (hN : N < 3000000000000000000) :
    Calls Try.prog 44 #[.pointer (some ⟨p, 0, none⟩), argK k, argV v] w fun x w' => x = .returned (.tuple #[]) ∧ Nx base F p N w (a.put k v) w' := by
  obtain ⟨KL, hKL⟩ : ∃ KL, KL = ints .u8 (pathL k) := ⟨_, rfl⟩
  have hb0 := (Below.refl w.heap.size w).alloc (Nat.le_refl _) (.cells KL.toArray 43)
  have hz : CA (w.alloc (.cells KL.toArray 43)).drew base F p N a := (h0.below hb0).drew
  have HUN := hid (fun a' w' (x : Nx base F p N (w.alloc (.cells KL.toArray 43)).drew a' w') => x.unal)
  have hrz : (w.alloc (.cells KL.toArray 43)).drew.heap[w.heap.size]? = some (.cells KL.toArray 43 (0, 0)) := hnew w _
  have hnf : w.heap.size ∉ F := fun e => by have := (h0.lt _ e).2; omega
  have hka : argK k = .agg KL.toArray := by rw [hKL]; rfl
  have HKN := hid (show (Try.prog.info? 43).map (·.size) = some KL.toArray.size by rw [hKL]; exact keyN k)
  have HKN2 := hid (show (Try.prog.info? 43).map (·.size) = some KL.length by rw [hKL]; exact keyN k)
  clear h0 hb0 hKL
  obtain ⟨wz, hwz⟩ : ∃ wz, (w.alloc (.cells KL.toArray 43)).drew = wz := ⟨_, rfl⟩
  rw [hwz] at hz HUN hrz
  have hH0 : w.heap.size < wz.heap.size := hlt hrz
  obtain ⟨m, n, s, L, rfl, hC, hA, h1, h2, h3⟩ := hz
  have hpt := put_tot a k v
  have c1 := hC.c1
  cases hl : s.look k with
  | none =>
    have hlk := hC.look_no hk hl
    have hfb := hC.fresh1
    have hA1 := hA.newC hfb hl v
    have e1 : a.put k v = AS.trim { a with clean := (k, v) :: a.clean } := by
      unfold AS.put; rw [hA.findH_no hl]; simp only
      rw [del_none ((find_none_iff _ _).1 (hA.findC_no hl))]
    have HEN := hid (enter_any wz.drew base p m n s hC.drew hC.base k v hk (by omega))
    have hR := hA.ref.enter hfb hl v
    have hlen : (L true).length < 4000000000000000000 := by rw [hA.lenC]; unfold AS.tot at h2; omega
    obtain ⟨j1, j2, j3⟩ := hR.putOk true hlen
    have HKE := hid (fun w1 (x : Fr (fpC p m s) wz.drew w1) => ((x.block _ hH0 hnf).trans hrz : w1.heap[w.heap.size]? = some (.cells KL.toArray 43 (0, 0))))
    have HKP := hid (fun w1 w2 (y : w1.heap[w.heap.size]? = some (.cells KL.toArray 43 (0, 0))) (x : LN base p m (n + 1) (s.enter (wz.heap.size + 1) k v) w1 ((s.enter (wz.heap.size + 1) k v).pushFirst true (wz.heap.size + 1)) w2) => ((x.2.1.block _ (hlt y) (fun e => by
      simp only [fpC, List.mem_cons] at e
      simp only [fpC, List.mem_cons, not_or] at hnf
      rcases e with e | e | e
      · exact hnf.1 e
      · exact hnf.2.1 e
      · rcases List.mem_cons.1 e with e | e
        · omega
        · exact hnf.2.2 e)).trans y : w2.heap[w.heap.size]? = some (.cells KL.toArray 43 (0, 0))))
    have HPF := hid (fun w1 (q : CK w1 base p m (n + 1) (s.enter (wz.heap.size + 1) k v)) => pushFirst_any w1 base p m (n + 1) _ q true (wz.heap.size + 1) List.mem_cons_self j1 j3 2 rfl)
    have HTR := hid (fun w1 w2 (q : LN base p m (n + 1) (s.enter (wz.heap.size + 1) k v) w1 ((s.enter (wz.heap.size + 1) k v).pushFirst true (wz.heap.size + 1)) w2) => trim_any w2 base p m (n + 1) _ q.1 _ _ hA1 (by unfold AS.tot at h2 ⊢; simp only [List.length_cons]; omega))
    have HND := hid (fun w1 w2 w3 (q1 : Fr (fpC p m s) wz.drew w1) (q2 : LN base p m (n + 1) (s.enter (wz.heap.size + 1) k v) w1 ((s.enter (wz.heap.size + 1) k v).pushFirst true (wz.heap.size + 1)) w2) (q3 : LA base p m (n + 1) ((s.enter (wz.heap.size + 1) k v).pushFirst true (wz.heap.size + 1)) w2 (AS.trim { a with clean := (k, v) :: a.clean }) w3) => (by
      obtain ⟨t, L', q4, q5⟩ := q3
      rw [e1]
      exact nx_enter ⟨q1.os, q1.tape, q1.output, q1.size, q1.block⟩ (q2.trans q4) q5 h1 (by rw [← e1]; omega) (trim_room _) : Nx base (fpC p m s) p N wz (a.put k v) w3))
    change Hid (Calls _ _ _ _ fun x wz' => x = .returned (.pointer (some ⟨(wz.heap.size + 1), 0, none⟩)) ∧ CK wz' base p m (n + 1) (s.enter (wz.heap.size + 1) k v) ∧ Fr (fpC p m s) wz.drew wz') at HEN
    clear hC hA hl hpt hA1 hR j1 j2 j3 hlen e1 hfb
    simp only [hka, argV] at *
    generalize (wz.heap.size + 1) = H at *
    have HSZ := hid (And.intro c1 (And.intro hrz hlk))
    go_enter Try.func44, Try.ntmps44
    go_wp2
    refine wp_region_noPanic ?_
    refine wp_region_held_drew (S := fun w' => w'.cell? ⟨p, 1, none⟩ = some (.map (some m)) ∧ w'.heap[w.heap.size]? = some (.cells KL.toArray 43 (0, 0)) ∧ (Instr.lookup 75 (.map (some m)) (.agg KL.toArray) true).run Try.prog w' = .ok (.tuple #[.pointer none, .bool false]) w') (by kernel_rfl) (by rw [hwz]; exact HSZ.out) (fun hHeld => ?_)
    refine wpAnyH_take (i := 0) (oi := { dst := some 9, op := Op.move (Operand.tmp 0), type := 40, pos := "cache.go:39", after := #[], guard := none }) (v := .pointer (some ⟨p, 0, none⟩)) rfl (by kernel_rfl) (by kernel_rfl) (by kernel_rfl) (fun _ _ _ h => h) (Or.inl ⟨by rfl, by intro w hS; go_simp⟩) hHeld ?_
    try simp only [Act.put, List.setIfInBounds_toArray, List.set_cons_zero, List.set_cons_succ]
    refine wpAnyH_take (i := 4) (oi := { dst := some 13, op := Op.load 43 (Operand.tmp 4), type := 43, pos := "cache.go:39", after := #[], guard := none }) (v := .agg (KL).toArray) rfl (by kernel_rfl) (by kernel_rfl) (by kernel_rfl) (fun _ _ _ h => h) (yieldsIf_load_mid (by rfl) 43 _ rfl w.heap.size (0) rfl (KL) _ (fun w hS => rng hS.2.1) Try.underlying43 rfl HKN2.out) hHeld ?_
    try simp only [Act.put, List.setIfInBounds_toArray, List.set_cons_zero, List.set_cons_succ]
    refine wpAnyH_take (i := 1) (oi := { dst := some 10, op := Op.nilCheck (Operand.tmp 9), type := 0, pos := "cache.go:39", after := #[{ on := 0, ground := Ground.data }], guard := none }) (v := .pointer (some ⟨p, 0, none⟩)) rfl (by kernel_rfl) (by kernel_rfl) (by kernel_rfl) (fun _ _ _ h => h) (Or.inl ⟨by rfl, by intro w hS; go_simp⟩) hHeld ?_
    try simp only [Act.put, List.setIfInBounds_toArray, List.set_cons_zero, List.set_cons_succ]
    refine wpAnyH_take (i := 2) (oi := { dst := some 11, op := Op.fieldAddr 80 (Operand.tmp 10) 1, type := 0, pos := "cache.go:39", after := #[{ on := 1, ground := Ground.data }], guard := none }) (v := .pointer (some ⟨p, 1, none⟩)) rfl (by kernel_rfl) (by kernel_rfl) (by kernel_rfl) (fun _ _ _ h => h) (Or.inl ⟨by rfl, by intro w hS; go_simp⟩) hHeld ?_
    try simp only [Act.put, List.setIfInBounds_toArray, List.set_cons_zero, List.set_cons_succ]
    refine wpAnyH_take (i := 3) (oi := { dst := some 12, op := Op.load 75 (Operand.tmp 11), type := 75, pos := "cache.go:39", after := #[{ on := 2, ground := Ground.data }], guard := none }) (v := .map (some m)) rfl (by kernel_rfl) (by kernel_rfl) (by kernel_rfl) (fun _ _ _ h => h) (Or.inl ⟨by rfl, by intro w hS; have hc := hS.1; go_simp⟩) hHeld ?_
    try simp only [Act.put, List.setIfInBounds_toArray, List.set_cons_zero, List.set_cons_succ]
    refine wpAnyH_take (i := 5) (oi := { dst := some 14, op := Op.lookup 75 (Operand.tmp 12) (Operand.tmp 13) true, type := 81, pos := "cache.go:39", after := #[{ on := 3, ground := Ground.data }, { on := 4, ground := Ground.data }], guard := none }) (v := .tuple #[.pointer none, .bool false]) rfl (by kernel_rfl) (by kernel_rfl) (by kernel_rfl) (fun _ _ _ h => h) (Or.inl ⟨by rfl, by intro w hS; (have hq := hS.2.2; go_simp)⟩) hHeld ?_
    try simp only [Act.put, List.setIfInBounds_toArray, List.set_cons_zero, List.set_cons_succ]
    refine wpAnyH_take (i := 6) (oi := { dst := some 8, op := Op.move (Operand.tmp 14), type := 81, pos := "cache.go:39", after := #[{ on := 5, ground := Ground.data }], guard := none }) (v := .tuple #[.pointer none, .bool false]) rfl (by kernel_rfl) (by kernel_rfl) (by kernel_rfl) (fun _ _ _ h => h) (Or.inl ⟨by rfl, by intro w hS; go_simp⟩) hHeld ?_
    try simp only [Act.put, List.setIfInBounds_toArray, List.set_cons_zero, List.set_cons_succ]
    refine wpAnyH_take (i := 7) (oi := { dst := some 15, op := Op.extract (Operand.tmp 8) 0, type := 76, pos := "cache.go:39", after := #[{ on := 6, ground := Ground.data }], guard := none }) (v := .pointer none) rfl (by kernel_rfl) (by kernel_rfl) (by kernel_rfl) (fun _ _ _ h => h) (Or.inl ⟨by rfl, by intro w hS; go_simp⟩) hHeld ?_
    try simp only [Act.put, List.setIfInBounds_toArray, List.set_cons_zero, List.set_cons_succ]
    refine wpAnyH_take (i := 8) (oi := { dst := some 16, op := Op.extract (Operand.tmp 8) 1, type := 4, pos := "cache.go:39", after := #[{ on := 6, ground := Ground.data }, { on := 9, ground := Ground.gcOnly Departure.lateStores }], guard := none }) (v := .bool false) rfl (by kernel_rfl) (by kernel_rfl) (by kernel_rfl) (fun _ _ _ h => h) (Or.inl ⟨by rfl, by intro w hS; go_simp⟩) hHeld ?_
    try simp only [Act.put, List.setIfInBounds_toArray, List.set_cons_zero, List.set_cons_succ]
    refine wpAnyH_take (i := 9) (oi := { dst := some 6, op := Op.assign (Operand.tmp 15), type := 76, pos := "cache.go:39", after := #[{ on := 7, ground := Ground.data }, { on := 0, ground := Ground.phase }, { on := 1, ground := Ground.phase }, { on := 2, ground := Ground.phase }, { on := 3, ground := Ground.phase }, { on := 4, ground := Ground.phase }, { on := 5, ground := Ground.phase }, { on := 6, ground := Ground.phase }, { on := 7, ground := Ground.phase }, { on := 8, ground := Ground.textOnly Departure.lateStores }], guard := none }) (v := .pointer none) rfl (by kernel_rfl) (by kernel_rfl) (by kernel_rfl) (fun _ _ _ h => h) (Or.inl ⟨by rfl, by intro w hS; go_simp⟩) hHeld ?_
    try simp only [Act.put, List.setIfInBounds_toArray, List.set_cons_zero, List.set_cons_succ]
    refine wpAnyH_take (i := 10) (oi := { dst := some 7, op := Op.assign (Operand.tmp 16), type := 4, pos := "cache.go:39", after := #[{ on := 8, ground := Ground.data }, { on := 9, ground := Ground.chain }, { on := 0, ground := Ground.phase }, { on := 1, ground := Ground.phase }, { on := 2, ground := Ground.phase }, { on := 3, ground := Ground.phase }, { on := 4, ground := Ground.phase }, { on := 5, ground := Ground.phase }, { on := 6, ground := Ground.phase }, { on := 7, ground := Ground.phase }, { on := 8, ground := Ground.phase }, { on := 9, ground := Ground.phase }], guard := none }) (v := .bool false) rfl (by kernel_rfl) (by kernel_rfl) (by kernel_rfl) (fun _ _ _ h => h) (Or.inl ⟨by rfl, by intro w hS; go_simp⟩) hHeld ?_
    try simp only [Act.put, List.setIfInBounds_toArray, List.set_cons_zero, List.set_cons_succ]
    refine wpAnyH_done (by kernel_rfl) ?_ _
    refine NoPanic.normal ?_
    rw [hwz]
    go_wp2
    refine wp_region_noPanic ?_
    refine wp_region_held_drew (S := fun w' => w'.heap[w.heap.size]? = some (.cells KL.toArray 43 (0, 0))) (by kernel_rfl) hrz (fun hHeld => ?_)
    refine wpAnyH_take (i := 0) (oi := { dst := some 25, op := Op.move (Operand.tmp 0), type := 40, pos := "cache.go:44", after := #[], guard := none }) (v := .pointer (some ⟨p, 0, none⟩)) rfl (by kernel_rfl) (by kernel_rfl) (by kernel_rfl) (fun _ _ _ h => h) (Or.inl ⟨by rfl, by intro w hS; go_simp⟩) hHeld ?_
    try simp only [Act.put, List.setIfInBounds_toArray, List.set_cons_zero, List.set_cons_succ]
    refine wpAnyH_take (i := 3) (oi := { dst := some 28, op := Op.move (Operand.tmp 0), type := 40, pos := "cache.go:44", after := #[], guard := none }) (v := .pointer (some ⟨p, 0, none⟩)) rfl (by kernel_rfl) (by kernel_rfl) (by kernel_rfl) (fun _ _ _ h => h) (Or.inl ⟨by rfl, by intro w hS; go_simp⟩) hHeld ?_
    try simp only [Act.put, List.setIfInBounds_toArray, List.set_cons_zero, List.set_cons_succ]
    refine wpAnyH_take (i := 4) (oi := { dst := some 29, op := Op.load 43 (Operand.tmp 4), type := 43, pos := "cache.go:44", after := #[], guard := none }) (v := .agg (KL).toArray) rfl (by kernel_rfl) (by kernel_rfl) (by kernel_rfl) (fun _ _ _ h => h) (yieldsIf_load_mid (by rfl) 43 _ rfl w.heap.size (0) rfl (KL) _ (fun w hS => rng hS) Try.underlying43 rfl HKN2.out) hHeld ?_
    try simp only [Act.put, List.setIfInBounds_toArray, List.set_cons_zero, List.set_cons_succ]
    refine wpAnyH_take (i := 5) (oi := { dst := some 30, op := Op.move (Operand.tmp 2), type := 9, pos := "cache.go:44", after := #[], guard := none }) (v := .string (wordB v)) rfl (by kernel_rfl) (by kernel_rfl) (by kernel_rfl) (fun _ _ _ h => h) (Or.inl ⟨by rfl, by intro w hS; go_simp⟩) hHeld ?_
    try simp only [Act.put, List.setIfInBounds_toArray, List.set_cons_zero, List.set_cons_succ]
    refine wpAnyH_take (i := 1) (oi := { dst := some 26, op := Op.nilCheck (Operand.tmp 25), type := 0, pos := "cache.go:44", after := #[{ on := 0, ground := Ground.data }], guard := none }) (v := .pointer (some ⟨p, 0, none⟩)) rfl (by kernel_rfl) (by kernel_rfl) (by kernel_rfl) (fun _ _ _ h => h) (Or.inl ⟨by rfl, by intro w hS; go_simp⟩) hHeld ?_
    try simp only [Act.put, List.setIfInBounds_toArray, List.set_cons_zero, List.set_cons_succ]
    refine wpAnyH_take (i := 2) (oi := { dst := some 27, op := Op.fieldAddr 80 (Operand.tmp 26) 2, type := 0, pos := "cache.go:44", after := #[{ on := 1, ground := Ground.data }], guard := none }) (v := .pointer (some ⟨p, 2, none⟩)) rfl (by kernel_rfl) (by kernel_rfl) (by kernel_rfl) (fun _ _ _ h => h) (Or.inl ⟨by rfl, by intro w hS; go_simp⟩) hHeld ?_
    try simp only [Act.put, List.setIfInBounds_toArray, List.set_cons_zero, List.set_cons_succ]
    refine wpAnyH_ready (rs := [6]) (by kernel_rfl) (by simp) ?_
    refine (AllReadyH.cons (o := { dst := some 31, op := Op.call { callee := Callee.value (Operand.func 40), args := #[Operand.tmp 28, Operand.tmp 29, Operand.tmp 30], argTypes := #[40, 43, 9] }, type := 76, pos := "cache.go:44", after := #[{ on := 3, ground := Ground.data }, { on := 4, ground := Ground.data }, { on := 5, ground := Ground.data }], guard := none }) rfl (fun K hK => ?_) AllReadyH.nil)
    go_simp
    go_at_call 40
    refine (HEN.out).mono ?_
    rintro e w1 ⟨rfl, hc1, hf1⟩
    have HC1 := hid hc1
    have HF1 := hid hf1
    clear hc1 hf1
    go_wp2_with fail
    refine hK.out _ _ (HKE.out w1 HF1.out) (fun hHeld2 => ?_)
    clear hK K hHeld
    have hHeld := hHeld2
    clear hHeld2
    try simp only [Act.put, List.setIfInBounds_toArray, List.set_cons_zero, List.set_cons_succ]
    refine wpAnyH_ready (rs := [7]) (by kernel_rfl) (by simp) ?_
    refine (AllReadyH.cons (o := { dst := some 32, op := Op.call { callee := Callee.value (Operand.func 62), args := #[Operand.tmp 27, Operand.tmp 31], argTypes := #[78, 76] }, type := 0, pos := "cache.go:44", after := #[{ on := 2, ground := Ground.data }, { on := 6, ground := Ground.data }, { on := 6, ground := Ground.chain }], guard := none }) rfl (fun K hK => ?_) AllReadyH.nil)
    go_simp
    go_at_call 62
    refine (HPF.out w1 HC1.out).mono ?_
    rintro e w2 ⟨rfl, hl2⟩
    have HL2 := hid hl2
    clear hl2
    go_wp2_with fail
    refine hK.out _ _ (HKP.out w1 w2 hHeld HL2.out) (fun hHeld2 => ?_)
    clear hK K hHeld
    have hHeld := hHeld2
    clear hHeld2
    try simp only [Act.put, List.setIfInBounds_toArray, List.set_cons_zero, List.set_cons_succ]
    refine wpAnyH_done (by kernel_rfl) ?_ _
    refine NoPanic.normal ?_
    go_wp2_with (go_at_call 63; refine (HTR.out w1 w2 HL2.out).mono ?_; rintro x w3 ⟨rfl, hr⟩)
    go_end0
    exact ⟨rfl, HUN.out _ _ (HND.out w1 w2 w3 HF1.out HL2.out hr)⟩
  | some e =>
    obtain ⟨hin, hkey⟩ := hA.ref.look_in hl
    have heb : e ∈ s.bs := hin.elim (hA.ref.dom true e) (hA.ref.dom false e)
    have hlk := hC.look_yes hk hl
    have cv := hC.ev heb
    have fv := hC.fe heb 32
    have hC1 := hC.val heb v
    have hF1 : Fr (fpC p m s) wz (wz.setCell ⟨e, 32, none⟩ (argV v)) := (Fr.refl _ wz).setCell (mem_b heb) _ _
    rcases hin with hin | hin
    · obtain ⟨A, B, hL⟩ := mem_split' hin
      have hA1 := hA.setValC hin v
      have H1 := hid (use_clean _ base p m n _ hC1 L hA1.ref A B e hL (by rw [hA.lenC]; unfold AS.tot at h2; omega))
      have e1 : a.put k v = { a with clean := (k, v) :: delL a.clean k } := by
        unfold AS.put
        rw [← hkey, (hA.findC hin).2]; simp only
        refine AS.trim_id ?_
        have := hA.use_len hL v
        simp only at this ⊢
        omega
      have HE := hid (fun (t : CSi) (wz' : World) (q : LN base p m n (s.setVal e v) (wz.setCell ⟨e, 32, none⟩ (argV v)) t wz') (q1 : Sm (s.setVal e v) t) (q2 : Ref t (updL L true (e :: (A ++ B))) none) => (by
        have r := hA1.use hL q1 q2
        rw [E_setVal_same] at r
        simp only at r
        rw [del_set, hkey] at r
        have hx := hA.use_len hL v
        rw [hkey] at hx
        rw [e1] at hpt ⊢
        exact LN.nx (s := s) ⟨q.1, hF1.trans' q.2.1, q.2.2⟩ r (by omega) (by omega) (by simp only; omega) : Nx base (fpC p m s) p N wz (a.put k v) wz'))
      clear hC hA hC1 hA1 hl hpt e1 hF1 hL hin hkey heb
      simp only [hka, argV] at *
      generalize (s.E e).val = VV at *
      have HSZ := hid (And.intro c1 (And.intro hrz hlk))
      go_enter Try.func44, Try.ntmps44
      go_wp2
      refine wp_region_noPanic ?_
      refine wp_region_held_drew (S := fun w' => w'.cell? ⟨p, 1, none⟩ = some (.map (some m)) ∧ w'.heap[w.heap.size]? = some (.cells KL.toArray 43 (0, 0)) ∧ (Instr.lookup 75 (.map (some m)) (.agg KL.toArray) true).run Try.prog w' = .ok (.tuple #[.pointer (some ⟨e, 0, none⟩), .bool true]) w') (by kernel_rfl) (by rw [hwz]; exact HSZ.out) (fun hHeld => ?_)
      refine wpAnyH_take (i := 0) (oi := { dst := some 9, op := Op.move (Operand.tmp 0), type := 40, pos := "cache.go:39", after := #[], guard := none }) (v := .pointer (some ⟨p, 0, none⟩)) rfl (by kernel_rfl) (by kernel_rfl) (by kernel_rfl) (fun _ _ _ h => h) (Or.inl ⟨by rfl, by intro w hS; go_simp⟩) hHeld ?_
      try simp only [Act.put, List.setIfInBounds_toArray, List.set_cons_zero, List.set_cons_succ]
      refine wpAnyH_take (i := 4) (oi := { dst := some 13, op := Op.load 43 (Operand.tmp 4), type := 43, pos := "cache.go:39", after := #[], guard := none }) (v := .agg (KL).toArray) rfl (by kernel_rfl) (by kernel_rfl) (by kernel_rfl) (fun _ _ _ h => h) (yieldsIf_load_mid (by rfl) 43 _ rfl w.heap.size (0) rfl (KL) _ (fun w hS => rng hS.2.1) Try.underlying43 rfl HKN2.out) hHeld ?_
      try simp only [Act.put, List.setIfInBounds_toArray, List.set_cons_zero, List.set_cons_succ]
      refine wpAnyH_take (i := 1) (oi := { dst := some 10, op := Op.nilCheck (Operand.tmp 9), type := 0, pos := "cache.go:39", after := #[{ on := 0, ground := Ground.data }], guard := none }) (v := .pointer (some ⟨p, 0, none⟩)) rfl (by kernel_rfl) (by kernel_rfl) (by kernel_rfl) (fun _ _ _ h => h) (Or.inl ⟨by rfl, by intro w hS; go_simp⟩) hHeld ?_
      try simp only [Act.put, List.setIfInBounds_toArray, List.set_cons_zero, List.set_cons_succ]
      refine wpAnyH_take (i := 2) (oi := { dst := some 11, op := Op.fieldAddr 80 (Operand.tmp 10) 1, type := 0, pos := "cache.go:39", after := #[{ on := 1, ground := Ground.data }], guard := none }) (v := .pointer (some ⟨p, 1, none⟩)) rfl (by kernel_rfl) (by kernel_rfl) (by kernel_rfl) (fun _ _ _ h => h) (Or.inl ⟨by rfl, by intro w hS; go_simp⟩) hHeld ?_
      try simp only [Act.put, List.setIfInBounds_toArray, List.set_cons_zero, List.set_cons_succ]
      refine wpAnyH_take (i := 3) (oi := { dst := some 12, op := Op.load 75 (Operand.tmp 11), type := 75, pos := "cache.go:39", after := #[{ on := 2, ground := Ground.data }], guard := none }) (v := .map (some m)) rfl (by kernel_rfl) (by kernel_rfl) (by kernel_rfl) (fun _ _ _ h => h) (Or.inl ⟨by rfl, by intro w hS; have hc := hS.1; go_simp⟩) hHeld ?_
      try simp only [Act.put, List.setIfInBounds_toArray, List.set_cons_zero, List.set_cons_succ]
      refine wpAnyH_take (i := 5) (oi := { dst := some 14, op := Op.lookup 75 (Operand.tmp 12) (Operand.tmp 13) true, type := 81, pos := "cache.go:39", after := #[{ on := 3, ground := Ground.data }, { on := 4, ground := Ground.data }], guard := none }) (v := .tuple #[.pointer (some ⟨e, 0, none⟩), .bool true]) rfl (by kernel_rfl) (by kernel_rfl) (by kernel_rfl) (fun _ _ _ h => h) (Or.inl ⟨by rfl, by intro w hS; (have hq := hS.2.2; go_simp)⟩) hHeld ?_
      try simp only [Act.put, List.setIfInBounds_toArray, List.set_cons_zero, List.set_cons_succ]
      refine wpAnyH_take (i := 6) (oi := { dst := some 8, op := Op.move (Operand.tmp 14), type := 81, pos := "cache.go:39", after := #[{ on := 5, ground := Ground.data }], guard := none }) (v := .tuple #[.pointer (some ⟨e, 0, none⟩), .bool true]) rfl (by kernel_rfl) (by kernel_rfl) (by kernel_rfl) (fun _ _ _ h => h) (Or.inl ⟨by rfl, by intro w hS; go_simp⟩) hHeld ?_
      try simp only [Act.put, List.setIfInBounds_toArray, List.set_cons_zero, List.set_cons_succ]
      refine wpAnyH_take (i := 7) (oi := { dst := some 15, op := Op.extract (Operand.tmp 8) 0, type := 76, pos := "cache.go:39", after := #[{ on := 6, ground := Ground.data }], guard := none }) (v := .pointer (some ⟨e, 0, none⟩)) rfl (by kernel_rfl) (by kernel_rfl) (by kernel_rfl) (fun _ _ _ h => h) (Or.inl ⟨by rfl, by intro w hS; go_simp⟩) hHeld ?_
      try simp only [Act.put, List.setIfInBounds_toArray, List.set_cons_zero, List.set_cons_succ]
      refine wpAnyH_take (i := 8) (oi := { dst := some 16, op := Op.extract (Operand.tmp 8) 1, type := 4, pos := "cache.go:39", after := #[{ on := 6, ground := Ground.data }, { on := 9, ground := Ground.gcOnly Departure.lateStores }], guard := none }) (v := .bool true) rfl (by kernel_rfl) (by kernel_rfl) (by kernel_rfl) (fun _ _ _ h => h) (Or.inl ⟨by rfl, by intro w hS; go_simp⟩) hHeld ?_
      try simp only [Act.put, List.setIfInBounds_toArray, List.set_cons_zero, List.set_cons_succ]
      refine wpAnyH_take (i := 9) (oi := { dst := some 6, op := Op.assign (Operand.tmp 15), type := 76, pos := "cache.go:39", after := #[{ on := 7, ground := Ground.data }, { on := 0, ground := Ground.phase }, { on := 1, ground := Ground.phase }, { on := 2, ground := Ground.phase }, { on := 3, ground := Ground.phase }, { on := 4, ground := Ground.phase }, { on := 5, ground := Ground.phase }, { on := 6, ground := Ground.phase }, { on := 7, ground := Ground.phase }, { on := 8, ground := Ground.textOnly Departure.lateStores }], guard := none }) (v := .pointer (some ⟨e, 0, none⟩)) rfl (by kernel_rfl) (by kernel_rfl) (by kernel_rfl) (fun _ _ _ h => h) (Or.inl ⟨by rfl, by intro w hS; go_simp⟩) hHeld ?_
      try simp only [Act.put, List.setIfInBounds_toArray, List.set_cons_zero, List.set_cons_succ]
      refine wpAnyH_take (i := 10) (oi := { dst := some 7, op := Op.assign (Operand.tmp 16), type := 4, pos := "cache.go:39", after := #[{ on := 8, ground := Ground.data }, { on := 9, ground := Ground.chain }, { on := 0, ground := Ground.phase }, { on := 1, ground := Ground.phase }, { on := 2, ground := Ground.phase }, { on := 3, ground := Ground.phase }, { on := 4, ground := Ground.phase }, { on := 5, ground := Ground.phase }, { on := 6, ground := Ground.phase }, { on := 7, ground := Ground.phase }, { on := 8, ground := Ground.phase }, { on := 9, ground := Ground.phase }], guard := none }) (v := .bool true) rfl (by kernel_rfl) (by kernel_rfl) (by kernel_rfl) (fun _ _ _ h => h) (Or.inl ⟨by rfl, by intro w hS; go_simp⟩) hHeld ?_
      try simp only [Act.put, List.setIfInBounds_toArray, List.set_cons_zero, List.set_cons_succ]
      refine wpAnyH_done (by kernel_rfl) ?_ _
      refine NoPanic.normal ?_
      rw [hwz]
      go_wp2_with (go_at_call 61; refine H1.out.mono ?_; rintro x w1 ⟨rfl, t, hl1, hs1, hr1⟩; have HX := hid (HE.out t w1 hl1 hs1 hr1); clear H1 HE hl1 hs1 hr1)
      refine bodyPost_ret (results_none rfl _ _ _) rfl ?_
      exact ⟨rfl, HUN.out _ _ HX.out⟩
    · have hA1 := hA.setValH hin v
      have H1 := hid (use_held _ base p m n _ hC1 e heb (by rw [E_setVal_same]; exact hA.ref.flag false e hin))
      have e1 : a.put k v = { a with held := setL a.held k v } := by
        unfold AS.put
        rw [← hkey, hA.findH hin]
      rw [hkey] at hA1
      have HE := hid (LN.nx (N := N) ⟨hC1, hF1, rfl⟩ hA1 (by omega) (by rw [← e1]; omega) h3)
      rw [e1]
      clear hC hA hC1 hA1 hl hpt e1 hF1 hin hkey heb
      simp only [hka, argV] at *
      generalize (s.E e).val = VV at *
      have HSZ := hid (And.intro c1 (And.intro hrz hlk))
      go_enter Try.func44, Try.ntmps44
      go_wp2
      refine wp_region_noPanic ?_
      refine wp_region_held_drew (S := fun w' => w'.cell? ⟨p, 1, none⟩ = some (.map (some m)) ∧ w'.heap[w.heap.size]? = some (.cells KL.toArray 43 (0, 0)) ∧ (Instr.lookup 75 (.map (some m)) (.agg KL.toArray) true).run Try.prog w' = .ok (.tuple #[.pointer (some ⟨e, 0, none⟩), .bool true]) w') (by kernel_rfl) (by rw [hwz]; exact HSZ.out) (fun hHeld => ?_)
      refine wpAnyH_take (i := 0) (oi := { dst := some 9, op := Op.move (Operand.tmp 0), type := 40, pos := "cache.go:39", after := #[], guard := none }) (v := .pointer (some ⟨p, 0, none⟩)) rfl (by kernel_rfl) (by kernel_rfl) (by kernel_rfl) (fun _ _ _ h => h) (Or.inl ⟨by rfl, by intro w hS; go_simp⟩) hHeld ?_
      try simp only [Act.put, List.setIfInBounds_toArray, List.set_cons_zero, List.set_cons_succ]
      refine wpAnyH_take (i := 4) (oi := { dst := some 13, op := Op.load 43 (Operand.tmp 4), type := 43, pos := "cache.go:39", after := #[], guard := none }) (v := .agg (KL).toArray) rfl (by kernel_rfl) (by kernel_rfl) (by kernel_rfl) (fun _ _ _ h => h) (yieldsIf_load_mid (by rfl) 43 _ rfl w.heap.size (0) rfl (KL) _ (fun w hS => rng hS.2.1) Try.underlying43 rfl HKN2.out) hHeld ?_
      try simp only [Act.put, List.setIfInBounds_toArray, List.set_cons_zero, List.set_cons_succ]
      refine wpAnyH_take (i := 1) (oi := { dst := some 10, op := Op.nilCheck (Operand.tmp 9), type := 0, pos := "cache.go:39", after := #[{ on := 0, ground := Ground.data }], guard := none }) (v := .pointer (some ⟨p, 0, none⟩)) rfl (by kernel_rfl) (by kernel_rfl) (by kernel_rfl) (fun _ _ _ h => h) (Or.inl ⟨by rfl, by intro w hS; go_simp⟩) hHeld ?_
      try simp only [Act.put, List.setIfInBounds_toArray, List.set_cons_zero, List.set_cons_succ]
      refine wpAnyH_take (i := 2) (oi := { dst := some 11, op := Op.fieldAddr 80 (Operand.tmp 10) 1, type := 0, pos := "cache.go:39", after := #[{ on := 1, ground := Ground.data }], guard := none }) (v := .pointer (some ⟨p, 1, none⟩)) rfl (by kernel_rfl) (by kernel_rfl) (by kernel_rfl) (fun _ _ _ h => h) (Or.inl ⟨by rfl, by intro w hS; go_simp⟩) hHeld ?_
      try simp only [Act.put, List.setIfInBounds_toArray, List.set_cons_zero, List.set_cons_succ]
      refine wpAnyH_take (i := 3) (oi := { dst := some 12, op := Op.load 75 (Operand.tmp 11), type := 75, pos := "cache.go:39", after := #[{ on := 2, ground := Ground.data }], guard := none }) (v := .map (some m)) rfl (by kernel_rfl) (by kernel_rfl) (by kernel_rfl) (fun _ _ _ h => h) (Or.inl ⟨by rfl, by intro w hS; have hc := hS.1; go_simp⟩) hHeld ?_
      try simp only [Act.put, List.setIfInBounds_toArray, List.set_cons_zero, List.set_cons_succ]
      refine wpAnyH_take (i := 5) (oi := { dst := some 14, op := Op.lookup 75 (Operand.tmp 12) (Operand.tmp 13) true, type := 81, pos := "cache.go:39", after := #[{ on := 3, ground := Ground.data }, { on := 4, ground := Ground.data }], guard := none }) (v := .tuple #[.pointer (some ⟨e, 0, none⟩), .bool true]) rfl (by kernel_rfl) (by kernel_rfl) (by kernel_rfl) (fun _ _ _ h => h) (Or.inl ⟨by rfl, by intro w hS; (have hq := hS.2.2; go_simp)⟩) hHeld ?_
      try simp only [Act.put, List.setIfInBounds_toArray, List.set_cons_zero, List.set_cons_succ]
      refine wpAnyH_take (i := 6) (oi := { dst := some 8, op := Op.move (Operand.tmp 14), type := 81, pos := "cache.go:39", after := #[{ on := 5, ground := Ground.data }], guard := none }) (v := .tuple #[.pointer (some ⟨e, 0, none⟩), .bool true]) rfl (by kernel_rfl) (by kernel_rfl) (by kernel_rfl) (fun _ _ _ h => h) (Or.inl ⟨by rfl, by intro w hS; go_simp⟩) hHeld ?_
      try simp only [Act.put, List.setIfInBounds_toArray, List.set_cons_zero, List.set_cons_succ]
      refine wpAnyH_take (i := 7) (oi := { dst := some 15, op := Op.extract (Operand.tmp 8) 0, type := 76, pos := "cache.go:39", after := #[{ on := 6, ground := Ground.data }], guard := none }) (v := .pointer (some ⟨e, 0, none⟩)) rfl (by kernel_rfl) (by kernel_rfl) (by kernel_rfl) (fun _ _ _ h => h) (Or.inl ⟨by rfl, by intro w hS; go_simp⟩) hHeld ?_
      try simp only [Act.put, List.setIfInBounds_toArray, List.set_cons_zero, List.set_cons_succ]
      refine wpAnyH_take (i := 8) (oi := { dst := some 16, op := Op.extract (Operand.tmp 8) 1, type := 4, pos := "cache.go:39", after := #[{ on := 6, ground := Ground.data }, { on := 9, ground := Ground.gcOnly Departure.lateStores }], guard := none }) (v := .bool true) rfl (by kernel_rfl) (by kernel_rfl) (by kernel_rfl) (fun _ _ _ h => h) (Or.inl ⟨by rfl, by intro w hS; go_simp⟩) hHeld ?_
      try simp only [Act.put, List.setIfInBounds_toArray, List.set_cons_zero, List.set_cons_succ]
      refine wpAnyH_take (i := 9) (oi := { dst := some 6, op := Op.assign (Operand.tmp 15), type := 76, pos := "cache.go:39", after := #[{ on := 7, ground := Ground.data }, { on := 0, ground := Ground.phase }, { on := 1, ground := Ground.phase }, { on := 2, ground := Ground.phase }, { on := 3, ground := Ground.phase }, { on := 4, ground := Ground.phase }, { on := 5, ground := Ground.phase }, { on := 6, ground := Ground.phase }, { on := 7, ground := Ground.phase }, { on := 8, ground := Ground.textOnly Departure.lateStores }], guard := none }) (v := .pointer (some ⟨e, 0, none⟩)) rfl (by kernel_rfl) (by kernel_rfl) (by kernel_rfl) (fun _ _ _ h => h) (Or.inl ⟨by rfl, by intro w hS; go_simp⟩) hHeld ?_
      try simp only [Act.put, List.setIfInBounds_toArray, List.set_cons_zero, List.set_cons_succ]
      refine wpAnyH_take (i := 10) (oi := { dst := some 7, op := Op.assign (Operand.tmp 16), type := 4, pos := "cache.go:39", after := #[{ on := 8, ground := Ground.data }, { on := 9, ground := Ground.chain }, { on := 0, ground := Ground.phase }, { on := 1, ground := Ground.phase }, { on := 2, ground := Ground.phase }, { on := 3, ground := Ground.phase }, { on := 4, ground := Ground.phase }, { on := 5, ground := Ground.phase }, { on := 6, ground := Ground.phase }, { on := 7, ground := Ground.phase }, { on := 8, ground := Ground.phase }, { on := 9, ground := Ground.phase }], guard := none }) (v := .bool true) rfl (by kernel_rfl) (by kernel_rfl) (by kernel_rfl) (fun _ _ _ h => h) (Or.inl ⟨by rfl, by intro w hS; go_simp⟩) hHeld ?_
      try simp only [Act.put, List.setIfInBounds_toArray, List.set_cons_zero, List.set_cons_succ]
      refine wpAnyH_done (by kernel_rfl) ?_ _
      refine NoPanic.normal ?_
      rw [hwz]
      go_wp2_with (go_at_call 61; refine H1.out.mono ?_; rintro x w1 ⟨rfl, rfl⟩)
      refine bodyPost_ret (results_none rfl _ _ _) rfl ?_
      exact ⟨rfl, HUN.out _ _ HE.out⟩
end Go.Proofs.Ytbpamknebjdicaa.K2
