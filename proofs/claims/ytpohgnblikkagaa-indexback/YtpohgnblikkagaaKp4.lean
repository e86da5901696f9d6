import Derived.Test.YtpohgnblikkagaaKp3
namespace Go.Proofs.Ytpohgnblikkagaa
set_option linter.unusedVariables false
set_option linter.unusedSimpArgs false
open Go.RowKit
attribute [local go_sem ↓] Go.wp_at_zero Go.wp_at_succ

theorem OwnK.sl {w : World} {base : Nat} {v : Value} {vs : List Value} (h : OwnK w base v vs) : ∃ s n c, v = .slice s n c := by
  obtain ⟨s, c, b, e, _⟩ := h.at
  exact ⟨s, _, c, e⟩
theorem own_base {w : World} {base b : Nat} {v : Value} {zs : List Int} (h : Own w b v zs) (hb : base ≤ b) : Own w base v zs :=
  ⟨h.1, h.2.imp id fun ⟨g, cap, cur, e, hg, r⟩ => ⟨g, cap, cur, e, Nat.le_trans hb hg, r⟩⟩
theorem keep_fin {w w1 wB wC wz : World} {base B : Nat} {v1 v2 v1' v2' x y : Value} {L1 L2 : List Value} {zs : List (List Int)} {ys : List Int} {o : Obj} (h : KP w base B v1 v2 L1 L2 zs) (hx : Own w base x ys) (hd : ∀ i, i < zs.length → DjB (L1.getD i undef) x)
    (P1 : PK w1 base B v1' v2 (L1 ++ [x]) L2) (F1 : TF w w1) (b1 : BU base B v1 v1' w w1) (hOy : Own wB w1.heap.size y ys) (hB4 : Below w1.heap.size w1 wB)
    (P2 : PK (wC.setCell ⟨B, 1, none⟩ v2') base B v1' v2' (L1 ++ [x]) (L2 ++ [y])) (F2 : TF (wB.alloc o) (wC.setCell ⟨B, 1, none⟩ v2')) (b2 : BU base B v2 v2' (wB.alloc o) (wC.setCell ⟨B, 1, none⟩ v2')) (hz : wz = wC.setCell ⟨B, 1, none⟩ v2') :
    ∃ v1' v2' y, KP wz base B v1' v2' (L1 ++ [x]) (L2 ++ [y]) (zs ++ [ys]) ∧ TF w wz ∧ Below base w wz ∧ UF B v1 v2 w wz ∧ NB w v1 v2 v1' v2' y := by
  subst hz
  have hb1 : base ≤ w1.heap.size := Nat.le_trans P1.hb (Nat.le_of_lt (hlt P1.bk))
  have bA : Below wB.heap.size wB (wB.alloc o) := (Below.refl _ _).alloc (Nat.le_refl _) _
  have F3 : TF wB (wC.setCell ⟨B, 1, none⟩ v2') := (TF.below bA).trans F2
  have F4 : TF w (wC.setCell ⟨B, 1, none⟩ v2') := F1.trans ((TF.below hB4).trans F3)
  refine ⟨v1', v2', y, h.snoc P2 F4 (own_tf hx F4) (own_tf (own_base hOy hb1) F3) hd, F4, ?_, ?_, ?_⟩
  · exact b1.bel.trans ((hB4.mono hb1).trans ((bA.mono (Nat.le_trans hb1 hB4.size)).trans b2.bel))
  · intro k hk hB h1 h2
    have s1 := b1.bel.size
    have s2 := hB4.size
    have s3 := bA.size
    rw [b2.fr k (by omega) hB h2, bA.block k (by omega), hB4.block k (by omega), b1.fr k hk hB h1]
  · intro k hk
    have s1 := b1.bel.size
    have s2 := hB4.size
    have s3 := bA.size
    rcases hk with e | e | e
    · rcases b1.nv with e2 | ⟨k2, e2, h2⟩
      · exact Or.inl (e2 ▸ e)
      · rw [e2] at e; cases e; exact Or.inr (Or.inr h2)
    · rcases b2.nv with e2 | ⟨k2, e2, h2⟩
      · exact Or.inr (Or.inl (e2 ▸ e))
      · rw [e2] at e; cases e; exact Or.inr (Or.inr (by omega))
    · have := (hOy.block k e).1
      exact Or.inr (Or.inr (by omega))
set_option maxRecDepth 100000 in
set_option maxHeartbeats 2000000 in
theorem keep_any (w : World) (base B : Nat) (v1 v2 : Value) (L1 L2 : List Value) (zs : List (List Int)) (h : KP w base B v1 v2 L1 L2 zs) (hN : zs.length ≤ 100000000) (ys : List Int) (sp : Option Addr) (cap : Nat) (hx : Own w base (.slice sp ys.length cap) ys) (hlen : ys.length ≤ 140737488355000)
    (hd : ∀ i, i < zs.length → DjB (L1.getD i undef) (.slice sp ys.length cap)) :
    Calls Try.prog 7 #[.pointer (some ⟨B, 0, none⟩), .slice sp ys.length cap] w fun e w' => e = .returned (.tuple #[]) ∧ ∃ v1' v2' y, KP w' base B v1' v2' (L1 ++ [.slice sp ys.length cap]) (L2 ++ [y]) (zs ++ [ys]) ∧ TF w w' ∧ Below base w w' ∧ UF B v1 v2 w w' ∧ NB w v1 v2 v1' v2' y := by
  have c1 := h.pk.c1
  have KL1 := hid (show L1.length + [Value.slice sp ys.length cap].length ≤ 1000000000000 by rw [h.l1]; simp; omega)
  have KL2 := hid (show L2.length + 1 ≤ 1000000000000 by rw [h.l2]; omega)
  have bW := Nat.le_trans h.pk.hb (Nat.le_of_lt (hlt h.pk.bk))
  go_enter Try.func7, Try.ntmps7
  go_wp2_with (first
    | (at_builtin; refine wpList_pushKp rfl (.tmp 8) (.tmp 10) rfl base v1 L1 [.slice sp ys.length cap] rfl h.pk.o1 rfl (fun y hy => by simp at hy; rw [hy]; rfl) KL1.out bW _ _ ?_; intro v1' wA q1 q2 q3 q4
       obtain ⟨s1, n1, k1, rfl⟩ := q1.sl
       obtain ⟨e1, P1, F1, b1⟩ := h.pk.push1 q1 q2 q3 q4
       have cA : wA.cell? ⟨B, 0, none⟩ = some v1 := by rw [cell_of_row _ _ _ _ _ _ e1]; rfl
       have fA : wA.frozen? ⟨B, 0, none⟩ = false := frozen_of_row _ _ _ _ _ e1))
  clear cA fA q1 q2 q3 q4 e1 c1
  generalize wA.setCell ⟨B, 0, none⟩ (.slice s1 n1 k1) = w1 at *
  have PD : PK w1.drew base B (.slice s1 n1 k1) v2 (L1 ++ [.slice sp ys.length cap]) L2 := ⟨P1.hb, P1.bk, P1.o1, P1.o2, P1.dj⟩
  clear P1
  have c2 := PD.c2
  have hx1 : Own w1.drew base (.slice sp ys.length cap) ys := own_tf hx F1
  obtain ⟨sp', cap', he, hS1, hnil⟩ := hx1.form
  cases he
  refine wp_region_noPanic ?_
  refine wp_region_any (by kernel_rfl) ?_
  show wpAny _ _ _ _ _ _ _ w1.drew
  refine wpAny_take (i := 0) (oi := { dst := some 14, op := Op.move (Operand.tmp 0), type := 33, pos := "keeper.go:13", after := #[], guard := none }) (v := .pointer (some ⟨B, 0, none⟩)) rfl (by kernel_rfl) (by kernel_rfl) (by kernel_rfl) (fun _ _ _ h => h) (Or.inl ⟨by rfl, by intro w; go_simp⟩) ?_
  try simp only [Act.put, List.setIfInBounds_toArray, List.set_cons_zero, List.set_cons_succ]
  refine wpAny_take (i := 1) (oi := { dst := some 15, op := Op.move (Operand.tmp 0), type := 33, pos := "keeper.go:13", after := #[], guard := none }) (v := .pointer (some ⟨B, 0, none⟩)) rfl (by kernel_rfl) (by kernel_rfl) (by kernel_rfl) (fun _ _ _ h => h) (Or.inl ⟨by rfl, by intro w; go_simp⟩) ?_
  try simp only [Act.put, List.setIfInBounds_toArray, List.set_cons_zero, List.set_cons_succ]
  refine wpAny_take (i := 2) (oi := { dst := some 16, op := Op.nilCheck (Operand.tmp 15), type := 0, pos := "keeper.go:13", after := #[{ on := 1, ground := Ground.data }], guard := none }) (v := .pointer (some ⟨B, 0, none⟩)) rfl (by kernel_rfl) (by kernel_rfl) (by kernel_rfl) (fun _ _ _ h => h) (Or.inl ⟨by rfl, by intro w; go_simp⟩) ?_
  try simp only [Act.put, List.setIfInBounds_toArray, List.set_cons_zero, List.set_cons_succ]
  refine wpAny_take (i := 3) (oi := { dst := some 17, op := Op.fieldAddr 36 (Operand.tmp 16) 1, type := 0, pos := "keeper.go:13", after := #[{ on := 2, ground := Ground.data }], guard := none }) (v := .pointer (some ⟨B, 1, none⟩)) rfl (by kernel_rfl) (by kernel_rfl) (by kernel_rfl) (fun _ _ _ h => h) (Or.inl ⟨by rfl, by intro w; go_simp⟩) ?_
  try simp only [Act.put, List.setIfInBounds_toArray, List.set_cons_zero, List.set_cons_succ]
  refine wpAny_take (i := 5) (oi := { dst := some 19, op := Op.move (Operand.tmp 1), type := 26, pos := "keeper.go:13", after := #[], guard := none }) (v := .slice sp ys.length cap) rfl (by kernel_rfl) (by kernel_rfl) (by kernel_rfl) (fun _ _ _ h => h) (Or.inl ⟨by rfl, by intro w; go_simp⟩) ?_
  try simp only [Act.put, List.setIfInBounds_toArray, List.set_cons_zero, List.set_cons_succ]
  refine wpAny_ready (rs := [4, 6]) (by kernel_rfl) (by simp) ?_
  refine (AllReady.cons (o := { dst := some 18, op := Op.load 34 (Operand.tmp 17), type := 34, pos := "keeper.go:13", after := #[{ on := 3, ground := Ground.data }], guard := none }) rfl (fun K hK => ?_) (AllReady.cons (o := { dst := some 20, op := Op.call { callee := Callee.value (Operand.func 15), args := #[Operand.tmp 19], argTypes := #[26] }, type := 26, pos := "keeper.go:13", after := #[{ on := 5, ground := Ground.data }], guard := none }) rfl (fun K hK => ?_) AllReady.nil))
  · skip
    go_simp
    refine hK _ _ ?_
    clear hK K
    try simp only [Act.put, List.setIfInBounds_toArray, List.set_cons_zero, List.set_cons_succ]
    refine wpAny_ready (rs := [6]) (by kernel_rfl) (by simp) ?_
    refine (AllReady.cons (o := { dst := some 20, op := Op.call { callee := Callee.value (Operand.func 15), args := #[Operand.tmp 19], argTypes := #[26] }, type := 26, pos := "keeper.go:13", after := #[{ on := 5, ground := Ground.data }], guard := none }) rfl (fun K hK => ?_) AllReady.nil)
    go_simp
    go_at_call 15
    refine (copyBytes_any _ ys sp cap hS1 hlen).mono ?_
    rintro e wB ⟨y, rfl, hOy, hB4⟩
    go_wp2_with fail
    have PB := PD.below hB4
    have cB := PB.c2
    obtain ⟨sp3, cap3, rfl, _, _⟩ := hOy.form
    try simp only [Act.put, List.setIfInBounds_toArray, List.set_cons_zero, List.set_cons_succ]
    refine wpAny_ready (rs := [7]) (by kernel_rfl) (by simp) ?_
    refine (AllReady.cons (o := { dst := some 21, op := Op.buildSlice 34 1 #[(0, Operand.tmp 20)], type := 34, pos := "keeper.go:13", after := #[{ on := 6, ground := Ground.data }], guard := none }) rfl (fun K hK => ?_) AllReady.nil)
    go_simp
    refine hK _ _ ?_
    clear hK K
    try simp only [Act.put, List.setIfInBounds_toArray, List.set_cons_zero, List.set_cons_succ]
    have PC := PB.below ((Below.refl _ wB).alloc (Nat.le_refl _) (.cells #[.slice sp3 ys.length cap3] 26))
    have cN : (wB.alloc (.cells #[.slice sp3 ys.length cap3] 26)).cell? ⟨wB.heap.size, 0, none⟩ = some (.slice sp3 ys.length cap3) := by rw [cell_of_row _ _ _ _ _ _ (hnew wB _)]; rfl
    have bE := Nat.le_trans PC.hb (Nat.le_of_lt (hlt PC.bk))
    refine wpAny_ready (rs := [8]) (by kernel_rfl) (by simp) ?_
    refine (AllReady.cons (o := { dst := some 22, op := Op.call { callee := Callee.builtin Builtin.append, args := #[Operand.tmp 18, Operand.tmp 21], argTypes := #[34, 34] }, type := 34, pos := "keeper.go:13", after := #[{ on := 4, ground := Ground.data }, { on := 7, ground := Ground.data }, { on := 6, ground := Ground.chain }], guard := none }) rfl (fun K hK => ?_) AllReady.nil)
    refine step_pushKp rfl (.tmp 18) (.tmp 21) rfl base v2 L2 _ rfl PC.o2 _ cN rfl rfl KL2.out bE ?_
    intro v2' wC q1 q2 q3 q4
    refine hK _ _ ?_
    clear hK K
    try simp only [Act.put, List.setIfInBounds_toArray, List.set_cons_zero, List.set_cons_succ]
    obtain ⟨s2, n2, k2, rfl⟩ := q1.sl
    obtain ⟨e2, P2, F2, b2⟩ := PC.push2 q1 q2 q3 q4
    have cC : wC.cell? ⟨B, 1, none⟩ = some v2 := by rw [cell_of_row _ _ _ _ _ _ e2]; rfl
    have fC : wC.frozen? ⟨B, 1, none⟩ = false := frozen_of_row _ _ _ _ _ e2
    refine wpAny_take (i := 9) (oi := { dst := some 23, op := Op.nilCheck (Operand.tmp 14), type := 0, pos := "keeper.go:13", after := #[{ on := 0, ground := Ground.data }, { on := 0, ground := Ground.phase }, { on := 1, ground := Ground.phase }, { on := 2, ground := Ground.phase }, { on := 3, ground := Ground.phase }, { on := 4, ground := Ground.phase }, { on := 5, ground := Ground.phase }, { on := 6, ground := Ground.phase }, { on := 7, ground := Ground.phase }, { on := 8, ground := Ground.phase }], guard := none }) (v := .pointer (some ⟨B, 0, none⟩)) rfl (by kernel_rfl) (by kernel_rfl) (by kernel_rfl) (fun _ _ _ h => h) (Or.inl ⟨by rfl, by intro w; go_simp⟩) ?_
    try simp only [Act.put, List.setIfInBounds_toArray, List.set_cons_zero, List.set_cons_succ]
    refine wpAny_take (i := 10) (oi := { dst := some 24, op := Op.fieldAddr 36 (Operand.tmp 23) 1, type := 0, pos := "keeper.go:13", after := #[{ on := 9, ground := Ground.data }, { on := 0, ground := Ground.phase }, { on := 1, ground := Ground.phase }, { on := 2, ground := Ground.phase }, { on := 3, ground := Ground.phase }, { on := 4, ground := Ground.phase }, { on := 5, ground := Ground.phase }, { on := 6, ground := Ground.phase }, { on := 7, ground := Ground.phase }, { on := 8, ground := Ground.phase }], guard := none }) (v := .pointer (some ⟨B, 1, none⟩)) rfl (by kernel_rfl) (by kernel_rfl) (by kernel_rfl) (fun _ _ _ h => h) (Or.inl ⟨by rfl, by intro w; go_simp⟩) ?_
    try simp only [Act.put, List.setIfInBounds_toArray, List.set_cons_zero, List.set_cons_succ]
    have HF := hid (fun (wz : World) (hz : wz = wC.setCell ⟨B, 1, none⟩ (.slice s2 n2 k2)) => keep_fin h hx hd PD F1 b1.drew hOy hB4 P2 F2 b2 hz)
    clear P2 F2 b2 PC q1 q2 q3 q4 e2
    refine wpAny_ready (rs := [11]) (by kernel_rfl) (by simp) ?_
    refine (AllReady.cons (o := { dst := none, op := Op.store 34 (Operand.tmp 24) (Operand.tmp 22), type := 0, pos := "keeper.go:13", after := #[{ on := 10, ground := Ground.data }, { on := 8, ground := Ground.data }, { on := 8, ground := Ground.chain }, { on := 0, ground := Ground.phase }, { on := 1, ground := Ground.phase }, { on := 2, ground := Ground.phase }, { on := 3, ground := Ground.phase }, { on := 4, ground := Ground.phase }, { on := 5, ground := Ground.phase }, { on := 6, ground := Ground.phase }, { on := 7, ground := Ground.phase }, { on := 8, ground := Ground.phase }], guard := none }) rfl (fun K hK => ?_) AllReady.nil)
    go_simp
    refine hK _ _ ?_
    clear hK K
    try simp only [Act.put, List.setIfInBounds_toArray, List.set_cons_zero, List.set_cons_succ]
    refine wpAny_done (by kernel_rfl) ?_ _
    refine NoPanic.normal ?_
    go_end0
    exact ⟨rfl, HF.out _ rfl⟩
  · skip
    go_simp
    go_at_call 15
    refine (copyBytes_any _ ys sp cap hS1 hlen).mono ?_
    rintro e wB ⟨y, rfl, hOy, hB4⟩
    go_wp2_with fail
    have PB := PD.below hB4
    have cB := PB.c2
    obtain ⟨sp3, cap3, rfl, _, _⟩ := hOy.form
    try simp only [Act.put, List.setIfInBounds_toArray, List.set_cons_zero, List.set_cons_succ]
    refine wpAny_ready (rs := [4, 7]) (by kernel_rfl) (by simp) ?_
    refine (AllReady.cons (o := { dst := some 18, op := Op.load 34 (Operand.tmp 17), type := 34, pos := "keeper.go:13", after := #[{ on := 3, ground := Ground.data }], guard := none }) rfl (fun K hK => ?_) (AllReady.cons (o := { dst := some 21, op := Op.buildSlice 34 1 #[(0, Operand.tmp 20)], type := 34, pos := "keeper.go:13", after := #[{ on := 6, ground := Ground.data }], guard := none }) rfl (fun K hK => ?_) AllReady.nil))
    · skip
      go_simp
      refine hK _ _ ?_
      clear hK K
      try simp only [Act.put, List.setIfInBounds_toArray, List.set_cons_zero, List.set_cons_succ]
      refine wpAny_ready (rs := [7]) (by kernel_rfl) (by simp) ?_
      refine (AllReady.cons (o := { dst := some 21, op := Op.buildSlice 34 1 #[(0, Operand.tmp 20)], type := 34, pos := "keeper.go:13", after := #[{ on := 6, ground := Ground.data }], guard := none }) rfl (fun K hK => ?_) AllReady.nil)
      go_simp
      refine hK _ _ ?_
      clear hK K
      try simp only [Act.put, List.setIfInBounds_toArray, List.set_cons_zero, List.set_cons_succ]
      have PC := PB.below ((Below.refl _ wB).alloc (Nat.le_refl _) (.cells #[.slice sp3 ys.length cap3] 26))
      have cN : (wB.alloc (.cells #[.slice sp3 ys.length cap3] 26)).cell? ⟨wB.heap.size, 0, none⟩ = some (.slice sp3 ys.length cap3) := by rw [cell_of_row _ _ _ _ _ _ (hnew wB _)]; rfl
      have bE := Nat.le_trans PC.hb (Nat.le_of_lt (hlt PC.bk))
      refine wpAny_ready (rs := [8]) (by kernel_rfl) (by simp) ?_
      refine (AllReady.cons (o := { dst := some 22, op := Op.call { callee := Callee.builtin Builtin.append, args := #[Operand.tmp 18, Operand.tmp 21], argTypes := #[34, 34] }, type := 34, pos := "keeper.go:13", after := #[{ on := 4, ground := Ground.data }, { on := 7, ground := Ground.data }, { on := 6, ground := Ground.chain }], guard := none }) rfl (fun K hK => ?_) AllReady.nil)
      refine step_pushKp rfl (.tmp 18) (.tmp 21) rfl base v2 L2 _ rfl PC.o2 _ cN rfl rfl KL2.out bE ?_
      intro v2' wC q1 q2 q3 q4
      refine hK _ _ ?_
      clear hK K
      try simp only [Act.put, List.setIfInBounds_toArray, List.set_cons_zero, List.set_cons_succ]
      obtain ⟨s2, n2, k2, rfl⟩ := q1.sl
      obtain ⟨e2, P2, F2, b2⟩ := PC.push2 q1 q2 q3 q4
      have cC : wC.cell? ⟨B, 1, none⟩ = some v2 := by rw [cell_of_row _ _ _ _ _ _ e2]; rfl
      have fC : wC.frozen? ⟨B, 1, none⟩ = false := frozen_of_row _ _ _ _ _ e2
      refine wpAny_take (i := 9) (oi := { dst := some 23, op := Op.nilCheck (Operand.tmp 14), type := 0, pos := "keeper.go:13", after := #[{ on := 0, ground := Ground.data }, { on := 0, ground := Ground.phase }, { on := 1, ground := Ground.phase }, { on := 2, ground := Ground.phase }, { on := 3, ground := Ground.phase }, { on := 4, ground := Ground.phase }, { on := 5, ground := Ground.phase }, { on := 6, ground := Ground.phase }, { on := 7, ground := Ground.phase }, { on := 8, ground := Ground.phase }], guard := none }) (v := .pointer (some ⟨B, 0, none⟩)) rfl (by kernel_rfl) (by kernel_rfl) (by kernel_rfl) (fun _ _ _ h => h) (Or.inl ⟨by rfl, by intro w; go_simp⟩) ?_
      try simp only [Act.put, List.setIfInBounds_toArray, List.set_cons_zero, List.set_cons_succ]
      refine wpAny_take (i := 10) (oi := { dst := some 24, op := Op.fieldAddr 36 (Operand.tmp 23) 1, type := 0, pos := "keeper.go:13", after := #[{ on := 9, ground := Ground.data }, { on := 0, ground := Ground.phase }, { on := 1, ground := Ground.phase }, { on := 2, ground := Ground.phase }, { on := 3, ground := Ground.phase }, { on := 4, ground := Ground.phase }, { on := 5, ground := Ground.phase }, { on := 6, ground := Ground.phase }, { on := 7, ground := Ground.phase }, { on := 8, ground := Ground.phase }], guard := none }) (v := .pointer (some ⟨B, 1, none⟩)) rfl (by kernel_rfl) (by kernel_rfl) (by kernel_rfl) (fun _ _ _ h => h) (Or.inl ⟨by rfl, by intro w; go_simp⟩) ?_
      try simp only [Act.put, List.setIfInBounds_toArray, List.set_cons_zero, List.set_cons_succ]
      have HF := hid (fun (wz : World) (hz : wz = wC.setCell ⟨B, 1, none⟩ (.slice s2 n2 k2)) => keep_fin h hx hd PD F1 b1.drew hOy hB4 P2 F2 b2 hz)
      clear P2 F2 b2 PC q1 q2 q3 q4 e2
      refine wpAny_ready (rs := [11]) (by kernel_rfl) (by simp) ?_
      refine (AllReady.cons (o := { dst := none, op := Op.store 34 (Operand.tmp 24) (Operand.tmp 22), type := 0, pos := "keeper.go:13", after := #[{ on := 10, ground := Ground.data }, { on := 8, ground := Ground.data }, { on := 8, ground := Ground.chain }, { on := 0, ground := Ground.phase }, { on := 1, ground := Ground.phase }, { on := 2, ground := Ground.phase }, { on := 3, ground := Ground.phase }, { on := 4, ground := Ground.phase }, { on := 5, ground := Ground.phase }, { on := 6, ground := Ground.phase }, { on := 7, ground := Ground.phase }, { on := 8, ground := Ground.phase }], guard := none }) rfl (fun K hK => ?_) AllReady.nil)
      go_simp
      refine hK _ _ ?_
      clear hK K
      try simp only [Act.put, List.setIfInBounds_toArray, List.set_cons_zero, List.set_cons_succ]
      refine wpAny_done (by kernel_rfl) ?_ _
      refine NoPanic.normal ?_
      go_end0
      exact ⟨rfl, HF.out _ rfl⟩
    · skip
      go_simp
      refine hK _ _ ?_
      clear hK K
      try simp only [Act.put, List.setIfInBounds_toArray, List.set_cons_zero, List.set_cons_succ]
      have cB2 := (PB.below ((Below.refl _ wB).alloc (Nat.le_refl _) (.cells #[.slice sp3 ys.length cap3] 26))).c2
      refine wpAny_ready (rs := [4]) (by kernel_rfl) (by simp) ?_
      refine (AllReady.cons (o := { dst := some 18, op := Op.load 34 (Operand.tmp 17), type := 34, pos := "keeper.go:13", after := #[{ on := 3, ground := Ground.data }], guard := none }) rfl (fun K hK => ?_) AllReady.nil)
      go_simp
      refine hK _ _ ?_
      clear hK K
      try simp only [Act.put, List.setIfInBounds_toArray, List.set_cons_zero, List.set_cons_succ]
      have PC := PB.below ((Below.refl _ wB).alloc (Nat.le_refl _) (.cells #[.slice sp3 ys.length cap3] 26))
      have cN : (wB.alloc (.cells #[.slice sp3 ys.length cap3] 26)).cell? ⟨wB.heap.size, 0, none⟩ = some (.slice sp3 ys.length cap3) := by rw [cell_of_row _ _ _ _ _ _ (hnew wB _)]; rfl
      have bE := Nat.le_trans PC.hb (Nat.le_of_lt (hlt PC.bk))
      refine wpAny_ready (rs := [8]) (by kernel_rfl) (by simp) ?_
      refine (AllReady.cons (o := { dst := some 22, op := Op.call { callee := Callee.builtin Builtin.append, args := #[Operand.tmp 18, Operand.tmp 21], argTypes := #[34, 34] }, type := 34, pos := "keeper.go:13", after := #[{ on := 4, ground := Ground.data }, { on := 7, ground := Ground.data }, { on := 6, ground := Ground.chain }], guard := none }) rfl (fun K hK => ?_) AllReady.nil)
      refine step_pushKp rfl (.tmp 18) (.tmp 21) rfl base v2 L2 _ rfl PC.o2 _ cN rfl rfl KL2.out bE ?_
      intro v2' wC q1 q2 q3 q4
      refine hK _ _ ?_
      clear hK K
      try simp only [Act.put, List.setIfInBounds_toArray, List.set_cons_zero, List.set_cons_succ]
      obtain ⟨s2, n2, k2, rfl⟩ := q1.sl
      obtain ⟨e2, P2, F2, b2⟩ := PC.push2 q1 q2 q3 q4
      have cC : wC.cell? ⟨B, 1, none⟩ = some v2 := by rw [cell_of_row _ _ _ _ _ _ e2]; rfl
      have fC : wC.frozen? ⟨B, 1, none⟩ = false := frozen_of_row _ _ _ _ _ e2
      refine wpAny_take (i := 9) (oi := { dst := some 23, op := Op.nilCheck (Operand.tmp 14), type := 0, pos := "keeper.go:13", after := #[{ on := 0, ground := Ground.data }, { on := 0, ground := Ground.phase }, { on := 1, ground := Ground.phase }, { on := 2, ground := Ground.phase }, { on := 3, ground := Ground.phase }, { on := 4, ground := Ground.phase }, { on := 5, ground := Ground.phase }, { on := 6, ground := Ground.phase }, { on := 7, ground := Ground.phase }, { on := 8, ground := Ground.phase }], guard := none }) (v := .pointer (some ⟨B, 0, none⟩)) rfl (by kernel_rfl) (by kernel_rfl) (by kernel_rfl) (fun _ _ _ h => h) (Or.inl ⟨by rfl, by intro w; go_simp⟩) ?_
      try simp only [Act.put, List.setIfInBounds_toArray, List.set_cons_zero, List.set_cons_succ]
      refine wpAny_take (i := 10) (oi := { dst := some 24, op := Op.fieldAddr 36 (Operand.tmp 23) 1, type := 0, pos := "keeper.go:13", after := #[{ on := 9, ground := Ground.data }, { on := 0, ground := Ground.phase }, { on := 1, ground := Ground.phase }, { on := 2, ground := Ground.phase }, { on := 3, ground := Ground.phase }, { on := 4, ground := Ground.phase }, { on := 5, ground := Ground.phase }, { on := 6, ground := Ground.phase }, { on := 7, ground := Ground.phase }, { on := 8, ground := Ground.phase }], guard := none }) (v := .pointer (some ⟨B, 1, none⟩)) rfl (by kernel_rfl) (by kernel_rfl) (by kernel_rfl) (fun _ _ _ h => h) (Or.inl ⟨by rfl, by intro w; go_simp⟩) ?_
      try simp only [Act.put, List.setIfInBounds_toArray, List.set_cons_zero, List.set_cons_succ]
      have HF := hid (fun (wz : World) (hz : wz = wC.setCell ⟨B, 1, none⟩ (.slice s2 n2 k2)) => keep_fin h hx hd PD F1 b1.drew hOy hB4 P2 F2 b2 hz)
      clear P2 F2 b2 PC q1 q2 q3 q4 e2
      refine wpAny_ready (rs := [11]) (by kernel_rfl) (by simp) ?_
      refine (AllReady.cons (o := { dst := none, op := Op.store 34 (Operand.tmp 24) (Operand.tmp 22), type := 0, pos := "keeper.go:13", after := #[{ on := 10, ground := Ground.data }, { on := 8, ground := Ground.data }, { on := 8, ground := Ground.chain }, { on := 0, ground := Ground.phase }, { on := 1, ground := Ground.phase }, { on := 2, ground := Ground.phase }, { on := 3, ground := Ground.phase }, { on := 4, ground := Ground.phase }, { on := 5, ground := Ground.phase }, { on := 6, ground := Ground.phase }, { on := 7, ground := Ground.phase }, { on := 8, ground := Ground.phase }], guard := none }) rfl (fun K hK => ?_) AllReady.nil)
      go_simp
      refine hK _ _ ?_
      clear hK K
      try simp only [Act.put, List.setIfInBounds_toArray, List.set_cons_zero, List.set_cons_succ]
      refine wpAny_done (by kernel_rfl) ?_ _
      refine NoPanic.normal ?_
      go_end0
      exact ⟨rfl, HF.out _ rfl⟩
end Go.Proofs.Ytpohgnblikkagaa
