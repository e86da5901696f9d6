import Derived.Test.YtfogohpmphgkkaaDoorLg6
namespace Go.Proofs.YtfogohpmphgkkaaDoor
set_option linter.unusedVariables false
set_option linter.unusedSimpArgs false
open Go.RowKit Go.Extern.Stop Go.Stop Go.Extern
attribute [local go_sem ↓] Go.wp_at_zero Go.wp_at_succ

set_option maxRecDepth 100000 in
set_option maxHeartbeats 4000000 in
theorem wrap_at (w : World) (A : Nat → Addr) (hS : Sen w A) (c : ByteArray) (at_ : Int) (i : Nat) (hi : i < 20) :
    Calls Tryd.prog 9 #[.string c, .int .i64 at_, .int .i64 (nos i)] w fun e w' => e = .returned (.iface 34 (.pointer (some ⟨w.heap.size, 0, none⟩))) ∧ w' = w.alloc (.cells #[.string c, .int .i64 at_, .iface 88 (.pointer (some (A i)))] 39) := by
  have hN : ∀ (t : TypeId) (v : Value) (w : World), (binOp .eql 25 (.iface t v) .nilIface).run Tryd.prog w = .ok (.bool false) w := fun t v w => nil_other Tryd.underlying25
  have h0 : (nos i == 0) = false := by have := (nos_lo i hi).1; simp; omega
  have F := hid (fixed_at w A hS i hi)
  generalize nos i = n at *
  generalize A i = a at *
  go_enter Tryd.func9, Tryd.ntmps9
  go_wp2_with fail
  refine F.out.mono ?_
  rintro _ _ ⟨rfl, rfl⟩
  go_wp2
  go_ret
  exact ⟨rfl, rfl⟩
theorem bel3 {a b c : World} (h1 : Below a.heap.size a b) (h2 : Below b.heap.size b c) : Below a.heap.size a c := h1.trans (h2.mono h1.size)
theorem rngB {w w' : World} (hb : Below w.heap.size w w') {g o : Nat} {cs : List Value} (h : w.rangeAt g o cs) : w'.rangeAt g o cs := fun j v hv => cellB hb (h j v hv)
theorem isP_join2 {w : World} {A : Nat → Addr} {v0 v1 : Value} {p0 p1 : Nat → Bool} (b d : Nat) (hc : w.cell? ⟨b, 0, none⟩ = some (.slice (some ⟨d, 0, none⟩) 2 2)) (c0 : w.cell? ⟨d, 0, none⟩ = some v0) (c1 : w.cell? ⟨d, 1, none⟩ = some v1) (i0 : IsP w A v0 p0) (i1 : IsP w A v1 p1) :
    IsP w A (.iface 53 (.pointer (some ⟨b, 0, none⟩))) (fun g => p0 g || p1 g) :=
  fun w' hb g hg => is_join2 w' A g hg b d v0 v1 p0 p1 (cellB hb hc) (cellB hb c0) (i0.later hb) (cellB hb c1) (i1.later hb)
theorem isP_join3 {w : World} {A : Nat → Addr} {v0 v1 v2 : Value} {p0 p1 p2 : Nat → Bool} (b d : Nat) (hc : w.cell? ⟨b, 0, none⟩ = some (.slice (some ⟨d, 0, none⟩) 3 3)) (c0 : w.cell? ⟨d, 0, none⟩ = some v0) (c1 : w.cell? ⟨d, 1, none⟩ = some v1) (c2 : w.cell? ⟨d, 2, none⟩ = some v2) (i0 : IsP w A v0 p0) (i1 : IsP w A v1 p1) (i2 : IsP w A v2 p2) :
    IsP w A (.iface 53 (.pointer (some ⟨b, 0, none⟩))) (fun g => p0 g || p1 g || p2 g) :=
  fun w' hb g hg => is_join3 w' A g hg b d v0 v1 v2 p0 p1 p2 (cellB hb hc) (cellB hb c0) (i0.later hb) (cellB hb c1) (i1.later hb) (cellB hb c2) (i2.later hb)
theorem rng_new (w : World) (l : List Value) (t : TypeId) : (w.alloc (.cells l.toArray t)).rangeAt w.heap.size 0 l := fun j v hv => (World.cell?_alloc_at (w := w) l.toArray t w.heap.size (0 + j) rfl).trans (by simpa using hv)
theorem bel1 (w : World) (o : Obj) : Below w.heap.size w (w.alloc o) := (Below.refl _ _).alloc (Nat.le_refl _) _
/-- Four blocks made one behind the other. -/
theorem four (w : World) (l0 l1 l2 l3 : List Value) (t0 t1 t2 t3 : TypeId) (W : World) (hW : W = (((w.alloc (.cells l0.toArray t0)).alloc (.cells l1.toArray t1)).alloc (.cells l2.toArray t2)).alloc (.cells l3.toArray t3)) :
    Below w.heap.size w W ∧ W.rangeAt w.heap.size 0 l0 ∧ W.rangeAt (w.heap.size + 1) 0 l1 ∧ W.rangeAt (w.heap.size + 1 + 1) 0 l2 ∧ W.rangeAt (w.heap.size + 1 + 1 + 1) 0 l3 := by
  subst hW
  have r1 := rng_new (w.alloc (.cells l0.toArray t0)) l1 t1
  have r2 := rng_new ((w.alloc (.cells l0.toArray t0)).alloc (.cells l1.toArray t1)) l2 t2
  have r3 := rng_new (((w.alloc (.cells l0.toArray t0)).alloc (.cells l1.toArray t1)).alloc (.cells l2.toArray t2)) l3 t3
  simp only [World.size_alloc] at r1 r2 r3
  exact ⟨bel3 (bel3 (bel3 (bel1 _ _) (bel1 _ _)) (bel1 _ _)) (bel1 _ _), rngB (bel3 (bel3 (bel1 _ _) (bel1 _ _)) (bel1 _ _)) (rng_new w l0 t0), rngB (bel3 (bel1 _ _) (bel1 _ _)) r1, rngB (bel1 _ _) r2, r3⟩
theorem Tryd.assertFault (a : Addr) (w : World) : (Instr.typeAssert (.iface 34 (.pointer (some a))) 25 34 true).run Tryd.prog w = .ok (.tuple #[.pointer (some a), .bool true]) w := by kernel_rfl
theorem er_same_neq (a : Addr) (w : World) : (binOp .neq 25 (.iface 88 (.pointer (some a))) (.iface 88 (.pointer (some a)))).run Tryd.prog w = .ok (.bool false) w := by
  obtain ⟨k, hk, hcmp⟩ := Option.map_eq_some_iff.1 Tryd.comp88
  obtain ⟨q, hq, hqs⟩ := Option.map_eq_some_iff.1 Tryd.size113
  simp only [binOp]
  simp [Op.equal, Op.maxDepth, run_equalIn_iface_ptr_same w 9998 a Tryd.underlying25 Tryd.underlying88 hk hcmp hq]
theorem codeIs_one {i : Nat} (hi : i < 20) : CodeIs (fun g => i == g) (nos i) := Or.inl ⟨i, hi, by simp, fun h hh => by simp; omega, rfl⟩
theorem codeIs_none : CodeIs (fun _ => false) (-1) := Or.inr ⟨fun _ _ => rfl, rfl⟩
theorem codeIs_two {p : Nat → Bool} {i j : Nat} (hi : i < 20) (hj : j < i) (h : ∀ g, p g = true ↔ (g = i ∨ g = j)) : CodeIs p (nos j) :=
  Or.inl ⟨j, by omega, (h j).2 (Or.inr rfl), fun q hq => by
    cases e : p q
    · rfl
    · rcases (h q).1 e with h1 | h1 <;> omega, rfl⟩
set_option maxRecDepth 100000 in
set_option maxHeartbeats 4000000 in
theorem ledgerCodes_any (w : World) (A : Nat → Addr) (hS : Sen w A) (c : ByteArray) (at_ : Int) : Calls Tryd.prog 4 #[.string c, .int .i64 at_] w fun e w' => e = .returned (.bool true) ∧ Below w.heap.size w w' := by
  go_enter Tryd.func4, Tryd.ntmps4
  go_wp2_with fail
  refine (list_any w A hS).mono ?_
  rintro e w1 ⟨rfl, rfl⟩
  have hB : Below w.heap.size w (w.alloc (.cells (lst A) 27)) := (Below.refl _ _).alloc (Nat.le_refl _) _
  have hS1 : Sen (w.alloc (.cells (lst A) 27)) A := hS.mono hB
  have hc : ∀ k v, (lst A)[k]? = some v → (w.alloc (.cells (lst A) 27)).cell? ⟨w.heap.size, k, none⟩ = some v := fun k v e => (World.cell?_alloc_at (w := w) (lst A) 27 w.heap.size k rfl).trans e
  have n0 : ∀ i, i < 20 → (w.alloc (.cells (lst A) 27)).cell? ⟨w.heap.size, i * 2, none⟩ = some (.int .i64 (nos i)) := fun i hi => hc _ _ (by rw [Nat.mul_comm]; exact lst_no A i hi)
  have n1 : ∀ i, i < 20 → (w.alloc (.cells (lst A) 27)).cell? ⟨w.heap.size, i * 2 + 1, none⟩ = some (.iface 88 (.pointer (some (A i)))) := fun i hi => hc _ _ (by rw [Nat.mul_comm]; exact lst_er A i hi)
  have hbe := hid hB
  generalize w.alloc (.cells (lst A) 27) = w1 at *
  generalize w.heap.size = b at hB n0 n1 ⊢
  replace n0 := hid n0
  replace n1 := hid n1
  replace hS1 := hid hS1
  clear hS hc hB
  go_wp2
  go_loopw [6] (fun i w' => ∃ k : Nat, k ≤ 20 ∧ i = .int .i64 k ∧ Below w1.heap.size w1 w')
    (fun i _ => 20 - (intOf i).toNat)
  case atStart => exact ⟨0, by omega, rfl, Below.refl _ _⟩
  case round =>
    obtain ⟨k, hk, rfl, hb⟩ := hrel
    replace hb := hid hb
    by_cases hk2 : k < 20
    · have n0k : wr.cell? ⟨b, k * 2, none⟩ = some (.int .i64 (nos k)) := cellB hb.out (n0.out k hk2)
      have n1k : wr.cell? ⟨b, k * 2 + 1, none⟩ = some (.iface 88 (.pointer (some (A k)))) := cellB hb.out (n1.out k hk2)
      have HS := hid (hS1.out.mono hb.out)
      have hki : (k : Int) < 20 := by omega
      go_wp2_with fail
      refine wp_region_noPanic ?_
      refine wp_region_held_drew (S := fun w' => Below wr.heap.size wr w') (by kernel_rfl) (Below.refl _ _).drew (fun hHeld => ?_)
      refine wpAnyH_take (i := 0) (oi := { dst := some 21, op := Op.move (Operand.tmp 5), type := 22, pos := "outright.go:52", after := #[], guard := none }) (v := .slice (some ⟨b, 0, none⟩) 20 20) rfl (by kernel_rfl) (by kernel_rfl) (by kernel_rfl) (fun _ _ _ h => h) (Or.inl ⟨by rfl, by intro w hS; go_simp⟩) hHeld ?_
      try simp only [Act.put, List.setIfInBounds_toArray, List.set_cons_zero, List.set_cons_succ]
      refine wpAnyH_take (i := 1) (oi := { dst := some 22, op := Op.move (Operand.tmp 6), type := 3, pos := "outright.go:52", after := #[], guard := none }) (v := .int .i64 k) rfl (by kernel_rfl) (by kernel_rfl) (by kernel_rfl) (fun _ _ _ h => h) (Or.inl ⟨by rfl, by intro w hS; go_simp⟩) hHeld ?_
      try simp only [Act.put, List.setIfInBounds_toArray, List.set_cons_zero, List.set_cons_succ]
      refine wpAnyH_take (i := 6) (oi := { dst := some 27, op := Op.move (Operand.tmp 5), type := 22, pos := "outright.go:52", after := #[], guard := none }) (v := .slice (some ⟨b, 0, none⟩) 20 20) rfl (by kernel_rfl) (by kernel_rfl) (by kernel_rfl) (fun _ _ _ h => h) (Or.inl ⟨by rfl, by intro w hS; go_simp⟩) hHeld ?_
      try simp only [Act.put, List.setIfInBounds_toArray, List.set_cons_zero, List.set_cons_succ]
      refine wpAnyH_take (i := 7) (oi := { dst := some 28, op := Op.move (Operand.tmp 6), type := 3, pos := "outright.go:52", after := #[], guard := none }) (v := .int .i64 k) rfl (by kernel_rfl) (by kernel_rfl) (by kernel_rfl) (fun _ _ _ h => h) (Or.inl ⟨by rfl, by intro w hS; go_simp⟩) hHeld ?_
      try simp only [Act.put, List.setIfInBounds_toArray, List.set_cons_zero, List.set_cons_succ]
      refine wpAnyH_take (i := 2) (oi := { dst := some 23, op := Op.indexAddr 22 (Operand.tmp 21) (Operand.tmp 22), type := 0, pos := "outright.go:52", after := #[{ on := 0, ground := Ground.data }, { on := 1, ground := Ground.data }], guard := none }) (v := .pointer (some ⟨b, k * 2, none⟩)) rfl (by kernel_rfl) (by kernel_rfl) (by kernel_rfl) (fun _ _ _ h => h) (Or.inl ⟨by rfl, by intro w hS; go_simp⟩) hHeld ?_
      try simp only [Act.put, List.setIfInBounds_toArray, List.set_cons_zero, List.set_cons_succ]
      refine wpAnyH_take (i := 8) (oi := { dst := some 29, op := Op.indexAddr 22 (Operand.tmp 27) (Operand.tmp 28), type := 0, pos := "outright.go:52", after := #[{ on := 6, ground := Ground.data }, { on := 7, ground := Ground.data }], guard := none }) (v := .pointer (some ⟨b, k * 2, none⟩)) rfl (by kernel_rfl) (by kernel_rfl) (by kernel_rfl) (fun _ _ _ h => h) (Or.inl ⟨by rfl, by intro w hS; go_simp⟩) hHeld ?_
      try simp only [Act.put, List.setIfInBounds_toArray, List.set_cons_zero, List.set_cons_succ]
      refine wpAnyH_take (i := 3) (oi := { dst := some 24, op := Op.fieldAddr 27 (Operand.tmp 23) 1, type := 0, pos := "outright.go:52", after := #[{ on := 2, ground := Ground.data }], guard := none }) (v := .pointer (some ⟨b, k * 2 + 1, none⟩)) rfl (by kernel_rfl) (by kernel_rfl) (by kernel_rfl) (fun _ _ _ h => h) (Or.inl ⟨by rfl, by intro w hS; go_simp⟩) hHeld ?_
      try simp only [Act.put, List.setIfInBounds_toArray, List.set_cons_zero, List.set_cons_succ]
      refine wpAnyH_take (i := 9) (oi := { dst := some 30, op := Op.fieldAddr 27 (Operand.tmp 29) 0, type := 0, pos := "outright.go:52", after := #[{ on := 8, ground := Ground.data }], guard := none }) (v := .pointer (some ⟨b, k * 2, none⟩)) rfl (by kernel_rfl) (by kernel_rfl) (by kernel_rfl) (fun _ _ _ h => h) (Or.inl ⟨by rfl, by intro w hS; go_simp⟩) hHeld ?_
      try simp only [Act.put, List.setIfInBounds_toArray, List.set_cons_zero, List.set_cons_succ]
      refine wpAnyH_take (i := 4) (oi := { dst := some 25, op := Op.load 25 (Operand.tmp 24), type := 25, pos := "outright.go:52", after := #[{ on := 3, ground := Ground.data }], guard := none }) (v := .iface 88 (.pointer (some (A k)))) rfl (by kernel_rfl) (by kernel_rfl) (by kernel_rfl) (fun _ _ _ h => h) (Or.inl ⟨by rfl, by intro w hS; have hc := ((hS.cell (block_lt_of_cell n1k)).trans n1k); go_simp⟩) hHeld ?_
      try simp only [Act.put, List.setIfInBounds_toArray, List.set_cons_zero, List.set_cons_succ]
      refine wpAnyH_take (i := 10) (oi := { dst := some 31, op := Op.load 3 (Operand.tmp 30), type := 3, pos := "outright.go:52", after := #[{ on := 9, ground := Ground.data }], guard := none }) (v := .int .i64 (nos k)) rfl (by kernel_rfl) (by kernel_rfl) (by kernel_rfl) (fun _ _ _ h => h) (Or.inl ⟨by rfl, by intro w hS; have hc := ((hS.cell (block_lt_of_cell n0k)).trans n0k); go_simp⟩) hHeld ?_
      try simp only [Act.put, List.setIfInBounds_toArray, List.set_cons_zero, List.set_cons_succ]
      refine wpAnyH_ready (rs := [5]) (by kernel_rfl) (by simp) ?_
      refine (AllReadyH.cons (o := { dst := some 26, op := Op.call { callee := Callee.value (Operand.func 8), args := #[Operand.tmp 25], argTypes := #[25] }, type := 31, pos := "outright.go:52", after := #[{ on := 4, ground := Ground.data }], guard := none }) rfl (fun K hK => ?_) AllReadyH.nil)
      go_simp
      go_at_call 8
      refine (code_any _ A (HS.out.mono hHeld) 88 _ _ (nos k) ((isP_fx HS.out hk2).later hHeld) (codeIs_one hk2)).mono ?_
      rintro e w4 ⟨rfl, hb4⟩
      go_wp2_with fail
      refine hK.out _ _ (hHeld.trans (hb4.mono hHeld.size)) (fun hHeld2 => ?_)
      clear hK K hHeld
      have hHeld := hHeld2
      clear hHeld2
      try simp only [Act.put, List.setIfInBounds_toArray, List.set_cons_zero, List.set_cons_succ]
      refine wpAnyH_take (i := 11) (oi := { dst := some 32, op := Op.binOp BinOp.neq 3 (Operand.tmp 26) (Operand.tmp 31) 3, type := 4, pos := "outright.go:52", after := #[{ on := 5, ground := Ground.data }, { on := 10, ground := Ground.data }], guard := none }) (v := .bool false) rfl (by kernel_rfl) (by kernel_rfl) (by kernel_rfl) (fun _ _ _ h => h) (Or.inl ⟨by rfl, by intro w hS; go_simp⟩) hHeld ?_
      try simp only [Act.put, List.setIfInBounds_toArray, List.set_cons_zero, List.set_cons_succ]
      refine wpAnyH_done (by kernel_rfl) ?_ _
      refine NoPanic.normal ?_
      have hB4 := hid hHeld
      clear hHeld
      have HS4 := hid (HS.out.mono hB4.out)
      replace n0k : w4.cell? ⟨b, k * 2, none⟩ = some (.int .i64 (nos k)) := cellB hB4.out n0k
      replace n1k : w4.cell? ⟨b, k * 2 + 1, none⟩ = some (.iface 88 (.pointer (some (A k)))) := cellB hB4.out n1k
      go_wp2_with fail
      refine (wrap_at w4 A HS4.out c at_ k hk2).mono ?_
      rintro _ _ ⟨rfl, rfl⟩
      have hB5 := hid (show Below w4.heap.size w4 (w4.alloc (.cells #[.string c, .int .i64 at_, .iface 88 (.pointer (some (A k)))] 39)) from (Below.refl _ _).alloc (Nat.le_refl _) _)
      have HB5 := hB5
      have f0 : (w4.alloc (.cells #[.string c, .int .i64 at_, .iface 88 (.pointer (some (A k)))] 39)).cell? ⟨w4.heap.size, 0, none⟩ = some (.string c) := World.cell?_alloc_at (w := w4) _ 39 w4.heap.size 0 rfl
      have f1 : (w4.alloc (.cells #[.string c, .int .i64 at_, .iface 88 (.pointer (some (A k)))] 39)).cell? ⟨w4.heap.size, 1, none⟩ = some (.int .i64 at_) := World.cell?_alloc_at (w := w4) _ 39 w4.heap.size 1 rfl
      have f2 : (w4.alloc (.cells #[.string c, .int .i64 at_, .iface 88 (.pointer (some (A k)))] 39)).cell? ⟨w4.heap.size, 2, none⟩ = some (.iface 88 (.pointer (some (A k)))) := World.cell?_alloc_at (w := w4) _ 39 w4.heap.size 2 rfl
      replace n0k := cellB hB5.out n0k
      replace n1k := cellB hB5.out n1k
      generalize w4.alloc (.cells #[.string c, .int .i64 at_, .iface 88 (.pointer (some (A k)))] 39) = w5 at *
      generalize w4.heap.size = q at hB5 f0 f1 f2 ⊢
      have HS5 := hid (HS4.out.mono (show Below w4.heap.size w4 w5 from HB5.out))
      have hE := er_same_neq (A k)
      have hTA := Tryd.assertFault
      have hU := hid (fun n => un_any (w5.drewN n) q _ f2)
      go_wp2_with fail
      go_quiet (first | (go_at_call 10; refine Calls.quiet_of_same (hU.out _)))
      have C5 := bel3 (bel3 hb.out hB4.out) HB5.out
      have C6 := hid (below_drewN C5 nq)
      clear C5 hE hU f0 f1 f2 n0k n1k hTA
      replace n0k := cellB C6.out (n0.out k hk2)
      replace n1k := cellB C6.out (n1.out k hk2)
      have HS6 := hid (hS1.out.mono C6.out)
      have hME := Tryd.methodErr
      go_wp2_with fail
      refine (error_any _ (A k) (txt k) (HS6.out.text k hk2)).mono ?_
      rintro _ _ ⟨rfl, rfl⟩
      generalize w5.drewN nq = w6 at *
      have hb6 : b < w6.heap.size := block_lt_of_cell n0k
      have hb7 : b < w6.heap.size + 1 := by omega
      have hb8 : b < w6.heap.size + 1 + 1 := by omega
      go_wp2_with fail
      refine (wrap_at _ A (HS6.out.mono (((Below.refl _ _).alloc (Nat.le_refl _) _).alloc (by simp) _)) c at_ k hk2).mono ?_
      rintro _ _ ⟨rfl, rfl⟩
      have hb9 : b < w6.heap.size + 1 + 1 + 1 := by omega
      go_wp2_with fail
      obtain ⟨hBc, rb, rh, rf, rd⟩ := four w6 [.string (txt k), .nilIface] [.string c, .iface 88 (.pointer (some (A k)))] [.string c, .int .i64 at_, .iface 88 (.pointer (some (A k)))] [.string { data := #[] }, .iface 34 (.pointer (some ⟨w6.heap.size + 1 + 1, 0, none⟩))] 42 42 39 42 _ rfl
      clear hb6 hb7 hb8 hb9 hME
      have Cc := hid (bel3 C6.out hBc)
      have HSx := hid (hS1.out.mono Cc.out)
      replace n0k := cellB hBc n0k
      replace n1k := cellB hBc n1k
      have f2 := rf 2 _ rfl
      clear hBc rf
      generalize (((w6.alloc (.cells #[.string (txt k), .nilIface] 42)).alloc (.cells #[.string c, .iface 88 (.pointer (some (A k)))] 42)).alloc (.cells #[.string c, .int .i64 at_, .iface 88 (.pointer (some (A k)))] 39)).alloc (.cells #[.string { data := #[] }, .iface 34 (.pointer (some ⟨w6.heap.size + 1 + 1, 0, none⟩))] 42) = wc at *
      generalize w6.heap.size + 1 + 1 + 1 = s3 at *
      generalize w6.heap.size + 1 + 1 = s2 at *
      generalize w6.heap.size + 1 = s1 at *
      generalize w6.heap.size = s0 at *
      refine wp_region_noPanic ?_
      refine wp_region_held_drew (S := fun w' => Below wc.heap.size wc w') (by kernel_rfl) (Below.refl _ _).drew (fun hHeld => ?_)
      refine wpAnyH_take (i := 0) (oi := { dst := some 115, op := Op.load 42 (Operand.tmp 10), type := 42, pos := "outright.go:63", after := #[], guard := none }) (v := .agg ([.string (txt k), .nilIface]).toArray) rfl (by kernel_rfl) (by kernel_rfl) (by kernel_rfl) (fun _ _ _ h => h) (yieldsIf_load_mid (by rfl) 42 _ rfl s0 (0) rfl ([.string (txt k), .nilIface]) _ (fun w hS => (rngB hS rb)) Tryd.underlying42 rfl (by kernel_rfl)) hHeld ?_
      try simp only [Act.put, List.setIfInBounds_toArray, List.set_cons_zero, List.set_cons_succ]
      refine wpAnyH_take (i := 1) (oi := { dst := some 116, op := Op.makeInterface 42 (Operand.tmp 115), type := 25, pos := "outright.go:63", after := #[{ on := 0, ground := Ground.data }], guard := none }) (v := .iface 42 (.agg #[.string (txt k), .nilIface])) rfl (by kernel_rfl) (by kernel_rfl) (by kernel_rfl) (fun _ _ _ h => h) (Or.inl ⟨by rfl, by intro w hS; go_simp⟩) hHeld ?_
      try simp only [Act.put, List.setIfInBounds_toArray, List.set_cons_zero, List.set_cons_succ]
      refine wpAnyH_ready (rs := [2]) (by kernel_rfl) (by simp) ?_
      refine (AllReadyH.cons (o := { dst := some 117, op := Op.call { callee := Callee.value (Operand.func 8), args := #[Operand.tmp 116], argTypes := #[25] }, type := 31, pos := "outright.go:63", after := #[{ on := 1, ground := Ground.data }], guard := none }) rfl (fun K hK => ?_) AllReadyH.nil)
      go_simp
      go_at_call 8
      refine (code_any _ A (HSx.out.mono hHeld) 42 _ _ (-1) ((isP_fo0 HSx.out _).later hHeld) codeIs_none).mono ?_
      rintro e w4 ⟨rfl, hb4⟩
      go_wp2_with fail
      refine hK.out _ _ (hHeld.trans (hb4.mono hHeld.size)) (fun hHeld2 => ?_)
      clear hK K hHeld
      have hHeld := hHeld2
      clear hHeld2
      try simp only [Act.put, List.setIfInBounds_toArray, List.set_cons_zero, List.set_cons_succ]
      refine wpAnyH_take (i := 3) (oi := { dst := some 118, op := Op.binOp BinOp.neq 3 (Operand.tmp 117) (Operand.const (Value.int IntKind.i64 (-1))) 3, type := 4, pos := "outright.go:63", after := #[{ on := 2, ground := Ground.data }], guard := none }) (v := .bool false) rfl (by kernel_rfl) (by kernel_rfl) (by kernel_rfl) (fun _ _ _ h => h) (Or.inl ⟨by rfl, by intro w hS; go_simp⟩) hHeld ?_
      try simp only [Act.put, List.setIfInBounds_toArray, List.set_cons_zero, List.set_cons_succ]
      refine wpAnyH_take (i := 4) (oi := { dst := some 119, op := Op.move (Operand.tmp 118), type := 4, pos := "outright.go:63", after := #[{ on := 3, ground := Ground.data }, { on := 2, ground := Ground.chain }], guard := none }) (v := .bool false) rfl (by kernel_rfl) (by kernel_rfl) (by kernel_rfl) (fun _ _ _ h => h) (Or.inl ⟨by rfl, by intro w hS; go_simp⟩) hHeld ?_
      try simp only [Act.put, List.setIfInBounds_toArray, List.set_cons_zero, List.set_cons_succ]
      refine wpAnyH_take (i := 5) (oi := { dst := some 120, op := Op.load 42 (Operand.tmp 11), type := 42, pos := "outright.go:63", after := #[{ on := 4, ground := Ground.guard }], guard := some (4, false) }) (v := .agg ([.string c, .iface 88 (.pointer (some (A k)))]).toArray) rfl (by kernel_rfl) (by kernel_rfl) (by kernel_rfl) (fun _ _ _ h => h) (yieldsIf_load_mid (by rfl) 42 _ rfl s1 (0) rfl ([.string c, .iface 88 (.pointer (some (A k)))]) _ (fun w hS => (rngB hS rh)) Tryd.underlying42 rfl (by kernel_rfl)) hHeld ?_
      try simp only [Act.put, List.setIfInBounds_toArray, List.set_cons_zero, List.set_cons_succ]
      refine wpAnyH_take (i := 8) (oi := { dst := some 123, op := Op.move (Operand.tmp 5), type := 22, pos := "outright.go:63", after := #[{ on := 4, ground := Ground.guard }], guard := some (4, false) }) (v := .slice (some ⟨b, 0, none⟩) 20 20) rfl (by kernel_rfl) (by kernel_rfl) (by kernel_rfl) (fun _ _ _ h => h) (Or.inl ⟨by rfl, by intro w hS; go_simp⟩) hHeld ?_
      try simp only [Act.put, List.setIfInBounds_toArray, List.set_cons_zero, List.set_cons_succ]
      refine wpAnyH_take (i := 9) (oi := { dst := some 124, op := Op.move (Operand.tmp 6), type := 3, pos := "outright.go:63", after := #[{ on := 4, ground := Ground.guard }], guard := some (4, false) }) (v := .int .i64 k) rfl (by kernel_rfl) (by kernel_rfl) (by kernel_rfl) (fun _ _ _ h => h) (Or.inl ⟨by rfl, by intro w hS; go_simp⟩) hHeld ?_
      try simp only [Act.put, List.setIfInBounds_toArray, List.set_cons_zero, List.set_cons_succ]
      refine wpAnyH_take (i := 6) (oi := { dst := some 121, op := Op.makeInterface 42 (Operand.tmp 120), type := 25, pos := "outright.go:63", after := #[{ on := 5, ground := Ground.data }, { on := 4, ground := Ground.guard }], guard := some (4, false) }) (v := .iface 42 (.agg #[.string c, .iface 88 (.pointer (some (A k)))])) rfl (by kernel_rfl) (by kernel_rfl) (by kernel_rfl) (fun _ _ _ h => h) (Or.inl ⟨by rfl, by intro w hS; go_simp⟩) hHeld ?_
      try simp only [Act.put, List.setIfInBounds_toArray, List.set_cons_zero, List.set_cons_succ]
      refine wpAnyH_take (i := 10) (oi := { dst := some 125, op := Op.indexAddr 22 (Operand.tmp 123) (Operand.tmp 124), type := 0, pos := "outright.go:63", after := #[{ on := 8, ground := Ground.data }, { on := 9, ground := Ground.data }, { on := 4, ground := Ground.guard }], guard := some (4, false) }) (v := .pointer (some ⟨b, k * 2, none⟩)) rfl (by kernel_rfl) (by kernel_rfl) (by kernel_rfl) (fun _ _ _ h => h) (Or.inl ⟨by rfl, by intro w hS; go_simp⟩) hHeld ?_
      try simp only [Act.put, List.setIfInBounds_toArray, List.set_cons_zero, List.set_cons_succ]
      refine wpAnyH_take (i := 11) (oi := { dst := some 126, op := Op.fieldAddr 27 (Operand.tmp 125) 0, type := 0, pos := "outright.go:63", after := #[{ on := 10, ground := Ground.data }, { on := 4, ground := Ground.guard }], guard := some (4, false) }) (v := .pointer (some ⟨b, k * 2, none⟩)) rfl (by kernel_rfl) (by kernel_rfl) (by kernel_rfl) (fun _ _ _ h => h) (Or.inl ⟨by rfl, by intro w hS; go_simp⟩) hHeld ?_
      try simp only [Act.put, List.setIfInBounds_toArray, List.set_cons_zero, List.set_cons_succ]
      refine wpAnyH_take (i := 12) (oi := { dst := some 127, op := Op.load 3 (Operand.tmp 126), type := 3, pos := "outright.go:63", after := #[{ on := 11, ground := Ground.data }, { on := 4, ground := Ground.guard }], guard := some (4, false) }) (v := .int .i64 (nos k)) rfl (by kernel_rfl) (by kernel_rfl) (by kernel_rfl) (fun _ _ _ h => h) (Or.inl ⟨by rfl, by intro w hS; have hc := ((hS.cell (block_lt_of_cell n0k)).trans n0k); go_simp⟩) hHeld ?_
      try simp only [Act.put, List.setIfInBounds_toArray, List.set_cons_zero, List.set_cons_succ]
      refine wpAnyH_ready (rs := [7]) (by kernel_rfl) (by simp) ?_
      refine (AllReadyH.cons (o := { dst := some 122, op := Op.call { callee := Callee.value (Operand.func 8), args := #[Operand.tmp 121], argTypes := #[25] }, type := 31, pos := "outright.go:63", after := #[{ on := 6, ground := Ground.data }, { on := 4, ground := Ground.chain }, { on := 4, ground := Ground.guard }], guard := some (4, false) }) rfl (fun K hK => ?_) AllReadyH.nil)
      go_simp
      go_at_call 8
      refine (code_any _ A (HSx.out.mono hHeld) 42 _ _ (nos k) ((isP_fo1 HSx.out _ hk2).later hHeld) (codeIs_one hk2)).mono ?_
      rintro e w4 ⟨rfl, hb4⟩
      go_wp2_with fail
      refine hK.out _ _ (hHeld.trans (hb4.mono hHeld.size)) (fun hHeld2 => ?_)
      clear hK K hHeld
      have hHeld := hHeld2
      clear hHeld2
      try simp only [Act.put, List.setIfInBounds_toArray, List.set_cons_zero, List.set_cons_succ]
      refine wpAnyH_take (i := 13) (oi := { dst := some 128, op := Op.binOp BinOp.neq 3 (Operand.tmp 122) (Operand.tmp 127) 3, type := 4, pos := "outright.go:63", after := #[{ on := 7, ground := Ground.data }, { on := 12, ground := Ground.data }, { on := 4, ground := Ground.guard }], guard := some (4, false) }) (v := .bool false) rfl (by kernel_rfl) (by kernel_rfl) (by kernel_rfl) (fun _ _ _ h => h) (Or.inl ⟨by rfl, by intro w hS; go_simp⟩) hHeld ?_
      try simp only [Act.put, List.setIfInBounds_toArray, List.set_cons_zero, List.set_cons_succ]
      refine wpAnyH_take (i := 14) (oi := { dst := some 129, op := Op.pick (Operand.tmp 119) (Operand.const (Value.bool true)) (Operand.tmp 128), type := 4, pos := "outright.go:63", after := #[{ on := 4, ground := Ground.data }, { on := 13, ground := Ground.data }], guard := none }) (v := .bool false) rfl (by kernel_rfl) (by kernel_rfl) (by kernel_rfl) (fun _ _ _ h => h) (Or.inl ⟨by rfl, by intro w hS; go_simp⟩) hHeld ?_
      try simp only [Act.put, List.setIfInBounds_toArray, List.set_cons_zero, List.set_cons_succ]
      refine wpAnyH_take (i := 15) (oi := { dst := some 130, op := Op.move (Operand.tmp 129), type := 4, pos := "outright.go:63", after := #[{ on := 14, ground := Ground.data }, { on := 7, ground := Ground.chain }], guard := none }) (v := .bool false) rfl (by kernel_rfl) (by kernel_rfl) (by kernel_rfl) (fun _ _ _ h => h) (Or.inl ⟨by rfl, by intro w hS; go_simp⟩) hHeld ?_
      try simp only [Act.put, List.setIfInBounds_toArray, List.set_cons_zero, List.set_cons_succ]
      refine wpAnyH_take (i := 16) (oi := { dst := some 131, op := Op.load 42 (Operand.tmp 12), type := 42, pos := "outright.go:63", after := #[{ on := 15, ground := Ground.guard }], guard := some (15, false) }) (v := .agg ([.string { data := #[] }, .iface 34 (.pointer (some ⟨s2, 0, none⟩))]).toArray) rfl (by kernel_rfl) (by kernel_rfl) (by kernel_rfl) (fun _ _ _ h => h) (yieldsIf_load_mid (by rfl) 42 _ rfl s3 (0) rfl ([.string { data := #[] }, .iface 34 (.pointer (some ⟨s2, 0, none⟩))]) _ (fun w hS => (rngB hS rd)) Tryd.underlying42 rfl (by kernel_rfl)) hHeld ?_
      try simp only [Act.put, List.setIfInBounds_toArray, List.set_cons_zero, List.set_cons_succ]
      refine wpAnyH_take (i := 19) (oi := { dst := some 134, op := Op.move (Operand.tmp 5), type := 22, pos := "outright.go:63", after := #[{ on := 15, ground := Ground.guard }], guard := some (15, false) }) (v := .slice (some ⟨b, 0, none⟩) 20 20) rfl (by kernel_rfl) (by kernel_rfl) (by kernel_rfl) (fun _ _ _ h => h) (Or.inl ⟨by rfl, by intro w hS; go_simp⟩) hHeld ?_
      try simp only [Act.put, List.setIfInBounds_toArray, List.set_cons_zero, List.set_cons_succ]
      refine wpAnyH_take (i := 20) (oi := { dst := some 135, op := Op.move (Operand.tmp 6), type := 3, pos := "outright.go:63", after := #[{ on := 15, ground := Ground.guard }], guard := some (15, false) }) (v := .int .i64 k) rfl (by kernel_rfl) (by kernel_rfl) (by kernel_rfl) (fun _ _ _ h => h) (Or.inl ⟨by rfl, by intro w hS; go_simp⟩) hHeld ?_
      try simp only [Act.put, List.setIfInBounds_toArray, List.set_cons_zero, List.set_cons_succ]
      refine wpAnyH_take (i := 17) (oi := { dst := some 132, op := Op.makeInterface 42 (Operand.tmp 131), type := 25, pos := "outright.go:63", after := #[{ on := 16, ground := Ground.data }, { on := 15, ground := Ground.guard }], guard := some (15, false) }) (v := .iface 42 (.agg #[.string { data := #[] }, .iface 34 (.pointer (some ⟨s2, 0, none⟩))])) rfl (by kernel_rfl) (by kernel_rfl) (by kernel_rfl) (fun _ _ _ h => h) (Or.inl ⟨by rfl, by intro w hS; go_simp⟩) hHeld ?_
      try simp only [Act.put, List.setIfInBounds_toArray, List.set_cons_zero, List.set_cons_succ]
      refine wpAnyH_take (i := 21) (oi := { dst := some 136, op := Op.indexAddr 22 (Operand.tmp 134) (Operand.tmp 135), type := 0, pos := "outright.go:63", after := #[{ on := 19, ground := Ground.data }, { on := 20, ground := Ground.data }, { on := 15, ground := Ground.guard }], guard := some (15, false) }) (v := .pointer (some ⟨b, k * 2, none⟩)) rfl (by kernel_rfl) (by kernel_rfl) (by kernel_rfl) (fun _ _ _ h => h) (Or.inl ⟨by rfl, by intro w hS; go_simp⟩) hHeld ?_
      try simp only [Act.put, List.setIfInBounds_toArray, List.set_cons_zero, List.set_cons_succ]
      refine wpAnyH_take (i := 22) (oi := { dst := some 137, op := Op.fieldAddr 27 (Operand.tmp 136) 0, type := 0, pos := "outright.go:63", after := #[{ on := 21, ground := Ground.data }, { on := 15, ground := Ground.guard }], guard := some (15, false) }) (v := .pointer (some ⟨b, k * 2, none⟩)) rfl (by kernel_rfl) (by kernel_rfl) (by kernel_rfl) (fun _ _ _ h => h) (Or.inl ⟨by rfl, by intro w hS; go_simp⟩) hHeld ?_
      try simp only [Act.put, List.setIfInBounds_toArray, List.set_cons_zero, List.set_cons_succ]
      refine wpAnyH_take (i := 23) (oi := { dst := some 138, op := Op.load 3 (Operand.tmp 137), type := 3, pos := "outright.go:63", after := #[{ on := 22, ground := Ground.data }, { on := 15, ground := Ground.guard }], guard := some (15, false) }) (v := .int .i64 (nos k)) rfl (by kernel_rfl) (by kernel_rfl) (by kernel_rfl) (fun _ _ _ h => h) (Or.inl ⟨by rfl, by intro w hS; have hc := ((hS.cell (block_lt_of_cell n0k)).trans n0k); go_simp⟩) hHeld ?_
      try simp only [Act.put, List.setIfInBounds_toArray, List.set_cons_zero, List.set_cons_succ]
      refine wpAnyH_ready (rs := [18]) (by kernel_rfl) (by simp) ?_
      refine (AllReadyH.cons (o := { dst := some 133, op := Op.call { callee := Callee.value (Operand.func 8), args := #[Operand.tmp 132], argTypes := #[25] }, type := 31, pos := "outright.go:63", after := #[{ on := 17, ground := Ground.data }, { on := 15, ground := Ground.chain }, { on := 15, ground := Ground.guard }], guard := some (15, false) }) rfl (fun K hK => ?_) AllReadyH.nil)
      go_simp
      go_at_call 8
      refine (code_any _ A (HSx.out.mono hHeld) 42 _ _ (nos k) ((isP_fo2 HSx.out _ s2 hk2 f2).later hHeld) (codeIs_one hk2)).mono ?_
      rintro e w4 ⟨rfl, hb4⟩
      go_wp2_with fail
      refine hK.out _ _ (hHeld.trans (hb4.mono hHeld.size)) (fun hHeld2 => ?_)
      clear hK K hHeld
      have hHeld := hHeld2
      clear hHeld2
      try simp only [Act.put, List.setIfInBounds_toArray, List.set_cons_zero, List.set_cons_succ]
      refine wpAnyH_take (i := 24) (oi := { dst := some 139, op := Op.binOp BinOp.neq 3 (Operand.tmp 133) (Operand.tmp 138) 3, type := 4, pos := "outright.go:63", after := #[{ on := 18, ground := Ground.data }, { on := 23, ground := Ground.data }, { on := 15, ground := Ground.guard }], guard := some (15, false) }) (v := .bool false) rfl (by kernel_rfl) (by kernel_rfl) (by kernel_rfl) (fun _ _ _ h => h) (Or.inl ⟨by rfl, by intro w hS; go_simp⟩) hHeld ?_
      try simp only [Act.put, List.setIfInBounds_toArray, List.set_cons_zero, List.set_cons_succ]
      refine wpAnyH_take (i := 25) (oi := { dst := some 140, op := Op.pick (Operand.tmp 130) (Operand.const (Value.bool true)) (Operand.tmp 139), type := 4, pos := "outright.go:63", after := #[{ on := 15, ground := Ground.data }, { on := 24, ground := Ground.data }], guard := none }) (v := .bool false) rfl (by kernel_rfl) (by kernel_rfl) (by kernel_rfl) (fun _ _ _ h => h) (Or.inl ⟨by rfl, by intro w hS; go_simp⟩) hHeld ?_
      try simp only [Act.put, List.setIfInBounds_toArray, List.set_cons_zero, List.set_cons_succ]
      refine wpAnyH_done (by kernel_rfl) ?_ _
      refine NoPanic.normal ?_
      have hBd := hid hHeld
      clear hHeld
      have Cd := hid (bel3 Cc.out hBd.out)
      replace rb := rngB hBd.out rb
      replace rh := rngB hBd.out rh
      have HSd := hid (hS1.out.mono Cd.out)
      clear rd f2 n0k n1k
      have z0 : w4.cell? ⟨s0, 0, none⟩ = some (.string (txt k)) := rb 0 _ rfl
      have z1 : w4.cell? ⟨s0, 1, none⟩ = some .nilIface := rb 1 _ rfl
      go_wp2_with fail
      refine (code_any _ A (HSd.out.mono (bel1 _ _)) 34 _ _ (-1) (isP_faf (HSd.out.mono (bel1 _ _)) w4.heap.size (txt k) (World.cell?_alloc_at (w := w4) _ 39 w4.heap.size 2 rfl)) codeIs_none).mono ?_
      rintro _ we ⟨rfl, hbw⟩
      have hBw := hid (bel3 (bel1 w4 _) hbw)
      clear hbw z0 z1
      replace rb := rngB hBw.out rb
      replace rh := rngB hBw.out rh
      have Ce := hid (bel3 Cd.out hBw.out)
      clear HSd hBw
      go_wp2
      go_loopw [13] (fun jv w' => ∃ m : Nat, m ≤ k ∧ jv = .int .i64 m ∧ Below we.heap.size we w')
        (fun jv _ => k - (intOf jv).toNat)
      case atStart => exact ⟨0, by omega, rfl, Below.refl _ _⟩
      case round =>
        obtain ⟨m, hm, rfl, hbm⟩ := hrel
        replace hbm := hid hbm
        by_cases hm2 : m < k
        · have hm3 : m < 20 := by omega
          have Cm := hid (bel3 Ce.out hbm.out)
          have m1k := cellB Cm.out (n1.out k hk2)
          have m1m := cellB Cm.out (n1.out m hm3)
          have m0m := cellB Cm.out (n0.out m hm3)
          replace rb := rngB hbm.out rb
          replace rh := rngB hbm.out rh
          clear HSx
          have HSx := hid (hS1.out.mono Cm.out)
          have hmi : (m : Int) < (k : Int) := by omega
          have hmj : (m : Int) < 20 := by omega
          go_wp2_with fail
          refine wp_region_noPanic ?_
          refine wp_region_held_drew (S := fun w' => Below wr.heap.size wr w') (by kernel_rfl) (Below.refl _ _).drew (fun hHeld => ?_)
          refine wpAnyH_take (i := 0) (oi := { dst := some 156, op := Op.move (Operand.tmp 5), type := 22, pos := "outright.go:70", after := #[], guard := none }) (v := .slice (some ⟨b, 0, none⟩) 20 20) rfl (by kernel_rfl) (by kernel_rfl) (by kernel_rfl) (fun _ _ _ h => h) (Or.inl ⟨by rfl, by intro w hS; go_simp⟩) hHeld ?_
          try simp only [Act.put, List.setIfInBounds_toArray, List.set_cons_zero, List.set_cons_succ]
          refine wpAnyH_take (i := 1) (oi := { dst := some 157, op := Op.move (Operand.tmp 6), type := 3, pos := "outright.go:70", after := #[], guard := none }) (v := .int .i64 k) rfl (by kernel_rfl) (by kernel_rfl) (by kernel_rfl) (fun _ _ _ h => h) (Or.inl ⟨by rfl, by intro w hS; go_simp⟩) hHeld ?_
          try simp only [Act.put, List.setIfInBounds_toArray, List.set_cons_zero, List.set_cons_succ]
          refine wpAnyH_take (i := 5) (oi := { dst := some 161, op := Op.move (Operand.tmp 5), type := 22, pos := "outright.go:70", after := #[], guard := none }) (v := .slice (some ⟨b, 0, none⟩) 20 20) rfl (by kernel_rfl) (by kernel_rfl) (by kernel_rfl) (fun _ _ _ h => h) (Or.inl ⟨by rfl, by intro w hS; go_simp⟩) hHeld ?_
          try simp only [Act.put, List.setIfInBounds_toArray, List.set_cons_zero, List.set_cons_succ]
          refine wpAnyH_take (i := 6) (oi := { dst := some 162, op := Op.move (Operand.tmp 13), type := 3, pos := "outright.go:70", after := #[], guard := none }) (v := .int .i64 m) rfl (by kernel_rfl) (by kernel_rfl) (by kernel_rfl) (fun _ _ _ h => h) (Or.inl ⟨by rfl, by intro w hS; go_simp⟩) hHeld ?_
          try simp only [Act.put, List.setIfInBounds_toArray, List.set_cons_zero, List.set_cons_succ]
          refine wpAnyH_take (i := 13) (oi := { dst := some 169, op := Op.move (Operand.tmp 5), type := 22, pos := "outright.go:70", after := #[], guard := none }) (v := .slice (some ⟨b, 0, none⟩) 20 20) rfl (by kernel_rfl) (by kernel_rfl) (by kernel_rfl) (fun _ _ _ h => h) (Or.inl ⟨by rfl, by intro w hS; go_simp⟩) hHeld ?_
          try simp only [Act.put, List.setIfInBounds_toArray, List.set_cons_zero, List.set_cons_succ]
          refine wpAnyH_take (i := 14) (oi := { dst := some 170, op := Op.move (Operand.tmp 13), type := 3, pos := "outright.go:70", after := #[], guard := none }) (v := .int .i64 m) rfl (by kernel_rfl) (by kernel_rfl) (by kernel_rfl) (fun _ _ _ h => h) (Or.inl ⟨by rfl, by intro w hS; go_simp⟩) hHeld ?_
          try simp only [Act.put, List.setIfInBounds_toArray, List.set_cons_zero, List.set_cons_succ]
          refine wpAnyH_take (i := 2) (oi := { dst := some 158, op := Op.indexAddr 22 (Operand.tmp 156) (Operand.tmp 157), type := 0, pos := "outright.go:70", after := #[{ on := 0, ground := Ground.data }, { on := 1, ground := Ground.data }], guard := none }) (v := .pointer (some ⟨b, k * 2, none⟩)) rfl (by kernel_rfl) (by kernel_rfl) (by kernel_rfl) (fun _ _ _ h => h) (Or.inl ⟨by rfl, by intro w hS; go_simp⟩) hHeld ?_
          try simp only [Act.put, List.setIfInBounds_toArray, List.set_cons_zero, List.set_cons_succ]
          refine wpAnyH_take (i := 7) (oi := { dst := some 163, op := Op.indexAddr 22 (Operand.tmp 161) (Operand.tmp 162), type := 0, pos := "outright.go:70", after := #[{ on := 5, ground := Ground.data }, { on := 6, ground := Ground.data }], guard := none }) (v := .pointer (some ⟨b, m * 2, none⟩)) rfl (by kernel_rfl) (by kernel_rfl) (by kernel_rfl) (fun _ _ _ h => h) (Or.inl ⟨by rfl, by intro w hS; go_simp⟩) hHeld ?_
          try simp only [Act.put, List.setIfInBounds_toArray, List.set_cons_zero, List.set_cons_succ]
          refine wpAnyH_take (i := 15) (oi := { dst := some 171, op := Op.indexAddr 22 (Operand.tmp 169) (Operand.tmp 170), type := 0, pos := "outright.go:70", after := #[{ on := 13, ground := Ground.data }, { on := 14, ground := Ground.data }], guard := none }) (v := .pointer (some ⟨b, m * 2, none⟩)) rfl (by kernel_rfl) (by kernel_rfl) (by kernel_rfl) (fun _ _ _ h => h) (Or.inl ⟨by rfl, by intro w hS; go_simp⟩) hHeld ?_
          try simp only [Act.put, List.setIfInBounds_toArray, List.set_cons_zero, List.set_cons_succ]
          refine wpAnyH_take (i := 3) (oi := { dst := some 159, op := Op.fieldAddr 27 (Operand.tmp 158) 1, type := 0, pos := "outright.go:70", after := #[{ on := 2, ground := Ground.data }], guard := none }) (v := .pointer (some ⟨b, k * 2 + 1, none⟩)) rfl (by kernel_rfl) (by kernel_rfl) (by kernel_rfl) (fun _ _ _ h => h) (Or.inl ⟨by rfl, by intro w hS; go_simp⟩) hHeld ?_
          try simp only [Act.put, List.setIfInBounds_toArray, List.set_cons_zero, List.set_cons_succ]
          refine wpAnyH_take (i := 8) (oi := { dst := some 164, op := Op.fieldAddr 27 (Operand.tmp 163) 1, type := 0, pos := "outright.go:70", after := #[{ on := 7, ground := Ground.data }], guard := none }) (v := .pointer (some ⟨b, m * 2 + 1, none⟩)) rfl (by kernel_rfl) (by kernel_rfl) (by kernel_rfl) (fun _ _ _ h => h) (Or.inl ⟨by rfl, by intro w hS; go_simp⟩) hHeld ?_
          try simp only [Act.put, List.setIfInBounds_toArray, List.set_cons_zero, List.set_cons_succ]
          refine wpAnyH_take (i := 16) (oi := { dst := some 172, op := Op.fieldAddr 27 (Operand.tmp 171) 0, type := 0, pos := "outright.go:70", after := #[{ on := 15, ground := Ground.data }], guard := none }) (v := .pointer (some ⟨b, m * 2, none⟩)) rfl (by kernel_rfl) (by kernel_rfl) (by kernel_rfl) (fun _ _ _ h => h) (Or.inl ⟨by rfl, by intro w hS; go_simp⟩) hHeld ?_
          try simp only [Act.put, List.setIfInBounds_toArray, List.set_cons_zero, List.set_cons_succ]
          refine wpAnyH_take (i := 4) (oi := { dst := some 160, op := Op.load 25 (Operand.tmp 159), type := 25, pos := "outright.go:70", after := #[{ on := 3, ground := Ground.data }], guard := none }) (v := .iface 88 (.pointer (some (A k)))) rfl (by kernel_rfl) (by kernel_rfl) (by kernel_rfl) (fun _ _ _ h => h) (Or.inl ⟨by rfl, by intro w hS; have hc := ((hS.cell (block_lt_of_cell m1k)).trans m1k); go_simp⟩) hHeld ?_
          try simp only [Act.put, List.setIfInBounds_toArray, List.set_cons_zero, List.set_cons_succ]
          refine wpAnyH_take (i := 9) (oi := { dst := some 165, op := Op.load 25 (Operand.tmp 164), type := 25, pos := "outright.go:70", after := #[{ on := 8, ground := Ground.data }], guard := none }) (v := .iface 88 (.pointer (some (A m)))) rfl (by kernel_rfl) (by kernel_rfl) (by kernel_rfl) (fun _ _ _ h => h) (Or.inl ⟨by rfl, by intro w hS; have hc := ((hS.cell (block_lt_of_cell m1m)).trans m1m); go_simp⟩) hHeld ?_
          try simp only [Act.put, List.setIfInBounds_toArray, List.set_cons_zero, List.set_cons_succ]
          refine wpAnyH_take (i := 17) (oi := { dst := some 173, op := Op.load 3 (Operand.tmp 172), type := 3, pos := "outright.go:70", after := #[{ on := 16, ground := Ground.data }], guard := none }) (v := .int .i64 (nos m)) rfl (by kernel_rfl) (by kernel_rfl) (by kernel_rfl) (fun _ _ _ h => h) (Or.inl ⟨by rfl, by intro w hS; have hc := ((hS.cell (block_lt_of_cell m0m)).trans m0m); go_simp⟩) hHeld ?_
          try simp only [Act.put, List.setIfInBounds_toArray, List.set_cons_zero, List.set_cons_succ]
          refine wpAnyH_ready (rs := [10]) (by kernel_rfl) (by simp) ?_
          refine (AllReadyH.cons (o := { dst := some 166, op := Op.buildSlice 52 2 #[(0, Operand.tmp 160), (1, Operand.tmp 165)], type := 52, pos := "outright.go:70", after := #[{ on := 4, ground := Ground.data }, { on := 9, ground := Ground.data }], guard := none }) rfl (fun K hK => ?_) AllReadyH.nil)
          go_simp
          refine hK.out _ _ (hHeld.alloc hHeld.size _) (fun hHeld2 => ?_)
          clear hK K hHeld
          have hHeld := hHeld2
          clear hHeld2
          try simp only [Act.put, List.setIfInBounds_toArray, List.set_cons_zero, List.set_cons_succ]
          refine wpAnyH_ready (rs := [11]) (by kernel_rfl) (by simp) ?_
          refine (AllReadyH.cons (o := { dst := some 167, op := Op.call { callee := Callee.value (Operand.func 11), args := #[Operand.tmp 166], argTypes := #[52] }, type := 25, pos := "outright.go:70", after := #[{ on := 10, ground := Ground.data }], guard := none }) rfl (fun K hK => ?_) AllReadyH.nil)
          go_simp
          go_at_call 11
          refine (join2_any _ wr.heap.size 88 88 (.pointer (some (A k))) (.pointer (some (A m))) (by simp [go_sem]) (by simp [go_sem])).mono ?_
          rintro e w4 ⟨jb, jq, rfl, hb4, jc, j0, j1⟩
          go_wp2_with fail
          refine hK.out _ _ ((hHeld.trans (hb4.mono hHeld.size))) (fun hHeld2 => ?_)
          clear hK K hHeld
          have hHeld := hHeld2
          clear hHeld2
          try simp only [Act.put, List.setIfInBounds_toArray, List.set_cons_zero, List.set_cons_succ]
          refine wpAnyH_ready (rs := [12]) (by kernel_rfl) (by simp) ?_
          refine (AllReadyH.cons (o := { dst := some 168, op := Op.call { callee := Callee.value (Operand.func 8), args := #[Operand.tmp 167], argTypes := #[25] }, type := 31, pos := "outright.go:70", after := #[{ on := 11, ground := Ground.data }, { on := 11, ground := Ground.chain }], guard := none }) rfl (fun K hK => ?_) AllReadyH.nil)
          go_simp
          go_at_call 8
          refine (code_any _ A (HSx.out.mono hHeld) 53 _ _ (nos m) (isP_join2 jb jq jc j0 j1 ((isP_fx HSx.out hk2).later hHeld) ((isP_fx HSx.out hm3).later hHeld)) (codeIs_two hk2 hm2 (fun g => by simp; omega))).mono ?_
          rintro e w5 ⟨rfl, hb4⟩
          go_wp2_with fail
          refine hK.out _ _ (hHeld.trans (hb4.mono hHeld.size)) (fun hHeld2 => ?_)
          clear hK K hHeld
          have hHeld := hHeld2
          clear hHeld2
          try simp only [Act.put, List.setIfInBounds_toArray, List.set_cons_zero, List.set_cons_succ]
          refine wpAnyH_take (i := 18) (oi := { dst := some 174, op := Op.binOp BinOp.neq 3 (Operand.tmp 168) (Operand.tmp 173) 3, type := 4, pos := "outright.go:70", after := #[{ on := 12, ground := Ground.data }, { on := 17, ground := Ground.data }], guard := none }) (v := .bool false) rfl (by kernel_rfl) (by kernel_rfl) (by kernel_rfl) (fun _ _ _ h => h) (Or.inl ⟨by rfl, by intro w hS; go_simp⟩) hHeld ?_
          try simp only [Act.put, List.setIfInBounds_toArray, List.set_cons_zero, List.set_cons_succ]
          refine wpAnyH_take (i := 19) (oi := { dst := some 175, op := Op.move (Operand.tmp 174), type := 4, pos := "outright.go:70", after := #[{ on := 18, ground := Ground.data }, { on := 12, ground := Ground.chain }], guard := none }) (v := .bool false) rfl (by kernel_rfl) (by kernel_rfl) (by kernel_rfl) (fun _ _ _ h => h) (Or.inl ⟨by rfl, by intro w hS; go_simp⟩) hHeld ?_
          try simp only [Act.put, List.setIfInBounds_toArray, List.set_cons_zero, List.set_cons_succ]
          refine wpAnyH_take (i := 20) (oi := { dst := some 176, op := Op.move (Operand.tmp 5), type := 22, pos := "outright.go:70", after := #[{ on := 19, ground := Ground.guard }], guard := some (19, false) }) (v := .slice (some ⟨b, 0, none⟩) 20 20) rfl (by kernel_rfl) (by kernel_rfl) (by kernel_rfl) (fun _ _ _ h => h) (Or.inl ⟨by rfl, by intro w hS; go_simp⟩) hHeld ?_
          try simp only [Act.put, List.setIfInBounds_toArray, List.set_cons_zero, List.set_cons_succ]
          refine wpAnyH_take (i := 21) (oi := { dst := some 177, op := Op.move (Operand.tmp 13), type := 3, pos := "outright.go:70", after := #[{ on := 19, ground := Ground.guard }], guard := some (19, false) }) (v := .int .i64 m) rfl (by kernel_rfl) (by kernel_rfl) (by kernel_rfl) (fun _ _ _ h => h) (Or.inl ⟨by rfl, by intro w hS; go_simp⟩) hHeld ?_
          try simp only [Act.put, List.setIfInBounds_toArray, List.set_cons_zero, List.set_cons_succ]
          refine wpAnyH_take (i := 25) (oi := { dst := some 181, op := Op.move (Operand.tmp 5), type := 22, pos := "outright.go:70", after := #[{ on := 19, ground := Ground.guard }], guard := some (19, false) }) (v := .slice (some ⟨b, 0, none⟩) 20 20) rfl (by kernel_rfl) (by kernel_rfl) (by kernel_rfl) (fun _ _ _ h => h) (Or.inl ⟨by rfl, by intro w hS; go_simp⟩) hHeld ?_
          try simp only [Act.put, List.setIfInBounds_toArray, List.set_cons_zero, List.set_cons_succ]
          refine wpAnyH_take (i := 26) (oi := { dst := some 182, op := Op.move (Operand.tmp 6), type := 3, pos := "outright.go:70", after := #[{ on := 19, ground := Ground.guard }], guard := some (19, false) }) (v := .int .i64 k) rfl (by kernel_rfl) (by kernel_rfl) (by kernel_rfl) (fun _ _ _ h => h) (Or.inl ⟨by rfl, by intro w hS; go_simp⟩) hHeld ?_
          try simp only [Act.put, List.setIfInBounds_toArray, List.set_cons_zero, List.set_cons_succ]
          refine wpAnyH_take (i := 33) (oi := { dst := some 189, op := Op.move (Operand.tmp 5), type := 22, pos := "outright.go:70", after := #[{ on := 19, ground := Ground.guard }], guard := some (19, false) }) (v := .slice (some ⟨b, 0, none⟩) 20 20) rfl (by kernel_rfl) (by kernel_rfl) (by kernel_rfl) (fun _ _ _ h => h) (Or.inl ⟨by rfl, by intro w hS; go_simp⟩) hHeld ?_
          try simp only [Act.put, List.setIfInBounds_toArray, List.set_cons_zero, List.set_cons_succ]
          refine wpAnyH_take (i := 34) (oi := { dst := some 190, op := Op.move (Operand.tmp 13), type := 3, pos := "outright.go:70", after := #[{ on := 19, ground := Ground.guard }], guard := some (19, false) }) (v := .int .i64 m) rfl (by kernel_rfl) (by kernel_rfl) (by kernel_rfl) (fun _ _ _ h => h) (Or.inl ⟨by rfl, by intro w hS; go_simp⟩) hHeld ?_
          try simp only [Act.put, List.setIfInBounds_toArray, List.set_cons_zero, List.set_cons_succ]
          refine wpAnyH_take (i := 22) (oi := { dst := some 178, op := Op.indexAddr 22 (Operand.tmp 176) (Operand.tmp 177), type := 0, pos := "outright.go:70", after := #[{ on := 20, ground := Ground.data }, { on := 21, ground := Ground.data }, { on := 19, ground := Ground.guard }], guard := some (19, false) }) (v := .pointer (some ⟨b, m * 2, none⟩)) rfl (by kernel_rfl) (by kernel_rfl) (by kernel_rfl) (fun _ _ _ h => h) (Or.inl ⟨by rfl, by intro w hS; go_simp⟩) hHeld ?_
          try simp only [Act.put, List.setIfInBounds_toArray, List.set_cons_zero, List.set_cons_succ]
          refine wpAnyH_take (i := 27) (oi := { dst := some 183, op := Op.indexAddr 22 (Operand.tmp 181) (Operand.tmp 182), type := 0, pos := "outright.go:70", after := #[{ on := 25, ground := Ground.data }, { on := 26, ground := Ground.data }, { on := 19, ground := Ground.guard }], guard := some (19, false) }) (v := .pointer (some ⟨b, k * 2, none⟩)) rfl (by kernel_rfl) (by kernel_rfl) (by kernel_rfl) (fun _ _ _ h => h) (Or.inl ⟨by rfl, by intro w hS; go_simp⟩) hHeld ?_
          try simp only [Act.put, List.setIfInBounds_toArray, List.set_cons_zero, List.set_cons_succ]
          refine wpAnyH_take (i := 35) (oi := { dst := some 191, op := Op.indexAddr 22 (Operand.tmp 189) (Operand.tmp 190), type := 0, pos := "outright.go:70", after := #[{ on := 33, ground := Ground.data }, { on := 34, ground := Ground.data }, { on := 19, ground := Ground.guard }], guard := some (19, false) }) (v := .pointer (some ⟨b, m * 2, none⟩)) rfl (by kernel_rfl) (by kernel_rfl) (by kernel_rfl) (fun _ _ _ h => h) (Or.inl ⟨by rfl, by intro w hS; go_simp⟩) hHeld ?_
          try simp only [Act.put, List.setIfInBounds_toArray, List.set_cons_zero, List.set_cons_succ]
          refine wpAnyH_take (i := 23) (oi := { dst := some 179, op := Op.fieldAddr 27 (Operand.tmp 178) 1, type := 0, pos := "outright.go:70", after := #[{ on := 22, ground := Ground.data }, { on := 19, ground := Ground.guard }], guard := some (19, false) }) (v := .pointer (some ⟨b, m * 2 + 1, none⟩)) rfl (by kernel_rfl) (by kernel_rfl) (by kernel_rfl) (fun _ _ _ h => h) (Or.inl ⟨by rfl, by intro w hS; go_simp⟩) hHeld ?_
          try simp only [Act.put, List.setIfInBounds_toArray, List.set_cons_zero, List.set_cons_succ]
          refine wpAnyH_take (i := 28) (oi := { dst := some 184, op := Op.fieldAddr 27 (Operand.tmp 183) 1, type := 0, pos := "outright.go:70", after := #[{ on := 27, ground := Ground.data }, { on := 19, ground := Ground.guard }], guard := some (19, false) }) (v := .pointer (some ⟨b, k * 2 + 1, none⟩)) rfl (by kernel_rfl) (by kernel_rfl) (by kernel_rfl) (fun _ _ _ h => h) (Or.inl ⟨by rfl, by intro w hS; go_simp⟩) hHeld ?_
          try simp only [Act.put, List.setIfInBounds_toArray, List.set_cons_zero, List.set_cons_succ]
          refine wpAnyH_take (i := 36) (oi := { dst := some 192, op := Op.fieldAddr 27 (Operand.tmp 191) 0, type := 0, pos := "outright.go:70", after := #[{ on := 35, ground := Ground.data }, { on := 19, ground := Ground.guard }], guard := some (19, false) }) (v := .pointer (some ⟨b, m * 2, none⟩)) rfl (by kernel_rfl) (by kernel_rfl) (by kernel_rfl) (fun _ _ _ h => h) (Or.inl ⟨by rfl, by intro w hS; go_simp⟩) hHeld ?_
          try simp only [Act.put, List.setIfInBounds_toArray, List.set_cons_zero, List.set_cons_succ]
          refine wpAnyH_take (i := 24) (oi := { dst := some 180, op := Op.load 25 (Operand.tmp 179), type := 25, pos := "outright.go:70", after := #[{ on := 23, ground := Ground.data }, { on := 19, ground := Ground.guard }], guard := some (19, false) }) (v := .iface 88 (.pointer (some (A m)))) rfl (by kernel_rfl) (by kernel_rfl) (by kernel_rfl) (fun _ _ _ h => h) (Or.inl ⟨by rfl, by intro w hS; have hc := ((hS.cell (block_lt_of_cell m1m)).trans m1m); go_simp⟩) hHeld ?_
          try simp only [Act.put, List.setIfInBounds_toArray, List.set_cons_zero, List.set_cons_succ]
          refine wpAnyH_take (i := 29) (oi := { dst := some 185, op := Op.load 25 (Operand.tmp 184), type := 25, pos := "outright.go:70", after := #[{ on := 28, ground := Ground.data }, { on := 19, ground := Ground.guard }], guard := some (19, false) }) (v := .iface 88 (.pointer (some (A k)))) rfl (by kernel_rfl) (by kernel_rfl) (by kernel_rfl) (fun _ _ _ h => h) (Or.inl ⟨by rfl, by intro w hS; have hc := ((hS.cell (block_lt_of_cell m1k)).trans m1k); go_simp⟩) hHeld ?_
          try simp only [Act.put, List.setIfInBounds_toArray, List.set_cons_zero, List.set_cons_succ]
          refine wpAnyH_take (i := 37) (oi := { dst := some 193, op := Op.load 3 (Operand.tmp 192), type := 3, pos := "outright.go:70", after := #[{ on := 36, ground := Ground.data }, { on := 19, ground := Ground.guard }], guard := some (19, false) }) (v := .int .i64 (nos m)) rfl (by kernel_rfl) (by kernel_rfl) (by kernel_rfl) (fun _ _ _ h => h) (Or.inl ⟨by rfl, by intro w hS; have hc := ((hS.cell (block_lt_of_cell m0m)).trans m0m); go_simp⟩) hHeld ?_
          try simp only [Act.put, List.setIfInBounds_toArray, List.set_cons_zero, List.set_cons_succ]
          refine wpAnyH_ready (rs := [30]) (by kernel_rfl) (by simp) ?_
          refine (AllReadyH.cons (o := { dst := some 186, op := Op.buildSlice 52 2 #[(0, Operand.tmp 180), (1, Operand.tmp 185)], type := 52, pos := "outright.go:70", after := #[{ on := 24, ground := Ground.data }, { on := 29, ground := Ground.data }, { on := 19, ground := Ground.guard }], guard := some (19, false) }) rfl (fun K hK => ?_) AllReadyH.nil)
          go_simp
          refine hK.out _ _ (hHeld.alloc hHeld.size _) (fun hHeld2 => ?_)
          clear hK K hHeld
          have hHeld := hHeld2
          clear hHeld2
          try simp only [Act.put, List.setIfInBounds_toArray, List.set_cons_zero, List.set_cons_succ]
          refine wpAnyH_ready (rs := [31]) (by kernel_rfl) (by simp) ?_
          refine (AllReadyH.cons (o := { dst := some 187, op := Op.call { callee := Callee.value (Operand.func 11), args := #[Operand.tmp 186], argTypes := #[52] }, type := 25, pos := "outright.go:70", after := #[{ on := 30, ground := Ground.data }, { on := 19, ground := Ground.chain }, { on := 19, ground := Ground.guard }], guard := some (19, false) }) rfl (fun K hK => ?_) AllReadyH.nil)
          go_simp
          go_at_call 11
          refine (join2_any _ w5.heap.size 88 88 (.pointer (some (A m))) (.pointer (some (A k))) (by simp [go_sem]) (by simp [go_sem])).mono ?_
          rintro e w6 ⟨jb, jq, rfl, hb4, jc, j0, j1⟩
          go_wp2_with fail
          refine hK.out _ _ ((hHeld.trans (hb4.mono hHeld.size))) (fun hHeld2 => ?_)
          clear hK K hHeld
          have hHeld := hHeld2
          clear hHeld2
          try simp only [Act.put, List.setIfInBounds_toArray, List.set_cons_zero, List.set_cons_succ]
          refine wpAnyH_ready (rs := [32]) (by kernel_rfl) (by simp) ?_
          refine (AllReadyH.cons (o := { dst := some 188, op := Op.call { callee := Callee.value (Operand.func 8), args := #[Operand.tmp 187], argTypes := #[25] }, type := 31, pos := "outright.go:70", after := #[{ on := 31, ground := Ground.data }, { on := 31, ground := Ground.chain }, { on := 19, ground := Ground.guard }], guard := some (19, false) }) rfl (fun K hK => ?_) AllReadyH.nil)
          go_simp
          go_at_call 8
          refine (code_any _ A (HSx.out.mono hHeld) 53 _ _ (nos m) (isP_join2 jb jq jc j0 j1 ((isP_fx HSx.out hm3).later hHeld) ((isP_fx HSx.out hk2).later hHeld)) (codeIs_two hk2 hm2 (fun g => by simp; omega))).mono ?_
          rintro e w7 ⟨rfl, hb4⟩
          go_wp2_with fail
          refine hK.out _ _ (hHeld.trans (hb4.mono hHeld.size)) (fun hHeld2 => ?_)
          clear hK K hHeld
          have hHeld := hHeld2
          clear hHeld2
          try simp only [Act.put, List.setIfInBounds_toArray, List.set_cons_zero, List.set_cons_succ]
          refine wpAnyH_take (i := 38) (oi := { dst := some 194, op := Op.binOp BinOp.neq 3 (Operand.tmp 188) (Operand.tmp 193) 3, type := 4, pos := "outright.go:70", after := #[{ on := 32, ground := Ground.data }, { on := 37, ground := Ground.data }, { on := 19, ground := Ground.guard }], guard := some (19, false) }) (v := .bool false) rfl (by kernel_rfl) (by kernel_rfl) (by kernel_rfl) (fun _ _ _ h => h) (Or.inl ⟨by rfl, by intro w hS; go_simp⟩) hHeld ?_
          try simp only [Act.put, List.setIfInBounds_toArray, List.set_cons_zero, List.set_cons_succ]
          refine wpAnyH_take (i := 39) (oi := { dst := some 195, op := Op.pick (Operand.tmp 175) (Operand.const (Value.bool true)) (Operand.tmp 194), type := 4, pos := "outright.go:70", after := #[{ on := 19, ground := Ground.data }, { on := 38, ground := Ground.data }], guard := none }) (v := .bool false) rfl (by kernel_rfl) (by kernel_rfl) (by kernel_rfl) (fun _ _ _ h => h) (Or.inl ⟨by rfl, by intro w hS; go_simp⟩) hHeld ?_
          try simp only [Act.put, List.setIfInBounds_toArray, List.set_cons_zero, List.set_cons_succ]
          refine wpAnyH_done (by kernel_rfl) ?_ _
          refine NoPanic.normal ?_
          have hBy := hid hHeld
          clear hHeld
          replace m0m := cellB hBy.out m0m
          replace m1m := cellB hBy.out m1m
          replace m1k := cellB hBy.out m1k
          replace rb := rngB hBy.out rb
          replace rh := rngB hBy.out rh
          have HSy := hid (HSx.out.mono hBy.out)
          clear HSx jc j0 j1
          have HSx := HSy
          go_wp2_with fail
          refine wp_region_noPanic ?_
          refine wp_region_held_drew (S := fun w' => Below w7.heap.size w7 w') (by kernel_rfl) (Below.refl _ _).drew (fun hHeld => ?_)
          refine wpAnyH_take (i := 0) (oi := { dst := some 196, op := Op.load 42 (Operand.tmp 10), type := 42, pos := "outright.go:73", after := #[], guard := none }) (v := .agg ([.string (txt k), .nilIface]).toArray) rfl (by kernel_rfl) (by kernel_rfl) (by kernel_rfl) (fun _ _ _ h => h) (yieldsIf_load_mid (by rfl) 42 _ rfl s0 (0) rfl ([.string (txt k), .nilIface]) _ (fun w hS => (rngB hS rb)) Tryd.underlying42 rfl (by kernel_rfl)) hHeld ?_
          try simp only [Act.put, List.setIfInBounds_toArray, List.set_cons_zero, List.set_cons_succ]
          refine wpAnyH_take (i := 2) (oi := { dst := some 198, op := Op.load 42 (Operand.tmp 11), type := 42, pos := "outright.go:73", after := #[], guard := none }) (v := .agg ([.string c, .iface 88 (.pointer (some (A k)))]).toArray) rfl (by kernel_rfl) (by kernel_rfl) (by kernel_rfl) (fun _ _ _ h => h) (yieldsIf_load_mid (by rfl) 42 _ rfl s1 (0) rfl ([.string c, .iface 88 (.pointer (some (A k)))]) _ (fun w hS => (rngB hS rh)) Tryd.underlying42 rfl (by kernel_rfl)) hHeld ?_
          try simp only [Act.put, List.setIfInBounds_toArray, List.set_cons_zero, List.set_cons_succ]
          refine wpAnyH_take (i := 4) (oi := { dst := some 200, op := Op.move (Operand.tmp 5), type := 22, pos := "outright.go:73", after := #[], guard := none }) (v := .slice (some ⟨b, 0, none⟩) 20 20) rfl (by kernel_rfl) (by kernel_rfl) (by kernel_rfl) (fun _ _ _ h => h) (Or.inl ⟨by rfl, by intro w hS; go_simp⟩) hHeld ?_
          try simp only [Act.put, List.setIfInBounds_toArray, List.set_cons_zero, List.set_cons_succ]
          refine wpAnyH_take (i := 5) (oi := { dst := some 201, op := Op.move (Operand.tmp 13), type := 3, pos := "outright.go:73", after := #[], guard := none }) (v := .int .i64 m) rfl (by kernel_rfl) (by kernel_rfl) (by kernel_rfl) (fun _ _ _ h => h) (Or.inl ⟨by rfl, by intro w hS; go_simp⟩) hHeld ?_
          try simp only [Act.put, List.setIfInBounds_toArray, List.set_cons_zero, List.set_cons_succ]
          refine wpAnyH_take (i := 14) (oi := { dst := some 210, op := Op.move (Operand.tmp 5), type := 22, pos := "outright.go:73", after := #[], guard := none }) (v := .slice (some ⟨b, 0, none⟩) 20 20) rfl (by kernel_rfl) (by kernel_rfl) (by kernel_rfl) (fun _ _ _ h => h) (Or.inl ⟨by rfl, by intro w hS; go_simp⟩) hHeld ?_
          try simp only [Act.put, List.setIfInBounds_toArray, List.set_cons_zero, List.set_cons_succ]
          refine wpAnyH_take (i := 15) (oi := { dst := some 211, op := Op.move (Operand.tmp 13), type := 3, pos := "outright.go:73", after := #[], guard := none }) (v := .int .i64 m) rfl (by kernel_rfl) (by kernel_rfl) (by kernel_rfl) (fun _ _ _ h => h) (Or.inl ⟨by rfl, by intro w hS; go_simp⟩) hHeld ?_
          try simp only [Act.put, List.setIfInBounds_toArray, List.set_cons_zero, List.set_cons_succ]
          refine wpAnyH_take (i := 1) (oi := { dst := some 197, op := Op.makeInterface 42 (Operand.tmp 196), type := 25, pos := "outright.go:73", after := #[{ on := 0, ground := Ground.data }], guard := none }) (v := .iface 42 (.agg #[.string (txt k), .nilIface])) rfl (by kernel_rfl) (by kernel_rfl) (by kernel_rfl) (fun _ _ _ h => h) (Or.inl ⟨by rfl, by intro w hS; go_simp⟩) hHeld ?_
          try simp only [Act.put, List.setIfInBounds_toArray, List.set_cons_zero, List.set_cons_succ]
          refine wpAnyH_take (i := 3) (oi := { dst := some 199, op := Op.makeInterface 42 (Operand.tmp 198), type := 25, pos := "outright.go:73", after := #[{ on := 2, ground := Ground.data }], guard := none }) (v := .iface 42 (.agg #[.string c, .iface 88 (.pointer (some (A k)))])) rfl (by kernel_rfl) (by kernel_rfl) (by kernel_rfl) (fun _ _ _ h => h) (Or.inl ⟨by rfl, by intro w hS; go_simp⟩) hHeld ?_
          try simp only [Act.put, List.setIfInBounds_toArray, List.set_cons_zero, List.set_cons_succ]
          refine wpAnyH_take (i := 6) (oi := { dst := some 202, op := Op.indexAddr 22 (Operand.tmp 200) (Operand.tmp 201), type := 0, pos := "outright.go:73", after := #[{ on := 4, ground := Ground.data }, { on := 5, ground := Ground.data }], guard := none }) (v := .pointer (some ⟨b, m * 2, none⟩)) rfl (by kernel_rfl) (by kernel_rfl) (by kernel_rfl) (fun _ _ _ h => h) (Or.inl ⟨by rfl, by intro w hS; go_simp⟩) hHeld ?_
          try simp only [Act.put, List.setIfInBounds_toArray, List.set_cons_zero, List.set_cons_succ]
          refine wpAnyH_take (i := 16) (oi := { dst := some 212, op := Op.indexAddr 22 (Operand.tmp 210) (Operand.tmp 211), type := 0, pos := "outright.go:73", after := #[{ on := 14, ground := Ground.data }, { on := 15, ground := Ground.data }], guard := none }) (v := .pointer (some ⟨b, m * 2, none⟩)) rfl (by kernel_rfl) (by kernel_rfl) (by kernel_rfl) (fun _ _ _ h => h) (Or.inl ⟨by rfl, by intro w hS; go_simp⟩) hHeld ?_
          try simp only [Act.put, List.setIfInBounds_toArray, List.set_cons_zero, List.set_cons_succ]
          refine wpAnyH_take (i := 7) (oi := { dst := some 203, op := Op.fieldAddr 27 (Operand.tmp 202) 1, type := 0, pos := "outright.go:73", after := #[{ on := 6, ground := Ground.data }], guard := none }) (v := .pointer (some ⟨b, m * 2 + 1, none⟩)) rfl (by kernel_rfl) (by kernel_rfl) (by kernel_rfl) (fun _ _ _ h => h) (Or.inl ⟨by rfl, by intro w hS; go_simp⟩) hHeld ?_
          try simp only [Act.put, List.setIfInBounds_toArray, List.set_cons_zero, List.set_cons_succ]
          refine wpAnyH_take (i := 17) (oi := { dst := some 213, op := Op.fieldAddr 27 (Operand.tmp 212) 0, type := 0, pos := "outright.go:73", after := #[{ on := 16, ground := Ground.data }], guard := none }) (v := .pointer (some ⟨b, m * 2, none⟩)) rfl (by kernel_rfl) (by kernel_rfl) (by kernel_rfl) (fun _ _ _ h => h) (Or.inl ⟨by rfl, by intro w hS; go_simp⟩) hHeld ?_
          try simp only [Act.put, List.setIfInBounds_toArray, List.set_cons_zero, List.set_cons_succ]
          refine wpAnyH_take (i := 8) (oi := { dst := some 204, op := Op.load 25 (Operand.tmp 203), type := 25, pos := "outright.go:73", after := #[{ on := 7, ground := Ground.data }], guard := none }) (v := .iface 88 (.pointer (some (A m)))) rfl (by kernel_rfl) (by kernel_rfl) (by kernel_rfl) (fun _ _ _ h => h) (Or.inl ⟨by rfl, by intro w hS; have hc := ((hS.cell (block_lt_of_cell m1m)).trans m1m); go_simp⟩) hHeld ?_
          try simp only [Act.put, List.setIfInBounds_toArray, List.set_cons_zero, List.set_cons_succ]
          refine wpAnyH_take (i := 18) (oi := { dst := some 214, op := Op.load 3 (Operand.tmp 213), type := 3, pos := "outright.go:73", after := #[{ on := 17, ground := Ground.data }], guard := none }) (v := .int .i64 (nos m)) rfl (by kernel_rfl) (by kernel_rfl) (by kernel_rfl) (fun _ _ _ h => h) (Or.inl ⟨by rfl, by intro w hS; have hc := ((hS.cell (block_lt_of_cell m0m)).trans m0m); go_simp⟩) hHeld ?_
          try simp only [Act.put, List.setIfInBounds_toArray, List.set_cons_zero, List.set_cons_succ]
          refine wpAnyH_take (i := 9) (oi := { dst := some 205, op := Op.build 42 #[(0, Operand.const (Value.string { data := #[120] })), (1, Operand.tmp 204)], type := 42, pos := "outright.go:73", after := #[{ on := 8, ground := Ground.data }], guard := none }) (v := .agg #[.string { data := #[120] }, .iface 88 (.pointer (some (A m)))]) rfl (by kernel_rfl) (by kernel_rfl) (by kernel_rfl) (fun _ _ _ h => h) (Or.inl ⟨by rfl, by intro w hS; go_simp⟩) hHeld ?_
          try simp only [Act.put, List.setIfInBounds_toArray, List.set_cons_zero, List.set_cons_succ]
          refine wpAnyH_take (i := 10) (oi := { dst := some 206, op := Op.makeInterface 42 (Operand.tmp 205), type := 25, pos := "outright.go:73", after := #[{ on := 9, ground := Ground.data }], guard := none }) (v := .iface 42 (.agg #[.string { data := #[120] }, .iface 88 (.pointer (some (A m)))])) rfl (by kernel_rfl) (by kernel_rfl) (by kernel_rfl) (fun _ _ _ h => h) (Or.inl ⟨by rfl, by intro w hS; go_simp⟩) hHeld ?_
          try simp only [Act.put, List.setIfInBounds_toArray, List.set_cons_zero, List.set_cons_succ]
          refine wpAnyH_ready (rs := [11]) (by kernel_rfl) (by simp) ?_
          refine (AllReadyH.cons (o := { dst := some 207, op := Op.buildSlice 52 3 #[(0, Operand.tmp 197), (1, Operand.tmp 199), (2, Operand.tmp 206)], type := 52, pos := "outright.go:73", after := #[{ on := 1, ground := Ground.data }, { on := 3, ground := Ground.data }, { on := 10, ground := Ground.data }], guard := none }) rfl (fun K hK => ?_) AllReadyH.nil)
          go_simp
          refine hK.out _ _ (hHeld.alloc hHeld.size _) (fun hHeld2 => ?_)
          clear hK K hHeld
          have hHeld := hHeld2
          clear hHeld2
          try simp only [Act.put, List.setIfInBounds_toArray, List.set_cons_zero, List.set_cons_succ]
          refine wpAnyH_ready (rs := [12]) (by kernel_rfl) (by simp) ?_
          refine (AllReadyH.cons (o := { dst := some 208, op := Op.call { callee := Callee.value (Operand.func 11), args := #[Operand.tmp 207], argTypes := #[52] }, type := 25, pos := "outright.go:73", after := #[{ on := 11, ground := Ground.data }], guard := none }) rfl (fun K hK => ?_) AllReadyH.nil)
          go_simp
          go_at_call 11
          refine (join3_any _ w7.heap.size 42 42 42 (.agg #[.string (txt k), .nilIface]) (.agg #[.string c, .iface 88 (.pointer (some (A k)))]) (.agg #[.string { data := #[120] }, .iface 88 (.pointer (some (A m)))]) (by simp [go_sem]) (by simp [go_sem]) (by simp [go_sem])).mono ?_
          rintro e w4 ⟨jb, jq, rfl, hb4, jc, j0, j1, j2⟩
          go_wp2_with fail
          refine hK.out _ _ ((hHeld.trans (hb4.mono hHeld.size))) (fun hHeld2 => ?_)
          clear hK K hHeld
          have hHeld := hHeld2
          clear hHeld2
          try simp only [Act.put, List.setIfInBounds_toArray, List.set_cons_zero, List.set_cons_succ]
          refine wpAnyH_ready (rs := [13]) (by kernel_rfl) (by simp) ?_
          refine (AllReadyH.cons (o := { dst := some 209, op := Op.call { callee := Callee.value (Operand.func 8), args := #[Operand.tmp 208], argTypes := #[25] }, type := 31, pos := "outright.go:73", after := #[{ on := 12, ground := Ground.data }, { on := 12, ground := Ground.chain }], guard := none }) rfl (fun K hK => ?_) AllReadyH.nil)
          go_simp
          go_at_call 8
          refine (code_any _ A (HSx.out.mono hHeld) 53 _ _ (nos m) (isP_join3 jb jq jc j0 j1 j2 ((isP_fo0 HSx.out _).later hHeld) ((isP_fo1 HSx.out _ hk2).later hHeld) ((isP_fo1 HSx.out _ hm3).later hHeld)) (codeIs_two hk2 hm2 (fun g => by simp; omega))).mono ?_
          rintro e w5 ⟨rfl, hb4⟩
          go_wp2_with fail
          refine hK.out _ _ (hHeld.trans (hb4.mono hHeld.size)) (fun hHeld2 => ?_)
          clear hK K hHeld
          have hHeld := hHeld2
          clear hHeld2
          try simp only [Act.put, List.setIfInBounds_toArray, List.set_cons_zero, List.set_cons_succ]
          refine wpAnyH_take (i := 19) (oi := { dst := some 215, op := Op.binOp BinOp.neq 3 (Operand.tmp 209) (Operand.tmp 214) 3, type := 4, pos := "outright.go:73", after := #[{ on := 13, ground := Ground.data }, { on := 18, ground := Ground.data }], guard := none }) (v := .bool false) rfl (by kernel_rfl) (by kernel_rfl) (by kernel_rfl) (fun _ _ _ h => h) (Or.inl ⟨by rfl, by intro w hS; go_simp⟩) hHeld ?_
          try simp only [Act.put, List.setIfInBounds_toArray, List.set_cons_zero, List.set_cons_succ]
          refine wpAnyH_done (by kernel_rfl) ?_ _
          refine NoPanic.normal ?_
          have hBz := hid hHeld
          clear hHeld
          go_wp2
          go_roundw
          case rel => exact ⟨m + 1, by omega, by go_num, bel3 (bel3 hbm.out hBy.out) hBz.out⟩
          case measure => simp [intOf]; omega
        · obtain rfl : m = k := by omega
          go_wp2
          go_roundw
          case rel => exact ⟨m + 1, by omega, by go_num, bel3 Ce.out hbm.out⟩
          case measure => simp [intOf]; omega
    · obtain rfl : k = 20 := by omega
      go_wp2
      go_ret
      exact ⟨rfl, hbe.out.trans (hb.out.mono hbe.out.size)⟩
end Go.Proofs.YtfogohpmphgkkaaDoor
