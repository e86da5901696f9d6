import Derived.Test.YtenfklcgkfaajaaDk66
namespace Go.Proofs.Ytenfklcgkfaajaa
set_option linter.unusedVariables false
set_option linter.unusedSimpArgs false
open Go.RowKit
attribute [local go_sem ↓] Go.wp_at_zero Go.wp_at_succ

/-- spared midway: both replies, boxed. -/
structure SP (w wc : World) (cx cy : List Value) : Prop where
  rx : wc.heap[w.heap.size]? = some (.cells cx.toArray 32 (0, 0))
  ry : wc.heap[w.heap.size + 1]? = some (.cells cy.toArray 32 (0, 0))
  bel : Below w.heap.size w wc
theorem SP.call {w wc w1 : World} {cx cy : List Value} (h : SP w wc cx cy) (hb : Below wc.heap.size wc w1) : SP w w1 cx cy :=
  ⟨hbel hb h.rx (hlt h.rx), hbel hb h.ry (hlt h.ry), h.bel.trans (hb.mono h.bel.size)⟩
theorem SP.drew {w wc : World} {cx cy : List Value} (h : SP w wc cx cy) : SP w wc.drew cx cy := ⟨h.rx, h.ry, h.bel.drew⟩
set_option maxRecDepth 100000 in
set_option maxHeartbeats 8000000 in
theorem spared_yes (w : World) (r : Rp) (hY : RpY r) (kv kvc kr krc : Nat) (ls1 cs1 : Option Addr) (lc1 cc1 : Nat) (hO : OwR w r kv kvc kr krc ls1 cs1 lc1 cc1) (vs rs ls cs : Option Addr) (vc rc lc cc : Nat) (hI : RpI w r vs rs ls cs vc rc lc cc) :
    Calls Try.prog 25 #[.agg (rpV r (some ⟨kv, 0, none⟩) (some ⟨kr, 0, none⟩) ls1 cs1 kvc krc lc1 cc1).toArray, .agg (rpV r vs rs ls cs vc rc lc cc).toArray] w fun e w' => e = .returned (.bool true) ∧ Below w.heap.size w w' := by
  have HIL := hid hI.l
  have SR1 := hid (show (Try.prog.info? 32).map (·.size) = some (rpV r (some ⟨kv, 0, none⟩) (some ⟨kr, 0, none⟩) ls1 cs1 kvc krc lc1 cc1).toArray.size from (repSizes hI.l).1)
  have SR2 := hid (show (Try.prog.info? 32).map (·.size) = some (rpV r vs rs ls cs vc rc lc cc).toArray.size from (repSizes hI.l).1)
  have D2 : SP w ((w.alloc (.cells (rpV r (some ⟨kv, 0, none⟩) (some ⟨kr, 0, none⟩) ls1 cs1 kvc krc lc1 cc1).toArray 32)).alloc (.cells (rpV r vs rs ls cs vc rc lc cc).toArray 32)) (rpV r (some ⟨kv, 0, none⟩) (some ⟨kr, 0, none⟩) ls1 cs1 kvc krc lc1 cc1) (rpV r vs rs ls cs vc rc lc cc) := by
    have h2 := hnew (w.alloc (.cells (rpV r (some ⟨kv, 0, none⟩) (some ⟨kr, 0, none⟩) ls1 cs1 kvc krc lc1 cc1).toArray 32)) (.cells (rpV r vs rs ls cs vc rc lc cc).toArray 32)
    rw [show (w.alloc (.cells (rpV r (some ⟨kv, 0, none⟩) (some ⟨kr, 0, none⟩) ls1 cs1 kvc krc lc1 cc1).toArray 32)).heap.size = w.heap.size + 1 by simp] at h2
    exact ⟨hold (hnew w _), h2, ((Below.refl w.heap.size w).alloc (Nat.le_refl _) _).alloc (by simp) _⟩
  have KS := hid (sameReply_yes _ r hY _ _ _ _ _ _ _ _ ((hO.below D2.bel).inn) _ _ _ _ _ _ _ _ (hI.below D2.bel))
  obtain ⟨_, _, _, b1, o1, hA1, eA1⟩ := hO.sl
  obtain ⟨_, _, _, b2, o2, hC1, eC1⟩ := hI.sl
  obtain ⟨_, _, _, b3, o3, hA2, eA2⟩ := hO.sc
  obtain ⟨_, _, _, b4, o4, hC2, eC2⟩ := hI.sc
  have hlm := hI.sl.mx
  have hll := hI.sl.le
  have hcm := hI.sc.mx
  have hcl := hI.sc.le
  unfold maxLen at hlm hcm
  have i8 : (r.list.length : Int) ≤ 9223372036854775807 := by omega
  have i9 : (r.chs.length : Int) ≤ 9223372036854775807 := by omega
  clear hlm hll hcm hcl
  have RX := hid D2.rx
  have RY := hid D2.ry
  go_enter Try.func25, Try.ntmps25
  go_wp2_with (first | (refine wpList_load_row rfl 32 _ rfl w.heap.size rfl 32 _ (0, 0) _ RX.out Try.underlying32 rfl SR1.out ?_) | (refine wpList_load_row rfl 32 _ rfl (w.heap.size + 1) rfl 32 _ (0, 0) _ RY.out Try.underlying32 rfl SR2.out ?_) | (go_at_call 12; refine KS.out.mono ?_; rintro e w3 ⟨rfl, hb3⟩; refine Hid.out ?_))
  refine hid ?_
  have D3 := D2.call hb3
  clear D2 KS RX RY hb3 SR1 SR2
  have x4 := (RC.of D3.rx HIL.out).c4
  have y4 := (RC.of D3.ry HIL.out).c4
  have KU := hid (untouched_yes w3 r.val hY.val kv kvc (hO.a.below D3.bel (Nat.le_refl _)) vs vc (hI.sv.below D3.bel (Nat.le_refl _)))
  go_wp2_with fail
  refine KU.out.mono ?_
  rintro e w4 ⟨rfl, hb4⟩
  have D4 := D3.call hb4
  clear D3 KU hb4 x4 y4
  have x37 := (RC.of D4.rx HIL.out).c37
  have y37 := (RC.of D4.ry HIL.out).c37
  have KU := hid (untouched_yes w4 r.raw hY.raw kr krc (hO.b.below D4.bel (Nat.le_refl _)) rs rc (hI.sr.below D4.bel (Nat.le_refl _)))
  go_wp2_with fail
  refine KU.out.mono ?_
  rintro e w5 ⟨rfl, hb5⟩
  have D5 := D4.call hb5
  clear D4 KU hb5 x37 y37
  go_wp2
  go_loopw [5] (fun i wr => ∃ (k : Nat), k ≤ r.list.length ∧ i = .int .i64 k ∧ SP w wr (rpV r (some ⟨kv, 0, none⟩) (some ⟨kr, 0, none⟩) ls1 cs1 kvc krc lc1 cc1) (rpV r vs rs ls cs vc rc lc cc)) (fun i _ => r.list.length - (intOf i).toNat)
  case atStart => exact ⟨0, Nat.zero_le _, rfl, D5⟩
  case round =>
    clear D5
    obtain ⟨k, hk, rfl, D⟩ := hrel
    by_cases hlt' : k < r.list.length
    · skip
      have i1 : (k : Int) < (r.list.length : Int) := by omega
      obtain ⟨hl1, hbl1⟩ := hA1 (by omega)
      obtain ⟨hl2, hbl2⟩ := hC1 (by omega)
      subst hl1
      subst hl2
      obtain ⟨s1, p1, rg1, kl, RM⟩ := eA1 k hlt'
      obtain ⟨s2, p2, rg2, _, Sv, _⟩ := eC1 k hlt'
      change w.rangeAt b1 (o1 + k * 33) _ at rg1
      change w.rangeAt b2 (o2 + k * 33) _ at rg2
      have HY := hid (hY.list k hlt')
      have HD0 := hid D.drew
      have RG1 := hid rg1
      have RG2 := hid rg2
      have HG1 := hid hbl1
      have HG2 := hid hbl2
      have HK := hid kl
      generalize hxe : r.list.getD k dX = x at *
      replace hxe := hid hxe
      have cx := (RC.of D.ry HIL.out).c38
      clear rg1 rg2 hbl1 hbl2 kl D
      go_wp2
      refine wp_region_noPanic ?_
      refine wp_region_held_drew (S := (fun w' => SP w w' (rpV r (some ⟨kv, 0, none⟩) (some ⟨kr, 0, none⟩) (some ⟨b1, o1, none⟩) cs1 kvc krc lc1 cc1) (rpV r vs rs (some ⟨b2, o2, none⟩) cs vc rc lc cc))) (by kernel_rfl) HD0.out (fun hHeld => ?_)
      refine wpAnyH_take (i := 0) (oi := { dst := some 34, op := Op.fieldAddr 32 (Operand.tmp 2) 7, type := 0, pos := "law.go:95", after := #[], guard := none }) (v := .pointer (some ⟨w.heap.size, 38, none⟩)) rfl (by kernel_rfl) (by kernel_rfl) (by kernel_rfl) (fun _ _ _ h => h) (Or.inl ⟨by rfl, by intro w hS; go_simp⟩) hHeld ?_
      try simp only [Act.put, List.setIfInBounds_toArray, List.set_cons_zero, List.set_cons_succ]
      refine wpAnyH_take (i := 2) (oi := { dst := some 36, op := Op.move (Operand.tmp 5), type := 3, pos := "law.go:95", after := #[], guard := none }) (v := .int .i64 k) rfl (by kernel_rfl) (by kernel_rfl) (by kernel_rfl) (fun _ _ _ h => h) (Or.inl ⟨by rfl, by intro w hS; go_simp⟩) hHeld ?_
      try simp only [Act.put, List.setIfInBounds_toArray, List.set_cons_zero, List.set_cons_succ]
      refine wpAnyH_take (i := 6) (oi := { dst := some 40, op := Op.fieldAddr 32 (Operand.tmp 3) 7, type := 0, pos := "law.go:95", after := #[], guard := none }) (v := .pointer (some ⟨(w.heap.size + 1), 38, none⟩)) rfl (by kernel_rfl) (by kernel_rfl) (by kernel_rfl) (fun _ _ _ h => h) (Or.inl ⟨by rfl, by intro w hS; go_simp⟩) hHeld ?_
      try simp only [Act.put, List.setIfInBounds_toArray, List.set_cons_zero, List.set_cons_succ]
      refine wpAnyH_take (i := 8) (oi := { dst := some 42, op := Op.move (Operand.tmp 5), type := 3, pos := "law.go:95", after := #[], guard := none }) (v := .int .i64 k) rfl (by kernel_rfl) (by kernel_rfl) (by kernel_rfl) (fun _ _ _ h => h) (Or.inl ⟨by rfl, by intro w hS; go_simp⟩) hHeld ?_
      try simp only [Act.put, List.setIfInBounds_toArray, List.set_cons_zero, List.set_cons_succ]
      refine wpAnyH_take (i := 1) (oi := { dst := some 35, op := Op.load 27 (Operand.tmp 34), type := 27, pos := "law.go:95", after := #[{ on := 0, ground := Ground.data }], guard := none }) (v := .slice (some ⟨b1, o1, none⟩) r.list.length lc1) rfl (by kernel_rfl) (by kernel_rfl) (by kernel_rfl) (fun _ _ _ h => h) (Or.inl ⟨by rfl, by intro w hS; have hc := (RC.of hS.rx HIL.out).c38; go_simp⟩) hHeld ?_
      try simp only [Act.put, List.setIfInBounds_toArray, List.set_cons_zero, List.set_cons_succ]
      refine wpAnyH_take (i := 7) (oi := { dst := some 41, op := Op.load 27 (Operand.tmp 40), type := 27, pos := "law.go:95", after := #[{ on := 6, ground := Ground.data }], guard := none }) (v := .slice (some ⟨b2, o2, none⟩) r.list.length lc) rfl (by kernel_rfl) (by kernel_rfl) (by kernel_rfl) (fun _ _ _ h => h) (Or.inl ⟨by rfl, by intro w hS; have hc := (RC.of hS.ry HIL.out).c38; go_simp⟩) hHeld ?_
      try simp only [Act.put, List.setIfInBounds_toArray, List.set_cons_zero, List.set_cons_succ]
      refine wpAnyH_take (i := 3) (oi := { dst := some 37, op := Op.indexAddr 27 (Operand.tmp 35) (Operand.tmp 36), type := 0, pos := "law.go:95", after := #[{ on := 1, ground := Ground.data }, { on := 2, ground := Ground.data }], guard := none }) (v := .pointer (some ⟨b1, o1 + k * 33, none⟩)) rfl (by kernel_rfl) (by kernel_rfl) (by kernel_rfl) (fun _ _ _ h => h) (Or.inl ⟨by rfl, by intro w hS; go_simp⟩) hHeld ?_
      try simp only [Act.put, List.setIfInBounds_toArray, List.set_cons_zero, List.set_cons_succ]
      refine wpAnyH_take (i := 9) (oi := { dst := some 43, op := Op.indexAddr 27 (Operand.tmp 41) (Operand.tmp 42), type := 0, pos := "law.go:95", after := #[{ on := 7, ground := Ground.data }, { on := 8, ground := Ground.data }], guard := none }) (v := .pointer (some ⟨b2, o2 + k * 33, none⟩)) rfl (by kernel_rfl) (by kernel_rfl) (by kernel_rfl) (fun _ _ _ h => h) (Or.inl ⟨by rfl, by intro w hS; go_simp⟩) hHeld ?_
      try simp only [Act.put, List.setIfInBounds_toArray, List.set_cons_zero, List.set_cons_succ]
      refine wpAnyH_take (i := 4) (oi := { dst := some 38, op := Op.fieldAddr 52 (Operand.tmp 37) 1, type := 0, pos := "law.go:95", after := #[{ on := 3, ground := Ground.data }], guard := none }) (v := .pointer (some ⟨b1, o1 + k * 33 + 32, none⟩)) rfl (by kernel_rfl) (by kernel_rfl) (by kernel_rfl) (fun _ _ _ h => h) (Or.inl ⟨by rfl, by intro w hS; go_simp⟩) hHeld ?_
      try simp only [Act.put, List.setIfInBounds_toArray, List.set_cons_zero, List.set_cons_succ]
      refine wpAnyH_take (i := 10) (oi := { dst := some 44, op := Op.fieldAddr 52 (Operand.tmp 43) 1, type := 0, pos := "law.go:95", after := #[{ on := 9, ground := Ground.data }], guard := none }) (v := .pointer (some ⟨b2, o2 + k * 33 + 32, none⟩)) rfl (by kernel_rfl) (by kernel_rfl) (by kernel_rfl) (fun _ _ _ h => h) (Or.inl ⟨by rfl, by intro w hS; go_simp⟩) hHeld ?_
      try simp only [Act.put, List.setIfInBounds_toArray, List.set_cons_zero, List.set_cons_succ]
      refine wpAnyH_take (i := 5) (oi := { dst := some 39, op := Op.load 22 (Operand.tmp 38), type := 22, pos := "law.go:95", after := #[{ on := 4, ground := Ground.data }], guard := none }) (v := .slice (some ⟨s1, 0, none⟩) x.val.length p1) rfl (by kernel_rfl) (by kernel_rfl) (by kernel_rfl) (fun _ _ _ h => h) (Or.inl ⟨by rfl, by intro w hS; have hc := (el_false (rng_below RG1.out hS.bel HG1.out) HK.out).2; go_simp⟩) hHeld ?_
      try simp only [Act.put, List.setIfInBounds_toArray, List.set_cons_zero, List.set_cons_succ]
      refine wpAnyH_take (i := 11) (oi := { dst := some 45, op := Op.load 22 (Operand.tmp 44), type := 22, pos := "law.go:95", after := #[{ on := 10, ground := Ground.data }], guard := none }) (v := .slice s2 x.val.length p2) rfl (by kernel_rfl) (by kernel_rfl) (by kernel_rfl) (fun _ _ _ h => h) (Or.inl ⟨by rfl, by intro w hS; have hc := (el_false (rng_below RG2.out hS.bel HG2.out) HK.out).2; go_simp⟩) hHeld ?_
      try simp only [Act.put, List.setIfInBounds_toArray, List.set_cons_zero, List.set_cons_succ]
      refine wpAnyH_ready (rs := [12]) (by kernel_rfl) (by simp) ?_
      refine (AllReadyH.cons (o := { dst := some 46, op := Op.call { callee := Callee.value (Operand.func 11), args := #[Operand.tmp 39, Operand.tmp 45], argTypes := #[22, 22] }, type := 4, pos := "law.go:95", after := #[{ on := 5, ground := Ground.data }, { on := 11, ground := Ground.data }], guard := none }) rfl (fun K hK => ?_) AllReadyH.nil)
      go_simp
      go_at_call 11
      refine (untouched_yes _ x.val HY.out s1 p1 (RM.below hHeld.bel (Nat.le_refl _)) s2 p2 (Sv.below hHeld.bel (Nat.le_refl _))).mono ?_
      rintro e w4 ⟨rfl, hb4⟩
      have D4 := hHeld.call hb4
      go_wp2_with fail
      refine hK.out _ _ (D4) (fun hHeld2 => ?_)
      clear hK K hHeld
      have hHeld := hHeld2
      clear hHeld2
      try simp only [Act.put, List.setIfInBounds_toArray, List.set_cons_zero, List.set_cons_succ]
      refine wpAnyH_take (i := 13) (oi := { dst := some 47, op := Op.unOp UnOp.not 4 (Operand.tmp 46), type := 4, pos := "law.go:95", after := #[{ on := 12, ground := Ground.data }], guard := none }) (v := .bool false) rfl (by kernel_rfl) (by kernel_rfl) (by kernel_rfl) (fun _ _ _ h => h) (Or.inl ⟨by rfl, by intro w hS; go_simp⟩) hHeld ?_
      try simp only [Act.put, List.setIfInBounds_toArray, List.set_cons_zero, List.set_cons_succ]
      refine wpAnyH_done (by kernel_rfl) ?_ _
      refine NoPanic.normal ?_
      skip
      go_wp2
      go_roundw
      case rel => exact ⟨k + 1, by omega, by go_num, hHeld⟩
      case measure => simp [intOf]; omega
    · obtain rfl : k = r.list.length := by omega
      clear hlt'
      have xc := (RC.of D.ry HIL.out).c38
      have D1 := D
      clear D
      go_wp2
      clear xc
      go_loopw [6] (fun i wr => ∃ (k : Nat), k ≤ r.chs.length ∧ i = .int .i64 k ∧ SP w wr (rpV r (some ⟨kv, 0, none⟩) (some ⟨kr, 0, none⟩) ls1 cs1 kvc krc lc1 cc1) (rpV r vs rs ls cs vc rc lc cc)) (fun i _ => r.chs.length - (intOf i).toNat)
      case atStart => exact ⟨0, Nat.zero_le _, rfl, D1⟩
      case round =>
        clear D1
        obtain ⟨k, hk, rfl, D⟩ := hrel
        by_cases hlt' : k < r.chs.length
        · skip
          have i1 : (k : Int) < (r.chs.length : Int) := by omega
          obtain ⟨hl1, hbl1⟩ := hA2 (by omega)
          obtain ⟨hl2, hbl2⟩ := hC2 (by omega)
          subst hl1
          subst hl2
          obtain ⟨s1, p1, rg1, kl, RM⟩ := eA2 k hlt'
          obtain ⟨s2, p2, rg2, _, Sv, _⟩ := eC2 k hlt'
          change w.rangeAt b3 (o3 + k * 34) _ at rg1
          change w.rangeAt b4 (o4 + k * 34) _ at rg2
          have HY := hid (hY.chs k hlt')
          have HD0 := hid D.drew
          have RG1 := hid rg1
          have RG2 := hid rg2
          have HG1 := hid hbl1
          have HG2 := hid hbl2
          have HK := hid kl
          generalize hxe : r.chs.getD k dX = x at *
          replace hxe := hid hxe
          have cx := (RC.of D.ry HIL.out).c39
          clear rg1 rg2 hbl1 hbl2 kl D
          go_wp2
          refine wp_region_noPanic ?_
          refine wp_region_held_drew (S := (fun w' => SP w w' (rpV r (some ⟨kv, 0, none⟩) (some ⟨kr, 0, none⟩) ls1 (some ⟨b3, o3, none⟩) kvc krc lc1 cc1) (rpV r vs rs ls (some ⟨b4, o4, none⟩) vc rc lc cc))) (by kernel_rfl) HD0.out (fun hHeld => ?_)
          refine wpAnyH_take (i := 0) (oi := { dst := some 55, op := Op.fieldAddr 32 (Operand.tmp 2) 8, type := 0, pos := "law.go:100", after := #[], guard := none }) (v := .pointer (some ⟨w.heap.size, 39, none⟩)) rfl (by kernel_rfl) (by kernel_rfl) (by kernel_rfl) (fun _ _ _ h => h) (Or.inl ⟨by rfl, by intro w hS; go_simp⟩) hHeld ?_
          try simp only [Act.put, List.setIfInBounds_toArray, List.set_cons_zero, List.set_cons_succ]
          refine wpAnyH_take (i := 2) (oi := { dst := some 57, op := Op.move (Operand.tmp 6), type := 3, pos := "law.go:100", after := #[], guard := none }) (v := .int .i64 k) rfl (by kernel_rfl) (by kernel_rfl) (by kernel_rfl) (fun _ _ _ h => h) (Or.inl ⟨by rfl, by intro w hS; go_simp⟩) hHeld ?_
          try simp only [Act.put, List.setIfInBounds_toArray, List.set_cons_zero, List.set_cons_succ]
          refine wpAnyH_take (i := 6) (oi := { dst := some 61, op := Op.fieldAddr 32 (Operand.tmp 3) 8, type := 0, pos := "law.go:100", after := #[], guard := none }) (v := .pointer (some ⟨(w.heap.size + 1), 39, none⟩)) rfl (by kernel_rfl) (by kernel_rfl) (by kernel_rfl) (fun _ _ _ h => h) (Or.inl ⟨by rfl, by intro w hS; go_simp⟩) hHeld ?_
          try simp only [Act.put, List.setIfInBounds_toArray, List.set_cons_zero, List.set_cons_succ]
          refine wpAnyH_take (i := 8) (oi := { dst := some 63, op := Op.move (Operand.tmp 6), type := 3, pos := "law.go:100", after := #[], guard := none }) (v := .int .i64 k) rfl (by kernel_rfl) (by kernel_rfl) (by kernel_rfl) (fun _ _ _ h => h) (Or.inl ⟨by rfl, by intro w hS; go_simp⟩) hHeld ?_
          try simp only [Act.put, List.setIfInBounds_toArray, List.set_cons_zero, List.set_cons_succ]
          refine wpAnyH_take (i := 1) (oi := { dst := some 56, op := Op.load 28 (Operand.tmp 55), type := 28, pos := "law.go:100", after := #[{ on := 0, ground := Ground.data }], guard := none }) (v := .slice (some ⟨b3, o3, none⟩) r.chs.length cc1) rfl (by kernel_rfl) (by kernel_rfl) (by kernel_rfl) (fun _ _ _ h => h) (Or.inl ⟨by rfl, by intro w hS; have hc := (RC.of hS.rx HIL.out).c39; go_simp⟩) hHeld ?_
          try simp only [Act.put, List.setIfInBounds_toArray, List.set_cons_zero, List.set_cons_succ]
          refine wpAnyH_take (i := 7) (oi := { dst := some 62, op := Op.load 28 (Operand.tmp 61), type := 28, pos := "law.go:100", after := #[{ on := 6, ground := Ground.data }], guard := none }) (v := .slice (some ⟨b4, o4, none⟩) r.chs.length cc) rfl (by kernel_rfl) (by kernel_rfl) (by kernel_rfl) (fun _ _ _ h => h) (Or.inl ⟨by rfl, by intro w hS; have hc := (RC.of hS.ry HIL.out).c39; go_simp⟩) hHeld ?_
          try simp only [Act.put, List.setIfInBounds_toArray, List.set_cons_zero, List.set_cons_succ]
          refine wpAnyH_take (i := 3) (oi := { dst := some 58, op := Op.indexAddr 28 (Operand.tmp 56) (Operand.tmp 57), type := 0, pos := "law.go:100", after := #[{ on := 1, ground := Ground.data }, { on := 2, ground := Ground.data }], guard := none }) (v := .pointer (some ⟨b3, o3 + k * 34, none⟩)) rfl (by kernel_rfl) (by kernel_rfl) (by kernel_rfl) (fun _ _ _ h => h) (Or.inl ⟨by rfl, by intro w hS; go_simp⟩) hHeld ?_
          try simp only [Act.put, List.setIfInBounds_toArray, List.set_cons_zero, List.set_cons_succ]
          refine wpAnyH_take (i := 9) (oi := { dst := some 64, op := Op.indexAddr 28 (Operand.tmp 62) (Operand.tmp 63), type := 0, pos := "law.go:100", after := #[{ on := 7, ground := Ground.data }, { on := 8, ground := Ground.data }], guard := none }) (v := .pointer (some ⟨b4, o4 + k * 34, none⟩)) rfl (by kernel_rfl) (by kernel_rfl) (by kernel_rfl) (fun _ _ _ h => h) (Or.inl ⟨by rfl, by intro w hS; go_simp⟩) hHeld ?_
          try simp only [Act.put, List.setIfInBounds_toArray, List.set_cons_zero, List.set_cons_succ]
          refine wpAnyH_take (i := 4) (oi := { dst := some 59, op := Op.fieldAddr 54 (Operand.tmp 58) 2, type := 0, pos := "law.go:100", after := #[{ on := 3, ground := Ground.data }], guard := none }) (v := .pointer (some ⟨b3, o3 + k * 34 + 33, none⟩)) rfl (by kernel_rfl) (by kernel_rfl) (by kernel_rfl) (fun _ _ _ h => h) (Or.inl ⟨by rfl, by intro w hS; go_simp⟩) hHeld ?_
          try simp only [Act.put, List.setIfInBounds_toArray, List.set_cons_zero, List.set_cons_succ]
          refine wpAnyH_take (i := 10) (oi := { dst := some 65, op := Op.fieldAddr 54 (Operand.tmp 64) 2, type := 0, pos := "law.go:100", after := #[{ on := 9, ground := Ground.data }], guard := none }) (v := .pointer (some ⟨b4, o4 + k * 34 + 33, none⟩)) rfl (by kernel_rfl) (by kernel_rfl) (by kernel_rfl) (fun _ _ _ h => h) (Or.inl ⟨by rfl, by intro w hS; go_simp⟩) hHeld ?_
          try simp only [Act.put, List.setIfInBounds_toArray, List.set_cons_zero, List.set_cons_succ]
          refine wpAnyH_take (i := 5) (oi := { dst := some 60, op := Op.load 22 (Operand.tmp 59), type := 22, pos := "law.go:100", after := #[{ on := 4, ground := Ground.data }], guard := none }) (v := .slice (some ⟨s1, 0, none⟩) x.val.length p1) rfl (by kernel_rfl) (by kernel_rfl) (by kernel_rfl) (fun _ _ _ h => h) (Or.inl ⟨by rfl, by intro w hS; have hc := (el_true (rng_below RG1.out hS.bel HG1.out) HK.out).2.1; go_simp⟩) hHeld ?_
          try simp only [Act.put, List.setIfInBounds_toArray, List.set_cons_zero, List.set_cons_succ]
          refine wpAnyH_take (i := 11) (oi := { dst := some 66, op := Op.load 22 (Operand.tmp 65), type := 22, pos := "law.go:100", after := #[{ on := 10, ground := Ground.data }], guard := none }) (v := .slice s2 x.val.length p2) rfl (by kernel_rfl) (by kernel_rfl) (by kernel_rfl) (fun _ _ _ h => h) (Or.inl ⟨by rfl, by intro w hS; have hc := (el_true (rng_below RG2.out hS.bel HG2.out) HK.out).2.1; go_simp⟩) hHeld ?_
          try simp only [Act.put, List.setIfInBounds_toArray, List.set_cons_zero, List.set_cons_succ]
          refine wpAnyH_ready (rs := [12]) (by kernel_rfl) (by simp) ?_
          refine (AllReadyH.cons (o := { dst := some 67, op := Op.call { callee := Callee.value (Operand.func 11), args := #[Operand.tmp 60, Operand.tmp 66], argTypes := #[22, 22] }, type := 4, pos := "law.go:100", after := #[{ on := 5, ground := Ground.data }, { on := 11, ground := Ground.data }], guard := none }) rfl (fun K hK => ?_) AllReadyH.nil)
          go_simp
          go_at_call 11
          refine (untouched_yes _ x.val HY.out s1 p1 (RM.below hHeld.bel (Nat.le_refl _)) s2 p2 (Sv.below hHeld.bel (Nat.le_refl _))).mono ?_
          rintro e w4 ⟨rfl, hb4⟩
          have D4 := hHeld.call hb4
          go_wp2_with fail
          refine hK.out _ _ (D4) (fun hHeld2 => ?_)
          clear hK K hHeld
          have hHeld := hHeld2
          clear hHeld2
          try simp only [Act.put, List.setIfInBounds_toArray, List.set_cons_zero, List.set_cons_succ]
          refine wpAnyH_take (i := 13) (oi := { dst := some 68, op := Op.unOp UnOp.not 4 (Operand.tmp 67), type := 4, pos := "law.go:100", after := #[{ on := 12, ground := Ground.data }], guard := none }) (v := .bool false) rfl (by kernel_rfl) (by kernel_rfl) (by kernel_rfl) (fun _ _ _ h => h) (Or.inl ⟨by rfl, by intro w hS; go_simp⟩) hHeld ?_
          try simp only [Act.put, List.setIfInBounds_toArray, List.set_cons_zero, List.set_cons_succ]
          refine wpAnyH_done (by kernel_rfl) ?_ _
          refine NoPanic.normal ?_
          skip
          go_wp2
          go_roundw
          case rel => exact ⟨k + 1, by omega, by go_num, hHeld⟩
          case measure => simp [intOf]; omega
        · obtain rfl : k = r.chs.length := by omega
          clear hlt'
          have xc := (RC.of D.ry HIL.out).c39
          go_wp2
          go_ret
          exact ⟨rfl, D.bel⟩
end Go.Proofs.Ytenfklcgkfaajaa
