import Derived.Test.YtaoongjdneaccaaDoorBo5
namespace Go.Proofs.YtaoongjdneaccaaDoor
set_option linter.unusedVariables false
set_option linter.unusedSimpArgs false
open Go.RowKit
attribute [local go_sem ↓] Go.wp_at_zero Go.wp_at_succ

theorem size_try : (Tryd.prog.info? 33).map (·.size) = some 10 := by kernel_rfl
def tri0 : Tri := ⟨0, 0, 0, [], [], sup0⟩
/-- A script that came in. -/
def TrS (w : World) (sp : Option Addr) (ts : List Tri) : Prop := ∃ b o, (0 < ts.length → b < w.heap.size ∧ sp = some ⟨b, o, none⟩) ∧ ∀ r, r < ts.length → ∃ sa ca sb cb,
  w.rangeAt b (o + r * 10) (triL (ts.getD r tri0).ca (ts.getD r tri0).ki (ts.getD r tri0).pg (.slice sa (ts.getD r tri0).a.length ca) (.slice sb (ts.getD r tri0).b.length cb) (ts.getD r tri0).s) ∧
  Src w sa ca (ts.getD r tri0).a ∧ Src w sb cb (ts.getD r tri0).b ∧ Byts (ts.getD r tri0).a ∧ Byts (ts.getD r tri0).b ∧ (ts.getD r tri0).a.length ≤ 140737488352000 ∧ (ts.getD r tri0).b.length ≤ 140737488352000
theorem own_one {w : World} {base : Nat} {v : Value} {zs : List Int} (h : Own w base v zs) : v.oneCell' = true := by
  obtain ⟨_, _, rfl, _⟩ := h.form; rfl
theorem KSt.to_u {w wr : World} {B n m N : Nat} {v1 v2 v3 v4 va vw : Value} {L1 L2 L3 L4 LA LW : List Value} {ns : List Nat} (h : KSt w wr B n m v1 v2 v3 v4 va vw L1 L2 L3 L4 LA LW ns) (hN : N = 2 * n) : KSu w wr B 0 N m v1 v2 v3 v4 va L1 L2 L3 L4 LA ns := by
  subst hN
  exact ⟨h.bk, by have := h.ln; omega, h.bd, h.oa, h.la, h.e1, h.e2, h.e3, h.e4, fun j _ hj => by
    obtain ⟨zs, a, _, c⟩ := h.cs j hj
    exact ⟨zs, a, c⟩, h.di, fun j _ hj => h.of j hj, h.bl⟩
set_option maxRecDepth 100000 in
set_option maxHeartbeats 8000000 in
theorem kept_walk (w : World) (hG : Gl w) (ts : List Tri) (sp : Option Addr) (cap : Nat) (hT : TrS w sp ts) (hcap : ts.length ≤ cap) (hcapm : cap ≤ maxLen) (hN : ts.length ≤ 1300000000000) :
    Calls Tryd.prog 3 #[.slice sp ts.length cap] w fun e w' => e = .returned (.bool true) ∧ Below w.heap.size w w' := by
  unfold maxLen at hcapm
  have i0 : (ts.length : Int) ≤ 1300000000000 := by omega
  obtain ⟨b, o, hsp, hrow⟩ := hT
  replace hsp := hid hsp
  replace hrow := hid hrow
  go_enter Tryd.func3, Tryd.ntmps3
  go_wp2_with fail
  refine (known_any w).mono ?_
  rintro e w1 ⟨rfl, b1⟩
  go_wp2_with fail
  refine (knownSuper_any w1).mono ?_
  rintro e w2 ⟨rfl, b2⟩
  have B2 := b1.trans (b2.mono b1.size)
  clear b1 b2
  have hB0 := hnew w2 (Obj.cells #[Value.slice none 0 0, Value.slice none 0 0, Value.slice none 0 0, Value.slice none 0 0] 27)
  have B3 := B2.alloc B2.size (Obj.cells #[Value.slice none 0 0, Value.slice none 0 0, Value.slice none 0 0, Value.slice none 0 0] 27)
  have hBsz := B2.size
  have K0 : KSt w (w2.alloc (Obj.cells #[Value.slice none 0 0, Value.slice none 0 0, Value.slice none 0 0, Value.slice none 0 0] 27)) w2.heap.size 0 0 (.slice none 0 0) (.slice none 0 0) (.slice none 0 0) (.slice none 0 0) (.slice none 0 0) (.slice none 0 0) [] [] [] [] [] [] [] :=
    ⟨⟨hBsz, hB0, OwnS.nil _ _, OwnS.nil _ _, OwnS.nil _ _, OwnS.nil _ _, Dj.nil _, Dj.nil _, Dj.nil _, Dj.nil _, Dj.nil _, Dj.nil _, ⟨rfl, rfl, rfl, rfl, fun i hi => by simp at hi⟩⟩, by simp, fun i => by simp, OwnS.nil _ _, rfl, OwnS.nil _ _, rfl, Dj.nil _, Dj.nil _, Dj.nil _, Dj.nil _, Dj.nil _, Dj.nil _, Dj.nil _, Dj.nil _, Dj.nil _, fun j hj => by omega, fun i j _ hj => by omega, fun j hj => by omega, B3⟩
  go_wp2
  generalize w2.heap.size = B at *
  generalize w2.alloc (Obj.cells #[Value.slice none 0 0, Value.slice none 0 0, Value.slice none 0 0, Value.slice none 0 0] 27) = w3 at *
  clear hB0 B3 hBsz B2
  go_loopw [4, 5, 6] (fun va vw i wr => ∃ (n : Nat) (v1 v2 v3 v4 : Value) (L1 L2 L3 L4 LA LW : List Value) (ns : List Nat), n ≤ ts.length ∧ i = .int .i64 n ∧ KSt w wr B n n v1 v2 v3 v4 va vw L1 L2 L3 L4 LA LW ns) (fun _ _ i _ => ts.length - (intOf i).toNat)
  case atStart => exact ⟨0, _, _, _, _, _, _, _, _, _, _, _, by omega, rfl, K0⟩
  case round =>
    clear K0
    obtain ⟨n, v1, v2, v3, v4, L1, L2, L3, L4, LA, LW, ns, hn, rfl, hK⟩ := hrel
    have hBl := hK.bl
    by_cases hnl : n < ts.length
    · have i1 : (n : Int) < (ts.length : Int) := by omega
      obtain ⟨hbl, rfl⟩ := hsp.out (by omega)
      obtain ⟨sa, ca, sb, cb, rg, hA, hB, a8, b8, la, lb⟩ := hrow.out n hnl
      generalize ts.getD n tri0 = tt at *
      obtain ⟨ca0, ki, pg, a, bb, s⟩ := tt
      simp only at rg hA hB a8 b8 la lb
      have KT := hid (show (Tryd.prog.info? 33).map (·.size) = some (triL ca0 ki pg (.slice sa a.length ca) (.slice sb bb.length cb) s).length by rw [size_try]; rfl)
      have KR := hid (fun (wz : World) (hz : Below w.heap.size w wz) => show wz.rangeAt b (o + n * 10) (triL ca0 ki pg (.slice sa a.length ca) (.slice sb bb.length cb) s) from fun j v hv => (hz.cell (p := ⟨b, o + n * 10 + j, none⟩) hbl).trans (rg j v hv))
      have rg1 := KR.out _ hBl
      have hln := hK.ln
      clear rg
      go_wp2_with (first | (refine wpList_load_mid_w (by rfl) 33 (.tmp 30) (by rfl) b (o + n * 10) (by rfl) (triL ca0 ki pg (.slice sa a.length ca) (.slice sb bb.length cb) s) _ (by exact rg1) Tryd.underlying33 rfl KT.out ?_))
      refine (plays_any wr (hG.below hBl hG.1) w.heap.size B hBl.size v1 v2 v3 v4 L1 L2 L3 L4 ns hK.bk (by omega) ca0 ki pg a bb a8 b8 s sa sb ca cb (hA.below hBl (Nat.le_refl _)) (hB.below hBl (Nat.le_refl _)) la lb).mono ?_
      rintro e w1 ⟨rfl, p1⟩
      obtain ⟨v1', v2', v3', v4', L1', L2', L3', L4', ns', K1⟩ := hK.play p1
      have hln1 := K1.ln
      clear p1 hK rg1
      go_wp2_with fail
      refine (held_any w1 _ B _ _ _ _ _ _ _ _ _ K1.bk (by omega) K1.bd).mono ?_
      rintro e w2 ⟨rfl, b2⟩
      have K2 := K1.below b2
      have rg2 := KR.out _ K2.bl
      clear K1 b2
      go_wp2_with (first | (refine wpList_load_mid_w (by rfl) 33 (.tmp 44) (by rfl) b (o + n * 10) (by rfl) (triL ca0 ki pg (.slice sa a.length ca) (.slice sb bb.length cb) s) _ (by exact rg2) Tryd.underlying33 rfl KT.out ?_))
      refine (again_any w2 (hG.below K2.bl hG.1) ca0 ki pg a a8 s sa ca (hA.below K2.bl (Nat.le_refl _)) la _).mono ?_
      rintro e w3 ⟨l, mm, rfl, ol, om, b3⟩
      obtain ⟨sl, cl, rfl, _, _⟩ := ol.form
      obtain ⟨sm, cm, rfl, _, _⟩ := om.form
      have K3 := K2.below b3
      have rg3 := KR.out _ K3.bl
      clear rg2
      go_wp2_with (first | (refine wpList_load_mid_w (by rfl) 33 (.tmp 52) (by rfl) b (o + n * 10) (by rfl) (triL ca0 ki pg (.slice sa a.length ca) (.slice sb bb.length cb) s) _ (by exact rg3) Tryd.underlying33 rfl KT.out ?_))
      refine (again_any w3 (hG.below K3.bl hG.1) ca0 ki pg a a8 s sa ca (hA.below K3.bl (Nat.le_refl _)) la _).mono ?_
      rintro e w4 ⟨kk, m2, rfl, ok, o2, b4⟩
      obtain ⟨sk, ck, rfl, _, _⟩ := ok.form
      obtain ⟨s2, c2, rfl, _, _⟩ := o2.form
      have b24 := b3.trans (b4.mono b3.size)
      have K4 := K2.below b24
      have OL := ol.below b4 (Nat.le_refl _)
      have OM := om.below b4 (Nat.le_refl _)
      have OK := own_up ok b3.size
      have hd : ∀ q, (Value.slice sl (ansL ca0 ki pg a s).length cl).ownBlock = some q → (Value.slice sk (ansL ca0 ki pg a s).length ck).ownBlock ≠ some q := fun q e1 e2 => by have := (ol.block q e1).2; have := (ok.block q e2).1; omega
      have hz := ansL_len ca0 ki pg a s
      generalize ansL ca0 ki pg a s = zs at *
      have oa4 := K4.oa
      have HK4 := hid K4
      have HSZ := hid K4.bl.size
      have KX := hid (And.intro (own_one OL) (And.intro (own_one OK) (own_one OM)))
      have KL1 := hid (show LA.length + [Value.slice sl zs.length cl, Value.slice sk zs.length ck].length ≤ 5000000000000 by rw [K4.la]; simp; omega)
      have KL2 := hid (show LW.length + [Value.slice sm zs.length cm, Value.slice sm zs.length cm].length ≤ 5000000000000 by rw [K4.lw]; simp; omega)
      clear ol om ok o2 rg3 K3 b3 b4 K4
      go_wp2_with (first
        | (at_builtin; refine wpList_pushS rfl (.tmp 57) (.tmp 60) rfl w.heap.size _ _ [Value.slice sl zs.length cl, Value.slice sk zs.length ck] rfl oa4 rfl (by intro y hy; simp only [List.mem_cons, List.not_mem_nil, or_false] at hy; rcases hy with rfl | rfl; exact KX.out.1; exact KX.out.2.1) KL1.out HSZ.out _ _ ?_; intro va' w9 q1 q2 q3 q4; have ow9 := ownS_other HK4.out.ow HK4.out.ew q3; have HS9 := hid (Nat.le_trans HSZ.out q2.size))
        | (at_builtin; refine wpList_pushS rfl (.tmp 62) (.tmp 65) rfl w.heap.size _ _ [Value.slice sm zs.length cm, Value.slice sm zs.length cm] rfl ow9 rfl (by intro y hy; simp only [List.mem_cons, List.not_mem_nil, or_false] at hy; rcases hy with rfl | rfl <;> exact KX.out.2.2) KL2.out HS9.out _ _ ?_; intro vw' w10 r1 r2 r3 r4))
      have K10 := K2.grow b24 OL OK OM hd hz q1 q2 q3 q4 r1 r2 r3 r4
      clear q1 q2 q3 q4 r1 r2 r3 r4 OL OK OM HK4 K2 oa4 ow9
      go_roundw
      case rel => exact ⟨n + 1, _, _, _, _, _, _, _, _, _, _, _, by omega, by go_num, K10⟩
      case measure => simp [intOf]; omega
    · obtain rfl : n = ts.length := by omega
      clear hnl
      obtain ⟨s5, c5, ba, hva, a1, a2, a3, a4⟩ := hK.oa.at
      obtain ⟨s6, c6, bw, hvw, g1, g2, g3, g4⟩ := hK.ow.at
      rw [hK.la] at hva a1 a3 a4
      rw [hK.lw] at hvw g1 g3 g4
      subst hva hvw
      unfold maxLen at a2 g2
      generalize hN2 : 2 * ts.length = N2 at *
      have HN2 := hid hN2
      clear hN2
      have j0 : (N2 : Int) ≤ 2600000000000 := by have := HN2.out; omega
      obtain ⟨wF, rfl⟩ : ∃ wF, wF = wr := ⟨wr, rfl⟩
      have HK := hid hK
      have Bsz := hBl.size
      clear hK
      replace a4 := hid a4
      replace g4 := hid g4
      replace a3 := hid a3
      replace g3 := hid g3
      go_wp2
      go_loopw [12] (fun i wr => ∃ m : Nat, m ≤ N2 ∧ i = .int .i64 m ∧ Below wF.heap.size wF wr) (fun i _ => N2 - (intOf i).toNat)
      case atStart => exact ⟨0, by omega, rfl, Below.refl _ _⟩
      case round =>
        obtain ⟨m, hm, rfl, hC⟩ := hrel
        by_cases hml : m < N2
        · have i1 : (m : Int) < (N2 : Int) := by omega
          obtain rfl := a3.out (by omega)
          obtain rfl := g3.out (by omega)
          obtain ⟨zs, z1, z2, _⟩ := HK.out.cs m (by have := HN2.out; omega)
          have y1 : wr.cell? ⟨ba, m, none⟩ = some (LA.getD m undef) := (hC.cell (p := ⟨ba, m, none⟩) (block_lt_of_cell (a4.out m hml))).trans (a4.out m hml)
          have y2 : wr.cell? ⟨bw, m, none⟩ = some (LW.getD m undef) := (hC.cell (p := ⟨bw, m, none⟩) (block_lt_of_cell (g4.out m hml))).trans (g4.out m hml)
          obtain ⟨p1, y1c, e1, Z1, _⟩ := (z1.below hC (Nat.le_refl _)).form
          obtain ⟨p2, y2c, e2, Z2, _⟩ := (z2.below hC (Nat.le_refl _)).form
          rw [e1] at y1
          rw [e2] at y2
          have Y1 := hid y1
          have Y2 := hid y2
          have HB1 := hid (block_lt_of_cell y1)
          have HB2 := hid (block_lt_of_cell y2)
          clear e1 e2 z1 z2 y1 y2
          go_wp2_with fail
          refine wp_region_noPanic ?_
          refine wp_region_held_drew (S := fun w' => Below wr.heap.size wr w') (by kernel_rfl) (Below.refl _ _).drew (fun hHeld => ?_)
          refine wpAnyH_take (i := 0) (oi := { dst := some 73, op := Op.move (Operand.tmp 4), type := 25, pos := "law.go:614", after := #[], guard := none }) (v := .slice (some ⟨ba, 0, none⟩) N2 c5) rfl (by kernel_rfl) (by kernel_rfl) (by kernel_rfl) (fun _ _ _ h => h) (Or.inl ⟨by rfl, by intro w hS; go_simp⟩) hHeld ?_
          try simp only [Act.put, List.setIfInBounds_toArray, List.set_cons_zero, List.set_cons_succ]
          refine wpAnyH_take (i := 1) (oi := { dst := some 74, op := Op.move (Operand.tmp 12), type := 3, pos := "law.go:614", after := #[], guard := none }) (v := .int .i64 m) rfl (by kernel_rfl) (by kernel_rfl) (by kernel_rfl) (fun _ _ _ h => h) (Or.inl ⟨by rfl, by intro w hS; go_simp⟩) hHeld ?_
          try simp only [Act.put, List.setIfInBounds_toArray, List.set_cons_zero, List.set_cons_succ]
          refine wpAnyH_take (i := 4) (oi := { dst := some 77, op := Op.move (Operand.tmp 5), type := 25, pos := "law.go:614", after := #[], guard := none }) (v := .slice (some ⟨bw, 0, none⟩) N2 c6) rfl (by kernel_rfl) (by kernel_rfl) (by kernel_rfl) (fun _ _ _ h => h) (Or.inl ⟨by rfl, by intro w hS; go_simp⟩) hHeld ?_
          try simp only [Act.put, List.setIfInBounds_toArray, List.set_cons_zero, List.set_cons_succ]
          refine wpAnyH_take (i := 5) (oi := { dst := some 78, op := Op.move (Operand.tmp 12), type := 3, pos := "law.go:614", after := #[], guard := none }) (v := .int .i64 m) rfl (by kernel_rfl) (by kernel_rfl) (by kernel_rfl) (fun _ _ _ h => h) (Or.inl ⟨by rfl, by intro w hS; go_simp⟩) hHeld ?_
          try simp only [Act.put, List.setIfInBounds_toArray, List.set_cons_zero, List.set_cons_succ]
          refine wpAnyH_take (i := 2) (oi := { dst := some 75, op := Op.indexAddr 25 (Operand.tmp 73) (Operand.tmp 74), type := 0, pos := "law.go:614", after := #[{ on := 0, ground := Ground.data }, { on := 1, ground := Ground.data }], guard := none }) (v := .pointer (some ⟨ba, 0 + m, none⟩)) rfl (by kernel_rfl) (by kernel_rfl) (by kernel_rfl) (fun _ _ _ h => h) (Or.inl ⟨by rfl, by intro w hS; go_simp⟩) hHeld ?_
          try simp only [Act.put, List.setIfInBounds_toArray, List.set_cons_zero, List.set_cons_succ]
          refine wpAnyH_take (i := 6) (oi := { dst := some 79, op := Op.indexAddr 25 (Operand.tmp 77) (Operand.tmp 78), type := 0, pos := "law.go:614", after := #[{ on := 4, ground := Ground.data }, { on := 5, ground := Ground.data }], guard := none }) (v := .pointer (some ⟨bw, 0 + m, none⟩)) rfl (by kernel_rfl) (by kernel_rfl) (by kernel_rfl) (fun _ _ _ h => h) (Or.inl ⟨by rfl, by intro w hS; go_simp⟩) hHeld ?_
          try simp only [Act.put, List.setIfInBounds_toArray, List.set_cons_zero, List.set_cons_succ]
          refine wpAnyH_take (i := 3) (oi := { dst := some 76, op := Op.load 29 (Operand.tmp 75), type := 29, pos := "law.go:614", after := #[{ on := 2, ground := Ground.data }], guard := none }) (v := .slice p1 zs.length y1c) rfl (by kernel_rfl) (by kernel_rfl) (by kernel_rfl) (fun _ _ _ h => h) (Or.inl ⟨by rfl, by intro w hS; have hc := hS.cell (p := ⟨ba, m, none⟩) HB1.out |>.trans Y1.out; go_simp⟩) hHeld ?_
          try simp only [Act.put, List.setIfInBounds_toArray, List.set_cons_zero, List.set_cons_succ]
          refine wpAnyH_take (i := 7) (oi := { dst := some 80, op := Op.load 29 (Operand.tmp 79), type := 29, pos := "law.go:614", after := #[{ on := 6, ground := Ground.data }], guard := none }) (v := .slice p2 zs.length y2c) rfl (by kernel_rfl) (by kernel_rfl) (by kernel_rfl) (fun _ _ _ h => h) (Or.inl ⟨by rfl, by intro w hS; have hc := hS.cell (p := ⟨bw, m, none⟩) HB2.out |>.trans Y2.out; go_simp⟩) hHeld ?_
          try simp only [Act.put, List.setIfInBounds_toArray, List.set_cons_zero, List.set_cons_succ]
          refine wpAnyH_ready (rs := [8]) (by kernel_rfl) (by simp) ?_
          refine (AllReadyH.cons (o := { dst := some 81, op := Op.call { callee := Callee.value (Operand.func 9), args := #[Operand.tmp 76, Operand.tmp 80], argTypes := #[29, 29] }, type := 4, pos := "law.go:614", after := #[{ on := 3, ground := Ground.data }, { on := 7, ground := Ground.data }], guard := none }) rfl (fun K hK => ?_) AllReadyH.nil)
          go_simp
          go_at_call 9
          refine (same_any _ zs zs _ _ _ _ (Z1.below hHeld (Nat.le_refl _)) (Z2.below hHeld (Nat.le_refl _))).mono ?_
          rintro e w4 ⟨rfl, hb8⟩
          rw [show decide (zs = zs) = true by simp]
          go_wp2_with fail
          refine hK.out _ _ (hHeld.trans (hb8.mono hHeld.size)) (fun hHeld2 => ?_)
          clear hK K hHeld
          have hHeld := hHeld2
          clear hHeld2
          clear hb8
          try simp only [Act.put, List.setIfInBounds_toArray, List.set_cons_zero, List.set_cons_succ]
          refine wpAnyH_take (i := 9) (oi := { dst := some 82, op := Op.unOp UnOp.not 4 (Operand.tmp 81), type := 4, pos := "law.go:614", after := #[{ on := 8, ground := Ground.data }], guard := none }) (v := .bool false) rfl (by kernel_rfl) (by kernel_rfl) (by kernel_rfl) (fun _ _ _ h => h) (Or.inl ⟨by rfl, by intro w hS; go_simp⟩) hHeld ?_
          try simp only [Act.put, List.setIfInBounds_toArray, List.set_cons_zero, List.set_cons_succ]
          refine wpAnyH_done (by kernel_rfl) ?_ _
          refine NoPanic.normal ?_
          have hf := hHeld
          clear hHeld
          have R5 := hC.trans (hf.mono hC.size)
          go_wp2
          go_roundw
          case rel => exact ⟨m + 1, by omega, by go_num, R5⟩
          case measure => simp [intOf]; omega
        · obtain rfl : m = N2 := by omega
          clear hml
          have K3 := hid ((HK.out.below hC).to_u HN2.out.symm)
          obtain ⟨wG, rfl⟩ : ∃ wG, wG = wr := ⟨wr, rfl⟩
          clear hC hBl
          go_wp2
          go_loopw [13] (fun i wr => ∃ (k : Nat) (v1 v2 v3 v4 : Value) (L1 L2 L3 L4 : List Value) (ns : List Nat), k ≤ m ∧ i = .int .i64 k ∧ KSu w wr B k m ts.length v1 v2 v3 v4 (.slice s5 m c5) L1 L2 L3 L4 LA ns) (fun i _ => m - (intOf i).toNat)
          case atStart => exact ⟨0, _, _, _, _, _, _, _, _, _, by omega, rfl, K3.out⟩
          case round =>
            clear K3
            obtain ⟨k, v1, v2, v3, v4, L1, L2, L3, L4, ns, hkm, rfl, hU⟩ := hrel
            have hln := hU.ln
            have hbw := hU.bl
            have hm2 := HN2.out
            by_cases hkl : k < m
            · have i1 : (k : Int) < (m : Int) := by omega
              obtain ⟨s7, c7, b7, hv7, _, _, h3, h4⟩ := hU.oa.at
              simp only [Value.slice.injEq] at hv7
              obtain ⟨rfl, hl7, rfl⟩ := hv7
              rw [← hl7] at h3 h4
              obtain rfl := h3 (by omega)
              have y1 := h4 k hkl
              obtain ⟨zs, O, hz⟩ := hU.cs k (Nat.le_refl _) hkl
              have hof := hU.of k (Nat.le_refl _) hkl
              obtain ⟨p1, d1, e1, _, _⟩ := O.form
              rw [e1] at y1 O hof
              have HE := hid e1
              have HU := hid hU
              clear h3 h4 hl7 e1
              go_wp2_with fail
              refine (put_any wr w.heap.size B v1 v2 v3 v4 L1 L2 L3 L4 ns hU.bk (by omega) _ zs.length zs O rfl (by omega) hof).mono ?_
              rintro e w6 ⟨rfl, v1', v2', v3', v4', x2, x3, x4, qb, t2, t3, t4, t5, t6, t7, t8, fr, bl⟩
              rw [← HE.out] at qb t2 t3 t4 fr
              have KU := HU.out.put hkl (by omega) qb t2 t3 t4 t5 t6 t7 t8 fr bl
              clear qb t2 t3 t4 t5 t6 t7 t8 fr bl hU
              go_wp2
              go_roundw
              case rel => exact ⟨k + 1, _, _, _, _, _, _, _, _, _, by omega, by go_num, KU⟩
              case measure => simp [intOf]; omega
            · obtain rfl : k = m := by omega
              clear hkl
              go_wp2_with fail
              refine (known_any wr).mono ?_
              rintro e w5 ⟨rfl, b5⟩
              go_wp2_with fail
              refine (knownSuper_any w5).mono ?_
              rintro e w6 ⟨rfl, b6⟩
              have b56 := b5.trans (b6.mono b5.size)
              have hk6 := hU.bk.below b56
              go_wp2_with fail
              refine (held_any w6 _ B _ _ _ _ _ _ _ _ _ hk6 (by omega) hU.bd).mono ?_
              rintro e w7 ⟨rfl, b7⟩
              have b57 := b56.trans (b7.mono b56.size)
              have Bw7 := hbw.trans (b57.mono hbw.size)
              go_wp2
              go_ret
              exact ⟨rfl, Bw7⟩
end Go.Proofs.YtaoongjdneaccaaDoor
