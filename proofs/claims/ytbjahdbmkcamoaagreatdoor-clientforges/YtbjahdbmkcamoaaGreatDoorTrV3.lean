import Derived.Test.YtbjahdbmkcamoaaGreatDoorNi
namespace Go.Proofs.YtbjahdbmkcamoaaGreatDoor
set_option linter.unusedVariables false
set_option linter.unusedSimpArgs false
open Go.RowKit
attribute [local go_sem ↓] Go.wp_at_zero Go.wp_at_succ

theorem drop_consC (l : List Chg) (i : Nat) (h : i < l.length) : l.drop i = l.getD i dC :: l.drop (i + 1) := by
  rw [List.drop_eq_getElem_cons h, List.getD_eq_getElem?_getD, List.getElem?_eq_getElem h]; rfl
theorem mg_a {e l : Chg} {es ls : List Chg} (h : cmpK e.key l.key ≤ 0) : List.merge (e :: es) (l :: ls) leB = e :: List.merge es (l :: ls) leB := by
  rw [List.merge, if_pos ((leB_iff e l).2 h)]
theorem mg_b {e l : Chg} {es ls : List Chg} (h : ¬ cmpK e.key l.key ≤ 0) : List.merge (e :: es) (l :: ls) leB = l :: List.merge (e :: es) ls leB := by
  rw [List.merge, if_neg (fun q => h ((leB_iff e l).1 q))]
theorem mg_ra (es : List Chg) : List.merge es [] leB = es := by cases es <;> rw [List.merge]; all_goals simp
theorem mg_rb (ls : List Chg) : List.merge [] ls leB = ls := by rw [List.merge]
theorem OwnV.at {w : World} {base : Nat} {ms : List MC} {cs : List Chg} (h : OwnV w base ms cs) (i : Nat) (hi : i < cs.length) : (ms.getD i dM).key = (cs.getD i dC).key ∧ (cs.getD i dC).key.length = 32 ∧ (ms.getD i dM).del = (cs.getD i dC).del ∧ Own w base (ms.getD i dM).sv (cs.getD i dC).val := h.2 i hi
set_option maxRecDepth 100000 in
set_option maxHeartbeats 4000000 in
theorem rmerged_any (w : World) (base : Nat) (hbase : base ≤ w.heap.size) (Es Ls : List Chg) (p1 p2 : Option Addr) (b1 o1 c1 b2 o2 c2 : Nat) (ms1 ms2 : List MC) (h1 : Chs w p1 c1 Es b1 o1 ms1) (v1 : OwnV w base ms1 Es) (h2 : Chs w p2 c2 Ls b2 o2 ms2) (v2 : OwnV w base ms2 Ls)
    (y1 : ∀ c ∈ Es, Byts c.key) (y2 : ∀ c ∈ Ls, Byts c.key) (hlen : Es.length + Ls.length ≤ 1000000000) :
    Calls Tryz.prog 55 #[.slice p1 Es.length c1, .slice p2 Ls.length c2] w fun e w' => ∃ v, e = .returned v ∧ Mine w' base v (List.merge Es Ls leB) ∧ Below w.heap.size w w' := by
  have e1 : (Es.length : Int) ≤ 1000000000 := by omega
  have e2 : (Ls.length : Int) ≤ 1000000000 := by omega
  obtain ⟨R, hR⟩ : ∃ R, R = List.merge Es Ls leB := ⟨_, rfl⟩
  have HR := hid hR
  have HLEN := hid hlen
  clear hlen hR
  go_enter Tryz.func55, Tryz.ntmps55
  go_wp2
  go_loopw [5, 6, 7] (fun mv iv jv wr => ∃ (i j : Nat) (rs : List MC) (ds : List Chg), i ≤ Es.length ∧ j ≤ Ls.length ∧ iv = .int .i64 i ∧ jv = .int .i64 j ∧ OwnM wr w.heap.size mv rs ∧ OwnV wr base rs ds ∧ R = ds ++ List.merge (Es.drop i) (Ls.drop j) leB ∧ ds.length = i + j ∧ Below w.heap.size w wr) (fun _ iv jv _ => Es.length - (intOf iv).toNat + (Ls.length - (intOf jv).toNat))
  case atStart => exact ⟨0, 0, [], [], by omega, by omega, rfl, rfl, OwnM.nil _ _, OwnV.nil _ _, HR.out, rfl, Below.refl _ _⟩
  case round =>
    obtain ⟨i, j, rs, ds, hi, hj, rfl, rfl, hO, hVr, hRR, hdl, hB⟩ := hrel
    have HRR := hid hRR
    have HDL := hid hdl
    clear hRR hdl
    by_cases hia : i < Es.length
    · have i1 : (i : Int) < (Es.length : Int) := by omega
      obtain ⟨q1, rfl⟩ := h1.pos (by omega)
      obtain ⟨_, _, r1, _, _, _, _, l1, _⟩ := h1.at i hia
      have R1 := h1.rd i hia
      have s1 := h1.says.2 i hia
      have lm1 := s1.len
      have om1 := s1.one
      have S1 := hid (show (Tryz.prog.info? 79).map (·.size) = some (encM (ms1.getD i dM)).length by rw [chgSize, lm1])
      have E := hid (v1.at i hia)
      have yk1 := y1 (Es.getD i dC) (by rw [List.getD_eq_getElem?_getD, List.getElem?_eq_getElem hia]; exact List.getElem_mem hia)
      have hi1 : (Tryz.prog.info? 24).map (·.size) = some (ints .u8 (Es.getD i dC).key).length := by rw [keySize, ints_len, l1]
      have HD1 := hid (drop_consC Es i hia)
      by_cases hjb : j < Ls.length
      · have i2 : (j : Int) < (Ls.length : Int) := by omega
        have i3 : ¬ (Ls.length : Int) ≤ (j : Int) := by omega
        obtain ⟨q2, rfl⟩ := h2.pos (by omega)
        obtain ⟨_, _, r2, _, _, _, _, l2, _⟩ := h2.at j hjb
        have R2 := h2.rd j hjb
        have s2 := h2.says.2 j hjb
        have lm2 := s2.len
        have om2 := s2.one
        have S2 := hid (show (Tryz.prog.info? 79).map (·.size) = some (encM (ms2.getD j dM)).length by rw [chgSize, lm2])
        have G := hid (v2.at j hjb)
        have yk2 := y2 (Ls.getD j dC) (by rw [List.getD_eq_getElem?_getD, List.getElem?_eq_getElem hjb]; exact List.getElem_mem hjb)
        have hi2 : (Tryz.prog.info? 24).map (·.size) = some (ints .u8 (Ls.getD j dC).key).length := by rw [keySize, ints_len, l2]
        have HD2 := hid (drop_consC Ls j hjb)
        have KCM := hid (fun w => rCompare_any w (Es.getD i dC).key (Ls.getD j dC).key yk1 yk2 l1 l2)
        clear s1 s2 yk1 yk2
        have MA := hid (mg_a (e := Es.getD i dC) (l := Ls.getD j dC) (es := Es.drop (i + 1)) (ls := Ls.drop (j + 1)))
        have MB := hid (mg_b (e := Es.getD i dC) (l := Ls.getD j dC) (es := Es.drop (i + 1)) (ls := Ls.drop (j + 1)))
        have HLR := hid (show rs.length + 1 ≤ 2199023255552 by have a1 := HDL.out; have a2 := hVr.1; have a3 := HLEN.out; omega)
        generalize hc1 : Es.getD i dC = ec at *
        generalize hc2 : Ls.getD j dC = lc at *
        generalize ms1.getD i dM = m1 at *
        generalize ms2.getD j dM = m2 at *
        clear hc1 hc2
        generalize hk1 : ec.key = k1 at *
        generalize hk2 : lc.key = k2 at *
        have HK1 := hid hk1
        have HK2 := hid hk2
        clear hk1 hk2
        rcases cmpK_cases k1 k2 with hc | hc | hc
        · have HRX := hid (show R = ds ++ [ec] ++ List.merge (Es.drop (i + 1)) (Ls.drop j) leB by rw [HRR.out, HD1.out, HD2.out, MA.out (by rw [hc]; decide)]; simp)
          rw [hc] at KCM
          clear HRR HD1 HD2 MA MB hc
          go_wp2
          refine wp_region_noPanic ?_
          refine wp_region_held_drew (S := fun w' => Below wr.heap.size wr w' ∧ Below w.heap.size w w') (by kernel_rfl) ⟨(Below.refl _ _).drew, hB.drew⟩ (fun hHeld => ?_)
          refine wpAnyH_take (i := 0) (oi := { dst := some 34, op := Op.move (Operand.tmp 0), type := 22, pos := "ref.go:93", after := #[], guard := none }) (v := .slice (some ⟨b1, o1, none⟩) Es.length c1) rfl (by kernel_rfl) (by kernel_rfl) (by kernel_rfl) (fun _ _ _ h => h) (Or.inl ⟨by rfl, by intro w hS; go_simp⟩) hHeld ?_
          try simp only [Act.put, List.setIfInBounds_toArray, List.set_cons_zero, List.set_cons_succ]
          refine wpAnyH_take (i := 1) (oi := { dst := some 35, op := Op.move (Operand.tmp 6), type := 3, pos := "ref.go:93", after := #[], guard := none }) (v := .int .i64 i) rfl (by kernel_rfl) (by kernel_rfl) (by kernel_rfl) (fun _ _ _ h => h) (Or.inl ⟨by rfl, by intro w hS; go_simp⟩) hHeld ?_
          try simp only [Act.put, List.setIfInBounds_toArray, List.set_cons_zero, List.set_cons_succ]
          refine wpAnyH_take (i := 5) (oi := { dst := some 39, op := Op.move (Operand.tmp 1), type := 22, pos := "ref.go:93", after := #[], guard := none }) (v := .slice (some ⟨b2, o2, none⟩) Ls.length c2) rfl (by kernel_rfl) (by kernel_rfl) (by kernel_rfl) (fun _ _ _ h => h) (Or.inl ⟨by rfl, by intro w hS; go_simp⟩) hHeld ?_
          try simp only [Act.put, List.setIfInBounds_toArray, List.set_cons_zero, List.set_cons_succ]
          refine wpAnyH_take (i := 6) (oi := { dst := some 40, op := Op.move (Operand.tmp 7), type := 3, pos := "ref.go:93", after := #[], guard := none }) (v := .int .i64 j) rfl (by kernel_rfl) (by kernel_rfl) (by kernel_rfl) (fun _ _ _ h => h) (Or.inl ⟨by rfl, by intro w hS; go_simp⟩) hHeld ?_
          try simp only [Act.put, List.setIfInBounds_toArray, List.set_cons_zero, List.set_cons_succ]
          refine wpAnyH_take (i := 2) (oi := { dst := some 36, op := Op.indexAddr 22 (Operand.tmp 34) (Operand.tmp 35), type := 0, pos := "ref.go:93", after := #[{ on := 0, ground := Ground.data }, { on := 1, ground := Ground.data }], guard := none }) (v := .pointer (some ⟨b1, o1 + i * 34, none⟩)) rfl (by kernel_rfl) (by kernel_rfl) (by kernel_rfl) (fun _ _ _ h => h) (Or.inl ⟨by rfl, by intro w hS; go_simp⟩) hHeld ?_
          try simp only [Act.put, List.setIfInBounds_toArray, List.set_cons_zero, List.set_cons_succ]
          refine wpAnyH_take (i := 7) (oi := { dst := some 41, op := Op.indexAddr 22 (Operand.tmp 39) (Operand.tmp 40), type := 0, pos := "ref.go:93", after := #[{ on := 5, ground := Ground.data }, { on := 6, ground := Ground.data }], guard := none }) (v := .pointer (some ⟨b2, o2 + j * 34, none⟩)) rfl (by kernel_rfl) (by kernel_rfl) (by kernel_rfl) (fun _ _ _ h => h) (Or.inl ⟨by rfl, by intro w hS; go_simp⟩) hHeld ?_
          try simp only [Act.put, List.setIfInBounds_toArray, List.set_cons_zero, List.set_cons_succ]
          refine wpAnyH_take (i := 3) (oi := { dst := some 37, op := Op.fieldAddr 79 (Operand.tmp 36) 0, type := 0, pos := "ref.go:93", after := #[{ on := 2, ground := Ground.data }], guard := none }) (v := .pointer (some ⟨b1, o1 + i * 34, none⟩)) rfl (by kernel_rfl) (by kernel_rfl) (by kernel_rfl) (fun _ _ _ h => h) (Or.inl ⟨by rfl, by intro w hS; go_simp⟩) hHeld ?_
          try simp only [Act.put, List.setIfInBounds_toArray, List.set_cons_zero, List.set_cons_succ]
          refine wpAnyH_take (i := 8) (oi := { dst := some 42, op := Op.fieldAddr 79 (Operand.tmp 41) 0, type := 0, pos := "ref.go:93", after := #[{ on := 7, ground := Ground.data }], guard := none }) (v := .pointer (some ⟨b2, o2 + j * 34, none⟩)) rfl (by kernel_rfl) (by kernel_rfl) (by kernel_rfl) (fun _ _ _ h => h) (Or.inl ⟨by rfl, by intro w hS; go_simp⟩) hHeld ?_
          try simp only [Act.put, List.setIfInBounds_toArray, List.set_cons_zero, List.set_cons_succ]
          refine wpAnyH_take (i := 4) (oi := { dst := some 38, op := Op.load 24 (Operand.tmp 37), type := 24, pos := "ref.go:93", after := #[{ on := 3, ground := Ground.data }], guard := none }) (v := .agg (ints .u8 k1).toArray) rfl (by kernel_rfl) (by kernel_rfl) (by kernel_rfl) (fun _ _ _ h => h) (yieldsIf_load_mid (by rfl) 24 _ rfl b1 (o1 + i * 34) rfl (ints .u8 k1) _ (fun w hS => rng_below r1 hS.2 q1) Tryz.underlying24 rfl hi1) hHeld ?_
          try simp only [Act.put, List.setIfInBounds_toArray, List.set_cons_zero, List.set_cons_succ]
          refine wpAnyH_take (i := 9) (oi := { dst := some 43, op := Op.load 24 (Operand.tmp 42), type := 24, pos := "ref.go:93", after := #[{ on := 8, ground := Ground.data }], guard := none }) (v := .agg (ints .u8 k2).toArray) rfl (by kernel_rfl) (by kernel_rfl) (by kernel_rfl) (fun _ _ _ h => h) (yieldsIf_load_mid (by rfl) 24 _ rfl b2 (o2 + j * 34) rfl (ints .u8 k2) _ (fun w hS => rng_below r2 hS.2 q2) Tryz.underlying24 rfl hi2) hHeld ?_
          try simp only [Act.put, List.setIfInBounds_toArray, List.set_cons_zero, List.set_cons_succ]
          refine wpAnyH_ready (rs := [10]) (by kernel_rfl) (by simp) ?_
          refine (AllReadyH.cons (o := { dst := some 44, op := Op.call { callee := Callee.value (Operand.func 22), args := #[Operand.tmp 38, Operand.tmp 43], argTypes := #[24, 24] }, type := 3, pos := "ref.go:93", after := #[{ on := 4, ground := Ground.data }, { on := 9, ground := Ground.data }], guard := none }) rfl (fun K hK => ?_) AllReadyH.nil)
          go_simp
          go_at_call 22
          refine (KCM.out _).mono ?_
          rintro e w4 ⟨rfl, hb4⟩
          go_wp2_with fail
          refine hK.out _ _ (⟨hHeld.1.trans (hb4.mono hHeld.1.size), hHeld.2.trans (hb4.mono hHeld.2.size)⟩) (fun hHeld2 => ?_)
          clear hK K hHeld
          have hHeld := hHeld2
          clear hHeld2
          clear hb4
          try simp only [Act.put, List.setIfInBounds_toArray, List.set_cons_zero, List.set_cons_succ]
          refine wpAnyH_take (i := 11) (oi := { dst := some 9, op := Op.assign (Operand.tmp 44), type := 3, pos := "ref.go:93", after := #[{ on := 10, ground := Ground.data }, { on := 10, ground := Ground.chain }, { on := 0, ground := Ground.phase }, { on := 1, ground := Ground.phase }, { on := 2, ground := Ground.phase }, { on := 3, ground := Ground.phase }, { on := 4, ground := Ground.phase }, { on := 5, ground := Ground.phase }, { on := 6, ground := Ground.phase }, { on := 7, ground := Ground.phase }, { on := 8, ground := Ground.phase }, { on := 9, ground := Ground.phase }, { on := 10, ground := Ground.phase }], guard := none }) (v := .int .i64 (-1)) rfl (by kernel_rfl) (by kernel_rfl) (by kernel_rfl) (fun _ _ _ h => h) (Or.inl ⟨by rfl, by intro w hS; go_simp⟩) hHeld ?_
          try simp only [Act.put, List.setIfInBounds_toArray, List.set_cons_zero, List.set_cons_succ]
          refine wpAnyH_done (by kernel_rfl) ?_ _
          refine NoPanic.normal ?_
          have hbz := hHeld
          clear hHeld
          have hO4 := hO.below hbz.1 (Nat.le_refl _)
          have hV4 := hVr.below hbz.1
          have RX := rng_below R1 hbz.2 q1
          have hBx := hbz.2
          have hs4 := hBx.size
          clear hO hVr hbz hB r1 r2 R1 R2
          go_wp2_with (first
            | refine wpList_load_mid rfl 79 _ rfl b1 (o1 + i * 34) rfl (encM m1) _ RX Tryz.underlying79 rfl S1.out ?_
            | refine wpList_slice rfl _ rfl (encM m1) lm1 rfl ?_
            | (at_builtin; refine wpList_pushC rfl (.tmp 48) (.tmp 53) rfl w.heap.size _ rs m1 rfl hO4 rfl lm1 om1 HLR.out hs4 _ _ ?_; intro v7 w7 hO7 hB7 hK7 hD7))
          have hbw : Below w.heap.size w w7 := hBx.trans hB7
          obtain ⟨x1, x2, x3, x4⟩ := E.out
          have hV7 : OwnV w7 base (rs ++ [m1]) (ds ++ [ec]) := by
            have h0 := hV4.of_heap (w1 := w7) fun q x hx => hK7 q (hlt_ hx) fun e => by obtain ⟨_, _, y, hy⟩ := hO4.block q e; exact ne_of_type hx hy (by decide) rfl
            refine h0.snoc (x1.trans HK1.out.symm) (by rw [HK1.out]; exact x2) x3 ((x4.below hBx (Nat.le_refl _)).of_heap fun q hq => ?_)
            obtain ⟨q1, x, hx2⟩ := (x4.below hBx (Nat.le_refl _)).ne_chg q hq
            exact hK7 q q1 fun e => by obtain ⟨_, _, y, hy⟩ := hO4.block q e; exact ne_of_type hx2 hy (by decide) rfl
          go_roundw
          case rel => exact ⟨(i + 1), j, rs ++ [m1], ds ++ [ec], by omega, by omega, by go_num, rfl, hO7, hV7, HRX.out, (by have := HDL.out; simp only [List.length_append, List.length_cons, List.length_nil]; omega), hbw⟩
          case measure => simp [intOf]; omega
        · have HRX := hid (show R = ds ++ [ec] ++ List.merge (Es.drop (i + 1)) (Ls.drop j) leB by rw [HRR.out, HD1.out, HD2.out, MA.out (by rw [hc]; decide)]; simp)
          rw [hc] at KCM
          clear HRR HD1 HD2 MA MB hc
          go_wp2
          refine wp_region_noPanic ?_
          refine wp_region_held_drew (S := fun w' => Below wr.heap.size wr w' ∧ Below w.heap.size w w') (by kernel_rfl) ⟨(Below.refl _ _).drew, hB.drew⟩ (fun hHeld => ?_)
          refine wpAnyH_take (i := 0) (oi := { dst := some 34, op := Op.move (Operand.tmp 0), type := 22, pos := "ref.go:93", after := #[], guard := none }) (v := .slice (some ⟨b1, o1, none⟩) Es.length c1) rfl (by kernel_rfl) (by kernel_rfl) (by kernel_rfl) (fun _ _ _ h => h) (Or.inl ⟨by rfl, by intro w hS; go_simp⟩) hHeld ?_
          try simp only [Act.put, List.setIfInBounds_toArray, List.set_cons_zero, List.set_cons_succ]
          refine wpAnyH_take (i := 1) (oi := { dst := some 35, op := Op.move (Operand.tmp 6), type := 3, pos := "ref.go:93", after := #[], guard := none }) (v := .int .i64 i) rfl (by kernel_rfl) (by kernel_rfl) (by kernel_rfl) (fun _ _ _ h => h) (Or.inl ⟨by rfl, by intro w hS; go_simp⟩) hHeld ?_
          try simp only [Act.put, List.setIfInBounds_toArray, List.set_cons_zero, List.set_cons_succ]
          refine wpAnyH_take (i := 5) (oi := { dst := some 39, op := Op.move (Operand.tmp 1), type := 22, pos := "ref.go:93", after := #[], guard := none }) (v := .slice (some ⟨b2, o2, none⟩) Ls.length c2) rfl (by kernel_rfl) (by kernel_rfl) (by kernel_rfl) (fun _ _ _ h => h) (Or.inl ⟨by rfl, by intro w hS; go_simp⟩) hHeld ?_
          try simp only [Act.put, List.setIfInBounds_toArray, List.set_cons_zero, List.set_cons_succ]
          refine wpAnyH_take (i := 6) (oi := { dst := some 40, op := Op.move (Operand.tmp 7), type := 3, pos := "ref.go:93", after := #[], guard := none }) (v := .int .i64 j) rfl (by kernel_rfl) (by kernel_rfl) (by kernel_rfl) (fun _ _ _ h => h) (Or.inl ⟨by rfl, by intro w hS; go_simp⟩) hHeld ?_
          try simp only [Act.put, List.setIfInBounds_toArray, List.set_cons_zero, List.set_cons_succ]
          refine wpAnyH_take (i := 2) (oi := { dst := some 36, op := Op.indexAddr 22 (Operand.tmp 34) (Operand.tmp 35), type := 0, pos := "ref.go:93", after := #[{ on := 0, ground := Ground.data }, { on := 1, ground := Ground.data }], guard := none }) (v := .pointer (some ⟨b1, o1 + i * 34, none⟩)) rfl (by kernel_rfl) (by kernel_rfl) (by kernel_rfl) (fun _ _ _ h => h) (Or.inl ⟨by rfl, by intro w hS; go_simp⟩) hHeld ?_
          try simp only [Act.put, List.setIfInBounds_toArray, List.set_cons_zero, List.set_cons_succ]
          refine wpAnyH_take (i := 7) (oi := { dst := some 41, op := Op.indexAddr 22 (Operand.tmp 39) (Operand.tmp 40), type := 0, pos := "ref.go:93", after := #[{ on := 5, ground := Ground.data }, { on := 6, ground := Ground.data }], guard := none }) (v := .pointer (some ⟨b2, o2 + j * 34, none⟩)) rfl (by kernel_rfl) (by kernel_rfl) (by kernel_rfl) (fun _ _ _ h => h) (Or.inl ⟨by rfl, by intro w hS; go_simp⟩) hHeld ?_
          try simp only [Act.put, List.setIfInBounds_toArray, List.set_cons_zero, List.set_cons_succ]
          refine wpAnyH_take (i := 3) (oi := { dst := some 37, op := Op.fieldAddr 79 (Operand.tmp 36) 0, type := 0, pos := "ref.go:93", after := #[{ on := 2, ground := Ground.data }], guard := none }) (v := .pointer (some ⟨b1, o1 + i * 34, none⟩)) rfl (by kernel_rfl) (by kernel_rfl) (by kernel_rfl) (fun _ _ _ h => h) (Or.inl ⟨by rfl, by intro w hS; go_simp⟩) hHeld ?_
          try simp only [Act.put, List.setIfInBounds_toArray, List.set_cons_zero, List.set_cons_succ]
          refine wpAnyH_take (i := 8) (oi := { dst := some 42, op := Op.fieldAddr 79 (Operand.tmp 41) 0, type := 0, pos := "ref.go:93", after := #[{ on := 7, ground := Ground.data }], guard := none }) (v := .pointer (some ⟨b2, o2 + j * 34, none⟩)) rfl (by kernel_rfl) (by kernel_rfl) (by kernel_rfl) (fun _ _ _ h => h) (Or.inl ⟨by rfl, by intro w hS; go_simp⟩) hHeld ?_
          try simp only [Act.put, List.setIfInBounds_toArray, List.set_cons_zero, List.set_cons_succ]
          refine wpAnyH_take (i := 4) (oi := { dst := some 38, op := Op.load 24 (Operand.tmp 37), type := 24, pos := "ref.go:93", after := #[{ on := 3, ground := Ground.data }], guard := none }) (v := .agg (ints .u8 k1).toArray) rfl (by kernel_rfl) (by kernel_rfl) (by kernel_rfl) (fun _ _ _ h => h) (yieldsIf_load_mid (by rfl) 24 _ rfl b1 (o1 + i * 34) rfl (ints .u8 k1) _ (fun w hS => rng_below r1 hS.2 q1) Tryz.underlying24 rfl hi1) hHeld ?_
          try simp only [Act.put, List.setIfInBounds_toArray, List.set_cons_zero, List.set_cons_succ]
          refine wpAnyH_take (i := 9) (oi := { dst := some 43, op := Op.load 24 (Operand.tmp 42), type := 24, pos := "ref.go:93", after := #[{ on := 8, ground := Ground.data }], guard := none }) (v := .agg (ints .u8 k2).toArray) rfl (by kernel_rfl) (by kernel_rfl) (by kernel_rfl) (fun _ _ _ h => h) (yieldsIf_load_mid (by rfl) 24 _ rfl b2 (o2 + j * 34) rfl (ints .u8 k2) _ (fun w hS => rng_below r2 hS.2 q2) Tryz.underlying24 rfl hi2) hHeld ?_
          try simp only [Act.put, List.setIfInBounds_toArray, List.set_cons_zero, List.set_cons_succ]
          refine wpAnyH_ready (rs := [10]) (by kernel_rfl) (by simp) ?_
          refine (AllReadyH.cons (o := { dst := some 44, op := Op.call { callee := Callee.value (Operand.func 22), args := #[Operand.tmp 38, Operand.tmp 43], argTypes := #[24, 24] }, type := 3, pos := "ref.go:93", after := #[{ on := 4, ground := Ground.data }, { on := 9, ground := Ground.data }], guard := none }) rfl (fun K hK => ?_) AllReadyH.nil)
          go_simp
          go_at_call 22
          refine (KCM.out _).mono ?_
          rintro e w4 ⟨rfl, hb4⟩
          go_wp2_with fail
          refine hK.out _ _ (⟨hHeld.1.trans (hb4.mono hHeld.1.size), hHeld.2.trans (hb4.mono hHeld.2.size)⟩) (fun hHeld2 => ?_)
          clear hK K hHeld
          have hHeld := hHeld2
          clear hHeld2
          clear hb4
          try simp only [Act.put, List.setIfInBounds_toArray, List.set_cons_zero, List.set_cons_succ]
          refine wpAnyH_take (i := 11) (oi := { dst := some 9, op := Op.assign (Operand.tmp 44), type := 3, pos := "ref.go:93", after := #[{ on := 10, ground := Ground.data }, { on := 10, ground := Ground.chain }, { on := 0, ground := Ground.phase }, { on := 1, ground := Ground.phase }, { on := 2, ground := Ground.phase }, { on := 3, ground := Ground.phase }, { on := 4, ground := Ground.phase }, { on := 5, ground := Ground.phase }, { on := 6, ground := Ground.phase }, { on := 7, ground := Ground.phase }, { on := 8, ground := Ground.phase }, { on := 9, ground := Ground.phase }, { on := 10, ground := Ground.phase }], guard := none }) (v := .int .i64 0) rfl (by kernel_rfl) (by kernel_rfl) (by kernel_rfl) (fun _ _ _ h => h) (Or.inl ⟨by rfl, by intro w hS; go_simp⟩) hHeld ?_
          try simp only [Act.put, List.setIfInBounds_toArray, List.set_cons_zero, List.set_cons_succ]
          refine wpAnyH_done (by kernel_rfl) ?_ _
          refine NoPanic.normal ?_
          have hbz := hHeld
          clear hHeld
          have hO4 := hO.below hbz.1 (Nat.le_refl _)
          have hV4 := hVr.below hbz.1
          have RX := rng_below R1 hbz.2 q1
          have hBx := hbz.2
          have hs4 := hBx.size
          clear hO hVr hbz hB r1 r2 R1 R2
          go_wp2_with (first
            | refine wpList_load_mid rfl 79 _ rfl b1 (o1 + i * 34) rfl (encM m1) _ RX Tryz.underlying79 rfl S1.out ?_
            | refine wpList_slice rfl _ rfl (encM m1) lm1 rfl ?_
            | (at_builtin; refine wpList_pushC rfl (.tmp 48) (.tmp 53) rfl w.heap.size _ rs m1 rfl hO4 rfl lm1 om1 HLR.out hs4 _ _ ?_; intro v7 w7 hO7 hB7 hK7 hD7))
          have hbw : Below w.heap.size w w7 := hBx.trans hB7
          obtain ⟨x1, x2, x3, x4⟩ := E.out
          have hV7 : OwnV w7 base (rs ++ [m1]) (ds ++ [ec]) := by
            have h0 := hV4.of_heap (w1 := w7) fun q x hx => hK7 q (hlt_ hx) fun e => by obtain ⟨_, _, y, hy⟩ := hO4.block q e; exact ne_of_type hx hy (by decide) rfl
            refine h0.snoc (x1.trans HK1.out.symm) (by rw [HK1.out]; exact x2) x3 ((x4.below hBx (Nat.le_refl _)).of_heap fun q hq => ?_)
            obtain ⟨q1, x, hx2⟩ := (x4.below hBx (Nat.le_refl _)).ne_chg q hq
            exact hK7 q q1 fun e => by obtain ⟨_, _, y, hy⟩ := hO4.block q e; exact ne_of_type hx2 hy (by decide) rfl
          go_roundw
          case rel => exact ⟨(i + 1), j, rs ++ [m1], ds ++ [ec], by omega, by omega, by go_num, rfl, hO7, hV7, HRX.out, (by have := HDL.out; simp only [List.length_append, List.length_cons, List.length_nil]; omega), hbw⟩
          case measure => simp [intOf]; omega
        · have HRX := hid (show R = ds ++ [lc] ++ List.merge (Es.drop i) (Ls.drop (j + 1)) leB by rw [HRR.out, HD1.out, HD2.out, MB.out (by rw [hc]; decide)]; simp)
          rw [hc] at KCM
          clear HRR HD1 HD2 MA MB hc
          go_wp2
          refine wp_region_noPanic ?_
          refine wp_region_held_drew (S := fun w' => Below wr.heap.size wr w' ∧ Below w.heap.size w w') (by kernel_rfl) ⟨(Below.refl _ _).drew, hB.drew⟩ (fun hHeld => ?_)
          refine wpAnyH_take (i := 0) (oi := { dst := some 34, op := Op.move (Operand.tmp 0), type := 22, pos := "ref.go:93", after := #[], guard := none }) (v := .slice (some ⟨b1, o1, none⟩) Es.length c1) rfl (by kernel_rfl) (by kernel_rfl) (by kernel_rfl) (fun _ _ _ h => h) (Or.inl ⟨by rfl, by intro w hS; go_simp⟩) hHeld ?_
          try simp only [Act.put, List.setIfInBounds_toArray, List.set_cons_zero, List.set_cons_succ]
          refine wpAnyH_take (i := 1) (oi := { dst := some 35, op := Op.move (Operand.tmp 6), type := 3, pos := "ref.go:93", after := #[], guard := none }) (v := .int .i64 i) rfl (by kernel_rfl) (by kernel_rfl) (by kernel_rfl) (fun _ _ _ h => h) (Or.inl ⟨by rfl, by intro w hS; go_simp⟩) hHeld ?_
          try simp only [Act.put, List.setIfInBounds_toArray, List.set_cons_zero, List.set_cons_succ]
          refine wpAnyH_take (i := 5) (oi := { dst := some 39, op := Op.move (Operand.tmp 1), type := 22, pos := "ref.go:93", after := #[], guard := none }) (v := .slice (some ⟨b2, o2, none⟩) Ls.length c2) rfl (by kernel_rfl) (by kernel_rfl) (by kernel_rfl) (fun _ _ _ h => h) (Or.inl ⟨by rfl, by intro w hS; go_simp⟩) hHeld ?_
          try simp only [Act.put, List.setIfInBounds_toArray, List.set_cons_zero, List.set_cons_succ]
          refine wpAnyH_take (i := 6) (oi := { dst := some 40, op := Op.move (Operand.tmp 7), type := 3, pos := "ref.go:93", after := #[], guard := none }) (v := .int .i64 j) rfl (by kernel_rfl) (by kernel_rfl) (by kernel_rfl) (fun _ _ _ h => h) (Or.inl ⟨by rfl, by intro w hS; go_simp⟩) hHeld ?_
          try simp only [Act.put, List.setIfInBounds_toArray, List.set_cons_zero, List.set_cons_succ]
          refine wpAnyH_take (i := 2) (oi := { dst := some 36, op := Op.indexAddr 22 (Operand.tmp 34) (Operand.tmp 35), type := 0, pos := "ref.go:93", after := #[{ on := 0, ground := Ground.data }, { on := 1, ground := Ground.data }], guard := none }) (v := .pointer (some ⟨b1, o1 + i * 34, none⟩)) rfl (by kernel_rfl) (by kernel_rfl) (by kernel_rfl) (fun _ _ _ h => h) (Or.inl ⟨by rfl, by intro w hS; go_simp⟩) hHeld ?_
          try simp only [Act.put, List.setIfInBounds_toArray, List.set_cons_zero, List.set_cons_succ]
          refine wpAnyH_take (i := 7) (oi := { dst := some 41, op := Op.indexAddr 22 (Operand.tmp 39) (Operand.tmp 40), type := 0, pos := "ref.go:93", after := #[{ on := 5, ground := Ground.data }, { on := 6, ground := Ground.data }], guard := none }) (v := .pointer (some ⟨b2, o2 + j * 34, none⟩)) rfl (by kernel_rfl) (by kernel_rfl) (by kernel_rfl) (fun _ _ _ h => h) (Or.inl ⟨by rfl, by intro w hS; go_simp⟩) hHeld ?_
          try simp only [Act.put, List.setIfInBounds_toArray, List.set_cons_zero, List.set_cons_succ]
          refine wpAnyH_take (i := 3) (oi := { dst := some 37, op := Op.fieldAddr 79 (Operand.tmp 36) 0, type := 0, pos := "ref.go:93", after := #[{ on := 2, ground := Ground.data }], guard := none }) (v := .pointer (some ⟨b1, o1 + i * 34, none⟩)) rfl (by kernel_rfl) (by kernel_rfl) (by kernel_rfl) (fun _ _ _ h => h) (Or.inl ⟨by rfl, by intro w hS; go_simp⟩) hHeld ?_
          try simp only [Act.put, List.setIfInBounds_toArray, List.set_cons_zero, List.set_cons_succ]
          refine wpAnyH_take (i := 8) (oi := { dst := some 42, op := Op.fieldAddr 79 (Operand.tmp 41) 0, type := 0, pos := "ref.go:93", after := #[{ on := 7, ground := Ground.data }], guard := none }) (v := .pointer (some ⟨b2, o2 + j * 34, none⟩)) rfl (by kernel_rfl) (by kernel_rfl) (by kernel_rfl) (fun _ _ _ h => h) (Or.inl ⟨by rfl, by intro w hS; go_simp⟩) hHeld ?_
          try simp only [Act.put, List.setIfInBounds_toArray, List.set_cons_zero, List.set_cons_succ]
          refine wpAnyH_take (i := 4) (oi := { dst := some 38, op := Op.load 24 (Operand.tmp 37), type := 24, pos := "ref.go:93", after := #[{ on := 3, ground := Ground.data }], guard := none }) (v := .agg (ints .u8 k1).toArray) rfl (by kernel_rfl) (by kernel_rfl) (by kernel_rfl) (fun _ _ _ h => h) (yieldsIf_load_mid (by rfl) 24 _ rfl b1 (o1 + i * 34) rfl (ints .u8 k1) _ (fun w hS => rng_below r1 hS.2 q1) Tryz.underlying24 rfl hi1) hHeld ?_
          try simp only [Act.put, List.setIfInBounds_toArray, List.set_cons_zero, List.set_cons_succ]
          refine wpAnyH_take (i := 9) (oi := { dst := some 43, op := Op.load 24 (Operand.tmp 42), type := 24, pos := "ref.go:93", after := #[{ on := 8, ground := Ground.data }], guard := none }) (v := .agg (ints .u8 k2).toArray) rfl (by kernel_rfl) (by kernel_rfl) (by kernel_rfl) (fun _ _ _ h => h) (yieldsIf_load_mid (by rfl) 24 _ rfl b2 (o2 + j * 34) rfl (ints .u8 k2) _ (fun w hS => rng_below r2 hS.2 q2) Tryz.underlying24 rfl hi2) hHeld ?_
          try simp only [Act.put, List.setIfInBounds_toArray, List.set_cons_zero, List.set_cons_succ]
          refine wpAnyH_ready (rs := [10]) (by kernel_rfl) (by simp) ?_
          refine (AllReadyH.cons (o := { dst := some 44, op := Op.call { callee := Callee.value (Operand.func 22), args := #[Operand.tmp 38, Operand.tmp 43], argTypes := #[24, 24] }, type := 3, pos := "ref.go:93", after := #[{ on := 4, ground := Ground.data }, { on := 9, ground := Ground.data }], guard := none }) rfl (fun K hK => ?_) AllReadyH.nil)
          go_simp
          go_at_call 22
          refine (KCM.out _).mono ?_
          rintro e w4 ⟨rfl, hb4⟩
          go_wp2_with fail
          refine hK.out _ _ (⟨hHeld.1.trans (hb4.mono hHeld.1.size), hHeld.2.trans (hb4.mono hHeld.2.size)⟩) (fun hHeld2 => ?_)
          clear hK K hHeld
          have hHeld := hHeld2
          clear hHeld2
          clear hb4
          try simp only [Act.put, List.setIfInBounds_toArray, List.set_cons_zero, List.set_cons_succ]
          refine wpAnyH_take (i := 11) (oi := { dst := some 9, op := Op.assign (Operand.tmp 44), type := 3, pos := "ref.go:93", after := #[{ on := 10, ground := Ground.data }, { on := 10, ground := Ground.chain }, { on := 0, ground := Ground.phase }, { on := 1, ground := Ground.phase }, { on := 2, ground := Ground.phase }, { on := 3, ground := Ground.phase }, { on := 4, ground := Ground.phase }, { on := 5, ground := Ground.phase }, { on := 6, ground := Ground.phase }, { on := 7, ground := Ground.phase }, { on := 8, ground := Ground.phase }, { on := 9, ground := Ground.phase }, { on := 10, ground := Ground.phase }], guard := none }) (v := .int .i64 1) rfl (by kernel_rfl) (by kernel_rfl) (by kernel_rfl) (fun _ _ _ h => h) (Or.inl ⟨by rfl, by intro w hS; go_simp⟩) hHeld ?_
          try simp only [Act.put, List.setIfInBounds_toArray, List.set_cons_zero, List.set_cons_succ]
          refine wpAnyH_done (by kernel_rfl) ?_ _
          refine NoPanic.normal ?_
          have hbz := hHeld
          clear hHeld
          have hO4 := hO.below hbz.1 (Nat.le_refl _)
          have hV4 := hVr.below hbz.1
          have RX := rng_below R2 hbz.2 q2
          have hBx := hbz.2
          have hs4 := hBx.size
          clear hO hVr hbz hB r1 r2 R1 R2
          go_wp2_with (first
            | refine wpList_load_mid rfl 79 _ rfl b2 (o2 + j * 34) rfl (encM m2) _ RX Tryz.underlying79 rfl S2.out ?_
            | refine wpList_slice rfl _ rfl (encM m2) lm2 rfl ?_
            | (at_builtin; refine wpList_pushC rfl (.tmp 57) (.tmp 62) rfl w.heap.size _ rs m2 rfl hO4 rfl lm2 om2 HLR.out hs4 _ _ ?_; intro v7 w7 hO7 hB7 hK7 hD7))
          have hbw : Below w.heap.size w w7 := hBx.trans hB7
          obtain ⟨x1, x2, x3, x4⟩ := G.out
          have hV7 : OwnV w7 base (rs ++ [m2]) (ds ++ [lc]) := by
            have h0 := hV4.of_heap (w1 := w7) fun q x hx => hK7 q (hlt_ hx) fun e => by obtain ⟨_, _, y, hy⟩ := hO4.block q e; exact ne_of_type hx hy (by decide) rfl
            refine h0.snoc (x1.trans HK2.out.symm) (by rw [HK2.out]; exact x2) x3 ((x4.below hBx (Nat.le_refl _)).of_heap fun q hq => ?_)
            obtain ⟨q1, x, hx2⟩ := (x4.below hBx (Nat.le_refl _)).ne_chg q hq
            exact hK7 q q1 fun e => by obtain ⟨_, _, y, hy⟩ := hO4.block q e; exact ne_of_type hx2 hy (by decide) rfl
          go_roundw
          case rel => exact ⟨i, (j + 1), rs ++ [m2], ds ++ [lc], by omega, by omega, rfl, by go_num, hO7, hV7, HRX.out, (by have := HDL.out; simp only [List.length_append, List.length_cons, List.length_nil]; omega), hbw⟩
          case measure => simp [intOf]; omega
      · obtain rfl : j = Ls.length := by omega
        have i3 : (Ls.length : Int) ≤ (Ls.length : Int) := by omega
        have HLR := hid (show rs.length + 1 ≤ 2199023255552 by have a1 := HDL.out; have a2 := hVr.1; have a3 := HLEN.out; omega)
        have HRX := hid (show R = ds ++ [Es.getD i dC] ++ List.merge (Es.drop (i + 1)) (Ls.drop Ls.length) leB by rw [HRR.out, HD1.out, List.drop_length, mg_ra, mg_ra]; simp)
        clear s1 yk1 HRR HD1 hjb
        generalize hc1 : Es.getD i dC = ec at *
        generalize ms1.getD i dM = m1 at *
        clear hc1
        generalize hk1 : ec.key = k1 at *
        have HK1 := hid hk1
        clear hk1
        have hO4 := hO
        have hV4 := hVr
        have RX := rng_below R1 hB q1
        have hBx := hB
        have hs4 := hBx.size
        clear hO hVr hB
        go_wp2_with (first
          | refine wpList_load_mid rfl 79 _ rfl b1 (o1 + i * 34) rfl (encM m1) _ RX Tryz.underlying79 rfl S1.out ?_
          | refine wpList_slice rfl _ rfl (encM m1) lm1 rfl ?_
          | (at_builtin; refine wpList_pushC rfl (.tmp 48) (.tmp 53) rfl w.heap.size _ rs m1 rfl hO4 rfl lm1 om1 HLR.out hs4 _ _ ?_; intro v7 w7 hO7 hB7 hK7 hD7))
        have hbw : Below w.heap.size w w7 := hBx.trans hB7
        obtain ⟨x1, x2, x3, x4⟩ := E.out
        have hV7 : OwnV w7 base (rs ++ [m1]) (ds ++ [ec]) := by
          have h0 := hV4.of_heap (w1 := w7) fun q x hx => hK7 q (hlt_ hx) fun e => by obtain ⟨_, _, y, hy⟩ := hO4.block q e; exact ne_of_type hx hy (by decide) rfl
          refine h0.snoc (x1.trans HK1.out.symm) (by rw [HK1.out]; exact x2) x3 ((x4.below hBx (Nat.le_refl _)).of_heap fun q hq => ?_)
          obtain ⟨q1, x, hx2⟩ := (x4.below hBx (Nat.le_refl _)).ne_chg q hq
          exact hK7 q q1 fun e => by obtain ⟨_, _, y, hy⟩ := hO4.block q e; exact ne_of_type hx2 hy (by decide) rfl
        go_roundw
        case rel => exact ⟨(i + 1), Ls.length, rs ++ [m1], ds ++ [ec], by omega, by omega, by go_num, rfl, hO7, hV7, HRX.out, (by have := HDL.out; simp only [List.length_append, List.length_cons, List.length_nil]; omega), hbw⟩
        case measure => simp [intOf]; omega
    · obtain rfl : i = Es.length := by omega
      have i1 : ¬ (Es.length : Int) < (Es.length : Int) := by omega
      by_cases hjb : j < Ls.length
      · have i2 : (j : Int) < (Ls.length : Int) := by omega
        have i3 : ¬ (Ls.length : Int) ≤ (j : Int) := by omega
        obtain ⟨q2, rfl⟩ := h2.pos (by omega)
        obtain ⟨_, _, r2, _, _, _, _, l2, _⟩ := h2.at j hjb
        have R2 := h2.rd j hjb
        have s2 := h2.says.2 j hjb
        have lm2 := s2.len
        have om2 := s2.one
        have S2 := hid (show (Tryz.prog.info? 79).map (·.size) = some (encM (ms2.getD j dM)).length by rw [chgSize, lm2])
        have G := hid (v2.at j hjb)
        have HD2 := hid (drop_consC Ls j hjb)
        have HLR := hid (show rs.length + 1 ≤ 2199023255552 by have a1 := HDL.out; have a2 := hVr.1; have a3 := HLEN.out; omega)
        have HRX := hid (show R = ds ++ [Ls.getD j dC] ++ List.merge (Es.drop Es.length) (Ls.drop (j + 1)) leB by rw [HRR.out, HD2.out, List.drop_length, mg_rb, mg_rb]; simp)
        clear s2 HRR HD2 hia
        generalize hc2 : Ls.getD j dC = lc at *
        generalize ms2.getD j dM = m2 at *
        clear hc2
        generalize hk2 : lc.key = k2 at *
        have HK2 := hid hk2
        clear hk2
        have hO4 := hO
        have hV4 := hVr
        have RX := rng_below R2 hB q2
        have hBx := hB
        have hs4 := hBx.size
        clear hO hVr hB
        go_wp2_with (first
          | refine wpList_load_mid rfl 79 _ rfl b2 (o2 + j * 34) rfl (encM m2) _ RX Tryz.underlying79 rfl S2.out ?_
          | refine wpList_slice rfl _ rfl (encM m2) lm2 rfl ?_
          | (at_builtin; refine wpList_pushC rfl (.tmp 57) (.tmp 62) rfl w.heap.size _ rs m2 rfl hO4 rfl lm2 om2 HLR.out hs4 _ _ ?_; intro v7 w7 hO7 hB7 hK7 hD7))
        have hbw : Below w.heap.size w w7 := hBx.trans hB7
        obtain ⟨x1, x2, x3, x4⟩ := G.out
        have hV7 : OwnV w7 base (rs ++ [m2]) (ds ++ [lc]) := by
          have h0 := hV4.of_heap (w1 := w7) fun q x hx => hK7 q (hlt_ hx) fun e => by obtain ⟨_, _, y, hy⟩ := hO4.block q e; exact ne_of_type hx hy (by decide) rfl
          refine h0.snoc (x1.trans HK2.out.symm) (by rw [HK2.out]; exact x2) x3 ((x4.below hBx (Nat.le_refl _)).of_heap fun q hq => ?_)
          obtain ⟨q1, x, hx2⟩ := (x4.below hBx (Nat.le_refl _)).ne_chg q hq
          exact hK7 q q1 fun e => by obtain ⟨_, _, y, hy⟩ := hO4.block q e; exact ne_of_type hx2 hy (by decide) rfl
        go_roundw
        case rel => exact ⟨Es.length, (j + 1), rs ++ [m2], ds ++ [lc], by omega, by omega, rfl, by go_num, hO7, hV7, HRX.out, (by have := HDL.out; simp only [List.length_append, List.length_cons, List.length_nil]; omega), hbw⟩
        case measure => simp [intOf]; omega
      · obtain rfl : j = Ls.length := by omega
        have HRX := hid (show R = ds by rw [HRR.out, List.drop_length, List.drop_length, mg_rb]; simp)
        have i2 : ¬ (Ls.length : Int) < (Ls.length : Int) := by omega
        clear hia hjb HRR
        go_wp2
        go_ret
        exact ⟨_, rfl, ⟨rs, hO.base hbase, by rw [← HR.out, HRX.out]; exact hVr⟩, hB⟩
end Go.Proofs.YtbjahdbmkcamoaaGreatDoor
