import Derived.Test.YtbjahdbmkcamoaaGreatDoorNo
namespace Go.Proofs.YtbjahdbmkcamoaaGreatDoor
set_option linter.unusedVariables false
set_option linter.unusedSimpArgs false
open Go.RowKit
attribute [local go_sem ↓] Go.wp_at_zero Go.wp_at_succ

theorem step_sliceG {w : World} {ops : Array Oper} {o : Oper} {a : Act} {K : Act → World → Prop} {Q : Exit → Act → World → Prop} {E : Prop} (hw : Region.wanted o (yielded ops a.tmps) = true) (x : Operand) (ho : o.op = .buildSlice 26 1 #[(0, x)])
    (ks : List Value) (hk : ks.length = 33) (hx : a.eval x = .agg ks.toArray) (h : K (a.put o.dst (.slice (some ⟨w.heap.size, 0, none⟩) 1 1)) (w.alloc (.cells ks.toArray 67))) :
    if Region.wanted o (yielded ops a.tmps) = true then Oper.wp Tryz.prog o a w K Q else E := by
  rw [if_pos hw]
  unfold Oper.wp execOp
  simp only [ho, List.map_toArray, List.map_cons, List.map_nil, hx, Sem.run_bind, slice_ent ks hk w, Result.andThen_ok, Sem.run_pure]
  exact h
theorem step_pushG {w : World} {ops : Array Oper} {o : Oper} {a : Act} {K : Act → World → Prop} {Q : Exit → Act → World → Prop} {E : Prop} (hgd : o.guard = none) (s x : Operand)
    (ho : o.op = .call { callee := .builtin .append, args := #[s, x], argTypes := #[26, 26] })
    (base : Nat) (v : Value) (ms : List MG) (m : MG) (hs : a.eval s = v) (hown : OwnG w base v ms) (hx : a.eval x = .slice (some ⟨w.heap.size, 0, none⟩) 1 1) (hl : (encG m).length = 33) (h1 : ∀ y ∈ encG m, y.oneCell' = true)
    (hlen : ms.length + 1 ≤ 1000000000000) (hbase : base ≤ w.heap.size) (t : TypeId) (fr : Nat × Nat)
    (h : ∀ v' w', OwnG w' base v' (ms ++ [m]) → Below base w w' → K (a.put o.dst v') w') :
    if Region.wanted o (yielded ops a.tmps) = true then Oper.wp Tryz.prog o a (w.alloc (.cells (encG m).toArray t fr)) K Q else E := by
  have hw : Region.wanted o (yielded ops a.tmps) = true := by simp [Region.wanted, hgd]
  rw [if_pos hw]
  obtain ⟨i5, z, hi5, hz5, hc5, hs5, hy5⟩ := Tryz.infoG
  have hown' : OwnG (w.alloc (.cells (encG m).toArray t fr)) base v ms := hown.of_heap fun k hk => by
    show (w.heap.push _)[k]? = _
    rw [Array.getElem?_push, if_neg (by have := (hown.block k hk).2.1; omega)]
  obtain ⟨v', w', hr, q1, q2, _, q4⟩ := run_append_own_at (P := Tryz.prog) (w.alloc (.cells (encG m).toArray t fr)) base 26 o.type 67 i5 z 33 56 Tryz.underlying26 hi5 hz5 hs5 hy5 hc5 (by decide) v ms.length _ hown' ⟨w.heap.size, 0, none⟩ 1 1 (encG m) (by omega) (by
    intro j u hu
    rw [Addr.add_mid, Nat.zero_add, cell_of_row _ _ _ _ _ _ (hnew w _)]
    simpa using hu) h1 (by unfold maxLen; omega) (by omega) (by simp; omega)
  unfold Oper.wp execOp
  simp only [ho, resolve, invoke, builtin, Sem.run_bind, Sem.run_pure, Result.andThen_ok, List.map_toArray, List.map_cons, List.map_nil, hs, hx, hr]
  have hB1 : Below base w (w.alloc (.cells (encG m).toArray t fr)) := (Below.refl _ _).alloc hbase _
  exact h v' w' (by unfold OwnG; rw [List.length_append, List.flatMap_append]; simpa using q1) (hB1.trans (grown_keeps q2 (fun k hk => (hown.block k hk).1) (by simp; omega)))
theorem build_ent' (ks : List Value) (hk : ks.length = 32) (sp : Option Addr) (n c : Nat) (w : World) : (Instr.build 67 #[(0, .agg ks.toArray), (1, .slice sp n c)]).run Tryz.prog w = .ok (.agg (ks ++ [Value.slice sp n c]).toArray) w := by
  obtain ⟨x0, x1, x2, x3, x4, x5, x6, x7, x8, x9, x10, x11, x12, x13, x14, x15, x16, x17, x18, x19, x20, x21, x22, x23, x24, x25, x26, x27, x28, x29, x30, x31, rfl⟩ := list32 hk
  kernel_rfl
theorem yields_buildG {ops : Array Oper} {S : World → Prop} {o : Oper} {a : Act} (hw : Region.wanted o (yielded ops a.tmps) = true) (x z : Operand) (ho : o.op = .build 67 #[(0, x), (1, z)])
    (k : List Int) (hk : k.length = 32) (sp : Option Addr) (n c : Nat) (hx : a.eval x = .agg (ints .u8 k).toArray) (hz : a.eval z = .slice sp n c) :
    YieldsIf Tryz.prog ops S o (.agg (encG ⟨k, .slice sp n c⟩).toArray) a :=
  .inl ⟨hw, fun w _ => by
    unfold execOp
    simp only [ho, List.map_toArray, List.map_cons, List.map_nil, hx, hz, Sem.run_bind, build_ent' (ints .u8 k) (by rw [ints_len, hk]) sp n c w, Result.andThen_ok, Sem.run_pure]
    rfl⟩
set_option maxRecDepth 100000 in
set_option maxHeartbeats 4000000 in
theorem apply0_any (w : World) (cs : List Chg) (sp : Option Addr) (cap b0 o0 : Nat) (ms0 : List MC) (hC : Chs w sp cap cs b0 o0 ms0) (hok : ∀ c ∈ cs, OkC c) (hp : cs.map plainC = cs) (hs : cs.Pairwise LtC) (hlen : cs.length ≤ 4096) :
    Calls Tryz.prog 15 #[.slice none 0 0, .slice sp cs.length cap] w fun e w' => ∃ v, e = .returned v ∧ OwnE w' w.heap.size v (entsC cs) ∧ Below w.heap.size w w' := by
  have K1 := hid (rsorted_any cs.length w cs sp cap b0 o0 ms0 hC hok (Nat.le_refl _) (by omega))
  have HU := hid (show ∀ l : List Chg, l.Perm (cs.map plainC) → l.Pairwise LeC → l = cs from fun l h1 h2 => by
    have nd := pairwise_ne_of_lt hs
    rw [norm_unique h1 h2 nd]
    exact (norm_unique (cs := cs) (l := cs) (by rw [hp]) (hs.imp fun h => h.le) nd).symm)
  go_enter Tryz.func15, Tryz.ntmps15
  go_wp2_with fail
  refine K1.out.mono ?_
  rintro e w1 ⟨v, l, rfl, q1, q2, hM, hb1⟩
  clear K1
  obtain rfl := HU.out l q1 q2
  clear q1 q2 HU hC
  obtain ⟨sp1, cap1, b, ms, rfl, hL, _⟩ := hM.chs
  have hs1 := hb1.size
  clear hM
  have i0 : (l.length : Int) ≤ 4096 := by omega
  have HL0 := hid hL
  go_wp2_with fail
  go_loopw [6, 7, 8, 9] (fun ov iv jv _ wr => ∃ (j : Nat) (vo : Value), vo = ov ∧ j ≤ l.length ∧ iv = .int .i64 0 ∧ jv = .int .i64 j ∧ ∃ ns, OwnG wr w1.heap.size vo ns ∧ SaysGL w1 ns (entsC (l.take j)) ∧ Below w1.heap.size w1 wr) (fun _ _ jv _ _ => l.length - (intOf jv).toNat)
  case atStart => exact ⟨0, _, rfl, by omega, rfl, rfl, [], OwnG.nil _ _, SaysGL.nil _, Below.refl _ _⟩
  case round =>
    obtain ⟨j, vo, rfl, hj, rfl, rfl, ns, hO, hG, hB⟩ := hrel
    by_cases hlt' : j < l.length
    · have i1 : (j : Int) < (l.length : Int) := by omega
      obtain ⟨hbl0, rfl⟩ := hL.pos (by omega)
      obtain ⟨sv, cv, r1, r2, r3, r4, r5, r6, r7⟩ := hL.at j hlt'
      simp only [Nat.zero_add] at r1 r2 r3
      have hik := hid (show (Tryz.prog.info? 24).map (·.size) = some (ints .u8 (l.getD j dC).key).length by rw [Tryz.sizeKy, ints_len, r6])
      have HT := hid (show l.take (j + 1) = l.take j ++ [l.getD j dC] from take_snocC l j hlt')
      have hnl : ns.length ≤ 4096 := by
        have h1 := hG.1
        have h2 := entsC_len (l.take j)
        rw [List.length_take] at h2
        omega
      generalize l.getD j dC = c at *
      have HB := hid hB
      have HO := hid hO
      have HG := hid hG
      have cd := hid r2
      clear hB hO hG r2
      go_wp2_with fail
      go_loopw [6, 7, 9] (fun ov2 iv2 _ wr2 => vo = ov2 ∧ iv2 = .int .i64 0 ∧ wr2 = wr) (fun _ _ _ _ => 0)
      case atStart => exact ⟨rfl, rfl, rfl⟩
      case round =>
        obtain ⟨rfl, rfl, rfl⟩ := hrel
        go_wp2_with fail
        refine wp_region_noPanic ?_
        refine wp_region_held_drew (S := (fun w' => Below w1.heap.size w1 w')) (by kernel_rfl) HB.out.drew (fun hHeld => ?_)
        refine wpAnyH_take (i := 0) (oi := { dst := some 44, op := Op.move (Operand.tmp 7), type := 3, pos := "ref.go:304", after := #[], guard := none }) (v := .int .i64 0) rfl (by kernel_rfl) (by kernel_rfl) (by kernel_rfl) (fun _ _ _ h => h) (Or.inl ⟨by rfl, by intro w hS; go_simp⟩) hHeld ?_
        try simp only [Act.put, List.setIfInBounds_toArray, List.set_cons_zero, List.set_cons_succ]
        refine wpAnyH_take (i := 1) (oi := { dst := some 45, op := Op.move (Operand.tmp 0), type := 26, pos := "ref.go:304", after := #[], guard := none }) (v := .slice none 0 0) rfl (by kernel_rfl) (by kernel_rfl) (by kernel_rfl) (fun _ _ _ h => h) (Or.inl ⟨by rfl, by intro w hS; go_simp⟩) hHeld ?_
        try simp only [Act.put, List.setIfInBounds_toArray, List.set_cons_zero, List.set_cons_succ]
        refine wpAnyH_take (i := 2) (oi := { dst := some 46, op := Op.call { callee := Callee.builtin Builtin.len, args := #[Operand.tmp 45], argTypes := #[26] }, type := 3, pos := "ref.go:304", after := #[{ on := 1, ground := Ground.data }], guard := none }) (v := .int .i64 0) rfl (by kernel_rfl) (by kernel_rfl) (by kernel_rfl) (fun _ _ _ h => h) (Or.inl ⟨by rfl, by intro w hS; go_simp⟩) hHeld ?_
        try simp only [Act.put, List.setIfInBounds_toArray, List.set_cons_zero, List.set_cons_succ]
        refine wpAnyH_take (i := 3) (oi := { dst := some 47, op := Op.binOp BinOp.lss 3 (Operand.tmp 44) (Operand.tmp 46) 3, type := 4, pos := "ref.go:304", after := #[{ on := 0, ground := Ground.data }, { on := 2, ground := Ground.data }], guard := none }) (v := .bool false) rfl (by kernel_rfl) (by kernel_rfl) (by kernel_rfl) (fun _ _ _ h => h) (Or.inl ⟨by rfl, by intro w hS; go_simp⟩) hHeld ?_
        try simp only [Act.put, List.setIfInBounds_toArray, List.set_cons_zero, List.set_cons_succ]
        refine wpAnyH_take (i := 4) (oi := { dst := some 48, op := Op.move (Operand.tmp 47), type := 4, pos := "ref.go:304", after := #[{ on := 3, ground := Ground.data }], guard := none }) (v := .bool false) rfl (by kernel_rfl) (by kernel_rfl) (by kernel_rfl) (fun _ _ _ h => h) (Or.inl ⟨by rfl, by intro w hS; go_simp⟩) hHeld ?_
        try simp only [Act.put, List.setIfInBounds_toArray, List.set_cons_zero, List.set_cons_succ]
        refine wpAnyH_take (i := 5) (oi := { dst := some 49, op := Op.move (Operand.tmp 0), type := 26, pos := "ref.go:304", after := #[{ on := 4, ground := Ground.guard }], guard := some (4, true) }) (v := undef) rfl (by kernel_rfl) (by kernel_rfl) (by kernel_rfl) (fun _ _ _ h => h) (Or.inr ⟨by rfl, rfl⟩) hHeld ?_
        try simp only [Act.put, List.setIfInBounds_toArray, List.set_cons_zero, List.set_cons_succ]
        refine wpAnyH_take (i := 6) (oi := { dst := some 50, op := Op.move (Operand.tmp 7), type := 3, pos := "ref.go:304", after := #[{ on := 4, ground := Ground.guard }], guard := some (4, true) }) (v := undef) rfl (by kernel_rfl) (by kernel_rfl) (by kernel_rfl) (fun _ _ _ h => h) (Or.inr ⟨by rfl, rfl⟩) hHeld ?_
        try simp only [Act.put, List.setIfInBounds_toArray, List.set_cons_zero, List.set_cons_succ]
        refine wpAnyH_take (i := 10) (oi := { dst := some 54, op := Op.move (Operand.tmp 5), type := 22, pos := "ref.go:304", after := #[{ on := 4, ground := Ground.guard }], guard := some (4, true) }) (v := undef) rfl (by kernel_rfl) (by kernel_rfl) (by kernel_rfl) (fun _ _ _ h => h) (Or.inr ⟨by rfl, rfl⟩) hHeld ?_
        try simp only [Act.put, List.setIfInBounds_toArray, List.set_cons_zero, List.set_cons_succ]
        refine wpAnyH_take (i := 11) (oi := { dst := some 55, op := Op.move (Operand.tmp 8), type := 3, pos := "ref.go:304", after := #[{ on := 4, ground := Ground.guard }], guard := some (4, true) }) (v := undef) rfl (by kernel_rfl) (by kernel_rfl) (by kernel_rfl) (fun _ _ _ h => h) (Or.inr ⟨by rfl, rfl⟩) hHeld ?_
        try simp only [Act.put, List.setIfInBounds_toArray, List.set_cons_zero, List.set_cons_succ]
        refine wpAnyH_take (i := 7) (oi := { dst := some 51, op := Op.indexAddr 26 (Operand.tmp 49) (Operand.tmp 50), type := 0, pos := "ref.go:304", after := #[{ on := 5, ground := Ground.data }, { on := 6, ground := Ground.data }, { on := 4, ground := Ground.guard }], guard := some (4, true) }) (v := undef) rfl (by kernel_rfl) (by kernel_rfl) (by kernel_rfl) (fun _ _ _ h => h) (Or.inr ⟨by rfl, rfl⟩) hHeld ?_
        try simp only [Act.put, List.setIfInBounds_toArray, List.set_cons_zero, List.set_cons_succ]
        refine wpAnyH_take (i := 12) (oi := { dst := some 56, op := Op.indexAddr 22 (Operand.tmp 54) (Operand.tmp 55), type := 0, pos := "ref.go:304", after := #[{ on := 10, ground := Ground.data }, { on := 11, ground := Ground.data }, { on := 4, ground := Ground.guard }], guard := some (4, true) }) (v := undef) rfl (by kernel_rfl) (by kernel_rfl) (by kernel_rfl) (fun _ _ _ h => h) (Or.inr ⟨by rfl, rfl⟩) hHeld ?_
        try simp only [Act.put, List.setIfInBounds_toArray, List.set_cons_zero, List.set_cons_succ]
        refine wpAnyH_take (i := 8) (oi := { dst := some 52, op := Op.fieldAddr 67 (Operand.tmp 51) 0, type := 0, pos := "ref.go:304", after := #[{ on := 7, ground := Ground.data }, { on := 4, ground := Ground.guard }], guard := some (4, true) }) (v := undef) rfl (by kernel_rfl) (by kernel_rfl) (by kernel_rfl) (fun _ _ _ h => h) (Or.inr ⟨by rfl, rfl⟩) hHeld ?_
        try simp only [Act.put, List.setIfInBounds_toArray, List.set_cons_zero, List.set_cons_succ]
        refine wpAnyH_take (i := 13) (oi := { dst := some 57, op := Op.fieldAddr 79 (Operand.tmp 56) 0, type := 0, pos := "ref.go:304", after := #[{ on := 12, ground := Ground.data }, { on := 4, ground := Ground.guard }], guard := some (4, true) }) (v := undef) rfl (by kernel_rfl) (by kernel_rfl) (by kernel_rfl) (fun _ _ _ h => h) (Or.inr ⟨by rfl, rfl⟩) hHeld ?_
        try simp only [Act.put, List.setIfInBounds_toArray, List.set_cons_zero, List.set_cons_succ]
        refine wpAnyH_take (i := 9) (oi := { dst := some 53, op := Op.load 24 (Operand.tmp 52), type := 24, pos := "ref.go:304", after := #[{ on := 8, ground := Ground.data }, { on := 4, ground := Ground.guard }], guard := some (4, true) }) (v := undef) rfl (by kernel_rfl) (by kernel_rfl) (by kernel_rfl) (fun _ _ _ h => h) (Or.inr ⟨by rfl, rfl⟩) hHeld ?_
        try simp only [Act.put, List.setIfInBounds_toArray, List.set_cons_zero, List.set_cons_succ]
        refine wpAnyH_take (i := 14) (oi := { dst := some 58, op := Op.load 24 (Operand.tmp 57), type := 24, pos := "ref.go:304", after := #[{ on := 13, ground := Ground.data }, { on := 4, ground := Ground.guard }], guard := some (4, true) }) (v := undef) rfl (by kernel_rfl) (by kernel_rfl) (by kernel_rfl) (fun _ _ _ h => h) (Or.inr ⟨by rfl, rfl⟩) hHeld ?_
        try simp only [Act.put, List.setIfInBounds_toArray, List.set_cons_zero, List.set_cons_succ]
        refine wpAnyH_take (i := 15) (oi := { dst := some 59, op := Op.binOp BinOp.eql 24 (Operand.tmp 53) (Operand.tmp 58) 24, type := 4, pos := "ref.go:304", after := #[{ on := 9, ground := Ground.data }, { on := 14, ground := Ground.data }, { on := 4, ground := Ground.guard }], guard := some (4, true) }) (v := undef) rfl (by kernel_rfl) (by kernel_rfl) (by kernel_rfl) (fun _ _ _ h => h) (Or.inr ⟨by rfl, rfl⟩) hHeld ?_
        try simp only [Act.put, List.setIfInBounds_toArray, List.set_cons_zero, List.set_cons_succ]
        refine wpAnyH_take (i := 16) (oi := { dst := some 60, op := Op.pick (Operand.tmp 48) (Operand.tmp 59) (Operand.const (Value.bool false)), type := 4, pos := "ref.go:304", after := #[{ on := 4, ground := Ground.data }, { on := 15, ground := Ground.data }], guard := none }) (v := .bool false) rfl (by kernel_rfl) (by kernel_rfl) (by kernel_rfl) (fun _ _ _ h => h) (Or.inl ⟨by rfl, by intro w hS; go_simp⟩) hHeld ?_
        try simp only [Act.put, List.setIfInBounds_toArray, List.set_cons_zero, List.set_cons_succ]
        refine wpAnyH_done (by kernel_rfl) ?_ _
        refine NoPanic.normal ?_
        have HBd := hid hHeld
        have HOw := hid (show OwnG wr.drew w1.heap.size vo ns from HO.out)
        clear hHeld
        have cd2 := (HBd.out.cell (p := ⟨b, j * 34 + 32, none⟩) hbl0).trans cd.out
        cases hdel : c.del
        · rw [hdel] at cd2
          have HDel := hid hdel
          clear hdel
          have HBd2 := hid (show Below w1.heap.size w1 wr.drew.drew from HBd.out.drew)
          have HOd2 := hid (show OwnG wr.drew.drew w1.heap.size vo ns from HOw.out)
          have LE := hid (show (encG ⟨c.key, .slice sv c.val.length cv⟩).length = 33 by simp [encG, ints_len, r6])
          have OE := hid (show ∀ y ∈ encG ⟨c.key, .slice sv c.val.length cv⟩, y.oneCell' = true from fun y hy => by rcases List.mem_append.1 hy with h | h; exact ints_one _ _ y h; rw [List.mem_singleton.1 h]; rfl)
          have hnl2 := hid (show ns.length + 1 ≤ 1000000000000 by omega)
          have HBs := hid HBd2.out.size
          have SS := hid (show SaysGL w1 (ns ++ [⟨c.key, .slice sv c.val.length cv⟩]) (entsC (l.take j) ++ [entC c]) from HG.out.snoc ⟨rfl, r6, sv, cv, rfl, r4, r5⟩)
          go_wp2_with fail
          refine wp_region_noPanic ?_
          refine wp_region_held_drew (S := (fun w' => Below w1.heap.size w1 w')) (by kernel_rfl) HBd.out.drew (fun hHeld => ?_)
          refine wpAnyH_take (i := 0) (oi := { dst := some 69, op := Op.move (Operand.tmp 6), type := 26, pos := "ref.go:308", after := #[], guard := none }) (v := vo) rfl (by kernel_rfl) (by kernel_rfl) (by kernel_rfl) (fun _ _ _ h => h) (Or.inl ⟨by rfl, by intro w hS; go_simp⟩) hHeld ?_
          try simp only [Act.put, List.setIfInBounds_toArray, List.set_cons_zero, List.set_cons_succ]
          refine wpAnyH_take (i := 1) (oi := { dst := some 70, op := Op.move (Operand.tmp 5), type := 22, pos := "ref.go:308", after := #[], guard := none }) (v := .slice (some ⟨b, 0, none⟩) l.length cap1) rfl (by kernel_rfl) (by kernel_rfl) (by kernel_rfl) (fun _ _ _ h => h) (Or.inl ⟨by rfl, by intro w hS; go_simp⟩) hHeld ?_
          try simp only [Act.put, List.setIfInBounds_toArray, List.set_cons_zero, List.set_cons_succ]
          refine wpAnyH_take (i := 2) (oi := { dst := some 71, op := Op.move (Operand.tmp 8), type := 3, pos := "ref.go:308", after := #[], guard := none }) (v := .int .i64 j) rfl (by kernel_rfl) (by kernel_rfl) (by kernel_rfl) (fun _ _ _ h => h) (Or.inl ⟨by rfl, by intro w hS; go_simp⟩) hHeld ?_
          try simp only [Act.put, List.setIfInBounds_toArray, List.set_cons_zero, List.set_cons_succ]
          refine wpAnyH_take (i := 6) (oi := { dst := some 75, op := Op.move (Operand.tmp 5), type := 22, pos := "ref.go:308", after := #[], guard := none }) (v := .slice (some ⟨b, 0, none⟩) l.length cap1) rfl (by kernel_rfl) (by kernel_rfl) (by kernel_rfl) (fun _ _ _ h => h) (Or.inl ⟨by rfl, by intro w hS; go_simp⟩) hHeld ?_
          try simp only [Act.put, List.setIfInBounds_toArray, List.set_cons_zero, List.set_cons_succ]
          refine wpAnyH_take (i := 7) (oi := { dst := some 76, op := Op.move (Operand.tmp 8), type := 3, pos := "ref.go:308", after := #[], guard := none }) (v := .int .i64 j) rfl (by kernel_rfl) (by kernel_rfl) (by kernel_rfl) (fun _ _ _ h => h) (Or.inl ⟨by rfl, by intro w hS; go_simp⟩) hHeld ?_
          try simp only [Act.put, List.setIfInBounds_toArray, List.set_cons_zero, List.set_cons_succ]
          refine wpAnyH_take (i := 3) (oi := { dst := some 72, op := Op.indexAddr 22 (Operand.tmp 70) (Operand.tmp 71), type := 0, pos := "ref.go:308", after := #[{ on := 1, ground := Ground.data }, { on := 2, ground := Ground.data }], guard := none }) (v := .pointer (some ⟨b, j * 34, none⟩)) rfl (by kernel_rfl) (by kernel_rfl) (by kernel_rfl) (fun _ _ _ h => h) (Or.inl ⟨by rfl, by intro w hS; go_simp⟩) hHeld ?_
          try simp only [Act.put, List.setIfInBounds_toArray, List.set_cons_zero, List.set_cons_succ]
          refine wpAnyH_take (i := 8) (oi := { dst := some 77, op := Op.indexAddr 22 (Operand.tmp 75) (Operand.tmp 76), type := 0, pos := "ref.go:308", after := #[{ on := 6, ground := Ground.data }, { on := 7, ground := Ground.data }], guard := none }) (v := .pointer (some ⟨b, j * 34, none⟩)) rfl (by kernel_rfl) (by kernel_rfl) (by kernel_rfl) (fun _ _ _ h => h) (Or.inl ⟨by rfl, by intro w hS; go_simp⟩) hHeld ?_
          try simp only [Act.put, List.setIfInBounds_toArray, List.set_cons_zero, List.set_cons_succ]
          refine wpAnyH_take (i := 4) (oi := { dst := some 73, op := Op.fieldAddr 79 (Operand.tmp 72) 0, type := 0, pos := "ref.go:308", after := #[{ on := 3, ground := Ground.data }], guard := none }) (v := .pointer (some ⟨b, j * 34, none⟩)) rfl (by kernel_rfl) (by kernel_rfl) (by kernel_rfl) (fun _ _ _ h => h) (Or.inl ⟨by rfl, by intro w hS; go_simp⟩) hHeld ?_
          try simp only [Act.put, List.setIfInBounds_toArray, List.set_cons_zero, List.set_cons_succ]
          refine wpAnyH_take (i := 9) (oi := { dst := some 78, op := Op.fieldAddr 79 (Operand.tmp 77) 2, type := 0, pos := "ref.go:308", after := #[{ on := 8, ground := Ground.data }], guard := none }) (v := .pointer (some ⟨b, j * 34 + 33, none⟩)) rfl (by kernel_rfl) (by kernel_rfl) (by kernel_rfl) (fun _ _ _ h => h) (Or.inl ⟨by rfl, by intro w hS; go_simp⟩) hHeld ?_
          try simp only [Act.put, List.setIfInBounds_toArray, List.set_cons_zero, List.set_cons_succ]
          refine wpAnyH_take (i := 5) (oi := { dst := some 74, op := Op.load 24 (Operand.tmp 73), type := 24, pos := "ref.go:308", after := #[{ on := 4, ground := Ground.data }], guard := none }) (v := .agg (ints .u8 c.key).toArray) rfl (by kernel_rfl) (by kernel_rfl) (by kernel_rfl) (fun _ _ _ h => h) (yieldsIf_load_mid (by rfl) 24 _ rfl b (j * 34) rfl (ints .u8 c.key) _ (fun w hS => rng_below r1 hS hbl0) Tryz.underlying24 rfl hik.out) hHeld ?_
          try simp only [Act.put, List.setIfInBounds_toArray, List.set_cons_zero, List.set_cons_succ]
          refine wpAnyH_take (i := 10) (oi := { dst := some 79, op := Op.load 30 (Operand.tmp 78), type := 30, pos := "ref.go:308", after := #[{ on := 9, ground := Ground.data }], guard := none }) (v := .slice sv c.val.length cv) rfl (by kernel_rfl) (by kernel_rfl) (by kernel_rfl) (fun _ _ _ h => h) (Or.inl ⟨by rfl, by intro w hS; have hc := (hS.cell (p := ⟨b, j * 34 + 33, none⟩) hbl0).trans r3; go_simp⟩) hHeld ?_
          try simp only [Act.put, List.setIfInBounds_toArray, List.set_cons_zero, List.set_cons_succ]
          refine wpAnyH_take (i := 11) (oi := { dst := some 80, op := Op.build 67 #[(0, Operand.tmp 74), (1, Operand.tmp 79)], type := 67, pos := "ref.go:308", after := #[{ on := 5, ground := Ground.data }, { on := 10, ground := Ground.data }], guard := none }) (v := .agg (encG ⟨c.key, .slice sv c.val.length cv⟩).toArray) rfl (by kernel_rfl) (by kernel_rfl) (by kernel_rfl) (fun _ _ _ h => h) (yields_buildG (by rfl) _ _ rfl c.key r6 sv c.val.length cv rfl rfl) hHeld ?_
          try simp only [Act.put, List.setIfInBounds_toArray, List.set_cons_zero, List.set_cons_succ]
          refine wpAnyH_ready (rs := [12]) (by kernel_rfl) (by simp) ?_
          refine (AllReadyH.cons (o := { dst := some 81, op := Op.buildSlice 26 1 #[(0, Operand.tmp 80)], type := 26, pos := "ref.go:308", after := #[{ on := 11, ground := Ground.data }], guard := none }) rfl (fun K hK => ?_) AllReadyH.nil)
          refine step_sliceG (by rfl) (.tmp 80) rfl _ LE.out rfl ?_
          refine hK.out _ _ (hHeld.alloc hHeld.size _) (fun hHeld2 => ?_)
          clear hK K hHeld
          have hHeld := hHeld2
          clear hHeld2
          try simp only [Act.put, List.setIfInBounds_toArray, List.set_cons_zero, List.set_cons_succ]
          refine wpAnyH_ready (rs := [13]) (by kernel_rfl) (by simp) ?_
          refine (AllReadyH.cons (o := { dst := some 82, op := Op.call { callee := Callee.builtin Builtin.append, args := #[Operand.tmp 69, Operand.tmp 81], argTypes := #[26, 26] }, type := 26, pos := "ref.go:308", after := #[{ on := 0, ground := Ground.data }, { on := 12, ground := Ground.data }], guard := none }) rfl (fun K hK => ?_) AllReadyH.nil)
          refine step_pushG rfl (.tmp 69) (.tmp 81) rfl w1.heap.size _ ns ⟨c.key, .slice sv c.val.length cv⟩ rfl HOd2.out rfl LE.out OE.out hnl2.out HBs.out _ _ ?_
          intro v7 w7 hO7 hB7
          refine hK.out _ _ (HBd2.out.trans hB7) (fun hHeld2 => ?_)
          clear hK K hHeld
          have hHeld := hHeld2
          clear hHeld2
          try simp only [Act.put, List.setIfInBounds_toArray, List.set_cons_zero, List.set_cons_succ]
          refine wpAnyH_take (i := 14) (oi := { dst := some 6, op := Op.assign (Operand.tmp 82), type := 26, pos := "ref.go:308", after := #[{ on := 13, ground := Ground.data }, { on := 13, ground := Ground.chain }, { on := 0, ground := Ground.phase }, { on := 1, ground := Ground.phase }, { on := 2, ground := Ground.phase }, { on := 3, ground := Ground.phase }, { on := 4, ground := Ground.phase }, { on := 5, ground := Ground.phase }, { on := 6, ground := Ground.phase }, { on := 7, ground := Ground.phase }, { on := 8, ground := Ground.phase }, { on := 9, ground := Ground.phase }, { on := 10, ground := Ground.phase }, { on := 11, ground := Ground.phase }, { on := 12, ground := Ground.phase }, { on := 13, ground := Ground.phase }], guard := none }) (v := v7) rfl (by kernel_rfl) (by kernel_rfl) (by kernel_rfl) (fun _ _ _ h => h) (Or.inl ⟨by rfl, by intro w hS; go_simp⟩) hHeld ?_
          try simp only [Act.put, List.setIfInBounds_toArray, List.set_cons_zero, List.set_cons_succ]
          refine wpAnyH_done (by kernel_rfl) ?_ _
          refine NoPanic.normal ?_
          have HB7 := hid hHeld
          have HO7 := hid hO7
          clear hHeld hO7 hB7
          go_wp2_with fail
          go_roundw
          case rel => exact ⟨j + 1, _, rfl, by omega, rfl, by go_num, _, HO7.out, by rw [HT.out, entsC_snoc_put _ HDel.out]; exact SS.out, HB7.out⟩
          case measure => simp [intOf]; omega
        · rw [hdel] at cd2
          have HDel := hid hdel
          clear hdel
          go_wp2_with fail
          go_roundw
          case rel => exact ⟨j + 1, _, rfl, by omega, rfl, by go_num, ns, HOw.out, by rw [HT.out, entsC_snoc_del _ HDel.out]; exact HG.out, HBd.out⟩
          case measure => simp [intOf]; omega
    · obtain rfl : j = l.length := by omega
      have i1 : ¬ (l.length : Int) < (l.length : Int) := by omega
      rw [List.take_length] at hG
      have HE := hid (show OwnE wr w.heap.size vo (entsC l) from ⟨ns, hO.base hs1, hG.below hB⟩)
      have HB := hid (hb1.trans (hB.mono hs1))
      clear hO hG hB
      go_wp2_with fail
      go_loopw [6, 7] (fun ov2 iv2 wr2 => vo = ov2 ∧ iv2 = .int .i64 0 ∧ wr = wr2) (fun _ _ _ => 0)
      case atStart => exact ⟨rfl, rfl, rfl⟩
      case round =>
        obtain ⟨rfl, rfl, rfl⟩ := hrel
        go_wp2_with fail
        go_ret
        exact ⟨_, rfl, HE.out, HB.out⟩
end Go.Proofs.YtbjahdbmkcamoaaGreatDoor
