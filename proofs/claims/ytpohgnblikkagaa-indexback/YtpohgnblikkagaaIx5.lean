import Derived.Test.YtpohgnblikkagaaIx4
namespace Go.Proofs.Ytpohgnblikkagaa
set_option linter.unusedVariables false
set_option linter.unusedSimpArgs false
open Go.RowKit
attribute [local go_sem ↓] Go.wp_at_zero Go.wp_at_succ

theorem src_new (w : World) (ys : List Int) (t : TypeId) (fr : Nat × Nat) (hl : ys.length ≤ maxLen) : Src (w.alloc (.cells (ints .u8 ys).toArray t fr)) (some ⟨w.heap.size, 0, none⟩) ys.length ys :=
  ⟨Nat.le_refl _, hl, w.heap.size, 0, fun _ => by simp, fun _ => rfl, fun j hj => by rw [Nat.zero_add]; exact cell_ints (hnew w _) j hj⟩
theorem own_lower {w : World} {b0 b1 : Nat} {v : Value} {zs : List Int} (h : Own w b1 v zs) (hb : b0 ≤ b1) : Own w b0 v zs := by
  refine ⟨h.1, ?_⟩
  rcases h.2 with h2 | ⟨g, cap, cur, rfl, hg, r⟩
  · exact Or.inl h2
  · exact Or.inr ⟨g, cap, cur, rfl, by omega, r⟩
theorem src_rng {w : World} {g o : Nat} {zs : List Int} (h : w.rangeAt g o (ints .u8 zs)) (hg : g < w.heap.size) (cap : Nat) (hc : zs.length ≤ cap) (hm : cap ≤ maxLen) : Src w (some ⟨g, o, none⟩) cap zs :=
  ⟨hc, hm, g, o, fun _ => hg, fun _ => rfl, fun j hj => h j _ (ints_get .u8 zs j hj)⟩
theorem wpList_idx {P : Program} {ops : Array Oper} {rest : List Oper} {o : Oper} {a : Act} {w : World} {Q : Exit → Act → World → Prop} (hg : o.guard = none) (t : TypeId) (x y : Operand) (ho : o.op = .index t x y) (v : Value) (hv : (Instr.index t (a.eval x) (a.eval y)).run P w = .ok v w)
    (h : wpList P ops Q rest (a.put o.dst v) w) : wpList P ops Q (o :: rest) a w := by
  refine wpList_plain hg fun K hK => ?_
  unfold Oper.wp execOp
  simp only [ho, Sem.run_bind, hv, Result.andThen_ok, Sem.run_pure]
  exact hK _ _ h
set_option maxRecDepth 100000 in
set_option maxHeartbeats 4000000 in
theorem iencode_no (w : World) (x : Rc) (ok : RcOk x) (hn : ¬ RightR x) :
    Calls Try.prog 4 #[.agg (rcC x).toArray] w fun e w' => e = .returned (.tuple #[.slice none 0 0, .int .i64 150]) ∧ Below w.heap.size w w' := by
  have d0 := (BK.nil w).alloc (rcC x) 25
  have HS := hid (show (Try.prog.info? 25).map (·.size) = some (rcC x).toArray.size by rw [Try.sizeRc, List.size_toArray, rcC_len ok])
  have KR := hid (fun w1 => iright_any w1 x ok)
  rw [decide_eq_false hn] at KR
  generalize rcC x = C at *
  have r0 := d0.row (.head _)
  go_enter Try.func4, Try.ntmps4
  go_wp2_with (first | refine wpList_load_row_w (by rfl) 25 _ (by rfl) _ (by rfl) 25 _ _ _ r0 Try.underlying25 rfl HS.out ?_)
  refine (KR.out _).mono ?_
  rintro e w1 ⟨rfl, hb⟩
  go_wp2
  exact bodyPost_ret (results_tmp2 Try.results4 _ _ _) rfl ⟨rfl, (d0.call hb).1⟩
theorem build6 (a b c d e f : Int) : Try.prog.built 41 [(0, .int .i64 a), (1, .int .i64 b), (2, .int .i64 c), (3, .int .i64 d), (4, .int .i64 e), (5, .int .i64 f)] = some (ints .i64 [a, b, c, d, e, f]).toArray := by kernel_rfl
theorem und6 : Try.prog.underlying 41 = some (.array 6 3) := by kernel_rfl
theorem index6_0 (a b c d e f : Int) (w : World) : (Instr.index 41 (.agg #[.int .i64 a, .int .i64 b, .int .i64 c, .int .i64 d, .int .i64 e, .int .i64 f]) (.int .i64 0)).run Try.prog w = .ok (.int .i64 a) w := by
  have hu3 : Try.prog.underlying 3 = some (.int .i64) := by kernel_rfl
  have hp := part_int hu3 #[.int .i64 a, .int .i64 b, .int .i64 c, .int .i64 d, .int .i64 e, .int .i64 f] 0 (.int .i64 a) rfl w
  have hs : (Try.prog.info? 3).map (·.size) = some 1 := by kernel_rfl
  obtain ⟨i, hi, hs⟩ := Option.map_eq_some_iff.1 hs
  unfold Instr.index
  simp [Sem.run_bind, run_underlying und6, sizeOf, typeInfo, hi, hs, asIntOf, hp]
theorem index6_1 (a b c d e f : Int) (w : World) : (Instr.index 41 (.agg #[.int .i64 a, .int .i64 b, .int .i64 c, .int .i64 d, .int .i64 e, .int .i64 f]) (.int .i64 1)).run Try.prog w = .ok (.int .i64 b) w := by
  have hu3 : Try.prog.underlying 3 = some (.int .i64) := by kernel_rfl
  have hp := part_int hu3 #[.int .i64 a, .int .i64 b, .int .i64 c, .int .i64 d, .int .i64 e, .int .i64 f] 1 (.int .i64 b) rfl w
  have hs : (Try.prog.info? 3).map (·.size) = some 1 := by kernel_rfl
  obtain ⟨i, hi, hs⟩ := Option.map_eq_some_iff.1 hs
  unfold Instr.index
  simp [Sem.run_bind, run_underlying und6, sizeOf, typeInfo, hi, hs, asIntOf, hp]
theorem index6_2 (a b c d e f : Int) (w : World) : (Instr.index 41 (.agg #[.int .i64 a, .int .i64 b, .int .i64 c, .int .i64 d, .int .i64 e, .int .i64 f]) (.int .i64 2)).run Try.prog w = .ok (.int .i64 c) w := by
  have hu3 : Try.prog.underlying 3 = some (.int .i64) := by kernel_rfl
  have hp := part_int hu3 #[.int .i64 a, .int .i64 b, .int .i64 c, .int .i64 d, .int .i64 e, .int .i64 f] 2 (.int .i64 c) rfl w
  have hs : (Try.prog.info? 3).map (·.size) = some 1 := by kernel_rfl
  obtain ⟨i, hi, hs⟩ := Option.map_eq_some_iff.1 hs
  unfold Instr.index
  simp [Sem.run_bind, run_underlying und6, sizeOf, typeInfo, hi, hs, asIntOf, hp]
theorem index6_3 (a b c d e f : Int) (w : World) : (Instr.index 41 (.agg #[.int .i64 a, .int .i64 b, .int .i64 c, .int .i64 d, .int .i64 e, .int .i64 f]) (.int .i64 3)).run Try.prog w = .ok (.int .i64 d) w := by
  have hu3 : Try.prog.underlying 3 = some (.int .i64) := by kernel_rfl
  have hp := part_int hu3 #[.int .i64 a, .int .i64 b, .int .i64 c, .int .i64 d, .int .i64 e, .int .i64 f] 3 (.int .i64 d) rfl w
  have hs : (Try.prog.info? 3).map (·.size) = some 1 := by kernel_rfl
  obtain ⟨i, hi, hs⟩ := Option.map_eq_some_iff.1 hs
  unfold Instr.index
  simp [Sem.run_bind, run_underlying und6, sizeOf, typeInfo, hi, hs, asIntOf, hp]
theorem index6_4 (a b c d e f : Int) (w : World) : (Instr.index 41 (.agg #[.int .i64 a, .int .i64 b, .int .i64 c, .int .i64 d, .int .i64 e, .int .i64 f]) (.int .i64 4)).run Try.prog w = .ok (.int .i64 e) w := by
  have hu3 : Try.prog.underlying 3 = some (.int .i64) := by kernel_rfl
  have hp := part_int hu3 #[.int .i64 a, .int .i64 b, .int .i64 c, .int .i64 d, .int .i64 e, .int .i64 f] 4 (.int .i64 e) rfl w
  have hs : (Try.prog.info? 3).map (·.size) = some 1 := by kernel_rfl
  obtain ⟨i, hi, hs⟩ := Option.map_eq_some_iff.1 hs
  unfold Instr.index
  simp [Sem.run_bind, run_underlying und6, sizeOf, typeInfo, hi, hs, asIntOf, hp]
theorem index6_5 (a b c d e f : Int) (w : World) : (Instr.index 41 (.agg #[.int .i64 a, .int .i64 b, .int .i64 c, .int .i64 d, .int .i64 e, .int .i64 f]) (.int .i64 5)).run Try.prog w = .ok (.int .i64 f) w := by
  have hu3 : Try.prog.underlying 3 = some (.int .i64) := by kernel_rfl
  have hp := part_int hu3 #[.int .i64 a, .int .i64 b, .int .i64 c, .int .i64 d, .int .i64 e, .int .i64 f] 5 (.int .i64 f) rfl w
  have hs : (Try.prog.info? 3).map (·.size) = some 1 := by kernel_rfl
  obtain ⟨i, hi, hs⟩ := Option.map_eq_some_iff.1 hs
  unfold Instr.index
  simp [Sem.run_bind, run_underlying und6, sizeOf, typeInfo, hi, hs, asIntOf, hp]
def encTo (ns : List Int) (k : Nat) : List Int := ((ns.take k).map four).flatten
theorem encTo_len (ns : List Int) : ∀ k, (encTo ns k).length ≤ 4 * k := by
  intro k
  unfold encTo
  have : ∀ l : List Int, ((l.map four).flatten).length = 4 * l.length := by
    intro l
    induction l with
    | nil => rfl
    | cons a l ih => simp only [List.map_cons, List.flatten_cons, List.length_append, four_len, ih, List.length_cons]; omega
  rw [this, List.length_take]
  omega
set_option maxRecDepth 100000 in
set_option maxHeartbeats 4000000 in
theorem iencode_yes (w : World) (x : Rc) (ok : RcOk x) (hr : RightR x) :
    Calls Try.prog 4 #[.agg (rcC x).toArray] w fun e w' => ∃ v, e = .returned (.tuple #[v, .int .i64 0]) ∧ Own w' w.heap.size v (loadR x) ∧ Below w.heap.size w w' := by
  have d0 := (BK.nil w).alloc (rcC x) 25
  have k0 := hid (show (rcC x)[0]? = some (.int .i64 x.v) from rfl)
  have k1 := hid (show (rcC x)[1]? = some (.int .i64 x.f) from rfl)
  have k2 := hid (show (rcC x)[2]? = some (.int .i64 x.p) from rfl)
  have k3 := hid (show (rcC x)[3]? = some (.int .i64 x.s) from rfl)
  have k4 := hid (show (rcC x)[4]? = some (.int .i64 x.r) from rfl)
  have k5 := hid (show (rcC x)[5]? = some (.int .i64 x.c) from rfl)
  have HS := hid (show (Try.prog.info? 25).map (·.size) = some (rcC x).toArray.size by rw [Try.sizeRc, List.size_toArray, rcC_len ok])
  have KR := hid (fun w1 => iright_any w1 x ok)
  rw [decide_eq_true hr] at KR
  have hbd := right_bd hr
  have KSM := hid (fun j y hy => rcC_sm x j y hy)
  have HSM := hid ok.sm
  have B6 := hid (build6 x.v x.f x.p x.s x.r x.c)
  have LE := hid (show encTo [x.v, x.f, x.p, x.s, x.r, x.c] 6 ++ x.sm = loadR x by simp [encTo, loadR])
  have E0 := hid (show encTo [x.v, x.f, x.p, x.s, x.r, x.c] 1 = encTo [x.v, x.f, x.p, x.s, x.r, x.c] 0 ++ four x.v by simp [encTo])
  have E1 := hid (show encTo [x.v, x.f, x.p, x.s, x.r, x.c] 2 = encTo [x.v, x.f, x.p, x.s, x.r, x.c] 1 ++ four x.f by simp [encTo])
  have E2 := hid (show encTo [x.v, x.f, x.p, x.s, x.r, x.c] 3 = encTo [x.v, x.f, x.p, x.s, x.r, x.c] 2 ++ four x.p by simp [encTo])
  have E3 := hid (show encTo [x.v, x.f, x.p, x.s, x.r, x.c] 4 = encTo [x.v, x.f, x.p, x.s, x.r, x.c] 3 ++ four x.s by simp [encTo])
  have E4 := hid (show encTo [x.v, x.f, x.p, x.s, x.r, x.c] 5 = encTo [x.v, x.f, x.p, x.s, x.r, x.c] 4 ++ four x.r by simp [encTo])
  have E5 := hid (show encTo [x.v, x.f, x.p, x.s, x.r, x.c] 6 = encTo [x.v, x.f, x.p, x.s, x.r, x.c] 5 ++ four x.c by simp [encTo])
  have EL := hid (encTo_len [x.v, x.f, x.p, x.s, x.r, x.c])
  obtain ⟨i5, hi5, hz5, hs5, hy5⟩ := Try.info5
  have K1 := hid (show i5.bytes * 56 ≤ 281474976710656 by rw [hy5]; omega)
  have HI := hid hi5
  clear hi5
  have EZ := hid (show encTo [x.v, x.f, x.p, x.s, x.r, x.c] 0 = [] from rfl)
  generalize rcC x = C at *
  generalize encTo [x.v, x.f, x.p, x.s, x.r, x.c] = ET at *
  generalize loadR x = LX at *
  obtain ⟨xv, xf, xp, xs, xr, xc, sm⟩ := x
  simp only at *
  have HBD := hid hbd
  clear hbd
  have r0 := d0.row (.head _)
  go_enter Try.func4, Try.ntmps4
  go_wp2_with (first | refine wpList_load_row_w (by rfl) 25 _ (by rfl) _ (by rfl) 25 _ _ _ r0 Try.underlying25 rfl HS.out ?_)
  refine (KR.out _).mono ?_
  rintro e w1 ⟨rfl, hb⟩
  have d1 := d0.call hb
  have hz1 := d1.lt (.head _)
  have c0 := d1.cell (.head _) k0.out
  have c1 := d1.cell (.head _) k1.out
  have c2 := d1.cell (.head _) k2.out
  have c3 := d1.cell (.head _) k3.out
  have c4 := d1.cell (.head _) k4.out
  have c5 := d1.cell (.head _) k5.out
  clear r0 d0 hb
  have K2 := hid (show 56 ≤ maxLen by simp [maxLen])
  go_wp2_with (first
    | (refine wpList_make_own _ rfl _ _ 26 rfl w1.heap.size 5 i5 (.int .u8 0) 1 Try.underlying26 HI.out hz5 hs5 .i64 .i64 _ 56 rfl rfl rfl K1.out K2.out (Nat.le_refl _) ?_; intro w2 hO2 hg2; refine Hid.out ?_))
  refine hid ?_
  have b2 := grown_keeps (B := w1.heap.size) hg2 (fun k hk => by cases hk) (Nat.le_refl _)
  have d2 := d1.call b2
  clear hg2 c0 c1 c2 c3 c4 c5
  have c0 := d2.cell (.head _) k0.out
  have c1 := d2.cell (.head _) k1.out
  have c2 := d2.cell (.head _) k2.out
  have c3 := d2.cell (.head _) k3.out
  have c4 := d2.cell (.head _) k4.out
  have c5 := d2.cell (.head _) k5.out
  go_wp2_with fail
  have hO2' : Own w2 w1.heap.size (.slice (some ⟨w1.heap.size, 0, none⟩) 0 56) (ET 0) := by rw [EZ.out]; exact hO2
  have hz2 := b2.size
  clear hO2 c0 c1 c2 c3 c4 c5
  generalize w1.heap.size = B at *
  generalize hV : Value.slice (some ⟨B, 0, none⟩) 0 56 = v0 at *
  clear hV
  go_loopw [4, 6, 24] (fun v _ i wr => ∃ k : Nat, k ≤ 6 ∧ i = .int .i64 k ∧ Own wr B v (ET k) ∧ BK w wr [(w.heap.size, C, 25)] ∧ B ≤ wr.heap.size) (fun _ _ i _ => 6 - (intOf i).toNat)
  case atStart => exact ⟨0, by omega, rfl, hO2', d2, hz2⟩
  case round =>
    clear d2 d1 b2 hO2' hz2
    obtain ⟨k, hk, rfl, hO, dr, hB⟩ := hrel
    by_cases hlt : k < 6
    · match k, hlt with
      | 0, _ =>
        have HQ := hid (src_new wr [xv % 256, xv / 256 % 256, xv / 65536 % 256, xv / 16777216] 5 (0, 0) (by simp [maxLen]))
        have hl4 := EL.out 0
        have ix := index6_0 xv xf xp xs xr xc
        obtain ⟨h0, h1⟩ := HBD.out.1
        have hfour : [xv % 256, xv / 256 % 256, xv / 65536 % 256, xv / 16777216] = four xv := by simp only [four, List.cons.injEq, and_true, true_and]; omega
        have hfour := hid hfour
        go_wp2_with (first
          | (at_builtin; refine wpList_append_wide rfl (.tmp 27) (.tmp 39) rfl B _ (ET 0) [xv % 256, xv / 256 % 256, xv / 65536 % 256, xv / 16777216] rfl (own_pushes hO _) (some ⟨wr.heap.size, 0, none⟩) 4 rfl (fun h => by cases h) HQ.out (by simp; omega) (by simp; omega) ?_; intro v3 w3 hO3 hg3 hd3; refine Hid.out ?_))
        refine hid ?_
        have b3 := ((Below.refl B wr).alloc hB (.cells (ints .u8 [xv % 256, xv / 256 % 256, xv / 65536 % 256, xv / 16777216]).toArray 5)).trans (grown_keeps hg3 (fun k hk => (hO.block k hk).1) (by simp; omega))
        have d3 : BK w w3 [(w.heap.size, C, 25)] := ⟨dr.1.trans (b3.mono (by omega)), fun y hy => by
          simp only [List.mem_cons, List.not_mem_nil, or_false] at hy
          subst hy
          exact hbel b3 (dr.row (.head _)) hz1⟩
        have z3 : B ≤ w3.heap.size := Nat.le_trans hB b3.size
        clear hg3 hd3
        go_wp2
        go_roundw
        case rel => exact ⟨1, by omega, by go_num, (by rw [E0.out, ← hfour.out]; exact hO3), d3, z3⟩
        case measure => simp [intOf]
      | 1, _ =>
        have HQ := hid (src_new wr [xf % 256, xf / 256 % 256, xf / 65536 % 256, xf / 16777216] 5 (0, 0) (by simp [maxLen]))
        have hl4 := EL.out 1
        have ix := index6_1 xv xf xp xs xr xc
        obtain ⟨h0, h1⟩ := HBD.out.2.1
        have hfour : [xf % 256, xf / 256 % 256, xf / 65536 % 256, xf / 16777216] = four xf := by simp only [four, List.cons.injEq, and_true, true_and]; omega
        have hfour := hid hfour
        go_wp2_with (first
          | (at_builtin; refine wpList_append_wide rfl (.tmp 27) (.tmp 39) rfl B _ (ET 1) [xf % 256, xf / 256 % 256, xf / 65536 % 256, xf / 16777216] rfl (own_pushes hO _) (some ⟨wr.heap.size, 0, none⟩) 4 rfl (fun h => by cases h) HQ.out (by simp; omega) (by simp; omega) ?_; intro v3 w3 hO3 hg3 hd3; refine Hid.out ?_))
        refine hid ?_
        have b3 := ((Below.refl B wr).alloc hB (.cells (ints .u8 [xf % 256, xf / 256 % 256, xf / 65536 % 256, xf / 16777216]).toArray 5)).trans (grown_keeps hg3 (fun k hk => (hO.block k hk).1) (by simp; omega))
        have d3 : BK w w3 [(w.heap.size, C, 25)] := ⟨dr.1.trans (b3.mono (by omega)), fun y hy => by
          simp only [List.mem_cons, List.not_mem_nil, or_false] at hy
          subst hy
          exact hbel b3 (dr.row (.head _)) hz1⟩
        have z3 : B ≤ w3.heap.size := Nat.le_trans hB b3.size
        clear hg3 hd3
        go_wp2
        go_roundw
        case rel => exact ⟨2, by omega, by go_num, (by rw [E1.out, ← hfour.out]; exact hO3), d3, z3⟩
        case measure => simp [intOf]
      | 2, _ =>
        have HQ := hid (src_new wr [xp % 256, xp / 256 % 256, xp / 65536 % 256, xp / 16777216] 5 (0, 0) (by simp [maxLen]))
        have hl4 := EL.out 2
        have ix := index6_2 xv xf xp xs xr xc
        obtain ⟨h0, h1⟩ := HBD.out.2.2.1
        have hfour : [xp % 256, xp / 256 % 256, xp / 65536 % 256, xp / 16777216] = four xp := by simp only [four, List.cons.injEq, and_true, true_and]; omega
        have hfour := hid hfour
        go_wp2_with (first
          | (at_builtin; refine wpList_append_wide rfl (.tmp 27) (.tmp 39) rfl B _ (ET 2) [xp % 256, xp / 256 % 256, xp / 65536 % 256, xp / 16777216] rfl (own_pushes hO _) (some ⟨wr.heap.size, 0, none⟩) 4 rfl (fun h => by cases h) HQ.out (by simp; omega) (by simp; omega) ?_; intro v3 w3 hO3 hg3 hd3; refine Hid.out ?_))
        refine hid ?_
        have b3 := ((Below.refl B wr).alloc hB (.cells (ints .u8 [xp % 256, xp / 256 % 256, xp / 65536 % 256, xp / 16777216]).toArray 5)).trans (grown_keeps hg3 (fun k hk => (hO.block k hk).1) (by simp; omega))
        have d3 : BK w w3 [(w.heap.size, C, 25)] := ⟨dr.1.trans (b3.mono (by omega)), fun y hy => by
          simp only [List.mem_cons, List.not_mem_nil, or_false] at hy
          subst hy
          exact hbel b3 (dr.row (.head _)) hz1⟩
        have z3 : B ≤ w3.heap.size := Nat.le_trans hB b3.size
        clear hg3 hd3
        go_wp2
        go_roundw
        case rel => exact ⟨3, by omega, by go_num, (by rw [E2.out, ← hfour.out]; exact hO3), d3, z3⟩
        case measure => simp [intOf]
      | 3, _ =>
        have HQ := hid (src_new wr [xs % 256, xs / 256 % 256, xs / 65536 % 256, xs / 16777216] 5 (0, 0) (by simp [maxLen]))
        have hl4 := EL.out 3
        have ix := index6_3 xv xf xp xs xr xc
        obtain ⟨h0, h1⟩ := HBD.out.2.2.2.1
        have hfour : [xs % 256, xs / 256 % 256, xs / 65536 % 256, xs / 16777216] = four xs := by simp only [four, List.cons.injEq, and_true, true_and]; omega
        have hfour := hid hfour
        go_wp2_with (first
          | (at_builtin; refine wpList_append_wide rfl (.tmp 27) (.tmp 39) rfl B _ (ET 3) [xs % 256, xs / 256 % 256, xs / 65536 % 256, xs / 16777216] rfl (own_pushes hO _) (some ⟨wr.heap.size, 0, none⟩) 4 rfl (fun h => by cases h) HQ.out (by simp; omega) (by simp; omega) ?_; intro v3 w3 hO3 hg3 hd3; refine Hid.out ?_))
        refine hid ?_
        have b3 := ((Below.refl B wr).alloc hB (.cells (ints .u8 [xs % 256, xs / 256 % 256, xs / 65536 % 256, xs / 16777216]).toArray 5)).trans (grown_keeps hg3 (fun k hk => (hO.block k hk).1) (by simp; omega))
        have d3 : BK w w3 [(w.heap.size, C, 25)] := ⟨dr.1.trans (b3.mono (by omega)), fun y hy => by
          simp only [List.mem_cons, List.not_mem_nil, or_false] at hy
          subst hy
          exact hbel b3 (dr.row (.head _)) hz1⟩
        have z3 : B ≤ w3.heap.size := Nat.le_trans hB b3.size
        clear hg3 hd3
        go_wp2
        go_roundw
        case rel => exact ⟨4, by omega, by go_num, (by rw [E3.out, ← hfour.out]; exact hO3), d3, z3⟩
        case measure => simp [intOf]
      | 4, _ =>
        have HQ := hid (src_new wr [xr % 256, xr / 256 % 256, xr / 65536 % 256, xr / 16777216] 5 (0, 0) (by simp [maxLen]))
        have hl4 := EL.out 4
        have ix := index6_4 xv xf xp xs xr xc
        obtain ⟨h0, h1⟩ := HBD.out.2.2.2.2.1
        have hfour : [xr % 256, xr / 256 % 256, xr / 65536 % 256, xr / 16777216] = four xr := by simp only [four, List.cons.injEq, and_true, true_and]; omega
        have hfour := hid hfour
        go_wp2_with (first
          | (at_builtin; refine wpList_append_wide rfl (.tmp 27) (.tmp 39) rfl B _ (ET 4) [xr % 256, xr / 256 % 256, xr / 65536 % 256, xr / 16777216] rfl (own_pushes hO _) (some ⟨wr.heap.size, 0, none⟩) 4 rfl (fun h => by cases h) HQ.out (by simp; omega) (by simp; omega) ?_; intro v3 w3 hO3 hg3 hd3; refine Hid.out ?_))
        refine hid ?_
        have b3 := ((Below.refl B wr).alloc hB (.cells (ints .u8 [xr % 256, xr / 256 % 256, xr / 65536 % 256, xr / 16777216]).toArray 5)).trans (grown_keeps hg3 (fun k hk => (hO.block k hk).1) (by simp; omega))
        have d3 : BK w w3 [(w.heap.size, C, 25)] := ⟨dr.1.trans (b3.mono (by omega)), fun y hy => by
          simp only [List.mem_cons, List.not_mem_nil, or_false] at hy
          subst hy
          exact hbel b3 (dr.row (.head _)) hz1⟩
        have z3 : B ≤ w3.heap.size := Nat.le_trans hB b3.size
        clear hg3 hd3
        go_wp2
        go_roundw
        case rel => exact ⟨5, by omega, by go_num, (by rw [E4.out, ← hfour.out]; exact hO3), d3, z3⟩
        case measure => simp [intOf]
      | 5, _ =>
        have HQ := hid (src_new wr [xc % 256, xc / 256 % 256, xc / 65536 % 256, xc / 16777216] 5 (0, 0) (by simp [maxLen]))
        have hl4 := EL.out 5
        have ix := index6_5 xv xf xp xs xr xc
        obtain ⟨h0, h1⟩ := HBD.out.2.2.2.2.2
        have hfour : [xc % 256, xc / 256 % 256, xc / 65536 % 256, xc / 16777216] = four xc := by simp only [four, List.cons.injEq, and_true, true_and]; omega
        have hfour := hid hfour
        go_wp2_with (first
          | (at_builtin; refine wpList_append_wide rfl (.tmp 27) (.tmp 39) rfl B _ (ET 5) [xc % 256, xc / 256 % 256, xc / 65536 % 256, xc / 16777216] rfl (own_pushes hO _) (some ⟨wr.heap.size, 0, none⟩) 4 rfl (fun h => by cases h) HQ.out (by simp; omega) (by simp; omega) ?_; intro v3 w3 hO3 hg3 hd3; refine Hid.out ?_))
        refine hid ?_
        have b3 := ((Below.refl B wr).alloc hB (.cells (ints .u8 [xc % 256, xc / 256 % 256, xc / 65536 % 256, xc / 16777216]).toArray 5)).trans (grown_keeps hg3 (fun k hk => (hO.block k hk).1) (by simp; omega))
        have d3 : BK w w3 [(w.heap.size, C, 25)] := ⟨dr.1.trans (b3.mono (by omega)), fun y hy => by
          simp only [List.mem_cons, List.not_mem_nil, or_false] at hy
          subst hy
          exact hbel b3 (dr.row (.head _)) hz1⟩
        have z3 : B ≤ w3.heap.size := Nat.le_trans hB b3.size
        clear hg3 hd3
        go_wp2
        go_roundw
        case rel => exact ⟨6, by omega, by go_num, (by rw [E5.out, ← hfour.out]; exact hO3), d3, z3⟩
        case measure => simp [intOf]
    · obtain rfl : k = 6 := by omega
      have hSm : Src wr (some ⟨w.heap.size, 6, none⟩) 32 sm := src_rng (dr.rng (.head _) KSM.out) (dr.lt (.head _)) 32 (by rw [HSM.out]; exact Nat.le_refl _) (by simp [maxLen])
      have hl6 := EL.out 6
      go_wp2_with (first
        | (at_builtin; refine wpList_append_wide rfl (.tmp 42) (.tmp 44) rfl B _ (ET 6) sm rfl hO (some ⟨w.heap.size, 6, none⟩) 32 (by rw [HSM.out]; rfl) (fun h => by cases h) hSm (by have := HSM.out; omega) hB ?_; intro v4 w4 hO4 hg4 hd4; refine Hid.out ?_))
      refine hid ?_
      have b4 := grown_keeps hg4 (fun k hk => (hO.block k hk).1) hB
      go_wp2
      refine bodyPost_ret (results_tmp2 Try.results4 _ _ _) rfl ?_
      rw [LE.out] at hO4
      exact ⟨_, rfl, own_lower hO4 (by omega), dr.1.trans (b4.mono (by omega))⟩
theorem iencode_any (w : World) (x : Rc) (ok : RcOk x) :
    Calls Try.prog 4 #[.agg (rcC x).toArray] w fun e w' => ∃ v, e = .returned (.tuple #[v, .int .i64 (encRE x)]) ∧ Own w' w.heap.size v (encRL x) ∧ Below w.heap.size w w' := by
  by_cases h : RightR x
  · refine (iencode_yes w x ok h).mono ?_
    rintro e w' ⟨v, rfl, hO, hb⟩
    exact ⟨v, by unfold encRE; rw [if_pos h], by unfold encRL; rw [if_pos h]; exact hO, hb⟩
  · refine (iencode_no w x ok h).mono ?_
    rintro e w' ⟨rfl, hb⟩
    exact ⟨_, by unfold encRE; rw [if_neg h], by unfold encRL; rw [if_neg h]; exact Own.nil _ _, hb⟩
end Go.Proofs.Ytpohgnblikkagaa
