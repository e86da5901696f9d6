import Derived.Test.YtjpcegjgandnjaaGreatDoorQ25
import Derived.Test.YtjpcegjgandnjaaGreatDoorQ27
import Derived.Test.YtjpcegjgandnjaaGreatDoorProg
import Derived.Conc.RwLib
import Derived.Conc.MuData
import Derived.KernelRfl
namespace Go.Proofs.YtjpcegjgandnjaaGreatDoor
set_option linter.unusedVariables false
set_option linter.unusedSimpArgs false
open Go.RowKit
open Go.Proofs.YtjpcegjgandnjaaGreatDoor.Ca (Ct ct0 ctC argV AS)
attribute [local go_sem ↓] Go.wp_at_zero Go.wp_at_succ

set_option maxRecDepth 100000 in
set_option maxHeartbeats 2000000 in
theorem powered_nil (w : World) : Calls Tryz.prog 39 #[.pointer none] w fun e w' => e = .returned (.int .i64 1) ∧ w = w' := by
  go_enter Tryz.func39, Tryz.ntmps39
  go_wp2
  go_ret
  exact ⟨rfl, rfl⟩
set_option maxRecDepth 100000 in
set_option maxHeartbeats 2000000 in
theorem powered_yes (w : World) (base : Nat) (F : List Nat) (p : Nat) (D : DS) (h : DA w base F p D) (hpw : D.power = true) : Calls Tryz.prog 39 #[.pointer (some ⟨p, 0, none⟩)] w fun e w' => e = .returned (.int .i64 0) ∧ w = w' := by
  have HP := hid (Power_any w base F p D h)
  rw [hpw] at HP
  clear h hpw
  go_enter Tryz.func39, Tryz.ntmps39
  go_wp2_with fail
  refine HP.out.mono ?_
  rintro e w1 ⟨rfl, rfl⟩
  go_wp2
  go_ret
  exact ⟨rfl, rfl⟩
set_option maxRecDepth 100000 in
set_option maxHeartbeats 2000000 in
theorem mayBe_any (w : World) (room : Int) : Calls Tryz.prog 40 #[.int .i64 room] w fun e w' => e = .returned (.bool (decide (1 ≤ room ∧ room ≤ 4096))) ∧ w = w' := by
  by_cases h1 : 1 ≤ room
  · by_cases h2 : room ≤ 4096
    · rw [decide_eq_true ⟨h1, h2⟩]
      go_enter Tryz.func40, Tryz.ntmps40
      go_wp2
      go_ret
      exact ⟨congrArg (fun b => Ending.returned (Value.bool b)) (by first | rfl | (simp; omega)), rfl⟩
    · rw [decide_eq_false (fun h => h2 h.2)]
      go_enter Tryz.func40, Tryz.ntmps40
      go_wp2
      go_ret
      exact ⟨congrArg (fun b => Ending.returned (Value.bool b)) (by first | rfl | (simp; omega)), rfl⟩
  · rw [decide_eq_false (fun h => h1 h.1)]
    go_enter Tryz.func40, Tryz.ntmps40
    go_wp2
    go_ret
    exact ⟨congrArg (fun b => Ending.returned (Value.bool b)) (by first | rfl | (simp; omega)), rfl⟩
/-- Bounds where no record is. -/
theorem bounds_none (w : World) (base : Nat) (S : Sto) (P : List (Int × List Int)) (b : Nat) (h : Ls w base S P b) :
    Calls Tryz.prog 75 #[.pointer (some ⟨S.st, 0, none⟩), .int .i64 0] w fun e w' => e = .returned (.tuple #[.int .i64 0, .int .i64 0, .int .i64 0]) ∧ Below w.heap.size w w' := by
  have KR := hid (h.ready 0 (Or.inl rfl) w (Below.refl _ _))
  clear h
  go_enter Tryz.func75, Tryz.ntmps75
  go_wp2_with fail
  refine KR.out.mono ?_
  rintro e w1 ⟨rfl, hb⟩
  have HB := hid hb
  clear hb KR
  go_wp2
  exact bodyPost_ret (resT3 Tryz.results75 _ _ _) rfl ⟨rfl, HB.out⟩
set_option maxRecDepth 100000 in
set_option maxHeartbeats 4000000 in
/-- Find of version 0 where no record is. -/
theorem find_none (w : World) (base : Nat) (S : Sto) (P : List (Int × List Int)) (b : Nat) (h : Ls w base S P b) (hG : Glob w) (hB : 22 ≤ base) :
    Calls Tryz.prog 59 #[.pointer (some ⟨S.st, 0, none⟩), .int .i64 0, .int .i64 0] w fun e w' => e = .returned (.tuple #[.agg (rcC (recE S.s.wd)).toArray, .int .i64 0, .int .i64 0]) ∧ Below w.heap.size w w' := by
  have hb0 := below_new w (.cells (rcC rc0).toArray 94)
  have KR := hid (h.ready 0 (Or.inl rfl) _ hb0)
  have hN := hid (show (Tryz.prog.info? 94).map (·.size) = some (rcC (recE S.s.wd)).toArray.size by rw [Tryz.sizeRc, List.size_toArray, rcC_len (recE_ok _)])
  have hL := hid (show (rcC rc0).toArray.size = (rcC (recE S.s.wd)).toArray.size by rw [List.size_toArray, List.size_toArray, rcC_len (recE_ok _), rcC_len rc0_ok])
  have hO := hid (all_oneCell_toArray (rcC_one (recE S.s.wd)))
  have AL := hid (fun (w : World) (ops : Array Oper) (rest : List Oper) (o : Oper) (a : Act) (Q : Exit → Act → World → Prop) => @wpList_allocRc w ops rest o a Q)
  have KE := hid (fun (w1 : World) (hb : Below w.heap.size w w1) => iempty_any w1 base S (h.sk.below hb) (hG.below hb hG.1))
  have HR0 := hid (hnew w (.cells (rcC rc0).toArray 94))
  have HB0 := hid hb0
  generalize (rcC rc0).toArray = C at *
  generalize (rcC (recE S.s.wd)).toArray = CE at *
  clear h hG hb0
  go_enter Tryz.func59, Tryz.ntmps59
  go_wp2_with (first | (refine AL.out _ _ _ _ _ _ rfl rfl ?_))
  refine KR.out.mono ?_
  rintro e w1 ⟨rfl, hb1⟩
  have HB1 := hid (HB0.out.trans (hb1.mono HB0.out.size))
  have R1 := hid ((hb1.block _ (hlt HR0.out)).trans HR0.out)
  clear hb1 KR HR0 HB0
  go_wp2_with fail
  refine (KE.out w1 HB1.out).mono ?_
  rintro e w2 ⟨rfl, hb2⟩
  have HB2 := hid (HB1.out.trans (hb2.mono HB1.out.size))
  have R2 := hid ((hb2.block _ (hlt R1.out)).trans R1.out)
  clear hb2 KE R1 HB1
  have r3 : (w2.setRow w.heap.size CE).heap[w.heap.size]? = _ := setRow_heap w2 _ _ _ _ _ R2.out
  have HB3 := hid (below_setRow HB2.out (Nat.le_refl _) CE)
  have R3 := hid r3
  clear r3
  go_wp2_with (first
    | refine wpList_store_row (by rfl) 94 (.tmp 6) (.tmp 29) (by rfl) w.heap.size CE (by rfl) (by rfl) 94 C R2.out hN.out hL.out hO.out ?_)
  exact bodyPost_ret (v := .tuple #[.agg CE, .int .i64 0, .int .i64 0]) (resC3 Tryz.results59 _ _ w.heap.size 94 _ _ _ rfl R3.out Tryz.underlying94 rfl hN.out) rfl ⟨rfl, HB3.out⟩
end Go.Proofs.YtjpcegjgandnjaaGreatDoor
namespace Go.Proofs.YtjpcegjgandnjaaGreatDoor
set_option linter.unusedVariables false
set_option linter.unusedSimpArgs false
open Go.RowKit
open Go.Proofs.YtjpcegjgandnjaaGreatDoor.Ca (Ct ct0 ctC argV AS)
attribute [local go_sem ↓] Go.wp_at_zero Go.wp_at_succ

theorem wpList_fieldS3 {ops : Array Oper} {rest : List Oper} {o : Oper} {a : Act} {w : World} {Q : Exit → Act → World → Prop} (hg : o.guard = none) (x : Operand) (ho : o.op = .field 99 x 3) (s2 : Sup) (y : Int) (hy : s2.hd = y) (hx : a.eval x = .agg (supC s2))
    (h : wpList Tryz.prog ops Q rest (a.put o.dst (.int .i64 y)) w) : wpList Tryz.prog ops Q (o :: rest) a w := by
  refine wpList_plain hg fun K hK => ?_
  unfold Oper.wp
  have e : (execOp a.eval o).run Tryz.prog w = .ok (.value (.int .i64 y)) w := by
    subst hy
    unfold execOp
    simp only [ho, hx]
    kernel_rfl
  rw [e]
  exact hK _ _ h
set_option maxRecDepth 100000 in
set_option maxHeartbeats 4000000 in
/-- The newest record of a store without one. -/
theorem newest_none (w : World) (base : Nat) (S : Sto) (P : List (Int × List Int)) (b : Nat) (h : Ls w base S P b) (hd : S.s.hd = 0) (hG : Glob w) (hB : 22 ≤ base) :
    Calls Tryz.prog 48 #[.pointer (some ⟨S.st, 0, none⟩)] w fun e w' => e = .returned (.tuple #[.agg (rcC (recE S.s.wd)).toArray, .int .i64 0]) ∧ Below w.heap.size w w' := by
  have hb0 := below_new w (.cells (rcC rc0).toArray 94)
  have hN := hid (show (Tryz.prog.info? 94).map (·.size) = some (rcC (recE S.s.wd)).toArray.size by rw [Tryz.sizeRc, List.size_toArray, rcC_len (recE_ok _)])
  have hL := hid (show (rcC rc0).toArray.size = (rcC (recE S.s.wd)).toArray.size by rw [List.size_toArray, List.size_toArray, rcC_len (recE_ok _), rcC_len rc0_ok])
  have hO := hid (all_oneCell_toArray (rcC_one (recE S.s.wd)))
  have AL := hid (fun (w : World) (ops : Array Oper) (rest : List Oper) (o : Oper) (a : Act) (Q : Exit → Act → World → Prop) => @wpList_allocRc w ops rest o a Q)
  have AN := hid (fun (w : World) (ops : Array Oper) (rest : List Oper) (o1 o2 : Oper) (a : Act) (Q : Exit → Act → World → Prop) => @wpList_new Tryz.prog 94 (rcC rc0) 38 allocRc (rcC_len rc0_ok) Tryz.sizeRc ops rest o1 o2 a w Q)
  have KS := hid (fun (w1 : World) (hb : Below w.heap.size w w1) => oSuper_any w1 base S (h.sk.below hb))
  have KB := hid (fun (w1 : World) (hb : Below w.heap.size w w1) => bounds_none w1 base S P b (h.below hb))
  have KF := hid (fun (w1 : World) (hb : Below w.heap.size w w1) => find_none w1 base S P b (h.below hb) (hG.below hb hG.1) hB)
  have HR0 := hid (hnew w (.cells (rcC rc0).toArray 94))
  have HB0 := hid hb0
  have LE := hid (rcC_len (recE_ok S.s.wd))
  have OE := hid (rcC_one (recE S.s.wd))
  have HD := hid hd
  generalize (rcC rc0).toArray = C at *
  generalize rcC (recE S.s.wd) = CE at *
  generalize S.s = s at *
  clear h hG hb0 hd
  go_enter Tryz.func48, Tryz.ntmps48
  go_wp2_with (first | (refine AL.out _ _ _ _ _ _ rfl rfl ?_))
  refine (KS.out _ HB0.out).mono ?_
  rintro e w1 ⟨rfl, hb1⟩
  have HB1 := hid (HB0.out.trans (hb1.mono HB0.out.size))
  have R1 := hid ((hb1.block _ (hlt HR0.out)).trans HR0.out)
  clear hb1 KS HR0 HB0
  go_wp2_with (first | refine wpList_fieldS3 rfl _ rfl s 0 HD.out rfl ?_)
  refine (KB.out w1 HB1.out).mono ?_
  rintro e w2 ⟨rfl, hb2⟩
  have HB2 := hid (HB1.out.trans (hb2.mono HB1.out.size))
  have R2 := hid ((hb2.block _ (hlt R1.out)).trans R1.out)
  clear hb2 KB R1 HB1
  go_wp2_with fail
  refine (KF.out w2 HB2.out).mono ?_
  rintro e w3 ⟨rfl, hb3⟩
  have HB3 := hid (HB2.out.trans (hb3.mono HB2.out.size))
  have R3 := hid ((hb3.block _ (hlt R2.out)).trans R2.out)
  clear hb3 KF R2 HB2
  go_wp2_with (first
    | (refine AN.out _ _ _ _ _ _ _ rfl rfl rfl _ _ rfl rfl CE rfl rfl LE.out OE.out ?_; refine Hid.out ?_))
  refine hid ?_
  have HB4 := hid (HB3.out.trans (below_new w3 (.cells CE.toArray 94) |>.mono HB3.out.size))
  have R4 := hid ((below_new w3 (.cells CE.toArray 94)).block _ (hlt R3.out) |>.trans R3.out)
  have N4 := hid (hnew w3 (.cells CE.toArray 94))
  generalize w3.heap.size = B4 at *
  generalize w3.alloc (.cells CE.toArray 94) = w4 at *
  clear R3 HB3
  have r5 : (w4.setRow w.heap.size CE.toArray).heap[w.heap.size]? = _ := setRow_heap w4 _ _ _ _ _ R4.out
  have HB5 := hid (below_setRow HB4.out (Nat.le_refl _) CE.toArray)
  have R5 := hid r5
  clear r5
  go_wp2_with (first
    | (refine wpList_load_row rfl 94 _ rfl B4 rfl 94 _ (0, 0) _ N4.out Tryz.underlying94 rfl hN.out ?_)
    | (refine wpList_store_row (by rfl) 94 (.tmp 2) (.tmp 32) (by rfl) w.heap.size CE.toArray (by rfl) (by rfl) 94 C R4.out hN.out hL.out hO.out ?_))
  exact bodyPost_ret (v := .tuple #[.agg CE.toArray, .int .i64 0]) (results_c2i Tryz.results48 _ _ w.heap.size 94 _ _ _ rfl R5.out Tryz.underlying94 rfl hN.out) rfl ⟨rfl, HB5.out⟩
/-- The cells of a ledger over a store at st, whose newest record is r, its lock free. -/
def ldC (st : Nat) (r : Rc) : List Value := [.int .i32 0, .int .u32 0, .pointer (some ⟨st, 0, none⟩)] ++ rcC r
theorem built_ldS (st : Nat) (a b c d e f : Int) (l : List Value) (hl : l.length = 32) : Tryz.prog.built 96 [(1, .pointer (some ⟨st, 0, none⟩)), (2, .agg ([Value.int .i64 a, .int .i64 b, .int .i64 c, .int .i64 d, .int .i64 e, .int .i64 f] ++ l).toArray)] = some ([Value.int .i32 0, .int .u32 0, .pointer (some ⟨st, 0, none⟩), .int .i64 a, .int .i64 b, .int .i64 c, .int .i64 d, .int .i64 e, .int .i64 f] ++ l).toArray := by
  obtain ⟨x0, x1, x2, x3, x4, x5, x6, x7, x8, x9, x10, x11, x12, x13, x14, x15, x16, x17, x18, x19, x20, x21, x22, x23, x24, x25, x26, x27, x28, x29, x30, x31, rfl⟩ := list32 hl
  kernel_rfl
theorem built_ld (st : Nat) {r : Rc} (h : RcOk r) : Tryz.prog.built 96 [(1, .pointer (some ⟨st, 0, none⟩)), (2, .agg (rcC r).toArray)] = some (ldC st r).toArray :=
  built_ldS st r.v r.f r.p r.s r.r r.c (ints .u8 r.sm) (by rw [ints_len, h.sm])
end Go.Proofs.YtjpcegjgandnjaaGreatDoor
namespace Go.Proofs.YtjpcegjgandnjaaGreatDoor
set_option linter.unusedVariables false
set_option linter.unusedSimpArgs false
open Go.RowKit
open Go.Proofs.YtjpcegjgandnjaaGreatDoor.Ca (Ct ct0 ctC argV AS)
attribute [local go_sem ↓] Go.wp_at_zero Go.wp_at_succ

theorem wpList_boxA {P : Program} {ops : Array Oper} {rest : List Oper} {o : Oper} {a : Act} {w : World} {Q : Exit → Act → World → Prop} (hg : o.guard = none) (t : TypeId) (x : Operand) (ho : o.op = .box t x) (cs : Array Value) (hx : a.eval x = .agg cs)
    (h : wpList P ops Q rest (a.put o.dst (.pointer (some ⟨w.heap.size, 0, none⟩))) (w.alloc (.cells cs t))) : wpList P ops Q (o :: rest) a w := by
  refine wpList_plain hg fun K hK => ?_
  unfold Oper.wp execOp
  simp only [ho, hx, Value.cells, Sem.run_bind, Instr.box, newVar, newRow, run_newObj_alloc, Sem.run_pure, Result.andThen_ok]
  exact hK _ _ h
set_option maxRecDepth 100000 in
set_option maxHeartbeats 2000000 in
theorem gopen_nil (w : World) (room : Int) : Calls Tryz.prog 23 #[.pointer none, .int .i64 room] w fun e w' => e = .returned (.tuple #[.pointer none, .int .i64 1]) ∧ w = w' := by
  go_enter Tryz.func23, Tryz.ntmps23
  go_wp2_with fail
  refine (powered_nil w).mono ?_
  rintro e w1 ⟨rfl, rfl⟩
  go_wp2
  go_ret2
  exact ⟨rfl, rfl⟩
set_option maxRecDepth 100000 in
set_option maxHeartbeats 2000000 in
theorem gopen_room (w : World) (base : Nat) (F : List Nat) (p : Nat) (D : DS) (h : DA w base F p D) (hpw : D.power = true) (room : Int) (hr : ¬ (1 ≤ room ∧ room ≤ 4096)) : Calls Tryz.prog 23 #[.pointer (some ⟨p, 0, none⟩), .int .i64 room] w fun e w' => e = .returned (.tuple #[.pointer none, .int .i64 1]) ∧ w = w' := by
  have HP := hid (powered_yes w base F p D h hpw)
  have HM := mayBe_any w room
  rw [decide_eq_false hr] at HM
  replace HM := hid HM
  clear h hpw hr
  go_enter Tryz.func23, Tryz.ntmps23
  go_wp2_with fail
  refine HP.out.mono ?_
  rintro e w1 ⟨rfl, rfl⟩
  go_wp2_with fail
  refine HM.out.mono ?_
  rintro e w1 ⟨rfl, rfl⟩
  go_wp2
  go_ret2
  exact ⟨rfl, rfl⟩
set_option maxRecDepth 100000 in
set_option maxHeartbeats 2000000 in
theorem gopen_bad (w : World) (base : Nat) (F : List Nat) (p : Nat) (D : DS) (h : DA w base F p D) (hpw : D.power = true) (hr : D.reads < 3999999999999999999) (x : Int) (hx : (chooseF (D.readOf 0) (D.readOf 1)).2 = x) (hx0 : x ≠ 0) (room : Int) (hm : 1 ≤ room ∧ room ≤ 4096) :
    Calls Tryz.prog 23 #[.pointer (some ⟨p, 0, none⟩), .int .i64 room] w fun e w' => e = .returned (.tuple #[.pointer none, .int .i64 x]) ∧ DA w' base F p { D with reads := D.reads + 2 } ∧ Fr F w w' := by
  have HP := hid (powered_yes w base F p D h hpw)
  have HM := mayBe_any w room
  rw [decide_eq_true hm] at HM
  replace HM := hid HM
  have HO := hid (Open_bad w base F p D h hpw hr x hx hx0)
  have e0 : (x != 0) = true := by simpa using hx0
  clear h hpw hr hx hx0 hm
  go_enter Tryz.func23, Tryz.ntmps23
  go_wp2_with fail
  refine HP.out.mono ?_
  rintro e w1 ⟨rfl, rfl⟩
  go_wp2_with fail
  refine HM.out.mono ?_
  rintro e w1 ⟨rfl, rfl⟩
  go_wp2_with fail
  refine HO.out.mono ?_
  rintro e w2 ⟨rfl, hd, hf⟩
  have HD := hid hd
  have HF := hid hf
  clear hd hf HO HP HM
  go_wp2
  go_ret2
  exact ⟨rfl, HD.out, HF.out⟩
/-- A ledger in memory: its own block. -/
def LD (w : World) (l st : Nat) (r : Rc) : Prop := w.heap[l]? = some (.cells (ldC st r).toArray 96 (0, 0))
/-- What an open of a ledger without a version leaves. -/
structure Opd (w : World) (base : Nat) (F : List Nat) (p : Nat) (D : DS) (n : Nat) (s o : Sup) (b : Nat) (w' : World) (S : Sto) (l : Nat) : Prop where
  pe : S.p = p
  se : S.s = s
  ve : S.vs = []
  De : S.D = { D with reads := D.reads + 2, epoch := D.epoch + 1 }
  Fe : S.F = F
  epe : S.ep = D.epoch + 1
  ls : Ls w' base S [] b
  hs : Hs S.D n s o []
  ld : LD w' l S.st (recE s.wd)
  nw : w.heap.size ≤ l
  fr : Fr F w w'
  gr : Gr w F S.fp
  bl : Below base w w'
  nf : l ∉ S.fp
set_option maxRecDepth 100000 in
set_option maxHeartbeats 4000000 in
theorem gopen_fresh (w : World) (base : Nat) (F : List Nat) (p : Nat) (D : DS) (h : DA w base F p D) (hbw : base ≤ w.heap.size) (n : Nat) (s o : Sup) (hs : Hs D n s o []) (hh : s.hd = 0) (b : Nat) (hrd : D.reads + 2 ≤ 1000 + b) (hb : b ≤ 100000000000000000) (hep : D.epoch ≤ 1000000000) (room : Int) (hr : 1 ≤ room ∧ room ≤ 4096) (hG : Glob w) (hB : 22 ≤ base) :
    Calls Tryz.prog 23 #[.pointer (some ⟨p, 0, none⟩), .int .i64 room] w fun e w' => ∃ S l, e = .returned (.tuple #[.pointer (some ⟨l, 0, none⟩), .int .i64 0]) ∧ Opd w base F p D n s o b w' S l := by
  have HP := hid (powered_yes w base F p D h hs.pw)
  have HM := mayBe_any w room
  rw [decide_eq_true hr] at HM
  replace HM := hid HM
  have HOP := hid (Open_ok w base F p D h hs.pw (by omega) (by omega) s hs.chs (by rw [hs.pg, hs.np]))
  have HH := hid h
  have HBW := hid hbw
  have HS := hid hs
  have HX := hid (And.intro hrd hb)
  have HGL := hid hG
  have HBB := hid hB
  have HHD := hid hh
  have AN := hid (fun (w : World) (ops : Array Oper) (rest : List Oper) (o1 o2 : Oper) (a : Act) (Q : Exit → Act → World → Prop) => @wpList_new Tryz.prog 94 (rcC rc0) 38 allocRc (rcC_len rc0_ok) Tryz.sizeRc ops rest o1 o2 a w Q)
  have LE := hid (rcC_len (recE_ok s.wd))
  have OE := hid (rcC_one (recE s.wd))
  have hN := hid (show (Tryz.prog.info? 94).map (·.size) = some (rcC (recE s.wd)).toArray.size by rw [Tryz.sizeRc, List.size_toArray, rcC_len (recE_ok _)])
  clear h hbw hs hrd hb hep hG hB hh
  go_enter Tryz.func23, Tryz.ntmps23
  go_wp2_with fail
  refine HP.out.mono ?_
  rintro e w1 ⟨rfl, rfl⟩
  go_wp2_with fail
  refine HM.out.mono ?_
  rintro e w1 ⟨rfl, rfl⟩
  go_wp2_with fail
  refine HOP.out.mono ?_
  rintro _ w3 ⟨g, rfl, hg, hf, hD3, hF3⟩
  have HBg := hid (show base ≤ g by have := HBW.out; omega)
  have HG := hid hg
  have HB3 := hid (hF3.below (fun k hk => (HH.out.lt k hk).1) HBW.out)
  have HF3 := hid hF3
  have HNW := hid (oNew_any w3 base F p { D with reads := D.reads + 2, epoch := D.epoch + 1 } hD3 g s s.ma (D.epoch + 1) hf HBg.out (by
    unfold liveF; rw [if_neg (by simp), if_pos HS.out.pw]) room (by omega) 2 HS.out.ma)
  have HD3 := hid hD3
  clear hg hf hD3 hF3 HOP
  go_wp2_with fail
  refine HNW.out.mono ?_
  rintro _ w4 ⟨st, pc, FC, rfl, hK4, hst4, hFC4, hF4⟩
  have HB4 := hid (HB3.out.trans (hF4.below (fun k hk => by
    rcases List.mem_cons.1 hk with e | e
    · rw [e]; exact HBg.out
    · exact (HD3.out.lt k e).1) (Nat.le_trans HBW.out HB3.out.size)))
  have HFR := hid (HF3.out.trans hF4 (fun k hk => by
    rcases List.mem_cons.1 hk with e | e
    · rw [e]; exact Or.inr HG.out
    · exact Or.inl e))
  have s3 := HF3.out.size
  have hs2 := HS.out.reads hK4.da.ok rfl rfl HS.out.pw
  have hle := HS.out.le
  obtain ⟨S, hSdef⟩ : ∃ S : Sto, S = ⟨p, g, st, pc, F, FC, [], { D with reads := D.reads + 2, epoch := D.epoch + 1 }, s, 2, D.epoch + 1, 0, Ca.newA room, .slice none 0 0, [], []⟩ := ⟨_, rfl⟩
  have hSst : S.st = st := by rw [hSdef]
  have hSs : S.s = s := by rw [hSdef]
  have hLs : Ls w4 base S [] b := by
    rw [hSdef]
    refine ⟨hK4, ?_, ⟨2, HS.out.ma, rfl, by omega, by simp⟩, fun i hi => by simp at hi, ?_, Nat.zero_le _, ?_⟩
    · show liveF { D with reads := D.reads + 2, epoch := D.epoch + 1 } (D.epoch + 1) = 0
      unfold liveF; rw [if_neg (by simp), if_pos HS.out.pw]
    · show 2 ≤ D.np ∧ D.np ≤ 4096
      have := HS.out.n4
      rw [HS.out.np]; exact ⟨hle, this.2⟩
    · show D.reads + 2 ≤ 1000 + (b : Int); exact HX.out.1
  have hGr : Gr w F S.fp := by
    intro k q
    rcases (Sto.mem _ k).1 q with e | e | e | e | e | e
    · rw [e, hSdef]; exact Or.inr HG.out
    · rw [e, hSdef]; exact Or.inr (Nat.le_trans s3 hst4)
    · rw [hSdef] at e; exact Or.inl e
    · rw [hSdef] at e; exact Or.inr (Nat.le_trans s3 (hFC4 k e))
    · rw [hSdef] at e; cases e
    · rw [hSdef] at e; cases e
  have HGR := hid hGr
  have HLS := hid hLs
  have HSD := hid hSdef
  have HS2 := hid hs2
  have hGl4 : Glob w4 := HGL.out.below HB4.out HBB.out
  have KN := newest_none w4 base S [] b hLs (by rw [hSs]; exact HHD.out) hGl4 HBB.out
  rw [hSs, hSst] at KN
  replace KN := hid KN
  clear hK4 hF4 HNW hst4 hFC4 s3 hs2 hle hSdef hLs hGr hGl4 hSst
  obtain ⟨LC, hLC⟩ : ∃ LC, LC = ldC st (recE s.wd) := ⟨_, rfl⟩
  have BL := built_ld st (recE_ok s.wd)
  rw [← hLC] at BL
  replace BL := hid BL
  have HLC := hid hLC
  clear hLC
  generalize rcC (recE s.wd) = CE at *
  go_wp2_with fail
  refine KN.out.mono ?_
  rintro e w5 ⟨rfl, hb5⟩
  have HB5 := hid hb5
  clear hb5 KN
  have B0 := hid (below_new w5 (.cells CE.toArray 94))
  have N6 := hid (hnew w5 (.cells CE.toArray 94))
  go_wp2_with (first
    | (refine AN.out _ _ _ _ _ _ _ rfl rfl rfl _ _ rfl rfl CE rfl rfl LE.out OE.out ?_; refine Hid.out ?_))
  refine hid ?_
  have HB6 := hid (HB5.out.trans (B0.out.mono HB5.out.size))
  generalize w5.heap.size = B6 at *
  generalize w5.alloc (.cells CE.toArray 94) = w6 at *
  clear B0 HB5
  have B1 := hid (below_new w6 (.cells LC.toArray 96))
  have N7 := hid (hnew w6 (.cells LC.toArray 96))
  go_wp2_with (first
    | refine wpList_built (by rfl) 96 _ rfl _ rfl _ BL.out ?_
    | (refine wpList_load_row rfl 94 _ rfl B6 rfl 94 _ (0, 0) _ N6.out Tryz.underlying94 rfl hN.out ?_)
    | refine wpList_boxA rfl 96 _ rfl _ rfl ?_)
  go_ret2
  have HB7 : Below w4.heap.size w4 (w6.alloc (.cells LC.toArray 96)) := HB6.out.trans (B1.out.mono HB6.out.size)
  have z6 := HB6.out.size
  have z4 := HFR.out.size
  obtain rfl := HSD.out
  refine ⟨_, _, rfl, rfl, rfl, rfl, rfl, rfl, rfl, HLS.out.below HB7, HS2.out, ?_, by omega, HFR.out.trans (Fr.of_below HB7) HGR.out, HGR.out, HB4.out.trans (HB7.mono (Nat.le_trans HBW.out z4)), fun q => ?_⟩
  · show _ = _
    rw [← HLC.out]; exact N7.out
  · have := (HLS.out.sk.fpIn q).2
    omega
end Go.Proofs.YtjpcegjgandnjaaGreatDoor
namespace Go.Proofs.YtjpcegjgandnjaaGreatDoor
set_option linter.unusedVariables false
set_option linter.unusedSimpArgs false
open Go.RowKit
open Go.Proofs.YtjpcegjgandnjaaGreatDoor.Ca (Ct ct0 ctC argV AS)
attribute [local go_sem ↓] Go.wp_at_zero Go.wp_at_succ

set_option maxRecDepth 100000 in
set_option maxHeartbeats 2000000 in
theorem gcreate_nil (w : World) (wd room : Int) : Calls Tryz.prog 17 #[.pointer none, .int .i64 wd, .int .i64 room] w fun e w' => e = .returned (.tuple #[.pointer none, .int .i64 1]) ∧ w = w' := by
  go_enter Tryz.func17, Tryz.ntmps17
  go_wp2_with fail
  refine (powered_nil w).mono ?_
  rintro e w1 ⟨rfl, rfl⟩
  go_wp2
  go_ret2
  exact ⟨rfl, rfl⟩
set_option maxRecDepth 100000 in
set_option maxHeartbeats 2000000 in
theorem gcreate_room (w : World) (base : Nat) (F : List Nat) (p : Nat) (D : DS) (h : DA w base F p D) (hpw : D.power = true) (wd room : Int) (hr : ¬ (1 ≤ room ∧ room ≤ 4096)) : Calls Tryz.prog 17 #[.pointer (some ⟨p, 0, none⟩), .int .i64 wd, .int .i64 room] w fun e w' => e = .returned (.tuple #[.pointer none, .int .i64 1]) ∧ w = w' := by
  have HP := hid (powered_yes w base F p D h hpw)
  have HM := mayBe_any w room
  rw [decide_eq_false hr] at HM
  replace HM := hid HM
  clear h hpw hr
  go_enter Tryz.func17, Tryz.ntmps17
  go_wp2_with fail
  refine HP.out.mono ?_
  rintro e w1 ⟨rfl, rfl⟩
  go_wp2_with fail
  refine HM.out.mono ?_
  rintro e w1 ⟨rfl, rfl⟩
  go_wp2
  go_ret2
  exact ⟨rfl, rfl⟩
set_option maxRecDepth 100000 in
set_option maxHeartbeats 2000000 in
theorem gcreate_width (w : World) (base : Nat) (F : List Nat) (p : Nat) (D : DS) (h : DA w base F p D) (hpw : D.power = true) (wd room : Int) (hr : 1 ≤ room ∧ room ≤ 4096) (hw : ¬ (1 ≤ wd ∧ wd ≤ 32)) : Calls Tryz.prog 17 #[.pointer (some ⟨p, 0, none⟩), .int .i64 wd, .int .i64 room] w fun e w' => e = .returned (.tuple #[.pointer none, .int .i64 1]) ∧ w = w' := by
  have HP := hid (powered_yes w base F p D h hpw)
  have HM := mayBe_any w room
  rw [decide_eq_true hr] at HM
  replace HM := hid HM
  have HF := hid (Format_width w base F p D h hpw wd hw)
  clear h hpw hr hw
  go_enter Tryz.func17, Tryz.ntmps17
  go_wp2_with fail
  refine HP.out.mono ?_
  rintro e w1 ⟨rfl, rfl⟩
  go_wp2_with fail
  refine HM.out.mono ?_
  rintro e w1 ⟨rfl, rfl⟩
  go_wp2_with fail
  refine HF.out.mono ?_
  rintro e w1 ⟨rfl, rfl⟩
  go_wp2
  go_ret2
  exact ⟨rfl, rfl⟩
set_option maxRecDepth 100000 in
set_option maxHeartbeats 4000000 in
/-- A fresh ledger laid onto a blank disk: D2 is what Format leaves, F2 where the disk lies then. -/
theorem gcreate_fresh (w : World) (base : Nat) (F : List Nat) (p : Nat) (D : DS) (h : DA w base F p D) (hbw : base ≤ w.heap.size) (n : Nat) (hR : Rest D n 0) (wd : Int) (hwd : 1 ≤ wd ∧ wd ≤ 32) (hBl : Blank (pgO D.img 0) (pgO D.img 1)) (hrd : D.reads ≤ 900) (room : Int) (hr : 1 ≤ room ∧ room ≤ 4096) (hG : Glob w) (hB : 22 ≤ base) :
    Calls Tryz.prog 17 #[.pointer (some ⟨p, 0, none⟩), .int .i64 wd, .int .i64 room] w fun e w' => ∃ w1 F1 D1 S l, e = .returned (.tuple #[.pointer (some ⟨l, 0, none⟩), .int .i64 0]) ∧ Fm D1 { D with reads := D.reads + 2 } wd ∧ (Fr F w w1 ∧ Gr w F F1) ∧ Opd w1 base F1 p D1 n (fS n wd 1) (fS n wd 0) 0 w' S l := by
  have HP := hid (powered_yes w base F p D h hR.pw)
  have HM := mayBe_any w room
  rw [decide_eq_true hr] at HM
  replace HM := hid HM
  have HFT := hid (Format_rest w base F p D h hbw n 0 hR wd hwd hBl)
  have HH := hid h
  have HBW := hid hbw
  have HR := hid hr
  have HRR := hid hR
  have HWD := hid hwd
  have HRD := hid hrd
  have HGL := hid hG
  have HBB := hid hB
  clear h hbw hR hwd hBl hrd hr hG hB
  go_enter Tryz.func17, Tryz.ntmps17
  go_wp2_with fail
  refine HP.out.mono ?_
  rintro e w1 ⟨rfl, rfl⟩
  go_wp2_with fail
  refine HM.out.mono ?_
  rintro e w1 ⟨rfl, rfl⟩
  go_wp2_with fail
  refine HFT.out.mono ?_
  rintro e w2 ⟨rfl, D2, hFm, hnp2, hN2⟩
  obtain ⟨F2, hDA2, hFr2, hGr2⟩ := hN2
  have hB2 : Below base w w2 := hFr2.below (fun k hk => (HH.out.lt k hk).1) HBW.out
  have hgd := hFm.good HWD.out
  rw [show ({ D with reads := D.reads + 2 } : DS).np = n from HRR.out.np] at hgd
  have hHs : Hs D2 n (fS n wd 1) (fS n wd 0) [] := ⟨hFm.ok, hnp2, hFm.ops, hFm.pw, hgd, rfl, rfl, fun j hj => absurd hj (Nat.not_lt_zero j), (fun v hv => by cases hv), by
    have := hFm.ok.np; obtain ⟨a, _⟩ := this
    have e2 : D2.np = n := hnp2
    show 2 + 0 ≤ n; omega⟩
  have hrd2 : D2.reads = D.reads + 2 := hFm.reads
  have hep2 : D2.epoch = 0 := by rw [hFm.epoch]; exact HRR.out.epoch
  have HOP := hid (gopen_fresh w2 base F2 p D2 hDA2 (Nat.le_trans HBW.out hB2.size) n (fS n wd 1) (fS n wd 0) hHs rfl 0 (by have := HRD.out; omega) (by omega) (by rw [hep2]; decide) room HR.out (HGL.out.below hB2 HBB.out) HBB.out)
  have HFM := hid hFm
  have HFG := hid (And.intro hFr2 hGr2)
  clear hFm hnp2 hDA2 hFr2 hGr2 hgd hHs hrd2 hep2 hB2 HFT
  go_wp2_with fail
  refine HOP.out.mono ?_
  rintro e w3 ⟨S, l, rfl, hO⟩
  have HO := hid hO
  clear hO HOP
  go_wp2
  go_ret2
  exact ⟨_, _, _, S, l, rfl, HFM.out, HFG.out, HO.out⟩
def createS : ByteArray := ⟨#[99, 114, 101, 97, 116, 101]⟩
def openS : ByteArray := ⟨#[111, 112, 101, 110]⟩
/-- The cells of a refusal. -/
def flC (A : Nat → Addr) (c : ByteArray) (n : Int) (i : Nat) : Array Value := #[.string c, .int .i64 n, .iface 335 (.pointer (some (A i)))]
set_option maxRecDepth 100000 in
set_option maxHeartbeats 2000000 in
theorem gCreate_no (w : World) (v : Value) (wd room : Int) (i : Nat) (hi : i < 20) (P : World → Prop) (K : Calls Tryz.prog 17 #[v, .int .i64 wd, .int .i64 room] w fun e w' => e = .returned (.tuple #[.pointer none, .int .i64 (nos i)]) ∧ P w') (A : Nat → Addr) (hS : ∀ w', P w' → Sen w' A) :
    Calls Tryz.prog 5 #[v, .int .i64 wd, .int .i64 room] w fun e w' => ∃ w1, P w1 ∧ e = .returned (.tuple #[.pointer none, .iface 71 (.pointer (some ⟨w1.heap.size, 0, none⟩))]) ∧ w' = w1.alloc (.cells (flC A createS (-1) i) 76) := by
  replace K := hid K
  replace hS := hid hS
  generalize hn : nos i = n at *
  have HN := hid hn
  clear hn
  go_enter Tryz.func5, Tryz.ntmps5
  go_wp2_with fail
  refine K.out.mono ?_
  rintro e w1 ⟨rfl, hP⟩
  have HP := hid hP
  have W := wrap_at w1 A (hS.out w1 hP) createS (-1) i hi
  rw [HN.out] at W
  replace W := hid W
  clear hP K
  go_wp2_with fail
  refine W.out.mono ?_
  rintro e w2 ⟨rfl, rfl⟩
  go_wp2
  go_ret2
  exact ⟨w1, HP.out, rfl, rfl⟩
set_option maxRecDepth 100000 in
set_option maxHeartbeats 2000000 in
theorem gCreate_yes (w : World) (v : Value) (wd room : Int) (P : Nat → World → Prop) (K : Calls Tryz.prog 17 #[v, .int .i64 wd, .int .i64 room] w fun e w' => ∃ l, e = .returned (.tuple #[.pointer (some ⟨l, 0, none⟩), .int .i64 0]) ∧ P l w') :
    Calls Tryz.prog 5 #[v, .int .i64 wd, .int .i64 room] w fun e w' => ∃ l, P l w' ∧ e = .returned (.tuple #[.pointer (some ⟨l, 0, none⟩), .nilIface]) := by
  replace K := hid K
  go_enter Tryz.func5, Tryz.ntmps5
  go_wp2_with fail
  refine K.out.mono ?_
  rintro e w1 ⟨l, rfl, hP⟩
  have HP := hid hP
  clear hP K
  go_wp2_with fail
  refine (wrap_zero w1 createS (-1)).mono ?_
  rintro e w2 ⟨rfl, rfl⟩
  go_wp2
  go_ret2
  exact ⟨l, HP.out, rfl⟩
set_option maxRecDepth 100000 in
set_option maxHeartbeats 2000000 in
theorem gOpen_no (w : World) (v : Value) (room : Int) (i : Nat) (hi : i < 20) (P : World → Prop) (K : Calls Tryz.prog 23 #[v, .int .i64 room] w fun e w' => e = .returned (.tuple #[.pointer none, .int .i64 (nos i)]) ∧ P w') (A : Nat → Addr) (hS : ∀ w', P w' → Sen w' A) :
    Calls Tryz.prog 7 #[v, .int .i64 room] w fun e w' => ∃ w1, P w1 ∧ e = .returned (.tuple #[.pointer none, .iface 71 (.pointer (some ⟨w1.heap.size, 0, none⟩))]) ∧ w' = w1.alloc (.cells (flC A openS (-1) i) 76) := by
  replace K := hid K
  replace hS := hid hS
  generalize hn : nos i = n at *
  have HN := hid hn
  clear hn
  go_enter Tryz.func7, Tryz.ntmps7
  go_wp2_with fail
  refine K.out.mono ?_
  rintro e w1 ⟨rfl, hP⟩
  have HP := hid hP
  have W := wrap_at w1 A (hS.out w1 hP) openS (-1) i hi
  rw [HN.out] at W
  replace W := hid W
  clear hP K
  go_wp2_with fail
  refine W.out.mono ?_
  rintro e w2 ⟨rfl, rfl⟩
  go_wp2
  go_ret2
  exact ⟨w1, HP.out, rfl, rfl⟩
set_option maxRecDepth 100000 in
set_option maxHeartbeats 2000000 in
theorem gOpen_yes (w : World) (v : Value) (room : Int) (P : Nat → World → Prop) (K : Calls Tryz.prog 23 #[v, .int .i64 room] w fun e w' => ∃ l, e = .returned (.tuple #[.pointer (some ⟨l, 0, none⟩), .int .i64 0]) ∧ P l w') :
    Calls Tryz.prog 7 #[v, .int .i64 room] w fun e w' => ∃ l, P l w' ∧ e = .returned (.tuple #[.pointer (some ⟨l, 0, none⟩), .nilIface]) := by
  replace K := hid K
  go_enter Tryz.func7, Tryz.ntmps7
  go_wp2_with fail
  refine K.out.mono ?_
  rintro e w1 ⟨l, rfl, hP⟩
  have HP := hid hP
  clear hP K
  go_wp2_with fail
  refine (wrap_zero w1 openS (-1)).mono ?_
  rintro e w2 ⟨rfl, rfl⟩
  go_wp2
  go_ret2
  exact ⟨l, HP.out, rfl⟩
end Go.Proofs.YtjpcegjgandnjaaGreatDoor
namespace Go.Proofs
abbrev Tryz.muLink : Go.Conc.Locks.MuLink := { lock := 26, unlock := 27, ilock := 49, iunlock := 50, lockSlow := 80, unlockSlow := 83, disable := 76, enable := 78, acquire := 79, relMerge := 81, cas32 := 77, add32 := 82, tMutex := 91, tIMutex := 89, tPMutex := 126, tPIMutex := 169, tPI32 := 171, tUP := 173, tNoCopy := 86, tU32 := 87 }
theorem Tryz.muLib : Go.Conc.Locks.MuLib Tryz.prog Tryz.muLink :=
  ⟨Tryz.func26, Tryz.func27, Tryz.func49, Tryz.func50, Tryz.func76, Tryz.func78, Tryz.func79, Tryz.func81, Tryz.func77, Tryz.func82, Tryz.underlying89, Tryz.runUnderlying89, Tryz.sizeOf89, Tryz.isAgg89, Tryz.zeroValue89, Tryz.underlying91, Tryz.runUnderlying91, Tryz.sizeOf91, Tryz.isAgg91, Tryz.zeroValue91, Tryz.underlying126, Tryz.runUnderlying126, Tryz.sizeOf126, Tryz.isAgg126, Tryz.zeroValue126, Tryz.underlying169, Tryz.runUnderlying169, Tryz.sizeOf169, Tryz.isAgg169, Tryz.zeroValue169, Tryz.underlying171, Tryz.runUnderlying171, Tryz.sizeOf171, Tryz.isAgg171, Tryz.zeroValue171, Tryz.underlying173, Tryz.runUnderlying173, Tryz.sizeOf173, Tryz.isAgg173, Tryz.zeroValue173, Tryz.underlying86, Tryz.runUnderlying86, Tryz.sizeOf86, Tryz.isAgg86, Tryz.zeroValue86, Tryz.underlying21, Tryz.runUnderlying21, Tryz.sizeOf21, Tryz.isAgg21, Tryz.zeroValue21, (by kernel_rfl)⟩
theorem Tryz.muData : Go.Conc.Locks.MuData Tryz.prog Tryz.muLink := ⟨Tryz.underlying87, by kernel_rfl, by kernel_rfl, by kernel_rfl, by kernel_rfl, by kernel_rfl⟩
end Go.Proofs
