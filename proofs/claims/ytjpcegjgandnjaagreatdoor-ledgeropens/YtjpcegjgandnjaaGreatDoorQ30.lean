import Derived.Test.YtjpcegjgandnjaaGreatDoorQ29
import Derived.Laws.StructEq
namespace Go.Proofs.YtjpcegjgandnjaaGreatDoor
set_option linter.unusedVariables false
set_option linter.unusedSimpArgs false
open Go.RowKit Go.MuLone
open Go.Proofs.YtjpcegjgandnjaaGreatDoor.Ca (Ct ct0 ctC argV AS)
attribute [local go_sem ↓] Go.wp_at_zero Go.wp_at_succ

def zV32 : List Value := List.replicate 32 (.int .u8 0)
theorem zV32_one : ∀ v ∈ zV32, v.oneCell' = true := by intro v hv; simp [zV32] at hv; subst hv; rfl
theorem Tryz.sizeDg : (Tryz.prog.info? 34).map (·.size) = some 32 := by kernel_rfl
theorem allocDg0 (a : Act) (o : Oper) (w : World) (ho : o.op = .alloc 34) : (execOp a.eval o).run Tryz.prog w = .ok (.value (.pointer (some ⟨w.heap.size, 0, none⟩))) (w.alloc (.cells zV32.toArray 34)) := by
  unfold execOp
  rw [ho]
  kernel_rfl
theorem built_dg0 : Tryz.prog.built 34 [] = some zV32.toArray := by kernel_rfl
theorem gS_lt (g : Nat) : gS g < 22 := by
  unfold gS
  split <;> decide
def rootS : ByteArray := ⟨#[114, 111, 111, 116]⟩
set_option maxRecDepth 100000 in
set_option maxHeartbeats 8000000 in
/-- Root of a ledger that is not live. -/
theorem root_dead (w : World) (l st : Nat) (r : Rc) (hl : LD w l st r) (A : Nat → Addr) (hS : Sen w A) (hlA : (∀ g, g < 20 → (A g).block ≠ l) ∧ 22 ≤ l) (i : Nat) (hi : i < 20) (hi0 : nos i ≠ 0) (v : Int)
    (LV : ∀ w1, Keeps l w w1 → Calls Tryz.prog 28 #[.pointer (some ⟨st, 0, none⟩)] w1 fun e w2 => e = .returned (.int .i64 (nos i)) ∧ Below w1.heap.size w1 w2) :
    Calls Tryz.prog 12 #[.pointer (some ⟨l, 0, none⟩), .int .i64 v] w fun e w' => ∃ b, e = .returned (.tuple #[.agg zV32.toArray, .iface 71 (.pointer (some ⟨b, 0, none⟩))]) ∧ w'.heap[b]? = some (.cells (flC A rootS v i) 76 (0, 0)) ∧ Below w.heap.size w w' := by
  have hb1 := below_new w (.cells zV32.toArray 34)
  have hr1 := hnew w (.cells zV32.toArray 34)
  have hl1 : LD (w.alloc (.cells zV32.toArray 34)) l st r := (hb1.block l (hlt hl)).trans hl
  have AI := hid (fun (w : World) (ops : Array Oper) (rest : List Oper) (o : Oper) (a : Act) (Q : Exit → Act → World → Prop) => @wpList_allocA Tryz.prog 34 zV32.toArray allocDg0 w ops rest o a Q)
  have hlw : l < w.heap.size := hlt hl
  generalize hw1 : w.alloc (.cells zV32.toArray 34) = w1 at *
  have hk2 := keeps_setCell w1 l 0 (.int .i32 1)
  have hl2 := lock_row hl1
  have C0 := hid (show w1.cell? ⟨l, 0, none⟩ = some (.int .i32 0) by rw [cell_of_row _ _ _ _ _ _ hl1]; rfl)
  have Z0 := hid (frozen_of_row _ _ 0 _ _ hl1)
  obtain ⟨w2, hw2⟩ : ∃ w2, w2 = w1.setCell ⟨l, 0, none⟩ (.int .i32 1) := ⟨_, rfl⟩
  rw [← hw2] at hk2 hl2
  have LK := hid ((lock_free Tryz.muLib ⟨l, 0, none⟩ w1 C0.out Z0.out).mono (fun e w' hh => (show e = .returned (.tuple #[]) ∧ w2 = w' from ⟨hh.1, hw2.trans hh.2.symm⟩)))
  clear hw2
  have hK2 : Keeps l w w2 := (Keeps.of_below hb1).trans hk2
  have LV2 := hid (LV w2 hK2)
  have hS2 : Sen w2 A := by
    have hold : ∀ (k o : Nat) x, k ≠ l → w.cell? ⟨k, o, none⟩ = some x → w2.cell? ⟨k, o, none⟩ = some x := fun k o x hne c => hK2.cellK hne c
    refine ⟨fun g hg => hold _ _ _ ?_ (hS.cell g hg), fun g hg => ?_, fun g hg => ?_, hS.ne⟩
    · have h1 := gS_lt g; have h2 := hlA.2; omega
    · have e := hS.text g hg
      have hk : (A g).block < w.heap.size := block_lt_of_cell e
      rw [← e]; unfold World.cell?; rw [hK2.block _ hk (hlA.1 g hg)]
    · obtain ⟨c, t, e⟩ := hS.blk g hg
      exact ⟨c, t, hK2.heap e (hlA.1 g hg)⟩
  have HS2 := hid hS2
  have HK2 := hid hK2
  have R2 := hid (show w2.heap[w.heap.size]? = some (.cells zV32.toArray 34 (0, 0)) from (hk2.heap (hw1 ▸ hr1) (by omega)))
  have HL2 := hid hl2
  have HHL := hid hl
  have HW1 := hid hw1
  have NEL := hid (show l ≠ w.heap.size by omega)
  have DGO := hid (all_oneCell_toArray zV32_one)
  have DGS := hid (show (Tryz.prog.info? 34).map (·.size) = some zV32.toArray.size by rw [Tryz.sizeDg]; rfl)
  have BD := hid built_dg0
  have c0 : (nos i != 0) = true := by simpa using hi0
  have HI := hid hi
  obtain ⟨n, hn⟩ : ∃ n, n = nos i := ⟨_, rfl⟩
  rw [← hn] at LV2 c0
  have HN := hid hn
  clear hl hl1 hl2 hb1 hk2 hr1 hw1 hlw hK2 hS hS2 LV hi0 hi hn hlA
  go_enter_defers Tryz.func12, Tryz.ntmps12
  go_wp2_with (first | (refine AI.out _ _ _ _ _ _ rfl rfl ?_; refine Hid.out ?_))
  refine hid ?_
  rw [HW1.out]
  generalize hB2 : w.heap.size = B2 at *
  have HB2E := hid hB2
  clear hB2
  go_wp2_with (go_at_call 26; refine LK.out.mono ?_; rintro e w' ⟨rfl, rfl⟩; refine Hid.out ?_)
  refine hid ?_
  have cl2 : w2.cell? ⟨l, 2, none⟩ = some (.pointer (some ⟨st, 0, none⟩)) := by rw [cell_of_row _ _ _ _ _ _ HL2.out]; rfl
  go_wp2_with fail
  refine LV2.out.mono ?_
  rintro e w3 ⟨rfl, hb3⟩
  have HB3 := hid hb3
  have W := wrap_at w3 A (HS2.out.mono hb3) rootS v i HI.out
  rw [← HN.out] at W
  obtain ⟨w5, hw5⟩ : ∃ w5, w5 = w3.alloc (.cells (flC A rootS v i) 76) := ⟨_, rfl⟩
  have W5 := hid (W.mono (fun e w' hh => (show e = .returned (.iface 71 (.pointer (some ⟨w3.heap.size, 0, none⟩))) ∧ w5 = w' from ⟨hh.1, hw5.trans hh.2.symm⟩)))
  have HB5 := hid (show Below w2.heap.size w2 w5 by rw [hw5]; exact hb3.trans (below_new w3 (.cells (flC A rootS v i) 76) |>.mono hb3.size))
  have R5 := hid (show w5.heap[w3.heap.size]? = some (.cells (flC A rootS v i) 76 (0, 0)) by rw [hw5]; exact hnew w3 _)
  have NB := hid (show w3.heap.size ≠ B2 by have := hlt R2.out; have := hb3.size; omega)
  have LB := hid (show w3.heap.size ≠ l by have := hlt HL2.out; have := hb3.size; omega)
  generalize w3.heap.size = B5 at *
  clear hb3 LV2 cl2 HB3 W hw5
  go_wp2_with fail
  refine W5.out.mono ?_
  rintro e w6 ⟨rfl, rfl⟩
  have R2' := (HB5.out.block _ (hlt R2.out)).trans R2.out
  have HR2 := hid R2'
  clear R2' W5
  have kS : Keeps B2 w5 (w5.setRow B2 zV32.toArray) := (Keeps.refl B2 w5).setRow _
  have rS := hid (show (w5.setRow B2 zV32.toArray).heap[B2]? = some (.cells zV32.toArray 34 (0, 0)) from setRow_heap w5 _ _ _ _ _ HR2.out)
  have KS := hid kS
  clear kS
  go_wp2_with (first
    | refine wpList_store_row (by rfl) 34 (.tmp 4) (.tmp 23) (by rfl) B2 zV32.toArray (by rfl) (by rfl) 34 zV32.toArray HR2.out DGS.out rfl DGO.out ?_)
  have RLL := hid (KS.out.heap ((HB5.out.block _ (hlt HL2.out)).trans HL2.out) NEL.out)
  have RF := hid (KS.out.heap R5.out NB.out)
  have KL := hid ((HK2.out.trans (Keeps.of_below HB5.out)).new KS.out (by have := HB2E.out; omega))
  generalize w5.setRow B2 zV32.toArray = w7 at *
  refine leaves_cons (f := 27) (args := #[.pointer (some ⟨l, 0, none⟩)]) (by simp) (by simp [go_sem]) ?_
  refine (unlock_deferred Tryz.muLib ⟨l, 0, none⟩ .returning w7 (by rw [cell_of_row _ _ _ _ _ _ RLL.out]; rfl) (frozen_of_row _ _ 0 _ _ RLL.out)).mono ?_
  rintro e u' w18 ⟨rfl, rfl, rfl⟩
  have kU := keeps_setCell w7 l 0 (.int .i32 0)
  have rI := kU.heap rS.out (fun e => NEL.out e.symm)
  refine ⟨_, results_c2i Tryz.results12 _ _ B2 34 _ _ _ rfl rI Tryz.underlying34 rfl DGS.out, B5, rfl, kU.heap RF.out LB.out, ?_⟩
  exact below_ld (KL.out.trans kU) HHL.out (unlock_row RLL.out)
end Go.Proofs.YtjpcegjgandnjaaGreatDoor
namespace Go.Proofs.YtjpcegjgandnjaaGreatDoor
set_option linter.unusedVariables false
set_option linter.unusedSimpArgs false
open Go.RowKit
open Go.Proofs.YtjpcegjgandnjaaGreatDoor.Ca (Ct ct0 ctC argV AS)
attribute [local go_sem ↓] Go.wp_at_zero Go.wp_at_succ

theorem Tryz.stoodInf : Tryz.prog.stoodInHeld 36 = false := by kernel_rfl
theorem Tryz.guardInf : Tryz.prog.eqGuardType Tryz.prog.depth 36 = false := by kernel_rfl
theorem Tryz.undInf : Tryz.prog.underlying 36 = some (.struct (Tryz.prog.fieldsOf 36)) := by kernel_rfl
set_option maxRecDepth 100000 in
theorem Tryz.fieldsInf : ∃ a b c d e f g, (Tryz.prog.fieldsOf 36).toList = [a, b, c, d, e, f, g] ∧ (a.name ≠ "_" ∧ b.name ≠ "_" ∧ c.name ≠ "_" ∧ d.name ≠ "_" ∧ e.name ≠ "_" ∧ f.name ≠ "_" ∧ g.name ≠ "_") ∧ (a.type = 3 ∧ b.type = 3 ∧ c.type = 3 ∧ d.type = 3 ∧ e.type = 3 ∧ f.type = 3 ∧ g.type = 34) ∧ a.offset = 0 ∧ b.offset = 1 ∧ c.offset = 2 ∧ d.offset = 3 ∧ e.offset = 4 ∧ f.offset = 5 ∧ g.offset = 6 := by
  refine ⟨_, _, _, _, _, _, _, rfl, ⟨?_, ?_, ?_, ?_, ?_, ?_, ?_⟩, ⟨?_, ?_, ?_, ?_, ?_, ?_, ?_⟩, ?_, ?_, ?_, ?_, ?_, ?_, ?_⟩ <;> decide
set_option maxRecDepth 100000 in
theorem eqInf (s : Sup) (r : Rc) (np : Int) (h : r.sm.length = 32) (w : World) :
    (Op.equalIn 10000 36 (.agg (inC s r np).toArray) (.agg (inC s r np).toArray)).run Tryz.prog w = .ok true w := by
  rw [run_equalIn_struct w 9999 _ _ _ Tryz.undInf Tryz.stoodInf]
  obtain ⟨a, b, c, d, e, f, g, hf, ⟨na, nb, nc, nd, ne, nf, ng⟩, ⟨ta, tb, tc, td, te, tf, tg⟩, oa, ob, oc, od, oe, of, og⟩ := Tryz.fieldsInf
  rw [hf]
  have hu3 : Tryz.prog.underlying 3 = some (.int .i64) := by kernel_rfl
  have e3 : ((inC s r np).toArray).extract 6 (6 + 32) = (r.sm.map (Value.int .u8)).toArray := by
    simp only [inC, ints, List.extract_toArray]
    congr 1
    simp only [List.extract_eq_take_drop, List.cons_append, List.nil_append, List.drop_succ_cons, List.drop_zero]
    rw [List.take_of_length_le (by simp [h])]
  have hd := fun xs o => part_row Tryz.underlying34 Tryz.sizeDg xs o w
  have hq := eqIn_ints Tryz.underlying34 Tryz.underlying5 Tryz.size5 .u8 9997 r.sm r.sm h h w
  rw [decide_eq_true rfl] at hq
  have hi : ∀ z : Int, (Op.equalIn 9999 3 (.int .i64 z) (.int .i64 z)).run Tryz.prog w = .ok true w := fun z => by
    have := run_equalIn_int w 9998 3 .i64 .i64 z z hu3
    simpa using this
  rw [eqFields_cons na (by rw [ta, oa]; exact part_int hu3 _ _ (.int .i64 s.wd) rfl w) (by rw [ta, oa]; exact part_int hu3 _ _ (.int .i64 s.wd) rfl w) (by rw [ta]; exact hi _), if_pos rfl,
    eqFields_cons nb (by rw [tb, ob]; exact part_int hu3 _ _ (.int .i64 r.f) rfl w) (by rw [tb, ob]; exact part_int hu3 _ _ (.int .i64 r.f) rfl w) (by rw [tb]; exact hi _), if_pos rfl,
    eqFields_cons nc (by rw [tc, oc]; exact part_int hu3 _ _ (.int .i64 r.v) rfl w) (by rw [tc, oc]; exact part_int hu3 _ _ (.int .i64 r.v) rfl w) (by rw [tc]; exact hi _), if_pos rfl,
    eqFields_cons nd (by rw [td, od]; exact part_int hu3 _ _ (.int .i64 s.ma) rfl w) (by rw [td, od]; exact part_int hu3 _ _ (.int .i64 s.ma) rfl w) (by rw [td]; exact hi _), if_pos rfl,
    eqFields_cons ne (by rw [te, oe]; exact part_int hu3 _ _ (.int .i64 np) rfl w) (by rw [te, oe]; exact part_int hu3 _ _ (.int .i64 np) rfl w) (by rw [te]; exact hi _), if_pos rfl,
    eqFields_cons nf (by rw [tf, of]; exact part_int hu3 _ _ (.int .i64 r.c) rfl w) (by rw [tf, of]; exact part_int hu3 _ _ (.int .i64 r.c) rfl w) (by rw [tf]; exact hi _), if_pos rfl,
    eqFields_cons ng (by rw [tg, og]; exact (hd _ 6).trans (by rw [e3])) (by rw [tg, og]; exact (hd _ 6).trans (by rw [e3])) (by rw [tg]; exact hq), if_pos rfl]
  simp [Op.eqFields]

theorem eqInfo (s : Sup) (r : Rc) (np : Int) (h : r.sm.length = 32) (w : World) : (binOp .eql 36 (.agg (inC s r np).toArray) (.agg (inC s r np).toArray)).run Tryz.prog w = .ok (.bool true) w := by
  have gI := Tryz.guardInf
  have qI := eqInf s r np h w
  simp [go_sem, gI, qI]
theorem eqDgS (xs : List Int) (ha : xs.length = 32) (w : World) : (Op.equalIn 10000 34 (.agg (ints .u8 xs).toArray) (.agg (ints .u8 xs).toArray)).run Tryz.prog w = .ok true w := by
  have := equalIn_ints (P := Tryz.prog) Tryz.underlying34 Tryz.underlying5 Tryz.size5 .u8 xs xs ha ha w
  rw [decide_eq_true rfl] at this; exact this
theorem Tryz.sizeCo : (Tryz.prog.info? 41).map (·.size) = some 4 := by kernel_rfl
def co0 : List Value := [.int .i64 0, .int .i64 0, .int .i64 0, .int .i64 0]
theorem allocCo (a : Act) (o : Oper) (w : World) (ho : o.op = .alloc 41) : (execOp a.eval o).run Tryz.prog w = .ok (.value (.pointer (some ⟨w.heap.size, 0, none⟩))) (w.alloc (.cells co0.toArray 41)) := by
  unfold execOp
  rw [ho]
  kernel_rfl
/-- A refusal, asked. -/
theorem flt_any (w w1 : World) (hb : Below w.heap.size w w1) (n : Int) (hT : TabP n w) (A : Nat → Addr) (hS : Sen w A) (b : Nat) (c : ByteArray) (h0 : -9223372036854775808 ≤ n) (h1 : n ≤ 9223372036854775807) (hc : c.size ≤ 140737488351232) (i : Nat) (hi : i < 20) (hr : w1.heap[b]? = some (.cells (flC A c n i) 76 (0, 0))) :
    Calls Tryz.prog 6 #[.iface 71 (.pointer (some ⟨b, 0, none⟩)), .int .i64 (nos i), .string c, .int .i64 n] w1 fun e w' => e = .returned (.bool true) ∧ Below w1.heap.size w1 w' :=
  fault_any w1 n (hT.later hb) A (hS.mono hb) b c h0 h1 hc i hi (by rw [cell_of_row _ _ _ _ _ _ hr]; rfl) (by rw [cell_of_row _ _ _ _ _ _ hr]; rfl) (by rw [cell_of_row _ _ _ _ _ _ hr]; rfl)
theorem gcreate_bad (w : World) (base : Nat) (F : List Nat) (p : Nat) (D : DS) (h : DA w base F p D) (hpw : D.power = true) (wd room : Int) (hq : ¬ ((1 ≤ wd ∧ wd ≤ 32) ∧ (1 ≤ room ∧ room ≤ 4096))) : Calls Tryz.prog 17 #[.pointer (some ⟨p, 0, none⟩), .int .i64 wd, .int .i64 room] w fun e w' => e = .returned (.tuple #[.pointer none, .int .i64 1]) ∧ w = w' := by
  by_cases hr : 1 ≤ room ∧ room ≤ 4096
  · exact gcreate_width w base F p D h hpw wd room hr (fun hw => hq ⟨hw, hr⟩)
  · exact gcreate_room w base F p D h hpw wd room hr
/-- A refusal of Create that touches nothing. -/
theorem create_ref (w w0 : World) (hb : Below w0.heap.size w0 w) (A : Nat → Addr) (hS : Sen w0 A) (v : Value) (wd room : Int) (i : Nat) (hi : i < 20) (K : Calls Tryz.prog 17 #[v, .int .i64 wd, .int .i64 room] w fun e w' => e = .returned (.tuple #[.pointer none, .int .i64 (nos i)]) ∧ w = w') :
    Calls Tryz.prog 5 #[v, .int .i64 wd, .int .i64 room] w fun e w' => ∃ b, e = .returned (.tuple #[.pointer none, .iface 71 (.pointer (some ⟨b, 0, none⟩))]) ∧ w'.heap[b]? = some (.cells (flC A createS (-1) i) 76 (0, 0)) ∧ Below w.heap.size w w' :=
  (gCreate_no w v wd room i hi (fun w' => w = w') K A (fun w' e => e ▸ hS.mono hb)).mono fun e w' hh => by
    obtain ⟨w1, rfl, rfl, rfl⟩ := hh
    exact ⟨_, rfl, hnew w _, below_new w _⟩
theorem open_ref (w w0 : World) (hb : Below w0.heap.size w0 w) (A : Nat → Addr) (hS : Sen w0 A) (v : Value) (room : Int) (i : Nat) (hi : i < 20) (K : Calls Tryz.prog 23 #[v, .int .i64 room] w fun e w' => e = .returned (.tuple #[.pointer none, .int .i64 (nos i)]) ∧ w = w') :
    Calls Tryz.prog 7 #[v, .int .i64 room] w fun e w' => ∃ b, e = .returned (.tuple #[.pointer none, .iface 71 (.pointer (some ⟨b, 0, none⟩))]) ∧ w'.heap[b]? = some (.cells (flC A openS (-1) i) 76 (0, 0)) ∧ Below w.heap.size w w' :=
  (gOpen_no w v room i hi (fun w' => w = w') K A (fun w' e => e ▸ hS.mono hb)).mono fun e w' hh => by
    obtain ⟨w1, rfl, rfl, rfl⟩ := hh
    exact ⟨_, rfl, hnew w _, below_new w _⟩
/-- Open of a disk that tells no superblock. -/
theorem open_blank (w w0 : World) (hb : Below w0.heap.size w0 w) (A : Nat → Addr) (hS : Sen w0 A) (base : Nat) (F : List Nat) (p : Nat) (D : DS) (h : DA w base F p D) (hB0 : w0.heap.size ≤ base) (hbw : base ≤ w.heap.size) (hpw : D.power = true) (hr : D.reads < 3999999999999999999) (i : Nat) (hi : i < 20) (hx : (chooseF (D.readOf 0) (D.readOf 1)).2 = nos i) (hx0 : nos i ≠ 0) (room : Int) (hm : 1 ≤ room ∧ room ≤ 4096) :
    Calls Tryz.prog 7 #[.pointer (some ⟨p, 0, none⟩), .int .i64 room] w fun e w' => ∃ b, e = .returned (.tuple #[.pointer none, .iface 71 (.pointer (some ⟨b, 0, none⟩))]) ∧ w'.heap[b]? = some (.cells (flC A openS (-1) i) 76 (0, 0)) ∧ DA w' base F p { D with reads := D.reads + 2 } ∧ Below base w w' :=
  (gOpen_no w _ room i hi (fun w' => DA w' base F p { D with reads := D.reads + 2 } ∧ Fr F w w') (gopen_bad w base F p D h hpw hr _ hx hx0 room hm) A (fun w' e => hS.mono (hb.trans ((e.2.below (fun k hk => (h.lt k hk).1) hbw).mono hB0)))).mono fun e w' hh => by
    obtain ⟨w1, ⟨hd, hf⟩, rfl, rfl⟩ := hh
    have hb1 := hf.below (fun k hk => (h.lt k hk).1) hbw
    have s1 := hb1.size
    exact ⟨_, rfl, hnew w1 _, hd.below (below_new w1 _), hb1.trans ((below_new w1 _).mono (Nat.le_trans hbw s1))⟩
end Go.Proofs.YtjpcegjgandnjaaGreatDoor
namespace Go.Proofs.YtjpcegjgandnjaaGreatDoor
set_option linter.unusedVariables false
set_option linter.unusedSimpArgs false
open Go.RowKit
open Go.Proofs.YtjpcegjgandnjaaGreatDoor.Ca (Ct ct0 ctC argV AS)
attribute [local go_sem ↓] Go.wp_at_zero Go.wp_at_succ

/-- A live ledger without a version. -/
structure Liv (w : World) (base p n : Nat) (wd : Int) (S : Sto) (l : Nat) : Prop where
  ls : Ls w base S [] 0
  hs : Hs S.D n (fS n wd 1) (fS n wd 0) []
  ld : LD w l S.st (recE wd)
  nf : l ∉ S.fp
  pe : S.p = p
  se : S.s = fS n wd 1
  rd : S.D.reads ≤ 900
  ep : S.D.epoch ≤ 900 ∧ S.ep = S.D.epoch
  bl : base ≤ l
theorem Liv.below {w w1 : World} {base p n : Nat} {wd : Int} {S : Sto} {l : Nat} (h : Liv w base p n wd S l) (hb : Below w.heap.size w w1) : Liv w1 base p n wd S l :=
  ⟨h.ls.below hb, h.hs, (hb.block l (hlt h.ld)).trans h.ld, h.nf, h.pe, h.se, h.rd, h.ep, h.bl⟩
theorem Opd.liv {w : World} {base : Nat} {F : List Nat} {p : Nat} {D : DS} {n : Nat} {wd : Int} {w' : World} {S : Sto} {l : Nat} (h : Opd w base F p D n (fS n wd 1) (fS n wd 0) 0 w' S l) (hbw : base ≤ w.heap.size) (hr : D.reads ≤ 898) (he : D.epoch ≤ 899) : Liv w' base p n wd S l :=
  ⟨h.ls, h.hs, h.ld, h.nf, h.pe, h.se, by rw [h.De]; show D.reads + 2 ≤ 900; omega, ⟨by rw [h.De]; show D.epoch + 1 ≤ 900; omega, by rw [h.epe, h.De]⟩, Nat.le_trans hbw h.nw⟩
theorem lcreate_ok (w : World) (base : Nat) (F : List Nat) (p : Nat) (D : DS) (h : DA w base F p D) (hbw : base ≤ w.heap.size) (n : Nat) (hR : Rest D n 0) (wd : Int) (hwd : 1 ≤ wd ∧ wd ≤ 32) (hBl : Blank (pgO D.img 0) (pgO D.img 1)) (hrd : D.reads ≤ 800) (room : Int) (hr : 1 ≤ room ∧ room ≤ 4096) (hG : Glob w) (hB : 22 ≤ base) :
    Calls Tryz.prog 5 #[.pointer (some ⟨p, 0, none⟩), .int .i64 wd, .int .i64 room] w fun e w' => ∃ l, (∃ S, Liv w' base p n wd S l ∧ (S.D.reads ≤ D.reads + 4 ∧ S.D.epoch = 1) ∧ Below base w w') ∧ e = .returned (.tuple #[.pointer (some ⟨l, 0, none⟩), .nilIface]) := by
  refine gCreate_yes w _ wd room (fun l w' => ∃ S, Liv w' base p n wd S l ∧ (S.D.reads ≤ D.reads + 4 ∧ S.D.epoch = 1) ∧ Below base w w') ((gcreate_fresh w base F p D h hbw n hR wd hwd hBl (by omega) room hr hG hB).mono fun e w' hh => ?_)
  obtain ⟨w1, F1, D1, S, l, rfl, hFm, ⟨hf, hg⟩, hO⟩ := hh
  have hb1 : Below base w w1 := hf.below (fun k hk => (h.lt k hk).1) hbw
  have e1 : D1.reads = D.reads + 2 := hFm.reads
  have e2 : D1.epoch = 0 := by rw [hFm.epoch]; exact hR.epoch
  exact ⟨l, rfl, S, hO.liv (Nat.le_trans hbw hb1.size) (by omega) (by omega), ⟨by rw [hO.De]; show D1.reads + 2 ≤ _; omega, by rw [hO.De]; show D1.epoch + 1 = 1; omega⟩, hb1.trans hO.bl⟩
/-- A ledger whose disk was opened anew. -/
structure Stl (w : World) (base p : Nat) (F : List Nat) (D : DS) (l st : Nat) (r : Rc) : Prop where
  ld : LD w l st r
  da : DA w base F p D
  fl : ∃ g s nx ep, w.cell? ⟨st, 0, none⟩ = some (.pointer (some ⟨g, 0, none⟩)) ∧ FK w g p s nx ep ∧ D.epoch ≠ ep ∧ l ≠ g
  ns : l ≠ st
  nf : l ∉ F
theorem Stl.below {w w1 : World} {base p : Nat} {F : List Nat} {D : DS} {l st : Nat} {r : Rc} (h : Stl w base p F D l st r) (hb : Below w.heap.size w w1) : Stl w1 base p F D l st r := by
  obtain ⟨g, s, nx, ep, c0, fk, ne, ng⟩ := h.fl
  exact ⟨(hb.block l (hlt h.ld)).trans h.ld, h.da.below hb, ⟨g, s, nx, ep, (hb.cell (block_lt_of_cell c0)).trans c0, fk.below hb, ne, ng⟩, h.ns, h.nf⟩
theorem Stl.live {w : World} {base p : Nat} {F : List Nat} {D : DS} {l st : Nat} {r : Rc} (h : Stl w base p F D l st r) : ∀ w1, Keeps l w w1 → Calls Tryz.prog 28 #[.pointer (some ⟨st, 0, none⟩)] w1 fun e w2 => e = .returned (.int .i64 (nos 2)) ∧ Below w1.heap.size w1 w2 := by
  intro w1 hk
  obtain ⟨g, s, nx, ep, c0, fk, ne, ng⟩ := h.fl
  have hd : DA w1 base F p D := h.da.of_heap fun k q => hk.block k (h.da.lt k q).2 (fun e => h.nf (e ▸ q))
  have hf : FK w1 g p s nx ep := hk.heap fk (fun e => ng e.symm)
  have := oLive_min w1 base F st g p s nx ep D (hk.cellK (fun e => h.ns e.symm) c0) hf hd
  rw [show liveF D ep = 3 by unfold liveF; rw [if_pos ne]] at this
  exact this
theorem lopen_again (w : World) (base p n : Nat) (wd : Int) (S : Sto) (l : Nat) (h : Liv w base p n wd S l) (hbw : base ≤ w.heap.size) (hr : S.D.reads ≤ 800) (he : S.D.epoch ≤ 800) (room : Int) (hm : 1 ≤ room ∧ room ≤ 4096) (hG : Glob w) (hB : 22 ≤ base) :
    Calls Tryz.prog 7 #[.pointer (some ⟨p, 0, none⟩), .int .i64 room] w fun e w' => ∃ l2, (∃ S2, Liv w' base p n wd S2 l2 ∧ Stl w' base p S2.F S2.D l S.st (recE wd) ∧ (S2.D = { S.D with reads := S.D.reads + 2, epoch := S.D.epoch + 1 }) ∧ Fr S.F w w' ∧ Below base w w') ∧ e = .returned (.tuple #[.pointer (some ⟨l2, 0, none⟩), .nilIface]) := by
  have hda := h.ls.sk.da
  rw [h.pe] at hda
  refine gOpen_yes w _ room (fun l2 w' => ∃ S2, Liv w' base p n wd S2 l2 ∧ Stl w' base p S2.F S2.D l S.st (recE wd) ∧ (S2.D = { S.D with reads := S.D.reads + 2, epoch := S.D.epoch + 1 }) ∧ Fr S.F w w' ∧ Below base w w') ((gopen_fresh w base S.F p S.D hda hbw n (fS n wd 1) (fS n wd 0) h.hs rfl 0 (by omega) (by omega) (by omega) room hm hG hB).mono fun e w' hh => ?_)
  obtain ⟨S2, l2, rfl, hO⟩ := hh
  have hdb : DA w' base S2.F p S2.D := by have := hO.ls.sk.da; rw [hO.pe] at this; exact this
  have hF := hO.Fe
  have hfk := h.ls.sk.fk
  rw [h.pe] at hfk
  have nl : ∀ k, k ∈ S.fp → l ≠ k := fun k q e => h.nf (e ▸ q)
  have m1 : ∀ k ∈ S.F, k ∈ S.fp := fun k q => (Sto.mem S k).2 (by simp [q])
  have hst : S.st ∉ S.F := fun q => by
    exact hda.not_in (h.ls.sk.sk) (by decide) (by decide) (by decide) q
  refine ⟨l2, rfl, S2, hO.liv hbw (by omega) (by omega), ⟨?_, hdb, ⟨S.g, S.s, S.nx, S.ep, ?_, ?_, ?_, ?_⟩, ?_, ?_⟩, hO.De, hO.fr, hO.bl⟩
  · exact hO.fr.keep h.ld (fun q => h.nf (m1 l q))
  · have c := h.ls.sk.c0
    have hk : S.st < w.heap.size := block_lt_of_cell c
    rw [← c]; unfold World.cell?; rw [hO.fr.block S.st hk hst]
  · exact hfk.other hda hO.fr
  · rw [hO.De, h.ep.2]; show S.D.epoch + 1 ≠ S.D.epoch; omega
  · exact nl _ ((Sto.mem S _).2 (Or.inl rfl))
  · exact nl _ ((Sto.mem S _).2 (by simp))
  · rw [hF]; exact fun q => h.nf (m1 l q)
end Go.Proofs.YtjpcegjgandnjaaGreatDoor
