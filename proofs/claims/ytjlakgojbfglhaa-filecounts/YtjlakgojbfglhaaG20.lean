import Derived.Test.YtjlakgojbfglhaaG19
namespace Go.Proofs.Ytjlakgojbfglhaa
set_option linter.unusedVariables false
set_option linter.unusedSimpArgs false
open Go.RowKit
attribute [local go_sem ↓] Go.wp_at_zero Go.wp_at_succ


theorem yields_field0 {ops : Array Oper} {S : World → Prop} {o : Oper} {a : Act} (hw : Region.wanted o (yielded ops a.tmps) = true) (x : Operand) (ho : o.op = .field 53 x 0) (s2 : Sup) (y : Int) (hy : s2.wd = y) (hx : a.eval x = .agg (supC s2)) : YieldsIf Try.prog ops S o (.int .i64 y) a :=
  .inl ⟨hw, fun w _ => by
    subst hy
    unfold execOp
    simp only [ho, hx]
    kernel_rfl⟩
theorem build_sup (a0 a1 a2 a3 a4 : Int) (w : World) : (Instr.build 53 #[(0, .int .i64 a0), (1, .int .i64 a1), (2, .int .i64 a2), (3, .int .i64 a3), (4, .int .i64 a4)]).run Try.prog w = .ok (.agg #[.int .i64 a0, .int .i64 a1, .int .i64 a2, .int .i64 a3, .int .i64 a4]) w := by
  kernel_rfl
theorem yields_sup {ops : Array Oper} {S : World → Prop} {o : Oper} {a : Act} (hw : Region.wanted o (yielded ops a.tmps) = true) (x0 x1 x2 x3 x4 : Operand) (ho : o.op = .build 53 #[(0, x0), (1, x1), (2, x2), (3, x3), (4, x4)]) (s2 : Sup) (a0 a1 a2 a3 a4 : Int) (h0 : a.eval x0 = .int .i64 a0) (h1 : a.eval x1 = .int .i64 a1) (h2 : a.eval x2 = .int .i64 a2) (h3 : a.eval x3 = .int .i64 a3) (h4 : a.eval x4 = .int .i64 a4) (he : (#[.int .i64 a0, .int .i64 a1, .int .i64 a2, .int .i64 a3, .int .i64 a4] : Array Value) = supC s2) : YieldsIf Try.prog ops S o (.agg (supC s2)) a :=
  .inl ⟨hw, fun w _ => by
    rw [← he]
    unfold execOp
    simp only [ho, List.map_toArray, List.map_cons, List.map_nil, h0, h1, h2, h3, h4, Sem.run_bind, build_sup, Result.andThen_ok, Sem.run_pure]⟩
theorem BI.set {w : World} {base : Nat} {G : List Nat} {gb : Nat} {lv kv : Value} {vs : List Value} {B B' : Bk} (h : BI w base G gb lv kv vs B) (j : Nat) (v : Value) (hL : B'.Ls = B.Ls) (hK : B'.Ks = B.Ks) (hc : (bcells lv kv B).setIfInBounds j v = bcells lv kv B') : BI (w.setCell ⟨gb, j, none⟩ v) base G gb lv kv vs B' := by
  have ne : ∀ (k : Nat) (cs : Array Value) (t : TypeId) (fr : Nat × Nat), w.heap[k]? = some (.cells cs t fr) → t ≠ 32 → (w.setCell ⟨gb, j, none⟩ v).heap[k]? = w.heap[k]? := fun k cs t fr hk ht => heap_setCell_other w ⟨gb, j, none⟩ k v (fun e => ne_ty hk h.cell ht e)
  have nr : ∀ (t n : Nat) (x : Value) (cs : List Value), w.ownsRow base t 1 x n cs → t ≠ 32 → (w.setCell ⟨gb, j, none⟩ v).ownsRow base t 1 x n cs := fun t n x cs hr ht => ownsRow_heap hr fun i e => by
    obtain ⟨_, cur, hh⟩ := ownsRow_block hr i e
    exact ne i _ _ _ hh ht
  refine ⟨?_, h.gb, by rw [hL]; exact nr _ _ _ _ h.rl (by decide), h.gl, by rw [hK]; exact nr _ _ _ _ h.rk (by decide), h.gk, by rw [hL]; exact h.len, ?_, by rw [hL]; exact h.gv, fun k hk => ⟨(h.lt k hk).1, by rw [World.size_setCell]; exact (h.lt k hk).2⟩⟩
  · rw [heap_setCell_same _ _ _ _ _ _ h.cell, hc]
  · rw [hL]; intro i hi
    exact nr _ _ _ _ (h.own i hi) (by decide)
theorem BA.setM {w : World} {base : Nat} {G : List Nat} {gb : Nat} {B : Bk} (h : BA w base G gb B) (x : Int) : BA (w.setCell ⟨gb, 2, none⟩ (.int .i64 x)) base G gb { B with mrk := x } := by
  obtain ⟨lv, kv, vs, h⟩ := h; exact ⟨lv, kv, vs, h.set 2 _ rfl rfl rfl⟩
theorem BA.setG {w : World} {base : Nat} {G : List Nat} {gb : Nat} {B : Bk} (h : BA w base G gb B) (x : Int) : BA (w.setCell ⟨gb, 3, none⟩ (.int .i64 x)) base G gb { B with gn := x } := by
  obtain ⟨lv, kv, vs, h⟩ := h; exact ⟨lv, kv, vs, h.set 3 _ rfl rfl rfl⟩
theorem BA.setH {w : World} {base : Nat} {G : List Nat} {gb : Nat} {B : Bk} (h : BA w base G gb B) (x : Int) : BA (w.setCell ⟨gb, 4, none⟩ (.int .i64 x)) base G gb { B with hd := x } := by
  obtain ⟨lv, kv, vs, h⟩ := h; exact ⟨lv, kv, vs, h.set 4 _ rfl rfl rfl⟩
theorem BA.setI {w : World} {base : Nat} {G : List Nat} {gb : Nat} {B : Bk} (h : BA w base G gb B) (x : Int) : BA (w.setCell ⟨gb, 5, none⟩ (.int .i64 x)) base G gb { B with im := x } := by
  obtain ⟨lv, kv, vs, h⟩ := h; exact ⟨lv, kv, vs, h.set 5 _ rfl rfl rfl⟩
theorem BA.setJ {w : World} {base : Nat} {G : List Nat} {gb : Nat} {B : Bk} (h : BA w base G gb B) (x : Int) : BA (w.setCell ⟨gb, 6, none⟩ (.int .i64 x)) base G gb { B with ih := x } := by
  obtain ⟨lv, kv, vs, h⟩ := h; exact ⟨lv, kv, vs, h.set 6 _ rfl rfl rfl⟩
theorem BA.cell {w : World} {base : Nat} {G : List Nat} {gb : Nat} {B : Bk} (h : BA w base G gb B) : w.cell? ⟨gb, 2, none⟩ = some (.int .i64 B.mrk) ∧ w.cell? ⟨gb, 3, none⟩ = some (.int .i64 B.gn) ∧ w.cell? ⟨gb, 4, none⟩ = some (.int .i64 B.hd) ∧ w.cell? ⟨gb, 5, none⟩ = some (.int .i64 B.im) ∧ w.cell? ⟨gb, 6, none⟩ = some (.int .i64 B.ih) ∧ ∀ j, w.frozen? ⟨gb, j, none⟩ = false := by
  obtain ⟨lv, kv, vs, h⟩ := h
  refine ⟨?_, ?_, ?_, ?_, ?_, fun j => frozen_of_row _ _ _ _ _ h.cell⟩ <;> (rw [cell_of_row _ _ _ _ _ _ h.cell]; rfl)
theorem BA.gbG {w : World} {base : Nat} {G : List Nat} {gb : Nat} {B : Bk} (h : BA w base G gb B) : gb ∈ G := by
  obtain ⟨lv, kv, vs, h⟩ := h; exact h.gb
theorem BA.not_file {w : World} {base : Nat} {G : List Nat} {gb : Nat} {B : Bk} (h : BA w base G gb B) {g p : Nat} {s : Sup} {nx ep : Int} (hf : FK w g p s nx ep) : gb ≠ g := by
  obtain ⟨lv, kv, vs, h⟩ := h; exact ne_ty h.cell hf (by decide)
set_option maxRecDepth 100000 in
set_option maxHeartbeats 2000000 in
theorem act2a (w : World) (base : Nat) (F : List Nat) (p : Nat) (D : DS) (h : DA w base F p D) (hbw : base ≤ w.heap.size) (g : Nat) (s : Sup) (nx : Nat) (ep : Int) (hf : FK w g p s nx ep) (G : List Nat) (gb : Nat) (B : Bk) (hb : BA w base G gb B) (hap : Apart F G) (hgG : g ∉ G) (n c : Nat) (hlv : Lv D s nx ep B n c) (hc : c ≤ 1000) (N : Int) (hN : -9223372036854775808 ≤ N ∧ N ≤ 9223372036854775807) (l : List Int) (h8 : Byts l) (sp : Option Addr) (cap : Nat) (hS : Src w sp cap l) (hlm : l.length ≤ 140737488355000) (hm : N % 2 = 1) (hx : 2 < nx) :
    Calls Try.prog 13 #[.pointer (some ⟨gb, 0, none⟩), .pointer (some ⟨p, 0, none⟩), .pointer (some ⟨g, 0, none⟩), .agg (actV 2 N sp l.length cap)] w fun e w' => ∃ er, e = .returned (.tuple #[.int .i64 er, .bool true]) ∧ AO base p g gb F G w n c ep D s (D.armed = 0) er w'  := by
  have hnp := h.ok.np
  have B0 := below_new w (.cells (actV 2 N sp l.length cap) 35)
  have cA := hnew w (.cells (actV 2 N sp l.length cap) 35)
  have cA0 : (w.alloc (.cells (actV 2 N sp l.length cap) 35)).cell? ⟨w.heap.size, 0, none⟩ = some (.int .i64 2) := by rw [cell_of_row _ _ _ _ _ _ cA]; rfl
  have cA1 : (w.alloc (.cells (actV 2 N sp l.length cap) 35)).cell? ⟨w.heap.size, 1, none⟩ = some (.int .i64 N) := by rw [cell_of_row _ _ _ _ _ _ cA]; rfl
  have cA2 : (w.alloc (.cells (actV 2 N sp l.length cap) 35)).cell? ⟨w.heap.size, 2, none⟩ = some (.slice sp l.length cap) := by rw [cell_of_row _ _ _ _ _ _ cA]; rfl
  have HF0 := hid (hf.below B0)
  have HD0 := hid (h.below B0)
  have HBB0 := hid (hb.below B0)
  have HNX := hid (FNext_any _ g p s nx ep HF0.out)
  have HB0 := hid B0
  have HD := hid h
  have HF := hid hf
  have HBB := hid hb
  have HAP := hid hap
  have HLV := hid hlv
  have HCC := hid hc
  have HPL := hid (place_any (w.alloc (.cells (actV 2 N sp l.length cap) 35)) N 2 (by decide) (by decide) hN.1 hN.2 2 rfl)
  rw [show ((2 : Nat) : Int) = 2 from rfl, hm] at HPL
  have hvv := (validS_iff s).1 hlv.val
  have hgv := hlv.ge
  have hnxx := hlv.hnx
  have hcn := hlv.cnt
  obtain ⟨s2, hs2⟩ : ∃ s2, s2 = nextS s nx (((nx : Int) - 1)) := ⟨_, rfl⟩
  have hh : (((nx : Int) - 1)) = (0 : Int) ∨ (2 ≤ (((nx : Int) - 1) : Int) ∧ (((nx : Int) - 1) : Int) < (nx : Int)) := Or.inr ⟨by omega, by omega⟩
  obtain ⟨R, hR⟩ : ∃ R, R = runS D [.sync, .lay s2 0 0, .sync] := ⟨_, rfl⟩
  have HPU := hid (hlv.publish hc (((nx : Int) - 1)) hh R (by rw [hR, hs2]))
  have HKP := hid (hlv.kp_publish hc (((nx : Int) - 1)) hh R (by rw [hR, hs2]))
  have HMK := hid (show s.ma ≤ B.mrk from by rw [hlv.bk.1]; exact Int.le_refl _)
  rw [← hs2] at HPU HKP
  have HPUB := hid (Publish_in _ base F p D HD0.out (Nat.le_trans hbw B0.size) g s nx ep HF0.out hlv.live (((nx : Int) - 1)) hh ⟨by omega, by omega⟩ s2 hs2 (by rw [hs2]; exact nextS_valid hlv.val hlv.pg hlv.hnx hh (by omega)) ⟨hlv.pw, by omega, by omega, by omega⟩)
  have HR := hid hR
  have HGE := hid (show 0 ≤ s.ge ∧ s.ge ≤ 100000 by omega)
  have HWD := hid (show s2.wd = s.wd by rw [hs2]; rfl)
  have HS2C := hid (show (#[.int .i64 s.wd, .int .i64 (s.ge + 1), .int .i64 (nx : Int), .int .i64 (((nx : Int) - 1)), .int .i64 (n : Int)] : Array Value) = supC s2 by rw [hs2, ← hlv.pg]; rfl)
  have HGG := hid hgG
  have jn : (nx : Int) ≤ 64 := by have := hlv.small; omega
  have j1 : 2 < (nx : Int) := by omega
  clear hx
  clear h hf hb hap hlv hnp hS hN h8 B0 hgG hm hvv hgv hnxx hcn hh hR hs2
  go_enter Try.func13, Try.ntmps13
  go_wp2_with (first | (go_at_call 7; refine HNX.out.mono ?_; rintro e w1 ⟨rfl, rfl⟩) | (go_at_call 11; refine HPL.out.mono ?_; rintro e w1 ⟨rfl, rfl⟩))
  refine HPUB.out.mono ?_
  rintro e w2 ⟨rfl, hN2⟩
  rw [← HR.out] at hN2 ⊢
  obtain ⟨F2, q1, q2, q3, q4⟩ := hN2
  have hap2 : Apart F2 G := HAP.out.step (fun k hk => (HBB.out.lt k hk).2) (fun k hk => (q4 k hk).imp id (fun x => Nat.le_trans HB0.out.size x))
  have hgr2 : Gr w F F2 := fun k hk => (q4 k hk).imp id (fun x => Nat.le_trans HB0.out.size x)
  have hba2 : BA w2 base G gb B := HBB0.out.other q3 (fun k hk e => by rcases List.mem_cons.1 hk with q | q; exact HGG.out (q ▸ e); exact HAP.out k q e)
  have hfr2 : Fr (g :: F) w w2 := (Fr.of_below (F := g :: F) HB0.out).trans q3 (Gr.refl _ _)
  obtain ⟨b2, b3, b4, b5, b6, bf⟩ := hba2.cell
  have f2 := bf 2
  have f3 := bf 3
  have f4 := bf 4
  have f5 := bf 5
  have f6 := bf 6
  have HBA2 := hid hba2
  have HAP2 := hid hap2
  have HFR2 := hid hfr2
  have HGR2 := hid hgr2
  have HD2 := hid q1
  have HK2 := hid q2
  clear hba2 hap2 hfr2 hgr2 q1 q2 q3 q4 bf HPUB HNX
  rcases HPU.out.1 with ⟨r0, hlv2⟩ | ⟨r2, hp2, he2, hcr2⟩
  · have HLV2 := hid hlv2
    have R0 := hid r0
    rw [if_pos r0] at HK2
    rw [r0]
    have j3 : B.gn = s.ge := HLV.out.bk.2.1
    rw [j3] at b3
    have i1 : 0 ≤ s.ge ∧ s.ge ≤ 100000 := HGE.out
    obtain ⟨i1, i2⟩ := i1
    clear hlv2 r0
    go_wp2
    generalize hw3 : ((w2.setCell ⟨gb, 2, none⟩ (.int .i64 (nx : Int))).setCell ⟨gb, 4, none⟩ (.int .i64 ((nx : Int) - 1))).setCell ⟨gb, 3, none⟩ (.int .i64 (s.ge + 1)) = w3 at *
    have hba3 : BA w3 base G gb { B with mrk := nx, hd := ((nx : Int) - 1), gn := B.gn + 1 } := by
      rw [← hw3, j3]
      exact ((HBA2.out.setM _).setH _).setG _
    have hgF : gb ∉ F2 := fun e => HAP2.out gb e HBA2.out.gbG
    have hgg : gb ≠ g := HBA2.out.not_file HK2.out
    have hD3 : DA w3 base F2 p R.1 := by rw [← hw3]; exact ((HD2.out.setCellN hgF 2 _).setCellN hgF 4 _).setCellN hgF 3 _
    have HK3 := hid (show FK w3 g p s2 nx ep by
      rw [← hw3]
      show (((w2.setCell ⟨gb, 2, none⟩ _).setCell ⟨gb, 4, none⟩ _).setCell ⟨gb, 3, none⟩ _).heap[g]? = _
      rw [heap_setCell_other _ ⟨gb, 3, none⟩ g _ (fun e => hgg e.symm), heap_setCell_other _ ⟨gb, 4, none⟩ g _ (fun e => hgg e.symm), heap_setCell_other _ ⟨gb, 2, none⟩ g _ (fun e => hgg e.symm)]
      exact HK2.out)
    have hfr3 : Fr (g :: (F ++ G)) w w3 := by
      have hm : gb ∈ g :: (F ++ G) := List.mem_cons_of_mem _ (List.mem_append_right _ HBA2.out.gbG)
      rw [← hw3]
      exact ((HFR2.out.ing.setCell hm 2 _).setCell hm 4 _).setCell hm 3 _
    have c33 := hid (show w3.cell? ⟨gb, 3, none⟩ = some (.int .i64 (s.ge + 1)) by have := hba3.cell.2.1; rw [this]; show some (Value.int .i64 (B.gn + 1)) = _; rw [j3])
    have hgb3 : gb < w3.heap.size := (hba3.lt gb hba3.gbG).2
    have HPGS := hid (fun (w4 : World) (hb4 : Below w3.heap.size w3 w4) => (show Calls Try.prog 8 #[.pointer (some ⟨p, 0, none⟩)] w4 fun e w' => e = .returned (.int .i64 (n : Int)) ∧ w4 = w' from by
      have := Pages_any w4 base F2 p R.1 (hD3.below hb4)
      rwa [HLV2.out.np] at this))
    have HQ := hid (show ∀ w : World, (Op.equalIn 10000 53 (.agg (supC s2)) (.agg (supC s2))).run Try.prog w = .ok true w from fun w => by have := eqSup s2 s2 w; rwa [show decide (s2 = s2) = true from decide_eq_true rfl] at this)
    have HEND := hid (fun (w4 : World) (hb4 : Below w3.heap.size w3 w4) => (show ∃ er : Int, Ending.returned (Value.tuple #[Value.int .i64 0, Value.bool true]) = Ending.returned (Value.tuple #[Value.int .i64 er, Value.bool true]) ∧ AO base p g gb F G w n c ep D s (D.armed = 0) er w4 from
      ⟨0, rfl, R.1, s2, nx, { B with mrk := nx, hd := ((nx : Int) - 1), gn := B.gn + 1 }, F2, G, hD3.below hb4, HK3.out.below hb4, hba3.below hb4, HAP2.out, hfr3.tail (F' := F) hb4, HGR2.out, Gr.refl _ _, HKP.out.1, fun q => ⟨rfl, (HPU.out.2 q).2⟩, Or.inl ⟨rfl, HLV2.out⟩⟩))
    clear hba3 hgF hgg hD3 hfr3 HBA2 HAP2 HFR2 HGR2 HD2 HK2 HLV2 HLV HR HPU b2 b3 b4 b5 b6 f2 f3 f4 f5 f6 hw3 j3
    refine wp_region_noPanic ?_
    refine wp_region_held_drew (S := fun w' => Below w3.heap.size w3 w') (by kernel_rfl) (Below.refl _ _).drew (fun hHeld => ?_)
    refine wpAnyH_take (i := 0) (oi := { dst := some 122, op := Op.move (Operand.tmp 16), type := 46, pos := "outright.go:112", after := #[], guard := none }) (v := .int .i64 0) rfl (by kernel_rfl) (by kernel_rfl) (by kernel_rfl) (fun _ _ _ h => h) (Or.inl ⟨by rfl, by intro w hS; go_simp⟩) hHeld ?_
    try simp only [Act.put, List.setIfInBounds_toArray, List.set_cons_zero, List.set_cons_succ]
    refine wpAnyH_take (i := 1) (oi := { dst := some 123, op := Op.move (Operand.tmp 2), type := 25, pos := "outright.go:112", after := #[], guard := none }) (v := .pointer (some ⟨g, 0, none⟩)) rfl (by kernel_rfl) (by kernel_rfl) (by kernel_rfl) (fun _ _ _ h => h) (Or.inl ⟨by rfl, by intro w hS; go_simp⟩) hHeld ?_
    try simp only [Act.put, List.setIfInBounds_toArray, List.set_cons_zero, List.set_cons_succ]
    refine wpAnyH_take (i := 3) (oi := { dst := some 125, op := Op.move (Operand.tmp 2), type := 25, pos := "outright.go:112", after := #[], guard := none }) (v := .pointer (some ⟨g, 0, none⟩)) rfl (by kernel_rfl) (by kernel_rfl) (by kernel_rfl) (fun _ _ _ h => h) (Or.inl ⟨by rfl, by intro w hS; go_simp⟩) hHeld ?_
    try simp only [Act.put, List.setIfInBounds_toArray, List.set_cons_zero, List.set_cons_succ]
    refine wpAnyH_take (i := 6) (oi := { dst := some 128, op := Op.move (Operand.tmp 0), type := 28, pos := "outright.go:112", after := #[{ on := 16, ground := Ground.gcOnly Departure.lateStores }], guard := none }) (v := .pointer (some ⟨gb, 0, none⟩)) rfl (by kernel_rfl) (by kernel_rfl) (by kernel_rfl) (fun _ _ _ h => h) (Or.inl ⟨by rfl, by intro w hS; go_simp⟩) hHeld ?_
    try simp only [Act.put, List.setIfInBounds_toArray, List.set_cons_zero, List.set_cons_succ]
    refine wpAnyH_take (i := 10) (oi := { dst := some 132, op := Op.move (Operand.tmp 10), type := 3, pos := "outright.go:112", after := #[{ on := 16, ground := Ground.gcOnly Departure.lateStores }], guard := none }) (v := .int .i64 (nx : Int)) rfl (by kernel_rfl) (by kernel_rfl) (by kernel_rfl) (fun _ _ _ h => h) (Or.inl ⟨by rfl, by intro w hS; go_simp⟩) hHeld ?_
    try simp only [Act.put, List.setIfInBounds_toArray, List.set_cons_zero, List.set_cons_succ]
    refine wpAnyH_take (i := 11) (oi := { dst := some 133, op := Op.move (Operand.tmp 15), type := 3, pos := "outright.go:112", after := #[{ on := 16, ground := Ground.gcOnly Departure.lateStores }], guard := none }) (v := .int .i64 ((nx : Int) - 1)) rfl (by kernel_rfl) (by kernel_rfl) (by kernel_rfl) (fun _ _ _ h => h) (Or.inl ⟨by rfl, by intro w hS; go_simp⟩) hHeld ?_
    try simp only [Act.put, List.setIfInBounds_toArray, List.set_cons_zero, List.set_cons_succ]
    refine wpAnyH_take (i := 12) (oi := { dst := some 134, op := Op.move (Operand.tmp 1), type := 24, pos := "outright.go:112", after := #[], guard := none }) (v := .pointer (some ⟨p, 0, none⟩)) rfl (by kernel_rfl) (by kernel_rfl) (by kernel_rfl) (fun _ _ _ h => h) (Or.inl ⟨by rfl, by intro w hS; go_simp⟩) hHeld ?_
    try simp only [Act.put, List.setIfInBounds_toArray, List.set_cons_zero, List.set_cons_succ]
    refine wpAnyH_take (i := 7) (oi := { dst := some 129, op := Op.nilCheck (Operand.tmp 128), type := 0, pos := "outright.go:112", after := #[{ on := 6, ground := Ground.data }, { on := 16, ground := Ground.gcOnly Departure.lateStores }], guard := none }) (v := .pointer (some ⟨gb, 0, none⟩)) rfl (by kernel_rfl) (by kernel_rfl) (by kernel_rfl) (fun _ _ _ h => h) (Or.inl ⟨by rfl, by intro w hS; go_simp⟩) hHeld ?_
    try simp only [Act.put, List.setIfInBounds_toArray, List.set_cons_zero, List.set_cons_succ]
    refine wpAnyH_take (i := 8) (oi := { dst := some 130, op := Op.fieldAddr 32 (Operand.tmp 129) 3, type := 0, pos := "outright.go:112", after := #[{ on := 7, ground := Ground.data }, { on := 16, ground := Ground.gcOnly Departure.lateStores }], guard := none }) (v := .pointer (some ⟨gb, 3, none⟩)) rfl (by kernel_rfl) (by kernel_rfl) (by kernel_rfl) (fun _ _ _ h => h) (Or.inl ⟨by rfl, by intro w hS; go_simp⟩) hHeld ?_
    try simp only [Act.put, List.setIfInBounds_toArray, List.set_cons_zero, List.set_cons_succ]
    refine wpAnyH_take (i := 9) (oi := { dst := some 131, op := Op.load 3 (Operand.tmp 130), type := 3, pos := "outright.go:112", after := #[{ on := 8, ground := Ground.data }, { on := 16, ground := Ground.gcOnly Departure.lateStores }], guard := none }) (v := .int .i64 (s.ge + 1)) rfl (by kernel_rfl) (by kernel_rfl) (by kernel_rfl) (fun _ _ _ h => h) (Or.inl ⟨by rfl, by intro w hS; have hc := (hS.cell (p := ⟨gb, 3, none⟩) hgb3).trans c33.out; go_simp⟩) hHeld ?_
    try simp only [Act.put, List.setIfInBounds_toArray, List.set_cons_zero, List.set_cons_succ]
    refine wpAnyH_ready (rs := [2]) (by kernel_rfl) (by simp) ?_
    refine (AllReadyH.cons (o := { dst := some 124, op := Op.call { callee := Callee.value (Operand.func 12), args := #[Operand.tmp 123], argTypes := #[25] }, type := 53, pos := "outright.go:112", after := #[{ on := 1, ground := Ground.data }], guard := none }) rfl (fun K hK => ?_) AllReadyH.nil)
    go_simp
    go_at_call 12
    refine (FSuper_any _ g p s2 nx ep (HK3.out.below hHeld)).mono ?_
    rintro e w4 ⟨rfl, hb4⟩
    go_wp2_with fail
    refine hK.out _ _ (hHeld.trans (hb4.mono hHeld.size)) (fun hHeld2 => ?_)
    clear hK K hHeld
    have hHeld := hHeld2
    clear hHeld2
    clear hb4
    try simp only [Act.put, List.setIfInBounds_toArray, List.set_cons_zero, List.set_cons_succ]
    refine wpAnyH_ready (rs := [4]) (by kernel_rfl) (by simp) ?_
    refine (AllReadyH.cons (o := { dst := some 126, op := Op.call { callee := Callee.value (Operand.func 12), args := #[Operand.tmp 125], argTypes := #[25] }, type := 53, pos := "outright.go:112", after := #[{ on := 3, ground := Ground.data }, { on := 2, ground := Ground.chain }], guard := none }) rfl (fun K hK => ?_) AllReadyH.nil)
    go_simp
    go_at_call 12
    refine (FSuper_any _ g p s2 nx ep (HK3.out.below hHeld)).mono ?_
    rintro e w5 ⟨rfl, hb4⟩
    go_wp2_with fail
    refine hK.out _ _ (hHeld.trans (hb4.mono hHeld.size)) (fun hHeld2 => ?_)
    clear hK K hHeld
    have hHeld := hHeld2
    clear hHeld2
    clear hb4
    try simp only [Act.put, List.setIfInBounds_toArray, List.set_cons_zero, List.set_cons_succ]
    refine wpAnyH_take (i := 5) (oi := { dst := some 127, op := Op.field 53 (Operand.tmp 126) 0, type := 3, pos := "outright.go:112", after := #[{ on := 4, ground := Ground.data }, { on := 16, ground := Ground.gcOnly Departure.lateStores }], guard := none }) (v := .int .i64 s.wd) rfl (by kernel_rfl) (by kernel_rfl) (by kernel_rfl) (fun _ _ _ h => h) (yields_field0 (by rfl) (.tmp 126) rfl s2 s.wd HWD.out rfl) hHeld ?_
    try simp only [Act.put, List.setIfInBounds_toArray, List.set_cons_zero, List.set_cons_succ]
    refine wpAnyH_ready (rs := [13]) (by kernel_rfl) (by simp) ?_
    refine (AllReadyH.cons (o := { dst := some 135, op := Op.call { callee := Callee.value (Operand.func 8), args := #[Operand.tmp 134], argTypes := #[24] }, type := 3, pos := "outright.go:112", after := #[{ on := 12, ground := Ground.data }, { on := 4, ground := Ground.chain }], guard := none }) rfl (fun K hK => ?_) AllReadyH.nil)
    go_simp
    go_at_call 8
    refine (HPGS.out _ hHeld).mono ?_
    rintro e w6 ⟨rfl, rfl⟩
    go_wp2_with fail
    refine hK.out _ _ (hHeld) (fun hHeld2 => ?_)
    clear hK K hHeld
    have hHeld := hHeld2
    clear hHeld2
    try simp only [Act.put, List.setIfInBounds_toArray, List.set_cons_zero, List.set_cons_succ]
    refine wpAnyH_take (i := 14) (oi := { dst := some 136, op := Op.build 53 #[(0, Operand.tmp 127), (1, Operand.tmp 131), (2, Operand.tmp 132), (3, Operand.tmp 133), (4, Operand.tmp 135)], type := 53, pos := "outright.go:112", after := #[{ on := 5, ground := Ground.data }, { on := 9, ground := Ground.data }, { on := 10, ground := Ground.data }, { on := 11, ground := Ground.data }, { on := 13, ground := Ground.data }, { on := 16, ground := Ground.gcOnly Departure.lateStores }], guard := none }) (v := .agg (supC s2)) rfl (by kernel_rfl) (by kernel_rfl) (by kernel_rfl) (fun _ _ _ h => h) (yields_sup (by rfl) (.tmp 127) (.tmp 131) (.tmp 132) (.tmp 133) (.tmp 135) rfl s2 _ _ _ _ _ rfl rfl rfl rfl rfl HS2C.out) hHeld ?_
    try simp only [Act.put, List.setIfInBounds_toArray, List.set_cons_zero, List.set_cons_succ]
    refine wpAnyH_take (i := 16) (oi := { dst := some 8, op := Op.assign (Operand.tmp 122), type := 46, pos := "outright.go:112", after := #[{ on := 0, ground := Ground.data }, { on := 13, ground := Ground.chain }, { on := 0, ground := Ground.phase }, { on := 1, ground := Ground.textOnly Departure.lateStores }, { on := 2, ground := Ground.textOnly Departure.lateStoresUnsure }, { on := 3, ground := Ground.textOnly Departure.lateStores }, { on := 4, ground := Ground.textOnly Departure.lateStoresUnsure }, { on := 5, ground := Ground.textOnly Departure.lateStores }, { on := 6, ground := Ground.textOnly Departure.lateStores }, { on := 7, ground := Ground.textOnly Departure.lateStores }, { on := 8, ground := Ground.textOnly Departure.lateStores }, { on := 9, ground := Ground.textOnly Departure.lateStores }, { on := 10, ground := Ground.textOnly Departure.lateStores }, { on := 11, ground := Ground.textOnly Departure.lateStores }, { on := 12, ground := Ground.textOnly Departure.lateStores }, { on := 13, ground := Ground.textOnly Departure.lateStoresUnsure }, { on := 14, ground := Ground.textOnly Departure.lateStores }, { on := 15, ground := Ground.textOnly Departure.lateStores }], guard := none }) (v := .int .i64 0) rfl (by kernel_rfl) (by kernel_rfl) (by kernel_rfl) (fun _ _ _ h => h) (Or.inl ⟨by rfl, by intro w hS; go_simp⟩) hHeld ?_
    try simp only [Act.put, List.setIfInBounds_toArray, List.set_cons_zero, List.set_cons_succ]
    refine wpAnyH_take (i := 15) (oi := { dst := some 137, op := Op.binOp BinOp.eql 53 (Operand.tmp 124) (Operand.tmp 136) 53, type := 4, pos := "outright.go:112", after := #[{ on := 2, ground := Ground.data }, { on := 14, ground := Ground.data }, { on := 16, ground := Ground.gcOnly Departure.lateStores }], guard := none }) (v := .bool true) rfl (by kernel_rfl) (by kernel_rfl) (by kernel_rfl) (fun _ _ _ h => h) (Or.inl ⟨by rfl, by intro w hS; (have KQ := HQ.out; have KG := guardU; go_simp)⟩) hHeld ?_
    try simp only [Act.put, List.setIfInBounds_toArray, List.set_cons_zero, List.set_cons_succ]
    refine wpAnyH_take (i := 17) (oi := { dst := some 9, op := Op.assign (Operand.tmp 137), type := 4, pos := "outright.go:112", after := #[{ on := 15, ground := Ground.data }, { on := 16, ground := Ground.chain }, { on := 0, ground := Ground.phase }, { on := 1, ground := Ground.phase }, { on := 2, ground := Ground.phase }, { on := 3, ground := Ground.phase }, { on := 4, ground := Ground.phase }, { on := 5, ground := Ground.phase }, { on := 6, ground := Ground.phase }, { on := 7, ground := Ground.phase }, { on := 8, ground := Ground.phase }, { on := 9, ground := Ground.phase }, { on := 10, ground := Ground.phase }, { on := 11, ground := Ground.phase }, { on := 12, ground := Ground.phase }, { on := 13, ground := Ground.phase }, { on := 14, ground := Ground.phase }, { on := 15, ground := Ground.phase }, { on := 16, ground := Ground.phase }], guard := none }) (v := .bool true) rfl (by kernel_rfl) (by kernel_rfl) (by kernel_rfl) (fun _ _ _ h => h) (Or.inl ⟨by rfl, by intro w hS; go_simp⟩) hHeld ?_
    try simp only [Act.put, List.setIfInBounds_toArray, List.set_cons_zero, List.set_cons_succ]
    refine wpAnyH_done (by kernel_rfl) ?_ _
    refine NoPanic.normal ?_
    go_wp2
    go_ret2
    exact HEND.out _ hHeld
  · have HCR2 := hid hcr2
    rw [if_neg (by rw [r2]; decide)] at HK2
    rw [r2]
    have RP := hid (show R.1.power = false ∧ R.1.epoch = ep ∧ (D.armed = 0 → (2 : Int) = 0 ∧ R.1.armed = 0) from ⟨hp2, he2, fun q => by have := HPU.out.2 q; rw [r2] at this; exact this⟩)
    clear hcr2 r2 hp2 he2
    go_wp2
    go_ret2
    have hgF : gb ∉ F2 := fun e => HAP2.out gb e HBA2.out.gbG
    have hgg : gb ≠ g := HBA2.out.not_file HK2.out
    have hm : gb ∈ g :: (F ++ G) := List.mem_cons_of_mem _ (List.mem_append_right _ HBA2.out.gbG)
    refine ⟨2, rfl, R.1, s, nx, { B with im := nx, ih := ((nx : Int) - 1) }, F2, G, (HD2.out.setCellN hgF 5 _).setCellN hgF 6 _, ?_, (HBA2.out.setI _).setJ _, HAP2.out, (HFR2.out.ing.setCell hm 5 _).setCell hm 6 _, HGR2.out, Gr.refl _ _, HKP.out.2, RP.out.2.2, Or.inr ⟨rfl, RP.out.1, RP.out.2.1, HMK.out, HCR2.out⟩⟩
    show ((w2.setCell ⟨gb, 5, none⟩ _).setCell ⟨gb, 6, none⟩ _).heap[g]? = _
    rw [heap_setCell_other _ ⟨gb, 6, none⟩ g _ (fun e => hgg e.symm), heap_setCell_other _ ⟨gb, 5, none⟩ g _ (fun e => hgg e.symm)]
    exact HK2.out
set_option maxRecDepth 100000 in
set_option maxHeartbeats 2000000 in
theorem act2b (w : World) (base : Nat) (F : List Nat) (p : Nat) (D : DS) (h : DA w base F p D) (hbw : base ≤ w.heap.size) (g : Nat) (s : Sup) (nx : Nat) (ep : Int) (hf : FK w g p s nx ep) (G : List Nat) (gb : Nat) (B : Bk) (hb : BA w base G gb B) (hap : Apart F G) (hgG : g ∉ G) (n c : Nat) (hlv : Lv D s nx ep B n c) (hc : c ≤ 1000) (N : Int) (hN : -9223372036854775808 ≤ N ∧ N ≤ 9223372036854775807) (l : List Int) (h8 : Byts l) (sp : Option Addr) (cap : Nat) (hS : Src w sp cap l) (hlm : l.length ≤ 140737488355000) (hm : N % 2 = 0) :
    Calls Try.prog 13 #[.pointer (some ⟨gb, 0, none⟩), .pointer (some ⟨p, 0, none⟩), .pointer (some ⟨g, 0, none⟩), .agg (actV 2 N sp l.length cap)] w fun e w' => ∃ er, e = .returned (.tuple #[.int .i64 er, .bool true]) ∧ AO base p g gb F G w n c ep D s (D.armed = 0) er w'  := by
  have hnp := h.ok.np
  have B0 := below_new w (.cells (actV 2 N sp l.length cap) 35)
  have cA := hnew w (.cells (actV 2 N sp l.length cap) 35)
  have cA0 : (w.alloc (.cells (actV 2 N sp l.length cap) 35)).cell? ⟨w.heap.size, 0, none⟩ = some (.int .i64 2) := by rw [cell_of_row _ _ _ _ _ _ cA]; rfl
  have cA1 : (w.alloc (.cells (actV 2 N sp l.length cap) 35)).cell? ⟨w.heap.size, 1, none⟩ = some (.int .i64 N) := by rw [cell_of_row _ _ _ _ _ _ cA]; rfl
  have cA2 : (w.alloc (.cells (actV 2 N sp l.length cap) 35)).cell? ⟨w.heap.size, 2, none⟩ = some (.slice sp l.length cap) := by rw [cell_of_row _ _ _ _ _ _ cA]; rfl
  have HF0 := hid (hf.below B0)
  have HD0 := hid (h.below B0)
  have HBB0 := hid (hb.below B0)
  have HNX := hid (FNext_any _ g p s nx ep HF0.out)
  have HB0 := hid B0
  have HD := hid h
  have HF := hid hf
  have HBB := hid hb
  have HAP := hid hap
  have HLV := hid hlv
  have HCC := hid hc
  have HPL := hid (place_any (w.alloc (.cells (actV 2 N sp l.length cap) 35)) N 2 (by decide) (by decide) hN.1 hN.2 2 rfl)
  rw [show ((2 : Nat) : Int) = 2 from rfl, hm] at HPL
  have hvv := (validS_iff s).1 hlv.val
  have hgv := hlv.ge
  have hnxx := hlv.hnx
  have hcn := hlv.cnt
  obtain ⟨s2, hs2⟩ : ∃ s2, s2 = nextS s nx (0) := ⟨_, rfl⟩
  have hh : (0) = (0 : Int) ∨ (2 ≤ (0 : Int) ∧ (0 : Int) < (nx : Int)) := Or.inl rfl
  obtain ⟨R, hR⟩ : ∃ R, R = runS D [.sync, .lay s2 0 0, .sync] := ⟨_, rfl⟩
  have HPU := hid (hlv.publish hc (0) hh R (by rw [hR, hs2]))
  have HKP := hid (hlv.kp_publish hc (0) hh R (by rw [hR, hs2]))
  have HMK := hid (show s.ma ≤ B.mrk from by rw [hlv.bk.1]; exact Int.le_refl _)
  rw [← hs2] at HPU HKP
  have HPUB := hid (Publish_in _ base F p D HD0.out (Nat.le_trans hbw B0.size) g s nx ep HF0.out hlv.live (0) hh ⟨by omega, by omega⟩ s2 hs2 (by rw [hs2]; exact nextS_valid hlv.val hlv.pg hlv.hnx hh (by omega)) ⟨hlv.pw, by omega, by omega, by omega⟩)
  have HR := hid hR
  have HGE := hid (show 0 ≤ s.ge ∧ s.ge ≤ 100000 by omega)
  have HWD := hid (show s2.wd = s.wd by rw [hs2]; rfl)
  have HS2C := hid (show (#[.int .i64 s.wd, .int .i64 (s.ge + 1), .int .i64 (nx : Int), .int .i64 (0), .int .i64 (n : Int)] : Array Value) = supC s2 by rw [hs2, ← hlv.pg]; rfl)
  have HGG := hid hgG
  have jn : (nx : Int) ≤ 64 := by have := hlv.small; omega
  clear h hf hb hap hlv hnp hS hN h8 B0 hgG hm hvv hgv hnxx hcn hh hR hs2
  go_enter Try.func13, Try.ntmps13
  go_wp2_with (first | (go_at_call 7; refine HNX.out.mono ?_; rintro e w1 ⟨rfl, rfl⟩) | (go_at_call 11; refine HPL.out.mono ?_; rintro e w1 ⟨rfl, rfl⟩))
  refine HPUB.out.mono ?_
  rintro e w2 ⟨rfl, hN2⟩
  rw [← HR.out] at hN2 ⊢
  obtain ⟨F2, q1, q2, q3, q4⟩ := hN2
  have hap2 : Apart F2 G := HAP.out.step (fun k hk => (HBB.out.lt k hk).2) (fun k hk => (q4 k hk).imp id (fun x => Nat.le_trans HB0.out.size x))
  have hgr2 : Gr w F F2 := fun k hk => (q4 k hk).imp id (fun x => Nat.le_trans HB0.out.size x)
  have hba2 : BA w2 base G gb B := HBB0.out.other q3 (fun k hk e => by rcases List.mem_cons.1 hk with q | q; exact HGG.out (q ▸ e); exact HAP.out k q e)
  have hfr2 : Fr (g :: F) w w2 := (Fr.of_below (F := g :: F) HB0.out).trans q3 (Gr.refl _ _)
  obtain ⟨b2, b3, b4, b5, b6, bf⟩ := hba2.cell
  have f2 := bf 2
  have f3 := bf 3
  have f4 := bf 4
  have f5 := bf 5
  have f6 := bf 6
  have HBA2 := hid hba2
  have HAP2 := hid hap2
  have HFR2 := hid hfr2
  have HGR2 := hid hgr2
  have HD2 := hid q1
  have HK2 := hid q2
  clear hba2 hap2 hfr2 hgr2 q1 q2 q3 q4 bf HPUB HNX
  rcases HPU.out.1 with ⟨r0, hlv2⟩ | ⟨r2, hp2, he2, hcr2⟩
  · have HLV2 := hid hlv2
    have R0 := hid r0
    rw [if_pos r0] at HK2
    rw [r0]
    have j3 : B.gn = s.ge := HLV.out.bk.2.1
    rw [j3] at b3
    have i1 : 0 ≤ s.ge ∧ s.ge ≤ 100000 := HGE.out
    obtain ⟨i1, i2⟩ := i1
    clear hlv2 r0
    go_wp2
    generalize hw3 : ((w2.setCell ⟨gb, 2, none⟩ (.int .i64 (nx : Int))).setCell ⟨gb, 4, none⟩ (.int .i64 0)).setCell ⟨gb, 3, none⟩ (.int .i64 (s.ge + 1)) = w3 at *
    have hba3 : BA w3 base G gb { B with mrk := nx, hd := 0, gn := B.gn + 1 } := by
      rw [← hw3, j3]
      exact ((HBA2.out.setM _).setH _).setG _
    have hgF : gb ∉ F2 := fun e => HAP2.out gb e HBA2.out.gbG
    have hgg : gb ≠ g := HBA2.out.not_file HK2.out
    have hD3 : DA w3 base F2 p R.1 := by rw [← hw3]; exact ((HD2.out.setCellN hgF 2 _).setCellN hgF 4 _).setCellN hgF 3 _
    have HK3 := hid (show FK w3 g p s2 nx ep by
      rw [← hw3]
      show (((w2.setCell ⟨gb, 2, none⟩ _).setCell ⟨gb, 4, none⟩ _).setCell ⟨gb, 3, none⟩ _).heap[g]? = _
      rw [heap_setCell_other _ ⟨gb, 3, none⟩ g _ (fun e => hgg e.symm), heap_setCell_other _ ⟨gb, 4, none⟩ g _ (fun e => hgg e.symm), heap_setCell_other _ ⟨gb, 2, none⟩ g _ (fun e => hgg e.symm)]
      exact HK2.out)
    have hfr3 : Fr (g :: (F ++ G)) w w3 := by
      have hm : gb ∈ g :: (F ++ G) := List.mem_cons_of_mem _ (List.mem_append_right _ HBA2.out.gbG)
      rw [← hw3]
      exact ((HFR2.out.ing.setCell hm 2 _).setCell hm 4 _).setCell hm 3 _
    have c33 := hid (show w3.cell? ⟨gb, 3, none⟩ = some (.int .i64 (s.ge + 1)) by have := hba3.cell.2.1; rw [this]; show some (Value.int .i64 (B.gn + 1)) = _; rw [j3])
    have hgb3 : gb < w3.heap.size := (hba3.lt gb hba3.gbG).2
    have HPGS := hid (fun (w4 : World) (hb4 : Below w3.heap.size w3 w4) => (show Calls Try.prog 8 #[.pointer (some ⟨p, 0, none⟩)] w4 fun e w' => e = .returned (.int .i64 (n : Int)) ∧ w4 = w' from by
      have := Pages_any w4 base F2 p R.1 (hD3.below hb4)
      rwa [HLV2.out.np] at this))
    have HQ := hid (show ∀ w : World, (Op.equalIn 10000 53 (.agg (supC s2)) (.agg (supC s2))).run Try.prog w = .ok true w from fun w => by have := eqSup s2 s2 w; rwa [show decide (s2 = s2) = true from decide_eq_true rfl] at this)
    have HEND := hid (fun (w4 : World) (hb4 : Below w3.heap.size w3 w4) => (show ∃ er : Int, Ending.returned (Value.tuple #[Value.int .i64 0, Value.bool true]) = Ending.returned (Value.tuple #[Value.int .i64 er, Value.bool true]) ∧ AO base p g gb F G w n c ep D s (D.armed = 0) er w4 from
      ⟨0, rfl, R.1, s2, nx, { B with mrk := nx, hd := 0, gn := B.gn + 1 }, F2, G, hD3.below hb4, HK3.out.below hb4, hba3.below hb4, HAP2.out, hfr3.tail (F' := F) hb4, HGR2.out, Gr.refl _ _, HKP.out.1, fun q => ⟨rfl, (HPU.out.2 q).2⟩, Or.inl ⟨rfl, HLV2.out⟩⟩))
    clear hba3 hgF hgg hD3 hfr3 HBA2 HAP2 HFR2 HGR2 HD2 HK2 HLV2 HLV HR HPU b2 b3 b4 b5 b6 f2 f3 f4 f5 f6 hw3 j3
    refine wp_region_noPanic ?_
    refine wp_region_held_drew (S := fun w' => Below w3.heap.size w3 w') (by kernel_rfl) (Below.refl _ _).drew (fun hHeld => ?_)
    refine wpAnyH_take (i := 0) (oi := { dst := some 122, op := Op.move (Operand.tmp 16), type := 46, pos := "outright.go:112", after := #[], guard := none }) (v := .int .i64 0) rfl (by kernel_rfl) (by kernel_rfl) (by kernel_rfl) (fun _ _ _ h => h) (Or.inl ⟨by rfl, by intro w hS; go_simp⟩) hHeld ?_
    try simp only [Act.put, List.setIfInBounds_toArray, List.set_cons_zero, List.set_cons_succ]
    refine wpAnyH_take (i := 1) (oi := { dst := some 123, op := Op.move (Operand.tmp 2), type := 25, pos := "outright.go:112", after := #[], guard := none }) (v := .pointer (some ⟨g, 0, none⟩)) rfl (by kernel_rfl) (by kernel_rfl) (by kernel_rfl) (fun _ _ _ h => h) (Or.inl ⟨by rfl, by intro w hS; go_simp⟩) hHeld ?_
    try simp only [Act.put, List.setIfInBounds_toArray, List.set_cons_zero, List.set_cons_succ]
    refine wpAnyH_take (i := 3) (oi := { dst := some 125, op := Op.move (Operand.tmp 2), type := 25, pos := "outright.go:112", after := #[], guard := none }) (v := .pointer (some ⟨g, 0, none⟩)) rfl (by kernel_rfl) (by kernel_rfl) (by kernel_rfl) (fun _ _ _ h => h) (Or.inl ⟨by rfl, by intro w hS; go_simp⟩) hHeld ?_
    try simp only [Act.put, List.setIfInBounds_toArray, List.set_cons_zero, List.set_cons_succ]
    refine wpAnyH_take (i := 6) (oi := { dst := some 128, op := Op.move (Operand.tmp 0), type := 28, pos := "outright.go:112", after := #[{ on := 16, ground := Ground.gcOnly Departure.lateStores }], guard := none }) (v := .pointer (some ⟨gb, 0, none⟩)) rfl (by kernel_rfl) (by kernel_rfl) (by kernel_rfl) (fun _ _ _ h => h) (Or.inl ⟨by rfl, by intro w hS; go_simp⟩) hHeld ?_
    try simp only [Act.put, List.setIfInBounds_toArray, List.set_cons_zero, List.set_cons_succ]
    refine wpAnyH_take (i := 10) (oi := { dst := some 132, op := Op.move (Operand.tmp 10), type := 3, pos := "outright.go:112", after := #[{ on := 16, ground := Ground.gcOnly Departure.lateStores }], guard := none }) (v := .int .i64 (nx : Int)) rfl (by kernel_rfl) (by kernel_rfl) (by kernel_rfl) (fun _ _ _ h => h) (Or.inl ⟨by rfl, by intro w hS; go_simp⟩) hHeld ?_
    try simp only [Act.put, List.setIfInBounds_toArray, List.set_cons_zero, List.set_cons_succ]
    refine wpAnyH_take (i := 11) (oi := { dst := some 133, op := Op.move (Operand.tmp 15), type := 3, pos := "outright.go:112", after := #[{ on := 16, ground := Ground.gcOnly Departure.lateStores }], guard := none }) (v := .int .i64 0) rfl (by kernel_rfl) (by kernel_rfl) (by kernel_rfl) (fun _ _ _ h => h) (Or.inl ⟨by rfl, by intro w hS; go_simp⟩) hHeld ?_
    try simp only [Act.put, List.setIfInBounds_toArray, List.set_cons_zero, List.set_cons_succ]
    refine wpAnyH_take (i := 12) (oi := { dst := some 134, op := Op.move (Operand.tmp 1), type := 24, pos := "outright.go:112", after := #[], guard := none }) (v := .pointer (some ⟨p, 0, none⟩)) rfl (by kernel_rfl) (by kernel_rfl) (by kernel_rfl) (fun _ _ _ h => h) (Or.inl ⟨by rfl, by intro w hS; go_simp⟩) hHeld ?_
    try simp only [Act.put, List.setIfInBounds_toArray, List.set_cons_zero, List.set_cons_succ]
    refine wpAnyH_take (i := 7) (oi := { dst := some 129, op := Op.nilCheck (Operand.tmp 128), type := 0, pos := "outright.go:112", after := #[{ on := 6, ground := Ground.data }, { on := 16, ground := Ground.gcOnly Departure.lateStores }], guard := none }) (v := .pointer (some ⟨gb, 0, none⟩)) rfl (by kernel_rfl) (by kernel_rfl) (by kernel_rfl) (fun _ _ _ h => h) (Or.inl ⟨by rfl, by intro w hS; go_simp⟩) hHeld ?_
    try simp only [Act.put, List.setIfInBounds_toArray, List.set_cons_zero, List.set_cons_succ]
    refine wpAnyH_take (i := 8) (oi := { dst := some 130, op := Op.fieldAddr 32 (Operand.tmp 129) 3, type := 0, pos := "outright.go:112", after := #[{ on := 7, ground := Ground.data }, { on := 16, ground := Ground.gcOnly Departure.lateStores }], guard := none }) (v := .pointer (some ⟨gb, 3, none⟩)) rfl (by kernel_rfl) (by kernel_rfl) (by kernel_rfl) (fun _ _ _ h => h) (Or.inl ⟨by rfl, by intro w hS; go_simp⟩) hHeld ?_
    try simp only [Act.put, List.setIfInBounds_toArray, List.set_cons_zero, List.set_cons_succ]
    refine wpAnyH_take (i := 9) (oi := { dst := some 131, op := Op.load 3 (Operand.tmp 130), type := 3, pos := "outright.go:112", after := #[{ on := 8, ground := Ground.data }, { on := 16, ground := Ground.gcOnly Departure.lateStores }], guard := none }) (v := .int .i64 (s.ge + 1)) rfl (by kernel_rfl) (by kernel_rfl) (by kernel_rfl) (fun _ _ _ h => h) (Or.inl ⟨by rfl, by intro w hS; have hc := (hS.cell (p := ⟨gb, 3, none⟩) hgb3).trans c33.out; go_simp⟩) hHeld ?_
    try simp only [Act.put, List.setIfInBounds_toArray, List.set_cons_zero, List.set_cons_succ]
    refine wpAnyH_ready (rs := [2]) (by kernel_rfl) (by simp) ?_
    refine (AllReadyH.cons (o := { dst := some 124, op := Op.call { callee := Callee.value (Operand.func 12), args := #[Operand.tmp 123], argTypes := #[25] }, type := 53, pos := "outright.go:112", after := #[{ on := 1, ground := Ground.data }], guard := none }) rfl (fun K hK => ?_) AllReadyH.nil)
    go_simp
    go_at_call 12
    refine (FSuper_any _ g p s2 nx ep (HK3.out.below hHeld)).mono ?_
    rintro e w4 ⟨rfl, hb4⟩
    go_wp2_with fail
    refine hK.out _ _ (hHeld.trans (hb4.mono hHeld.size)) (fun hHeld2 => ?_)
    clear hK K hHeld
    have hHeld := hHeld2
    clear hHeld2
    clear hb4
    try simp only [Act.put, List.setIfInBounds_toArray, List.set_cons_zero, List.set_cons_succ]
    refine wpAnyH_ready (rs := [4]) (by kernel_rfl) (by simp) ?_
    refine (AllReadyH.cons (o := { dst := some 126, op := Op.call { callee := Callee.value (Operand.func 12), args := #[Operand.tmp 125], argTypes := #[25] }, type := 53, pos := "outright.go:112", after := #[{ on := 3, ground := Ground.data }, { on := 2, ground := Ground.chain }], guard := none }) rfl (fun K hK => ?_) AllReadyH.nil)
    go_simp
    go_at_call 12
    refine (FSuper_any _ g p s2 nx ep (HK3.out.below hHeld)).mono ?_
    rintro e w5 ⟨rfl, hb4⟩
    go_wp2_with fail
    refine hK.out _ _ (hHeld.trans (hb4.mono hHeld.size)) (fun hHeld2 => ?_)
    clear hK K hHeld
    have hHeld := hHeld2
    clear hHeld2
    clear hb4
    try simp only [Act.put, List.setIfInBounds_toArray, List.set_cons_zero, List.set_cons_succ]
    refine wpAnyH_take (i := 5) (oi := { dst := some 127, op := Op.field 53 (Operand.tmp 126) 0, type := 3, pos := "outright.go:112", after := #[{ on := 4, ground := Ground.data }, { on := 16, ground := Ground.gcOnly Departure.lateStores }], guard := none }) (v := .int .i64 s.wd) rfl (by kernel_rfl) (by kernel_rfl) (by kernel_rfl) (fun _ _ _ h => h) (yields_field0 (by rfl) (.tmp 126) rfl s2 s.wd HWD.out rfl) hHeld ?_
    try simp only [Act.put, List.setIfInBounds_toArray, List.set_cons_zero, List.set_cons_succ]
    refine wpAnyH_ready (rs := [13]) (by kernel_rfl) (by simp) ?_
    refine (AllReadyH.cons (o := { dst := some 135, op := Op.call { callee := Callee.value (Operand.func 8), args := #[Operand.tmp 134], argTypes := #[24] }, type := 3, pos := "outright.go:112", after := #[{ on := 12, ground := Ground.data }, { on := 4, ground := Ground.chain }], guard := none }) rfl (fun K hK => ?_) AllReadyH.nil)
    go_simp
    go_at_call 8
    refine (HPGS.out _ hHeld).mono ?_
    rintro e w6 ⟨rfl, rfl⟩
    go_wp2_with fail
    refine hK.out _ _ (hHeld) (fun hHeld2 => ?_)
    clear hK K hHeld
    have hHeld := hHeld2
    clear hHeld2
    try simp only [Act.put, List.setIfInBounds_toArray, List.set_cons_zero, List.set_cons_succ]
    refine wpAnyH_take (i := 14) (oi := { dst := some 136, op := Op.build 53 #[(0, Operand.tmp 127), (1, Operand.tmp 131), (2, Operand.tmp 132), (3, Operand.tmp 133), (4, Operand.tmp 135)], type := 53, pos := "outright.go:112", after := #[{ on := 5, ground := Ground.data }, { on := 9, ground := Ground.data }, { on := 10, ground := Ground.data }, { on := 11, ground := Ground.data }, { on := 13, ground := Ground.data }, { on := 16, ground := Ground.gcOnly Departure.lateStores }], guard := none }) (v := .agg (supC s2)) rfl (by kernel_rfl) (by kernel_rfl) (by kernel_rfl) (fun _ _ _ h => h) (yields_sup (by rfl) (.tmp 127) (.tmp 131) (.tmp 132) (.tmp 133) (.tmp 135) rfl s2 _ _ _ _ _ rfl rfl rfl rfl rfl HS2C.out) hHeld ?_
    try simp only [Act.put, List.setIfInBounds_toArray, List.set_cons_zero, List.set_cons_succ]
    refine wpAnyH_take (i := 16) (oi := { dst := some 8, op := Op.assign (Operand.tmp 122), type := 46, pos := "outright.go:112", after := #[{ on := 0, ground := Ground.data }, { on := 13, ground := Ground.chain }, { on := 0, ground := Ground.phase }, { on := 1, ground := Ground.textOnly Departure.lateStores }, { on := 2, ground := Ground.textOnly Departure.lateStoresUnsure }, { on := 3, ground := Ground.textOnly Departure.lateStores }, { on := 4, ground := Ground.textOnly Departure.lateStoresUnsure }, { on := 5, ground := Ground.textOnly Departure.lateStores }, { on := 6, ground := Ground.textOnly Departure.lateStores }, { on := 7, ground := Ground.textOnly Departure.lateStores }, { on := 8, ground := Ground.textOnly Departure.lateStores }, { on := 9, ground := Ground.textOnly Departure.lateStores }, { on := 10, ground := Ground.textOnly Departure.lateStores }, { on := 11, ground := Ground.textOnly Departure.lateStores }, { on := 12, ground := Ground.textOnly Departure.lateStores }, { on := 13, ground := Ground.textOnly Departure.lateStoresUnsure }, { on := 14, ground := Ground.textOnly Departure.lateStores }, { on := 15, ground := Ground.textOnly Departure.lateStores }], guard := none }) (v := .int .i64 0) rfl (by kernel_rfl) (by kernel_rfl) (by kernel_rfl) (fun _ _ _ h => h) (Or.inl ⟨by rfl, by intro w hS; go_simp⟩) hHeld ?_
    try simp only [Act.put, List.setIfInBounds_toArray, List.set_cons_zero, List.set_cons_succ]
    refine wpAnyH_take (i := 15) (oi := { dst := some 137, op := Op.binOp BinOp.eql 53 (Operand.tmp 124) (Operand.tmp 136) 53, type := 4, pos := "outright.go:112", after := #[{ on := 2, ground := Ground.data }, { on := 14, ground := Ground.data }, { on := 16, ground := Ground.gcOnly Departure.lateStores }], guard := none }) (v := .bool true) rfl (by kernel_rfl) (by kernel_rfl) (by kernel_rfl) (fun _ _ _ h => h) (Or.inl ⟨by rfl, by intro w hS; (have KQ := HQ.out; have KG := guardU; go_simp)⟩) hHeld ?_
    try simp only [Act.put, List.setIfInBounds_toArray, List.set_cons_zero, List.set_cons_succ]
    refine wpAnyH_take (i := 17) (oi := { dst := some 9, op := Op.assign (Operand.tmp 137), type := 4, pos := "outright.go:112", after := #[{ on := 15, ground := Ground.data }, { on := 16, ground := Ground.chain }, { on := 0, ground := Ground.phase }, { on := 1, ground := Ground.phase }, { on := 2, ground := Ground.phase }, { on := 3, ground := Ground.phase }, { on := 4, ground := Ground.phase }, { on := 5, ground := Ground.phase }, { on := 6, ground := Ground.phase }, { on := 7, ground := Ground.phase }, { on := 8, ground := Ground.phase }, { on := 9, ground := Ground.phase }, { on := 10, ground := Ground.phase }, { on := 11, ground := Ground.phase }, { on := 12, ground := Ground.phase }, { on := 13, ground := Ground.phase }, { on := 14, ground := Ground.phase }, { on := 15, ground := Ground.phase }, { on := 16, ground := Ground.phase }], guard := none }) (v := .bool true) rfl (by kernel_rfl) (by kernel_rfl) (by kernel_rfl) (fun _ _ _ h => h) (Or.inl ⟨by rfl, by intro w hS; go_simp⟩) hHeld ?_
    try simp only [Act.put, List.setIfInBounds_toArray, List.set_cons_zero, List.set_cons_succ]
    refine wpAnyH_done (by kernel_rfl) ?_ _
    refine NoPanic.normal ?_
    go_wp2
    go_ret2
    exact HEND.out _ hHeld
  · have HCR2 := hid hcr2
    rw [if_neg (by rw [r2]; decide)] at HK2
    rw [r2]
    have RP := hid (show R.1.power = false ∧ R.1.epoch = ep ∧ (D.armed = 0 → (2 : Int) = 0 ∧ R.1.armed = 0) from ⟨hp2, he2, fun q => by have := HPU.out.2 q; rw [r2] at this; exact this⟩)
    clear hcr2 r2 hp2 he2
    go_wp2
    go_ret2
    have hgF : gb ∉ F2 := fun e => HAP2.out gb e HBA2.out.gbG
    have hgg : gb ≠ g := HBA2.out.not_file HK2.out
    have hm : gb ∈ g :: (F ++ G) := List.mem_cons_of_mem _ (List.mem_append_right _ HBA2.out.gbG)
    refine ⟨2, rfl, R.1, s, nx, { B with im := nx, ih := 0 }, F2, G, (HD2.out.setCellN hgF 5 _).setCellN hgF 6 _, ?_, (HBA2.out.setI _).setJ _, HAP2.out, (HFR2.out.ing.setCell hm 5 _).setCell hm 6 _, HGR2.out, Gr.refl _ _, HKP.out.2, RP.out.2.2, Or.inr ⟨rfl, RP.out.1, RP.out.2.1, HMK.out, HCR2.out⟩⟩
    show ((w2.setCell ⟨gb, 5, none⟩ _).setCell ⟨gb, 6, none⟩ _).heap[g]? = _
    rw [heap_setCell_other _ ⟨gb, 6, none⟩ g _ (fun e => hgg e.symm), heap_setCell_other _ ⟨gb, 5, none⟩ g _ (fun e => hgg e.symm)]
    exact HK2.out
set_option maxRecDepth 100000 in
set_option maxHeartbeats 2000000 in
theorem act2c (w : World) (base : Nat) (F : List Nat) (p : Nat) (D : DS) (h : DA w base F p D) (hbw : base ≤ w.heap.size) (g : Nat) (s : Sup) (nx : Nat) (ep : Int) (hf : FK w g p s nx ep) (G : List Nat) (gb : Nat) (B : Bk) (hb : BA w base G gb B) (hap : Apart F G) (hgG : g ∉ G) (n c : Nat) (hlv : Lv D s nx ep B n c) (hc : c ≤ 1000) (N : Int) (hN : -9223372036854775808 ≤ N ∧ N ≤ 9223372036854775807) (l : List Int) (h8 : Byts l) (sp : Option Addr) (cap : Nat) (hS : Src w sp cap l) (hlm : l.length ≤ 140737488355000) (hm : N % 2 = 1) (hx : ¬ 2 < nx) :
    Calls Try.prog 13 #[.pointer (some ⟨gb, 0, none⟩), .pointer (some ⟨p, 0, none⟩), .pointer (some ⟨g, 0, none⟩), .agg (actV 2 N sp l.length cap)] w fun e w' => ∃ er, e = .returned (.tuple #[.int .i64 er, .bool true]) ∧ AO base p g gb F G w n c ep D s (D.armed = 0) er w'  := by
  have hnp := h.ok.np
  have B0 := below_new w (.cells (actV 2 N sp l.length cap) 35)
  have cA := hnew w (.cells (actV 2 N sp l.length cap) 35)
  have cA0 : (w.alloc (.cells (actV 2 N sp l.length cap) 35)).cell? ⟨w.heap.size, 0, none⟩ = some (.int .i64 2) := by rw [cell_of_row _ _ _ _ _ _ cA]; rfl
  have cA1 : (w.alloc (.cells (actV 2 N sp l.length cap) 35)).cell? ⟨w.heap.size, 1, none⟩ = some (.int .i64 N) := by rw [cell_of_row _ _ _ _ _ _ cA]; rfl
  have cA2 : (w.alloc (.cells (actV 2 N sp l.length cap) 35)).cell? ⟨w.heap.size, 2, none⟩ = some (.slice sp l.length cap) := by rw [cell_of_row _ _ _ _ _ _ cA]; rfl
  have HF0 := hid (hf.below B0)
  have HD0 := hid (h.below B0)
  have HBB0 := hid (hb.below B0)
  have HNX := hid (FNext_any _ g p s nx ep HF0.out)
  have HB0 := hid B0
  have HD := hid h
  have HF := hid hf
  have HBB := hid hb
  have HAP := hid hap
  have HLV := hid hlv
  have HCC := hid hc
  have HPL := hid (place_any (w.alloc (.cells (actV 2 N sp l.length cap) 35)) N 2 (by decide) (by decide) hN.1 hN.2 2 rfl)
  rw [show ((2 : Nat) : Int) = 2 from rfl, hm] at HPL
  have hvv := (validS_iff s).1 hlv.val
  have hgv := hlv.ge
  have hnxx := hlv.hnx
  have hcn := hlv.cnt
  obtain ⟨s2, hs2⟩ : ∃ s2, s2 = nextS s nx (0) := ⟨_, rfl⟩
  have hh : (0) = (0 : Int) ∨ (2 ≤ (0 : Int) ∧ (0 : Int) < (nx : Int)) := Or.inl rfl
  obtain ⟨R, hR⟩ : ∃ R, R = runS D [.sync, .lay s2 0 0, .sync] := ⟨_, rfl⟩
  have HPU := hid (hlv.publish hc (0) hh R (by rw [hR, hs2]))
  have HKP := hid (hlv.kp_publish hc (0) hh R (by rw [hR, hs2]))
  have HMK := hid (show s.ma ≤ B.mrk from by rw [hlv.bk.1]; exact Int.le_refl _)
  rw [← hs2] at HPU HKP
  have HPUB := hid (Publish_in _ base F p D HD0.out (Nat.le_trans hbw B0.size) g s nx ep HF0.out hlv.live (0) hh ⟨by omega, by omega⟩ s2 hs2 (by rw [hs2]; exact nextS_valid hlv.val hlv.pg hlv.hnx hh (by omega)) ⟨hlv.pw, by omega, by omega, by omega⟩)
  have HR := hid hR
  have HGE := hid (show 0 ≤ s.ge ∧ s.ge ≤ 100000 by omega)
  have HWD := hid (show s2.wd = s.wd by rw [hs2]; rfl)
  have HS2C := hid (show (#[.int .i64 s.wd, .int .i64 (s.ge + 1), .int .i64 (nx : Int), .int .i64 (0), .int .i64 (n : Int)] : Array Value) = supC s2 by rw [hs2, ← hlv.pg]; rfl)
  have HGG := hid hgG
  have jn : (nx : Int) ≤ 64 := by have := hlv.small; omega
  have j1 : (nx : Int) ≤ 2 := by omega
  clear hx
  clear h hf hb hap hlv hnp hS hN h8 B0 hgG hm hvv hgv hnxx hcn hh hR hs2
  go_enter Try.func13, Try.ntmps13
  go_wp2_with (first | (go_at_call 7; refine HNX.out.mono ?_; rintro e w1 ⟨rfl, rfl⟩) | (go_at_call 11; refine HPL.out.mono ?_; rintro e w1 ⟨rfl, rfl⟩))
  refine HPUB.out.mono ?_
  rintro e w2 ⟨rfl, hN2⟩
  rw [← HR.out] at hN2 ⊢
  obtain ⟨F2, q1, q2, q3, q4⟩ := hN2
  have hap2 : Apart F2 G := HAP.out.step (fun k hk => (HBB.out.lt k hk).2) (fun k hk => (q4 k hk).imp id (fun x => Nat.le_trans HB0.out.size x))
  have hgr2 : Gr w F F2 := fun k hk => (q4 k hk).imp id (fun x => Nat.le_trans HB0.out.size x)
  have hba2 : BA w2 base G gb B := HBB0.out.other q3 (fun k hk e => by rcases List.mem_cons.1 hk with q | q; exact HGG.out (q ▸ e); exact HAP.out k q e)
  have hfr2 : Fr (g :: F) w w2 := (Fr.of_below (F := g :: F) HB0.out).trans q3 (Gr.refl _ _)
  obtain ⟨b2, b3, b4, b5, b6, bf⟩ := hba2.cell
  have f2 := bf 2
  have f3 := bf 3
  have f4 := bf 4
  have f5 := bf 5
  have f6 := bf 6
  have HBA2 := hid hba2
  have HAP2 := hid hap2
  have HFR2 := hid hfr2
  have HGR2 := hid hgr2
  have HD2 := hid q1
  have HK2 := hid q2
  clear hba2 hap2 hfr2 hgr2 q1 q2 q3 q4 bf HPUB HNX
  rcases HPU.out.1 with ⟨r0, hlv2⟩ | ⟨r2, hp2, he2, hcr2⟩
  · have HLV2 := hid hlv2
    have R0 := hid r0
    rw [if_pos r0] at HK2
    rw [r0]
    have j3 : B.gn = s.ge := HLV.out.bk.2.1
    rw [j3] at b3
    have i1 : 0 ≤ s.ge ∧ s.ge ≤ 100000 := HGE.out
    obtain ⟨i1, i2⟩ := i1
    clear hlv2 r0
    go_wp2
    generalize hw3 : ((w2.setCell ⟨gb, 2, none⟩ (.int .i64 (nx : Int))).setCell ⟨gb, 4, none⟩ (.int .i64 0)).setCell ⟨gb, 3, none⟩ (.int .i64 (s.ge + 1)) = w3 at *
    have hba3 : BA w3 base G gb { B with mrk := nx, hd := 0, gn := B.gn + 1 } := by
      rw [← hw3, j3]
      exact ((HBA2.out.setM _).setH _).setG _
    have hgF : gb ∉ F2 := fun e => HAP2.out gb e HBA2.out.gbG
    have hgg : gb ≠ g := HBA2.out.not_file HK2.out
    have hD3 : DA w3 base F2 p R.1 := by rw [← hw3]; exact ((HD2.out.setCellN hgF 2 _).setCellN hgF 4 _).setCellN hgF 3 _
    have HK3 := hid (show FK w3 g p s2 nx ep by
      rw [← hw3]
      show (((w2.setCell ⟨gb, 2, none⟩ _).setCell ⟨gb, 4, none⟩ _).setCell ⟨gb, 3, none⟩ _).heap[g]? = _
      rw [heap_setCell_other _ ⟨gb, 3, none⟩ g _ (fun e => hgg e.symm), heap_setCell_other _ ⟨gb, 4, none⟩ g _ (fun e => hgg e.symm), heap_setCell_other _ ⟨gb, 2, none⟩ g _ (fun e => hgg e.symm)]
      exact HK2.out)
    have hfr3 : Fr (g :: (F ++ G)) w w3 := by
      have hm : gb ∈ g :: (F ++ G) := List.mem_cons_of_mem _ (List.mem_append_right _ HBA2.out.gbG)
      rw [← hw3]
      exact ((HFR2.out.ing.setCell hm 2 _).setCell hm 4 _).setCell hm 3 _
    have c33 := hid (show w3.cell? ⟨gb, 3, none⟩ = some (.int .i64 (s.ge + 1)) by have := hba3.cell.2.1; rw [this]; show some (Value.int .i64 (B.gn + 1)) = _; rw [j3])
    have hgb3 : gb < w3.heap.size := (hba3.lt gb hba3.gbG).2
    have HPGS := hid (fun (w4 : World) (hb4 : Below w3.heap.size w3 w4) => (show Calls Try.prog 8 #[.pointer (some ⟨p, 0, none⟩)] w4 fun e w' => e = .returned (.int .i64 (n : Int)) ∧ w4 = w' from by
      have := Pages_any w4 base F2 p R.1 (hD3.below hb4)
      rwa [HLV2.out.np] at this))
    have HQ := hid (show ∀ w : World, (Op.equalIn 10000 53 (.agg (supC s2)) (.agg (supC s2))).run Try.prog w = .ok true w from fun w => by have := eqSup s2 s2 w; rwa [show decide (s2 = s2) = true from decide_eq_true rfl] at this)
    have HEND := hid (fun (w4 : World) (hb4 : Below w3.heap.size w3 w4) => (show ∃ er : Int, Ending.returned (Value.tuple #[Value.int .i64 0, Value.bool true]) = Ending.returned (Value.tuple #[Value.int .i64 er, Value.bool true]) ∧ AO base p g gb F G w n c ep D s (D.armed = 0) er w4 from
      ⟨0, rfl, R.1, s2, nx, { B with mrk := nx, hd := 0, gn := B.gn + 1 }, F2, G, hD3.below hb4, HK3.out.below hb4, hba3.below hb4, HAP2.out, hfr3.tail (F' := F) hb4, HGR2.out, Gr.refl _ _, HKP.out.1, fun q => ⟨rfl, (HPU.out.2 q).2⟩, Or.inl ⟨rfl, HLV2.out⟩⟩))
    clear hba3 hgF hgg hD3 hfr3 HBA2 HAP2 HFR2 HGR2 HD2 HK2 HLV2 HLV HR HPU b2 b3 b4 b5 b6 f2 f3 f4 f5 f6 hw3 j3
    refine wp_region_noPanic ?_
    refine wp_region_held_drew (S := fun w' => Below w3.heap.size w3 w') (by kernel_rfl) (Below.refl _ _).drew (fun hHeld => ?_)
    refine wpAnyH_take (i := 0) (oi := { dst := some 122, op := Op.move (Operand.tmp 16), type := 46, pos := "outright.go:112", after := #[], guard := none }) (v := .int .i64 0) rfl (by kernel_rfl) (by kernel_rfl) (by kernel_rfl) (fun _ _ _ h => h) (Or.inl ⟨by rfl, by intro w hS; go_simp⟩) hHeld ?_
    try simp only [Act.put, List.setIfInBounds_toArray, List.set_cons_zero, List.set_cons_succ]
    refine wpAnyH_take (i := 1) (oi := { dst := some 123, op := Op.move (Operand.tmp 2), type := 25, pos := "outright.go:112", after := #[], guard := none }) (v := .pointer (some ⟨g, 0, none⟩)) rfl (by kernel_rfl) (by kernel_rfl) (by kernel_rfl) (fun _ _ _ h => h) (Or.inl ⟨by rfl, by intro w hS; go_simp⟩) hHeld ?_
    try simp only [Act.put, List.setIfInBounds_toArray, List.set_cons_zero, List.set_cons_succ]
    refine wpAnyH_take (i := 3) (oi := { dst := some 125, op := Op.move (Operand.tmp 2), type := 25, pos := "outright.go:112", after := #[], guard := none }) (v := .pointer (some ⟨g, 0, none⟩)) rfl (by kernel_rfl) (by kernel_rfl) (by kernel_rfl) (fun _ _ _ h => h) (Or.inl ⟨by rfl, by intro w hS; go_simp⟩) hHeld ?_
    try simp only [Act.put, List.setIfInBounds_toArray, List.set_cons_zero, List.set_cons_succ]
    refine wpAnyH_take (i := 6) (oi := { dst := some 128, op := Op.move (Operand.tmp 0), type := 28, pos := "outright.go:112", after := #[{ on := 16, ground := Ground.gcOnly Departure.lateStores }], guard := none }) (v := .pointer (some ⟨gb, 0, none⟩)) rfl (by kernel_rfl) (by kernel_rfl) (by kernel_rfl) (fun _ _ _ h => h) (Or.inl ⟨by rfl, by intro w hS; go_simp⟩) hHeld ?_
    try simp only [Act.put, List.setIfInBounds_toArray, List.set_cons_zero, List.set_cons_succ]
    refine wpAnyH_take (i := 10) (oi := { dst := some 132, op := Op.move (Operand.tmp 10), type := 3, pos := "outright.go:112", after := #[{ on := 16, ground := Ground.gcOnly Departure.lateStores }], guard := none }) (v := .int .i64 (nx : Int)) rfl (by kernel_rfl) (by kernel_rfl) (by kernel_rfl) (fun _ _ _ h => h) (Or.inl ⟨by rfl, by intro w hS; go_simp⟩) hHeld ?_
    try simp only [Act.put, List.setIfInBounds_toArray, List.set_cons_zero, List.set_cons_succ]
    refine wpAnyH_take (i := 11) (oi := { dst := some 133, op := Op.move (Operand.tmp 15), type := 3, pos := "outright.go:112", after := #[{ on := 16, ground := Ground.gcOnly Departure.lateStores }], guard := none }) (v := .int .i64 0) rfl (by kernel_rfl) (by kernel_rfl) (by kernel_rfl) (fun _ _ _ h => h) (Or.inl ⟨by rfl, by intro w hS; go_simp⟩) hHeld ?_
    try simp only [Act.put, List.setIfInBounds_toArray, List.set_cons_zero, List.set_cons_succ]
    refine wpAnyH_take (i := 12) (oi := { dst := some 134, op := Op.move (Operand.tmp 1), type := 24, pos := "outright.go:112", after := #[], guard := none }) (v := .pointer (some ⟨p, 0, none⟩)) rfl (by kernel_rfl) (by kernel_rfl) (by kernel_rfl) (fun _ _ _ h => h) (Or.inl ⟨by rfl, by intro w hS; go_simp⟩) hHeld ?_
    try simp only [Act.put, List.setIfInBounds_toArray, List.set_cons_zero, List.set_cons_succ]
    refine wpAnyH_take (i := 7) (oi := { dst := some 129, op := Op.nilCheck (Operand.tmp 128), type := 0, pos := "outright.go:112", after := #[{ on := 6, ground := Ground.data }, { on := 16, ground := Ground.gcOnly Departure.lateStores }], guard := none }) (v := .pointer (some ⟨gb, 0, none⟩)) rfl (by kernel_rfl) (by kernel_rfl) (by kernel_rfl) (fun _ _ _ h => h) (Or.inl ⟨by rfl, by intro w hS; go_simp⟩) hHeld ?_
    try simp only [Act.put, List.setIfInBounds_toArray, List.set_cons_zero, List.set_cons_succ]
    refine wpAnyH_take (i := 8) (oi := { dst := some 130, op := Op.fieldAddr 32 (Operand.tmp 129) 3, type := 0, pos := "outright.go:112", after := #[{ on := 7, ground := Ground.data }, { on := 16, ground := Ground.gcOnly Departure.lateStores }], guard := none }) (v := .pointer (some ⟨gb, 3, none⟩)) rfl (by kernel_rfl) (by kernel_rfl) (by kernel_rfl) (fun _ _ _ h => h) (Or.inl ⟨by rfl, by intro w hS; go_simp⟩) hHeld ?_
    try simp only [Act.put, List.setIfInBounds_toArray, List.set_cons_zero, List.set_cons_succ]
    refine wpAnyH_take (i := 9) (oi := { dst := some 131, op := Op.load 3 (Operand.tmp 130), type := 3, pos := "outright.go:112", after := #[{ on := 8, ground := Ground.data }, { on := 16, ground := Ground.gcOnly Departure.lateStores }], guard := none }) (v := .int .i64 (s.ge + 1)) rfl (by kernel_rfl) (by kernel_rfl) (by kernel_rfl) (fun _ _ _ h => h) (Or.inl ⟨by rfl, by intro w hS; have hc := (hS.cell (p := ⟨gb, 3, none⟩) hgb3).trans c33.out; go_simp⟩) hHeld ?_
    try simp only [Act.put, List.setIfInBounds_toArray, List.set_cons_zero, List.set_cons_succ]
    refine wpAnyH_ready (rs := [2]) (by kernel_rfl) (by simp) ?_
    refine (AllReadyH.cons (o := { dst := some 124, op := Op.call { callee := Callee.value (Operand.func 12), args := #[Operand.tmp 123], argTypes := #[25] }, type := 53, pos := "outright.go:112", after := #[{ on := 1, ground := Ground.data }], guard := none }) rfl (fun K hK => ?_) AllReadyH.nil)
    go_simp
    go_at_call 12
    refine (FSuper_any _ g p s2 nx ep (HK3.out.below hHeld)).mono ?_
    rintro e w4 ⟨rfl, hb4⟩
    go_wp2_with fail
    refine hK.out _ _ (hHeld.trans (hb4.mono hHeld.size)) (fun hHeld2 => ?_)
    clear hK K hHeld
    have hHeld := hHeld2
    clear hHeld2
    clear hb4
    try simp only [Act.put, List.setIfInBounds_toArray, List.set_cons_zero, List.set_cons_succ]
    refine wpAnyH_ready (rs := [4]) (by kernel_rfl) (by simp) ?_
    refine (AllReadyH.cons (o := { dst := some 126, op := Op.call { callee := Callee.value (Operand.func 12), args := #[Operand.tmp 125], argTypes := #[25] }, type := 53, pos := "outright.go:112", after := #[{ on := 3, ground := Ground.data }, { on := 2, ground := Ground.chain }], guard := none }) rfl (fun K hK => ?_) AllReadyH.nil)
    go_simp
    go_at_call 12
    refine (FSuper_any _ g p s2 nx ep (HK3.out.below hHeld)).mono ?_
    rintro e w5 ⟨rfl, hb4⟩
    go_wp2_with fail
    refine hK.out _ _ (hHeld.trans (hb4.mono hHeld.size)) (fun hHeld2 => ?_)
    clear hK K hHeld
    have hHeld := hHeld2
    clear hHeld2
    clear hb4
    try simp only [Act.put, List.setIfInBounds_toArray, List.set_cons_zero, List.set_cons_succ]
    refine wpAnyH_take (i := 5) (oi := { dst := some 127, op := Op.field 53 (Operand.tmp 126) 0, type := 3, pos := "outright.go:112", after := #[{ on := 4, ground := Ground.data }, { on := 16, ground := Ground.gcOnly Departure.lateStores }], guard := none }) (v := .int .i64 s.wd) rfl (by kernel_rfl) (by kernel_rfl) (by kernel_rfl) (fun _ _ _ h => h) (yields_field0 (by rfl) (.tmp 126) rfl s2 s.wd HWD.out rfl) hHeld ?_
    try simp only [Act.put, List.setIfInBounds_toArray, List.set_cons_zero, List.set_cons_succ]
    refine wpAnyH_ready (rs := [13]) (by kernel_rfl) (by simp) ?_
    refine (AllReadyH.cons (o := { dst := some 135, op := Op.call { callee := Callee.value (Operand.func 8), args := #[Operand.tmp 134], argTypes := #[24] }, type := 3, pos := "outright.go:112", after := #[{ on := 12, ground := Ground.data }, { on := 4, ground := Ground.chain }], guard := none }) rfl (fun K hK => ?_) AllReadyH.nil)
    go_simp
    go_at_call 8
    refine (HPGS.out _ hHeld).mono ?_
    rintro e w6 ⟨rfl, rfl⟩
    go_wp2_with fail
    refine hK.out _ _ (hHeld) (fun hHeld2 => ?_)
    clear hK K hHeld
    have hHeld := hHeld2
    clear hHeld2
    try simp only [Act.put, List.setIfInBounds_toArray, List.set_cons_zero, List.set_cons_succ]
    refine wpAnyH_take (i := 14) (oi := { dst := some 136, op := Op.build 53 #[(0, Operand.tmp 127), (1, Operand.tmp 131), (2, Operand.tmp 132), (3, Operand.tmp 133), (4, Operand.tmp 135)], type := 53, pos := "outright.go:112", after := #[{ on := 5, ground := Ground.data }, { on := 9, ground := Ground.data }, { on := 10, ground := Ground.data }, { on := 11, ground := Ground.data }, { on := 13, ground := Ground.data }, { on := 16, ground := Ground.gcOnly Departure.lateStores }], guard := none }) (v := .agg (supC s2)) rfl (by kernel_rfl) (by kernel_rfl) (by kernel_rfl) (fun _ _ _ h => h) (yields_sup (by rfl) (.tmp 127) (.tmp 131) (.tmp 132) (.tmp 133) (.tmp 135) rfl s2 _ _ _ _ _ rfl rfl rfl rfl rfl HS2C.out) hHeld ?_
    try simp only [Act.put, List.setIfInBounds_toArray, List.set_cons_zero, List.set_cons_succ]
    refine wpAnyH_take (i := 16) (oi := { dst := some 8, op := Op.assign (Operand.tmp 122), type := 46, pos := "outright.go:112", after := #[{ on := 0, ground := Ground.data }, { on := 13, ground := Ground.chain }, { on := 0, ground := Ground.phase }, { on := 1, ground := Ground.textOnly Departure.lateStores }, { on := 2, ground := Ground.textOnly Departure.lateStoresUnsure }, { on := 3, ground := Ground.textOnly Departure.lateStores }, { on := 4, ground := Ground.textOnly Departure.lateStoresUnsure }, { on := 5, ground := Ground.textOnly Departure.lateStores }, { on := 6, ground := Ground.textOnly Departure.lateStores }, { on := 7, ground := Ground.textOnly Departure.lateStores }, { on := 8, ground := Ground.textOnly Departure.lateStores }, { on := 9, ground := Ground.textOnly Departure.lateStores }, { on := 10, ground := Ground.textOnly Departure.lateStores }, { on := 11, ground := Ground.textOnly Departure.lateStores }, { on := 12, ground := Ground.textOnly Departure.lateStores }, { on := 13, ground := Ground.textOnly Departure.lateStoresUnsure }, { on := 14, ground := Ground.textOnly Departure.lateStores }, { on := 15, ground := Ground.textOnly Departure.lateStores }], guard := none }) (v := .int .i64 0) rfl (by kernel_rfl) (by kernel_rfl) (by kernel_rfl) (fun _ _ _ h => h) (Or.inl ⟨by rfl, by intro w hS; go_simp⟩) hHeld ?_
    try simp only [Act.put, List.setIfInBounds_toArray, List.set_cons_zero, List.set_cons_succ]
    refine wpAnyH_take (i := 15) (oi := { dst := some 137, op := Op.binOp BinOp.eql 53 (Operand.tmp 124) (Operand.tmp 136) 53, type := 4, pos := "outright.go:112", after := #[{ on := 2, ground := Ground.data }, { on := 14, ground := Ground.data }, { on := 16, ground := Ground.gcOnly Departure.lateStores }], guard := none }) (v := .bool true) rfl (by kernel_rfl) (by kernel_rfl) (by kernel_rfl) (fun _ _ _ h => h) (Or.inl ⟨by rfl, by intro w hS; (have KQ := HQ.out; have KG := guardU; go_simp)⟩) hHeld ?_
    try simp only [Act.put, List.setIfInBounds_toArray, List.set_cons_zero, List.set_cons_succ]
    refine wpAnyH_take (i := 17) (oi := { dst := some 9, op := Op.assign (Operand.tmp 137), type := 4, pos := "outright.go:112", after := #[{ on := 15, ground := Ground.data }, { on := 16, ground := Ground.chain }, { on := 0, ground := Ground.phase }, { on := 1, ground := Ground.phase }, { on := 2, ground := Ground.phase }, { on := 3, ground := Ground.phase }, { on := 4, ground := Ground.phase }, { on := 5, ground := Ground.phase }, { on := 6, ground := Ground.phase }, { on := 7, ground := Ground.phase }, { on := 8, ground := Ground.phase }, { on := 9, ground := Ground.phase }, { on := 10, ground := Ground.phase }, { on := 11, ground := Ground.phase }, { on := 12, ground := Ground.phase }, { on := 13, ground := Ground.phase }, { on := 14, ground := Ground.phase }, { on := 15, ground := Ground.phase }, { on := 16, ground := Ground.phase }], guard := none }) (v := .bool true) rfl (by kernel_rfl) (by kernel_rfl) (by kernel_rfl) (fun _ _ _ h => h) (Or.inl ⟨by rfl, by intro w hS; go_simp⟩) hHeld ?_
    try simp only [Act.put, List.setIfInBounds_toArray, List.set_cons_zero, List.set_cons_succ]
    refine wpAnyH_done (by kernel_rfl) ?_ _
    refine NoPanic.normal ?_
    go_wp2
    go_ret2
    exact HEND.out _ hHeld
  · have HCR2 := hid hcr2
    rw [if_neg (by rw [r2]; decide)] at HK2
    rw [r2]
    have RP := hid (show R.1.power = false ∧ R.1.epoch = ep ∧ (D.armed = 0 → (2 : Int) = 0 ∧ R.1.armed = 0) from ⟨hp2, he2, fun q => by have := HPU.out.2 q; rw [r2] at this; exact this⟩)
    clear hcr2 r2 hp2 he2
    go_wp2
    go_ret2
    have hgF : gb ∉ F2 := fun e => HAP2.out gb e HBA2.out.gbG
    have hgg : gb ≠ g := HBA2.out.not_file HK2.out
    have hm : gb ∈ g :: (F ++ G) := List.mem_cons_of_mem _ (List.mem_append_right _ HBA2.out.gbG)
    refine ⟨2, rfl, R.1, s, nx, { B with im := nx, ih := 0 }, F2, G, (HD2.out.setCellN hgF 5 _).setCellN hgF 6 _, ?_, (HBA2.out.setI _).setJ _, HAP2.out, (HFR2.out.ing.setCell hm 5 _).setCell hm 6 _, HGR2.out, Gr.refl _ _, HKP.out.2, RP.out.2.2, Or.inr ⟨rfl, RP.out.1, RP.out.2.1, HMK.out, HCR2.out⟩⟩
    show ((w2.setCell ⟨gb, 5, none⟩ _).setCell ⟨gb, 6, none⟩ _).heap[g]? = _
    rw [heap_setCell_other _ ⟨gb, 6, none⟩ g _ (fun e => hgg e.symm), heap_setCell_other _ ⟨gb, 5, none⟩ g _ (fun e => hgg e.symm)]
    exact HK2.out
theorem act2_in (w : World) (base : Nat) (F : List Nat) (p : Nat) (D : DS) (h : DA w base F p D) (hbw : base ≤ w.heap.size) (g : Nat) (s : Sup) (nx : Nat) (ep : Int) (hf : FK w g p s nx ep) (G : List Nat) (gb : Nat) (B : Bk) (hb : BA w base G gb B) (hap : Apart F G) (hgG : g ∉ G) (n c : Nat) (hlv : Lv D s nx ep B n c) (hc : c ≤ 1000) (N : Int) (hN : -9223372036854775808 ≤ N ∧ N ≤ 9223372036854775807) (l : List Int) (h8 : Byts l) (sp : Option Addr) (cap : Nat) (hS : Src w sp cap l) (hlm : l.length ≤ 140737488355000) :
    Calls Try.prog 13 #[.pointer (some ⟨gb, 0, none⟩), .pointer (some ⟨p, 0, none⟩), .pointer (some ⟨g, 0, none⟩), .agg (actV 2 N sp l.length cap)] w fun e w' => ∃ er, e = .returned (.tuple #[.int .i64 er, .bool true]) ∧ AO base p g gb F G w n c ep D s (D.armed = 0) er w'  := by
  rcases (show N % 2 = 0 ∨ N % 2 = 1 by omega) with hm | hm
  · exact act2b w base F p D h hbw g s nx ep hf G gb B hb hap hgG n c hlv hc N hN l h8 sp cap hS hlm hm
  · by_cases hx : 2 < nx
    · exact act2a w base F p D h hbw g s nx ep hf G gb B hb hap hgG n c hlv hc N hN l h8 sp cap hS hlm hm hx
    · exact act2c w base F p D h hbw g s nx ep hf G gb B hb hap hgG n c hlv hc N hN l h8 sp cap hS hlm hm hx
end Go.Proofs.Ytjlakgojbfglhaa
