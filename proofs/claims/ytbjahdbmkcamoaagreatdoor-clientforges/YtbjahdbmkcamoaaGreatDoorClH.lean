import Derived.Test.YtbjahdbmkcamoaaGreatDoorNk
import Derived.Laws.EntriesVeiled
import Derived.Shelf.Abstract
namespace Go.Proofs.YtbjahdbmkcamoaaGreatDoor
set_option linter.unusedVariables false
set_option linter.unusedSimpArgs false
open Go.RowKit
attribute [local go_sem ↓] Go.wp_at_zero Go.wp_at_succ

/-! What a step leaves alone: all blocks but those of F. -/
structure FrC (F : List Nat) (w w1 : World) : Prop where
  bel : Below 0 w w1
  blk : ∀ k, k < w.heap.size → k ∉ F → w1.heap[k]? = w.heap[k]?
theorem FrC.refl (F : List Nat) (w : World) : FrC F w w := ⟨Below.refl _ _, fun _ _ _ => rfl⟩
theorem FrC.of_below {F : List Nat} {w w1 : World} (h : Below w.heap.size w w1) : FrC F w w1 := ⟨h.mono (Nat.zero_le _), fun k hk _ => h.block k hk⟩
theorem FrC.trans {F F' : List Nat} {a b c : World} (h : FrC F a b) (k : FrC F' b c) (hF : ∀ x ∈ F', x ∈ F ∨ a.heap.size ≤ x) : FrC F a c :=
  ⟨h.bel.trans k.bel, fun i hi hn => (k.blk i (Nat.lt_of_lt_of_le hi h.bel.size) (fun q => (hF i q).elim hn (fun q => by omega))).trans (h.blk i hi hn)⟩
theorem FrC.below {F : List Nat} {w0 w w1 : World} {B : Nat} (h0 : Below B w0 w) (h : FrC F w w1) (hF : ∀ x ∈ F, B ≤ x) (hB : B ≤ w.heap.size) : Below B w0 w1 :=
  ⟨h.bel.os.trans h0.os, h.bel.tape.trans h0.tape, h.bel.output.trans h0.output, Nat.le_trans h0.size h.bel.size, fun k hk => (h.blk k (by omega) (fun q => by have := hF k q; omega)).trans (h0.block k hk)⟩
theorem FrC.setRow {F : List Nat} {w w1 : World} (h : FrC F w w1) (b : Nat) (hb : w.heap.size ≤ b) (cs : Array Value) : FrC F w (w1.setRow b cs) :=
  ⟨below_setRow h.bel (Nat.zero_le _) cs, fun k hk hn => (setRow_other _ b k cs (by omega)).trans (h.blk k hk hn)⟩
theorem FrC.setF {F : List Nat} {w w1 : World} (h : FrC F w w1) (b : Nat) (hb : b ∈ F) (cs : Array Value) : FrC F w (w1.setRow b cs) :=
  ⟨below_setRow h.bel (Nat.zero_le _) cs, fun k hk hn => (setRow_other _ b k cs (fun e => hn (e ▸ hb))).trans (h.blk k hk hn)⟩
theorem FrC.alloc {F : List Nat} {w w1 : World} (h : FrC F w w1) (o : Obj) : FrC F w (w1.alloc o) := ⟨h.bel.alloc (Nat.zero_le _) o, fun k hk hn => (Below.heap_alloc w1 o k (Nat.lt_of_lt_of_le hk h.bel.size)).trans (h.blk k hk hn)⟩
theorem FrC.call {F : List Nat} {w w1 w2 : World} (h : FrC F w w1) (hb : Below w1.heap.size w1 w2) : FrC F w w2 := ⟨h.bel.trans (hb.mono (Nat.zero_le _)), fun k hk hn => (hb.block k (Nat.lt_of_lt_of_le hk h.bel.size)).trans (h.blk k hk hn)⟩
theorem FrC.drew {F : List Nat} {w w1 : World} (h : FrC F w w1) : FrC F w w1.drew := ⟨h.bel.drew, h.blk⟩
theorem pth_side (k : Int) (ks : List Int) (nb : Nat → List Int) (d : List Int) (h : Nat) : branchD k (sideL ks h (pth k ks nb d h) (nb h)) (sideR ks h (pth k ks nb d h) (nb h)) = pth k ks nb d (h + 1) := by
  unfold sideL sideR
  by_cases e : bitK ks (255 - h) = 0
  · rw [if_pos e, if_pos e]; show _ = if bitK ks (255 - h) = 0 then _ else _; rw [if_pos e]
  · rw [if_neg e, if_neg e]; show _ = if bitK ks (255 - h) = 0 then _ else _; rw [if_neg e]
theorem side_len {ks : List Int} {h : Nat} {d n : List Int} (hd : d.length = 32) (hn : n.length = 32) : (sideL ks h d n).length = 32 ∧ (sideR ks h d n).length = 32 := by
  unfold sideL sideR; split <;> exact ⟨by assumption, by assumption⟩
set_option maxRecDepth 100000 in
set_option maxHeartbeats 4000000 in
theorem climb_any (w0 w : World) (hG : Glob w0) (cb : Nat) (P : CkP) (n : Nat) (root ks : List Int) (p : Pf) (NB : List (List Int)) (hV : CkV w0 cb P n root ks p NB) (hB0 : Below w0.heap.size w0 w) (d : List Int) (hd : d.length = 32)
    (fn : Nat) (x1 x2 : Value) (I : Nat → List Nat → World → Prop) (F0 : List Nat)
    (hent : ∀ (args : Array Value) (w1 : World), (callFunc fn args).run Tryz.prog w1 = .ok (.enter fn args) w1)
    (hI : ∀ h F w1, I h F w1 → ∀ k ∈ F, w0.heap.size ≤ k ∧ k < w1.heap.size)
    (hst : ∀ h F w1 w2, I h F w1 → (∀ k ∈ F, w2.heap[k]? = w1.heap[k]?) → w1.heap.size ≤ w2.heap.size → I h F w2)
    (hcall : ∀ h F w1, h ≤ 256 → I h F w1 → Below w0.heap.size w0 w1 → Calls Tryz.prog fn #[.int .i64 (h : Nat), .agg (ints .u8 (pth n ks (fun j => NB.getD j []) d h)).toArray, x1, x2] w1 fun e w2 => e = .returned (.tuple #[]) ∧ ∃ F', I (h + 1) F' w2 ∧ FrC F w1 w2 ∧ ∀ k ∈ F', k ∈ F ∨ w1.heap.size ≤ k)
    (h0 : I 0 F0 w) :
    Calls Tryz.prog 45 #[.pointer (some ⟨cb, 0, none⟩), .agg (ints .u8 d).toArray, .func (.func fn) #[] #[x1, x2]] w fun e w2 => e = .returned (.tuple #[]) ∧ ∃ F', I 257 F' w2 ∧ FrC F0 w w2 ∧ ∀ k ∈ F', k ∈ F0 ∨ w.heap.size ≤ k := by
  have AD := hid allocDg
  have hF0 := hI 0 F0 w h0
  have hb1 : Below w.heap.size w (w.alloc (.cells (ints .u8 d).toArray 28)) := (Below.refl _ _).alloc (Nat.le_refl _) _
  have r1 := hnew w (.cells (ints .u8 d).toArray 28)
  have hB1 := hB0.trans (hb1.mono hB0.size)
  have hI1 := hst 0 F0 w _ h0 (fun k hk => hb1.block k (hF0 k hk).2) hb1.size
  have hw0 := hB0.size
  have PL := hid (fun h => pth_len n ks (fun j => NB.getD j []) d hd h)
  have PS := hid (fun h => pth_side n ks (fun j => NB.getD j []) d h)
  have HC := hid hcall
  have HI := hid hI
  have HST := hid hst
  have P0 := hid (show pth n ks (fun j => NB.getD j []) d 0 = d from rfl)
  have LD := hid (fun (X : List Int) (hX : X.length = 32) => show (Tryz.prog.info? 28).map (·.size) = some (ints .u8 X).toArray.size by rw [Tryz.sizeD, List.size_toArray, ints_len, hX])
  have LD1 := LD.out d hd
  have LZ := hid (show (ints .u8 zB).toArray.size = 32 from rfl)
  generalize pth (n : Int) ks (fun j => NB.getD j []) d = PT at *
  clear hcall hst hI
  have K0 := hid (HC.out 0 F0 _ (by omega) hI1 hB1)
  rw [P0.out, show (((0 : Nat)) : Int) = 0 from rfl] at K0
  have hC102 := fun (w1 : World) (hw1 : Below w0.heap.size w0 w1) => (hV.below hw1).c102
  go_enter Tryz.func45, Tryz.ntmps45
  go_wp2_with (first
    | refine wpList_load_row rfl 28 _ rfl _ rfl 28 _ _ _ r1 Tryz.underlying28 rfl LD1 ?_
    | (refine K0.out.mono ?_; rintro e w2 ⟨rfl, F2, hI2, hF2, hG2⟩; refine Hid.out ?_))
  refine hid ?_
  have hs1 : (w.alloc (.cells (ints .u8 d).toArray 28)).heap.size = w.heap.size + 1 := by simp
  have r2 := (hF2.blk w.heap.size (hlt r1) (fun q => by have := (hF0 _ q).2; omega)).trans r1
  have hB2 : Below w0.heap.size w0 w2 := FrC.below hB1 hF2 (fun x hx => (hF0 x hx).1) hB1.size
  have hN2 : w.heap.size ∉ F2 := fun q => by
    rcases hG2 _ q with q | q
    · have := (hF0 _ q).2; omega
    · omega
  have hFr2 : FrC F0 w w2 := (FrC.of_below hb1).trans hF2 (fun x hx => Or.inl hx)
  have hG2' : ∀ k ∈ F2, k ∈ F0 ∨ w.heap.size ≤ k := fun k q => (hG2 k q).imp id (fun q => by omega)
  rw [← P0.out] at r2
  have c102 := hC102 w2 hB2
  clear K0 P0 r1 hI1 hB1 hb1 hF2 hG2 LD1 hs1
  have hC102' := hid hC102
  clear hC102
  go_wp2_with fail
  go_loopw [6, 7, 8, 17] (fun _ _ _ iv wr => ∃ h : Nat, h ≤ 256 ∧ iv = .int .i64 h ∧ ∃ F, I (h + 1) F wr ∧ wr.heap[w.heap.size]? = some (.cells (ints .u8 (PT h)).toArray 28 (0, 0)) ∧ w.heap.size ∉ F ∧ Below w0.heap.size w0 wr ∧ FrC F0 w wr ∧ ∀ k ∈ F, k ∈ F0 ∨ w.heap.size ≤ k) (fun _ _ _ iv _ => 256 - (intOf iv).toNat)
  case atStart => exact ⟨0, by omega, rfl, F2, hI2, r2, hN2, hB2, hFr2, hG2'⟩
  case round =>
    clear r2 hB2 hN2 hFr2 hG2' hI2 c102
    obtain ⟨h, hh, rfl, F, hIr, rr, hNr, hBr, hFr, hGr⟩ := hrel
    by_cases hlt' : h < 256
    · have i1 : (h : Int) < 256 := by omega
      have hVr := hV.below hBr
      have hpl := PL.out h
      have hpl2 := PL.out (h + 1)
      have hnl := (hVr.nb h hlt').2.2
      have KS := hid (sides_any wr cb P n root ks p NB hVr h hlt' (PT h) hpl)
      have HPS := hid (PS.out h)
      obtain ⟨hll, hrl⟩ := side_len (ks := ks) (h := h) hpl hnl
      generalize sideL ks h (PT h) (NB.getD h []) = SL at *
      generalize sideR ks h (PT h) (NB.getD h []) = SR at *
      have LP := LD.out _ hpl
      have LL := LD.out _ hll
      have LR := LD.out _ hrl
      have LL2 := hid (show (ints .u8 SL).toArray.size = 32 by rw [ints_size, hll])
      have LR2 := hid (show (ints .u8 SR).toArray.size = 32 by rw [ints_size, hrl])
      have LP2 := hid (show (ints .u8 (PT h)).toArray.size = 32 by rw [ints_size, hpl])
      have LP3 := hid (show (ints .u8 (PT (h + 1))).toArray.size = 32 by rw [ints_size, hpl2])
      go_wp2_with (first
        | refine wpList_load_row rfl 28 _ rfl _ rfl 28 _ _ _ rr Tryz.underlying28 rfl LP ?_
        | (refine KS.out.mono ?_; rintro e w3 ⟨rfl, hb3⟩; refine Hid.out ?_))
      refine hid ?_
      clear KS LP
      have q0 := hold (o := .cells (ints .u8 zB).toArray 28) (hnew w3 (.cells (ints .u8 zB).toArray 28))
      have q1 := hnew (w3.alloc (.cells (ints .u8 zB).toArray 28)) (.cells (ints .u8 zB).toArray 28)
      rw [show (w3.alloc (.cells (ints .u8 zB).toArray 28)).heap.size = w3.heap.size + 1 by simp] at q1
      have hb4 : Below w3.heap.size w3 ((w3.alloc (.cells (ints .u8 zB).toArray 28)).alloc (.cells (ints .u8 zB).toArray 28)) := ((Below.refl _ _).alloc (Nat.le_refl _) _).alloc (by simp) _
      have q2 := setRow_heap _ _ _ (ints .u8 SL).toArray _ _ q0
      have q3 := (setRow_other _ w3.heap.size (w3.heap.size + 1) (ints .u8 SL).toArray (by omega)).trans q1
      have hb5 := below_setRow hb4 (Nat.le_refl _) (ints .u8 SL).toArray
      have q4 := (setRow_other _ (w3.heap.size + 1) w3.heap.size (ints .u8 SR).toArray (by omega)).trans q2
      have q5 := setRow_heap _ _ _ (ints .u8 SR).toArray _ _ q3
      have hb6 := below_setRow hb5 (show w3.heap.size ≤ w3.heap.size + 1 by omega) (ints .u8 SR).toArray
      go_wp2_with (first
        | refine wpList_allocV AD.out rfl rfl ?_
        | (refine wpList_store_row rfl 28 _ _ rfl w3.heap.size (ints .u8 SL).toArray rfl rfl 28 _ q0 LL (by rw [LL2.out, LZ.out]) (all_oneCell_toArray (ints_one _ _)) ?_; refine Hid.out ?_))
      refine hid ?_
      refine wpList_store_row rfl 28 _ _ rfl (w3.heap.size + 1) (ints .u8 SR).toArray rfl rfl 28 _ q3 LR (by rw [LR2.out, LZ.out]) (all_oneCell_toArray (ints_one _ _)) ?_
      have hb7 : Below wr.heap.size wr _ := hb3.trans (hb6.mono hb3.size)
      have hz3 := hb3.size
      clear hb4 hb5 hb6 q0 q1 q2 q3 hb3
      generalize ((((w3.alloc (.cells (ints .u8 zB).toArray 28)).alloc (.cells (ints .u8 zB).toArray 28)).setRow w3.heap.size (ints .u8 SL).toArray).setRow (w3.heap.size + 1) (ints .u8 SR).toArray) = w7 at *
      generalize w3.heap.size = E at *
      have rr7 := hbel hb7 rr (hlt rr)
      have hB7 := hBr.trans (hb7.mono hBr.size)
      have hEb : w.heap.size < E := Nat.lt_of_lt_of_le (hlt rr) hz3
      have LL3 := hid (show (Tryz.prog.info? 28).map (·.size) = some (ints .u8 SL).length by rw [Tryz.sizeD, ints_len, hll])
      have LR3 := hid (show (Tryz.prog.info? 28).map (·.size) = some (ints .u8 SR).length by rw [Tryz.sizeD, ints_len, hrl])
      have KB := hid (fun w1 (g1 : Glob w1) => branch_to w1 g1 n SL SR (PT (h + 1)) hll hrl HPS.out)
      have HCr := hid (fun w1 (a : I (h + 1) F w1) (b : Below w0.heap.size w0 w1) => HC.out (h + 1) F w1 (by omega) a b)
      rw [show (((h + 1 : Nat)) : Int) = (h : Int) + 1 by omega] at HCr
      generalize hP2 : PT (h + 1) = D2 at *
      have HP2 := hid hP2
      clear hP2 HPS LL LR
      go_wp2_with fail
      refine wp_region_noPanic ?_
      refine wp_region_held_drew (S := (fun w' => Below w0.heap.size w0 w' ∧ w'.heap[E]? = some (.cells (ints .u8 SL).toArray 28 (0, 0)) ∧ w'.heap[E + 1]? = some (.cells (ints .u8 SR).toArray 28 (0, 0)))) (by kernel_rfl) ⟨hB7.drew, q4, q5⟩ (fun hHeld => ?_)
      refine wpAnyH_take (i := 0) (oi := { dst := some 27, op := Op.move (Operand.tmp 0), type := 60, pos := "path.go:19", after := #[], guard := none }) (v := .pointer (some ⟨cb, 0, none⟩)) rfl (by kernel_rfl) (by kernel_rfl) (by kernel_rfl) (fun _ _ _ h => h) (Or.inl ⟨by rfl, by intro w hS; go_simp⟩) hHeld ?_
      try simp only [Act.put, List.setIfInBounds_toArray, List.set_cons_zero, List.set_cons_succ]
      refine wpAnyH_take (i := 5) (oi := { dst := some 32, op := Op.load 28 (Operand.tmp 7), type := 28, pos := "path.go:19", after := #[], guard := none }) (v := .agg (ints .u8 SL).toArray) rfl (by kernel_rfl) (by kernel_rfl) (by kernel_rfl) (fun _ _ _ h => h) (yieldsIf_load_mid (by rfl) 28 _ rfl E (0) rfl (ints .u8 SL) _ (fun w hS => rng hS.2.1) Tryz.underlying28 rfl LL3.out) hHeld ?_
      try simp only [Act.put, List.setIfInBounds_toArray, List.set_cons_zero, List.set_cons_succ]
      refine wpAnyH_take (i := 6) (oi := { dst := some 33, op := Op.load 28 (Operand.tmp 8), type := 28, pos := "path.go:19", after := #[], guard := none }) (v := .agg (ints .u8 SR).toArray) rfl (by kernel_rfl) (by kernel_rfl) (by kernel_rfl) (fun _ _ _ h => h) (yieldsIf_load_mid (by rfl) 28 _ rfl (E + 1) (0) rfl (ints .u8 SR) _ (fun w hS => rng hS.2.2) Tryz.underlying28 rfl LR3.out) hHeld ?_
      try simp only [Act.put, List.setIfInBounds_toArray, List.set_cons_zero, List.set_cons_succ]
      refine wpAnyH_take (i := 1) (oi := { dst := some 28, op := Op.nilCheck (Operand.tmp 27), type := 0, pos := "path.go:19", after := #[{ on := 0, ground := Ground.data }], guard := none }) (v := .pointer (some ⟨cb, 0, none⟩)) rfl (by kernel_rfl) (by kernel_rfl) (by kernel_rfl) (fun _ _ _ h => h) (Or.inl ⟨by rfl, by intro w hS; go_simp⟩) hHeld ?_
      try simp only [Act.put, List.setIfInBounds_toArray, List.set_cons_zero, List.set_cons_succ]
      refine wpAnyH_take (i := 2) (oi := { dst := some 29, op := Op.fieldAddr 64 (Operand.tmp 28) 0, type := 0, pos := "path.go:19", after := #[{ on := 1, ground := Ground.data }], guard := none }) (v := .pointer (some ⟨cb, 0, none⟩)) rfl (by kernel_rfl) (by kernel_rfl) (by kernel_rfl) (fun _ _ _ h => h) (Or.inl ⟨by rfl, by intro w hS; go_simp⟩) hHeld ?_
      try simp only [Act.put, List.setIfInBounds_toArray, List.set_cons_zero, List.set_cons_succ]
      refine wpAnyH_take (i := 3) (oi := { dst := some 30, op := Op.fieldAddr 57 (Operand.tmp 29) 0, type := 0, pos := "path.go:19", after := #[{ on := 2, ground := Ground.data }], guard := none }) (v := .pointer (some ⟨cb, 0, none⟩)) rfl (by kernel_rfl) (by kernel_rfl) (by kernel_rfl) (fun _ _ _ h => h) (Or.inl ⟨by rfl, by intro w hS; go_simp⟩) hHeld ?_
      try simp only [Act.put, List.setIfInBounds_toArray, List.set_cons_zero, List.set_cons_succ]
      refine wpAnyH_take (i := 4) (oi := { dst := some 31, op := Op.load 3 (Operand.tmp 30), type := 3, pos := "path.go:19", after := #[{ on := 3, ground := Ground.data }], guard := none }) (v := .int .i64 n) rfl (by kernel_rfl) (by kernel_rfl) (by kernel_rfl) (fun _ _ _ h => h) (Or.inl ⟨by rfl, by intro w hS; have hc := (hV.below hS.1).c0; go_simp⟩) hHeld ?_
      try simp only [Act.put, List.setIfInBounds_toArray, List.set_cons_zero, List.set_cons_succ]
      refine wpAnyH_ready (rs := [7]) (by kernel_rfl) (by simp) ?_
      refine (AllReadyH.cons (o := { dst := some 34, op := Op.call { callee := Callee.value (Operand.func 68), args := #[Operand.tmp 31, Operand.tmp 32, Operand.tmp 33], argTypes := #[3, 28, 28] }, type := 28, pos := "path.go:19", after := #[{ on := 4, ground := Ground.data }, { on := 5, ground := Ground.data }, { on := 6, ground := Ground.data }], guard := none }) rfl (fun K hK => ?_) AllReadyH.nil)
      go_simp
      go_at_call 68
      refine (KB.out _ (hG.below hHeld.1 hG.1)).mono ?_
      rintro e w4 ⟨rfl, hb8⟩
      have rr8 := hbel hb8 (show w7.drew.heap[w.heap.size]? = _ from rr7) (hlt rr7)
      go_wp2_with fail
      refine hK.out _ _ (⟨hHeld.1.trans (hb8.mono hHeld.1.size), hbel hb8 hHeld.2.1 (hlt hHeld.2.1), hbel hb8 hHeld.2.2 (hlt hHeld.2.2)⟩) (fun hHeld2 => ?_)
      clear hK K hHeld
      have hHeld := hHeld2
      clear hHeld2
      try simp only [Act.put, List.setIfInBounds_toArray, List.set_cons_zero, List.set_cons_succ]
      refine wpAnyH_ready (rs := [8]) (by kernel_rfl) (by simp) ?_
      refine (AllReadyH.cons (o := { dst := none, op := Op.store 28 (Operand.tmp 4) (Operand.tmp 34), type := 0, pos := "path.go:19", after := #[{ on := 7, ground := Ground.data }, { on := 7, ground := Ground.chain }, { on := 0, ground := Ground.phase }, { on := 1, ground := Ground.phase }, { on := 2, ground := Ground.phase }, { on := 3, ground := Ground.phase }, { on := 4, ground := Ground.phase }, { on := 5, ground := Ground.phase }, { on := 6, ground := Ground.phase }, { on := 7, ground := Ground.phase }], guard := none }) rfl (fun K hK => ?_) AllReadyH.nil)
      rw [if_pos (by rfl)]
      refine wp_store_row 28 _ _ rfl w.heap.size (ints .u8 D2).toArray rfl rfl 28 _ rr8 (by rw [Tryz.sizeD, LP3.out]) (by rw [LP3.out, LP2.out]) (all_oneCell_toArray (ints_one _ _)) ?_
      have hK9 : Keeps w.heap.size wr _ := ((Keeps.of_below hb7.drew).trans (Keeps.of_below hb8)).setRow (ints .u8 D2).toArray
      have rr9 := setRow_heap _ _ _ (ints .u8 D2).toArray _ _ rr8
      refine hK.out _ _ (⟨below_setRow hHeld.1 hw0 _, (setRow_other _ _ _ _ (by omega)).trans hHeld.2.1, (setRow_other _ _ _ _ (by omega)).trans hHeld.2.2⟩) (fun hHeld2 => ?_)
      clear hK K hHeld
      have hHeld := hHeld2
      clear hHeld2
      try simp only [Act.put, List.setIfInBounds_toArray, List.set_cons_zero, List.set_cons_succ]
      refine wpAnyH_done (by kernel_rfl) ?_ _
      refine NoPanic.normal ?_
      have hB9 := hHeld.1
      have hI9 := HST.out _ _ _ _ hIr (fun k hk => hK9.block k ((HI.out _ _ _ hIr k hk).2) (fun e => hNr (e ▸ hk))) hK9.size
      have hF9 : FrC F0 w _ := (((hFr.call hb7).drew).call hb8).setRow w.heap.size (Nat.le_refl _) (ints .u8 D2).toArray
      have K9 := hid (HCr.out _ hI9 hB9)
      clear hHeld
      go_wp2_with (first | refine wpList_load_row rfl 28 _ rfl _ rfl 28 _ _ _ rr9 Tryz.underlying28 rfl (LD.out _ hpl2) ?_ | (refine K9.out.mono ?_; rintro e wX ⟨rfl, FX, hIX, hFX, hGX⟩; refine Hid.out ?_))
      refine hid ?_
      have hFs := HI.out _ _ _ hI9
      have rrX := (hFX.blk w.heap.size (hlt rr9) hNr).trans rr9
      have hBX : Below w0.heap.size w0 wX := FrC.below hB9 hFX (fun x hx => (hFs x hx).1) hB9.size
      have hszX := hF9.bel.size
      have hltX := hlt rr9
      have hFrX := hF9.trans hFX hGr
      have hNX : w.heap.size ∉ FX := fun q => (hGX _ q).elim hNr (fun q => by omega)
      have hGX2 : ∀ k ∈ FX, k ∈ F0 ∨ w.heap.size ≤ k := fun k q => (hGX k q).elim (fun q => hGr k q) (fun q => Or.inr (by omega))
      clear K9 hFX hGX rr9 hI9 hB9 hK9 hF9 hFs
      go_wp2_with fail
      go_roundw
      case rel => exact ⟨h + 1, by omega, by go_num, FX, hIX, (by rw [HP2.out]; exact rrX), hNX, hBX, hFrX, hGX2⟩
      case measure => simp [intOf]; omega
    · obtain rfl : h = 256 := by omega
      go_wp2_with fail
      go_end0
      exact ⟨rfl, F, hIr, hFr, hGr⟩
end Go.Proofs.YtbjahdbmkcamoaaGreatDoor
