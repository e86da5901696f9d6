import Derived.Test.YtjpcegjgandnjaaGreatDoorQ07
namespace Go.Proofs.YtjpcegjgandnjaaGreatDoor
set_option linter.unusedVariables false
set_option linter.unusedSimpArgs false
open Go.RowKit
attribute [local go_sem ↓] Go.wp_at_zero Go.wp_at_succ

theorem ownsRow_form {w : World} {base t k n : Nat} {v : Value} {cs : List Value} (h : w.ownsRow base t k v n cs) : ∃ sp cap, v = .slice sp n cap := by
  rcases h.2 with ⟨rfl, rfl⟩ | ⟨g, cap, cur, rfl, _⟩
  · exact ⟨none, 0, rfl⟩
  · exact ⟨_, _, rfl⟩
/-- m[k] = v, as a step of a region that draws its order. -/
theorem step_mapUp {w : World} {ops : Array Oper} {o : Oper} {a : Act} {K : Act → World → Prop} {Q : Exit → Act → World → Prop} {E : Prop} (hgd : o.guard = none) (m x v : Operand) (hop : o.op = Op.mapUpdate 47 m x v)
    (b n : Nat) (M : DataW Unit) (hm : a.eval m = .map (some b)) (hown : w.ownsMap Tryz.prog 3 (plainElem Tryz.prog 3) b n M) (hn : n < maxLen) (q : Nat) (hx : a.eval x = .int .i64 q) (hq : q < 4096) (l : Nat) (hv : a.eval v = .int .i64 l) (hl : l ≤ 400000000000)
    (h : ∀ w', w'.ownsMap Tryz.prog 3 (plainElem Tryz.prog 3) b (n + 1) (M.put (.int .i64 (q : Nat)) (.lit (.int .i64 (l : Nat)))) → w.grownBy w' (some b) → K (a.put o.dst undef) w') :
    if Region.wanted o (yielded ops a.tmps) = true then Oper.wp Tryz.prog o a w K Q else E := by
  have hw : Region.wanted o (yielded ops a.tmps) = true := by simp [Region.wanted, hgd]
  rw [if_pos hw]
  obtain ⟨w', hrun, r1, r2⟩ := hown.update keyed3 Tryz.underlying47 hn (Maps.keyOf_int_mk Tryz.underlying3 (wfk q hq)) (plainElem_int Tryz.underlying3 (WalkArith.wf_i64 (n := (l : Int)) (by omega)))
  unfold Oper.wp
  simp [execOp, hop, hm, hx, hv, hrun, Result.andThen]
  exact h w' r1 r2
def DP.pushed (P : DP) (D : DS) (o : OW) (v : Value) : DP := { P with ov := v, M := P.M.put (.int .i64 (o.page : Nat)) (.lit (.int .i64 (D.ops.length : Nat))) }
def DS.pushed (D : DS) (o : OW) : DS := { D with ops := D.ops ++ [o] }
theorem DK.push {w2 w3 w4 : World} {base : Nat} {P : DP} {D : DS} (h : DK w2 base P D) (o : OW) (hp : o.page < 4096)
    (hm3 : w3.ownsMap Tryz.prog 3 (plainElem Tryz.prog 3) P.m (D.ops.length + 1) (P.M.put (.int .i64 (o.page : Nat)) (.lit (.int .i64 (D.ops.length : Nat))))) (hg3 : w2.grownBy w3 (some P.m)) (c : Obj) {v : Value}
    (hO4 : w4.ownsRow base 211 257 v (D.ops.length + 1) (D.ops.flatMap encW ++ encW o)) (hg4 : (w3.alloc c).grownBy w4 P.ov.ownBlock) (hd4 : v.ownBlock = P.ov.ownBlock ∨ v.ownBlock = some (w3.heap.size + 1)) :
    w4.cell? ⟨P.p, 5, none⟩ = some P.ov ∧ w4.frozen? ⟨P.p, 5, none⟩ = false ∧
      (w4.setCell ⟨P.p, 5, none⟩ v).cell? ⟨P.p, 5, none⟩ = some v ∧ (w4.setCell ⟨P.p, 5, none⟩ v).cell? ⟨P.p, 3, none⟩ = some (.int .i64 D.ops.length) ∧ (w4.setCell ⟨P.p, 5, none⟩ v).cell? ⟨P.p, 1, none⟩ = some (.int .i64 D.writes) ∧ (∀ k, (w4.setCell ⟨P.p, 5, none⟩ v).frozen? ⟨P.p, k, none⟩ = false) ∧
      DK ((w4.setCell ⟨P.p, 5, none⟩ v).setCell ⟨P.p, 3, none⟩ (.int .i64 (D.ops.length + 1 : Nat))) base (P.pushed D o v) (D.pushed o) ∧ Fr P.fp w2 ((w4.setCell ⟨P.p, 5, none⟩ v).setCell ⟨P.p, 3, none⟩ (.int .i64 (D.ops.length + 1 : Nat))) ∧ Gr w2 P.fp (P.pushed D o v).fp := by
  have a1 : ∀ i, i ≠ P.m → P.ov.ownBlock ≠ some i → i < w2.heap.size → w4.heap[i]? = w2.heap[i]? := fun i e1 e2 hi => by
    have h3 := hg3.block i hi (fun e => e1 (Option.some.inj e))
    have hi3 : i < w3.heap.size := Nat.lt_of_lt_of_le hi hg3.size
    rw [hg4.block i (by simp; omega) (fun e => e2 e.symm), ← h3]
    show (w3.heap.push _)[i]? = _
    rw [Array.getElem?_push, if_neg (by omega)]
  have hs4 : w2.heap.size ≤ w4.heap.size := by have := hg3.size; have := hg4.size; simp at this; omega
  have p4 : w4.heap[P.p]? = some (.cells (dcells P D) 49 (0, 0)) := (a1 _ h.pm h.po (hlt h.cell)).trans h.cell
  have p5 : (w4.setCell ⟨P.p, 5, none⟩ v).heap[P.p]? = some (.cells ((dcells P D).setIfInBounds 5 v) 49 (0, 0)) := heap_setCell_same _ _ _ _ _ _ p4
  have p5' : (w4.setCell ⟨P.p, 5, none⟩ v).heap[P.p]? = some (.cells ((dcells P D).setIfInBounds 5 v) 49 (0, 0)) := p5
  have far : ∀ i, i ≠ P.p → ((w4.setCell ⟨P.p, 5, none⟩ v).setCell ⟨P.p, 3, none⟩ (.int .i64 (D.ops.length + 1 : Nat))).heap[i]? = w4.heap[i]? := fun i e => by
    rw [heap_setCell_other _ _ i _ e]; exact heap_setCell_other w4 _ i _ e
  have vp : v.ownBlock ≠ some P.p := fun e => by
    obtain ⟨_, cur, hh⟩ := ownsRow_block hO4 _ e; exact ne_ty hh p4 (by decide) rfl
  refine ⟨by rw [cell_of_row _ _ _ _ _ _ p4]; rfl, frozen_of_row _ _ _ _ _ p4, by rw [cell_of_row _ _ _ _ _ _ p5']; rfl, by rw [cell_of_row _ _ _ _ _ _ p5']; rfl, by rw [cell_of_row _ _ _ _ _ _ p5']; rfl, fun k => frozen_of_row _ _ _ _ _ p5', ⟨?_, ?_, h.gl, h.gm, ?_, ?_, ?_, h.bp, h.bg, h.bm⟩, ⟨?_, ?_, ?_, ?_, ?_⟩, ?_⟩
  · refine (heap_setCell_same _ _ _ _ _ _ p5').trans ?_
    simp [dcells, DP.pushed, DS.pushed]
  · refine (far _ h.pg.symm).trans ((a1 _ h.gm' h.go (hlt h.im)).trans h.im)
  · have e1 : (D.pushed o).ops.length = D.ops.length + 1 := by simp [DS.pushed]
    have e2 : (D.pushed o).ops.flatMap encW = D.ops.flatMap encW ++ encW o := by simp [DS.pushed]
    rw [e1, e2]
    exact ownsRow_heap hO4 fun i e => far i (fun q => vp (q ▸ e))
  · have e1 : (D.pushed o).ops.length = D.ops.length + 1 := by simp [DS.pushed]
    rw [e1]
    refine ownsMap_heap hm3 ?_
    show _ = w3.heap[P.m]?
    refine (far _ h.pm.symm).trans ?_
    have hi3 := hm3.lt
    rw [hg4.block P.m (by simp; omega) (fun e => h.mo e.symm)]
    show (w3.heap.push _)[P.m]? = _
    rw [Array.getElem?_push, if_neg (by omega)]
  · exact h.new.snoc o hp
  · exact (hg4.os.trans hg3.os)
  · exact (hg4.tape.trans hg3.tape)
  · exact (hg4.output.trans hg3.output)
  · rw [World.size_setCell]; show w2.heap.size ≤ (w4.setCell ⟨P.p, 5, none⟩ v).heap.size; rw [World.size_setCell]; exact hs4
  · intro k hk hn
    have n1 : k ≠ P.p := fun e => hn ((P.mem k).2 (Or.inl e))
    have n2 : k ≠ P.m := fun e => hn ((P.mem k).2 (Or.inr (Or.inr (Or.inl e))))
    have n3 : P.ov.ownBlock ≠ some k := fun e => hn ((P.mem k).2 (Or.inr (Or.inr (Or.inr e))))
    exact (far k n1).trans (a1 k n2 n3 hk)
  · intro k hk
    rcases ((P.pushed D o v).mem k).1 hk with e | e | e | e
    · exact Or.inl ((P.mem k).2 (Or.inl e))
    · exact Or.inl ((P.mem k).2 (Or.inr (Or.inl e)))
    · exact Or.inl ((P.mem k).2 (Or.inr (Or.inr (Or.inl e))))
    · have e : v.ownBlock = some k := e
      rcases hd4 with q | q
      · exact Or.inl ((P.mem k).2 (Or.inr (Or.inr (Or.inr (q ▸ e)))))
      · rw [q] at e
        have := Option.some.inj e
        have := hg3.size
        exact Or.inr (by omega)
end Go.Proofs.YtjpcegjgandnjaaGreatDoor
namespace Go.Proofs.YtjpcegjgandnjaaGreatDoor
set_option linter.unusedVariables false
set_option linter.unusedSimpArgs false
open Go.RowKit
attribute [local go_sem ↓] Go.wp_at_zero Go.wp_at_succ

theorem Gr.of_le {a b : World} {F F' : List Nat} (h : Gr b F F') (hs : a.heap.size ≤ b.heap.size) : Gr a F F' := fun k hk => (h k hk).imp id (fun q => by omega)
theorem grown_far {a b : World} {r : Option Nat} (h : a.grownBy b r) {k : Nat} (hk : k < a.heap.size) (hr : r ≠ some k) : b.heap[k]? = a.heap[k]? := h.block k hk (fun e => hr e.symm)
theorem heap_push_lt (w : World) (c : Obj) {k : Nat} (hk : k < w.heap.size) : (w.alloc c).heap[k]? = w.heap[k]? := by
  show (w.heap.push _)[k]? = _
  rw [Array.getElem?_push, if_neg (by omega)]
theorem rng_of_heap {w w1 : World} {g o : Nat} {cs : List Value} (h : w.rangeAt g o cs) (hk : w1.heap[g]? = w.heap[g]?) : w1.rangeAt g o cs := fun j v hv => by
  have := h j v hv
  rw [World.cell?] at this ⊢
  rw [hk]; exact this
theorem grown_undrew {w w' : World} {r : Option Nat} (h : w.drew.grownBy w' r) : w.grownBy w' r := ⟨h.os, h.tape, h.output, h.size, h.block⟩
theorem grown_undrew2 {w w' : World} {c : Obj} {r : Option Nat} (h : (w.drew.alloc c).grownBy w' r) : (w.alloc c).grownBy w' r := ⟨h.os, h.tape, h.output, h.size, h.block⟩
theorem splice_w (q : Int) (data : List Int) (hd : data.length = 256) : splice (zW q) 1 (ints .u8 data) = .int .i64 q :: ints .u8 data := by
  unfold splice zW
  have e : 1 + (ints .u8 data).length = 257 := by rw [ints_len, hd]
  rw [e, List.drop_of_length_le (by rw [List.length_cons, ints_len, List.length_replicate]; exact Nat.le_refl _), List.append_nil]; rfl
set_option maxRecDepth 100000 in
set_option maxHeartbeats 1000000 in
theorem Write_in (w : World) (base : Nat) (P : DP) (D : DS) (h : DK w base P D) (hok : DsOk D) (n : Nat) (hn : D.img.length = 256 * n) (h4 : n ≤ 4096) (hbw : base ≤ w.heap.size) (hpw : D.power = true) (q : Nat) (hq : q < n) (data : List Int) (hd : data.length = 256) (sp : Option Addr) (cap : Nat) (hS : Src w sp cap data)
    (hops : D.ops.length < 400000000000) (hwr : D.writes < 4000000000000000000) :
    Calls Tryz.prog 109 #[.pointer (some ⟨P.p, 0, none⟩), .int .i64 q, .slice sp 256 cap] w fun e w' => e = .returned (.int .i64 D.actE) ∧ ∃ P' : DP, P'.p = P.p ∧ DK w' base P' ({ D.pushed ⟨q, data⟩ with writes := D.writes + 1 } : DS).acted ∧ Fr P.fp w w' ∧ Gr w P.fp P'.fp := by
  obtain ⟨o, ho⟩ : ∃ o : OW, o = ⟨q, data⟩ := ⟨_, rfl⟩
  rw [← ho]
  have hoe : encW o = .int .i64 q :: ints .u8 data := by rw [ho]; rfl
  have HOP := hid (show o.page = q by rw [ho])
  clear ho
  have HOE := hid hoe
  have hol : (encW o).length = 257 := by rw [hoe, List.length_cons, ints_len, hd]
  have hio : (Tryz.prog.info? 211).map (·.size) = some (encW o).length := by rw [sizeW, hol]
  have HP := hid (has_in w base P D h n hn h4 q)
  have he : decide (0 ≤ (q : Int) ∧ (q : Int) < n) = true := decide_eq_true ⟨by omega, by omega⟩
  have HE := hid he
  have HAR := hid hok.armed
  have hq4 : q < 4096 := by omega
  have c7 := h.c7
  rw [hpw] at c7
  obtain ⟨Zq, hZq⟩ : ∃ Z, Z = zW q := ⟨_, rfl⟩
  obtain ⟨Z0, hZ0⟩ : ∃ Z, Z = zW 0 := ⟨_, rfl⟩
  have HZq := hid hZq
  have HZ0 := hid hZ0
  have g1 := hid (hnew w (.cells Z0.toArray 211))
  have g2 := hid (hnew w (.cells Zq.toArray 211))
  have K1 := hid (show (Tryz.prog.info? 211).map (·.size) = some Zq.toArray.size by rw [sizeW, hZq, List.size_toArray, zW_len])
  have K2 := hid (show Z0.toArray.size = Zq.toArray.size by rw [hZ0, hZq, List.size_toArray, List.size_toArray, zW_len, zW_len])
  have oo := hid (all_oneCell_toArray (show ∀ v ∈ Zq, v.oneCell' = true by rw [hZq]; exact zW_one q))
  have hB1 : Below w.heap.size w (w.alloc (.cells Zq.toArray 211)) := (Below.refl _ w).alloc (Nat.le_refl _) _
  have HB1 := hid hB1
  have hS1 := hS.below hB1 (Nat.le_refl _)
  have KC := hid (show (ints .u8 data).length = Nat.min 256 256 by rw [ints_len, hd]; decide)
  have KP := hid (show ∃ ad, sp = some ad ∧ ∀ j v, (ints .u8 data)[j]? = some v → (w.alloc (.cells Zq.toArray 211)).cell? (ad.add j) = some v by
    obtain ⟨_, _, b, o', _, hsp, _⟩ := id hS1
    have hs := hsp (by rw [hd]; decide)
    subst hs
    exact ⟨_, rfl, src_news hS1⟩)
  have KF := hid (show 1 + (ints .u8 data).length ≤ Zq.length by rw [ints_len, hd, hZq, zW_len]; decide)
  have KO := hid (ints_one .u8 data)
  have KS := hid (show splice Zq 1 (ints .u8 data) = encW o by rw [hZq, splice_w q data hd, hoe])
  have HSZ := hid hd
  clear hoe he hn hS hS1 hB1 hZq hZ0 hd
  have HL2 := hid (show D.ops.length ≤ 400000000000 by omega)
  have HL1 := hid (show D.ops.length + 1 ≤ 400000000001 by omega)
  have wb := hok.writes
  have iw : D.writes + 1 ≤ 9223372036854775807 := by omega
  have iw0 : 0 ≤ D.writes := wb.1
  clear wb hok hwr
  have H := hid h
  clear h
  obtain ⟨p, g, m, gc, ov, rs, M⟩ := P
  simp only at *
  have hpp : p < w.heap.size := hlt H.out.cell
  go_enter Tryz.func109, Tryz.ntmps109
  go_wp2_with (first
    | (go_at_call 139; refine HP.out.mono ?_; rintro e w0 ⟨rfl, rfl⟩; rw [HE.out])
    | refine wpList_buildW rfl (.tmp 20) rfl q rfl Zq HZq.out ?_
    | refine wpList_allocW rfl rfl Z0 HZ0.out ?_
    | (refine wpList_store_row rfl 211 _ _ rfl w.heap.size _ rfl rfl 211 _ g1.out K1.out K2.out oo.out ?_; rw [setRow_alloc])
    | (refine wpList_copy_splice rfl (.tmp 23) (.tmp 24) 45 45 rfl 5 Tryz.underlying45 Tryz.size5 (some ⟨w.heap.size, 1, none⟩) sp 256 256 256 cap rfl rfl w.heap.size 1 Zq 211 g2.out (ints .u8 data) KC.out (fun _ => ⟨rfl, KP.out⟩) KF.out KO.out w.heap.size w HB1.out (Nat.le_refl _) ?_; intro w2 hr2 hB2; rw [KS.out] at hr2))
  clear HP HE g1 g2 K1 K2 oo HB1 KC KP KF KO KS c7 HZq HZ0
  have hDK2 := H.out.below hB2
  have hpN : p ≠ w.heap.size := by omega
  have hmN : m ≠ w.heap.size := by have := (H.out.lt m ((DP.mem _ _).2 (Or.inr (Or.inr (Or.inl rfl))))).2; omega
  have hoN : ov.ownBlock ≠ some w.heap.size := fun e => by have := (H.out.lt _ ((DP.mem _ _).2 (Or.inr (Or.inr (Or.inr e))))).2; omega
  have HS2 := hid hB2.size
  have hN2 : w.heap.size < w2.heap.size := hlt hr2.out
  have hp2 : p < w2.heap.size := by omega
  have hb2 : base ≤ w2.heap.size := by omega
  obtain ⟨spo, capo, hov⟩ := ownsRow_form hDK2.opn
  simp only at hov
  subst hov
  have c6 := hDK2.c6
  have c5 := hDK2.c5
  have hm2 := hDK2.mp
  simp only at c6 c5 hm2
  have hpm : p ≠ m := hDK2.pm
  have hpo : (Value.slice spo D.ops.length capo).ownBlock ≠ some p := hDK2.po
  have h3 := hid (fun (w3 : World) (hg3 : w2.grownBy w3 (some m)) => (show w3.heap[p]? = w2.heap[p]? ∧ w3.heap[w.heap.size]? = w2.heap[w.heap.size]? ∧ w2.heap.size ≤ w3.heap.size ∧ ∀ i, (Value.slice spo D.ops.length capo).ownBlock = some i → w3.heap[i]? = w2.heap[i]? from
    ⟨grown_far hg3 hp2 (fun e => hpm (Option.some.inj e).symm), grown_far hg3 hN2 (fun e => hmN (Option.some.inj e)), hg3.size, fun i hi => grown_far hg3 (hDK2.lt i ((DP.mem _ _).2 (Or.inr (Or.inr (Or.inr hi))))).2 (fun e => hDK2.mo (by rw [hi]; exact e.symm))⟩))
  have hS9 := hid (fun (w3 : World) (hg3 : w2.grownBy w3 (some m)) => (show w3.cell? ⟨p, 6, none⟩ = some (.map (some m)) ∧ w3.cell? ⟨p, 5, none⟩ = some (.slice spo D.ops.length capo) from
    ⟨by rw [World.cell?, (h3.out w3 hg3).1]; exact c6, by rw [World.cell?, (h3.out w3 hg3).1]; exact c5⟩))
  have HO2 := hid hDK2.opn
  have PF := hid (fun (w3 w4 : World) (c : Obj) (v : Value) (a1 : w3.ownsMap Tryz.prog 3 (plainElem Tryz.prog 3) m (D.ops.length + 1) (M.put (.int .i64 (q : Nat)) (.lit (.int .i64 (D.ops.length : Nat))))) (a2 : w2.grownBy w3 (some m)) (a3 : w4.ownsRow base 211 257 v (D.ops.length + 1) (D.ops.flatMap encW ++ encW o)) (a4 : (w3.alloc c).grownBy w4 (Value.slice spo D.ops.length capo).ownBlock) (a5 : v.ownBlock = (Value.slice spo D.ops.length capo).ownBlock ∨ v.ownBlock = some (w3.heap.size + 1)) =>
    hDK2.push o (by rw [HOP.out]; exact hq4) (by rw [HOP.out]; exact a1) a2 c a3 a4 a5)
  have FIN := hid (fun (w9 : World) (hf : Fr (DP.mk p g m gc (Value.slice spo D.ops.length capo) rs M).fp w2 w9) => (Fr.of_below (F := (DP.mk p g m gc (Value.slice spo D.ops.length capo) rs M).fp) hB2).trans hf (Gr.refl _ _))
  have hoNN := hid hoN
  have hpNN := hid hpN
  clear hDK2 hoN hpN H hpo
  have hN := hid hr2.out
  clear hr2 hB2
  generalize hNN : w.heap.size = N at *
  have HNN := hid hNN
  clear hNN
  refine wp_region_noPanic ?_
  refine wp_region_held_drew (S := fun w' => w'.cell? ⟨p, 6, none⟩ = some (.map (some m)) ∧ w'.cell? ⟨p, 5, none⟩ = some (.slice spo D.ops.length capo)) (by kernel_rfl) ⟨c6, c5⟩ (fun hHeld => ?_)
  refine wpAnyH_take (i := 0) (oi := { dst := some 26, op := Op.move (Operand.tmp 0), type := 29, pos := "write.go:37", after := #[], guard := none }) (v := .pointer (some ⟨p, 0, none⟩)) rfl (by kernel_rfl) (by kernel_rfl) (by kernel_rfl) (fun _ _ _ h => h) (Or.inl ⟨by rfl, by intro w hS; go_simp⟩) hHeld ?_
  try simp only [Act.put, List.setIfInBounds_toArray, List.set_cons_zero, List.set_cons_succ]
  refine wpAnyH_take (i := 4) (oi := { dst := some 30, op := Op.move (Operand.tmp 1), type := 3, pos := "write.go:37", after := #[], guard := none }) (v := .int .i64 q) rfl (by kernel_rfl) (by kernel_rfl) (by kernel_rfl) (fun _ _ _ h => h) (Or.inl ⟨by rfl, by intro w hS; go_simp⟩) hHeld ?_
  try simp only [Act.put, List.setIfInBounds_toArray, List.set_cons_zero, List.set_cons_succ]
  refine wpAnyH_take (i := 5) (oi := { dst := some 31, op := Op.move (Operand.tmp 0), type := 29, pos := "write.go:37", after := #[], guard := none }) (v := .pointer (some ⟨p, 0, none⟩)) rfl (by kernel_rfl) (by kernel_rfl) (by kernel_rfl) (fun _ _ _ h => h) (Or.inl ⟨by rfl, by intro w hS; go_simp⟩) hHeld ?_
  try simp only [Act.put, List.setIfInBounds_toArray, List.set_cons_zero, List.set_cons_succ]
  refine wpAnyH_take (i := 1) (oi := { dst := some 27, op := Op.nilCheck (Operand.tmp 26), type := 0, pos := "write.go:37", after := #[{ on := 0, ground := Ground.data }], guard := none }) (v := .pointer (some ⟨p, 0, none⟩)) rfl (by kernel_rfl) (by kernel_rfl) (by kernel_rfl) (fun _ _ _ h => h) (Or.inl ⟨by rfl, by intro w hS; go_simp⟩) hHeld ?_
  try simp only [Act.put, List.setIfInBounds_toArray, List.set_cons_zero, List.set_cons_succ]
  refine wpAnyH_take (i := 6) (oi := { dst := some 32, op := Op.nilCheck (Operand.tmp 31), type := 0, pos := "write.go:37", after := #[{ on := 5, ground := Ground.data }], guard := none }) (v := .pointer (some ⟨p, 0, none⟩)) rfl (by kernel_rfl) (by kernel_rfl) (by kernel_rfl) (fun _ _ _ h => h) (Or.inl ⟨by rfl, by intro w hS; go_simp⟩) hHeld ?_
  try simp only [Act.put, List.setIfInBounds_toArray, List.set_cons_zero, List.set_cons_succ]
  refine wpAnyH_take (i := 2) (oi := { dst := some 28, op := Op.fieldAddr 49 (Operand.tmp 27) 3, type := 0, pos := "write.go:37", after := #[{ on := 1, ground := Ground.data }], guard := none }) (v := .pointer (some ⟨p, 6, none⟩)) rfl (by kernel_rfl) (by kernel_rfl) (by kernel_rfl) (fun _ _ _ h => h) (Or.inl ⟨by rfl, by intro w hS; go_simp⟩) hHeld ?_
  try simp only [Act.put, List.setIfInBounds_toArray, List.set_cons_zero, List.set_cons_succ]
  refine wpAnyH_take (i := 7) (oi := { dst := some 33, op := Op.fieldAddr 49 (Operand.tmp 32) 2, type := 0, pos := "write.go:37", after := #[{ on := 6, ground := Ground.data }], guard := none }) (v := .pointer (some ⟨p, 5, none⟩)) rfl (by kernel_rfl) (by kernel_rfl) (by kernel_rfl) (fun _ _ _ h => h) (Or.inl ⟨by rfl, by intro w hS; go_simp⟩) hHeld ?_
  try simp only [Act.put, List.setIfInBounds_toArray, List.set_cons_zero, List.set_cons_succ]
  refine wpAnyH_take (i := 3) (oi := { dst := some 29, op := Op.load 47 (Operand.tmp 28), type := 47, pos := "write.go:37", after := #[{ on := 2, ground := Ground.data }], guard := none }) (v := .map (some m)) rfl (by kernel_rfl) (by kernel_rfl) (by kernel_rfl) (fun _ _ _ h => h) (Or.inl ⟨by rfl, by intro w hS; have hc := hS.1; go_simp⟩) hHeld ?_
  try simp only [Act.put, List.setIfInBounds_toArray, List.set_cons_zero, List.set_cons_succ]
  refine wpAnyH_take (i := 8) (oi := { dst := some 34, op := Op.load 46 (Operand.tmp 33), type := 46, pos := "write.go:37", after := #[{ on := 7, ground := Ground.data }], guard := none }) (v := .slice spo D.ops.length capo) rfl (by kernel_rfl) (by kernel_rfl) (by kernel_rfl) (fun _ _ _ h => h) (Or.inl ⟨by rfl, by intro w hS; have hc := hS.2; go_simp⟩) hHeld ?_
  try simp only [Act.put, List.setIfInBounds_toArray, List.set_cons_zero, List.set_cons_succ]
  refine wpAnyH_take (i := 9) (oi := { dst := some 35, op := Op.call { callee := Callee.builtin Builtin.len, args := #[Operand.tmp 34], argTypes := #[46] }, type := 3, pos := "write.go:37", after := #[{ on := 8, ground := Ground.data }], guard := none }) (v := .int .i64 D.ops.length) rfl (by kernel_rfl) (by kernel_rfl) (by kernel_rfl) (fun _ _ _ h => h) (Or.inl ⟨by rfl, by intro w hS; go_simp⟩) hHeld ?_
  try simp only [Act.put, List.setIfInBounds_toArray, List.set_cons_zero, List.set_cons_succ]
  refine wpAnyH_ready (rs := [10]) (by kernel_rfl) (by simp) ?_
  refine (AllReadyH.cons (o := { dst := none, op := Op.mapUpdate 47 (Operand.tmp 29) (Operand.tmp 30) (Operand.tmp 35), type := 0, pos := "write.go:37", after := #[{ on := 3, ground := Ground.data }, { on := 4, ground := Ground.data }, { on := 9, ground := Ground.data }, { on := 0, ground := Ground.phase }, { on := 1, ground := Ground.phase }, { on := 2, ground := Ground.phase }, { on := 3, ground := Ground.phase }, { on := 4, ground := Ground.phase }, { on := 5, ground := Ground.phase }, { on := 6, ground := Ground.phase }, { on := 7, ground := Ground.phase }, { on := 8, ground := Ground.phase }, { on := 9, ground := Ground.phase }], guard := none }) rfl (fun K hK => ?_) AllReadyH.nil)
  refine step_mapUp rfl (.tmp 29) (.tmp 30) (.tmp 35) rfl m D.ops.length M rfl hm2 (by unfold maxLen; omega) q rfl hq4 D.ops.length rfl HL2.out ?_
  intro w3 hm3 hg3
  replace hg3 := grown_undrew hg3
  refine hK.out _ _ (hS9.out w3 hg3) (fun hHeld2 => ?_)
  clear hK K hHeld
  have hHeld := hHeld2
  clear hHeld2
  try simp only [Act.put, List.setIfInBounds_toArray, List.set_cons_zero, List.set_cons_succ]
  refine wpAnyH_done (by kernel_rfl) ?_ _
  refine NoPanic.normal ?_
  clear hHeld
  obtain ⟨e1, e2, e3, e4⟩ := h3.out w3 hg3
  have hp3 : p < w3.heap.size := by omega
  have hbs : base ≤ w3.drew.heap.size := by show base ≤ w3.heap.size; omega
  have z3 : w3.cell? ⟨p, 5, none⟩ = some (.slice spo D.ops.length capo) := (hS9.out w3 hg3).2
  have hO3 : w3.drew.ownsRow base 211 257 (.slice spo D.ops.length capo) D.ops.length (D.ops.flatMap encW) := ownsRow_heap HO2.out e4
  have rN3 : w3.drew.rangeAt N 0 (encW o) := rng (show w3.heap[N]? = _ from e2.trans hN.out)
  have hN3 : N < w3.heap.size := by omega
  have RA := hid (fun (c : Obj) => (show (w3.drew.alloc c).rangeAt N 0 (encW o) ∧ True from ⟨rng_of_heap rN3 (heap_push_lt w3.drew c hN3), trivial⟩))
  have RB := hid (fun (c : Obj) (w4 : World) (a : (w3.drew.alloc c).grownBy w4 (Value.slice spo D.ops.length capo).ownBlock) => (show w4.rangeAt N 0 (encW o) ∧ True from ⟨rng_of_heap (RA.out c).1 (grown_far a (by simp; show N < w3.heap.size + 1; omega) (fun e => hoNN.out e)), trivial⟩))
  have RC := hid (fun (c : Obj) (w4 : World) (v : Value) (a : (w3.drew.alloc c).grownBy w4 (Value.slice spo D.ops.length capo).ownBlock) => (show (w4.setCell ⟨p, 5, none⟩ v).rangeAt N 0 (encW o) ∧ True from ⟨rng_of_heap (RB.out c w4 a).1 (heap_setCell_other w4 _ N v (fun e => hpNN.out e.symm)), trivial⟩))
  clear h3 hS9 c5 c6 e1 e2 e3 e4 HO2 hm2 hN
  go_wp2
  refine wp_region_noPanic ?_
  refine wp_region_held_drew (S := fun w' => w'.rangeAt N 0 (encW o) ∧ True) (by kernel_rfl) ⟨rN3, trivial⟩ (fun hHeld => ?_)
  refine wpAnyH_take (i := 0) (oi := { dst := some 36, op := Op.move (Operand.tmp 0), type := 29, pos := "write.go:38", after := #[], guard := none }) (v := .pointer (some ⟨p, 0, none⟩)) rfl (by kernel_rfl) (by kernel_rfl) (by kernel_rfl) (fun _ _ _ h => h) (Or.inl ⟨by rfl, by intro w hS; go_simp⟩) hHeld ?_
  try simp only [Act.put, List.setIfInBounds_toArray, List.set_cons_zero, List.set_cons_succ]
  refine wpAnyH_take (i := 1) (oi := { dst := some 37, op := Op.move (Operand.tmp 0), type := 29, pos := "write.go:38", after := #[], guard := none }) (v := .pointer (some ⟨p, 0, none⟩)) rfl (by kernel_rfl) (by kernel_rfl) (by kernel_rfl) (fun _ _ _ h => h) (Or.inl ⟨by rfl, by intro w hS; go_simp⟩) hHeld ?_
  try simp only [Act.put, List.setIfInBounds_toArray, List.set_cons_zero, List.set_cons_succ]
  refine wpAnyH_take (i := 5) (oi := { dst := some 41, op := Op.load 211 (Operand.tmp 7), type := 211, pos := "write.go:38", after := #[], guard := none }) (v := .agg (encW o).toArray) rfl (by kernel_rfl) (by kernel_rfl) (by kernel_rfl) (fun _ _ _ h => h) (yieldsIf_load_mid (by rfl) 211 _ rfl N (0) rfl (encW o) _ (fun w hS => hS.1) Tryz.underlying211 rfl hio) hHeld ?_
  try simp only [Act.put, List.setIfInBounds_toArray, List.set_cons_zero, List.set_cons_succ]
  refine wpAnyH_take (i := 2) (oi := { dst := some 38, op := Op.nilCheck (Operand.tmp 37), type := 0, pos := "write.go:38", after := #[{ on := 1, ground := Ground.data }], guard := none }) (v := .pointer (some ⟨p, 0, none⟩)) rfl (by kernel_rfl) (by kernel_rfl) (by kernel_rfl) (fun _ _ _ h => h) (Or.inl ⟨by rfl, by intro w hS; go_simp⟩) hHeld ?_
  try simp only [Act.put, List.setIfInBounds_toArray, List.set_cons_zero, List.set_cons_succ]
  refine wpAnyH_take (i := 3) (oi := { dst := some 39, op := Op.fieldAddr 49 (Operand.tmp 38) 2, type := 0, pos := "write.go:38", after := #[{ on := 2, ground := Ground.data }], guard := none }) (v := .pointer (some ⟨p, 5, none⟩)) rfl (by kernel_rfl) (by kernel_rfl) (by kernel_rfl) (fun _ _ _ h => h) (Or.inl ⟨by rfl, by intro w hS; go_simp⟩) hHeld ?_
  try simp only [Act.put, List.setIfInBounds_toArray, List.set_cons_zero, List.set_cons_succ]
  refine wpAnyH_ready (rs := [4, 6]) (by kernel_rfl) (by simp) ?_
  refine (AllReadyH.cons (o := { dst := some 40, op := Op.load 46 (Operand.tmp 39), type := 46, pos := "write.go:38", after := #[{ on := 3, ground := Ground.data }], guard := none }) rfl (fun K hK => ?_) (AllReadyH.cons (o := { dst := some 42, op := Op.buildSlice 46 1 #[(0, Operand.tmp 41)], type := 46, pos := "write.go:38", after := #[{ on := 5, ground := Ground.data }], guard := none }) rfl (fun K hK => ?_) AllReadyH.nil))
  · skip
    go_simp
    refine hK.out _ _ (hHeld) (fun hHeld2 => ?_)
    clear hK K hHeld
    have hHeld := hHeld2
    clear hHeld2
    try simp only [Act.put, List.setIfInBounds_toArray, List.set_cons_zero, List.set_cons_succ]
    refine wpAnyH_ready (rs := [6]) (by kernel_rfl) (by simp) ?_
    refine (AllReadyH.cons (o := { dst := some 42, op := Op.buildSlice 46 1 #[(0, Operand.tmp 41)], type := 46, pos := "write.go:38", after := #[{ on := 5, ground := Ground.data }], guard := none }) rfl (fun K hK => ?_) AllReadyH.nil)
    refine step_sliceW (by rfl) (.tmp 41) rfl (encW o) hol rfl ?_
    refine hK.out _ _ (RA.out _) (fun hHeld2 => ?_)
    clear hK K hHeld
    have hHeld := hHeld2
    clear hHeld2
    try simp only [Act.put, List.setIfInBounds_toArray, List.set_cons_zero, List.set_cons_succ]
    refine wpAnyH_ready (rs := [7]) (by kernel_rfl) (by simp) ?_
    refine (AllReadyH.cons (o := { dst := some 43, op := Op.call { callee := Callee.builtin Builtin.append, args := #[Operand.tmp 40, Operand.tmp 42], argTypes := #[46, 46] }, type := 46, pos := "write.go:38", after := #[{ on := 4, ground := Ground.data }, { on := 6, ground := Ground.data }], guard := none }) rfl (fun K hK => ?_) AllReadyH.nil)
    refine step_pushW (w := w3.drew) rfl (.tmp 40) (.tmp 42) rfl base (.slice spo D.ops.length capo) D.ops.length _ (encW o) rfl hO3 rfl hol (encW_one o) HL1.out hbs _ _ ?_
    intro v4 w4 hO4 hg4d hd4
    have hg4 := grown_undrew2 hg4d
    obtain ⟨spv, capv, rfl⟩ := ownsRow_form hO4
    obtain ⟨z5, y5, c5d, c3d, c1d, fzd, hDK5, hFr5, hGr5⟩ := PF.out w3 w4 _ _ hm3 hg3 hO4 hg4 hd4
    refine hK.out _ _ (RB.out _ w4 hg4d) (fun hHeld2 => ?_)
    clear hK K hHeld
    have hHeld := hHeld2
    clear hHeld2
    try simp only [Act.put, List.setIfInBounds_toArray, List.set_cons_zero, List.set_cons_succ]
    refine wpAnyH_take (i := 8) (oi := { dst := some 44, op := Op.nilCheck (Operand.tmp 36), type := 0, pos := "write.go:38", after := #[{ on := 0, ground := Ground.data }, { on := 0, ground := Ground.phase }, { on := 1, ground := Ground.phase }, { on := 2, ground := Ground.phase }, { on := 3, ground := Ground.phase }, { on := 4, ground := Ground.phase }, { on := 5, ground := Ground.phase }, { on := 6, ground := Ground.phase }, { on := 7, ground := Ground.phase }], guard := none }) (v := .pointer (some ⟨p, 0, none⟩)) rfl (by kernel_rfl) (by kernel_rfl) (by kernel_rfl) (fun _ _ _ h => h) (Or.inl ⟨by rfl, by intro w hS; go_simp⟩) hHeld ?_
    try simp only [Act.put, List.setIfInBounds_toArray, List.set_cons_zero, List.set_cons_succ]
    refine wpAnyH_take (i := 9) (oi := { dst := some 45, op := Op.fieldAddr 49 (Operand.tmp 44) 2, type := 0, pos := "write.go:38", after := #[{ on := 8, ground := Ground.data }, { on := 0, ground := Ground.phase }, { on := 1, ground := Ground.phase }, { on := 2, ground := Ground.phase }, { on := 3, ground := Ground.phase }, { on := 4, ground := Ground.phase }, { on := 5, ground := Ground.phase }, { on := 6, ground := Ground.phase }, { on := 7, ground := Ground.phase }], guard := none }) (v := .pointer (some ⟨p, 5, none⟩)) rfl (by kernel_rfl) (by kernel_rfl) (by kernel_rfl) (fun _ _ _ h => h) (Or.inl ⟨by rfl, by intro w hS; go_simp⟩) hHeld ?_
    try simp only [Act.put, List.setIfInBounds_toArray, List.set_cons_zero, List.set_cons_succ]
    refine wpAnyH_ready (rs := [10]) (by kernel_rfl) (by simp) ?_
    refine (AllReadyH.cons (o := { dst := none, op := Op.store 46 (Operand.tmp 45) (Operand.tmp 43), type := 0, pos := "write.go:38", after := #[{ on := 9, ground := Ground.data }, { on := 7, ground := Ground.data }, { on := 7, ground := Ground.chain }, { on := 0, ground := Ground.phase }, { on := 1, ground := Ground.phase }, { on := 2, ground := Ground.phase }, { on := 3, ground := Ground.phase }, { on := 4, ground := Ground.phase }, { on := 5, ground := Ground.phase }, { on := 6, ground := Ground.phase }, { on := 7, ground := Ground.phase }], guard := none }) rfl (fun K hK => ?_) AllReadyH.nil)
    go_simp
    refine hK.out _ _ (RC.out _ w4 _ hg4d) (fun hHeld2 => ?_)
    clear hK K hHeld
    have hHeld := hHeld2
    clear hHeld2
    try simp only [Act.put, List.setIfInBounds_toArray, List.set_cons_zero, List.set_cons_succ]
    refine wpAnyH_done (by kernel_rfl) ?_ _
    refine NoPanic.normal ?_
    clear hHeld
    generalize w4.setCell ⟨p, 5, none⟩ (.slice spv (D.ops.length + 1) capv) = W5 at *
    have f3d := fzd 3
    have f1d := fzd 1
    have hw5 := DK.put (D' := ({ D.pushed o with writes := D.writes + 1 } : DS)) hDK5 1 (.int .i64 (D.writes + 1)) rfl rfl rfl
    have HA := hid (act_in _ base _ _ hw5 HAR.out)
    have HF5 := hid (hFr5.setCell (p := p) ((DP.mem _ _).2 (Or.inl rfl)) 1 (.int .i64 (D.writes + 1)))
    have HG5 := hid hGr5
    clear hw5 hDK5 hFr5 hGr5 PF RA RB RC hO4 hg4 hd4 hm3 hg3 hO3 z5 y5 hg4d
    go_wp2_with (go_at_call 110; refine HA.out.mono ?_; rintro e w9 ⟨rfl, hDK9, hFr9⟩)
    go_ret
    exact ⟨rfl, _, rfl, hDK9, FIN.out _ (HF5.out.trans hFr9 HG5.out), HG5.out.of_le (by rw [HNN.out]; exact HS2.out)⟩
  · skip
    refine step_sliceW (by rfl) (.tmp 41) rfl (encW o) hol rfl ?_
    refine hK.out _ _ (RA.out _) (fun hHeld2 => ?_)
    clear hK K hHeld
    have hHeld := hHeld2
    clear hHeld2
    try simp only [Act.put, List.setIfInBounds_toArray, List.set_cons_zero, List.set_cons_succ]
    refine wpAnyH_ready (rs := [4]) (by kernel_rfl) (by simp) ?_
    refine (AllReadyH.cons (o := { dst := some 40, op := Op.load 46 (Operand.tmp 39), type := 46, pos := "write.go:38", after := #[{ on := 3, ground := Ground.data }], guard := none }) rfl (fun K hK => ?_) AllReadyH.nil)
    go_simp
    refine hK.out _ _ (hHeld) (fun hHeld2 => ?_)
    clear hK K hHeld
    have hHeld := hHeld2
    clear hHeld2
    try simp only [Act.put, List.setIfInBounds_toArray, List.set_cons_zero, List.set_cons_succ]
    refine wpAnyH_ready (rs := [7]) (by kernel_rfl) (by simp) ?_
    refine (AllReadyH.cons (o := { dst := some 43, op := Op.call { callee := Callee.builtin Builtin.append, args := #[Operand.tmp 40, Operand.tmp 42], argTypes := #[46, 46] }, type := 46, pos := "write.go:38", after := #[{ on := 4, ground := Ground.data }, { on := 6, ground := Ground.data }], guard := none }) rfl (fun K hK => ?_) AllReadyH.nil)
    refine step_pushW (w := w3.drew) rfl (.tmp 40) (.tmp 42) rfl base (.slice spo D.ops.length capo) D.ops.length _ (encW o) rfl hO3 rfl hol (encW_one o) HL1.out hbs _ _ ?_
    intro v4 w4 hO4 hg4d hd4
    have hg4 := grown_undrew2 hg4d
    obtain ⟨spv, capv, rfl⟩ := ownsRow_form hO4
    obtain ⟨z5, y5, c5d, c3d, c1d, fzd, hDK5, hFr5, hGr5⟩ := PF.out w3 w4 _ _ hm3 hg3 hO4 hg4 hd4
    refine hK.out _ _ (RB.out _ w4 hg4d) (fun hHeld2 => ?_)
    clear hK K hHeld
    have hHeld := hHeld2
    clear hHeld2
    try simp only [Act.put, List.setIfInBounds_toArray, List.set_cons_zero, List.set_cons_succ]
    refine wpAnyH_take (i := 8) (oi := { dst := some 44, op := Op.nilCheck (Operand.tmp 36), type := 0, pos := "write.go:38", after := #[{ on := 0, ground := Ground.data }, { on := 0, ground := Ground.phase }, { on := 1, ground := Ground.phase }, { on := 2, ground := Ground.phase }, { on := 3, ground := Ground.phase }, { on := 4, ground := Ground.phase }, { on := 5, ground := Ground.phase }, { on := 6, ground := Ground.phase }, { on := 7, ground := Ground.phase }], guard := none }) (v := .pointer (some ⟨p, 0, none⟩)) rfl (by kernel_rfl) (by kernel_rfl) (by kernel_rfl) (fun _ _ _ h => h) (Or.inl ⟨by rfl, by intro w hS; go_simp⟩) hHeld ?_
    try simp only [Act.put, List.setIfInBounds_toArray, List.set_cons_zero, List.set_cons_succ]
    refine wpAnyH_take (i := 9) (oi := { dst := some 45, op := Op.fieldAddr 49 (Operand.tmp 44) 2, type := 0, pos := "write.go:38", after := #[{ on := 8, ground := Ground.data }, { on := 0, ground := Ground.phase }, { on := 1, ground := Ground.phase }, { on := 2, ground := Ground.phase }, { on := 3, ground := Ground.phase }, { on := 4, ground := Ground.phase }, { on := 5, ground := Ground.phase }, { on := 6, ground := Ground.phase }, { on := 7, ground := Ground.phase }], guard := none }) (v := .pointer (some ⟨p, 5, none⟩)) rfl (by kernel_rfl) (by kernel_rfl) (by kernel_rfl) (fun _ _ _ h => h) (Or.inl ⟨by rfl, by intro w hS; go_simp⟩) hHeld ?_
    try simp only [Act.put, List.setIfInBounds_toArray, List.set_cons_zero, List.set_cons_succ]
    refine wpAnyH_ready (rs := [10]) (by kernel_rfl) (by simp) ?_
    refine (AllReadyH.cons (o := { dst := none, op := Op.store 46 (Operand.tmp 45) (Operand.tmp 43), type := 0, pos := "write.go:38", after := #[{ on := 9, ground := Ground.data }, { on := 7, ground := Ground.data }, { on := 7, ground := Ground.chain }, { on := 0, ground := Ground.phase }, { on := 1, ground := Ground.phase }, { on := 2, ground := Ground.phase }, { on := 3, ground := Ground.phase }, { on := 4, ground := Ground.phase }, { on := 5, ground := Ground.phase }, { on := 6, ground := Ground.phase }, { on := 7, ground := Ground.phase }], guard := none }) rfl (fun K hK => ?_) AllReadyH.nil)
    go_simp
    refine hK.out _ _ (RC.out _ w4 _ hg4d) (fun hHeld2 => ?_)
    clear hK K hHeld
    have hHeld := hHeld2
    clear hHeld2
    try simp only [Act.put, List.setIfInBounds_toArray, List.set_cons_zero, List.set_cons_succ]
    refine wpAnyH_done (by kernel_rfl) ?_ _
    refine NoPanic.normal ?_
    clear hHeld
    generalize w4.setCell ⟨p, 5, none⟩ (.slice spv (D.ops.length + 1) capv) = W5 at *
    have f3d := fzd 3
    have f1d := fzd 1
    have hw5 := DK.put (D' := ({ D.pushed o with writes := D.writes + 1 } : DS)) hDK5 1 (.int .i64 (D.writes + 1)) rfl rfl rfl
    have HA := hid (act_in _ base _ _ hw5 HAR.out)
    have HF5 := hid (hFr5.setCell (p := p) ((DP.mem _ _).2 (Or.inl rfl)) 1 (.int .i64 (D.writes + 1)))
    have HG5 := hid hGr5
    clear hw5 hDK5 hFr5 hGr5 PF RA RB RC hO4 hg4 hd4 hm3 hg3 hO3 z5 y5 hg4d
    go_wp2_with (go_at_call 110; refine HA.out.mono ?_; rintro e w9 ⟨rfl, hDK9, hFr9⟩)
    go_ret
    exact ⟨rfl, _, rfl, hDK9, FIN.out _ (HF5.out.trans hFr9 HG5.out), HG5.out.of_le (by rw [HNN.out]; exact HS2.out)⟩
/-- A disk behind a write that was taken. -/
def DS.wr (D : DS) (o : OW) : DS := ({ D.pushed o with writes := D.writes + 1 } : DS).acted
theorem acted_same (D : DS) : D.acted.img = D.img ∧ D.acted.ops = D.ops ∧ D.acted.epoch = D.epoch ∧ D.acted.reads = D.reads ∧ D.acted.writes = D.writes ∧ D.acted.syncs = D.syncs := by
  unfold DS.acted
  split
  · exact ⟨rfl, rfl, rfl, rfl, rfl, rfl⟩
  · split <;> exact ⟨rfl, rfl, rfl, rfl, rfl, rfl⟩
theorem acted_ok {D : DS} (h : DsOk D) : DsOk D.acted := by
  obtain ⟨e1, e2, e3, e4, e5, e6⟩ := acted_same D
  refine ⟨by rw [e1, e2]; exact h.n, by rw [e1]; exact h.bts, by rw [e2]; exact h.ops, by rw [e4]; exact h.reads, by rw [e5]; exact h.writes, by rw [e6]; exact h.syncs, by rw [e3]; exact h.epoch, ?_⟩
  have := h.armed
  unfold DS.acted
  split
  · exact this
  · split
    · simp
    · simp only; omega
/-- How many pages. -/
def DS.np (D : DS) : Nat := D.img.length / 256
theorem DsOk.np {D : DS} (h : DsOk D) : 3 ≤ D.np ∧ D.np ≤ 4096 ∧ D.img.length = 256 * D.np ∧ ∀ o ∈ D.ops, OwOk D.np o := by
  obtain ⟨n, a, b, c, d⟩ := h.n
  have e : D.np = n := by unfold DS.np; rw [c]; omega
  rw [e]; exact ⟨a, b, c, d⟩
theorem wr_ok {D : DS} {o : OW} (h : DsOk D) (ho : OwOk D.np o) (hops : D.ops.length < 400000000000) (hwr : D.writes < 4000000000000000000) : DsOk (D.wr o) := by
  refine acted_ok ⟨⟨D.np, h.np.1, h.np.2.1, h.np.2.2.1, fun x hx => ?_⟩, h.bts, ?_, h.reads, ?_, h.syncs, h.epoch, h.armed⟩
  · rcases List.mem_append.1 hx with q | q
    · exact h.np.2.2.2 x q
    · rw [List.mem_singleton] at q; rw [q]; exact ho
  · simp [DS.pushed]; omega
  · have := h.writes; show 0 ≤ D.writes + 1 ∧ D.writes + 1 ≤ _; omega
/-- Write. -/
theorem Write_any (w : World) (base : Nat) (F : List Nat) (p : Nat) (D : DS) (h : DA w base F p D) (hbw : base ≤ w.heap.size) (hpw : D.power = true) (q : Nat) (hq : q < D.np) (data : List Int) (hd : data.length = 256) (hdb : Bts data) (sp : Option Addr) (cap : Nat) (hS : Src w sp cap data)
    (hops : D.ops.length < 400000000000) (hwr : D.writes < 4000000000000000000) :
    Calls Tryz.prog 109 #[.pointer (some ⟨p, 0, none⟩), .int .i64 q, .slice sp 256 cap] w fun e w' => e = .returned (.int .i64 D.actE) ∧ Nx base F p w (D.wr ⟨q, data⟩) w' := by
  obtain ⟨P, rfl, rfl, hk, hok⟩ := h
  refine (Write_in w base P D hk hok D.np hok.np.2.2.1 hok.np.2.1 hbw hpw q hq data hd sp cap hS hops hwr).mono ?_
  rintro e w' ⟨rfl, P', e1, e2, e3, e4⟩
  exact ⟨rfl, P'.fp, ⟨P', e1, rfl, e2, wr_ok hok ⟨hq, hd, hdb⟩ hops hwr⟩, e3, e4⟩
end Go.Proofs.YtjpcegjgandnjaaGreatDoor
