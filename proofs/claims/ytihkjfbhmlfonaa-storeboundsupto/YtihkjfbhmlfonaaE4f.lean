import Derived.Test.YtihkjfbhmlfonaaE4e
namespace Go.Proofs.Ytihkjfbhmlfonaa
set_option linter.unusedVariables false
set_option linter.unusedSimpArgs false
open Go.RowKit
attribute [local go_sem ↓] Go.wp_at_zero Go.wp_at_succ

theorem Gr.of_le {a b : World} {F F' : List Nat} (h : Gr b F F') (hs : a.heap.size ≤ b.heap.size) : Gr a F F' := fun k hk => (h k hk).imp id (fun q => by omega)
theorem grown_far {a b : World} {r : Option Nat} (h : a.grownBy b r) {k : Nat} (hk : k < a.heap.size) (hr : r ≠ some k) : b.heap[k]? = a.heap[k]? := h.block k hk (fun e => hr e.symm)
theorem heap_push_lt (w : World) (c : Obj) {k : Nat} (hk : k < w.heap.size) : (w.alloc c).heap[k]? = w.heap[k]? := by
  show (w.heap.push _)[k]? = _
  rw [Array.getElem?_push, if_neg (by omega)]
theorem rng_of_heap {w w1 : World} {g o : Nat} {cs : List Value} (h : w.rangeAt g o cs) (hk : w1.heap[g]? = w.heap[g]?) : w1.rangeAt g o cs := fun j v hv => by
  have := h j v hv
  rw [World.cell?] at this ⊢
  rw [hk]; exact this
theorem grown_undrew {w w' : World} {r : Option Nat} (h : w.drew.grownBy w' r) : w.grownBy w' r := ⟨h.os, h.tape, h.output, h.size, h.block⟩
theorem grown_undrew2 {w w' : World} {c : Obj} {r : Option Nat} (h : (w.drew.alloc c).grownBy w' r) : (w.alloc c).grownBy w' r := ⟨h.os, h.tape, h.output, h.size, h.block⟩
theorem splice_w (q : Int) (data : List Int) (hd : data.length = 256) : splice (zW q) 1 (ints .u8 data) = .int .i64 q :: ints .u8 data := by
  unfold splice zW
  have e : 1 + (ints .u8 data).length = 257 := by rw [ints_len, hd]
  rw [e, List.drop_of_length_le (by rw [List.length_cons, ints_len, List.length_replicate]; exact Nat.le_refl _), List.append_nil]; rfl
set_option maxRecDepth 100000 in
set_option maxHeartbeats 1000000 in
theorem Write_in (w : World) (base : Nat) (P : DP) (D : DS) (h : DK w base P D) (hok : DsOk D) (n : Nat) (hn : D.img.length = 256 * n) (h4 : n ≤ 4096) (hbw : base ≤ w.heap.size) (hpw : D.power = true) (q : Nat) (hq : q < n) (data : List Int) (hd : data.length = 256) (sp : Option Addr) (cap : Nat) (hS : Src w sp cap data)
    (hops : D.ops.length < 400000000000) (hwr : D.writes < 4000000000000000000) :
    Calls Try.prog 58 #[.pointer (some ⟨P.p, 0, none⟩), .int .i64 q, .slice sp 256 cap] w fun e w' => e = .returned (.int .i64 D.actE) ∧ ∃ P' : DP, P'.p = P.p ∧ DK w' base P' ({ D.pushed ⟨q, data⟩ with writes := D.writes + 1 } : DS).acted ∧ Fr P.fp w w' ∧ Gr w P.fp P'.fp := by
  obtain ⟨o, ho⟩ : ∃ o : OW, o = ⟨q, data⟩ := ⟨_, rfl⟩
  rw [← ho]
  have hoe : encW o = .int .i64 q :: ints .u8 data := by rw [ho]; rfl
  have HOP := hid (show o.page = q by rw [ho])
  clear ho
  have HOE := hid hoe
  have hol : (encW o).length = 257 := by rw [hoe, List.length_cons, ints_len, hd]
  have hio : (Try.prog.info? 119).map (·.size) = some (encW o).length := by rw [sizeW, hol]
  have HP := hid (has_in w base P D h n hn h4 q)
  have he : decide (0 ≤ (q : Int) ∧ (q : Int) < n) = true := decide_eq_true ⟨by omega, by omega⟩
  have HE := hid he
  have HAR := hid hok.armed
  have hq4 : q < 4096 := by omega
  have c7 := h.c7
  rw [hpw] at c7
  obtain ⟨Zq, hZq⟩ : ∃ Z, Z = zW q := ⟨_, rfl⟩
  obtain ⟨Z0, hZ0⟩ : ∃ Z, Z = zW 0 := ⟨_, rfl⟩
  have HZq := hid hZq
  have HZ0 := hid hZ0
  have g1 := hid (hnew w (.cells Z0.toArray 119))
  have g2 := hid (hnew w (.cells Zq.toArray 119))
  have K1 := hid (show (Try.prog.info? 119).map (·.size) = some Zq.toArray.size by rw [sizeW, hZq, List.size_toArray, zW_len])
  have K2 := hid (show Z0.toArray.size = Zq.toArray.size by rw [hZ0, hZq, List.size_toArray, List.size_toArray, zW_len, zW_len])
  have oo := hid (all_oneCell_toArray (show ∀ v ∈ Zq, v.oneCell' = true by rw [hZq]; exact zW_one q))
  have hB1 : Below w.heap.size w (w.alloc (.cells Zq.toArray 119)) := (Below.refl _ w).alloc (Nat.le_refl _) _
  have HB1 := hid hB1
  have hS1 := hS.below hB1 (Nat.le_refl _)
  have KC := hid (show (ints .u8 data).length = Nat.min 256 256 by rw [ints_len, hd]; decide)
  have KP := hid (show ∃ ad, sp = some ad ∧ ∀ j v, (ints .u8 data)[j]? = some v → (w.alloc (.cells Zq.toArray 119)).cell? (ad.add j) = some v by
    obtain ⟨_, _, b, o', _, hsp, _⟩ := id hS1
    have hs := hsp (by rw [hd]; decide)
    subst hs
    exact ⟨_, rfl, src_news hS1⟩)
  have KF := hid (show 1 + (ints .u8 data).length ≤ Zq.length by rw [ints_len, hd, hZq, zW_len]; decide)
  have KO := hid (ints_one .u8 data)
  have KS := hid (show splice Zq 1 (ints .u8 data) = encW o by rw [hZq, splice_w q data hd, hoe])
  have HSZ := hid hd
  clear hoe he hn hS hS1 hB1 hZq hZ0 hd
  have HL2 := hid (show D.ops.length ≤ 400000000000 by omega)
  have HL1 := hid (show D.ops.length + 1 ≤ 400000000001 by omega)
  have wb := hok.writes
  have iw : D.writes + 1 ≤ 9223372036854775807 := by omega
  have iw0 : 0 ≤ D.writes := wb.1
  clear wb hok hwr
  have H := hid h
  clear h
  obtain ⟨p, g, m, gc, ov, rs, M⟩ := P
  simp only at *
  have hpp : p < w.heap.size := hlt H.out.cell
  go_enter Try.func58, Try.ntmps58
  go_wp2_with (first
    | (go_at_call 74; refine HP.out.mono ?_; rintro e w0 ⟨rfl, rfl⟩; rw [HE.out])
    | refine wpList_buildW rfl (.tmp 20) rfl q rfl Zq HZq.out ?_
    | refine wpList_allocW rfl rfl Z0 HZ0.out ?_
    | (refine wpList_store_row rfl 119 _ _ rfl w.heap.size _ rfl rfl 119 _ g1.out K1.out K2.out oo.out ?_; rw [setRow_alloc])
    | (refine wpList_copy_splice rfl (.tmp 23) (.tmp 24) 36 36 rfl 5 Try.underlying36 Try.size5 (some ⟨w.heap.size, 1, none⟩) sp 256 256 256 cap rfl rfl w.heap.size 1 Zq 119 g2.out (ints .u8 data) KC.out (fun _ => ⟨rfl, KP.out⟩) KF.out KO.out w.heap.size w HB1.out (Nat.le_refl _) ?_; intro w2 hr2 hB2; rw [KS.out] at hr2))
  clear HP HE g1 g2 K1 K2 oo HB1 KC KP KF KO KS c7 HZq HZ0
  have hDK2 := H.out.below hB2
  have hpN : p ≠ w.heap.size := by omega
  have hmN : m ≠ w.heap.size := by have := (H.out.lt m ((DP.mem _ _).2 (Or.inr (Or.inr (Or.inl rfl))))).2; omega
  have hoN : ov.ownBlock ≠ some w.heap.size := fun e => by have := (H.out.lt _ ((DP.mem _ _).2 (Or.inr (Or.inr (Or.inr e))))).2; omega
  have HS2 := hid hB2.size
  have hN2 : w.heap.size < w2.heap.size := hlt hr2.out
  have hp2 : p < w2.heap.size := by omega
  have hb2 : base ≤ w2.heap.size := by omega
  obtain ⟨spo, capo, hov⟩ := ownsRow_form hDK2.opn
  simp only at hov
  subst hov
  have c6 := hDK2.c6
  have c5 := hDK2.c5
  have hm2 := hDK2.mp
  simp only at c6 c5 hm2
  have hpm : p ≠ m := hDK2.pm
  have hpo : (Value.slice spo D.ops.length capo).ownBlock ≠ some p := hDK2.po
  have h3 := hid (fun (w3 : World) (hg3 : w2.grownBy w3 (some m)) => (show w3.heap[p]? = w2.heap[p]? ∧ w3.heap[w.heap.size]? = w2.heap[w.heap.size]? ∧ w2.heap.size ≤ w3.heap.size ∧ ∀ i, (Value.slice spo D.ops.length capo).ownBlock = some i → w3.heap[i]? = w2.heap[i]? from
    ⟨grown_far hg3 hp2 (fun e => hpm (Option.some.inj e).symm), grown_far hg3 hN2 (fun e => hmN (Option.some.inj e)), hg3.size, fun i hi => grown_far hg3 (hDK2.lt i ((DP.mem _ _).2 (Or.inr (Or.inr (Or.inr hi))))).2 (fun e => hDK2.mo (by rw [hi]; exact e.symm))⟩))
  have hS9 := hid (fun (w3 : World) (hg3 : w2.grownBy w3 (some m)) => (show w3.cell? ⟨p, 6, none⟩ = some (.map (some m)) ∧ w3.cell? ⟨p, 5, none⟩ = some (.slice spo D.ops.length capo) from
    ⟨by rw [World.cell?, (h3.out w3 hg3).1]; exact c6, by rw [World.cell?, (h3.out w3 hg3).1]; exact c5⟩))
  have HO2 := hid hDK2.opn
  have PF := hid (fun (w3 w4 : World) (c : Obj) (v : Value) (a1 : w3.ownsMap Try.prog 3 (plainElem Try.prog 3) m (D.ops.length + 1) (M.put (.int .i64 (q : Nat)) (.lit (.int .i64 (D.ops.length : Nat))))) (a2 : w2.grownBy w3 (some m)) (a3 : w4.ownsRow base 119 257 v (D.ops.length + 1) (D.ops.flatMap encW ++ encW o)) (a4 : (w3.alloc c).grownBy w4 (Value.slice spo D.ops.length capo).ownBlock) (a5 : v.ownBlock = (Value.slice spo D.ops.length capo).ownBlock ∨ v.ownBlock = some (w3.heap.size + 1)) =>
    hDK2.push o (by rw [HOP.out]; exact hq4) (by rw [HOP.out]; exact a1) a2 c a3 a4 a5)
  have FIN := hid (fun (w9 : World) (hf : Fr (DP.mk p g m gc (Value.slice spo D.ops.length capo) rs M).fp w2 w9) => (Fr.of_below (F := (DP.mk p g m gc (Value.slice spo D.ops.length capo) rs M).fp) hB2).trans hf (Gr.refl _ _))
  have hoNN := hid hoN
  have hpNN := hid hpN
  clear hDK2 hoN hpN H hpo
  have hN := hid hr2.out
  clear hr2 hB2
  generalize hNN : w.heap.size = N at *
  have HNN := hid hNN
  clear hNN
  refine wp_region_noPanic ?_
  refine wp_region_held_drew (S := fun w' => w'.cell? ⟨p, 6, none⟩ = some (.map (some m)) ∧ w'.cell? ⟨p, 5, none⟩ = some (.slice spo D.ops.length capo)) (by kernel_rfl) ⟨c6, c5⟩ (fun hHeld => ?_)
  refine wpAnyH_take (i := 0) (oi := { dst := some 26, op := Op.move (Operand.tmp 0), type := 23, pos := "write.go:37", after := #[], guard := none }) (v := .pointer (some ⟨p, 0, none⟩)) rfl (by kernel_rfl) (by kernel_rfl) (by kernel_rfl) (fun _ _ _ h => h) (Or.inl ⟨by rfl, by intro w hS; go_simp⟩) hHeld ?_
  try simp only [Act.put, List.setIfInBounds_toArray, List.set_cons_zero, List.set_cons_succ]
  refine wpAnyH_take (i := 4) (oi := { dst := some 30, op := Op.move (Operand.tmp 1), type := 3, pos := "write.go:37", after := #[], guard := none }) (v := .int .i64 q) rfl (by kernel_rfl) (by kernel_rfl) (by kernel_rfl) (fun _ _ _ h => h) (Or.inl ⟨by rfl, by intro w hS; go_simp⟩) hHeld ?_
  try simp only [Act.put, List.setIfInBounds_toArray, List.set_cons_zero, List.set_cons_succ]
  refine wpAnyH_take (i := 5) (oi := { dst := some 31, op := Op.move (Operand.tmp 0), type := 23, pos := "write.go:37", after := #[], guard := none }) (v := .pointer (some ⟨p, 0, none⟩)) rfl (by kernel_rfl) (by kernel_rfl) (by kernel_rfl) (fun _ _ _ h => h) (Or.inl ⟨by rfl, by intro w hS; go_simp⟩) hHeld ?_
  try simp only [Act.put, List.setIfInBounds_toArray, List.set_cons_zero, List.set_cons_succ]
  refine wpAnyH_take (i := 1) (oi := { dst := some 27, op := Op.nilCheck (Operand.tmp 26), type := 0, pos := "write.go:37", after := #[{ on := 0, ground := Ground.data }], guard := none }) (v := .pointer (some ⟨p, 0, none⟩)) rfl (by kernel_rfl) (by kernel_rfl) (by kernel_rfl) (fun _ _ _ h => h) (Or.inl ⟨by rfl, by intro w hS; go_simp⟩) hHeld ?_
  try simp only [Act.put, List.setIfInBounds_toArray, List.set_cons_zero, List.set_cons_succ]
  refine wpAnyH_take (i := 6) (oi := { dst := some 32, op := Op.nilCheck (Operand.tmp 31), type := 0, pos := "write.go:37", after := #[{ on := 5, ground := Ground.data }], guard := none }) (v := .pointer (some ⟨p, 0, none⟩)) rfl (by kernel_rfl) (by kernel_rfl) (by kernel_rfl) (fun _ _ _ h => h) (Or.inl ⟨by rfl, by intro w hS; go_simp⟩) hHeld ?_
  try simp only [Act.put, List.setIfInBounds_toArray, List.set_cons_zero, List.set_cons_succ]
  refine wpAnyH_take (i := 2) (oi := { dst := some 28, op := Op.fieldAddr 53 (Operand.tmp 27) 3, type := 0, pos := "write.go:37", after := #[{ on := 1, ground := Ground.data }], guard := none }) (v := .pointer (some ⟨p, 6, none⟩)) rfl (by kernel_rfl) (by kernel_rfl) (by kernel_rfl) (fun _ _ _ h => h) (Or.inl ⟨by rfl, by intro w hS; go_simp⟩) hHeld ?_
  try simp only [Act.put, List.setIfInBounds_toArray, List.set_cons_zero, List.set_cons_succ]
  refine wpAnyH_take (i := 7) (oi := { dst := some 33, op := Op.fieldAddr 53 (Operand.tmp 32) 2, type := 0, pos := "write.go:37", after := #[{ on := 6, ground := Ground.data }], guard := none }) (v := .pointer (some ⟨p, 5, none⟩)) rfl (by kernel_rfl) (by kernel_rfl) (by kernel_rfl) (fun _ _ _ h => h) (Or.inl ⟨by rfl, by intro w hS; go_simp⟩) hHeld ?_
  try simp only [Act.put, List.setIfInBounds_toArray, List.set_cons_zero, List.set_cons_succ]
  refine wpAnyH_take (i := 3) (oi := { dst := some 29, op := Op.load 51 (Operand.tmp 28), type := 51, pos := "write.go:37", after := #[{ on := 2, ground := Ground.data }], guard := none }) (v := .map (some m)) rfl (by kernel_rfl) (by kernel_rfl) (by kernel_rfl) (fun _ _ _ h => h) (Or.inl ⟨by rfl, by intro w hS; have hc := hS.1; go_simp⟩) hHeld ?_
  try simp only [Act.put, List.setIfInBounds_toArray, List.set_cons_zero, List.set_cons_succ]
  refine wpAnyH_take (i := 8) (oi := { dst := some 34, op := Op.load 50 (Operand.tmp 33), type := 50, pos := "write.go:37", after := #[{ on := 7, ground := Ground.data }], guard := none }) (v := .slice spo D.ops.length capo) rfl (by kernel_rfl) (by kernel_rfl) (by kernel_rfl) (fun _ _ _ h => h) (Or.inl ⟨by rfl, by intro w hS; have hc := hS.2; go_simp⟩) hHeld ?_
  try simp only [Act.put, List.setIfInBounds_toArray, List.set_cons_zero, List.set_cons_succ]
  refine wpAnyH_take (i := 9) (oi := { dst := some 35, op := Op.call { callee := Callee.builtin Builtin.len, args := #[Operand.tmp 34], argTypes := #[50] }, type := 3, pos := "write.go:37", after := #[{ on := 8, ground := Ground.data }], guard := none }) (v := .int .i64 D.ops.length) rfl (by kernel_rfl) (by kernel_rfl) (by kernel_rfl) (fun _ _ _ h => h) (Or.inl ⟨by rfl, by intro w hS; go_simp⟩) hHeld ?_
  try simp only [Act.put, List.setIfInBounds_toArray, List.set_cons_zero, List.set_cons_succ]
  refine wpAnyH_ready (rs := [10]) (by kernel_rfl) (by simp) ?_
  refine (AllReadyH.cons (o := { dst := none, op := Op.mapUpdate 51 (Operand.tmp 29) (Operand.tmp 30) (Operand.tmp 35), type := 0, pos := "write.go:37", after := #[{ on := 3, ground := Ground.data }, { on := 4, ground := Ground.data }, { on := 9, ground := Ground.data }, { on := 0, ground := Ground.phase }, { on := 1, ground := Ground.phase }, { on := 2, ground := Ground.phase }, { on := 3, ground := Ground.phase }, { on := 4, ground := Ground.phase }, { on := 5, ground := Ground.phase }, { on := 6, ground := Ground.phase }, { on := 7, ground := Ground.phase }, { on := 8, ground := Ground.phase }, { on := 9, ground := Ground.phase }], guard := none }) rfl (fun K hK => ?_) AllReadyH.nil)
  refine step_mapUp rfl (.tmp 29) (.tmp 30) (.tmp 35) rfl m D.ops.length M rfl hm2 (by unfold maxLen; omega) q rfl hq4 D.ops.length rfl HL2.out ?_
  intro w3 hm3 hg3
  replace hg3 := grown_undrew hg3
  refine hK.out _ _ (hS9.out w3 hg3) (fun hHeld2 => ?_)
  clear hK K hHeld
  have hHeld := hHeld2
  clear hHeld2
  try simp only [Act.put, List.setIfInBounds_toArray, List.set_cons_zero, List.set_cons_succ]
  refine wpAnyH_done (by kernel_rfl) ?_ _
  refine NoPanic.normal ?_
  clear hHeld
  obtain ⟨e1, e2, e3, e4⟩ := h3.out w3 hg3
  have hp3 : p < w3.heap.size := by omega
  have hbs : base ≤ w3.drew.heap.size := by show base ≤ w3.heap.size; omega
  have z3 : w3.cell? ⟨p, 5, none⟩ = some (.slice spo D.ops.length capo) := (hS9.out w3 hg3).2
  have hO3 : w3.drew.ownsRow base 119 257 (.slice spo D.ops.length capo) D.ops.length (D.ops.flatMap encW) := ownsRow_heap HO2.out e4
  have rN3 : w3.drew.rangeAt N 0 (encW o) := rng (show w3.heap[N]? = _ from e2.trans hN.out)
  have hN3 : N < w3.heap.size := by omega
  have RA := hid (fun (c : Obj) => (show (w3.drew.alloc c).rangeAt N 0 (encW o) ∧ True from ⟨rng_of_heap rN3 (heap_push_lt w3.drew c hN3), trivial⟩))
  have RB := hid (fun (c : Obj) (w4 : World) (a : (w3.drew.alloc c).grownBy w4 (Value.slice spo D.ops.length capo).ownBlock) => (show w4.rangeAt N 0 (encW o) ∧ True from ⟨rng_of_heap (RA.out c).1 (grown_far a (by simp; show N < w3.heap.size + 1; omega) (fun e => hoNN.out e)), trivial⟩))
  have RC := hid (fun (c : Obj) (w4 : World) (v : Value) (a : (w3.drew.alloc c).grownBy w4 (Value.slice spo D.ops.length capo).ownBlock) => (show (w4.setCell ⟨p, 5, none⟩ v).rangeAt N 0 (encW o) ∧ True from ⟨rng_of_heap (RB.out c w4 a).1 (heap_setCell_other w4 _ N v (fun e => hpNN.out e.symm)), trivial⟩))
  clear h3 hS9 c5 c6 e1 e2 e3 e4 HO2 hm2 hN
  go_wp2
  refine wp_region_noPanic ?_
  refine wp_region_held_drew (S := fun w' => w'.rangeAt N 0 (encW o) ∧ True) (by kernel_rfl) ⟨rN3, trivial⟩ (fun hHeld => ?_)
  refine wpAnyH_take (i := 0) (oi := { dst := some 36, op := Op.move (Operand.tmp 0), type := 23, pos := "write.go:38", after := #[], guard := none }) (v := .pointer (some ⟨p, 0, none⟩)) rfl (by kernel_rfl) (by kernel_rfl) (by kernel_rfl) (fun _ _ _ h => h) (Or.inl ⟨by rfl, by intro w hS; go_simp⟩) hHeld ?_
  try simp only [Act.put, List.setIfInBounds_toArray, List.set_cons_zero, List.set_cons_succ]
  refine wpAnyH_take (i := 1) (oi := { dst := some 37, op := Op.move (Operand.tmp 0), type := 23, pos := "write.go:38", after := #[], guard := none }) (v := .pointer (some ⟨p, 0, none⟩)) rfl (by kernel_rfl) (by kernel_rfl) (by kernel_rfl) (fun _ _ _ h => h) (Or.inl ⟨by rfl, by intro w hS; go_simp⟩) hHeld ?_
  try simp only [Act.put, List.setIfInBounds_toArray, List.set_cons_zero, List.set_cons_succ]
  refine wpAnyH_take (i := 5) (oi := { dst := some 41, op := Op.load 119 (Operand.tmp 7), type := 119, pos := "write.go:38", after := #[], guard := none }) (v := .agg (encW o).toArray) rfl (by kernel_rfl) (by kernel_rfl) (by kernel_rfl) (fun _ _ _ h => h) (yieldsIf_load_mid (by rfl) 119 _ rfl N (0) rfl (encW o) _ (fun w hS => hS.1) Try.underlying119 rfl hio) hHeld ?_
  try simp only [Act.put, List.setIfInBounds_toArray, List.set_cons_zero, List.set_cons_succ]
  refine wpAnyH_take (i := 2) (oi := { dst := some 38, op := Op.nilCheck (Operand.tmp 37), type := 0, pos := "write.go:38", after := #[{ on := 1, ground := Ground.data }], guard := none }) (v := .pointer (some ⟨p, 0, none⟩)) rfl (by kernel_rfl) (by kernel_rfl) (by kernel_rfl) (fun _ _ _ h => h) (Or.inl ⟨by rfl, by intro w hS; go_simp⟩) hHeld ?_
  try simp only [Act.put, List.setIfInBounds_toArray, List.set_cons_zero, List.set_cons_succ]
  refine wpAnyH_take (i := 3) (oi := { dst := some 39, op := Op.fieldAddr 53 (Operand.tmp 38) 2, type := 0, pos := "write.go:38", after := #[{ on := 2, ground := Ground.data }], guard := none }) (v := .pointer (some ⟨p, 5, none⟩)) rfl (by kernel_rfl) (by kernel_rfl) (by kernel_rfl) (fun _ _ _ h => h) (Or.inl ⟨by rfl, by intro w hS; go_simp⟩) hHeld ?_
  try simp only [Act.put, List.setIfInBounds_toArray, List.set_cons_zero, List.set_cons_succ]
  refine wpAnyH_ready (rs := [4, 6]) (by kernel_rfl) (by simp) ?_
  refine (AllReadyH.cons (o := { dst := some 40, op := Op.load 50 (Operand.tmp 39), type := 50, pos := "write.go:38", after := #[{ on := 3, ground := Ground.data }], guard := none }) rfl (fun K hK => ?_) (AllReadyH.cons (o := { dst := some 42, op := Op.buildSlice 50 1 #[(0, Operand.tmp 41)], type := 50, pos := "write.go:38", after := #[{ on := 5, ground := Ground.data }], guard := none }) rfl (fun K hK => ?_) AllReadyH.nil))
  · skip
    go_simp
    refine hK.out _ _ (hHeld) (fun hHeld2 => ?_)
    clear hK K hHeld
    have hHeld := hHeld2
    clear hHeld2
    try simp only [Act.put, List.setIfInBounds_toArray, List.set_cons_zero, List.set_cons_succ]
    refine wpAnyH_ready (rs := [6]) (by kernel_rfl) (by simp) ?_
    refine (AllReadyH.cons (o := { dst := some 42, op := Op.buildSlice 50 1 #[(0, Operand.tmp 41)], type := 50, pos := "write.go:38", after := #[{ on := 5, ground := Ground.data }], guard := none }) rfl (fun K hK => ?_) AllReadyH.nil)
    refine step_sliceW (by rfl) (.tmp 41) rfl (encW o) hol rfl ?_
    refine hK.out _ _ (RA.out _) (fun hHeld2 => ?_)
    clear hK K hHeld
    have hHeld := hHeld2
    clear hHeld2
    try simp only [Act.put, List.setIfInBounds_toArray, List.set_cons_zero, List.set_cons_succ]
    refine wpAnyH_ready (rs := [7]) (by kernel_rfl) (by simp) ?_
    refine (AllReadyH.cons (o := { dst := some 43, op := Op.call { callee := Callee.builtin Builtin.append, args := #[Operand.tmp 40, Operand.tmp 42], argTypes := #[50, 50] }, type := 50, pos := "write.go:38", after := #[{ on := 4, ground := Ground.data }, { on := 6, ground := Ground.data }], guard := none }) rfl (fun K hK => ?_) AllReadyH.nil)
    refine step_pushW (w := w3.drew) rfl (.tmp 40) (.tmp 42) rfl base (.slice spo D.ops.length capo) D.ops.length _ (encW o) rfl hO3 rfl hol (encW_one o) HL1.out hbs _ _ ?_
    intro v4 w4 hO4 hg4d hd4
    have hg4 := grown_undrew2 hg4d
    obtain ⟨spv, capv, rfl⟩ := ownsRow_form hO4
    obtain ⟨z5, y5, c5d, c3d, c1d, fzd, hDK5, hFr5, hGr5⟩ := PF.out w3 w4 _ _ hm3 hg3 hO4 hg4 hd4
    refine hK.out _ _ (RB.out _ w4 hg4d) (fun hHeld2 => ?_)
    clear hK K hHeld
    have hHeld := hHeld2
    clear hHeld2
    try simp only [Act.put, List.setIfInBounds_toArray, List.set_cons_zero, List.set_cons_succ]
    refine wpAnyH_take (i := 8) (oi := { dst := some 44, op := Op.nilCheck (Operand.tmp 36), type := 0, pos := "write.go:38", after := #[{ on := 0, ground := Ground.data }, { on := 0, ground := Ground.phase }, { on := 1, ground := Ground.phase }, { on := 2, ground := Ground.phase }, { on := 3, ground := Ground.phase }, { on := 4, ground := Ground.phase }, { on := 5, ground := Ground.phase }, { on := 6, ground := Ground.phase }, { on := 7, ground := Ground.phase }], guard := none }) (v := .pointer (some ⟨p, 0, none⟩)) rfl (by kernel_rfl) (by kernel_rfl) (by kernel_rfl) (fun _ _ _ h => h) (Or.inl ⟨by rfl, by intro w hS; go_simp⟩) hHeld ?_
    try simp only [Act.put, List.setIfInBounds_toArray, List.set_cons_zero, List.set_cons_succ]
    refine wpAnyH_take (i := 9) (oi := { dst := some 45, op := Op.fieldAddr 53 (Operand.tmp 44) 2, type := 0, pos := "write.go:38", after := #[{ on := 8, ground := Ground.data }, { on := 0, ground := Ground.phase }, { on := 1, ground := Ground.phase }, { on := 2, ground := Ground.phase }, { on := 3, ground := Ground.phase }, { on := 4, ground := Ground.phase }, { on := 5, ground := Ground.phase }, { on := 6, ground := Ground.phase }, { on := 7, ground := Ground.phase }], guard := none }) (v := .pointer (some ⟨p, 5, none⟩)) rfl (by kernel_rfl) (by kernel_rfl) (by kernel_rfl) (fun _ _ _ h => h) (Or.inl ⟨by rfl, by intro w hS; go_simp⟩) hHeld ?_
    try simp only [Act.put, List.setIfInBounds_toArray, List.set_cons_zero, List.set_cons_succ]
    refine wpAnyH_ready (rs := [10]) (by kernel_rfl) (by simp) ?_
    refine (AllReadyH.cons (o := { dst := none, op := Op.store 50 (Operand.tmp 45) (Operand.tmp 43), type := 0, pos := "write.go:38", after := #[{ on := 9, ground := Ground.data }, { on := 7, ground := Ground.data }, { on := 7, ground := Ground.chain }, { on := 0, ground := Ground.phase }, { on := 1, ground := Ground.phase }, { on := 2, ground := Ground.phase }, { on := 3, ground := Ground.phase }, { on := 4, ground := Ground.phase }, { on := 5, ground := Ground.phase }, { on := 6, ground := Ground.phase }, { on := 7, ground := Ground.phase }], guard := none }) rfl (fun K hK => ?_) AllReadyH.nil)
    go_simp
    refine hK.out _ _ (RC.out _ w4 _ hg4d) (fun hHeld2 => ?_)
    clear hK K hHeld
    have hHeld := hHeld2
    clear hHeld2
    try simp only [Act.put, List.setIfInBounds_toArray, List.set_cons_zero, List.set_cons_succ]
    refine wpAnyH_done (by kernel_rfl) ?_ _
    refine NoPanic.normal ?_
    clear hHeld
    generalize w4.setCell ⟨p, 5, none⟩ (.slice spv (D.ops.length + 1) capv) = W5 at *
    have f3d := fzd 3
    have f1d := fzd 1
    have hw5 := DK.put (D' := ({ D.pushed o with writes := D.writes + 1 } : DS)) hDK5 1 (.int .i64 (D.writes + 1)) rfl rfl rfl
    have HA := hid (act_in _ base _ _ hw5 HAR.out)
    have HF5 := hid (hFr5.setCell (p := p) ((DP.mem _ _).2 (Or.inl rfl)) 1 (.int .i64 (D.writes + 1)))
    have HG5 := hid hGr5
    clear hw5 hDK5 hFr5 hGr5 PF RA RB RC hO4 hg4 hd4 hm3 hg3 hO3 z5 y5 hg4d
    go_wp2_with (go_at_call 59; refine HA.out.mono ?_; rintro e w9 ⟨rfl, hDK9, hFr9⟩)
    go_ret
    exact ⟨rfl, _, rfl, hDK9, FIN.out _ (HF5.out.trans hFr9 HG5.out), HG5.out.of_le (by rw [HNN.out]; exact HS2.out)⟩
  · skip
    refine step_sliceW (by rfl) (.tmp 41) rfl (encW o) hol rfl ?_
    refine hK.out _ _ (RA.out _) (fun hHeld2 => ?_)
    clear hK K hHeld
    have hHeld := hHeld2
    clear hHeld2
    try simp only [Act.put, List.setIfInBounds_toArray, List.set_cons_zero, List.set_cons_succ]
    refine wpAnyH_ready (rs := [4]) (by kernel_rfl) (by simp) ?_
    refine (AllReadyH.cons (o := { dst := some 40, op := Op.load 50 (Operand.tmp 39), type := 50, pos := "write.go:38", after := #[{ on := 3, ground := Ground.data }], guard := none }) rfl (fun K hK => ?_) AllReadyH.nil)
    go_simp
    refine hK.out _ _ (hHeld) (fun hHeld2 => ?_)
    clear hK K hHeld
    have hHeld := hHeld2
    clear hHeld2
    try simp only [Act.put, List.setIfInBounds_toArray, List.set_cons_zero, List.set_cons_succ]
    refine wpAnyH_ready (rs := [7]) (by kernel_rfl) (by simp) ?_
    refine (AllReadyH.cons (o := { dst := some 43, op := Op.call { callee := Callee.builtin Builtin.append, args := #[Operand.tmp 40, Operand.tmp 42], argTypes := #[50, 50] }, type := 50, pos := "write.go:38", after := #[{ on := 4, ground := Ground.data }, { on := 6, ground := Ground.data }], guard := none }) rfl (fun K hK => ?_) AllReadyH.nil)
    refine step_pushW (w := w3.drew) rfl (.tmp 40) (.tmp 42) rfl base (.slice spo D.ops.length capo) D.ops.length _ (encW o) rfl hO3 rfl hol (encW_one o) HL1.out hbs _ _ ?_
    intro v4 w4 hO4 hg4d hd4
    have hg4 := grown_undrew2 hg4d
    obtain ⟨spv, capv, rfl⟩ := ownsRow_form hO4
    obtain ⟨z5, y5, c5d, c3d, c1d, fzd, hDK5, hFr5, hGr5⟩ := PF.out w3 w4 _ _ hm3 hg3 hO4 hg4 hd4
    refine hK.out _ _ (RB.out _ w4 hg4d) (fun hHeld2 => ?_)
    clear hK K hHeld
    have hHeld := hHeld2
    clear hHeld2
    try simp only [Act.put, List.setIfInBounds_toArray, List.set_cons_zero, List.set_cons_succ]
    refine wpAnyH_take (i := 8) (oi := { dst := some 44, op := Op.nilCheck (Operand.tmp 36), type := 0, pos := "write.go:38", after := #[{ on := 0, ground := Ground.data }, { on := 0, ground := Ground.phase }, { on := 1, ground := Ground.phase }, { on := 2, ground := Ground.phase }, { on := 3, ground := Ground.phase }, { on := 4, ground := Ground.phase }, { on := 5, ground := Ground.phase }, { on := 6, ground := Ground.phase }, { on := 7, ground := Ground.phase }], guard := none }) (v := .pointer (some ⟨p, 0, none⟩)) rfl (by kernel_rfl) (by kernel_rfl) (by kernel_rfl) (fun _ _ _ h => h) (Or.inl ⟨by rfl, by intro w hS; go_simp⟩) hHeld ?_
    try simp only [Act.put, List.setIfInBounds_toArray, List.set_cons_zero, List.set_cons_succ]
    refine wpAnyH_take (i := 9) (oi := { dst := some 45, op := Op.fieldAddr 53 (Operand.tmp 44) 2, type := 0, pos := "write.go:38", after := #[{ on := 8, ground := Ground.data }, { on := 0, ground := Ground.phase }, { on := 1, ground := Ground.phase }, { on := 2, ground := Ground.phase }, { on := 3, ground := Ground.phase }, { on := 4, ground := Ground.phase }, { on := 5, ground := Ground.phase }, { on := 6, ground := Ground.phase }, { on := 7, ground := Ground.phase }], guard := none }) (v := .pointer (some ⟨p, 5, none⟩)) rfl (by kernel_rfl) (by kernel_rfl) (by kernel_rfl) (fun _ _ _ h => h) (Or.inl ⟨by rfl, by intro w hS; go_simp⟩) hHeld ?_
    try simp only [Act.put, List.setIfInBounds_toArray, List.set_cons_zero, List.set_cons_succ]
    refine wpAnyH_ready (rs := [10]) (by kernel_rfl) (by simp) ?_
    refine (AllReadyH.cons (o := { dst := none, op := Op.store 50 (Operand.tmp 45) (Operand.tmp 43), type := 0, pos := "write.go:38", after := #[{ on := 9, ground := Ground.data }, { on := 7, ground := Ground.data }, { on := 7, ground := Ground.chain }, { on := 0, ground := Ground.phase }, { on := 1, ground := Ground.phase }, { on := 2, ground := Ground.phase }, { on := 3, ground := Ground.phase }, { on := 4, ground := Ground.phase }, { on := 5, ground := Ground.phase }, { on := 6, ground := Ground.phase }, { on := 7, ground := Ground.phase }], guard := none }) rfl (fun K hK => ?_) AllReadyH.nil)
    go_simp
    refine hK.out _ _ (RC.out _ w4 _ hg4d) (fun hHeld2 => ?_)
    clear hK K hHeld
    have hHeld := hHeld2
    clear hHeld2
    try simp only [Act.put, List.setIfInBounds_toArray, List.set_cons_zero, List.set_cons_succ]
    refine wpAnyH_done (by kernel_rfl) ?_ _
    refine NoPanic.normal ?_
    clear hHeld
    generalize w4.setCell ⟨p, 5, none⟩ (.slice spv (D.ops.length + 1) capv) = W5 at *
    have f3d := fzd 3
    have f1d := fzd 1
    have hw5 := DK.put (D' := ({ D.pushed o with writes := D.writes + 1 } : DS)) hDK5 1 (.int .i64 (D.writes + 1)) rfl rfl rfl
    have HA := hid (act_in _ base _ _ hw5 HAR.out)
    have HF5 := hid (hFr5.setCell (p := p) ((DP.mem _ _).2 (Or.inl rfl)) 1 (.int .i64 (D.writes + 1)))
    have HG5 := hid hGr5
    clear hw5 hDK5 hFr5 hGr5 PF RA RB RC hO4 hg4 hd4 hm3 hg3 hO3 z5 y5 hg4d
    go_wp2_with (go_at_call 59; refine HA.out.mono ?_; rintro e w9 ⟨rfl, hDK9, hFr9⟩)
    go_ret
    exact ⟨rfl, _, rfl, hDK9, FIN.out _ (HF5.out.trans hFr9 HG5.out), HG5.out.of_le (by rw [HNN.out]; exact HS2.out)⟩
set_option maxHeartbeats 400000 in
theorem Write_down (w : World) (base : Nat) (P : DP) (D : DS) (h : DK w base P D) (hpw : D.power = false) (q : Int) (v : Value) :
    Calls Try.prog 58 #[.pointer (some ⟨P.p, 0, none⟩), .int .i64 q, v] w fun e w' => e = .returned (.int .i64 2) ∧ w = w' := by
  have c7 := h.c7
  rw [hpw] at c7
  clear hpw h
  go_enter Try.func58, Try.ntmps58
  go_wp2
  go_ret
  exact ⟨rfl, rfl⟩
set_option maxHeartbeats 400000 in
theorem Write_page (w : World) (base : Nat) (P : DP) (D : DS) (h : DK w base P D) (n : Nat) (hn : D.img.length = 256 * n) (h4 : n ≤ 4096) (hpw : D.power = true) (q : Int) (hq : q < 0 ∨ (n : Int) ≤ q) (v : Value) :
    Calls Try.prog 58 #[.pointer (some ⟨P.p, 0, none⟩), .int .i64 q, v] w fun e w' => e = .returned (.int .i64 41) ∧ w = w' := by
  have c7 := h.c7
  rw [hpw] at c7
  have HP := hid (has_in w base P D h n hn h4 q)
  have HE := hid (show decide (0 ≤ q ∧ q < (n : Int)) = false from decide_eq_false (fun e => by omega))
  clear hpw h hn
  go_enter Try.func58, Try.ntmps58
  go_wp2_with (go_at_call 74; refine HP.out.mono ?_; rintro e w0 ⟨rfl, rfl⟩; rw [HE.out])
  go_ret
  exact ⟨rfl, rfl⟩
set_option maxHeartbeats 400000 in
theorem Write_size (w : World) (base : Nat) (P : DP) (D : DS) (h : DK w base P D) (n : Nat) (hn : D.img.length = 256 * n) (h4 : n ≤ 4096) (hpw : D.power = true) (q : Int) (hq : 0 ≤ q ∧ q < (n : Int)) (sp : Option Addr) (l c : Nat) (hl : ((l : Int) != 256) = true) :
    Calls Try.prog 58 #[.pointer (some ⟨P.p, 0, none⟩), .int .i64 q, .slice sp l c] w fun e w' => e = .returned (.int .i64 42) ∧ w = w' := by
  have c7 := h.c7
  rw [hpw] at c7
  have HP := hid (has_in w base P D h n hn h4 q)
  have HE := hid (show decide (0 ≤ q ∧ q < (n : Int)) = true from decide_eq_true hq)
  clear hpw h hn hq
  go_enter Try.func58, Try.ntmps58
  go_wp2_with (go_at_call 74; refine HP.out.mono ?_; rintro e w0 ⟨rfl, rfl⟩; rw [HE.out])
  go_ret
  exact ⟨rfl, rfl⟩
/-- A disk behind a write that was taken. -/
def DS.wr (D : DS) (o : OW) : DS := ({ D.pushed o with writes := D.writes + 1 } : DS).acted
theorem acted_same (D : DS) : D.acted.img = D.img ∧ D.acted.ops = D.ops ∧ D.acted.epoch = D.epoch ∧ D.acted.reads = D.reads ∧ D.acted.writes = D.writes ∧ D.acted.syncs = D.syncs := by
  unfold DS.acted
  split
  · exact ⟨rfl, rfl, rfl, rfl, rfl, rfl⟩
  · split <;> exact ⟨rfl, rfl, rfl, rfl, rfl, rfl⟩
theorem acted_ok {D : DS} (h : DsOk D) : DsOk D.acted := by
  obtain ⟨e1, e2, e3, e4, e5, e6⟩ := acted_same D
  refine ⟨by rw [e1, e2]; exact h.n, by rw [e1]; exact h.bts, by rw [e2]; exact h.ops, by rw [e4]; exact h.reads, by rw [e5]; exact h.writes, by rw [e6]; exact h.syncs, by rw [e3]; exact h.epoch, ?_⟩
  have := h.armed
  unfold DS.acted
  split
  · exact this
  · split
    · simp
    · simp only; omega
/-- How many pages. -/
def DS.np (D : DS) : Nat := D.img.length / 256
theorem DsOk.np {D : DS} (h : DsOk D) : 3 ≤ D.np ∧ D.np ≤ 4096 ∧ D.img.length = 256 * D.np ∧ ∀ o ∈ D.ops, OwOk D.np o := by
  obtain ⟨n, a, b, c, d⟩ := h.n
  have e : D.np = n := by unfold DS.np; rw [c]; omega
  rw [e]; exact ⟨a, b, c, d⟩
theorem wr_ok {D : DS} {o : OW} (h : DsOk D) (ho : OwOk D.np o) (hops : D.ops.length < 400000000000) (hwr : D.writes < 4000000000000000000) : DsOk (D.wr o) := by
  refine acted_ok ⟨⟨D.np, h.np.1, h.np.2.1, h.np.2.2.1, fun x hx => ?_⟩, h.bts, ?_, h.reads, ?_, h.syncs, h.epoch, h.armed⟩
  · rcases List.mem_append.1 hx with q | q
    · exact h.np.2.2.2 x q
    · rw [List.mem_singleton] at q; rw [q]; exact ho
  · simp [DS.pushed]; omega
  · have := h.writes; show 0 ≤ D.writes + 1 ∧ D.writes + 1 ≤ _; omega
/-- Write. -/
theorem Write_any (w : World) (base : Nat) (F : List Nat) (p : Nat) (D : DS) (h : DA w base F p D) (hbw : base ≤ w.heap.size) (hpw : D.power = true) (q : Nat) (hq : q < D.np) (data : List Int) (hd : data.length = 256) (hdb : Bts data) (sp : Option Addr) (cap : Nat) (hS : Src w sp cap data)
    (hops : D.ops.length < 400000000000) (hwr : D.writes < 4000000000000000000) :
    Calls Try.prog 58 #[.pointer (some ⟨p, 0, none⟩), .int .i64 q, .slice sp 256 cap] w fun e w' => e = .returned (.int .i64 D.actE) ∧ Nx base F p w (D.wr ⟨q, data⟩) w' := by
  obtain ⟨P, rfl, rfl, hk, hok⟩ := h
  refine (Write_in w base P D hk hok D.np hok.np.2.2.1 hok.np.2.1 hbw hpw q hq data hd sp cap hS hops hwr).mono ?_
  rintro e w' ⟨rfl, P', e1, e2, e3, e4⟩
  exact ⟨rfl, P'.fp, ⟨P', e1, rfl, e2, wr_ok hok ⟨hq, hd, hdb⟩ hops hwr⟩, e3, e4⟩
end Go.Proofs.Ytihkjfbhmlfonaa
