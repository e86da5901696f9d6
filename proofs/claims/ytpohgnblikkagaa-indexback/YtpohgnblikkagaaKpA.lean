import Derived.Test.YtpohgnblikkagaaKp9
namespace Go.Proofs.Ytpohgnblikkagaa
set_option linter.unusedVariables false
set_option linter.unusedSimpArgs false
open Go.RowKit
attribute [local go_sem ↓] Go.wp_at_zero Go.wp_at_succ

/-- What apart leaves: all but the blocks of the lists. -/
def BZ (base : Nat) (L1 : List Value) (w wr : World) : Prop := Below base w wr ∧ ∀ k, k < w.heap.size → (∀ r, r < L1.length → (L1.getD r undef).ownBlock ≠ some k) → wr.heap[k]? = w.heap[k]?
theorem BZ.refl (base : Nat) (L1 : List Value) (w : World) : BZ base L1 w w := ⟨Below.refl _ _, fun _ _ _ => rfl⟩
theorem BZ.call {base : Nat} {L1 : List Value} {w wr w2 : World} (h : BZ base L1 w wr) (hb : Below wr.heap.size wr w2) (bW : base ≤ wr.heap.size) : BZ base L1 w w2 :=
  ⟨h.1.trans (hb.mono bW), fun k hk hr => (hb.block k (Nat.lt_of_lt_of_le hk h.1.size)).trans (h.2 k hk hr)⟩
theorem BZ.drew {base : Nat} {L1 : List Value} {w wr : World} (h : BZ base L1 w wr) : BZ base L1 w wr.drew := ⟨h.1.drew, h.2⟩
theorem BZ.set {base : Nat} {L1 : List Value} {w wr : World} (h : BZ base L1 w wr) {n g : Nat} (hn : n < L1.length) (hg : (L1.getD n undef).ownBlock = some g) (hb : base ≤ g) (j : Nat) (v : Value) : BZ base L1 w (wr.setCell ⟨g, j, none⟩ v) :=
  ⟨below_set h.1 hb v, fun k hk hr => (heap_setCell_other wr _ k _ (show k ≠ g from fun e => hr n hn (e ▸ hg))).trans (h.2 k hk hr)⟩
theorem BZ.gi {base : Nat} {L1 : List Value} {w w7 wr : World} {v : Value} {m i n t : Nat} (h : BZ base L1 w w7) (hm : m < L1.length) (hI : GI w7 wr base (L1.getD m undef) v i n t) : BZ base L1 w wr :=
  ⟨h.1.trans hI.be, fun k hk hr => (hI.fr k (Nat.lt_of_lt_of_le hk h.1.size) (hr m hm)).trans (h.2 k hk hr)⟩
theorem BZ.push {base : Nat} {L1 : List Value} {w wr w2 : World} {gv : Value} (h : BZ base L1 w wr) (q2 : Below base wr w2) (q3 : ∀ k, k < wr.heap.size → gv.ownBlock ≠ some k → w2.heap[k]? = wr.heap[k]?) (hgv : ∀ k, gv.ownBlock = some k → w.heap.size ≤ k) : BZ base L1 w w2 :=
  ⟨h.1.trans q2, fun k hk hr => (q3 k (Nat.lt_of_lt_of_le hk h.1.size) (fun e => by have := hgv k e; omega)).trans (h.2 k hk hr)⟩
theorem newer_gv {w wr : World} {gv gv' : Value} (h : w.heap.size ≤ wr.heap.size) (hgv : ∀ k, gv.ownBlock = some k → w.heap.size ≤ k) (q4 : gv'.ownBlock = gv.ownBlock ∨ ∃ k, gv'.ownBlock = some k ∧ wr.heap.size ≤ k) : ∀ k, gv'.ownBlock = some k → w.heap.size ≤ k := fun k e => by
  rcases q4 with e2 | ⟨k2, e2, h2⟩
  · exact hgv k (e2 ▸ e)
  · rw [e2] at e; cases e; omega
set_option maxRecDepth 100000 in
set_option maxHeartbeats 2000000 in
theorem apart_fr (w : World) (base B : Nat) (v1 v2 : Value) (L1 L2 : List Value) (zs : List (List Int)) (h : KP w base B v1 v2 L1 L2 zs) (hN : zs.length ≤ 100000000) (hL : ∀ r, (zs.getD r []).length ≤ 140737488355000) :
    Calls Try.prog 10 #[.pointer (some ⟨B, 0, none⟩)] w fun e w' => e = .returned (.bool true) ∧ BZ base L1 w w' := by
  obtain ⟨N, hNe⟩ : ∃ N, N = zs.length := ⟨_, rfl⟩
  have i0 : (N : Int) ≤ 100000000 := by omega
  obtain ⟨s1, k1, b1x, hv1, _⟩ := h.pk.o1.at
  rw [h.l1, ← hNe] at hv1
  have HA := hid h.ap'
  have HN := hid hNe
  have HV := hid hv1
  have HL := hid hL
  have HM := hid (show Mk zs zs 0 0 from ⟨rfl, fun _ => rfl, fun r h1 => by omega, fun j hj => by omega⟩)
  clear h hv1 hN hNe hL
  go_enter Try.func10, Try.ntmps10
  go_wp2
  go_loopw [3, 4] (fun i kv wr => ∃ n : Nat, n ≤ N ∧ i = .int .i64 n ∧ ∃ cs, Mk zs cs n 0 ∧ AP wr base B v1 v2 L1 cs ∧ BZ base L1 w wr) (fun i _ _ => N - (intOf i).toNat)
  case atStart => exact ⟨0, by omega, rfl, zs, HM.out, HA.out, BZ.refl _ _ _⟩
  case round =>
    clear HA HM
    obtain ⟨n, hn, rfl, cs, hM, hA, hB⟩ := hrel
    have c1 : wr.cell? ⟨B, 0, none⟩ = some (.slice s1 N k1) := by rw [cell_of_row _ _ _ _ _ _ hA.bk, HV.out]; rfl
    by_cases hlt1 : n < N
    · have i1 : (n : Int) < (N : Int) := by omega
      have hnz : n < zs.length := by have := HN.out; omega
      obtain ⟨len, hlen⟩ : ∃ len, len = (zs.getD n []).length := ⟨_, rfl⟩
      have hl9 := HL.out n
      rw [← hlen] at hl9
      have i2 : (len : Int) ≤ 140737488355000 := by omega
      have HM := hid hM
      have HA := hid hA
      have HLN := hid hlen
      clear hM hA hlen
      go_wp2
      go_loopw [4] (fun i wr => ∃ k : Nat, k ≤ len ∧ i = .int .i64 k ∧ ∃ cs, Mk zs cs n k ∧ AP wr base B v1 v2 L1 cs ∧ BZ base L1 w wr) (fun i _ => len - (intOf i).toNat)
      case atStart => exact ⟨0, by omega, rfl, cs, HM.out, HA.out, hB⟩
      case round =>
        clear HM HA hB c1
        obtain ⟨k, hk, rfl, cs, hM, hA2, hB⟩ := hrel
        have hnc : n < cs.length := by rw [hM.1]; exact hnz
        have c1 : wr.cell? ⟨B, 0, none⟩ = some (.slice s1 N k1) := by rw [cell_of_row _ _ _ _ _ _ hA2.bk, HV.out]; rfl
        obtain ⟨b1, k1', cur, e1, hr, hcur⟩ := hA2.o1.row n (by rw [hA2.l1]; exact hnc)
        rw [HV.out, hA2.l1, hM.1, ← HN.out] at e1
        cases e1
        obtain ⟨sp3, c3, g3, S3, _⟩ := (hA2.e1 n hnc).form
        rw [hM.2.1, ← HLN.out] at g3
        have c2 : wr.cell? ⟨b1, n, none⟩ = some (.slice sp3 len c3) := by rw [cell_of_row _ _ _ _ _ _ hr, hcur, g3]
        by_cases hlk : k < len
        · have i3 : (k : Int) < (len : Int) := by omega
          obtain ⟨g, c4, cur4, g4, hg, hh, hc, hset⟩ := hA2.set n hnc k (by rw [hM.2.1, ← HLN.out]; exact hlk)
          rw [g3, hM.2.1, ← HLN.out] at g4
          cases g4
          have HC := hid (show cur[n]? = some (.slice (some ⟨g, 0, none⟩) len c3) from hcur.trans (by rw [g3]))
          have HR := hid hr
          have HNE := hid (show B ≠ g ∧ b1 ≠ g from ⟨ne_tyK hA2.bk hh (by decide), ne_tyK hr hh (by decide)⟩)
          have HF := hid (And.intro (hset (mkK n k)) (hM.set hnz (by rw [← HLN.out]; exact hlk)))
          have HB := hid (hB.set (n := n) (g := g) (by rw [hA2.l1]; exact hnc) (by rw [g3]; rfl) hg k (.int .u8 (mkK n k)))
          have hcd : wr.drew.cell? ⟨g, k, none⟩ = some (.int .u8 ((cs.getD n []).getD k 0)) := hc
          have hfd : wr.drew.frozen? ⟨g, k, none⟩ = false := frozen_of_row _ _ _ _ _ hh
          generalize (cs.getD n []).getD k 0 = z9 at hc hcd
          clear hset hM S3 hcur hr
          go_wp2
          refine wp_region_noPanic ?_
          refine wp_region_held_drew (S := fun w' => w'.heap[B]? = some (.cells #[v1, v2] 36 (0, 0)) ∧ w'.heap[b1]? = some (.cells cur 26 (0, 0))) (by kernel_rfl) ⟨hA2.bk, HR.out⟩ (fun hHeld => ?_)
          refine wpAnyH_take (i := 0) (oi := { dst := some 30, op := Op.move (Operand.tmp 0), type := 33, pos := "keeper.go:45", after := #[], guard := none }) (v := .pointer (some ⟨B, 0, none⟩)) rfl (by kernel_rfl) (by kernel_rfl) (by kernel_rfl) (fun _ _ _ h => h) (Or.inl ⟨by rfl, by intro w hS; go_simp⟩) hHeld ?_
          try simp only [Act.put, List.setIfInBounds_toArray, List.set_cons_zero, List.set_cons_succ]
          refine wpAnyH_take (i := 4) (oi := { dst := some 34, op := Op.move (Operand.tmp 3), type := 3, pos := "keeper.go:45", after := #[], guard := none }) (v := .int .i64 n) rfl (by kernel_rfl) (by kernel_rfl) (by kernel_rfl) (fun _ _ _ h => h) (Or.inl ⟨by rfl, by intro w hS; go_simp⟩) hHeld ?_
          try simp only [Act.put, List.setIfInBounds_toArray, List.set_cons_zero, List.set_cons_succ]
          refine wpAnyH_take (i := 7) (oi := { dst := some 37, op := Op.move (Operand.tmp 4), type := 3, pos := "keeper.go:45", after := #[], guard := none }) (v := .int .i64 k) rfl (by kernel_rfl) (by kernel_rfl) (by kernel_rfl) (fun _ _ _ h => h) (Or.inl ⟨by rfl, by intro w hS; go_simp⟩) hHeld ?_
          try simp only [Act.put, List.setIfInBounds_toArray, List.set_cons_zero, List.set_cons_succ]
          refine wpAnyH_take (i := 8) (oi := { dst := some 38, op := Op.move (Operand.tmp 3), type := 3, pos := "keeper.go:45", after := #[], guard := none }) (v := .int .i64 n) rfl (by kernel_rfl) (by kernel_rfl) (by kernel_rfl) (fun _ _ _ h => h) (Or.inl ⟨by rfl, by intro w hS; go_simp⟩) hHeld ?_
          try simp only [Act.put, List.setIfInBounds_toArray, List.set_cons_zero, List.set_cons_succ]
          refine wpAnyH_take (i := 9) (oi := { dst := some 39, op := Op.move (Operand.tmp 4), type := 3, pos := "keeper.go:45", after := #[], guard := none }) (v := .int .i64 k) rfl (by kernel_rfl) (by kernel_rfl) (by kernel_rfl) (fun _ _ _ h => h) (Or.inl ⟨by rfl, by intro w hS; go_simp⟩) hHeld ?_
          try simp only [Act.put, List.setIfInBounds_toArray, List.set_cons_zero, List.set_cons_succ]
          refine wpAnyH_take (i := 1) (oi := { dst := some 31, op := Op.nilCheck (Operand.tmp 30), type := 0, pos := "keeper.go:45", after := #[{ on := 0, ground := Ground.data }], guard := none }) (v := .pointer (some ⟨B, 0, none⟩)) rfl (by kernel_rfl) (by kernel_rfl) (by kernel_rfl) (fun _ _ _ h => h) (Or.inl ⟨by rfl, by intro w hS; go_simp⟩) hHeld ?_
          try simp only [Act.put, List.setIfInBounds_toArray, List.set_cons_zero, List.set_cons_succ]
          refine wpAnyH_take (i := 2) (oi := { dst := some 32, op := Op.fieldAddr 36 (Operand.tmp 31) 0, type := 0, pos := "keeper.go:45", after := #[{ on := 1, ground := Ground.data }], guard := none }) (v := .pointer (some ⟨B, 0, none⟩)) rfl (by kernel_rfl) (by kernel_rfl) (by kernel_rfl) (fun _ _ _ h => h) (Or.inl ⟨by rfl, by intro w hS; go_simp⟩) hHeld ?_
          try simp only [Act.put, List.setIfInBounds_toArray, List.set_cons_zero, List.set_cons_succ]
          refine wpAnyH_take (i := 3) (oi := { dst := some 33, op := Op.load 34 (Operand.tmp 32), type := 34, pos := "keeper.go:45", after := #[{ on := 2, ground := Ground.data }], guard := none }) (v := .slice (some ⟨b1, 0, none⟩) N k1) rfl (by kernel_rfl) (by kernel_rfl) (by kernel_rfl) (fun _ _ _ h => h) (Or.inl ⟨by rfl, by intro w hS; have hc := (show w.cell? ⟨B, 0, none⟩ = some (.slice (some ⟨b1, 0, none⟩) N k1) from by rw [cell_of_row _ _ _ _ _ _ hS.1, HV.out]; rfl); go_simp⟩) hHeld ?_
          try simp only [Act.put, List.setIfInBounds_toArray, List.set_cons_zero, List.set_cons_succ]
          refine wpAnyH_take (i := 5) (oi := { dst := some 35, op := Op.indexAddr 34 (Operand.tmp 33) (Operand.tmp 34), type := 0, pos := "keeper.go:45", after := #[{ on := 3, ground := Ground.data }, { on := 4, ground := Ground.data }], guard := none }) (v := .pointer (some ⟨b1, 0 + n, none⟩)) rfl (by kernel_rfl) (by kernel_rfl) (by kernel_rfl) (fun _ _ _ h => h) (Or.inl ⟨by rfl, by intro w hS; go_simp⟩) hHeld ?_
          try simp only [Act.put, List.setIfInBounds_toArray, List.set_cons_zero, List.set_cons_succ]
          refine wpAnyH_take (i := 6) (oi := { dst := some 36, op := Op.load 26 (Operand.tmp 35), type := 26, pos := "keeper.go:45", after := #[{ on := 5, ground := Ground.data }], guard := none }) (v := .slice (some ⟨g, 0, none⟩) len c3) rfl (by kernel_rfl) (by kernel_rfl) (by kernel_rfl) (fun _ _ _ h => h) (Or.inl ⟨by rfl, by intro w hS; have hc := (show w.cell? ⟨b1, n, none⟩ = some (.slice (some ⟨g, 0, none⟩) len c3) from by rw [cell_of_row _ _ _ _ _ _ hS.2]; exact HC.out); go_simp⟩) hHeld ?_
          try simp only [Act.put, List.setIfInBounds_toArray, List.set_cons_zero, List.set_cons_succ]
          refine wpAnyH_ready (rs := [10]) (by kernel_rfl) (by simp) ?_
          refine (AllReadyH.cons (o := { dst := some 40, op := Op.call { callee := Callee.value (Operand.func 16), args := #[Operand.tmp 38, Operand.tmp 39], argTypes := #[3, 3] }, type := 5, pos := "keeper.go:45", after := #[{ on := 8, ground := Ground.data }, { on := 9, ground := Ground.data }], guard := none }) rfl (fun K hK => ?_) AllReadyH.nil)
          go_simp
          go_at_call 16
          refine (mark_any _ n k (by omega) (by omega)).mono ?_
          rintro e w4 ⟨rfl, rfl⟩
          go_wp2_with fail
          refine hK.out _ _ (hHeld) (fun hHeld2 => ?_)
          clear hK K hHeld
          have hHeld := hHeld2
          clear hHeld2
          try simp only [Act.put, List.setIfInBounds_toArray, List.set_cons_zero, List.set_cons_succ]
          refine wpAnyH_take (i := 11) (oi := { dst := some 41, op := Op.indexAddr 26 (Operand.tmp 36) (Operand.tmp 37), type := 0, pos := "keeper.go:45", after := #[{ on := 6, ground := Ground.data }, { on := 7, ground := Ground.data }, { on := 0, ground := Ground.phase }, { on := 1, ground := Ground.phase }, { on := 2, ground := Ground.phase }, { on := 3, ground := Ground.phase }, { on := 4, ground := Ground.phase }, { on := 5, ground := Ground.phase }, { on := 6, ground := Ground.phase }, { on := 7, ground := Ground.phase }, { on := 8, ground := Ground.phase }, { on := 9, ground := Ground.phase }, { on := 10, ground := Ground.phase }], guard := none }) (v := .pointer (some ⟨g, 0 + k, none⟩)) rfl (by kernel_rfl) (by kernel_rfl) (by kernel_rfl) (fun _ _ _ h => h) (Or.inl ⟨by rfl, by intro w hS; go_simp⟩) hHeld ?_
          try simp only [Act.put, List.setIfInBounds_toArray, List.set_cons_zero, List.set_cons_succ]
          refine wpAnyH_ready (rs := [12]) (by kernel_rfl) (by simp) ?_
          refine (AllReadyH.cons (o := { dst := none, op := Op.store 5 (Operand.tmp 41) (Operand.tmp 40), type := 0, pos := "keeper.go:45", after := #[{ on := 11, ground := Ground.data }, { on := 10, ground := Ground.data }, { on := 10, ground := Ground.chain }, { on := 0, ground := Ground.phase }, { on := 1, ground := Ground.phase }, { on := 2, ground := Ground.phase }, { on := 3, ground := Ground.phase }, { on := 4, ground := Ground.phase }, { on := 5, ground := Ground.phase }, { on := 6, ground := Ground.phase }, { on := 7, ground := Ground.phase }, { on := 8, ground := Ground.phase }, { on := 9, ground := Ground.phase }, { on := 10, ground := Ground.phase }], guard := none }) rfl (fun K hK => ?_) AllReadyH.nil)
          go_simp
          refine hK.out _ _ (⟨heap_set_far hHeld.1 _ _ HNE.out.1, heap_set_far hHeld.2 _ _ HNE.out.2⟩) (fun hHeld2 => ?_)
          clear hK K hHeld
          have hHeld := hHeld2
          clear hHeld2
          try simp only [Act.put, List.setIfInBounds_toArray, List.set_cons_zero, List.set_cons_succ]
          refine wpAnyH_done (by kernel_rfl) ?_ _
          refine NoPanic.normal ?_
          clear hHeld
          go_wp2
          go_roundw
          case rel => exact ⟨k + 1, by omega, by go_num, _, HF.out.2, HF.out.1.drew, HB.out.drew⟩
          case measure => simp [intOf]; omega
        · obtain rfl : k = len := by omega
          have HX := hid (show Mk zs cs (n + 1) 0 from Mk.next (by rw [← HLN.out]; exact hM))
          clear hlk
          go_wp2
          go_roundw
          case rel => exact ⟨n + 1, by omega, by go_num, cs, HX.out, hA2, hB⟩
          case measure => simp [intOf]; omega
    · obtain rfl : n = N := by omega
      have hcl : cs.length = n := by rw [hM.1, HN.out]
      have hmk : ∀ r, r < cs.length → cs.getD r [] = mksK r (cs.getD r []).length := fun r hr => by rw [hM.2.2.1 r (by omega) (by rw [← hM.1]; exact hr), mksK_len]
      have hll : ∀ r, (cs.getD r []).length ≤ 140737488355000 := fun r => by rw [hM.2.1]; exact HL.out r
      obtain ⟨sp1, k1x, g1, R1⟩ := hA.rws
      rw [HV.out, hcl] at g1
      cases g1
      have HMA := hid (show ∀ w9, Rws w9 s1 cs → Calls Try.prog 17 #[.slice s1 n k1] w9 fun e w' => e = .returned (.bool true) ∧ Below w9.heap.size w9 w' from fun w9 hR => by have := marked_any w9 cs s1 k1 hR (by omega) (fun r _ => by have := hll r; omega) hmk; rwa [hcl] at this)
      go_wp2_with fail
      refine (HMA.out wr R1).mono ?_
      rintro e w2 ⟨rfl, hb2⟩
      have hG := (hA.below hb2).gr
      have bW := Nat.le_trans hA.hb (Nat.le_of_lt (hlt hA.bk))
      have hB2 : BZ base L1 w w2 := hB.call hb2 bW
      have HC := hid hcl
      have HK := hid hmk
      have HLL := hid hll
      have HG := hid hG
      clear hM hA R1 hcl hmk hll c1 hlt1 hB hb2 bW hG
      go_wp2
      go_loopw [5, 6, 7, 8] (fun gv i _ _ wr => ∃ m : Nat, m ≤ n ∧ i = .int .i64 m ∧ ∃ G, GR wr base B v1 v2 gv L1 G cs m ∧ BZ base L1 w wr ∧ ∀ k, gv.ownBlock = some k → w.heap.size ≤ k) (fun _ i _ _ _ => n - (intOf i).toNat)
      case atStart => exact ⟨0, by omega, rfl, [], HG.out, hB2, fun k e => by simp [Value.ownBlock] at e⟩
      case round =>
        clear HG hB2
        obtain ⟨m, hm, rfl, G, hR, hB, hgv⟩ := hrel
        obtain ⟨s5, n5, k5, rfl⟩ := hR.og.sl
        have c1 : wr.cell? ⟨B, 0, none⟩ = some (.slice s1 n k1) := by rw [cell_of_row _ _ _ _ _ _ hR.bk, HV.out]; rfl
        by_cases hlt2 : m < n
        · have i1 : (m : Int) < (n : Int) := by omega
          have hmc : m < cs.length := by rw [HC.out]; exact hlt2
          obtain ⟨len, hlen⟩ : ∃ len, len = (cs.getD m []).length := ⟨_, rfl⟩
          have hl9 := HLL.out m
          rw [← hlen] at hl9
          have i2 : (len : Int) ≤ 140737488355000 := by omega
          obtain ⟨b1, k1', cur, e1, hr, hcur⟩ := hR.o1.row m (by rw [hR.l1]; exact hmc)
          rw [HV.out, hR.l1, HC.out] at e1
          cases e1
          have hO := hR.e1 m (Nat.le_refl _) hmc
          obtain ⟨sp3, c3, g3, _, _⟩ := hO.form
          rw [← hlen] at g3
          have c2 : wr.cell? ⟨b1, m, none⟩ = some (.slice sp3 len c3) := by rw [cell_of_row _ _ _ _ _ _ hr, hcur, g3]
          rw [HK.out m hmc, ← hlen] at hO
          have HGI := hid (GI.start hO)
          have HU := hid (fun k e => (hO.block k e).2)
          have HRR := hid hR
          have HLE := hid hlen
          have bW := Nat.le_trans hR.hb (Nat.le_of_lt (hlt hR.bk))
          rw [g3] at HGI HU
          have HG3 := hid g3
          obtain ⟨w7, hw7⟩ : ∃ w7, w7 = wr := ⟨_, rfl⟩
          rw [← hw7] at HGI HU HRR bW
          have HB7 := hid (show BZ base L1 w w7 by rw [hw7]; exact hB)
          have HGV := hid hgv
          clear hgv
          have HW7 := hid hw7
          clear hO hR hcur hr g3 hlen hw7 hB
          go_wp2
          go_loopw [7, 8] (fun v i wr => ∃ t : Nat, t ≤ 300 ∧ i = .int .i64 t ∧ GI w7 wr base (.slice sp3 len c3) v m len t) (fun _ i _ => 300 - (intOf i).toNat)
          case atStart => exact ⟨0, by omega, rfl, by rw [← HW7.out]; exact HGI.out⟩
          case round =>
            clear HGI c1 c2 HW7
            obtain ⟨t, ht, rfl, hI⟩ := hrel
            obtain ⟨sp6, c6, g6, _, _⟩ := hI.ow.form
            rw [mksK_len] at g6
            by_cases ht3 : t < 300
            · have i3 : (t : Int) < 300 := by omega
              obtain ⟨q, hq⟩ : ∃ q, q = len + t := ⟨_, rfl⟩
              have i4 : (q : Int) ≤ 140737488355300 := by omega
              rw [← hq] at g6
              have HI := hid hI
              have hOw := hI.ow
              rw [← hq] at hOw
              rw [g6] at hOw
              have HQ := hid hq
              have KL := hid (show (mksK m q).length + 1 ≤ 140737488355328 by rw [mksK_len]; omega)
              have bS : base ≤ wr.heap.size := Nat.le_trans bW hI.be.size
              subst g6
              clear hI hq
              go_wp2_with fail
              refine (mark_any wr m q (by omega) (by omega)).mono ?_
              rintro e w9 ⟨rfl, rfl⟩
              generalize hx9 : mkK m q = x9
              have HX9 := hid hx9
              clear hx9
              go_wp2_with (first | (at_builtin; refine wpList_growK rfl (.tmp 68) (.tmp 73) rfl base _ _ x9 rfl hOw rfl KL.out bS _ _ ?_; intro v' w' q1 q2 q3 q4 q5 q6))
              go_roundw
              case rel => exact ⟨t + 1, by omega, by go_num, HI.out.step HU.out (by rw [← HQ.out, HX9.out]; exact q1) q2 q3 q4 (by rw [← HQ.out]; exact q5) q6⟩
              case measure => simp [intOf]; omega
            · obtain rfl : t = 300 := by omega
              clear ht3
              have HI := hid hI
              obtain ⟨n9, hn9⟩ : ∃ n9, n9 = len + 300 := ⟨_, rfl⟩
              rw [← hn9] at g6
              have KG := hid (show G.length + [Value.slice sp6 n9 c6].length ≤ 1000000000000 by rw [HRR.out.lg]; simp; omega)
              have OG : OwnK wr base (.slice s5 n5 k5) G := HRR.out.og.of_heap fun k e => by
                obtain ⟨_, hl, c2, h2⟩ := HRR.out.og.heap k e
                refine hI.fr k hl fun e3 => ?_
                obtain ⟨_, c4, h4⟩ := own_block5 (HRR.out.e1 m (Nat.le_refl _) hmc) (by rw [HG3.out]; exact e3)
                exact ne_tyK h2 h4 (by decide) rfl
              have bS : base ≤ wr.heap.size := Nat.le_trans bW hI.be.size
              clear hn9
              subst g6
              have HBI := hid (HB7.out.gi (m := m) (by rw [HRR.out.l1]; exact hmc) (by rw [HG3.out]; exact hI))
              clear hI
              go_wp2_with (first | (at_builtin; refine wpList_pushKp rfl (.tmp 75) (.tmp 77) rfl base _ G [.slice sp6 n9 c6] rfl OG rfl (fun y hy => by simp at hy; rw [hy]; rfl) KG.out bS _ _ ?_; intro gv' w' q1 q2 q3 q4))
              go_roundw
              case rel => exact ⟨m + 1, by omega, by go_num, _, HRR.out.next hmc (HK.out m hmc) (by rw [HG3.out, ← HLE.out]; exact HI.out) q1 q3 q4, HBI.out.push q2 q3 HGV.out, newer_gv HBI.out.1.size HGV.out q4⟩
              case measure => simp [intOf]; omega
        · obtain rfl : m = n := by omega
          clear hlt2
          obtain ⟨sp8, k8, g8, R8⟩ := hR.rws1
          rw [HV.out, HC.out] at g8
          cases g8
          have hR8 : GR wr base B v1 v2 (.slice s5 n5 k5) L1 G cs cs.length := by rw [HC.out]; exact hR
          have bW := Nat.le_trans hR.hb (Nat.le_of_lt (hlt hR.bk))
          have HR8 := hid hR8
          clear hR hR8
          go_wp2_with fail
          refine (HMA.out wr R8).mono ?_
          rintro e w2 ⟨rfl, hb2⟩
          have h2 := HR8.out.below hb2
          obtain ⟨sp9, k9, g9, R9⟩ := h2.rwsG
          have HBB := hid (hB.call hb2 bW)
          have hM9 := marked_any w2 (grown cs) sp9 k9 R9 (by rw [grown_len, HC.out]; omega) (fun r hr => by rw [grown_len] at hr; rw [grown_get cs r hr, mksK_len]; have := HLL.out r; omega) (fun r hr => by rw [grown_len] at hr; rw [grown_get cs r hr, mksK_len])
          rw [← g9] at hM9
          have b2W := Nat.le_trans h2.hb (Nat.le_of_lt (hlt h2.bk))
          have HM9 := hid hM9
          clear hM9 g9 R9 h2 R8
          go_wp2_with fail
          refine HM9.out.mono ?_
          rintro e w3 ⟨rfl, hb3⟩
          have HZ := hid (HBB.out.call hb3 b2W)
          go_wp2
          go_ret
          exact ⟨rfl, HZ.out⟩
theorem apart_any (w : World) (base B : Nat) (v1 v2 : Value) (L1 L2 : List Value) (zs : List (List Int)) (h : KP w base B v1 v2 L1 L2 zs) (hN : zs.length ≤ 100000000) (hL : ∀ r, (zs.getD r []).length ≤ 140737488355000) :
    Calls Try.prog 10 #[.pointer (some ⟨B, 0, none⟩)] w fun e w' => e = .returned (.bool true) ∧ Below base w w' :=
  (apart_fr w base B v1 v2 L1 L2 zs h hN hL).mono fun e w' ⟨a, b⟩ => ⟨a, b.1⟩
end Go.Proofs.Ytpohgnblikkagaa
