import Derived.Test.YtlhmhpkgdcdjkaaZg2
namespace Go.Proofs.Ytlhmhpkgdcdjkaa
set_option linter.unusedVariables false
set_option linter.unusedSimpArgs false
open Go.RowKit
attribute [local go_sem ↓] Go.wp_at_zero Go.wp_at_succ

theorem eqA_self (xs : List Int) (ha : xs.length = 32) (w : World) : (Op.equalIn 10000 23 (.agg (ints .u8 xs).toArray) (.agg (ints .u8 xs).toArray)).run Try.prog w = .ok true w := by
  have := equalIn_ints Try.underlying23 Try.underlying5 Try.size5 .u8 xs xs ha ha w
  rwa [show decide (xs = xs) = true by simp] at this
theorem eqD_self (xs : List Int) (ha : xs.length = 32) (w : World) : (Op.equalIn 10000 43 (.agg (ints .u8 xs).toArray) (.agg (ints .u8 xs).toArray)).run Try.prog w = .ok true w := by
  have := equalIn_ints Try.underlying43 Try.underlying5 Try.size5 .u8 xs xs ha ha w
  rwa [show decide (xs = xs) = true by simp] at this
set_option maxRecDepth 100000 in
set_option maxHeartbeats 2000000 in
theorem sameProof_self (w : World) (p : Pf) (ok : PfOk p) (s1 s2 t1 t2 : Option Addr) (c1 c2 e1 e2 : Nat) (h1 : Src w s1 c1 p.vs) (h2 : Src w s2 c2 p.vs) (g1 : SrcD w t1 e1 p.ss) (g2 : SrcD w t2 e2 p.ss) :
    Calls Try.prog 12 #[.agg (pfC p (.slice s1 p.vs.length c1) (.slice t1 p.ss.length e1)).toArray, .agg (pfC p (.slice s2 p.vs.length c2) (.slice t2 p.ss.length e2)).toArray] w fun e w' => e = .returned (.bool true) ∧ Below w.heap.size w w' := by
  have d0 := ((BK.nil w).alloc (pfC p (.slice s1 p.vs.length c1) (.slice t1 p.ss.length e1)) 26).alloc (pfC p (.slice s2 p.vs.length c2) (.slice t2 p.ss.length e2)) 26
  rw [show (w.alloc (.cells (pfC p (.slice s1 p.vs.length c1) (.slice t1 p.ss.length e1)).toArray 26)).heap.size = w.heap.size + 1 by simp] at d0
  have x0 := d0.cell (.tail _ (.head _)) (pfC_f p (.slice s1 p.vs.length c1) (.slice t1 p.ss.length e1))
  have x1 := d0.cell (.tail _ (.head _)) (pfC_v p (.slice s1 p.vs.length c1) (.slice t1 p.ss.length e1))
  have y0 := d0.cell (.head _) (pfC_f p (.slice s2 p.vs.length c2) (.slice t2 p.ss.length e2))
  have y1 := d0.cell (.head _) (pfC_v p (.slice s2 p.vs.length c2) (.slice t2 p.ss.length e2))
  have k34 := hid (pfC_s ok (.slice s1 p.vs.length c1) (.slice t1 p.ss.length e1))
  have l34 := hid (pfC_s ok (.slice s2 p.vs.length c2) (.slice t2 p.ss.length e2))
  have kb := hid (pfC_b p (.slice s1 p.vs.length c1) (.slice t1 p.ss.length e1))
  have lb := hid (pfC_b p (.slice s2 p.vs.length c2) (.slice t2 p.ss.length e2))
  have S1 := hid (h1.below d0.1 (Nat.le_refl _))
  have S2 := hid (h2.below d0.1 (Nat.le_refl _))
  have KS := hid (fun w1 (h1 : Src w1 s1 c1 p.vs) (h2 : Src w1 s2 c2 p.vs) => same_self w1 p.vs s1 s2 c1 c2 h1 h2)
  have SA := hid (show (Try.prog.info? 23).map (·.size) = some (ints .u8 p.bs).length by rw [Try.sizeA, ints_len, ok.bs])
  have qA := eqA_self p.bs ok.bs
  have gA := Try.guardA
  have gD := Try.guardDg
  have hm : (p.ss.length : Int) ≤ 9223372036854775807 := by have a := g1.1; have b := g1.2.1; unfold maxLen at b; omega
  have DL := hid (fun j (hj : j < p.ss.length) => g1.dlen j hj)
  have G1 := hid g1
  have G2 := hid g2
  generalize pfC p (.slice s1 p.vs.length c1) (.slice t1 p.ss.length e1) = N1 at *
  generalize pfC p (.slice s2 p.vs.length c2) (.slice t2 p.ss.length e2) = N2 at *
  generalize ints .u8 p.bs = IB at *
  generalize p.f = vf at *
  go_enter Try.func12, Try.ntmps12
  go_wp2_with fail
  refine (KS.out _ S1.out S2.out).mono ?_
  rintro e w1 ⟨rfl, hb1⟩
  have d1 := d0.call hb1
  have xb := d1.rng (.tail _ (.head _)) kb.out
  have yb := d1.rng (.head _) lb.out
  have xs := d1.cell (.tail _ (.head _)) k34.out
  have ys := d1.cell (.head _) l34.out
  go_wp2_with (first
    | refine wpList_load_mid_w (by rfl) 23 _ (by rfl) w.heap.size 2 (by rfl) _ _ xb Try.underlying23 rfl SA.out ?_
    | refine wpList_load_mid_w (by rfl) 23 _ (by rfl) (w.heap.size + 1) 2 (by rfl) _ _ yb Try.underlying23 rfl SA.out ?_)
  clear xs ys xb yb x0 x1 y0 y1 d0 S1 S2
  go_loopw [5] (fun i wr => ∃ k : Nat, k ≤ p.ss.length ∧ i = .int .i64 k ∧ BK w wr [(w.heap.size + 1, N2, 26), (w.heap.size, N1, 26)]) (fun i _ => p.ss.length - (intOf i).toNat)
  case atStart => exact ⟨0, by omega, rfl, d1⟩
  case round =>
    clear d1 hb1
    obtain ⟨k, hk, rfl, d1⟩ := hrel
    have xs := d1.cell (.tail _ (.head _)) k34.out
    by_cases hlt : k < p.ss.length
    · have i1 : (k : Int) < (p.ss.length : Int) := by omega
      have dl := DL.out k hlt
      obtain ⟨b1, o1, rfl, hl1, R1⟩ := G1.out.at (by omega)
      obtain ⟨b2, o2, rfl, hl2, R2⟩ := G2.out.at (by omega)
      have r1 := R1 k hlt
      have r2 := R2 k hlt
      have qD := eqD_self _ dl
      have SD := hid (show (Try.prog.info? 43).map (·.size) = some (ints .u8 (p.ss.getD k [])).length by rw [Try.sizeD, ints_len, dl])
      clear dl R1 R2
      generalize ints .u8 (p.ss.getD k []) = D at *
      generalize p.ss.length = m at *
      go_wp2
      refine wp_region_noPanic ?_
      refine wp_region_held_drew (S := (fun w' => BK w w' [(w.heap.size + 1, N2, 26), (w.heap.size, N1, 26)])) (by kernel_rfl) d1.drew (fun hHeld => ?_)
      refine wpAnyH_take (i := 0) (oi := { dst := some 42, op := Op.fieldAddr 26 (Operand.tmp 2) 3, type := 0, pos := "law.go:61", after := #[], guard := none }) (v := .pointer (some ⟨w.heap.size, 34, none⟩)) rfl (by kernel_rfl) (by kernel_rfl) (by kernel_rfl) (fun _ _ _ h => h) (Or.inl ⟨by rfl, by intro w hS; go_simp⟩) hHeld ?_
      try simp only [Act.put, List.setIfInBounds_toArray, List.set_cons_zero, List.set_cons_succ]
      refine wpAnyH_take (i := 2) (oi := { dst := some 44, op := Op.move (Operand.tmp 5), type := 3, pos := "law.go:61", after := #[], guard := none }) (v := .int .i64 k) rfl (by kernel_rfl) (by kernel_rfl) (by kernel_rfl) (fun _ _ _ h => h) (Or.inl ⟨by rfl, by intro w hS; go_simp⟩) hHeld ?_
      try simp only [Act.put, List.setIfInBounds_toArray, List.set_cons_zero, List.set_cons_succ]
      refine wpAnyH_take (i := 5) (oi := { dst := some 47, op := Op.fieldAddr 26 (Operand.tmp 3) 3, type := 0, pos := "law.go:61", after := #[], guard := none }) (v := .pointer (some ⟨(w.heap.size + 1), 34, none⟩)) rfl (by kernel_rfl) (by kernel_rfl) (by kernel_rfl) (fun _ _ _ h => h) (Or.inl ⟨by rfl, by intro w hS; go_simp⟩) hHeld ?_
      try simp only [Act.put, List.setIfInBounds_toArray, List.set_cons_zero, List.set_cons_succ]
      refine wpAnyH_take (i := 7) (oi := { dst := some 49, op := Op.move (Operand.tmp 5), type := 3, pos := "law.go:61", after := #[], guard := none }) (v := .int .i64 k) rfl (by kernel_rfl) (by kernel_rfl) (by kernel_rfl) (fun _ _ _ h => h) (Or.inl ⟨by rfl, by intro w hS; go_simp⟩) hHeld ?_
      try simp only [Act.put, List.setIfInBounds_toArray, List.set_cons_zero, List.set_cons_succ]
      refine wpAnyH_take (i := 1) (oi := { dst := some 43, op := Op.load 24 (Operand.tmp 42), type := 24, pos := "law.go:61", after := #[{ on := 0, ground := Ground.data }], guard := none }) (v := .slice (some ⟨b1, o1, none⟩) m e1) rfl (by kernel_rfl) (by kernel_rfl) (by kernel_rfl) (fun _ _ _ h => h) (Or.inl ⟨by rfl, by intro w hS; have hc := hS.cell (.tail _ (.head _)) k34.out; go_simp⟩) hHeld ?_
      try simp only [Act.put, List.setIfInBounds_toArray, List.set_cons_zero, List.set_cons_succ]
      refine wpAnyH_take (i := 6) (oi := { dst := some 48, op := Op.load 24 (Operand.tmp 47), type := 24, pos := "law.go:61", after := #[{ on := 5, ground := Ground.data }], guard := none }) (v := .slice (some ⟨b2, o2, none⟩) m e2) rfl (by kernel_rfl) (by kernel_rfl) (by kernel_rfl) (fun _ _ _ h => h) (Or.inl ⟨by rfl, by intro w hS; have hc := hS.cell (.head _) l34.out; go_simp⟩) hHeld ?_
      try simp only [Act.put, List.setIfInBounds_toArray, List.set_cons_zero, List.set_cons_succ]
      refine wpAnyH_take (i := 3) (oi := { dst := some 45, op := Op.indexAddr 24 (Operand.tmp 43) (Operand.tmp 44), type := 0, pos := "law.go:61", after := #[{ on := 1, ground := Ground.data }, { on := 2, ground := Ground.data }], guard := none }) (v := .pointer (some ⟨b1, o1 + k * 32, none⟩)) rfl (by kernel_rfl) (by kernel_rfl) (by kernel_rfl) (fun _ _ _ h => h) (Or.inl ⟨by rfl, by intro w hS; go_simp⟩) hHeld ?_
      try simp only [Act.put, List.setIfInBounds_toArray, List.set_cons_zero, List.set_cons_succ]
      refine wpAnyH_take (i := 8) (oi := { dst := some 50, op := Op.indexAddr 24 (Operand.tmp 48) (Operand.tmp 49), type := 0, pos := "law.go:61", after := #[{ on := 6, ground := Ground.data }, { on := 7, ground := Ground.data }], guard := none }) (v := .pointer (some ⟨b2, o2 + k * 32, none⟩)) rfl (by kernel_rfl) (by kernel_rfl) (by kernel_rfl) (fun _ _ _ h => h) (Or.inl ⟨by rfl, by intro w hS; go_simp⟩) hHeld ?_
      try simp only [Act.put, List.setIfInBounds_toArray, List.set_cons_zero, List.set_cons_succ]
      refine wpAnyH_take (i := 4) (oi := { dst := some 46, op := Op.load 43 (Operand.tmp 45), type := 43, pos := "law.go:61", after := #[{ on := 3, ground := Ground.data }], guard := none }) (v := .agg (D).toArray) rfl (by kernel_rfl) (by kernel_rfl) (by kernel_rfl) (fun _ _ _ h => h) (yieldsIf_load_mid (by rfl) 43 _ rfl b1 (o1 + k * 32) rfl (D) _ (fun w hS => rng_below r1 hS.1 hl1) Try.underlying43 rfl SD.out) hHeld ?_
      try simp only [Act.put, List.setIfInBounds_toArray, List.set_cons_zero, List.set_cons_succ]
      refine wpAnyH_take (i := 9) (oi := { dst := some 51, op := Op.load 43 (Operand.tmp 50), type := 43, pos := "law.go:61", after := #[{ on := 8, ground := Ground.data }], guard := none }) (v := .agg (D).toArray) rfl (by kernel_rfl) (by kernel_rfl) (by kernel_rfl) (fun _ _ _ h => h) (yieldsIf_load_mid (by rfl) 43 _ rfl b2 (o2 + k * 32) rfl (D) _ (fun w hS => rng_below r2 hS.1 hl2) Try.underlying43 rfl SD.out) hHeld ?_
      try simp only [Act.put, List.setIfInBounds_toArray, List.set_cons_zero, List.set_cons_succ]
      refine wpAnyH_take (i := 10) (oi := { dst := some 52, op := Op.binOp BinOp.neq 43 (Operand.tmp 46) (Operand.tmp 51) 43, type := 4, pos := "law.go:61", after := #[{ on := 4, ground := Ground.data }, { on := 9, ground := Ground.data }], guard := none }) (v := .bool false) rfl (by kernel_rfl) (by kernel_rfl) (by kernel_rfl) (fun _ _ _ h => h) (Or.inl ⟨by rfl, by intro w hS; go_simp⟩) hHeld ?_
      try simp only [Act.put, List.setIfInBounds_toArray, List.set_cons_zero, List.set_cons_succ]
      refine wpAnyH_done (by kernel_rfl) ?_ _
      refine NoPanic.normal ?_
      clear xs
      go_wp2
      go_roundw
      case rel => exact ⟨k + 1, by omega, by go_num, hHeld⟩
      case measure => simp [intOf]; omega
    · obtain rfl : k = p.ss.length := by omega
      go_wp2
      go_ret
      exact ⟨rfl, d1.1⟩
end Go.Proofs.Ytlhmhpkgdcdjkaa
