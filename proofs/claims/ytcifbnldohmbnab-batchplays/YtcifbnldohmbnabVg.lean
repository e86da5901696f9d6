import Derived.Test.YtcifbnldohmbnabVf
import Derived.Test.YtcifbnldohmbnabSw
namespace Go.Proofs.Ytcifbnldohmbnab
set_option linter.unusedVariables false
set_option linter.unusedSimpArgs false
open Go.RowKit
attribute [local go_sem ↓] Go.wp_at_zero Go.wp_at_succ

/-! Of neighbours with the same key the later one stays. -/
def ddp : List Chg → List Chg
  | [] => []
  | [c] => [c]
  | c :: d :: t => if c.key = d.key then ddp (d :: t) else c :: ddp (d :: t)
theorem ddp_cons {c : Chg} : ∀ {X : List Chg}, (∀ d ∈ X, c.key ≠ d.key) → ddp (c :: X) = c :: ddp X
  | [], _ => rfl
  | d :: t, h => by rw [ddp, if_neg (h d (by simp))]
theorem ddp_lt : ∀ {l : List Chg}, l.Pairwise LtC → ddp l = l
  | [], _ => rfl
  | c :: t, h => by rw [ddp_cons (fun d hd => ((List.pairwise_cons.1 h).1 d hd).ne), ddp_lt (List.pairwise_cons.1 h).2]
theorem mg_mem {es ls : List Chg} {d : Chg} (h : d ∈ List.merge es ls leB) : d ∈ es ∨ d ∈ ls := List.mem_merge.1 h
theorem ddp_merge : ∀ (es ls : List Chg), es.Pairwise LtC → ls.Pairwise LtC → ddp (List.merge es ls leB) = mergeL es ls
  | [], ls, _, hl => by rw [mg_rb, merge_nil_l, ddp_lt hl]
  | e :: es, [], he, _ => by rw [mg_ra, merge_nil_r, ddp_lt he]
  | e :: es, l :: ls, he, hl => by
    have e1 := (List.pairwise_cons.1 he).1
    have l1 := (List.pairwise_cons.1 hl).1
    obtain ⟨s1, s2, s3⟩ := merge_step e es l ls
    rcases cmpK_cases e.key l.key with h | h | h
    · rw [s1 h, mg_a (by omega), ddp_cons, ddp_merge es (l :: ls) (lt_tail he) hl]
      intro d hd
      rcases mg_mem hd with hd | hd
      · exact (e1 d hd).ne
      · rcases List.mem_cons.1 hd with rfl | hd
        · exact LtC.ne h
        · exact (LtC.trans (b := l) h (l1 d hd)).ne
    · have hk := cmpK_eq h
      have hm : List.merge es (l :: ls) leB = l :: List.merge es ls leB := by
        cases es with
        | nil => rw [mg_rb, mg_rb]
        | cons f fs =>
          refine mg_b ?_
          have h1 := e1 f (by simp)
          unfold LtC at h1
          rw [cmpK_neg l.key f.key, ← hk, h1]; decide
      rw [s2 h, mg_a (by omega), hm, ddp, if_pos hk, ddp_cons, ddp_merge es ls (lt_tail he) (lt_tail hl)]
      intro d hd
      rcases mg_mem hd with hd | hd
      · rw [← hk]; exact (e1 d hd).ne
      · exact (l1 d hd).ne
    · have hle : LtC l e := by unfold LtC; rw [cmpK_neg e.key l.key, h]
      rw [s3 h, mg_b (by omega), ddp_cons, ddp_merge (e :: es) ls he (lt_tail hl)]
      intro d hd
      rcases mg_mem hd with hd | hd
      · rcases List.mem_cons.1 hd with rfl | hd
        · exact hle.ne
        · exact (hle.trans (e1 d hd)).ne
      · exact (l1 d hd).ne
termination_by es ls => es.length + ls.length
theorem ddp_skip {l : List Chg} {i : Nat} (hi : i + 1 < l.length) (h : (l.getD i dC).key = (l.getD (i + 1) dC).key) : ddp (l.drop i) = ddp (l.drop (i + 1)) := by
  rw [drop_consC l i (by omega), drop_consC l (i + 1) hi, ddp, if_pos h]
theorem ddp_take {l : List Chg} {i : Nat} (hi : i < l.length) (h : i + 1 < l.length → (l.getD i dC).key ≠ (l.getD (i + 1) dC).key) : ddp (l.drop i) = l.getD i dC :: ddp (l.drop (i + 1)) := by
  rw [drop_consC l i hi]
  by_cases h1 : i + 1 < l.length
  · rw [drop_consC l (i + 1) h1, ddp, if_neg (h h1)]
  · rw [List.drop_eq_nil_of_le (by omega)]; rfl
/-- The last part of Fold. -/
theorem folE_ok {a b : List Chg} (ha : NorE a = 0) (hb : NorE b = 0) : FolE a b = if 64 < (mergeL (normC a) (normC b)).length then 31 else 0 := by
  unfold FolE; rw [if_neg (by rw [ha]; simp), if_neg (by rw [hb]; simp)]
set_option maxRecDepth 100000 in
set_option maxHeartbeats 4000000 in
theorem rFold_any (w : World) (xs ys : List Chg) (sp1 sp2 : Option Addr) (cap1 cap2 b1 o1 b2 o2 : Nat) (ms1 ms2 : List MC) (hA : Chs w sp1 cap1 xs b1 o1 ms1) (hD : Chs w sp2 cap2 ys b2 o2 ms2) (oka : ∀ c ∈ xs, OkC c) (okb : ∀ c ∈ ys, OkC c) :
    Calls Try.prog 40 #[.slice sp1 xs.length cap1, .slice sp2 ys.length cap2] w fun e w' => ∃ v, e = .returned (.tuple #[v, .int .i64 (FolE xs ys)]) ∧ Mine w' w.heap.size v (FolL xs ys) ∧ Below w.heap.size w w' := by
  have KA := hid (rNormal_any w xs sp1 cap1 b1 o1 ms1 hA oka)
  have gk := keyGuard
  go_enter Try.func40, Try.ntmps40
  go_wp2_with fail
  refine KA.out.mono ?_
  rintro e w1 ⟨v1, rfl, hM1, hB1⟩
  clear KA
  by_cases hea : NorE xs = 0
  · have KB := hid (rNormal_any w1 ys sp2 cap2 b2 o2 ms2 (hD.below hB1) okb)
    have HEA := hid hea
    rw [hea]
    clear hea
    obtain ⟨s9, c9, b9, m9, rfl, hC9, _⟩ := hM1.chs
    clear hC9
    go_wp2_with fail
    refine KB.out.mono ?_
    rintro e w2 ⟨v2, rfl, hM2, hB2⟩
    clear KB
    by_cases heb : NorE ys = 0
    · have hla := norE_len HEA.out
      have hlb := norE_len heb
      have HEB := hid heb
      have e1 : NorL xs = normC xs := if_pos HEA.out
      have e2 : NorL ys = normC ys := if_pos heb
      rw [e1] at hM1 ⊢
      rw [e2] at hM2
      obtain ⟨q1, p1, p2⟩ := hM1.below hB2
      obtain ⟨q2, p3, p4⟩ := hM2.base hB1.size
      obtain ⟨s1, d1, x1, hv1, hC1, _⟩ := p1.chs p2.says
      obtain ⟨s2, d2, x2, rfl, hC2, _⟩ := p3.chs p4.says
      simp only [Value.slice.injEq] at hv1
      obtain ⟨rfl, _, rfl⟩ := hv1
      have hs2 : w.heap.size ≤ w2.heap.size := Nat.le_trans hB1.size hB2.size
      have KM := hid (rmerged_any w2 w.heap.size hs2 (normC xs) (normC ys) s9 s2 x1 0 c9 x2 0 d2 q1 q2 hC1 p2 hC2 p4 (fun c hc => (normC_ok oka c hc).2.1) (fun c hc => (normC_ok okb c hc).2.1) (by rw [normC_len, normC_len]; omega))
      have wz1 : (keysC xs).Nodup := (wrong_zero.1 HEA.out).2.2
      have wz2 : (keysC ys).Nodup := (wrong_zero.1 heb).2.2
      have HMG := hid (ddp_merge (normC xs) (normC ys) (normC_lt wz1) (normC_lt wz2))
      have HBL := hid (show (List.merge (normC xs) (normC ys) leB).length ≤ 8192 by rw [List.length_merge, normC_len, normC_len]; omega)
      rw [heb]
      have hBw : Below w.heap.size w w2 := hB1.trans (hB2.mono hB1.size)
      clear hM1 hM2 p1 p2 p3 p4 hC1 hC2 e1 e2 heb hla hlb wz1 wz2
      go_wp2_with fail
      refine KM.out.mono ?_
      rintro e w3 ⟨v3, rfl, hM3, hB3⟩
      clear KM
      have hB9 : Below w.heap.size w w3 := hBw.trans (hB3.mono hs2)
      have hsz := hB9.size
      have HF := hid (folE_ok HEA.out HEB.out)
      have HFL := hid (show FolE xs ys = 0 → FolL xs ys = mergeL (normC xs) (normC ys) from fun h => by unfold FolL; rw [if_pos h])
      have HFM := hid (show FolE xs ys ≠ 0 → FolL xs ys = [] from fun h => by unfold FolL; rw [if_neg h])
      generalize mergeL (normC xs) (normC ys) = R at *
      generalize List.merge (normC xs) (normC ys) leB = B at *
      obtain ⟨ms3, hO3, hV3⟩ := hM3
      obtain ⟨s3, d3, b3, rfl, hC3, _⟩ := hO3.chs hV3.says
      have i3 : (B.length : Int) ≤ 8192 := by have := HBL.out; omega
      clear hO3
      go_wp2
      go_loopw [11, 12] (fun mv iv wr => ∃ (k : Nat) (rs : List MC) (ds : List Chg), k ≤ B.length ∧ iv = .int .i64 k ∧ OwnM wr w3.heap.size mv rs ∧ OwnV wr w.heap.size rs ds ∧ R = ds ++ ddp (B.drop k) ∧ ds.length ≤ k ∧ Below w3.heap.size w3 wr) (fun _ iv _ => B.length - (intOf iv).toNat)
      case atStart => exact ⟨0, [], [], by omega, rfl, OwnM.nil _ _, OwnV.nil _ _, HMG.out.symm, Nat.le_refl _, Below.refl _ _⟩
      case round =>
        obtain ⟨k, rs, ds, hk, rfl, hO, hV, hRR, hdl, hB⟩ := hrel
        have HRR := hid hRR
        have HDL := hid hdl
        clear hRR hdl
        by_cases hlt : k < B.length
        · have i1 : (k : Int) < (B.length : Int) := by omega
          obtain ⟨hb, rfl⟩ := hC3.pos (by omega)
          obtain ⟨_, _, rj, _, _, _, _, lj, _⟩ := hC3.at k hlt
          have hij : (Try.prog.info? 26).map (·.size) = some (ints .u8 (B.getD k dC).key).length := by rw [keySize, ints_len, lj]
          have R1 := hC3.rd k hlt
          have sy := hC3.says.2 k hlt
          have lm1 := sy.len
          have om1 := sy.one
          have S1 := hid (show (Try.prog.info? 52).map (·.size) = some (encM (ms3.getD k dM)).length by rw [chgSize, lm1])
          have E := hid (hV3.at k hlt)
          have HLR := hid (show rs.length + 1 ≤ 2199023255552 by have a1 := HDL.out; have a2 := hV.1; have a3 := HBL.out; omega)
          have HWK := hid (show IntKind.i64.wrap ((k : Int) + 1) = (k : Int) + 1 from wrap_i64_id _ (by omega) (by omega))
          clear sy
          generalize hm1 : ms3.getD k dM = m1 at *
          clear hm1
          by_cases hlt2 : k + 1 < B.length
          · have i2 : (k : Int) + 1 < (B.length : Int) := by omega
            obtain ⟨_, _, ri, _, _, _, _, li, _⟩ := hC3.at (k + 1) hlt2
            have hii : (Try.prog.info? 26).map (·.size) = some (ints .u8 (B.getD (k + 1) dC).key).length := by rw [keySize, ints_len, li]
            by_cases he : (B.getD k dC).key = (B.getD (k + 1) dC).key
            · have HS := hid (show R = ds ++ ddp (B.drop (k + 1)) by rw [HRR.out, ddp_skip hlt2 he])
              have qe : ∀ w, (Op.equalIn 10000 26 (.agg (ints .u8 (B.getD k dC).key).toArray) (.agg (ints .u8 (B.getD (k + 1) dC).key).toArray)).run Try.prog w = .ok true w := fun w => by rw [key_eq _ _ lj li, decide_eq_true he]
              clear he HRR
              generalize (B.getD k dC).key = kj at *
              generalize (B.getD (k + 1) dC).key = ki at *
              go_wp2
              refine wp_region_noPanic ?_
              refine wp_region_held_drew (S := fun w' => Below wr.heap.size wr w' ∧ Below w3.heap.size w3 w') (by kernel_rfl) ⟨(Below.refl _ _).drew, hB.drew⟩ (fun hHeld => ?_)
              refine wpAnyH_take (i := 0) (oi := { dst := some 38, op := Op.move (Operand.tmp 12), type := 3, pos := "ref.go:260", after := #[], guard := none }) (v := .int .i64 k) rfl (by kernel_rfl) (by kernel_rfl) (by kernel_rfl) (fun _ _ _ h => h) (Or.inl ⟨by rfl, by intro w hS; go_simp⟩) hHeld ?_
              try simp only [Act.put, List.setIfInBounds_toArray, List.set_cons_zero, List.set_cons_succ]
              refine wpAnyH_take (i := 2) (oi := { dst := some 40, op := Op.move (Operand.tmp 10), type := 28, pos := "ref.go:260", after := #[], guard := none }) (v := .slice (some ⟨b3, 0, none⟩) B.length d3) rfl (by kernel_rfl) (by kernel_rfl) (by kernel_rfl) (fun _ _ _ h => h) (Or.inl ⟨by rfl, by intro w hS; go_simp⟩) hHeld ?_
              try simp only [Act.put, List.setIfInBounds_toArray, List.set_cons_zero, List.set_cons_succ]
              refine wpAnyH_take (i := 1) (oi := { dst := some 39, op := Op.binOp BinOp.add 3 (Operand.tmp 38) (Operand.const (Value.int IntKind.i64 1)) 3, type := 3, pos := "ref.go:260", after := #[{ on := 0, ground := Ground.data }], guard := none }) (v := .int .i64 (k + 1)) rfl (by kernel_rfl) (by kernel_rfl) (by kernel_rfl) (fun _ _ _ h => h) (Or.inl ⟨by rfl, by intro w hS; go_simp <;> exact HWK.out⟩) hHeld ?_
              try simp only [Act.put, List.setIfInBounds_toArray, List.set_cons_zero, List.set_cons_succ]
              refine wpAnyH_take (i := 3) (oi := { dst := some 41, op := Op.call { callee := Callee.builtin Builtin.len, args := #[Operand.tmp 40], argTypes := #[28] }, type := 3, pos := "ref.go:260", after := #[{ on := 2, ground := Ground.data }], guard := none }) (v := .int .i64 B.length) rfl (by kernel_rfl) (by kernel_rfl) (by kernel_rfl) (fun _ _ _ h => h) (Or.inl ⟨by rfl, by intro w hS; go_simp⟩) hHeld ?_
              try simp only [Act.put, List.setIfInBounds_toArray, List.set_cons_zero, List.set_cons_succ]
              refine wpAnyH_take (i := 4) (oi := { dst := some 42, op := Op.binOp BinOp.lss 3 (Operand.tmp 39) (Operand.tmp 41) 3, type := 4, pos := "ref.go:260", after := #[{ on := 1, ground := Ground.data }, { on := 3, ground := Ground.data }], guard := none }) (v := .bool true) rfl (by kernel_rfl) (by kernel_rfl) (by kernel_rfl) (fun _ _ _ h => h) (Or.inl ⟨by rfl, by intro w hS; go_simp⟩) hHeld ?_
              try simp only [Act.put, List.setIfInBounds_toArray, List.set_cons_zero, List.set_cons_succ]
              refine wpAnyH_take (i := 5) (oi := { dst := some 43, op := Op.move (Operand.tmp 42), type := 4, pos := "ref.go:260", after := #[{ on := 4, ground := Ground.data }], guard := none }) (v := .bool true) rfl (by kernel_rfl) (by kernel_rfl) (by kernel_rfl) (fun _ _ _ h => h) (Or.inl ⟨by rfl, by intro w hS; go_simp⟩) hHeld ?_
              try simp only [Act.put, List.setIfInBounds_toArray, List.set_cons_zero, List.set_cons_succ]
              refine wpAnyH_take (i := 6) (oi := { dst := some 44, op := Op.move (Operand.tmp 10), type := 28, pos := "ref.go:260", after := #[{ on := 5, ground := Ground.guard }], guard := some (5, true) }) (v := .slice (some ⟨b3, 0, none⟩) B.length d3) rfl (by kernel_rfl) (by kernel_rfl) (by kernel_rfl) (fun _ _ _ h => h) (Or.inl ⟨by rfl, by intro w hS; go_simp⟩) hHeld ?_
              try simp only [Act.put, List.setIfInBounds_toArray, List.set_cons_zero, List.set_cons_succ]
              refine wpAnyH_take (i := 7) (oi := { dst := some 45, op := Op.move (Operand.tmp 12), type := 3, pos := "ref.go:260", after := #[{ on := 5, ground := Ground.guard }], guard := some (5, true) }) (v := .int .i64 k) rfl (by kernel_rfl) (by kernel_rfl) (by kernel_rfl) (fun _ _ _ h => h) (Or.inl ⟨by rfl, by intro w hS; go_simp⟩) hHeld ?_
              try simp only [Act.put, List.setIfInBounds_toArray, List.set_cons_zero, List.set_cons_succ]
              refine wpAnyH_take (i := 11) (oi := { dst := some 49, op := Op.move (Operand.tmp 10), type := 28, pos := "ref.go:260", after := #[{ on := 5, ground := Ground.guard }], guard := some (5, true) }) (v := .slice (some ⟨b3, 0, none⟩) B.length d3) rfl (by kernel_rfl) (by kernel_rfl) (by kernel_rfl) (fun _ _ _ h => h) (Or.inl ⟨by rfl, by intro w hS; go_simp⟩) hHeld ?_
              try simp only [Act.put, List.setIfInBounds_toArray, List.set_cons_zero, List.set_cons_succ]
              refine wpAnyH_take (i := 12) (oi := { dst := some 50, op := Op.move (Operand.tmp 12), type := 3, pos := "ref.go:260", after := #[{ on := 5, ground := Ground.guard }], guard := some (5, true) }) (v := .int .i64 k) rfl (by kernel_rfl) (by kernel_rfl) (by kernel_rfl) (fun _ _ _ h => h) (Or.inl ⟨by rfl, by intro w hS; go_simp⟩) hHeld ?_
              try simp only [Act.put, List.setIfInBounds_toArray, List.set_cons_zero, List.set_cons_succ]
              refine wpAnyH_take (i := 8) (oi := { dst := some 46, op := Op.indexAddr 28 (Operand.tmp 44) (Operand.tmp 45), type := 0, pos := "ref.go:260", after := #[{ on := 6, ground := Ground.data }, { on := 7, ground := Ground.data }, { on := 5, ground := Ground.guard }], guard := some (5, true) }) (v := .pointer (some ⟨b3, 0 + k * 34, none⟩)) rfl (by kernel_rfl) (by kernel_rfl) (by kernel_rfl) (fun _ _ _ h => h) (Or.inl ⟨by rfl, by intro w hS; go_simp⟩) hHeld ?_
              try simp only [Act.put, List.setIfInBounds_toArray, List.set_cons_zero, List.set_cons_succ]
              refine wpAnyH_take (i := 13) (oi := { dst := some 51, op := Op.binOp BinOp.add 3 (Operand.tmp 50) (Operand.const (Value.int IntKind.i64 1)) 3, type := 3, pos := "ref.go:260", after := #[{ on := 12, ground := Ground.data }, { on := 5, ground := Ground.guard }], guard := some (5, true) }) (v := .int .i64 (k + 1)) rfl (by kernel_rfl) (by kernel_rfl) (by kernel_rfl) (fun _ _ _ h => h) (Or.inl ⟨by rfl, by intro w hS; go_simp <;> exact HWK.out⟩) hHeld ?_
              try simp only [Act.put, List.setIfInBounds_toArray, List.set_cons_zero, List.set_cons_succ]
              refine wpAnyH_take (i := 9) (oi := { dst := some 47, op := Op.fieldAddr 52 (Operand.tmp 46) 0, type := 0, pos := "ref.go:260", after := #[{ on := 8, ground := Ground.data }, { on := 5, ground := Ground.guard }], guard := some (5, true) }) (v := .pointer (some ⟨b3, 0 + k * 34, none⟩)) rfl (by kernel_rfl) (by kernel_rfl) (by kernel_rfl) (fun _ _ _ h => h) (Or.inl ⟨by rfl, by intro w hS; go_simp⟩) hHeld ?_
              try simp only [Act.put, List.setIfInBounds_toArray, List.set_cons_zero, List.set_cons_succ]
              refine wpAnyH_take (i := 14) (oi := { dst := some 52, op := Op.indexAddr 28 (Operand.tmp 49) (Operand.tmp 51), type := 0, pos := "ref.go:260", after := #[{ on := 11, ground := Ground.data }, { on := 13, ground := Ground.data }, { on := 5, ground := Ground.guard }], guard := some (5, true) }) (v := .pointer (some ⟨b3, 0 + (k + 1) * 34, none⟩)) rfl (by kernel_rfl) (by kernel_rfl) (by kernel_rfl) (fun _ _ _ h => h) (Or.inl ⟨by rfl, by intro w hS; go_simp <;> (intro h; omega)⟩) hHeld ?_
              try simp only [Act.put, List.setIfInBounds_toArray, List.set_cons_zero, List.set_cons_succ]
              refine wpAnyH_take (i := 10) (oi := { dst := some 48, op := Op.load 26 (Operand.tmp 47), type := 26, pos := "ref.go:260", after := #[{ on := 9, ground := Ground.data }, { on := 5, ground := Ground.guard }], guard := some (5, true) }) (v := .agg (ints .u8 kj).toArray) rfl (by kernel_rfl) (by kernel_rfl) (by kernel_rfl) (fun _ _ _ h => h) (yieldsIf_load_mid (by rfl) 26 _ rfl b3 (0 + k * 34) rfl (ints .u8 kj) _ (fun w hS => rng_below rj hS.2 hb) Try.underlying26 rfl hij) hHeld ?_
              try simp only [Act.put, List.setIfInBounds_toArray, List.set_cons_zero, List.set_cons_succ]
              refine wpAnyH_take (i := 15) (oi := { dst := some 53, op := Op.fieldAddr 52 (Operand.tmp 52) 0, type := 0, pos := "ref.go:260", after := #[{ on := 14, ground := Ground.data }, { on := 5, ground := Ground.guard }], guard := some (5, true) }) (v := .pointer (some ⟨b3, 0 + (k + 1) * 34, none⟩)) rfl (by kernel_rfl) (by kernel_rfl) (by kernel_rfl) (fun _ _ _ h => h) (Or.inl ⟨by rfl, by intro w hS; go_simp⟩) hHeld ?_
              try simp only [Act.put, List.setIfInBounds_toArray, List.set_cons_zero, List.set_cons_succ]
              refine wpAnyH_take (i := 16) (oi := { dst := some 54, op := Op.load 26 (Operand.tmp 53), type := 26, pos := "ref.go:260", after := #[{ on := 15, ground := Ground.data }, { on := 5, ground := Ground.guard }], guard := some (5, true) }) (v := .agg (ints .u8 ki).toArray) rfl (by kernel_rfl) (by kernel_rfl) (by kernel_rfl) (fun _ _ _ h => h) (yieldsIf_load_mid (by rfl) 26 _ rfl b3 (0 + (k + 1) * 34) rfl (ints .u8 ki) _ (fun w hS => rng_below ri hS.2 hb) Try.underlying26 rfl hii) hHeld ?_
              try simp only [Act.put, List.setIfInBounds_toArray, List.set_cons_zero, List.set_cons_succ]
              refine wpAnyH_take (i := 17) (oi := { dst := some 55, op := Op.binOp BinOp.eql 26 (Operand.tmp 48) (Operand.tmp 54) 26, type := 4, pos := "ref.go:260", after := #[{ on := 10, ground := Ground.data }, { on := 16, ground := Ground.data }, { on := 5, ground := Ground.guard }], guard := some (5, true) }) (v := .bool true) rfl (by kernel_rfl) (by kernel_rfl) (by kernel_rfl) (fun _ _ _ h => h) (Or.inl ⟨by rfl, by intro w hS; go_simp⟩) hHeld ?_
              try simp only [Act.put, List.setIfInBounds_toArray, List.set_cons_zero, List.set_cons_succ]
              refine wpAnyH_take (i := 18) (oi := { dst := some 56, op := Op.pick (Operand.tmp 43) (Operand.tmp 55) (Operand.const (Value.bool false)), type := 4, pos := "ref.go:260", after := #[{ on := 5, ground := Ground.data }, { on := 17, ground := Ground.data }], guard := none }) (v := .bool true) rfl (by kernel_rfl) (by kernel_rfl) (by kernel_rfl) (fun _ _ _ h => h) (Or.inl ⟨by rfl, by intro w hS; go_simp⟩) hHeld ?_
              try simp only [Act.put, List.setIfInBounds_toArray, List.set_cons_zero, List.set_cons_succ]
              refine wpAnyH_done (by kernel_rfl) ?_ _
              refine NoPanic.normal ?_
              have hbz := hHeld.2
              have hO4 := hO.below hHeld.1 (Nat.le_refl _)
              have hV4 := hV.below hHeld.1
              clear hHeld hB hO hV
              go_wp2
              go_roundw
              case rel => exact ⟨k + 1, rs, ds, by omega, by go_num, hO4, hV4, HS.out, (by have := HDL.out; omega), hbz⟩
              case measure => simp [intOf]; omega
            · have HS := hid (show R = ds ++ [B.getD k dC] ++ ddp (B.drop (k + 1)) by rw [HRR.out, ddp_take hlt (fun _ => he)]; simp)
              have qe : ∀ w, (Op.equalIn 10000 26 (.agg (ints .u8 (B.getD k dC).key).toArray) (.agg (ints .u8 (B.getD (k + 1) dC).key).toArray)).run Try.prog w = .ok false w := fun w => by rw [key_eq _ _ lj li, decide_eq_false he]
              clear he HRR
              generalize hcc : B.getD k dC = c at *
              clear hcc
              generalize hkj : c.key = kj at *
              have HK1 := hid hkj
              clear hkj
              generalize (B.getD (k + 1) dC).key = ki at *
              go_wp2
              refine wp_region_noPanic ?_
              refine wp_region_held_drew (S := fun w' => Below wr.heap.size wr w' ∧ Below w3.heap.size w3 w') (by kernel_rfl) ⟨(Below.refl _ _).drew, hB.drew⟩ (fun hHeld => ?_)
              refine wpAnyH_take (i := 0) (oi := { dst := some 38, op := Op.move (Operand.tmp 12), type := 3, pos := "ref.go:260", after := #[], guard := none }) (v := .int .i64 k) rfl (by kernel_rfl) (by kernel_rfl) (by kernel_rfl) (fun _ _ _ h => h) (Or.inl ⟨by rfl, by intro w hS; go_simp⟩) hHeld ?_
              try simp only [Act.put, List.setIfInBounds_toArray, List.set_cons_zero, List.set_cons_succ]
              refine wpAnyH_take (i := 2) (oi := { dst := some 40, op := Op.move (Operand.tmp 10), type := 28, pos := "ref.go:260", after := #[], guard := none }) (v := .slice (some ⟨b3, 0, none⟩) B.length d3) rfl (by kernel_rfl) (by kernel_rfl) (by kernel_rfl) (fun _ _ _ h => h) (Or.inl ⟨by rfl, by intro w hS; go_simp⟩) hHeld ?_
              try simp only [Act.put, List.setIfInBounds_toArray, List.set_cons_zero, List.set_cons_succ]
              refine wpAnyH_take (i := 1) (oi := { dst := some 39, op := Op.binOp BinOp.add 3 (Operand.tmp 38) (Operand.const (Value.int IntKind.i64 1)) 3, type := 3, pos := "ref.go:260", after := #[{ on := 0, ground := Ground.data }], guard := none }) (v := .int .i64 (k + 1)) rfl (by kernel_rfl) (by kernel_rfl) (by kernel_rfl) (fun _ _ _ h => h) (Or.inl ⟨by rfl, by intro w hS; go_simp <;> exact HWK.out⟩) hHeld ?_
              try simp only [Act.put, List.setIfInBounds_toArray, List.set_cons_zero, List.set_cons_succ]
              refine wpAnyH_take (i := 3) (oi := { dst := some 41, op := Op.call { callee := Callee.builtin Builtin.len, args := #[Operand.tmp 40], argTypes := #[28] }, type := 3, pos := "ref.go:260", after := #[{ on := 2, ground := Ground.data }], guard := none }) (v := .int .i64 B.length) rfl (by kernel_rfl) (by kernel_rfl) (by kernel_rfl) (fun _ _ _ h => h) (Or.inl ⟨by rfl, by intro w hS; go_simp⟩) hHeld ?_
              try simp only [Act.put, List.setIfInBounds_toArray, List.set_cons_zero, List.set_cons_succ]
              refine wpAnyH_take (i := 4) (oi := { dst := some 42, op := Op.binOp BinOp.lss 3 (Operand.tmp 39) (Operand.tmp 41) 3, type := 4, pos := "ref.go:260", after := #[{ on := 1, ground := Ground.data }, { on := 3, ground := Ground.data }], guard := none }) (v := .bool true) rfl (by kernel_rfl) (by kernel_rfl) (by kernel_rfl) (fun _ _ _ h => h) (Or.inl ⟨by rfl, by intro w hS; go_simp⟩) hHeld ?_
              try simp only [Act.put, List.setIfInBounds_toArray, List.set_cons_zero, List.set_cons_succ]
              refine wpAnyH_take (i := 5) (oi := { dst := some 43, op := Op.move (Operand.tmp 42), type := 4, pos := "ref.go:260", after := #[{ on := 4, ground := Ground.data }], guard := none }) (v := .bool true) rfl (by kernel_rfl) (by kernel_rfl) (by kernel_rfl) (fun _ _ _ h => h) (Or.inl ⟨by rfl, by intro w hS; go_simp⟩) hHeld ?_
              try simp only [Act.put, List.setIfInBounds_toArray, List.set_cons_zero, List.set_cons_succ]
              refine wpAnyH_take (i := 6) (oi := { dst := some 44, op := Op.move (Operand.tmp 10), type := 28, pos := "ref.go:260", after := #[{ on := 5, ground := Ground.guard }], guard := some (5, true) }) (v := .slice (some ⟨b3, 0, none⟩) B.length d3) rfl (by kernel_rfl) (by kernel_rfl) (by kernel_rfl) (fun _ _ _ h => h) (Or.inl ⟨by rfl, by intro w hS; go_simp⟩) hHeld ?_
              try simp only [Act.put, List.setIfInBounds_toArray, List.set_cons_zero, List.set_cons_succ]
              refine wpAnyH_take (i := 7) (oi := { dst := some 45, op := Op.move (Operand.tmp 12), type := 3, pos := "ref.go:260", after := #[{ on := 5, ground := Ground.guard }], guard := some (5, true) }) (v := .int .i64 k) rfl (by kernel_rfl) (by kernel_rfl) (by kernel_rfl) (fun _ _ _ h => h) (Or.inl ⟨by rfl, by intro w hS; go_simp⟩) hHeld ?_
              try simp only [Act.put, List.setIfInBounds_toArray, List.set_cons_zero, List.set_cons_succ]
              refine wpAnyH_take (i := 11) (oi := { dst := some 49, op := Op.move (Operand.tmp 10), type := 28, pos := "ref.go:260", after := #[{ on := 5, ground := Ground.guard }], guard := some (5, true) }) (v := .slice (some ⟨b3, 0, none⟩) B.length d3) rfl (by kernel_rfl) (by kernel_rfl) (by kernel_rfl) (fun _ _ _ h => h) (Or.inl ⟨by rfl, by intro w hS; go_simp⟩) hHeld ?_
              try simp only [Act.put, List.setIfInBounds_toArray, List.set_cons_zero, List.set_cons_succ]
              refine wpAnyH_take (i := 12) (oi := { dst := some 50, op := Op.move (Operand.tmp 12), type := 3, pos := "ref.go:260", after := #[{ on := 5, ground := Ground.guard }], guard := some (5, true) }) (v := .int .i64 k) rfl (by kernel_rfl) (by kernel_rfl) (by kernel_rfl) (fun _ _ _ h => h) (Or.inl ⟨by rfl, by intro w hS; go_simp⟩) hHeld ?_
              try simp only [Act.put, List.setIfInBounds_toArray, List.set_cons_zero, List.set_cons_succ]
              refine wpAnyH_take (i := 8) (oi := { dst := some 46, op := Op.indexAddr 28 (Operand.tmp 44) (Operand.tmp 45), type := 0, pos := "ref.go:260", after := #[{ on := 6, ground := Ground.data }, { on := 7, ground := Ground.data }, { on := 5, ground := Ground.guard }], guard := some (5, true) }) (v := .pointer (some ⟨b3, 0 + k * 34, none⟩)) rfl (by kernel_rfl) (by kernel_rfl) (by kernel_rfl) (fun _ _ _ h => h) (Or.inl ⟨by rfl, by intro w hS; go_simp⟩) hHeld ?_
              try simp only [Act.put, List.setIfInBounds_toArray, List.set_cons_zero, List.set_cons_succ]
              refine wpAnyH_take (i := 13) (oi := { dst := some 51, op := Op.binOp BinOp.add 3 (Operand.tmp 50) (Operand.const (Value.int IntKind.i64 1)) 3, type := 3, pos := "ref.go:260", after := #[{ on := 12, ground := Ground.data }, { on := 5, ground := Ground.guard }], guard := some (5, true) }) (v := .int .i64 (k + 1)) rfl (by kernel_rfl) (by kernel_rfl) (by kernel_rfl) (fun _ _ _ h => h) (Or.inl ⟨by rfl, by intro w hS; go_simp <;> exact HWK.out⟩) hHeld ?_
              try simp only [Act.put, List.setIfInBounds_toArray, List.set_cons_zero, List.set_cons_succ]
              refine wpAnyH_take (i := 9) (oi := { dst := some 47, op := Op.fieldAddr 52 (Operand.tmp 46) 0, type := 0, pos := "ref.go:260", after := #[{ on := 8, ground := Ground.data }, { on := 5, ground := Ground.guard }], guard := some (5, true) }) (v := .pointer (some ⟨b3, 0 + k * 34, none⟩)) rfl (by kernel_rfl) (by kernel_rfl) (by kernel_rfl) (fun _ _ _ h => h) (Or.inl ⟨by rfl, by intro w hS; go_simp⟩) hHeld ?_
              try simp only [Act.put, List.setIfInBounds_toArray, List.set_cons_zero, List.set_cons_succ]
              refine wpAnyH_take (i := 14) (oi := { dst := some 52, op := Op.indexAddr 28 (Operand.tmp 49) (Operand.tmp 51), type := 0, pos := "ref.go:260", after := #[{ on := 11, ground := Ground.data }, { on := 13, ground := Ground.data }, { on := 5, ground := Ground.guard }], guard := some (5, true) }) (v := .pointer (some ⟨b3, 0 + (k + 1) * 34, none⟩)) rfl (by kernel_rfl) (by kernel_rfl) (by kernel_rfl) (fun _ _ _ h => h) (Or.inl ⟨by rfl, by intro w hS; go_simp <;> (intro h; omega)⟩) hHeld ?_
              try simp only [Act.put, List.setIfInBounds_toArray, List.set_cons_zero, List.set_cons_succ]
              refine wpAnyH_take (i := 10) (oi := { dst := some 48, op := Op.load 26 (Operand.tmp 47), type := 26, pos := "ref.go:260", after := #[{ on := 9, ground := Ground.data }, { on := 5, ground := Ground.guard }], guard := some (5, true) }) (v := .agg (ints .u8 kj).toArray) rfl (by kernel_rfl) (by kernel_rfl) (by kernel_rfl) (fun _ _ _ h => h) (yieldsIf_load_mid (by rfl) 26 _ rfl b3 (0 + k * 34) rfl (ints .u8 kj) _ (fun w hS => rng_below rj hS.2 hb) Try.underlying26 rfl hij) hHeld ?_
              try simp only [Act.put, List.setIfInBounds_toArray, List.set_cons_zero, List.set_cons_succ]
              refine wpAnyH_take (i := 15) (oi := { dst := some 53, op := Op.fieldAddr 52 (Operand.tmp 52) 0, type := 0, pos := "ref.go:260", after := #[{ on := 14, ground := Ground.data }, { on := 5, ground := Ground.guard }], guard := some (5, true) }) (v := .pointer (some ⟨b3, 0 + (k + 1) * 34, none⟩)) rfl (by kernel_rfl) (by kernel_rfl) (by kernel_rfl) (fun _ _ _ h => h) (Or.inl ⟨by rfl, by intro w hS; go_simp⟩) hHeld ?_
              try simp only [Act.put, List.setIfInBounds_toArray, List.set_cons_zero, List.set_cons_succ]
              refine wpAnyH_take (i := 16) (oi := { dst := some 54, op := Op.load 26 (Operand.tmp 53), type := 26, pos := "ref.go:260", after := #[{ on := 15, ground := Ground.data }, { on := 5, ground := Ground.guard }], guard := some (5, true) }) (v := .agg (ints .u8 ki).toArray) rfl (by kernel_rfl) (by kernel_rfl) (by kernel_rfl) (fun _ _ _ h => h) (yieldsIf_load_mid (by rfl) 26 _ rfl b3 (0 + (k + 1) * 34) rfl (ints .u8 ki) _ (fun w hS => rng_below ri hS.2 hb) Try.underlying26 rfl hii) hHeld ?_
              try simp only [Act.put, List.setIfInBounds_toArray, List.set_cons_zero, List.set_cons_succ]
              refine wpAnyH_take (i := 17) (oi := { dst := some 55, op := Op.binOp BinOp.eql 26 (Operand.tmp 48) (Operand.tmp 54) 26, type := 4, pos := "ref.go:260", after := #[{ on := 10, ground := Ground.data }, { on := 16, ground := Ground.data }, { on := 5, ground := Ground.guard }], guard := some (5, true) }) (v := .bool false) rfl (by kernel_rfl) (by kernel_rfl) (by kernel_rfl) (fun _ _ _ h => h) (Or.inl ⟨by rfl, by intro w hS; go_simp⟩) hHeld ?_
              try simp only [Act.put, List.setIfInBounds_toArray, List.set_cons_zero, List.set_cons_succ]
              refine wpAnyH_take (i := 18) (oi := { dst := some 56, op := Op.pick (Operand.tmp 43) (Operand.tmp 55) (Operand.const (Value.bool false)), type := 4, pos := "ref.go:260", after := #[{ on := 5, ground := Ground.data }, { on := 17, ground := Ground.data }], guard := none }) (v := .bool false) rfl (by kernel_rfl) (by kernel_rfl) (by kernel_rfl) (fun _ _ _ h => h) (Or.inl ⟨by rfl, by intro w hS; go_simp⟩) hHeld ?_
              try simp only [Act.put, List.setIfInBounds_toArray, List.set_cons_zero, List.set_cons_succ]
              refine wpAnyH_done (by kernel_rfl) ?_ _
              refine NoPanic.normal ?_
              have hO4 := hO.below hHeld.1 (Nat.le_refl _)
              have hV4 := hV.below hHeld.1
              have hBx := hHeld.2
              have RX := rng_below R1 hBx hb
              rw [Nat.zero_add] at RX
              have hs4 := hBx.size
              clear hO hV hHeld hB R1
              go_wp2_with (first
                | refine wpList_load_mid rfl 52 _ rfl b3 (k * 34) rfl (encM m1) _ RX Try.underlying52 rfl S1.out ?_
                | refine wpList_slice rfl _ rfl (encM m1) lm1 rfl ?_
                | (at_builtin; refine wpList_pushC rfl (.tmp 57) (.tmp 62) rfl w3.heap.size _ rs m1 rfl hO4 rfl lm1 om1 HLR.out hs4 _ _ ?_; intro v7 w7 hO7 hB7 hK7 hD7))
              obtain ⟨x1, x2, x3, x4⟩ := E.out
              have x5 := (x4.below hBx (Nat.le_refl _))
              have hV7 : OwnV w7 w.heap.size (rs ++ [m1]) (ds ++ [c]) := by
                have h0 := hV4.of_heap (w1 := w7) fun q x hx => hK7 q (hlt_ hx) fun e => by obtain ⟨_, _, y, hy⟩ := hO4.block q e; exact ne_of_type hx hy (by decide) rfl
                refine h0.snoc (x1.trans HK1.out.symm) (by rw [HK1.out]; exact x2) x3 (x5.of_heap fun q hq => ?_)
                obtain ⟨q1, x, hx2⟩ := x5.ne_chg q hq
                exact hK7 q q1 fun e => by obtain ⟨_, _, y, hy⟩ := hO4.block q e; exact ne_of_type hx2 hy (by decide) rfl
              go_roundw
              case rel => exact ⟨k + 1, rs ++ [m1], ds ++ [c], by omega, by go_num, hO7, hV7, HS.out, (by have := HDL.out; simp only [List.length_append, List.length_cons, List.length_nil]; omega), hBx.trans hB7⟩
              case measure => simp [intOf]; omega
          · have i2 : ¬ (k : Int) + 1 < (B.length : Int) := by omega
            have HS := hid (show R = ds ++ [B.getD k dC] ++ ddp (B.drop (k + 1)) by rw [HRR.out, ddp_take hlt (fun h => absurd h hlt2)]; simp)
            clear HRR hlt2
            generalize hcc : B.getD k dC = c at *
            clear hcc
            generalize hkj : c.key = kj at *
            have HK1 := hid hkj
            clear hkj
            go_wp2
            refine wp_region_noPanic ?_
            refine wp_region_held_drew (S := fun w' => Below wr.heap.size wr w' ∧ Below w3.heap.size w3 w') (by kernel_rfl) ⟨(Below.refl _ _).drew, hB.drew⟩ (fun hHeld => ?_)
            refine wpAnyH_take (i := 0) (oi := { dst := some 38, op := Op.move (Operand.tmp 12), type := 3, pos := "ref.go:260", after := #[], guard := none }) (v := .int .i64 k) rfl (by kernel_rfl) (by kernel_rfl) (by kernel_rfl) (fun _ _ _ h => h) (Or.inl ⟨by rfl, by intro w hS; go_simp⟩) hHeld ?_
            try simp only [Act.put, List.setIfInBounds_toArray, List.set_cons_zero, List.set_cons_succ]
            refine wpAnyH_take (i := 2) (oi := { dst := some 40, op := Op.move (Operand.tmp 10), type := 28, pos := "ref.go:260", after := #[], guard := none }) (v := .slice (some ⟨b3, 0, none⟩) B.length d3) rfl (by kernel_rfl) (by kernel_rfl) (by kernel_rfl) (fun _ _ _ h => h) (Or.inl ⟨by rfl, by intro w hS; go_simp⟩) hHeld ?_
            try simp only [Act.put, List.setIfInBounds_toArray, List.set_cons_zero, List.set_cons_succ]
            refine wpAnyH_take (i := 1) (oi := { dst := some 39, op := Op.binOp BinOp.add 3 (Operand.tmp 38) (Operand.const (Value.int IntKind.i64 1)) 3, type := 3, pos := "ref.go:260", after := #[{ on := 0, ground := Ground.data }], guard := none }) (v := .int .i64 (k + 1)) rfl (by kernel_rfl) (by kernel_rfl) (by kernel_rfl) (fun _ _ _ h => h) (Or.inl ⟨by rfl, by intro w hS; go_simp <;> exact HWK.out⟩) hHeld ?_
            try simp only [Act.put, List.setIfInBounds_toArray, List.set_cons_zero, List.set_cons_succ]
            refine wpAnyH_take (i := 3) (oi := { dst := some 41, op := Op.call { callee := Callee.builtin Builtin.len, args := #[Operand.tmp 40], argTypes := #[28] }, type := 3, pos := "ref.go:260", after := #[{ on := 2, ground := Ground.data }], guard := none }) (v := .int .i64 B.length) rfl (by kernel_rfl) (by kernel_rfl) (by kernel_rfl) (fun _ _ _ h => h) (Or.inl ⟨by rfl, by intro w hS; go_simp⟩) hHeld ?_
            try simp only [Act.put, List.setIfInBounds_toArray, List.set_cons_zero, List.set_cons_succ]
            refine wpAnyH_take (i := 4) (oi := { dst := some 42, op := Op.binOp BinOp.lss 3 (Operand.tmp 39) (Operand.tmp 41) 3, type := 4, pos := "ref.go:260", after := #[{ on := 1, ground := Ground.data }, { on := 3, ground := Ground.data }], guard := none }) (v := .bool false) rfl (by kernel_rfl) (by kernel_rfl) (by kernel_rfl) (fun _ _ _ h => h) (Or.inl ⟨by rfl, by intro w hS; go_simp⟩) hHeld ?_
            try simp only [Act.put, List.setIfInBounds_toArray, List.set_cons_zero, List.set_cons_succ]
            refine wpAnyH_take (i := 5) (oi := { dst := some 43, op := Op.move (Operand.tmp 42), type := 4, pos := "ref.go:260", after := #[{ on := 4, ground := Ground.data }], guard := none }) (v := .bool false) rfl (by kernel_rfl) (by kernel_rfl) (by kernel_rfl) (fun _ _ _ h => h) (Or.inl ⟨by rfl, by intro w hS; go_simp⟩) hHeld ?_
            try simp only [Act.put, List.setIfInBounds_toArray, List.set_cons_zero, List.set_cons_succ]
            refine wpAnyH_take (i := 6) (oi := { dst := some 44, op := Op.move (Operand.tmp 10), type := 28, pos := "ref.go:260", after := #[{ on := 5, ground := Ground.guard }], guard := some (5, true) }) (v := undef) rfl (by kernel_rfl) (by kernel_rfl) (by kernel_rfl) (fun _ _ _ h => h) (Or.inr ⟨by rfl, rfl⟩) hHeld ?_
            try simp only [Act.put, List.setIfInBounds_toArray, List.set_cons_zero, List.set_cons_succ]
            refine wpAnyH_take (i := 7) (oi := { dst := some 45, op := Op.move (Operand.tmp 12), type := 3, pos := "ref.go:260", after := #[{ on := 5, ground := Ground.guard }], guard := some (5, true) }) (v := undef) rfl (by kernel_rfl) (by kernel_rfl) (by kernel_rfl) (fun _ _ _ h => h) (Or.inr ⟨by rfl, rfl⟩) hHeld ?_
            try simp only [Act.put, List.setIfInBounds_toArray, List.set_cons_zero, List.set_cons_succ]
            refine wpAnyH_take (i := 11) (oi := { dst := some 49, op := Op.move (Operand.tmp 10), type := 28, pos := "ref.go:260", after := #[{ on := 5, ground := Ground.guard }], guard := some (5, true) }) (v := undef) rfl (by kernel_rfl) (by kernel_rfl) (by kernel_rfl) (fun _ _ _ h => h) (Or.inr ⟨by rfl, rfl⟩) hHeld ?_
            try simp only [Act.put, List.setIfInBounds_toArray, List.set_cons_zero, List.set_cons_succ]
            refine wpAnyH_take (i := 12) (oi := { dst := some 50, op := Op.move (Operand.tmp 12), type := 3, pos := "ref.go:260", after := #[{ on := 5, ground := Ground.guard }], guard := some (5, true) }) (v := undef) rfl (by kernel_rfl) (by kernel_rfl) (by kernel_rfl) (fun _ _ _ h => h) (Or.inr ⟨by rfl, rfl⟩) hHeld ?_
            try simp only [Act.put, List.setIfInBounds_toArray, List.set_cons_zero, List.set_cons_succ]
            refine wpAnyH_take (i := 8) (oi := { dst := some 46, op := Op.indexAddr 28 (Operand.tmp 44) (Operand.tmp 45), type := 0, pos := "ref.go:260", after := #[{ on := 6, ground := Ground.data }, { on := 7, ground := Ground.data }, { on := 5, ground := Ground.guard }], guard := some (5, true) }) (v := undef) rfl (by kernel_rfl) (by kernel_rfl) (by kernel_rfl) (fun _ _ _ h => h) (Or.inr ⟨by rfl, rfl⟩) hHeld ?_
            try simp only [Act.put, List.setIfInBounds_toArray, List.set_cons_zero, List.set_cons_succ]
            refine wpAnyH_take (i := 13) (oi := { dst := some 51, op := Op.binOp BinOp.add 3 (Operand.tmp 50) (Operand.const (Value.int IntKind.i64 1)) 3, type := 3, pos := "ref.go:260", after := #[{ on := 12, ground := Ground.data }, { on := 5, ground := Ground.guard }], guard := some (5, true) }) (v := undef) rfl (by kernel_rfl) (by kernel_rfl) (by kernel_rfl) (fun _ _ _ h => h) (Or.inr ⟨by rfl, rfl⟩) hHeld ?_
            try simp only [Act.put, List.setIfInBounds_toArray, List.set_cons_zero, List.set_cons_succ]
            refine wpAnyH_take (i := 9) (oi := { dst := some 47, op := Op.fieldAddr 52 (Operand.tmp 46) 0, type := 0, pos := "ref.go:260", after := #[{ on := 8, ground := Ground.data }, { on := 5, ground := Ground.guard }], guard := some (5, true) }) (v := undef) rfl (by kernel_rfl) (by kernel_rfl) (by kernel_rfl) (fun _ _ _ h => h) (Or.inr ⟨by rfl, rfl⟩) hHeld ?_
            try simp only [Act.put, List.setIfInBounds_toArray, List.set_cons_zero, List.set_cons_succ]
            refine wpAnyH_take (i := 14) (oi := { dst := some 52, op := Op.indexAddr 28 (Operand.tmp 49) (Operand.tmp 51), type := 0, pos := "ref.go:260", after := #[{ on := 11, ground := Ground.data }, { on := 13, ground := Ground.data }, { on := 5, ground := Ground.guard }], guard := some (5, true) }) (v := undef) rfl (by kernel_rfl) (by kernel_rfl) (by kernel_rfl) (fun _ _ _ h => h) (Or.inr ⟨by rfl, rfl⟩) hHeld ?_
            try simp only [Act.put, List.setIfInBounds_toArray, List.set_cons_zero, List.set_cons_succ]
            refine wpAnyH_take (i := 10) (oi := { dst := some 48, op := Op.load 26 (Operand.tmp 47), type := 26, pos := "ref.go:260", after := #[{ on := 9, ground := Ground.data }, { on := 5, ground := Ground.guard }], guard := some (5, true) }) (v := undef) rfl (by kernel_rfl) (by kernel_rfl) (by kernel_rfl) (fun _ _ _ h => h) (Or.inr ⟨by rfl, rfl⟩) hHeld ?_
            try simp only [Act.put, List.setIfInBounds_toArray, List.set_cons_zero, List.set_cons_succ]
            refine wpAnyH_take (i := 15) (oi := { dst := some 53, op := Op.fieldAddr 52 (Operand.tmp 52) 0, type := 0, pos := "ref.go:260", after := #[{ on := 14, ground := Ground.data }, { on := 5, ground := Ground.guard }], guard := some (5, true) }) (v := undef) rfl (by kernel_rfl) (by kernel_rfl) (by kernel_rfl) (fun _ _ _ h => h) (Or.inr ⟨by rfl, rfl⟩) hHeld ?_
            try simp only [Act.put, List.setIfInBounds_toArray, List.set_cons_zero, List.set_cons_succ]
            refine wpAnyH_take (i := 16) (oi := { dst := some 54, op := Op.load 26 (Operand.tmp 53), type := 26, pos := "ref.go:260", after := #[{ on := 15, ground := Ground.data }, { on := 5, ground := Ground.guard }], guard := some (5, true) }) (v := undef) rfl (by kernel_rfl) (by kernel_rfl) (by kernel_rfl) (fun _ _ _ h => h) (Or.inr ⟨by rfl, rfl⟩) hHeld ?_
            try simp only [Act.put, List.setIfInBounds_toArray, List.set_cons_zero, List.set_cons_succ]
            refine wpAnyH_take (i := 17) (oi := { dst := some 55, op := Op.binOp BinOp.eql 26 (Operand.tmp 48) (Operand.tmp 54) 26, type := 4, pos := "ref.go:260", after := #[{ on := 10, ground := Ground.data }, { on := 16, ground := Ground.data }, { on := 5, ground := Ground.guard }], guard := some (5, true) }) (v := undef) rfl (by kernel_rfl) (by kernel_rfl) (by kernel_rfl) (fun _ _ _ h => h) (Or.inr ⟨by rfl, rfl⟩) hHeld ?_
            try simp only [Act.put, List.setIfInBounds_toArray, List.set_cons_zero, List.set_cons_succ]
            refine wpAnyH_take (i := 18) (oi := { dst := some 56, op := Op.pick (Operand.tmp 43) (Operand.tmp 55) (Operand.const (Value.bool false)), type := 4, pos := "ref.go:260", after := #[{ on := 5, ground := Ground.data }, { on := 17, ground := Ground.data }], guard := none }) (v := .bool false) rfl (by kernel_rfl) (by kernel_rfl) (by kernel_rfl) (fun _ _ _ h => h) (Or.inl ⟨by rfl, by intro w hS; go_simp⟩) hHeld ?_
            try simp only [Act.put, List.setIfInBounds_toArray, List.set_cons_zero, List.set_cons_succ]
            refine wpAnyH_done (by kernel_rfl) ?_ _
            refine NoPanic.normal ?_
            have hO4 := hO.below hHeld.1 (Nat.le_refl _)
            have hV4 := hV.below hHeld.1
            have hBx := hHeld.2
            have RX := rng_below R1 hBx hb
            rw [Nat.zero_add] at RX
            have hs4 := hBx.size
            clear hO hV hHeld hB R1
            go_wp2_with (first
              | refine wpList_load_mid rfl 52 _ rfl b3 (k * 34) rfl (encM m1) _ RX Try.underlying52 rfl S1.out ?_
              | refine wpList_slice rfl _ rfl (encM m1) lm1 rfl ?_
              | (at_builtin; refine wpList_pushC rfl (.tmp 57) (.tmp 62) rfl w3.heap.size _ rs m1 rfl hO4 rfl lm1 om1 HLR.out hs4 _ _ ?_; intro v7 w7 hO7 hB7 hK7 hD7))
            obtain ⟨x1, x2, x3, x4⟩ := E.out
            have x5 := (x4.below hBx (Nat.le_refl _))
            have hV7 : OwnV w7 w.heap.size (rs ++ [m1]) (ds ++ [c]) := by
              have h0 := hV4.of_heap (w1 := w7) fun q x hx => hK7 q (hlt_ hx) fun e => by obtain ⟨_, _, y, hy⟩ := hO4.block q e; exact ne_of_type hx hy (by decide) rfl
              refine h0.snoc (x1.trans HK1.out.symm) (by rw [HK1.out]; exact x2) x3 (x5.of_heap fun q hq => ?_)
              obtain ⟨q1, x, hx2⟩ := x5.ne_chg q hq
              exact hK7 q q1 fun e => by obtain ⟨_, _, y, hy⟩ := hO4.block q e; exact ne_of_type hx2 hy (by decide) rfl
            go_roundw
            case rel => exact ⟨k + 1, rs ++ [m1], ds ++ [c], by omega, by go_num, hO7, hV7, HS.out, (by have := HDL.out; simp only [List.length_append, List.length_cons, List.length_nil]; omega), hBx.trans hB7⟩
            case measure => simp [intOf]; omega
        · obtain rfl : k = B.length := by omega
          have HRX := hid (show R = ds by rw [HRR.out, List.drop_length]; simp [ddp])
          have hM := show Mine _ w.heap.size _ ds from ⟨rs, hO.base hsz, hV⟩
          have hlen := hV.1
          obtain ⟨s6, c6, b6, m6, rfl, hC6, _⟩ := hM.chs
          have i6 : (ds.length : Int) ≤ 8192 := by have a1 := HDL.out; have a2 := HBL.out; omega
          have hBz : Below w.heap.size w _ := hB9.trans (hB.mono hsz)
          clear hlt HRR hC6 hlen
          by_cases h64 : 64 < ds.length
          · have j1 : (64 : Int) < (ds.length : Int) := by omega
            have HF2 := hid (show FolE xs ys = 31 by rw [HF.out, HRX.out, if_pos h64])
            clear h64
            go_wp2
            refine bodyPost_ret (results_tmp2 Try.results40 _ _ _) rfl ⟨.slice none 0 0, ?_, ?_, hBz⟩
            · rw [HF2.out]; rfl
            · rw [HFM.out (by rw [HF2.out]; decide)]; exact Mine.nil _ _
          · have j1 : ¬ (64 : Int) < (ds.length : Int) := by omega
            have HF2 := hid (show FolE xs ys = 0 by rw [HF.out, HRX.out, if_neg h64])
            clear h64
            go_wp2
            refine bodyPost_ret (results_tmp2 Try.results40 _ _ _) rfl ⟨.slice s6 ds.length c6, ?_, ?_, hBz⟩
            · rw [HF2.out]; rfl
            · rw [HFL.out HF2.out, HRX.out]; exact hM
    · have HF := hid (show FolE xs ys = NorE ys by unfold FolE; rw [if_neg (by rw [HEA.out]; simp), if_pos heb])
      obtain ⟨s8, c8, b8, m8, rfl, hC8, _⟩ := hM2.chs
      generalize hbb : NorE ys = bb at *
      clear hbb hC8
      go_wp2
      refine bodyPost_ret (results_tmp2 Try.results40 _ _ _) rfl ⟨.slice none 0 0, ?_, ?_, hB1.trans (hB2.mono hB1.size)⟩
      · rw [HF.out]; rfl
      · unfold FolL; rw [HF.out, if_neg heb]; exact Mine.nil _ _
  · have HF := hid (show FolE xs ys = NorE xs by unfold FolE; rw [if_pos hea])
    obtain ⟨s8, c8, b8, m8, rfl, hC8, _⟩ := hM1.chs
    generalize hbb : NorE xs = aa at *
    clear hbb hC8
    go_wp2
    refine bodyPost_ret (results_tmp2 Try.results40 _ _ _) rfl ⟨.slice none 0 0, ?_, ?_, hB1⟩
    · rw [HF.out]; rfl
    · unfold FolL; rw [HF.out, if_neg hea]; exact Mine.nil _ _
end Go.Proofs.Ytcifbnldohmbnab
