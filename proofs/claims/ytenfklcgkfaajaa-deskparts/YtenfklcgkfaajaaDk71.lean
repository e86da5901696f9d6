import Derived.Test.YtenfklcgkfaajaaDk70
import Derived.Test.YtenfklcgkfaajaaDk22
import Derived.ArgAppend
namespace Go.Proofs.Ytenfklcgkfaajaa
set_option linter.unusedVariables false
set_option linter.unusedSimpArgs false
open Go.RowKit
attribute [local go_sem ↓] Go.wp_at_zero Go.wp_at_succ


/-- grown midway: the held list, boxed, and the answer's place. -/
structure GS (w wc : World) (base : Nat) (m : Int) (n : Nat) (v a b c d : Value) : Prop where
  rb : wc.heap[w.heap.size]? = some (.cells (hlC m n v a b c d).toArray 47 (0, 0))
  rz : wc.heap[w.heap.size + 1]? = some (.cells #[.int .u8 0, .int .i64 0, .slice none 0 0, .slice none 0 0, .slice none 0 0, .slice none 0 0, .slice none 0 0] 47 (0, 0))
  kv : KV w base v wc
  sz : w.heap.size + 2 ≤ wc.heap.size
theorem GS.grow {w wc w1 : World} {base : Nat} {m : Int} {n : Nat} {v a b c d x : Value} (h : GS w wc base m n v a b c d) (hv : ∀ k, v.ownBlock = some k → k < w.heap.size) (hx : x.ownBlock = v.ownBlock ∨ ∃ k, x.ownBlock = some k ∧ w.heap.size + 2 ≤ k) (hb : Below base wc w1) (hk : ∀ k, k < wc.heap.size → x.ownBlock ≠ some k → w1.heap[k]? = wc.heap[k]?) : GS w w1 base m n v a b c d := by
  have hne : ∀ k, k = w.heap.size ∨ k = w.heap.size + 1 → x.ownBlock ≠ some k := fun k hk e => by
    rcases hx with q | ⟨k2, q, q2⟩
    · have := hv k (q ▸ e); omega
    · rw [q] at e; cases e; omega
  refine ⟨(hk _ (by have := h.sz; omega) (hne _ (Or.inl rfl))).trans h.rb, (hk _ (by have := h.sz; omega) (hne _ (Or.inr rfl))).trans h.rz, h.kv.step ?_ hb hk, Nat.le_trans h.sz hb.size⟩
  rcases hx with q | ⟨k2, q, q2⟩
  · exact Or.inl q
  · exact Or.inr ⟨k2, q, by omega⟩
theorem GS.put {w wc w1 : World} {base : Nat} {m : Int} {n : Nat} {v a b c d a' b' c' d' : Value} (h : GS w wc base m n v a b c d) (hbw : base ≤ w.heap.size) (row : w1.heap[w.heap.size]? = some (.cells (hlC m n v a' b' c' d').toArray 47 (0, 0))) (k : Keeps w.heap.size wc w1) : GS w w1 base m n v a' b' c' d' :=
  ⟨row, k.heap h.rz (by omega), ⟨h.kv.1.trans (k.below_g hbw (Nat.le_trans hbw h.kv.1.size)), fun q hq hne => (k.block q (Nat.lt_of_lt_of_le hq h.kv.1.size) (by omega)).trans (h.kv.2 q hq hne)⟩, Nat.le_trans h.sz k.size⟩
theorem own_keep {w w1 : World} {base g t : Nat} {v : Value} {zs : List Int} {cs : Array Value} {fr : Nat × Nat} (h : Own w base v zs) (hr : w.heap[g]? = some (.cells cs t fr)) (ht : t ≠ 5) (k : Keeps g w w1) : Own w1 base v zs := own_far h hr ht k
theorem GS.cells {w wc : World} {base : Nat} {m : Int} {n : Nat} {v a b c d : Value} (h : GS w wc base m n v a b c d) : wc.cell? ⟨w.heap.size, 0, none⟩ = some (.int .u8 m) ∧ wc.cell? ⟨w.heap.size, 2, none⟩ = some v ∧ wc.cell? ⟨w.heap.size, 6, none⟩ = some d := by
  refine ⟨?_, ?_, ?_⟩ <;> (rw [cell_of_row _ _ _ _ _ _ h.rb]; rfl)
theorem allocHl (a : Act) (o : Oper) (w : World) (ho : o.op = .alloc 47) : (execOp a.eval o).run Try.prog w = .ok (.value (.pointer (some ⟨w.heap.size, 0, none⟩))) (w.alloc (.cells [.int .u8 0, .int .i64 0, .slice none 0 0, .slice none 0 0, .slice none 0 0, .slice none 0 0, .slice none 0 0].toArray 47)) := by
  unfold execOp
  rw [ho]
  kernel_rfl
theorem own_blk_lt {w : World} {base : Nat} {v : Value} {zs : List Int} (h : Own w base v zs) : ∀ k, v.ownBlock = some k → k < w.heap.size := fun k hk => (h.block k hk).2
set_option maxRecDepth 100000 in
set_option maxHeartbeats 4000000 in
theorem grown_any (w : World) (base : Nat) (hbw : base ≤ w.heap.size) (m : Int) (n : Nat) (hn : n ≤ 140737488355000) (v : Value) (hO : Own w base v (List.replicate n m)) :
    Calls Try.prog 15 #[.agg (hlC m n v (.slice none 0 0) (.slice none 0 0) (.slice none 0 0) (.slice none 0 0)).toArray] w fun e w' => ∃ a b c d, e = .returned (.agg (hlC m n v a b c d).toArray) ∧ Own w' base v (List.replicate n m) ∧ Own w' base a (List.replicate (n + 1) m) ∧ Own w' base b (List.replicate (n + 2) m) ∧ Own w' base c (List.replicate (n + 3) m) ∧ Own w' base d (List.replicate (n + 100) m) ∧ At w v a ∧ At w v b ∧ At w v c ∧ At w v d ∧ KV w base v w' := by
  have hvl := hid (own_blk_lt hO)
  obtain ⟨sp, cap, rfl, _, _⟩ := rep_form hO
  have G2 : GS w ((w.alloc (.cells (hlC m n (.slice sp n cap) (.slice none 0 0) (.slice none 0 0) (.slice none 0 0) (.slice none 0 0)).toArray 47)).alloc (.cells #[.int .u8 0, .int .i64 0, .slice none 0 0, .slice none 0 0, .slice none 0 0, .slice none 0 0, .slice none 0 0] 47)) base m n (.slice sp n cap) (.slice none 0 0) (.slice none 0 0) (.slice none 0 0) (.slice none 0 0) := by
    have h2 := hnew (w.alloc (.cells (hlC m n (.slice sp n cap) (.slice none 0 0) (.slice none 0 0) (.slice none 0 0) (.slice none 0 0)).toArray 47)) (.cells #[.int .u8 0, .int .i64 0, .slice none 0 0, .slice none 0 0, .slice none 0 0, .slice none 0 0, .slice none 0 0] 47)
    rw [show (w.alloc (.cells (hlC m n (.slice sp n cap) (.slice none 0 0) (.slice none 0 0) (.slice none 0 0) (.slice none 0 0)).toArray 47)).heap.size = w.heap.size + 1 by simp] at h2
    have hb := ((Below.refl w.heap.size w).alloc (Nat.le_refl _) (.cells (hlC m n (.slice sp n cap) (.slice none 0 0) (.slice none 0 0) (.slice none 0 0) (.slice none 0 0)).toArray 47)).alloc (by simp) (.cells #[.int .u8 0, .int .i64 0, .slice none 0 0, .slice none 0 0, .slice none 0 0, .slice none 0 0, .slice none 0 0] 47)
    exact ⟨hold (hnew w _), h2, ⟨hb.mono hbw, fun k hk _ => hb.block k hk⟩, by simp⟩
  have O2 := hO.below (B := w.heap.size) (((Below.refl w.heap.size w).alloc (Nat.le_refl _) (.cells (hlC m n (.slice sp n cap) (.slice none 0 0) (.slice none 0 0) (.slice none 0 0) (.slice none 0 0)).toArray 47)).alloc (by simp) (.cells #[.int .u8 0, .int .i64 0, .slice none 0 0, .slice none 0 0, .slice none 0 0, .slice none 0 0, .slice none 0 0] 47)) (Nat.le_refl _)
  have KB1 := hid (show n + 1 ≤ 140737488355328 by omega)
  have KB2 := hid (show n + 2 ≤ 140737488355328 by omega)
  have KB3 := hid (show n + 3 ≤ 140737488355328 by omega)
  have HW := hid hbw
  have HN := hid hn
  clear hO hbw hn
  go_enter Try.func15, Try.ntmps15
  go_wp2_with (first | (refine wpList_allocV allocHl rfl rfl ?_; refine Hid.out ?_))
  refine hid ?_
  generalize hw2 : ((w.alloc (.cells (hlC m n (.slice sp n cap) (.slice none 0 0) (.slice none 0 0) (.slice none 0 0) (.slice none 0 0)).toArray 47)).alloc (.cells #[.int .u8 0, .int .i64 0, .slice none 0 0, .slice none 0 0, .slice none 0 0, .slice none 0 0, .slice none 0 0] 47)) = w2 at *
  replace hw2 := hid hw2
  have HB2 := hid (show base ≤ w2.heap.size by have := HW.out; have := G2.sz; omega)
  obtain ⟨x0, x2, x6⟩ := G2.cells
  go_wp2_with (first | (at_builtin; refine wpList_growM rfl (.tmp 5) (.tmp 8) rfl base _ n 1 m rfl O2 (by decide) rfl KB1.out HB2.out _ _ ?_; intro av wg1 Oa bg1 fg1 qg1 sg1; refine Hid.out ?_))
  refine hid ?_
  have Gg1 := G2.grow hvl.out (Or.inl rfl) bg1 fg1
  have Pa : av.ownBlock = (Value.slice sp n cap).ownBlock ∨ ∃ k, av.ownBlock = some k ∧ w.heap.size + 2 ≤ k := by
    rcases qg1 with e | ⟨k, e, hk⟩
    · exact Or.inl e
    · exact Or.inr ⟨k, e, Nat.le_trans G2.sz hk⟩
  have O2g1 := sg1 _ _ _ O2
  obtain ⟨sa, ca, rfl, _, _⟩ := rep_form Oa
  have Yg1 := hid Gg1.rb
  clear bg1 fg1 qg1 sg1 x0 x2 x6
  go_wp2_with (first | (refine wpList_storeW rfl 22 _ _ rfl w.heap.size 3 (.slice sa (n + 1) ca) rfl rfl _ 47 Yg1.out (by simp [hlC]) Try.sizeBy rfl rfl ?_; intro wp1 rp1 kp1; refine Hid.out ?_))
  refine hid ?_
  have Gp1 : GS w wp1 base m n (.slice sp n cap) (.slice sa (n + 1) ca) (.slice none 0 0) (.slice none 0 0) (.slice none 0 0) := Gg1.put HW.out rp1 kp1
  have O2g1p1 := own_keep O2g1 Yg1.out (by decide) kp1
  have Oap1 := own_keep Oa Yg1.out (by decide) kp1
  have HBp1 := hid (show base ≤ wp1.heap.size by have := HW.out; have := Gp1.sz; omega)
  clear rp1 kp1 Yg1 Gg1
  obtain ⟨x0, x2, x6⟩ := Gp1.cells
  go_wp2_with (first | (at_builtin; refine wpList_growM rfl (.tmp 12) (.tmp 17) rfl base _ n 2 m rfl O2g1p1 (by decide) rfl KB2.out HBp1.out _ _ ?_; intro bv wg2 Ob bg2 fg2 qg2 sg2; refine Hid.out ?_))
  refine hid ?_
  have Gg2 := Gp1.grow hvl.out (Or.inl rfl) bg2 fg2
  have Pb : bv.ownBlock = (Value.slice sp n cap).ownBlock ∨ ∃ k, bv.ownBlock = some k ∧ w.heap.size + 2 ≤ k := by
    rcases qg2 with e | ⟨k, e, hk⟩
    · exact Or.inl e
    · exact Or.inr ⟨k, e, Nat.le_trans Gp1.sz hk⟩
  have O2g1p1g2 := sg2 _ _ _ O2g1p1
  have Oap1g2 := sg2 _ _ _ Oap1
  obtain ⟨sb, cb, rfl, _, _⟩ := rep_form Ob
  have Yg2 := hid Gg2.rb
  clear bg2 fg2 qg2 sg2 x0 x2 x6
  go_wp2_with (first | (refine wpList_storeW rfl 22 _ _ rfl w.heap.size 4 (.slice sb (n + 2) cb) rfl rfl _ 47 Yg2.out (by simp [hlC]) Try.sizeBy rfl rfl ?_; intro wp2 rp2 kp2; refine Hid.out ?_))
  refine hid ?_
  have Gp2 : GS w wp2 base m n (.slice sp n cap) (.slice sa (n + 1) ca) (.slice sb (n + 2) cb) (.slice none 0 0) (.slice none 0 0) := Gg2.put HW.out rp2 kp2
  have O2g1p1g2p2 := own_keep O2g1p1g2 Yg2.out (by decide) kp2
  have Oap1g2p2 := own_keep Oap1g2 Yg2.out (by decide) kp2
  have Obp2 := own_keep Ob Yg2.out (by decide) kp2
  have HBp2 := hid (show base ≤ wp2.heap.size by have := HW.out; have := Gp2.sz; omega)
  clear rp2 kp2 Yg2 Gg2
  obtain ⟨x0, x2, x6⟩ := Gp2.cells
  go_wp2_with (first | (at_builtin; refine wpList_growM rfl (.tmp 21) (.tmp 28) rfl base _ n 3 m rfl O2g1p1g2p2 (by decide) rfl KB3.out HBp2.out _ _ ?_; intro cv wg3 Oc bg3 fg3 qg3 sg3; refine Hid.out ?_))
  refine hid ?_
  have Gg3 := Gp2.grow hvl.out (Or.inl rfl) bg3 fg3
  have Pc : cv.ownBlock = (Value.slice sp n cap).ownBlock ∨ ∃ k, cv.ownBlock = some k ∧ w.heap.size + 2 ≤ k := by
    rcases qg3 with e | ⟨k, e, hk⟩
    · exact Or.inl e
    · exact Or.inr ⟨k, e, Nat.le_trans Gp2.sz hk⟩
  have O2g1p1g2p2g3 := sg3 _ _ _ O2g1p1g2p2
  have Oap1g2p2g3 := sg3 _ _ _ Oap1g2p2
  have Obp2g3 := sg3 _ _ _ Obp2
  obtain ⟨sc, cc, rfl, _, _⟩ := rep_form Oc
  have Yg3 := hid Gg3.rb
  clear bg3 fg3 qg3 sg3 x0 x2 x6
  go_wp2_with (first | (refine wpList_storeW rfl 22 _ _ rfl w.heap.size 5 (.slice sc (n + 3) cc) rfl rfl _ 47 Yg3.out (by simp [hlC]) Try.sizeBy rfl rfl ?_; intro wp3 rp3 kp3; refine Hid.out ?_))
  refine hid ?_
  have Gp3 : GS w wp3 base m n (.slice sp n cap) (.slice sa (n + 1) ca) (.slice sb (n + 2) cb) (.slice sc (n + 3) cc) (.slice none 0 0) := Gg3.put HW.out rp3 kp3
  have O2g1p1g2p2g3p3 := own_keep O2g1p1g2p2g3 Yg3.out (by decide) kp3
  have Oap1g2p2g3p3 := own_keep Oap1g2p2g3 Yg3.out (by decide) kp3
  have Obp2g3p3 := own_keep Obp2g3 Yg3.out (by decide) kp3
  have Ocp3 := own_keep Oc Yg3.out (by decide) kp3
  have HBp3 := hid (show base ≤ wp3.heap.size by have := HW.out; have := Gp3.sz; omega)
  clear rp3 kp3 Yg3 Gg3
  obtain ⟨x0, x2, x6⟩ := Gp3.cells
  have Yd := hid Gp3.rb
  go_wp2_with (first | (refine wpList_storeW rfl 22 _ _ rfl w.heap.size 6 (.slice sp n cap) rfl rfl _ 47 Yd.out (by simp [hlC]) Try.sizeBy rfl rfl ?_; intro w5 r5 k5; refine Hid.out ?_))
  refine hid ?_
  have G5 : GS w w5 base m n (.slice sp n cap) (.slice sa (n + 1) ca) (.slice sb (n + 2) cb) (.slice sc (n + 3) cc) (.slice sp n cap) := Gp3.put HW.out r5 k5
  have Ev := own_keep O2g1p1g2p2g3p3 Yd.out (by decide) k5
  have Ea := own_keep Oap1g2p2g3p3 Yd.out (by decide) k5
  have Eb := own_keep Obp2g3p3 Yd.out (by decide) k5
  have Ec := own_keep Ocp3 Yd.out (by decide) k5
  clear r5 k5 Yd x0 x2 x6
  go_wp2
  go_loopw [3] (fun i wr => ∃ (k : Nat) (x : Value), k ≤ 100 ∧ i = .int .i64 k ∧ GS w wr base m n (.slice sp n cap) (.slice sa (n + 1) ca) (.slice sb (n + 2) cb) (.slice sc (n + 3) cc) x ∧ Own wr base x (List.replicate (n + k) m) ∧ Own wr base (.slice sp n cap) (List.replicate n m) ∧ Own wr base (.slice sa (n + 1) ca) (List.replicate (n + 1) m) ∧ Own wr base (.slice sb (n + 2) cb) (List.replicate (n + 2) m) ∧ Own wr base (.slice sc (n + 3) cc) (List.replicate (n + 3) m) ∧ (x.ownBlock = (Value.slice sp n cap).ownBlock ∨ ∃ k, x.ownBlock = some k ∧ w.heap.size + 2 ≤ k)) (fun i _ => 100 - (intOf i).toNat)
  case atStart => exact ⟨0, _, Nat.zero_le _, rfl, G5, Ev, Ev, Ea, Eb, Ec, Or.inl rfl⟩
  case round =>
    clear G5 Ev Ea Eb Ec
    obtain ⟨k, x, hk, rfl, G, OX, OV, OA, OB, OC, PX⟩ := hrel
    by_cases hlt' : k < 100
    · have i1 : (k : Int) < 100 := by omega
      obtain ⟨sx, cx, rfl, _, _⟩ := rep_form OX
      obtain ⟨x0, x2, x6⟩ := G.cells
      have KBk := hid (show n + k + 1 ≤ 140737488355328 by have := HN.out; omega)
      have HBk := hid (show base ≤ wr.heap.size by have := HW.out; have := G.sz; omega)
      generalize hnk : n + k = nk at *
      replace hnk := hid hnk
      go_wp2_with (first | (at_builtin; refine wpList_growM rfl (.tmp 39) (.tmp 42) rfl base _ nk 1 m rfl OX (by decide) rfl KBk.out HBk.out _ _ ?_; intro y wy Oy by_ fy qy sy; refine Hid.out ?_))
      refine hid ?_
      have Gy := G.grow hvl.out PX by_ fy
      have Py : y.ownBlock = (Value.slice sp n cap).ownBlock ∨ ∃ k, y.ownBlock = some k ∧ w.heap.size + 2 ≤ k := by
        rcases qy with e | ⟨k2, e, hk2⟩
        · rcases PX with e2 | ⟨k3, e3, hk3⟩
          · exact Or.inl (e.trans e2)
          · exact Or.inr ⟨k3, e.trans e3, hk3⟩
        · exact Or.inr ⟨k2, e, Nat.le_trans G.sz hk2⟩
      have V1 := sy _ _ _ OV
      have A1 := sy _ _ _ OA
      have B1 := sy _ _ _ OB
      have C1 := sy _ _ _ OC
      obtain ⟨s7, c7, rfl, _, _⟩ := rep_form Oy
      have Y7 := hid Gy.rb
      clear by_ fy qy sy x0 x2 x6 G OX OV OA OB OC PX
      go_wp2_with (first | (refine wpList_storeW rfl 22 _ _ rfl w.heap.size 6 (.slice s7 (nk + 1) c7) rfl rfl _ 47 Y7.out (by simp [hlC]) Try.sizeBy rfl rfl ?_; intro w8 r8 k8; refine Hid.out ?_))
      refine hid ?_
      have G8 : GS w w8 base m n (.slice sp n cap) (.slice sa (n + 1) ca) (.slice sb (n + 2) cb) (.slice sc (n + 3) cc) (.slice s7 (nk + 1) c7) := Gy.put HW.out r8 k8
      have O8 := own_keep Oy Y7.out (by decide) k8
      have V8 := own_keep V1 Y7.out (by decide) k8
      have A8 := own_keep A1 Y7.out (by decide) k8
      have B8 := own_keep B1 Y7.out (by decide) k8
      have C8 := own_keep C1 Y7.out (by decide) k8
      clear r8 k8 Y7 Gy Oy V1 A1 B1 C1
      go_wp2
      go_roundw
      case rel => exact ⟨k + 1, _, by omega, by go_num, G8, by rw [← Nat.add_assoc, hnk.out]; exact O8, V8, A8, B8, C8, Py⟩
      case measure => simp [intOf]; omega
    · obtain rfl : k = 100 := by omega
      clear hlt'
      have RB := hid G.rb
      have RZ := hid G.rz
      obtain ⟨sx, cx, rfl, _, _⟩ := rep_form OX
      go_wp2_with (first | (refine wpList_load_row rfl 47 _ rfl w.heap.size rfl 47 _ (0, 0) _ RB.out Try.underlying47 rfl Try.sizeHl ?_) | (refine wpList_storeRowW rfl 47 _ _ rfl (w.heap.size + 1) (hlC m n (.slice sp n cap) (.slice sa (n + 1) ca) (.slice sb (n + 2) cb) (.slice sc (n + 3) cc) (.slice sx (n + 100) cx)) rfl rfl 47 _ RZ.out Try.sizeHl rfl (by intro y hy; simp [hlC] at hy; rcases hy with rfl | rfl | rfl | rfl | rfl | rfl | rfl <;> rfl) ?_; intro wz rz kz; refine Hid.out ?_))
      refine hid ?_
      go_wp2
      refine bodyPost_ret (results_cell_row Try.results15 _ _ (w.heap.size + 1) 47 _ _ _ rfl rz Try.underlying47 rfl Try.sizeHl) rfl ?_
      have toAt : ∀ y : Value, (y.ownBlock = (Value.slice sp n cap).ownBlock ∨ ∃ k, y.ownBlock = some k ∧ w.heap.size + 2 ≤ k) → At w (.slice sp n cap) y := fun y h => by
        rcases h with e | ⟨k, e, hk⟩
        · exact Or.inl e
        · exact Or.inr ⟨k, e, by omega⟩
      exact ⟨_, _, _, _, rfl, own_keep OV RZ.out (by decide) kz, own_keep OA RZ.out (by decide) kz, own_keep OB RZ.out (by decide) kz, own_keep OC RZ.out (by decide) kz, own_keep OX RZ.out (by decide) kz, toAt _ Pa, toAt _ Pb, toAt _ Pc, toAt _ PX, G.kv.1.trans (kz.below_g (by have := HW.out; omega) (Nat.le_trans HW.out G.kv.1.size)), fun q hq hne => (kz.block q (Nat.lt_of_lt_of_le hq G.kv.1.size) (by omega)).trans (G.kv.2 q hq hne)⟩
end Go.Proofs.Ytenfklcgkfaajaa
