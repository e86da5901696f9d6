import Derived.Test.YtbjahdbmkcamoaaGreatDoorTrV3
namespace Go.Proofs.YtbjahdbmkcamoaaGreatDoor
set_option linter.unusedVariables false
set_option linter.unusedSimpArgs false
open Go.RowKit
attribute [local go_sem ↓] Go.wp_at_zero Go.wp_at_succ

theorem getD_take' {α : Type} (l : List α) (d : α) (n i : Nat) (h : i < n) : (l.take n).getD i d = l.getD i d := by
  rw [List.getD_eq_getElem?_getD, List.getElem?_take, if_pos h, ← List.getD_eq_getElem?_getD]
theorem getD_drop' {α : Type} (l : List α) (d : α) (n i : Nat) : (l.drop n).getD i d = l.getD (n + i) d := by
  rw [List.getD_eq_getElem?_getD, List.getElem?_drop, ← List.getD_eq_getElem?_getD]
theorem Chs.take {w : World} {sp : Option Addr} {cap : Nat} {cs : List Chg} {b o : Nat} {ms : List MC} (h : Chs w sp cap cs b o ms) (n : Nat) (hn : n ≤ cs.length) : Chs w sp cap (cs.take n) b o (ms.take n) := by
  have hl : (cs.take n).length = n := by rw [List.length_take]; omega
  have hm := h.says.1
  refine ⟨by have := h.le; omega, h.mx, h.nil, fun hp => h.pos (by omega), fun i hi => ?_, by rw [List.length_take, List.length_take, hm], fun i hi => ?_⟩
  · rw [getD_take' _ _ _ _ (by omega)]; exact h.rd i (by omega)
  · rw [getD_take' _ _ _ _ (by omega), getD_take' _ _ _ _ (by omega)]; exact h.says.2 i (by omega)
theorem Chs.drop {w : World} {b o cap : Nat} {cs : List Chg} {ms : List MC} (h : Chs w (some ⟨b, o, none⟩) cap cs b o ms) (n : Nat) (hn : n < cs.length) : Chs w (some ⟨b, o + n * 34, none⟩) (cap - n) (cs.drop n) b (o + n * 34) (ms.drop n) := by
  have hl : (cs.drop n).length = cs.length - n := List.length_drop
  have hm := h.says.1
  refine ⟨by have := h.le; omega, by have := h.mx; omega, (fun e => by cases e), fun hp => ⟨(h.pos (by omega)).1, rfl⟩, fun i hi => ?_, by rw [List.length_drop, List.length_drop, hm], fun i hi => ?_⟩
  · rw [getD_drop', show o + n * 34 + i * 34 = o + (n + i) * 34 by omega]; exact h.rd (n + i) (by omega)
  · rw [getD_drop', getD_drop']; exact h.says.2 (n + i) (by omega)
theorem wpList_cutFrom {w : World} {ops : Array Oper} {rest : List Oper} {op : Oper} {a : Act} {Q : Exit → Act → World → Prop} (hg : op.guard = none) (x l : Operand) (ho : op.op = .slice 22 x (some l) none none) (b o n cap i : Nat)
    (hx : a.eval x = .slice (some ⟨b, o, none⟩) n cap) (hl : a.eval l = .int .i64 i) (hi : (i : Int) ≤ (n : Int)) (hne : ¬ cap = i) (h : wpList Tryz.prog ops Q rest (a.put op.dst (.slice (some ⟨b, o + i * 34, none⟩) (n - i) (cap - i))) w) : wpList Tryz.prog ops Q (op :: rest) a w := by
  refine wpList_plain hg fun K hK => ?_
  unfold Oper.wp execOp
  rw [ho]
  simp only [hx, hl, Option.map_some, Option.map_none]
  go_simp
  exact hK _ _ h
theorem wpList_cutTo {w : World} {ops : Array Oper} {rest : List Oper} {op : Oper} {a : Act} {Q : Exit → Act → World → Prop} (hg : op.guard = none) (x u : Operand) (ho : op.op = .slice 22 x none (some u) none) (b o n cap j : Nat)
    (hx : a.eval x = .slice (some ⟨b, o, none⟩) n cap) (hu : a.eval u = .int .i64 j) (hj : (j : Int) ≤ (cap : Int)) (hc : ¬ cap = 0) (h : wpList Tryz.prog ops Q rest (a.put op.dst (.slice (some ⟨b, o, none⟩) j cap)) w) : wpList Tryz.prog ops Q (op :: rest) a w := by
  refine wpList_plain hg fun K hK => ?_
  unfold Oper.wp execOp
  rw [ho]
  simp only [hx, hu, Option.map_some, Option.map_none]
  have h0 : (0 : Int) ≤ (j : Int) := by omega
  go_simp
  exact hK _ _ h
theorem ok_take {cs : List Chg} (h : ∀ c ∈ cs, OkC c) (n : Nat) : ∀ c ∈ cs.take n, OkC c := fun c hc => h c (List.mem_of_mem_take hc)
theorem ok_drop {cs : List Chg} (h : ∀ c ∈ cs, OkC c) (n : Nat) : ∀ c ∈ cs.drop n, OkC c := fun c hc => h c (List.mem_of_mem_drop hc)
theorem le_merge {a b : List Chg} (ha : a.Pairwise LeC) (hb : b.Pairwise LeC) : (List.merge a b leB).Pairwise LeC := by
  have h := List.pairwise_merge (le := leB) (l₁ := a) (l₂ := b) (fun x y z h1 h2 => by rw [leB_iff] at *; exact cmpK_le_trans h1 h2) (fun x y => by
    have := cmpK_neg x.key y.key
    rw [Bool.or_eq_true, leB_iff, leB_iff]; unfold LeC; omega) (ha.imp fun h => (leB_iff _ _).2 h) (hb.imp fun h => (leB_iff _ _).2 h)
  exact h.imp fun h => (leB_iff _ _).1 h
/-- What sorted tells: the plain changes in order, of like keys in some order. -/
def RSpost (w : World) (cs : List Chg) (e : Ending) (w' : World) : Prop := ∃ v l, e = .returned v ∧ l.Perm (cs.map plainC) ∧ l.Pairwise LeC ∧ Mine w' w.heap.size v l ∧ Below w.heap.size w w'
set_option maxRecDepth 100000 in
set_option maxHeartbeats 1000000 in
theorem rsorted_small (w : World) (cs : List Chg) (sp : Option Addr) (cap b o : Nat) (ms : List MC) (hC : Chs w sp cap cs b o ms) (hok : ∀ c ∈ cs, OkC c) (hlen : cs.length < 2) :
    Calls Tryz.prog 30 #[.slice sp cs.length cap] w (RSpost w cs) := by
  have HLEN := hid hlen
  have j0 : (cs.length : Int) < 2 := by omega
  obtain ⟨Z, hZ⟩ : ∃ Z, Z = encM dM := ⟨_, rfl⟩
  have SO := hid (show Z.toArray.size = 34 by rw [hZ]; simpa using encD_len)
  have HZ := hid hZ
  clear hZ hlen
  go_enter Tryz.func30, Tryz.ntmps30
  go_wp2
  go_loopw [3, 4] (fun mv iv wr => ∃ (k : Nat) (rs : List MC), k ≤ cs.length ∧ iv = .int .i64 k ∧ OwnM wr w.heap.size mv rs ∧ OwnV wr w.heap.size rs ((cs.take k).map plainC) ∧ Below w.heap.size w wr) (fun _ iv _ => cs.length - (intOf iv).toNat)
  case atStart => exact ⟨0, [], by omega, rfl, OwnM.nil _ _, OwnV.nil _ _, Below.refl _ _⟩
  case round =>
    obtain ⟨k, rs, hk, rfl, hO, hV, hB⟩ := hrel
    by_cases hlt : k < cs.length
    · have i1 : (k : Int) < (cs.length : Int) := by omega
      obtain ⟨hb, rfl⟩ := hC.pos (by omega)
      have R1 := rng_below (hC.rd k hlt) hB hb
      have s1 := (hC.says.2 k hlt).below hB
      have lm1 := s1.len
      have S1 := hid (show (Tryz.prog.info? 79).map (·.size) = some (encM (ms.getD k dM)).length by rw [chgSize, lm1])
      have hck : cs.getD k dC ∈ cs := by rw [List.getD_eq_getElem?_getD, List.getElem?_eq_getElem hlt]; exact List.getElem_mem hlt
      have KP := hid (rplain_any wr (ms.getD k dM) (cs.getD k dC) s1 (by have := (hok _ hck).2.2.2; omega))
      have HT := hid (take_snocC cs k hlt)
      have HLR := hid (show rs.length + 1 ≤ 2199023255552 by have a1 := hV.1; have a2 := HLEN.out; simp at a1; omega)
      clear s1 hck
      generalize cs.getD k dC = c at *
      generalize ms.getD k dM = m at *
      go_wp2_with (first
        | refine wpList_load_mid rfl 79 _ rfl b (o + k * 34) rfl (encM m) _ R1 Tryz.underlying79 rfl S1.out ?_)
      refine KP.out.mono ?_
      rintro e w1 ⟨m2, rfl, k1, k2, k3, k4, hb1⟩
      clear KP R1
      have lm2 : (encM m2).length = 34 := enc_len32 m2 (by rw [k1]; exact k2)
      obtain ⟨sv, cv, hsv, _, _⟩ := id k4.form
      have om2 : ∀ v ∈ encM m2, v.oneCell' = true := one_encM m2 (by rw [hsv]; rfl)
      clear hsv
      have S2 := hid (show (encM m2).toArray.size = 34 by simpa using lm2)
      have hO1 := hO.below hb1 (Nat.le_refl _)
      have hV1 := hV.below hb1
      have hB1 : Below w.heap.size w w1 := hB.trans (hb1.mono hB.size)
      have hbA : Below w1.heap.size w1 (w1.alloc (.cells (encM m2).toArray 79)) := (Below.refl _ _).alloc (Nat.le_refl _) _
      have hO2 := hO1.below hbA (Nat.le_refl _)
      have hV2 := hV1.below hbA
      have k5 := (k4.base hB.size).below hbA (Nat.le_refl _)
      have hB2 : Below w.heap.size w (w1.alloc (.cells (encM m2).toArray 79)) := hB1.trans (hbA.mono hB1.size)
      have g1 := hnew w1 (.cells (encM m2).toArray 79)
      have hs2 := hB2.size
      clear hO hV hO1 hV1 hbA k4 hb1 hB
      go_wp2_with (first
        | refine wpList_allocZ rfl rfl Z HZ.out ?_
        | (refine wpList_store_row rfl 79 (.tmp 5) _ rfl _ _ rfl rfl 79 _ (by exact hnew _ _) (by rw [chgSize, S2.out]) (by simp only [S2.out, SO.out]) (all_oneCell_toArray om2) ?_; rw [setRow_alloc])
        | refine wpList_load_row rfl 79 _ rfl _ rfl 79 _ _ _ (by exact g1) Tryz.underlying79 rfl (by rw [chgSize, S2.out]) ?_
        | refine wpList_slice rfl _ rfl (encM m2) lm2 rfl ?_
        | (at_builtin; refine wpList_pushC rfl (.tmp 23) (.tmp 25) rfl w.heap.size _ rs m2 rfl hO2 rfl lm2 om2 HLR.out hs2 _ _ ?_; intro v7 w7 hO7 hB7 hK7 hD7))
      have hV7 : OwnV w7 w.heap.size (rs ++ [m2]) ((cs.take k).map plainC ++ [plainC c]) := by
        have h0 := hV2.of_heap (w1 := w7) fun q x hx => hK7 q (hlt_ hx) fun e => by obtain ⟨_, _, y, hy⟩ := hO2.block q e; exact ne_of_type hx hy (by decide) rfl
        refine h0.snoc k1 k2 k3 (k5.of_heap fun q hq => ?_)
        obtain ⟨q1, x, hx2⟩ := k5.ne_chg q hq
        exact hK7 q q1 fun e => by obtain ⟨_, _, y, hy⟩ := hO2.block q e; exact ne_of_type hx2 hy (by decide) rfl
      go_roundw
      case rel => exact ⟨k + 1, rs ++ [m2], by omega, by go_num, hO7, by rw [HT.out, List.map_append]; exact hV7, hB2.trans hB7⟩
      case measure => simp [intOf]; omega
    · obtain rfl : k = cs.length := by omega
      rw [List.take_length] at hV
      clear hlt
      go_wp2
      go_ret
      refine ⟨_, _, rfl, List.Perm.refl _, ?_, ⟨rs, hO, hV⟩, hB⟩
      have := HLEN.out
      match cs, this with
      | [], _ => exact List.Pairwise.nil
      | [c], _ => exact List.pairwise_singleton _ _
set_option maxRecDepth 100000 in
set_option maxHeartbeats 1000000 in
theorem rsorted_any : ∀ (n : Nat) (w : World) (cs : List Chg) (sp : Option Addr) (cap b o : Nat) (ms : List MC) (hC : Chs w sp cap cs b o ms) (hok : ∀ c ∈ cs, OkC c) (hn : cs.length ≤ n) (hlen : cs.length ≤ 1000000),
    Calls Tryz.prog 30 #[.slice sp cs.length cap] w (RSpost w cs)
  | 0, w, cs, sp, cap, b, o, ms, hC, hok, hn, hlen => rsorted_small w cs sp cap b o ms hC hok (by omega)
  | n + 1, w, cs, sp, cap, b, o, ms, hC, hok, hn, hlen => by
    by_cases h2 : cs.length < 2
    · exact rsorted_small w cs sp cap b o ms hC hok h2
    · obtain ⟨hb, rfl⟩ := hC.pos (by omega)
      obtain ⟨h, hh⟩ : ∃ h, h = cs.length / 2 := ⟨_, rfl⟩
      have hle := hC.le
      have hmx := hC.mx
      have j0 : ¬ (cs.length : Int) < 2 := by omega
      have jl : (cs.length : Int) ≤ 1000000 := by omega
      have jh : (h : Int) ≤ 1000000 := by omega
      have j1 : (cs.length : Int).tdiv 2 = (h : Int) := by rw [Int.tdiv_eq_ediv_of_nonneg (by omega)]; omega
      have tA := hC.take h (by omega)
      have tl : (cs.take h).length = h := by rw [List.length_take]; omega
      have dl : (cs.drop h).length = cs.length - h := List.length_drop
      have KA := rsorted_any n w (cs.take h) _ cap b o (ms.take h) tA (ok_take hok h) (by omega) (by omega)
      have KB := hid (fun w' (hbw : Below w.heap.size w w') => rsorted_any n w' (cs.drop h) _ (cap - h) b (o + h * 34) (ms.drop h) ((hC.drop h (by omega)).below hbw) (ok_drop hok h) (by omega) (by omega))
      rw [tl] at KA
      rw [dl] at KB
      have HKA := hid KA
      have HP1 := hid (fun (l : List Chg) (hl : l.Perm ((cs.take h).map plainC)) => show l.length = h by rw [hl.length_eq, List.length_map, tl])
      have HP2 := hid (fun (l : List Chg) (hl : l.Perm ((cs.drop h).map plainC)) => show l.length = cs.length - h by rw [hl.length_eq, List.length_map, dl])
      have j2 := hid (show (h : Int) ≤ (cap : Int) by omega)
      have j3 := hid (show (h : Int) ≤ (cs.length : Int) by omega)
      have j4 := hid (show ¬ cap = 0 by omega)
      have j5 := hid (show ¬ cap = h by omega)
      have HL := hid hlen
      have HH := hid hh
      clear KA tA tl dl hle hmx hh hC h2 hn hlen
      go_enter Tryz.func30, Tryz.ntmps30
      go_wp2_with (first
        | refine wpList_cutTo rfl (.tmp 31) (.tmp 32) rfl b o cs.length cap h rfl rfl j2.out j4.out ?_)
      refine HKA.out.mono ?_
      rintro e w1 ⟨v1, l1, rfl, q1, q2, hM1, hb1⟩
      clear HKA
      have HKB := hid (KB.out w1 hb1)
      obtain ⟨s1, d1, x1, m1, rfl, hC1, _⟩ := hM1.chs
      go_wp2_with (first
        | refine wpList_cutFrom rfl (.tmp 35) (.tmp 36) rfl b o cs.length cap h rfl rfl j3.out j5.out ?_)
      refine HKB.out.mono ?_
      rintro e w2 ⟨v2, l2, rfl, q3, q4, hM2, hb2⟩
      clear HKB KB
      have hM1' := hM1.below hb2
      have hM2' := hM2.base hb1.size
      obtain ⟨r1, p1, p2⟩ := hM1'
      obtain ⟨r2, p3, p4⟩ := hM2'
      obtain ⟨s3, d3, x3, hv3, hC3, _⟩ := p1.chs p2.says
      obtain ⟨s4, d4, x4, rfl, hC4, _⟩ := p3.chs p4.says
      simp only [Value.slice.injEq] at hv3
      obtain ⟨rfl, _, rfl⟩ := hv3
      have KM := hid (rmerged_any w2 w.heap.size (Nat.le_trans hb1.size hb2.size) l1 l2 s1 s4 x3 0 d1 x4 0 d4 r1 r2 hC3 p2 hC4 p4
        (fun c hc => by
          obtain ⟨d, hd, rfl⟩ := List.mem_map.1 (q1.mem_iff.1 hc)
          exact (ok_take hok h d hd).2.1)
        (fun c hc => by
          obtain ⟨d, hd, rfl⟩ := List.mem_map.1 (q3.mem_iff.1 hc)
          exact (ok_drop hok h d hd).2.1)
        (by have a1 := HP1.out l1 q1; have a2 := HP2.out l2 q3; have := HL.out; omega))
      clear p1 p2 p3 p4 hC1 hC3 hC4 hM1 hM2
      go_wp2_with fail
      refine KM.out.mono ?_
      rintro e w3 ⟨v3, rfl, hM3, hb3⟩
      clear KM
      go_wp2
      go_ret
      have hbw := hb1.trans (hb2.mono hb1.size)
      refine ⟨_, _, rfl, ?_, le_merge q2 q4, hM3, hbw.trans (hb3.mono hbw.size)⟩
      have hp : (List.merge l1 l2 leB).Perm (l1 ++ l2) := List.merge_perm_append _
      refine (hp.trans (q1.append q3)).trans ?_
      rw [← List.map_append, List.take_append_drop]
end Go.Proofs.YtbjahdbmkcamoaaGreatDoor
namespace Go.Proofs.YtbjahdbmkcamoaaGreatDoor
set_option linter.unusedVariables false
set_option linter.unusedSimpArgs false
open Go.RowKit
attribute [local go_sem ↓] Go.wp_at_zero Go.wp_at_succ

theorem long_at' {cs : List Chg} {i : Nat} (hi : i < cs.length) (hd : (cs.getD i dC).del = false) (hv : 128 < (cs.getD i dC).val.length) : longC cs = true := by
  unfold longC
  rw [List.any_eq_true]
  refine ⟨cs.getD i dC, ?_, by simp only [hd, hv, decide_true]; rfl⟩
  rw [List.getD_eq_getElem?_getD, List.getElem?_eq_getElem hi]; exact List.getElem_mem hi
theorem sorted_nodup {cs l : List Chg} (hp : l.Perm (cs.map plainC)) : (keysC l).Nodup ↔ (keysC cs).Nodup := by
  rw [nodup_perm hp, keys_plain]
set_option maxRecDepth 100000 in
set_option maxHeartbeats 2000000 in
theorem rwrong_any (w : World) (cs : List Chg) (sp : Option Addr) (cap b o : Nat) (ms : List MC) (hC : Chs w sp cap cs b o ms) (hok : ∀ c ∈ cs, OkC c) (n : Nat) (hn : n ≤ 4096) :
    Calls Tryz.prog 29 #[.slice sp cs.length cap, .int .i64 n] w fun e w' => e = .returned (.int .i64 (wrongC cs n)) ∧ Below w.heap.size w w' := by
  have hm := hC.mx
  have hle := hC.le
  unfold maxLen at hm
  have i0 : (cs.length : Int) ≤ 9223372036854775807 := by omega
  have gk := keyGuard
  by_cases hnl : n < cs.length
  · have HR := hid (show wrongC cs n = 31 by unfold wrongC; rw [if_pos hnl])
    have j1 : (n : Int) < (cs.length : Int) := by omega
    generalize wrongC cs n = rr at *
    go_enter Tryz.func29, Tryz.ntmps29
    go_wp2
    go_ret
    exact ⟨by rw [HR.out]; rfl, Below.refl _ _⟩
  · have j1 : ¬ (n : Int) < (cs.length : Int) := by omega
    have jl : (cs.length : Int) ≤ 4096 := by omega
    have HNL := hid (show cs.length ≤ n by omega)
    go_enter Tryz.func29, Tryz.ntmps29
    go_wp2
    go_loopw [5] (fun v wr => ∃ i : Nat, i ≤ cs.length ∧ v = .int .i64 i ∧ longC (cs.take i) = false ∧ Below w.heap.size w wr) (fun v _ => cs.length - (intOf v).toNat)
    case atStart => exact ⟨0, by omega, rfl, rfl, Below.refl _ _⟩
    case round =>
      obtain ⟨i, hi, rfl, hlg, hB0⟩ := hrel
      by_cases hlt : i < cs.length
      · have i1 : (i : Int) < (cs.length : Int) := by omega
        obtain ⟨hb, rfl⟩ := hC.pos (by omega)
        obtain ⟨spi, ci, ri, rd, rv, _, rs, li, _⟩ := hC.at i hlt
        have c1 := (hB0.cell (p := ⟨b, o + i * 34 + 32, none⟩) hb).trans rd
        have c2 := (hB0.cell (p := ⟨b, o + i * 34 + 33, none⟩) hb).trans rv
        have HLS := hid (long_split cs i hlt hlg)
        have hvm := rs.2.1
        have hvl := rs.1
        unfold maxLen at hvm
        have i4 : ((cs.getD i dC).val.length : Int) ≤ 9223372036854775807 := by omega
        have HLA := hid (long_at' hlt)
        clear rd rv rs hlg
        by_cases hbad : (cs.getD i dC).del = false ∧ 128 < (cs.getD i dC).val.length
        · have HR := hid (show wrongC cs n = 32 by unfold wrongC; rw [if_neg hnl, HLA.out hbad.1 hbad.2]; rfl)
          obtain ⟨hb1, hb2⟩ := hbad
          rw [hb1] at c1
          have i5 : (128 : Int) < ((cs.getD i dC).val.length : Int) := by omega
          clear HLA HLS hb1 hb2
          generalize (cs.getD i dC).val.length = vl at *
          go_wp2
          go_ret
          exact ⟨by rw [HR.out]; rfl, hB0⟩
        · have HLF := hid (show longC (cs.take (i + 1)) = false by
            rw [HLS.out]
            cases hd : (cs.getD i dC).del with
            | true => rfl
            | false =>
              have : ¬ 128 < (cs.getD i dC).val.length := fun h => hbad ⟨hd, h⟩
              rw [decide_eq_false this]; rfl)
          have hcase : ((cs.getD i dC).del = true) ∨ ((cs.getD i dC).del = false ∧ ¬ (128 : Int) < ((cs.getD i dC).val.length : Int)) := by
            cases hd : (cs.getD i dC).del with
            | true => exact Or.inl rfl
            | false => exact Or.inr ⟨rfl, fun h => hbad ⟨hd, by omega⟩⟩
          clear HLA HLS hbad
          generalize hvl' : (cs.getD i dC).val.length = vl at *
          generalize hdl' : (cs.getD i dC).del = dl at *
          clear hvl' hdl'
          rcases hcase with rfl | ⟨rfl, hv128⟩
          all_goals
            go_wp2
            go_roundw
            case rel => exact ⟨i + 1, by omega, by go_num, HLF.out, hB0⟩
            case measure => simp [intOf]; omega
      · obtain rfl : i = cs.length := by omega
        rw [List.take_length] at hlg
        have KS := hid (rsorted_any cs.length _ cs sp cap b o ms (hC.below hB0) hok (Nat.le_refl _) (by omega))
        have HLG := hid hlg
        clear hlt hlg
        go_wp2_with fail
        refine KS.out.mono ?_
        rintro e w1 ⟨v, l, rfl, q1, q2, hM, hb1⟩
        clear KS
        have hB1 : Below w.heap.size w w1 := hB0.trans (hb1.mono hB0.size)
        have HLL := hid (show l.length = cs.length by rw [q1.length_eq, List.length_map])
        obtain ⟨s2, d2, b2, ms2, rfl, hC2, _⟩ := hM.chs
        have i5 : (l.length : Int) ≤ 4096 := by have := HLL.out; omega
        have HND := hid (sorted_nodup q1)
        have HW := hid (show wrongC cs n = if (keysC cs).Nodup then 0 else 33 by unfold wrongC; rw [if_neg hnl, HLG.out]; rfl)
        have Q2 := hid q2
        clear hb1 hM hB0 q1 q2
        go_wp2
        go_loopw [7] (fun v wr => ∃ k : Nat, k ≤ l.length ∧ v = .int .i64 ((k : Int) + 1) ∧ (∀ i, i < k → i + 1 < l.length → (l.getD i dC).key ≠ (l.getD (i + 1) dC).key) ∧ Below w1.heap.size w1 wr) (fun v _ => l.length + 1 - (intOf v).toNat)
        case atStart => exact ⟨0, by omega, rfl, fun i h => by omega, Below.refl _ _⟩
        case round =>
          obtain ⟨k, hk, rfl, hne, hB2⟩ := hrel
          by_cases hlt : k + 1 < l.length
          · have i1 : (k : Int) + 1 < (l.length : Int) := by omega
            have i2 : (k : Int) < (l.length : Int) := by omega
            obtain ⟨hb, rfl⟩ := hC2.pos (by omega)
            obtain ⟨_, _, rj, _, _, _, _, lj, _⟩ := hC2.at k (by omega)
            obtain ⟨_, _, ri, _, _, _, _, li, _⟩ := hC2.at (k + 1) hlt
            have hij : (Tryz.prog.info? 24).map (·.size) = some (ints .u8 (l.getD k dC).key).length := by rw [keySize, ints_len, lj]
            have hii : (Tryz.prog.info? 24).map (·.size) = some (ints .u8 (l.getD (k + 1) dC).key).length := by rw [keySize, ints_len, li]
            have HWK := hid (show IntKind.i64.wrap (k : Int) = (k : Int) from wrap_i64_id _ (by omega) (by omega))
            by_cases he : (l.getD (k + 1) dC).key = (l.getD k dC).key
            · have HR := hid (show wrongC cs n = 33 by
                rw [HW.out, if_neg]
                rw [← HND.out]
                exact dup_neighbours hlt (by rw [key_get l k (by omega), key_get l (k + 1) hlt, he]))
              have qe : ∀ w, (Op.equalIn 10000 24 (.agg (ints .u8 (l.getD (k + 1) dC).key).toArray) (.agg (ints .u8 (l.getD k dC).key).toArray)).run Tryz.prog w = .ok true w := fun w => by rw [key_eq _ _ li lj, decide_eq_true he]
              clear hne he HW HND Q2
              generalize (l.getD k dC).key = kj at *
              generalize (l.getD (k + 1) dC).key = ki at *
              go_wp2
              refine wp_region_noPanic ?_
              refine wp_region_held_drew (S := fun w' => Below w1.heap.size w1 w') (by kernel_rfl) hB2.drew (fun hHeld => ?_)
              refine wpAnyH_take (i := 0) (oi := { dst := some 41, op := Op.move (Operand.tmp 6), type := 22, pos := "ref.go:135", after := #[], guard := none }) (v := .slice (some ⟨b2, 0, none⟩) l.length d2) rfl (by kernel_rfl) (by kernel_rfl) (by kernel_rfl) (fun _ _ _ h => h) (Or.inl ⟨by rfl, by intro w hS; go_simp⟩) hHeld ?_
              try simp only [Act.put, List.setIfInBounds_toArray, List.set_cons_zero, List.set_cons_succ]
              refine wpAnyH_take (i := 1) (oi := { dst := some 42, op := Op.move (Operand.tmp 7), type := 3, pos := "ref.go:135", after := #[], guard := none }) (v := .int .i64 (k + 1)) rfl (by kernel_rfl) (by kernel_rfl) (by kernel_rfl) (fun _ _ _ h => h) (Or.inl ⟨by rfl, by intro w hS; go_simp⟩) hHeld ?_
              try simp only [Act.put, List.setIfInBounds_toArray, List.set_cons_zero, List.set_cons_succ]
              refine wpAnyH_take (i := 5) (oi := { dst := some 46, op := Op.move (Operand.tmp 6), type := 22, pos := "ref.go:135", after := #[], guard := none }) (v := .slice (some ⟨b2, 0, none⟩) l.length d2) rfl (by kernel_rfl) (by kernel_rfl) (by kernel_rfl) (fun _ _ _ h => h) (Or.inl ⟨by rfl, by intro w hS; go_simp⟩) hHeld ?_
              try simp only [Act.put, List.setIfInBounds_toArray, List.set_cons_zero, List.set_cons_succ]
              refine wpAnyH_take (i := 6) (oi := { dst := some 47, op := Op.move (Operand.tmp 7), type := 3, pos := "ref.go:135", after := #[], guard := none }) (v := .int .i64 (k + 1)) rfl (by kernel_rfl) (by kernel_rfl) (by kernel_rfl) (fun _ _ _ h => h) (Or.inl ⟨by rfl, by intro w hS; go_simp⟩) hHeld ?_
              try simp only [Act.put, List.setIfInBounds_toArray, List.set_cons_zero, List.set_cons_succ]
              refine wpAnyH_take (i := 2) (oi := { dst := some 43, op := Op.indexAddr 22 (Operand.tmp 41) (Operand.tmp 42), type := 0, pos := "ref.go:135", after := #[{ on := 0, ground := Ground.data }, { on := 1, ground := Ground.data }], guard := none }) (v := .pointer (some ⟨b2, 0 + (k + 1) * 34, none⟩)) rfl (by kernel_rfl) (by kernel_rfl) (by kernel_rfl) (fun _ _ _ h => h) (Or.inl ⟨by rfl, by intro w hS; go_simp <;> (intro h; omega)⟩) hHeld ?_
              try simp only [Act.put, List.setIfInBounds_toArray, List.set_cons_zero, List.set_cons_succ]
              refine wpAnyH_take (i := 7) (oi := { dst := some 48, op := Op.binOp BinOp.sub 3 (Operand.tmp 47) (Operand.const (Value.int IntKind.i64 1)) 3, type := 3, pos := "ref.go:135", after := #[{ on := 6, ground := Ground.data }], guard := none }) (v := .int .i64 k) rfl (by kernel_rfl) (by kernel_rfl) (by kernel_rfl) (fun _ _ _ h => h) (Or.inl ⟨by rfl, by intro w hS; go_simp <;> exact HWK.out⟩) hHeld ?_
              try simp only [Act.put, List.setIfInBounds_toArray, List.set_cons_zero, List.set_cons_succ]
              refine wpAnyH_take (i := 3) (oi := { dst := some 44, op := Op.fieldAddr 79 (Operand.tmp 43) 0, type := 0, pos := "ref.go:135", after := #[{ on := 2, ground := Ground.data }], guard := none }) (v := .pointer (some ⟨b2, 0 + (k + 1) * 34, none⟩)) rfl (by kernel_rfl) (by kernel_rfl) (by kernel_rfl) (fun _ _ _ h => h) (Or.inl ⟨by rfl, by intro w hS; go_simp⟩) hHeld ?_
              try simp only [Act.put, List.setIfInBounds_toArray, List.set_cons_zero, List.set_cons_succ]
              refine wpAnyH_take (i := 8) (oi := { dst := some 49, op := Op.indexAddr 22 (Operand.tmp 46) (Operand.tmp 48), type := 0, pos := "ref.go:135", after := #[{ on := 5, ground := Ground.data }, { on := 7, ground := Ground.data }], guard := none }) (v := .pointer (some ⟨b2, 0 + k * 34, none⟩)) rfl (by kernel_rfl) (by kernel_rfl) (by kernel_rfl) (fun _ _ _ h => h) (Or.inl ⟨by rfl, by intro w hS; go_simp⟩) hHeld ?_
              try simp only [Act.put, List.setIfInBounds_toArray, List.set_cons_zero, List.set_cons_succ]
              refine wpAnyH_take (i := 4) (oi := { dst := some 45, op := Op.load 24 (Operand.tmp 44), type := 24, pos := "ref.go:135", after := #[{ on := 3, ground := Ground.data }], guard := none }) (v := .agg (ints .u8 ki).toArray) rfl (by kernel_rfl) (by kernel_rfl) (by kernel_rfl) (fun _ _ _ h => h) (yieldsIf_load_mid (by rfl) 24 _ rfl b2 (0 + (k + 1) * 34) rfl (ints .u8 ki) _ (fun w hS => rng_below ri hS hb) Tryz.underlying24 rfl hii) hHeld ?_
              try simp only [Act.put, List.setIfInBounds_toArray, List.set_cons_zero, List.set_cons_succ]
              refine wpAnyH_take (i := 9) (oi := { dst := some 50, op := Op.fieldAddr 79 (Operand.tmp 49) 0, type := 0, pos := "ref.go:135", after := #[{ on := 8, ground := Ground.data }], guard := none }) (v := .pointer (some ⟨b2, 0 + k * 34, none⟩)) rfl (by kernel_rfl) (by kernel_rfl) (by kernel_rfl) (fun _ _ _ h => h) (Or.inl ⟨by rfl, by intro w hS; go_simp⟩) hHeld ?_
              try simp only [Act.put, List.setIfInBounds_toArray, List.set_cons_zero, List.set_cons_succ]
              refine wpAnyH_take (i := 10) (oi := { dst := some 51, op := Op.load 24 (Operand.tmp 50), type := 24, pos := "ref.go:135", after := #[{ on := 9, ground := Ground.data }], guard := none }) (v := .agg (ints .u8 kj).toArray) rfl (by kernel_rfl) (by kernel_rfl) (by kernel_rfl) (fun _ _ _ h => h) (yieldsIf_load_mid (by rfl) 24 _ rfl b2 (0 + k * 34) rfl (ints .u8 kj) _ (fun w hS => rng_below rj hS hb) Tryz.underlying24 rfl hij) hHeld ?_
              try simp only [Act.put, List.setIfInBounds_toArray, List.set_cons_zero, List.set_cons_succ]
              refine wpAnyH_take (i := 11) (oi := { dst := some 52, op := Op.binOp BinOp.eql 24 (Operand.tmp 45) (Operand.tmp 51) 24, type := 4, pos := "ref.go:135", after := #[{ on := 4, ground := Ground.data }, { on := 10, ground := Ground.data }], guard := none }) (v := .bool true) rfl (by kernel_rfl) (by kernel_rfl) (by kernel_rfl) (fun _ _ _ h => h) (Or.inl ⟨by rfl, by intro w hS; go_simp⟩) hHeld ?_
              try simp only [Act.put, List.setIfInBounds_toArray, List.set_cons_zero, List.set_cons_succ]
              refine wpAnyH_done (by kernel_rfl) ?_ _
              refine NoPanic.normal ?_
              have hf := hHeld
              clear hHeld
              go_wp2
              go_ret
              exact ⟨by rw [HR.out]; rfl, hB1.trans (hf.mono hB1.size)⟩
            · have HS := hid (show ∀ i, i < k + 1 → i + 1 < l.length → (l.getD i dC).key ≠ (l.getD (i + 1) dC).key from fun i h h2 => by rcases Nat.lt_succ_iff_lt_or_eq.1 h with h | rfl; exact hne i h h2; exact fun e => he e.symm)
              have qe : ∀ w, (Op.equalIn 10000 24 (.agg (ints .u8 (l.getD (k + 1) dC).key).toArray) (.agg (ints .u8 (l.getD k dC).key).toArray)).run Tryz.prog w = .ok false w := fun w => by rw [key_eq _ _ li lj, decide_eq_false he]
              clear hne he
              generalize hkj : (l.getD k dC).key = kj at *
              generalize hki : (l.getD (k + 1) dC).key = ki at *
              clear hkj hki
              go_wp2
              refine wp_region_noPanic ?_
              refine wp_region_held_drew (S := fun w' => Below w1.heap.size w1 w') (by kernel_rfl) hB2.drew (fun hHeld => ?_)
              refine wpAnyH_take (i := 0) (oi := { dst := some 41, op := Op.move (Operand.tmp 6), type := 22, pos := "ref.go:135", after := #[], guard := none }) (v := .slice (some ⟨b2, 0, none⟩) l.length d2) rfl (by kernel_rfl) (by kernel_rfl) (by kernel_rfl) (fun _ _ _ h => h) (Or.inl ⟨by rfl, by intro w hS; go_simp⟩) hHeld ?_
              try simp only [Act.put, List.setIfInBounds_toArray, List.set_cons_zero, List.set_cons_succ]
              refine wpAnyH_take (i := 1) (oi := { dst := some 42, op := Op.move (Operand.tmp 7), type := 3, pos := "ref.go:135", after := #[], guard := none }) (v := .int .i64 (k + 1)) rfl (by kernel_rfl) (by kernel_rfl) (by kernel_rfl) (fun _ _ _ h => h) (Or.inl ⟨by rfl, by intro w hS; go_simp⟩) hHeld ?_
              try simp only [Act.put, List.setIfInBounds_toArray, List.set_cons_zero, List.set_cons_succ]
              refine wpAnyH_take (i := 5) (oi := { dst := some 46, op := Op.move (Operand.tmp 6), type := 22, pos := "ref.go:135", after := #[], guard := none }) (v := .slice (some ⟨b2, 0, none⟩) l.length d2) rfl (by kernel_rfl) (by kernel_rfl) (by kernel_rfl) (fun _ _ _ h => h) (Or.inl ⟨by rfl, by intro w hS; go_simp⟩) hHeld ?_
              try simp only [Act.put, List.setIfInBounds_toArray, List.set_cons_zero, List.set_cons_succ]
              refine wpAnyH_take (i := 6) (oi := { dst := some 47, op := Op.move (Operand.tmp 7), type := 3, pos := "ref.go:135", after := #[], guard := none }) (v := .int .i64 (k + 1)) rfl (by kernel_rfl) (by kernel_rfl) (by kernel_rfl) (fun _ _ _ h => h) (Or.inl ⟨by rfl, by intro w hS; go_simp⟩) hHeld ?_
              try simp only [Act.put, List.setIfInBounds_toArray, List.set_cons_zero, List.set_cons_succ]
              refine wpAnyH_take (i := 2) (oi := { dst := some 43, op := Op.indexAddr 22 (Operand.tmp 41) (Operand.tmp 42), type := 0, pos := "ref.go:135", after := #[{ on := 0, ground := Ground.data }, { on := 1, ground := Ground.data }], guard := none }) (v := .pointer (some ⟨b2, 0 + (k + 1) * 34, none⟩)) rfl (by kernel_rfl) (by kernel_rfl) (by kernel_rfl) (fun _ _ _ h => h) (Or.inl ⟨by rfl, by intro w hS; go_simp <;> (intro h; omega)⟩) hHeld ?_
              try simp only [Act.put, List.setIfInBounds_toArray, List.set_cons_zero, List.set_cons_succ]
              refine wpAnyH_take (i := 7) (oi := { dst := some 48, op := Op.binOp BinOp.sub 3 (Operand.tmp 47) (Operand.const (Value.int IntKind.i64 1)) 3, type := 3, pos := "ref.go:135", after := #[{ on := 6, ground := Ground.data }], guard := none }) (v := .int .i64 k) rfl (by kernel_rfl) (by kernel_rfl) (by kernel_rfl) (fun _ _ _ h => h) (Or.inl ⟨by rfl, by intro w hS; go_simp <;> exact HWK.out⟩) hHeld ?_
              try simp only [Act.put, List.setIfInBounds_toArray, List.set_cons_zero, List.set_cons_succ]
              refine wpAnyH_take (i := 3) (oi := { dst := some 44, op := Op.fieldAddr 79 (Operand.tmp 43) 0, type := 0, pos := "ref.go:135", after := #[{ on := 2, ground := Ground.data }], guard := none }) (v := .pointer (some ⟨b2, 0 + (k + 1) * 34, none⟩)) rfl (by kernel_rfl) (by kernel_rfl) (by kernel_rfl) (fun _ _ _ h => h) (Or.inl ⟨by rfl, by intro w hS; go_simp⟩) hHeld ?_
              try simp only [Act.put, List.setIfInBounds_toArray, List.set_cons_zero, List.set_cons_succ]
              refine wpAnyH_take (i := 8) (oi := { dst := some 49, op := Op.indexAddr 22 (Operand.tmp 46) (Operand.tmp 48), type := 0, pos := "ref.go:135", after := #[{ on := 5, ground := Ground.data }, { on := 7, ground := Ground.data }], guard := none }) (v := .pointer (some ⟨b2, 0 + k * 34, none⟩)) rfl (by kernel_rfl) (by kernel_rfl) (by kernel_rfl) (fun _ _ _ h => h) (Or.inl ⟨by rfl, by intro w hS; go_simp⟩) hHeld ?_
              try simp only [Act.put, List.setIfInBounds_toArray, List.set_cons_zero, List.set_cons_succ]
              refine wpAnyH_take (i := 4) (oi := { dst := some 45, op := Op.load 24 (Operand.tmp 44), type := 24, pos := "ref.go:135", after := #[{ on := 3, ground := Ground.data }], guard := none }) (v := .agg (ints .u8 ki).toArray) rfl (by kernel_rfl) (by kernel_rfl) (by kernel_rfl) (fun _ _ _ h => h) (yieldsIf_load_mid (by rfl) 24 _ rfl b2 (0 + (k + 1) * 34) rfl (ints .u8 ki) _ (fun w hS => rng_below ri hS hb) Tryz.underlying24 rfl hii) hHeld ?_
              try simp only [Act.put, List.setIfInBounds_toArray, List.set_cons_zero, List.set_cons_succ]
              refine wpAnyH_take (i := 9) (oi := { dst := some 50, op := Op.fieldAddr 79 (Operand.tmp 49) 0, type := 0, pos := "ref.go:135", after := #[{ on := 8, ground := Ground.data }], guard := none }) (v := .pointer (some ⟨b2, 0 + k * 34, none⟩)) rfl (by kernel_rfl) (by kernel_rfl) (by kernel_rfl) (fun _ _ _ h => h) (Or.inl ⟨by rfl, by intro w hS; go_simp⟩) hHeld ?_
              try simp only [Act.put, List.setIfInBounds_toArray, List.set_cons_zero, List.set_cons_succ]
              refine wpAnyH_take (i := 10) (oi := { dst := some 51, op := Op.load 24 (Operand.tmp 50), type := 24, pos := "ref.go:135", after := #[{ on := 9, ground := Ground.data }], guard := none }) (v := .agg (ints .u8 kj).toArray) rfl (by kernel_rfl) (by kernel_rfl) (by kernel_rfl) (fun _ _ _ h => h) (yieldsIf_load_mid (by rfl) 24 _ rfl b2 (0 + k * 34) rfl (ints .u8 kj) _ (fun w hS => rng_below rj hS hb) Tryz.underlying24 rfl hij) hHeld ?_
              try simp only [Act.put, List.setIfInBounds_toArray, List.set_cons_zero, List.set_cons_succ]
              refine wpAnyH_take (i := 11) (oi := { dst := some 52, op := Op.binOp BinOp.eql 24 (Operand.tmp 45) (Operand.tmp 51) 24, type := 4, pos := "ref.go:135", after := #[{ on := 4, ground := Ground.data }, { on := 10, ground := Ground.data }], guard := none }) (v := .bool false) rfl (by kernel_rfl) (by kernel_rfl) (by kernel_rfl) (fun _ _ _ h => h) (Or.inl ⟨by rfl, by intro w hS; go_simp⟩) hHeld ?_
              try simp only [Act.put, List.setIfInBounds_toArray, List.set_cons_zero, List.set_cons_succ]
              refine wpAnyH_done (by kernel_rfl) ?_ _
              refine NoPanic.normal ?_
              have hf := hHeld
              clear hHeld
              go_wp2
              go_roundw
              case rel => exact ⟨k + 1, by omega, by go_num, HS.out, hf⟩
              case measure => simp [intOf]; omega
          · have j5 : ¬ (k : Int) + 1 < (l.length : Int) := by omega
            have HR := hid (show wrongC cs n = 0 by
              rw [HW.out, if_pos]
              rw [← HND.out]
              exact pairwise_ne_of_lt (lt_of_neighbours Q2.out fun i h => by
                rw [key_get l i (by omega), key_get l (i + 1) h]
                intro e
                exact hne i (by omega) h (Option.some.inj e)))
            clear hne hlt HW HND Q2
            go_wp2
            go_ret
            exact ⟨by rw [HR.out]; rfl, hB1.trans (hB2.mono hB1.size)⟩
set_option maxRecDepth 100000 in
set_option maxHeartbeats 1000000 in
theorem rNormal_any (w : World) (cs : List Chg) (sp : Option Addr) (cap b o : Nat) (ms : List MC) (hC : Chs w sp cap cs b o ms) (hok : ∀ c ∈ cs, OkC c) :
    Calls Tryz.prog 14 #[.slice sp cs.length cap] w fun e w' => ∃ v, e = .returned (.tuple #[v, .int .i64 (NorE cs)]) ∧ Mine w' w.heap.size v (NorL cs) ∧ Below w.heap.size w w' := by
  have K1 := hid (rwrong_any w cs sp cap b o ms hC hok 4096 (by decide))
  go_enter Tryz.func14, Tryz.ntmps14
  go_wp2_with fail
  refine K1.out.mono ?_
  rintro e w1 ⟨rfl, hb1⟩
  clear K1
  by_cases h0 : wrongC cs 4096 = 0
  · obtain ⟨hl, _, hnd⟩ := wrong_zero.1 h0
    have K2 := hid (rsorted_any cs.length w1 cs sp cap b o ms (hC.below hb1) hok (Nat.le_refl _) (by omega))
    have HE := hid (show NorE cs = 0 from h0)
    have HLs := hid (show NorL cs = normC cs by unfold NorL; rw [if_pos h0])
    have HND := hid hnd
    rw [h0]
    clear h0 hl hnd
    go_wp2_with fail
    refine K2.out.mono ?_
    rintro e w2 ⟨v, l, rfl, q1, q2, hM, hb2⟩
    clear K2
    have hl := norm_unique q1 q2 HND.out
    subst hl
    go_wp2
    refine bodyPost_ret (results_tmp2 Tryz.results14 _ _ _) rfl ⟨v, ?_, ?_, hb1.trans (hb2.mono hb1.size)⟩
    · rw [HE.out]; rfl
    · rw [HLs.out]; exact hM.base hb1.size
  · have HE := hid (show NorE cs = wrongC cs 4096 from rfl)
    have HLs := hid (show NorL cs = [] by unfold NorL; rw [if_neg h0])
    generalize wrongC cs 4096 = ww at *
    go_wp2
    refine bodyPost_ret (results_tmp2 Tryz.results14 _ _ _) rfl ⟨.slice none 0 0, ?_, ?_, hb1⟩
    · rw [HE.out]; rfl
    · rw [HLs.out]; exact Mine.nil _ _
end Go.Proofs.YtbjahdbmkcamoaaGreatDoor
namespace Go.Proofs.YtbjahdbmkcamoaaGreatDoor
set_option linter.unusedVariables false
set_option linter.unusedSimpArgs false
open Go.RowKit
attribute [local go_sem ↓] Go.wp_at_zero Go.wp_at_succ

def entC (c : Chg) : EnM := ⟨c.key, c.val⟩
def entsC (l : List Chg) : List EnM := (l.filter fun c => !c.del).map entC
theorem entsC_nil : entsC [] = [] := rfl
theorem entsC_snoc_del (l : List Chg) {c : Chg} (h : c.del = true) : entsC (l ++ [c]) = entsC l := by simp [entsC, List.filter_append, h]
theorem entsC_snoc_put (l : List Chg) {c : Chg} (h : c.del = false) : entsC (l ++ [c]) = entsC l ++ [entC c] := by simp [entsC, List.filter_append, h]
theorem entsC_len (l : List Chg) : (entsC l).length ≤ l.length := by
  unfold entsC; rw [List.length_map]; exact List.length_filter_le _ _
theorem entsC_mem {l : List Chg} {e : EnM} (h : e ∈ entsC l) : ∃ c ∈ l, c.del = false ∧ e = entC c := by
  obtain ⟨c, hc, rfl⟩ := List.mem_map.1 h
  obtain ⟨h1, h2⟩ := List.mem_filter.1 hc
  exact ⟨c, h1, by simpa using h2, rfl⟩
theorem entsC_srt {l : List Chg} (h : l.Pairwise LtC) : SrtC (entsC l) := by
  unfold SrtC entsC
  rw [List.pairwise_map]
  exact h.sublist (List.filter_sublist)
/-- What the map of a list of changes is. -/
def mapC (cs : List Chg) : List EnM := entsC (NorL cs)
theorem norL_mem {cs : List Chg} {c : Chg} (h : c ∈ NorL cs) : ∃ d ∈ cs, c = plainC d ∧ (d.del = false → d.val.length ≤ 128) := by
  unfold NorL at h
  by_cases h0 : wrongC cs 4096 = 0
  · rw [if_pos h0] at h
    have := (normC_perm cs).mem_iff.1 h
    obtain ⟨d, hd, rfl⟩ := List.mem_map.1 this
    refine ⟨d, hd, rfl, fun hx => ?_⟩
    have hl := (wrong_zero.1 h0).2.1
    unfold longC at hl
    rw [List.any_eq_false] at hl
    have := hl d hd
    simpa [hx] using this
  · rw [if_neg h0] at h; cases h
theorem norL_ok {cs : List Chg} (hok : ∀ c ∈ cs, OkC c) : ∀ c ∈ NorL cs, OkC c := fun c h => by
  obtain ⟨d, hd, rfl, _⟩ := norL_mem h
  obtain ⟨h1, h2, h3, h4⟩ := hok d hd
  refine ⟨h1, h2, ?_, ?_⟩ <;> · unfold plainC; cases d.del <;> simp_all [Byts]
theorem norL_len (cs : List Chg) : (NorL cs).length ≤ 4096 := by
  unfold NorL
  by_cases h0 : wrongC cs 4096 = 0
  · rw [if_pos h0, (normC_perm cs).length_eq, List.length_map]; exact (wrong_zero.1 h0).1
  · rw [if_neg h0]; simp
theorem norL_lt (cs : List Chg) : (NorL cs).Pairwise LtC := by
  unfold NorL
  by_cases h0 : wrongC cs 4096 = 0
  · rw [if_pos h0]; exact normC_lt (wrong_zero.1 h0).2.2
  · rw [if_neg h0]; exact List.Pairwise.nil
theorem plain_norL (cs : List Chg) : (NorL cs).map plainC = NorL cs := by
  conv => rhs; rw [← List.map_id (NorL cs)]
  refine List.map_congr_left fun c h => ?_
  obtain ⟨d, _, rfl, _⟩ := norL_mem h
  unfold plainC; cases d.del <;> rfl
theorem mapC_vs {cs : List Chg} (hok : ∀ c ∈ cs, OkC c) : MapVs (mapC cs) := ⟨fun e h => by
  obtain ⟨c, hc, hd, rfl⟩ := entsC_mem h
  obtain ⟨d, hd', rfl, hl⟩ := norL_mem hc
  have hk := hok d hd'
  have hdel : d.del = false := hd
  refine ⟨⟨hk.1, hk.2.1⟩, ?_⟩
  show (plainC d).val.length ≤ 128
  unfold plainC; rw [hdel]; exact hl hdel⟩
theorem mapC_y {cs : List Chg} (hok : ∀ c ∈ cs, OkC c) : ∀ e ∈ mapC cs, Bys e.v := fun e h => by
  obtain ⟨c, hc, hd, rfl⟩ := entsC_mem h
  exact (norL_ok hok c hc).2.2.1
theorem mapC_srt (cs : List Chg) : SrtC (mapC cs) := entsC_srt (norL_lt cs)
theorem mapC_len (cs : List Chg) : (mapC cs).length ≤ 4096 := Nat.le_trans (entsC_len _) (norL_len cs)
end Go.Proofs.YtbjahdbmkcamoaaGreatDoor
