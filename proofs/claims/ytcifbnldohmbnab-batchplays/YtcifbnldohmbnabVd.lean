import Derived.Test.YtcifbnldohmbnabVc
namespace Go.Proofs.Ytcifbnldohmbnab
set_option linter.unusedVariables false
set_option linter.unusedSimpArgs false
open Go.RowKit
attribute [local go_sem ↓] Go.wp_at_zero Go.wp_at_succ

set_option maxRecDepth 100000 in
set_option maxHeartbeats 1000000 in
theorem rsorted_small (w : World) (cs : List Chg) (sp : Option Addr) (cap b o : Nat) (ms : List MC) (hC : Chs w sp cap cs b o ms) (hok : ∀ c ∈ cs, OkC c) (hlen : cs.length < 2) :
    Calls Try.prog 57 #[.slice sp cs.length cap] w (RSpost w cs) := by
  have HLEN := hid hlen
  have j0 : (cs.length : Int) < 2 := by omega
  obtain ⟨Z, hZ⟩ : ∃ Z, Z = encM dM := ⟨_, rfl⟩
  have SO := hid (show Z.toArray.size = 34 by rw [hZ]; simpa using encD_len)
  have HZ := hid hZ
  clear hZ hlen
  go_enter Try.func57, Try.ntmps57
  go_wp2
  go_loopw [3, 4] (fun mv iv wr => ∃ (k : Nat) (rs : List MC), k ≤ cs.length ∧ iv = .int .i64 k ∧ OwnM wr w.heap.size mv rs ∧ OwnV wr w.heap.size rs ((cs.take k).map plainC) ∧ Below w.heap.size w wr) (fun _ iv _ => cs.length - (intOf iv).toNat)
  case atStart => exact ⟨0, [], by omega, rfl, OwnM.nil _ _, OwnV.nil _ _, Below.refl _ _⟩
  case round =>
    obtain ⟨k, rs, hk, rfl, hO, hV, hB⟩ := hrel
    by_cases hlt : k < cs.length
    · have i1 : (k : Int) < (cs.length : Int) := by omega
      obtain ⟨hb, rfl⟩ := hC.pos (by omega)
      have R1 := rng_below (hC.rd k hlt) hB hb
      have s1 := (hC.says.2 k hlt).below hB
      have lm1 := s1.len
      have S1 := hid (show (Try.prog.info? 52).map (·.size) = some (encM (ms.getD k dM)).length by rw [chgSize, lm1])
      have hck : cs.getD k dC ∈ cs := by rw [List.getD_eq_getElem?_getD, List.getElem?_eq_getElem hlt]; exact List.getElem_mem hlt
      have KP := hid (rplain_any wr (ms.getD k dM) (cs.getD k dC) s1 (by have := (hok _ hck).2.2.2; omega))
      have HT := hid (take_snoc cs k hlt)
      have HLR := hid (show rs.length + 1 ≤ 2199023255552 by have a1 := hV.1; have a2 := HLEN.out; simp at a1; omega)
      clear s1 hck
      generalize cs.getD k dC = c at *
      generalize ms.getD k dM = m at *
      go_wp2_with (first
        | refine wpList_load_mid rfl 52 _ rfl b (o + k * 34) rfl (encM m) _ R1 Try.underlying52 rfl S1.out ?_)
      refine KP.out.mono ?_
      rintro e w1 ⟨m2, rfl, k1, k2, k3, k4, hb1⟩
      clear KP R1
      have lm2 : (encM m2).length = 34 := enc_len32 m2 (by rw [k1]; exact k2)
      obtain ⟨sv, cv, hsv, _, _⟩ := id k4.form
      have om2 : ∀ v ∈ encM m2, v.oneCell' = true := one_encM m2 (by rw [hsv]; rfl)
      clear hsv
      have S2 := hid (show (encM m2).toArray.size = 34 by simpa using lm2)
      have hO1 := hO.below hb1 (Nat.le_refl _)
      have hV1 := hV.below hb1
      have hB1 : Below w.heap.size w w1 := hB.trans (hb1.mono hB.size)
      have hbA : Below w1.heap.size w1 (w1.alloc (.cells (encM m2).toArray 52)) := (Below.refl _ _).alloc (Nat.le_refl _) _
      have hO2 := hO1.below hbA (Nat.le_refl _)
      have hV2 := hV1.below hbA
      have k5 := (k4.base hB.size).below hbA (Nat.le_refl _)
      have hB2 : Below w.heap.size w (w1.alloc (.cells (encM m2).toArray 52)) := hB1.trans (hbA.mono hB1.size)
      have g1 := hnew w1 (.cells (encM m2).toArray 52)
      have hs2 := hB2.size
      clear hO hV hO1 hV1 hbA k4 hb1 hB
      go_wp2_with (first
        | refine wpList_allocZ rfl rfl Z HZ.out ?_
        | (refine wpList_store_row rfl 52 (.tmp 5) _ rfl _ _ rfl rfl 52 _ (by exact hnew _ _) (by rw [chgSize, S2.out]) (by simp only [S2.out, SO.out]) (all_oneCell_toArray om2) ?_; rw [setRow_alloc])
        | refine wpList_load_row rfl 52 _ rfl _ rfl 52 _ _ _ (by exact g1) Try.underlying52 rfl (by rw [chgSize, S2.out]) ?_
        | refine wpList_slice rfl _ rfl (encM m2) lm2 rfl ?_
        | (at_builtin; refine wpList_pushC rfl (.tmp 23) (.tmp 25) rfl w.heap.size _ rs m2 rfl hO2 rfl lm2 om2 HLR.out hs2 _ _ ?_; intro v7 w7 hO7 hB7 hK7 hD7))
      have hV7 : OwnV w7 w.heap.size (rs ++ [m2]) ((cs.take k).map plainC ++ [plainC c]) := by
        have h0 := hV2.of_heap (w1 := w7) fun q x hx => hK7 q (hlt_ hx) fun e => by obtain ⟨_, _, y, hy⟩ := hO2.block q e; exact ne_of_type hx hy (by decide) rfl
        refine h0.snoc k1 k2 k3 (k5.of_heap fun q hq => ?_)
        obtain ⟨q1, x, hx2⟩ := k5.ne_chg q hq
        exact hK7 q q1 fun e => by obtain ⟨_, _, y, hy⟩ := hO2.block q e; exact ne_of_type hx2 hy (by decide) rfl
      go_roundw
      case rel => exact ⟨k + 1, rs ++ [m2], by omega, by go_num, hO7, by rw [HT.out, List.map_append]; exact hV7, hB2.trans hB7⟩
      case measure => simp [intOf]; omega
    · obtain rfl : k = cs.length := by omega
      rw [List.take_length] at hV
      clear hlt
      go_wp2
      go_ret
      refine ⟨_, _, rfl, List.Perm.refl _, ?_, ⟨rs, hO, hV⟩, hB⟩
      have := HLEN.out
      match cs, this with
      | [], _ => exact List.Pairwise.nil
      | [c], _ => exact List.pairwise_singleton _ _
set_option maxRecDepth 100000 in
set_option maxHeartbeats 1000000 in
theorem rsorted_any : ∀ (n : Nat) (w : World) (cs : List Chg) (sp : Option Addr) (cap b o : Nat) (ms : List MC) (hC : Chs w sp cap cs b o ms) (hok : ∀ c ∈ cs, OkC c) (hn : cs.length ≤ n) (hlen : cs.length ≤ 1000000),
    Calls Try.prog 57 #[.slice sp cs.length cap] w (RSpost w cs)
  | 0, w, cs, sp, cap, b, o, ms, hC, hok, hn, hlen => rsorted_small w cs sp cap b o ms hC hok (by omega)
  | n + 1, w, cs, sp, cap, b, o, ms, hC, hok, hn, hlen => by
    by_cases h2 : cs.length < 2
    · exact rsorted_small w cs sp cap b o ms hC hok h2
    · obtain ⟨hb, rfl⟩ := hC.pos (by omega)
      obtain ⟨h, hh⟩ : ∃ h, h = cs.length / 2 := ⟨_, rfl⟩
      have hle := hC.le
      have hmx := hC.mx
      have j0 : ¬ (cs.length : Int) < 2 := by omega
      have jl : (cs.length : Int) ≤ 1000000 := by omega
      have jh : (h : Int) ≤ 1000000 := by omega
      have j1 : (cs.length : Int).tdiv 2 = (h : Int) := by rw [Int.tdiv_eq_ediv_of_nonneg (by omega)]; omega
      have tA := hC.take h (by omega)
      have tl : (cs.take h).length = h := by rw [List.length_take]; omega
      have dl : (cs.drop h).length = cs.length - h := List.length_drop
      have KA := rsorted_any n w (cs.take h) _ cap b o (ms.take h) tA (ok_take hok h) (by omega) (by omega)
      have KB := hid (fun w' (hbw : Below w.heap.size w w') => rsorted_any n w' (cs.drop h) _ (cap - h) b (o + h * 34) (ms.drop h) ((hC.drop h (by omega)).below hbw) (ok_drop hok h) (by omega) (by omega))
      rw [tl] at KA
      rw [dl] at KB
      have HKA := hid KA
      have HP1 := hid (fun (l : List Chg) (hl : l.Perm ((cs.take h).map plainC)) => show l.length = h by rw [hl.length_eq, List.length_map, tl])
      have HP2 := hid (fun (l : List Chg) (hl : l.Perm ((cs.drop h).map plainC)) => show l.length = cs.length - h by rw [hl.length_eq, List.length_map, dl])
      have j2 := hid (show (h : Int) ≤ (cap : Int) by omega)
      have j3 := hid (show (h : Int) ≤ (cs.length : Int) by omega)
      have j4 := hid (show ¬ cap = 0 by omega)
      have j5 := hid (show ¬ cap = h by omega)
      have HL := hid hlen
      have HH := hid hh
      clear KA tA tl dl hle hmx hh hC h2 hn hlen
      go_enter Try.func57, Try.ntmps57
      go_wp2_with (first
        | refine wpList_cutTo rfl (.tmp 31) (.tmp 32) rfl b o cs.length cap h rfl rfl j2.out j4.out ?_)
      refine HKA.out.mono ?_
      rintro e w1 ⟨v1, l1, rfl, q1, q2, hM1, hb1⟩
      clear HKA
      have HKB := hid (KB.out w1 hb1)
      obtain ⟨s1, d1, x1, m1, rfl, hC1, _⟩ := hM1.chs
      go_wp2_with (first
        | refine wpList_cutFrom rfl (.tmp 35) (.tmp 36) rfl b o cs.length cap h rfl rfl j3.out j5.out ?_)
      refine HKB.out.mono ?_
      rintro e w2 ⟨v2, l2, rfl, q3, q4, hM2, hb2⟩
      clear HKB KB
      have hM1' := hM1.below hb2
      have hM2' := hM2.base hb1.size
      obtain ⟨r1, p1, p2⟩ := hM1'
      obtain ⟨r2, p3, p4⟩ := hM2'
      obtain ⟨s3, d3, x3, hv3, hC3, _⟩ := p1.chs p2.says
      obtain ⟨s4, d4, x4, rfl, hC4, _⟩ := p3.chs p4.says
      simp only [Value.slice.injEq] at hv3
      obtain ⟨rfl, _, rfl⟩ := hv3
      have KM := hid (rmerged_any w2 w.heap.size (Nat.le_trans hb1.size hb2.size) l1 l2 s1 s4 x3 0 d1 x4 0 d4 r1 r2 hC3 p2 hC4 p4
        (fun c hc => by
          obtain ⟨d, hd, rfl⟩ := List.mem_map.1 (q1.mem_iff.1 hc)
          exact (ok_take hok h d hd).2.1)
        (fun c hc => by
          obtain ⟨d, hd, rfl⟩ := List.mem_map.1 (q3.mem_iff.1 hc)
          exact (ok_drop hok h d hd).2.1)
        (by have a1 := HP1.out l1 q1; have a2 := HP2.out l2 q3; have := HL.out; omega))
      clear p1 p2 p3 p4 hC1 hC3 hC4 hM1 hM2
      go_wp2_with fail
      refine KM.out.mono ?_
      rintro e w3 ⟨v3, rfl, hM3, hb3⟩
      clear KM
      go_wp2
      go_ret
      have hbw := hb1.trans (hb2.mono hb1.size)
      refine ⟨_, _, rfl, ?_, le_merge q2 q4, hM3, hbw.trans (hb3.mono hbw.size)⟩
      have hp : (List.merge l1 l2 leB).Perm (l1 ++ l2) := List.merge_perm_append _
      refine (hp.trans (q1.append q3)).trans ?_
      rw [← List.map_append, List.take_append_drop]
end Go.Proofs.Ytcifbnldohmbnab
