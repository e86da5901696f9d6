import Derived.Test.YtjlakgojbfglhaaFC2
namespace Go.Proofs.Ytjlakgojbfglhaa
set_option linter.unusedVariables false
set_option linter.unusedSimpArgs false
open Go.RowKit
attribute [local go_sem ↓] Go.wp_at_zero Go.wp_at_succ

/-- A block made and filled at once. -/
theorem wpList_new {P : Program} {t : TypeId} {Z : List Value} {m : Nat} (hz : ∀ (a : Act) (o : Oper) (w : World), o.op = .alloc t → (execOp a.eval o).run P w = .ok (.value (.pointer (some ⟨w.heap.size, 0, none⟩))) (w.alloc (.cells Z.toArray t))) (hZ : Z.length = m) (hi : (P.info? t).map (·.size) = some m)
    {ops : Array Oper} {rest : List Oper} {o1 o2 : Oper} {a : Act} {w : World} {Q : Exit → Act → World → Prop} (hg1 : o1.guard = none) (ho1 : o1.op = .alloc t) (hg2 : o2.guard = none) (x y : Operand) (ho2 : o2.op = .store t x y) (hd : o2.dst = none)
    (C : List Value) (hx : (a.put o1.dst (.pointer (some ⟨w.heap.size, 0, none⟩))).eval x = .pointer (some ⟨w.heap.size, 0, none⟩)) (hy : (a.put o1.dst (.pointer (some ⟨w.heap.size, 0, none⟩))).eval y = .agg C.toArray) (hC : C.length = m) (h1 : ∀ v ∈ C, v.oneCell' = true)
    (h : wpList P ops Q rest (a.put o1.dst (.pointer (some ⟨w.heap.size, 0, none⟩))) (w.alloc (.cells C.toArray t))) : wpList P ops Q (o1 :: o2 :: rest) a w := by
  refine wpList_plain hg1 fun K hK => ?_
  unfold Oper.wp
  rw [hz a o1 w ho1]
  refine hK _ _ ?_
  refine wpList_store_row hg2 t x y ho2 w.heap.size C.toArray hx hy t Z.toArray (hnew w _) (by rw [hi, List.size_toArray, hC]) (by rw [List.size_toArray, List.size_toArray, hZ, hC]) (all_oneCell_toArray h1) ?_
  rw [hd, setRow_alloc]
  exact h
theorem wpList_field2 {ops : Array Oper} {rest : List Oper} {o : Oper} {a : Act} {w : World} {Q : Exit → Act → World → Prop} (hg : o.guard = none) (x : Operand) (ho : o.op = .field 53 x 2) (s2 : Sup) (y : Int) (hy : s2.ma = y) (hx : a.eval x = .agg (supC s2))
    (h : wpList Try.prog ops Q rest (a.put o.dst (.int .i64 y)) w) : wpList Try.prog ops Q (o :: rest) a w := by
  refine wpList_plain hg fun K hK => ?_
  unfold Oper.wp
  have e : (execOp a.eval o).run Try.prog w = .ok (.value (.int .i64 y)) w := by
    subst hy
    unfold execOp
    simp only [ho, hx]
    kernel_rfl
  rw [e]
  exact hK _ _ h
theorem allocFc (a : Act) (o : Oper) (w : World) (ho : o.op = .alloc 35) : (execOp a.eval o).run Try.prog w = .ok (.value (.pointer (some ⟨w.heap.size, 0, none⟩))) (w.alloc (.cells ([.int .i64 0, .int .i64 0, .slice none 0 0] : List Value).toArray 35)) := by
  unfold execOp
  rw [ho]
  kernel_rfl
theorem allocCn (a : Act) (o : Oper) (w : World) (ho : o.op = .alloc 37) : (execOp a.eval o).run Try.prog w = .ok (.value (.pointer (some ⟨w.heap.size, 0, none⟩))) (w.alloc (.cells ([.int .i64 0, .int .i64 0, .int .i64 0, .int .i64 0] : List Value).toArray 37)) := by
  unfold execOp
  rw [ho]
  kernel_rfl
theorem size_counts : (Try.prog.info? 37).map (·.size) = some 4 := by kernel_rfl
theorem one3 (a b : Int) (sp : Option Addr) (l c : Nat) : ∀ v ∈ ([.int .i64 a, .int .i64 b, .slice sp l c] : List Value), v.oneCell' = true := fun v hv => by
  simp only [List.mem_cons, List.not_mem_nil, or_false] at hv
  rcases hv with rfl | rfl | rfl <;> rfl
theorem one4 (a b c d : Int) : ∀ v ∈ ([.int .i64 a, .int .i64 b, .int .i64 c, .int .i64 d] : List Value), v.oneCell' = true := fun v hv => by
  simp only [List.mem_cons, List.not_mem_nil, or_false] at hv
  rcases hv with rfl | rfl | rfl | rfl <;> rfl
theorem build_fact (a b : Int) (w : World) : (Instr.build 35 #[(0, .int .i64 a), (1, .int .i64 b)]).run Try.prog w = .ok (.agg (actV a b none 0 0)) w := by kernel_rfl
theorem FC.start {w w1 : World} {base p g n : Nat} {D : DS} {s : Sup} {nx : Nat} {ep : Int} {F : List Nat} (hD : DA w1 base F p D) (hK : FK w1 g p s nx ep) (hg : base ≤ g) (hl : Lv D s nx ep bk0 n 0) (ha : D.armed = 0) (hge : s.ge = 1) (hB : Below base w w1) (hw : base ≤ w.heap.size) :
    FC w (w1.alloc (.cells (bcells (.slice none 0 0) (.slice none 0 0) bk0) 32)) base p g w1.heap.size n (3 * 0) D s nx ep bk0 bk0 F [] := by
  have h := SS.start hD hK hg hl hB hw
  exact ⟨h.da, h.fk, hl, h.ba, h.ap, h.ng, ha, hge.symm, h.bg, h.bl, h.bw, fun x hx => by cases hx⟩
set_option maxRecDepth 100000 in
set_option maxHeartbeats 40000000 in
theorem counts_in (w : World) (n : Nat) (wd : Int) (hn : 3 ≤ n ∧ n ≤ 64) (hw : 1 ≤ wd ∧ wd ≤ 32) (ac : List AC) (hok : ∀ a ∈ ac, AcOk a) (sp : Option Addr) (cap : Nat) (hA : Acs w w.heap.size sp ac) (hal : (ac.length : Int) ≤ 9223372036854775807) :
    Calls Try.prog 3 #[.int .i64 n, .int .i64 wd, .slice sp ac.length cap] w fun e w' => e = .returned (.bool true) ∧ Below w.heap.size w w' := by
  have HFT := hid (fits_yes w n wd ⟨by omega, by omega, hw.1, hw.2⟩)
  have HFR := hid (fresh_in w n wd hn hw)
  obtain ⟨base, hbase⟩ : ∃ base, base = w.heap.size := ⟨_, rfl⟩
  rw [← hbase] at HFR hA ⊢
  have BW := hid (show base ≤ w.heap.size by omega)
  have HA := hid hA
  have HOK := hid hok
  have HBK := build_book
  have AF := hid allocFc
  have AC := hid allocCn
  have LF := hid (show ([.int .i64 0, .int .i64 0, .slice none 0 0] : List Value).length = 3 from rfl)
  have LC := hid (show ([.int .i64 0, .int .i64 0, .int .i64 0, .int .i64 0] : List Value).length = 4 from rfl)
  have HN := hid hn
  obtain ⟨i5, hi5, hz5, hs5, hy5⟩ := Try.info5
  have K1 := hid (show i5.bytes * 247 ≤ 281474976710656 by rw [hy5]; omega)
  have K2 := hid (show 247 ≤ maxLen by simp [maxLen])
  have HI := hid hi5
  clear hi5 hy5
  clear hA hok hbase hn hw
  go_enter Try.func3, Try.ntmps3
  go_wp2_with (first | (go_at_call 4; refine HFT.out.mono ?_; rintro e w0 ⟨rfl, rfl⟩))
  refine HFR.out.mono ?_
  rintro e w1 ⟨p, g, F, D, rfl, hD1, hK1, hg1, hlv1, harm1, hB1⟩
  have HS0 := hid (FC.start hD1 hK1 hg1 hlv1 harm1 rfl hB1 BW.out)
  clear hD1 hK1 hg1 hlv1 harm1 hB1 HFR HFT
  go_wp2
  generalize hgb : w1.heap.size = gb at *
  clear HBK
  go_loopw [10, 11, 12, 13, 14, 15, 16, 17, 18, 19, 20, 21, 22, 23, 24, 25] (fun iv _ _ _ _ _ _ _ _ _ _ _ _ _ _ _ wr => ∃ (i : Nat) (D : DS) (s : Sup) (nx : Nat) (ep : Int) (B Bm : Bk) (F : List Nat), i ≤ ac.length ∧ i ≤ 100 ∧ iv = .int .i64 i ∧ FC w wr base p g gb n (3 * i) D s nx ep B Bm F []) (fun iv _ _ _ _ _ _ _ _ _ _ _ _ _ _ _ _ => ac.length - (intOf iv).toNat)
  case atStart => exact ⟨0, D, _, 2, _, _, _, F, by omega, by omega, rfl, HS0.out⟩
  case round =>
    clear HS0
    obtain ⟨i, D, s, nx, ep, B, Bm, F, hi, hi2, rfl, hS⟩ := hrel
    have j0 : (i : Int) ≤ 100 := by omega
    by_cases hlt : i < ac.length ∧ i < 100
    · have k1 : (i : Int) < (ac.length : Int) := by omega
      have k2 : (i : Int) < 100 := by omega
      have k3 : i < ac.length := hlt.1
      have k4 : i < 100 := hlt.2
      obtain ⟨b, o, tp, tc, rfl, hbb, hrg, hsr⟩ := HA.out.at hS.bl i hlt.1
      have hai := HOK.out (ac.getD i dA) (getD_memA ac i hlt.1)
      have hnx2 : 2 ≤ nx ∧ nx ≤ n := by
        obtain ⟨m, hm0, hm1, hm2⟩ := sup_ma hS.lv.val hS.lv.pg
        have := hS.lv.hnx; omega
      have hbd : 0 ≤ D.reads ∧ D.reads ≤ 1000000 ∧ 0 ≤ D.writes ∧ D.writes ≤ 1000000 ∧ 0 ≤ D.syncs ∧ D.syncs ≤ 1000000 ∧ (D.ops.length : Int) ≤ 1000000 := by
        have := hS.lv.cnt; have := hS.lv.ok.reads; have := hS.lv.ok.writes; have := hS.lv.ok.syncs; omega
      obtain ⟨z1, z2, z3, z4, z5, z6, z7⟩ := hbd
      generalize ac.getD i dA = A at *
      obtain ⟨kd, N, ld⟩ := A
      have HRG := hid (show wr.rangeAt b (o + i * 3) [.int .i64 kd, .int .i64 N, .slice tp ld.length tc] from hrg)
      have HAI := hid (show -9223372036854775808 ≤ N ∧ N ≤ 9223372036854775807 from hai.1)
      obtain ⟨AL, hAL⟩ : ∃ AL : List Value, AL = [.int .i64 kd, .int .i64 N, .slice tp ld.length tc] := ⟨_, rfl⟩
      have H1 := hS.alloc AL 35 (Or.inl rfl)
      have LA := hid (show AL.length = 3 by rw [hAL]; rfl)
      have OA := hid (show ∀ v ∈ AL, v.oneCell' = true by rw [hAL]; exact one3 _ _ _ _ _)
      have SA := hid (show (Try.prog.info? 35).map (·.size) = some AL.length by rw [size_fact, LA.out])
      have A0 := hid (show AL[0]? = some (.int .i64 kd) by rw [hAL]; rfl)
      have A1 := hid (show AL[1]? = some (.int .i64 N) by rw [hAL]; rfl)
      rw [← hAL] at HRG
      clear hrg hsr hai hlt hS hAL
      have hn1 : (nx : Int) ≤ 64 := by have := HN.out; omega
      have hn2 : (2 : Int) ≤ nx := by omega
      go_wp2_with (first | refine wpList_load_mid_w (by rfl) 35 (.tmp 52) (by rfl) b (o + i * 3) (by rfl) AL _ (by exact HRG.out) Try.underlying35 rfl SA.out ?_ | (refine wpList_new AF.out LF.out size_fact rfl rfl rfl _ _ rfl rfl AL rfl rfl LA.out OA.out ?_; refine Hid.out ?_))
      refine hid ?_
      generalize wr.alloc (.cells AL.toArray 35) = wa at *
      generalize wr.heap.size = ga at *
      by_cases q4 : kd = 4
      · subst q4
        have c0 := H1.cell (.head _) A0.out
        have Hz := (H1.sub (L' := []) (fun x h => by cases h)).more.more.more
        go_wp2
        go_roundw
        case rel => exact ⟨i + 1, D, s, nx, ep, B, Bm, F, by omega, by omega, by go_num, Hz⟩
        case measure => simp [intOf]; omega
      · have b4 : (kd == (4 : Int)) = false := by simp [q4]
        have c0 := H1.cell (.head _) A0.out
        by_cases q1 : kd = 1
        · subst q1
          by_cases hfu : nx < n
          · have bfl : ((nx : Int) == (n : Int)) = false := by simp; omega
            by_cases hx : 2 < nx
            · have j2 : (2 : Int) < (nx : Int) := by omega
              as_aux_lemma =>
                have KC1 := hid (Counts_any _ base F p D H1.da)
                go_wp2_with fail
                refine KC1.out.mono ?_
                rintro e w2 ⟨rfl, hb2⟩
                have H2 := H1.below hb2
                clear KC1 c0 H1 hb2
                go_wp2_with (first | (refine wpList_new AC.out LC.out size_counts rfl rfl rfl _ _ rfl rfl [.int .i64 D.reads, .int .i64 D.writes, .int .i64 D.syncs, .int .i64 D.ops.length] rfl rfl rfl (one4 _ _ _ _) ?_; refine Hid.out ?_))
                refine hid ?_
                have H3 := H2.alloc [.int .i64 D.reads, .int .i64 D.writes, .int .i64 D.syncs, .int .i64 D.ops.length] 37 (Or.inr rfl)
                clear H2
                generalize w2.alloc (.cells ([.int .i64 D.reads, .int .i64 D.writes, .int .i64 D.syncs, .int .i64 D.ops.length] : List Value).toArray 37) = w3 at *
                generalize w2.heap.size = gw at *
                have HNX := hid (FNext_any w3 g p s nx ep H3.fk)
                have HPG := hid (Pages_any w3 base F p D H3.da)
                rw [H3.lv.np] at HPG
                have KRD := hid (H3.read (by omega) hx)
                go_wp2_with (first | (go_at_call 7; refine HNX.out.mono ?_; rintro e w5 ⟨rfl, rfl⟩) | (go_at_call 8; refine HPG.out.mono ?_; rintro e w5 ⟨rfl, rfl⟩))
                refine KRD.out.mono ?_
                rintro e w4 ⟨k1, v1, hk1, rfl, H4⟩
                have KC2 := hid (show Calls Try.prog 6 #[.pointer (some ⟨p, 0, none⟩)] w4 fun e w' => e = .returned (.agg ([.int .i64 (D.reads + 1), .int .i64 D.writes, .int .i64 D.syncs, .int .i64 D.ops.length] : List Value).toArray) ∧ Below w4.heap.size w4 w' from Counts_any _ base F p _ H4.da)
                clear HNX HPG KRD H3
                go_wp2_with fail
                refine KC2.out.mono ?_
                rintro e w5 ⟨rfl, hb5⟩
                have H5 := H4.below hb5
                clear KC2 H4 hb5
                go_wp2_with (first | (refine wpList_new AC.out LC.out size_counts rfl rfl rfl _ _ rfl rfl [.int .i64 (D.reads + 1), .int .i64 D.writes, .int .i64 D.syncs, .int .i64 D.ops.length] rfl rfl rfl (one4 _ _ _ _) ?_; refine Hid.out ?_))
                refine hid ?_
                have H6 := H5.alloc [.int .i64 (D.reads + 1), .int .i64 D.writes, .int .i64 D.syncs, .int .i64 D.ops.length] 37 (Or.inr rfl)
                clear H5
                generalize w5.alloc (.cells ([.int .i64 (D.reads + 1), .int .i64 D.writes, .int .i64 D.syncs, .int .i64 D.ops.length] : List Value).toArray 37) = w6 at *
                generalize w5.heap.size = gr at *
                have m0 := H6.cell (.head _) (j := 0) (v := .int .i64 (D.reads + 1)) rfl
                have m1 := H6.cell (.head _) (j := 1) (v := .int .i64 D.writes) rfl
                have m2 := H6.cell (.head _) (j := 2) (v := .int .i64 D.syncs) rfl
                have m3 := H6.cell (.head _) (j := 3) (v := .int .i64 D.ops.length) rfl
                have u0 := H6.cell (.tail _ (.head _)) (j := 0) (v := .int .i64 D.reads) rfl
                have u1 := H6.cell (.tail _ (.head _)) (j := 1) (v := .int .i64 D.writes) rfl
                have u2 := H6.cell (.tail _ (.head _)) (j := 2) (v := .int .i64 D.syncs) rfl
                have bq : (D.reads == D.reads + 1) = false := by simp; omega
                go_wp2_with fail
                go_quiet (fail)
                have H7 := H6.below (below_drewN (Below.refl w6.heap.size w6) nq)
                clear H6 m0 m1 m2 m3 u0 u1 u2 bq
                generalize w6.drewN nq = w7 at *
                have c0 := H7.cell (.tail _ (.tail _ (.head _))) A0.out
                have c1 := H7.cell (.tail _ (.tail _ (.head _))) A1.out
                have HNX := hid (FNext_any w7 g p s nx ep H7.fk)
                obtain ⟨m, hm⟩ : ∃ m, m = N % 3 := ⟨_, rfl⟩
                have HPL := hid (place_any w7 N 3 (by decide) (by decide) HAI.out.1 HAI.out.2 3 rfl)
                rw [show ((3 : Nat) : Int) = 3 from rfl, ← hm] at HPL
                have y0 : 0 ≤ m := by omega
                have y1 : m ≤ 2 := by omega
                have hkk : kindOk (1 + m) = true := (kindOk_iff _).2 ⟨by omega, by omega⟩
                have H8 := H7.below ((Below.refl w7.heap.size w7).alloc (Nat.le_refl _) (.cells (ints .u8 [(i : Int)]).toArray 5))
                have hSr : Src (w7.alloc (.cells (ints .u8 [(i : Int)]).toArray 5)) (some ⟨w7.heap.size, 0, none⟩) 1 [(i : Int)] := src_row (tl := []) (by rw [List.append_nil]; exact hnew w7 _) 1 (by simp) (by simp [maxLen])
                have hBy : Byts [(i : Int)] := fun x hx => by simp at hx; subst hx; omega
                have KAP := hid (H8.append hfu (by omega) (1 + m) hkk [(i : Int)] hBy (by simp) _ 1 hSr)
                clear hm hkk hBy hSr H7
                go_wp2_with (first | (go_at_call 7; refine HNX.out.mono ?_; rintro e wn ⟨rfl, rfl⟩) | (go_at_call 11; refine HPL.out.mono ?_; rintro e wn ⟨rfl, rfl⟩))
                refine KAP.out.mono ?_
                rintro e w9 ⟨rfl, D2, B2, F2, H9, cn⟩
                clear KAP HPL HNX c0 c1 H8
                have hnx9 := H9.lv.hnx
                have hnp9 := H9.lv.np
                have x1 : (2 : Int) ≤ (((nx + 1) : Nat) : Int) := by
                  obtain ⟨mm, hm0, hm1, hm2⟩ := sup_ma H9.lv.val H9.lv.pg
                  omega
                have x2 : (((nx + 1) : Nat) : Int) ≤ 64 := by have := HN.out; omega
                clear hnx9 hnp9
                have KA0 := hid (Append_kind w9 base F2 p D2 H9.da g s _ ep H9.fk H9.lv.live 0 (Or.inl (by decide)) none 0 0)
                go_wp2_with fail
                refine KA0.out.mono ?_
                rintro e wb ⟨rfl, hbb1⟩
                have H10 := H9.below hbb1
                clear KA0 H9 hbb1
                go_wp2_with (first | (refine wpList_make_full _ rfl _ _ 33 rfl wb.heap.size 5 i5 (.int .u8 0) 1 Try.underlying33 HI.out hz5 hs5 .i64 .i64 _ _ 247 rfl rfl rfl rfl K1.out K2.out (Nat.le_refl _) ?_; intro wc hO1 hg1; refine Hid.out ?_))
                refine hid ?_
                have H11 := H10.below (grown_keeps hg1 (fun k hk => by cases hk) (Nat.le_refl _))
                have KA1 := hid (Append_load wc base F2 p D2 H11.da g s _ ep H11.fk H11.lv.live 1 (by decide) (by decide) (some ⟨wb.heap.size, 0, none⟩) 247 247 (by decide))
                clear H10 hO1 hg1
                go_wp2_with fail
                refine KA1.out.mono ?_
                rintro e wd1 ⟨rfl, hbb2⟩
                have H12 := H11.below hbb2
                clear KA1 H11 hbb2
                have HNX := hid (FNext_any wd1 g p s _ ep H12.fk)
                have KP1 := hid (Publish_page wd1 base F2 p D2 H12.da g s _ ep H12.fk H12.lv.live (((nx + 1) : Nat) : Int) (by omega) (by omega))
                have e1 : ((nx : Int) + 1) = ((nx + 1 : Nat) : Int) := by push_cast; rfl
                rw [← e1] at HNX KP1
                clear e1
                go_wp2_with (first | (go_at_call 7; refine HNX.out.mono ?_; rintro e wn ⟨rfl, rfl⟩))
                refine KP1.out.mono ?_
                rintro e we ⟨rfl, hbb3⟩
                have H13 := H12.below hbb3
                clear KP1 HNX H12 hbb3
                have KP2 := hid (Publish_page we base F2 p D2 H13.da g s _ ep H13.fk H13.lv.live 1 (by decide) (by omega))
                go_wp2_with fail
                refine KP2.out.mono ?_
                rintro e wf ⟨rfl, hbb4⟩
                have H14 := H13.below hbb4
                clear KP2 H13 hbb4
                have KLV := hid (Live_any wf base F2 p D2 H14.da g s _ ep H14.fk)
                go_wp2_with fail
                refine KLV.out.mono ?_
                rintro e wg ⟨rfl, hbb5⟩
                have H15 := H14.below hbb5
                clear KLV H14 hbb5
                have KC3 := hid (show Calls Try.prog 6 #[.pointer (some ⟨p, 0, none⟩)] wg fun e w' => e = .returned (.agg ([.int .i64 (D.reads + 1), .int .i64 (D.writes + 1), .int .i64 D.syncs, .int .i64 ((D.ops.length : Int) + 1)] : List Value).toArray) ∧ Below wg.heap.size wg w' from by
                  have h := Counts_any _ base F2 p D2 H15.da
                  obtain ⟨e1, e2, e3, e4⟩ := cn
                  rw [e1, e2, e3, e4] at h
                  simpa using h)
                go_wp2_with fail
                refine KC3.out.mono ?_
                rintro e wh ⟨rfl, hbb6⟩
                have H16 := H15.below hbb6
                clear KC3 H15 hbb6
                go_wp2_with (first | (refine wpList_new AC.out LC.out size_counts rfl rfl rfl _ _ rfl rfl [.int .i64 (D.reads + 1), .int .i64 (D.writes + 1), .int .i64 D.syncs, .int .i64 ((D.ops.length : Int) + 1)] rfl rfl rfl (one4 _ _ _ _) ?_; refine Hid.out ?_))
                refine hid ?_
                have H17 := H16.alloc [.int .i64 (D.reads + 1), .int .i64 (D.writes + 1), .int .i64 D.syncs, .int .i64 ((D.ops.length : Int) + 1)] 37 (Or.inr rfl)
                clear H16
                generalize wh.alloc (.cells ([.int .i64 (D.reads + 1), .int .i64 (D.writes + 1), .int .i64 D.syncs, .int .i64 ((D.ops.length : Int) + 1)] : List Value).toArray 37) = wi at *
                generalize wh.heap.size = gq at *
                have n0 := H17.cell (.head _) (j := 0) (v := .int .i64 (D.reads + 1)) rfl
                have n1 := H17.cell (.head _) (j := 1) (v := .int .i64 (D.writes + 1)) rfl
                have n2 := H17.cell (.head _) (j := 2) (v := .int .i64 D.syncs) rfl
                have n3 := H17.cell (.head _) (j := 3) (v := .int .i64 ((D.ops.length : Int) + 1)) rfl
                have m0 := H17.cell (.tail _ (.head _)) (j := 0) (v := .int .i64 (D.reads + 1)) rfl
                have m1 := H17.cell (.tail _ (.head _)) (j := 1) (v := .int .i64 D.writes) rfl
                have m2 := H17.cell (.tail _ (.head _)) (j := 2) (v := .int .i64 D.syncs) rfl
                have c0 := H17.cell (.tail _ (.tail _ (.tail _ (.head _)))) A0.out
                have HNX := hid (FNext_any wi g p s _ ep H17.fk)
                have Hz := (H17.sub (L' := []) (fun x h => by cases h)).more
                have e1 : ((nx : Int) + 1) = ((nx + 1 : Nat) : Int) := by push_cast; rfl
                rw [← e1] at HNX
                clear e1
                go_wp2_with (first | (go_at_call 7; refine HNX.out.mono ?_; rintro e wn ⟨rfl, rfl⟩))
                go_wp2
                go_roundw
                case rel => exact ⟨i + 1, D2, s, (nx + 1), ep, _, _, F2, by omega, by omega, by go_num, Hz⟩
                case measure => simp [intOf]; omega
            · have j2 : (nx : Int) ≤ 2 := by omega
              as_aux_lemma =>
                have KC1 := hid (Counts_any _ base F p D H1.da)
                go_wp2_with fail
                refine KC1.out.mono ?_
                rintro e w2 ⟨rfl, hb2⟩
                have H2 := H1.below hb2
                clear KC1 c0 H1 hb2
                go_wp2_with (first | (refine wpList_new AC.out LC.out size_counts rfl rfl rfl _ _ rfl rfl [.int .i64 D.reads, .int .i64 D.writes, .int .i64 D.syncs, .int .i64 D.ops.length] rfl rfl rfl (one4 _ _ _ _) ?_; refine Hid.out ?_))
                refine hid ?_
                have H3 := H2.alloc [.int .i64 D.reads, .int .i64 D.writes, .int .i64 D.syncs, .int .i64 D.ops.length] 37 (Or.inr rfl)
                clear H2
                generalize w2.alloc (.cells ([.int .i64 D.reads, .int .i64 D.writes, .int .i64 D.syncs, .int .i64 D.ops.length] : List Value).toArray 37) = w3 at *
                generalize w2.heap.size = gw at *
                have HNX := hid (FNext_any w3 g p s nx ep H3.fk)
                have HPG := hid (Pages_any w3 base F p D H3.da)
                rw [H3.lv.np] at HPG
                have KRD := hid (FRead_page w3 base F p D H3.da g s nx ep H3.fk H3.lv.live ((nx : Int) - 1) (by omega))
                go_wp2_with (first | (go_at_call 7; refine HNX.out.mono ?_; rintro e w5 ⟨rfl, rfl⟩) | (go_at_call 8; refine HPG.out.mono ?_; rintro e w5 ⟨rfl, rfl⟩))
                refine KRD.out.mono ?_
                rintro e w4 ⟨rfl, hb4⟩
                have H4 := (H3.below hb4).more
                clear hb4
                have KC2 := hid (show Calls Try.prog 6 #[.pointer (some ⟨p, 0, none⟩)] w4 fun e w' => e = .returned (.agg ([.int .i64 D.reads, .int .i64 D.writes, .int .i64 D.syncs, .int .i64 D.ops.length] : List Value).toArray) ∧ Below w4.heap.size w4 w' from Counts_any _ base F p _ H4.da)
                clear HNX HPG KRD H3
                go_wp2_with fail
                refine KC2.out.mono ?_
                rintro e w5 ⟨rfl, hb5⟩
                have H5 := H4.below hb5
                clear KC2 H4 hb5
                go_wp2_with (first | (refine wpList_new AC.out LC.out size_counts rfl rfl rfl _ _ rfl rfl [.int .i64 D.reads, .int .i64 D.writes, .int .i64 D.syncs, .int .i64 D.ops.length] rfl rfl rfl (one4 _ _ _ _) ?_; refine Hid.out ?_))
                refine hid ?_
                have H6 := H5.alloc [.int .i64 D.reads, .int .i64 D.writes, .int .i64 D.syncs, .int .i64 D.ops.length] 37 (Or.inr rfl)
                clear H5
                generalize w5.alloc (.cells ([.int .i64 D.reads, .int .i64 D.writes, .int .i64 D.syncs, .int .i64 D.ops.length] : List Value).toArray 37) = w6 at *
                generalize w5.heap.size = gr at *
                have m0 := H6.cell (.head _) (j := 0) (v := .int .i64 D.reads) rfl
                have m1 := H6.cell (.head _) (j := 1) (v := .int .i64 D.writes) rfl
                have m2 := H6.cell (.head _) (j := 2) (v := .int .i64 D.syncs) rfl
                have m3 := H6.cell (.head _) (j := 3) (v := .int .i64 D.ops.length) rfl
                have u0 := H6.cell (.tail _ (.head _)) (j := 0) (v := .int .i64 D.reads) rfl
                have u1 := H6.cell (.tail _ (.head _)) (j := 1) (v := .int .i64 D.writes) rfl
                have u2 := H6.cell (.tail _ (.head _)) (j := 2) (v := .int .i64 D.syncs) rfl
                have bq : (D.reads == D.reads + 1) = false := by simp; omega
                go_wp2_with fail
                go_quiet (fail)
                have H7 := H6.below (below_drewN (Below.refl w6.heap.size w6) nq)
                clear H6 m0 m1 m2 m3 u0 u1 u2 bq
                generalize w6.drewN nq = w7 at *
                have c0 := H7.cell (.tail _ (.tail _ (.head _))) A0.out
                have c1 := H7.cell (.tail _ (.tail _ (.head _))) A1.out
                have HNX := hid (FNext_any w7 g p s nx ep H7.fk)
                obtain ⟨m, hm⟩ : ∃ m, m = N % 3 := ⟨_, rfl⟩
                have HPL := hid (place_any w7 N 3 (by decide) (by decide) HAI.out.1 HAI.out.2 3 rfl)
                rw [show ((3 : Nat) : Int) = 3 from rfl, ← hm] at HPL
                have y0 : 0 ≤ m := by omega
                have y1 : m ≤ 2 := by omega
                have hkk : kindOk (1 + m) = true := (kindOk_iff _).2 ⟨by omega, by omega⟩
                have H8 := H7.below ((Below.refl w7.heap.size w7).alloc (Nat.le_refl _) (.cells (ints .u8 [(i : Int)]).toArray 5))
                have hSr : Src (w7.alloc (.cells (ints .u8 [(i : Int)]).toArray 5)) (some ⟨w7.heap.size, 0, none⟩) 1 [(i : Int)] := src_row (tl := []) (by rw [List.append_nil]; exact hnew w7 _) 1 (by simp) (by simp [maxLen])
                have hBy : Byts [(i : Int)] := fun x hx => by simp at hx; subst hx; omega
                have KAP := hid (H8.append hfu (by omega) (1 + m) hkk [(i : Int)] hBy (by simp) _ 1 hSr)
                clear hm hkk hBy hSr H7
                go_wp2_with (first | (go_at_call 7; refine HNX.out.mono ?_; rintro e wn ⟨rfl, rfl⟩) | (go_at_call 11; refine HPL.out.mono ?_; rintro e wn ⟨rfl, rfl⟩))
                refine KAP.out.mono ?_
                rintro e w9 ⟨rfl, D2, B2, F2, H9, cn⟩
                clear KAP HPL HNX c0 c1 H8
                have hnx9 := H9.lv.hnx
                have hnp9 := H9.lv.np
                have x1 : (2 : Int) ≤ (((nx + 1) : Nat) : Int) := by
                  obtain ⟨mm, hm0, hm1, hm2⟩ := sup_ma H9.lv.val H9.lv.pg
                  omega
                have x2 : (((nx + 1) : Nat) : Int) ≤ 64 := by have := HN.out; omega
                clear hnx9 hnp9
                have KA0 := hid (Append_kind w9 base F2 p D2 H9.da g s _ ep H9.fk H9.lv.live 0 (Or.inl (by decide)) none 0 0)
                go_wp2_with fail
                refine KA0.out.mono ?_
                rintro e wb ⟨rfl, hbb1⟩
                have H10 := H9.below hbb1
                clear KA0 H9 hbb1
                go_wp2_with (first | (refine wpList_make_full _ rfl _ _ 33 rfl wb.heap.size 5 i5 (.int .u8 0) 1 Try.underlying33 HI.out hz5 hs5 .i64 .i64 _ _ 247 rfl rfl rfl rfl K1.out K2.out (Nat.le_refl _) ?_; intro wc hO1 hg1; refine Hid.out ?_))
                refine hid ?_
                have H11 := H10.below (grown_keeps hg1 (fun k hk => by cases hk) (Nat.le_refl _))
                have KA1 := hid (Append_load wc base F2 p D2 H11.da g s _ ep H11.fk H11.lv.live 1 (by decide) (by decide) (some ⟨wb.heap.size, 0, none⟩) 247 247 (by decide))
                clear H10 hO1 hg1
                go_wp2_with fail
                refine KA1.out.mono ?_
                rintro e wd1 ⟨rfl, hbb2⟩
                have H12 := H11.below hbb2
                clear KA1 H11 hbb2
                have HNX := hid (FNext_any wd1 g p s _ ep H12.fk)
                have KP1 := hid (Publish_page wd1 base F2 p D2 H12.da g s _ ep H12.fk H12.lv.live (((nx + 1) : Nat) : Int) (by omega) (by omega))
                have e1 : ((nx : Int) + 1) = ((nx + 1 : Nat) : Int) := by push_cast; rfl
                rw [← e1] at HNX KP1
                clear e1
                go_wp2_with (first | (go_at_call 7; refine HNX.out.mono ?_; rintro e wn ⟨rfl, rfl⟩))
                refine KP1.out.mono ?_
                rintro e we ⟨rfl, hbb3⟩
                have H13 := H12.below hbb3
                clear KP1 HNX H12 hbb3
                have KP2 := hid (Publish_page we base F2 p D2 H13.da g s _ ep H13.fk H13.lv.live 1 (by decide) (by omega))
                go_wp2_with fail
                refine KP2.out.mono ?_
                rintro e wf ⟨rfl, hbb4⟩
                have H14 := H13.below hbb4
                clear KP2 H13 hbb4
                have KLV := hid (Live_any wf base F2 p D2 H14.da g s _ ep H14.fk)
                go_wp2_with fail
                refine KLV.out.mono ?_
                rintro e wg ⟨rfl, hbb5⟩
                have H15 := H14.below hbb5
                clear KLV H14 hbb5
                have KC3 := hid (show Calls Try.prog 6 #[.pointer (some ⟨p, 0, none⟩)] wg fun e w' => e = .returned (.agg ([.int .i64 D.reads, .int .i64 (D.writes + 1), .int .i64 D.syncs, .int .i64 ((D.ops.length : Int) + 1)] : List Value).toArray) ∧ Below wg.heap.size wg w' from by
                  have h := Counts_any _ base F2 p D2 H15.da
                  obtain ⟨e1, e2, e3, e4⟩ := cn
                  rw [e1, e2, e3, e4] at h
                  simpa using h)
                go_wp2_with fail
                refine KC3.out.mono ?_
                rintro e wh ⟨rfl, hbb6⟩
                have H16 := H15.below hbb6
                clear KC3 H15 hbb6
                go_wp2_with (first | (refine wpList_new AC.out LC.out size_counts rfl rfl rfl _ _ rfl rfl [.int .i64 D.reads, .int .i64 (D.writes + 1), .int .i64 D.syncs, .int .i64 ((D.ops.length : Int) + 1)] rfl rfl rfl (one4 _ _ _ _) ?_; refine Hid.out ?_))
                refine hid ?_
                have H17 := H16.alloc [.int .i64 D.reads, .int .i64 (D.writes + 1), .int .i64 D.syncs, .int .i64 ((D.ops.length : Int) + 1)] 37 (Or.inr rfl)
                clear H16
                generalize wh.alloc (.cells ([.int .i64 D.reads, .int .i64 (D.writes + 1), .int .i64 D.syncs, .int .i64 ((D.ops.length : Int) + 1)] : List Value).toArray 37) = wi at *
                generalize wh.heap.size = gq at *
                have n0 := H17.cell (.head _) (j := 0) (v := .int .i64 D.reads) rfl
                have n1 := H17.cell (.head _) (j := 1) (v := .int .i64 (D.writes + 1)) rfl
                have n2 := H17.cell (.head _) (j := 2) (v := .int .i64 D.syncs) rfl
                have n3 := H17.cell (.head _) (j := 3) (v := .int .i64 ((D.ops.length : Int) + 1)) rfl
                have m0 := H17.cell (.tail _ (.head _)) (j := 0) (v := .int .i64 D.reads) rfl
                have m1 := H17.cell (.tail _ (.head _)) (j := 1) (v := .int .i64 D.writes) rfl
                have m2 := H17.cell (.tail _ (.head _)) (j := 2) (v := .int .i64 D.syncs) rfl
                have c0 := H17.cell (.tail _ (.tail _ (.tail _ (.head _)))) A0.out
                have HNX := hid (FNext_any wi g p s _ ep H17.fk)
                have Hz := (H17.sub (L' := []) (fun x h => by cases h)).more
                have e1 : ((nx : Int) + 1) = ((nx + 1 : Nat) : Int) := by push_cast; rfl
                rw [← e1] at HNX
                clear e1
                go_wp2_with (first | (go_at_call 7; refine HNX.out.mono ?_; rintro e wn ⟨rfl, rfl⟩))
                go_wp2
                go_roundw
                case rel => exact ⟨i + 1, D2, s, (nx + 1), ep, _, _, F2, by omega, by omega, by go_num, Hz⟩
                case measure => simp [intOf]; omega
          · have HFU := hid (show nx = n by omega)
            clear hfu
            have bfl : ((nx : Int) == (n : Int)) = true := by rw [HFU.out]; simp
            by_cases hx : 2 < nx
            · have j2 : (2 : Int) < (nx : Int) := by omega
              as_aux_lemma =>
                have KC1 := hid (Counts_any _ base F p D H1.da)
                go_wp2_with fail
                refine KC1.out.mono ?_
                rintro e w2 ⟨rfl, hb2⟩
                have H2 := H1.below hb2
                clear KC1 c0 H1 hb2
                go_wp2_with (first | (refine wpList_new AC.out LC.out size_counts rfl rfl rfl _ _ rfl rfl [.int .i64 D.reads, .int .i64 D.writes, .int .i64 D.syncs, .int .i64 D.ops.length] rfl rfl rfl (one4 _ _ _ _) ?_; refine Hid.out ?_))
                refine hid ?_
                have H3 := H2.alloc [.int .i64 D.reads, .int .i64 D.writes, .int .i64 D.syncs, .int .i64 D.ops.length] 37 (Or.inr rfl)
                clear H2
                generalize w2.alloc (.cells ([.int .i64 D.reads, .int .i64 D.writes, .int .i64 D.syncs, .int .i64 D.ops.length] : List Value).toArray 37) = w3 at *
                generalize w2.heap.size = gw at *
                have HNX := hid (FNext_any w3 g p s nx ep H3.fk)
                have HPG := hid (Pages_any w3 base F p D H3.da)
                rw [H3.lv.np] at HPG
                have KRD := hid (H3.read (by omega) hx)
                go_wp2_with (first | (go_at_call 7; refine HNX.out.mono ?_; rintro e w5 ⟨rfl, rfl⟩) | (go_at_call 8; refine HPG.out.mono ?_; rintro e w5 ⟨rfl, rfl⟩))
                refine KRD.out.mono ?_
                rintro e w4 ⟨k1, v1, hk1, rfl, H4⟩
                have KC2 := hid (show Calls Try.prog 6 #[.pointer (some ⟨p, 0, none⟩)] w4 fun e w' => e = .returned (.agg ([.int .i64 (D.reads + 1), .int .i64 D.writes, .int .i64 D.syncs, .int .i64 D.ops.length] : List Value).toArray) ∧ Below w4.heap.size w4 w' from Counts_any _ base F p _ H4.da)
                clear HNX HPG KRD H3
                go_wp2_with fail
                refine KC2.out.mono ?_
                rintro e w5 ⟨rfl, hb5⟩
                have H5 := H4.below hb5
                clear KC2 H4 hb5
                go_wp2_with (first | (refine wpList_new AC.out LC.out size_counts rfl rfl rfl _ _ rfl rfl [.int .i64 (D.reads + 1), .int .i64 D.writes, .int .i64 D.syncs, .int .i64 D.ops.length] rfl rfl rfl (one4 _ _ _ _) ?_; refine Hid.out ?_))
                refine hid ?_
                have H6 := H5.alloc [.int .i64 (D.reads + 1), .int .i64 D.writes, .int .i64 D.syncs, .int .i64 D.ops.length] 37 (Or.inr rfl)
                clear H5
                generalize w5.alloc (.cells ([.int .i64 (D.reads + 1), .int .i64 D.writes, .int .i64 D.syncs, .int .i64 D.ops.length] : List Value).toArray 37) = w6 at *
                generalize w5.heap.size = gr at *
                have m0 := H6.cell (.head _) (j := 0) (v := .int .i64 (D.reads + 1)) rfl
                have m1 := H6.cell (.head _) (j := 1) (v := .int .i64 D.writes) rfl
                have m2 := H6.cell (.head _) (j := 2) (v := .int .i64 D.syncs) rfl
                have m3 := H6.cell (.head _) (j := 3) (v := .int .i64 D.ops.length) rfl
                have u0 := H6.cell (.tail _ (.head _)) (j := 0) (v := .int .i64 D.reads) rfl
                have u1 := H6.cell (.tail _ (.head _)) (j := 1) (v := .int .i64 D.writes) rfl
                have u2 := H6.cell (.tail _ (.head _)) (j := 2) (v := .int .i64 D.syncs) rfl
                have bq : (D.reads == D.reads + 1) = false := by simp; omega
                go_wp2_with fail
                go_quiet (fail)
                have H7 := H6.below (below_drewN (Below.refl w6.heap.size w6) nq)
                clear H6 m0 m1 m2 m3 u0 u1 u2 bq
                generalize w6.drewN nq = w7 at *
                have c0 := H7.cell (.tail _ (.tail _ (.head _))) A0.out
                have c1 := H7.cell (.tail _ (.tail _ (.head _))) A1.out
                have HNX := hid (FNext_any w7 g p s nx ep H7.fk)
                obtain ⟨m, hm⟩ : ∃ m, m = N % 3 := ⟨_, rfl⟩
                have HPL := hid (place_any w7 N 3 (by decide) (by decide) HAI.out.1 HAI.out.2 3 rfl)
                rw [show ((3 : Nat) : Int) = 3 from rfl, ← hm] at HPL
                have y0 : 0 ≤ m := by omega
                have y1 : m ≤ 2 := by omega
                have hkk : kindOk (1 + m) = true := (kindOk_iff _).2 ⟨by omega, by omega⟩
                have H8 := H7.below ((Below.refl w7.heap.size w7).alloc (Nat.le_refl _) (.cells (ints .u8 [(i : Int)]).toArray 5))
                have hSr : Src (w7.alloc (.cells (ints .u8 [(i : Int)]).toArray 5)) (some ⟨w7.heap.size, 0, none⟩) 1 [(i : Int)] := src_row (tl := []) (by rw [List.append_nil]; exact hnew w7 _) 1 (by simp) (by simp [maxLen])
                have hBy : Byts [(i : Int)] := fun x hx => by simp at hx; subst hx; omega
                have KAP := hid (Append_full _ base F p _ H8.da g s ep nx H8.fk H8.lv.live (by rw [H8.lv.np]; exact HFU.out) (1 + m) hkk [(i : Int)] (by simp) (some ⟨w7.heap.size, 0, none⟩) 1)
                clear hm hkk hBy hSr H7
                go_wp2_with (first | (go_at_call 7; refine HNX.out.mono ?_; rintro e wn ⟨rfl, rfl⟩) | (go_at_call 11; refine HPL.out.mono ?_; rintro e wn ⟨rfl, rfl⟩))
                refine KAP.out.mono ?_
                rintro e w9 ⟨rfl, hb9⟩
                have H9 := (H8.below hb9).more
                have cn := CN.same ({ D with reads := D.reads + 1 })
                clear KAP HPL HNX c0 c1 H8 hb9
                have hnx9 := H9.lv.hnx
                have hnp9 := H9.lv.np
                have x1 : (2 : Int) ≤ ((nx : Nat) : Int) := by
                  obtain ⟨mm, hm0, hm1, hm2⟩ := sup_ma H9.lv.val H9.lv.pg
                  omega
                have x2 : ((nx : Nat) : Int) ≤ 64 := by have := HN.out; omega
                clear hnx9 hnp9
                have KA0 := hid (Append_kind w9 base F p ({ D with reads := D.reads + 1 }) H9.da g s _ ep H9.fk H9.lv.live 0 (Or.inl (by decide)) none 0 0)
                go_wp2_with fail
                refine KA0.out.mono ?_
                rintro e wb ⟨rfl, hbb1⟩
                have H10 := H9.below hbb1
                clear KA0 H9 hbb1
                go_wp2_with (first | (refine wpList_make_full _ rfl _ _ 33 rfl wb.heap.size 5 i5 (.int .u8 0) 1 Try.underlying33 HI.out hz5 hs5 .i64 .i64 _ _ 247 rfl rfl rfl rfl K1.out K2.out (Nat.le_refl _) ?_; intro wc hO1 hg1; refine Hid.out ?_))
                refine hid ?_
                have H11 := H10.below (grown_keeps hg1 (fun k hk => by cases hk) (Nat.le_refl _))
                have KA1 := hid (Append_load wc base F p ({ D with reads := D.reads + 1 }) H11.da g s _ ep H11.fk H11.lv.live 1 (by decide) (by decide) (some ⟨wb.heap.size, 0, none⟩) 247 247 (by decide))
                clear H10 hO1 hg1
                go_wp2_with fail
                refine KA1.out.mono ?_
                rintro e wd1 ⟨rfl, hbb2⟩
                have H12 := H11.below hbb2
                clear KA1 H11 hbb2
                have HNX := hid (FNext_any wd1 g p s _ ep H12.fk)
                have KP1 := hid (Publish_page wd1 base F p ({ D with reads := D.reads + 1 }) H12.da g s _ ep H12.fk H12.lv.live ((nx : Nat) : Int) (by omega) (by omega))
                go_wp2_with (first | (go_at_call 7; refine HNX.out.mono ?_; rintro e wn ⟨rfl, rfl⟩))
                refine KP1.out.mono ?_
                rintro e we ⟨rfl, hbb3⟩
                have H13 := H12.below hbb3
                clear KP1 HNX H12 hbb3
                have KP2 := hid (Publish_page we base F p ({ D with reads := D.reads + 1 }) H13.da g s _ ep H13.fk H13.lv.live 1 (by decide) (by omega))
                go_wp2_with fail
                refine KP2.out.mono ?_
                rintro e wf ⟨rfl, hbb4⟩
                have H14 := H13.below hbb4
                clear KP2 H13 hbb4
                have KLV := hid (Live_any wf base F p ({ D with reads := D.reads + 1 }) H14.da g s _ ep H14.fk)
                go_wp2_with fail
                refine KLV.out.mono ?_
                rintro e wg ⟨rfl, hbb5⟩
                have H15 := H14.below hbb5
                clear KLV H14 hbb5
                have KC3 := hid (show Calls Try.prog 6 #[.pointer (some ⟨p, 0, none⟩)] wg fun e w' => e = .returned (.agg ([.int .i64 (D.reads + 1), .int .i64 D.writes, .int .i64 D.syncs, .int .i64 (D.ops.length : Int)] : List Value).toArray) ∧ Below wg.heap.size wg w' from by
                  have h := Counts_any _ base F p ({ D with reads := D.reads + 1 }) H15.da
                  obtain ⟨e1, e2, e3, e4⟩ := cn
                  rw [e1, e2, e3, e4] at h
                  simpa using h)
                go_wp2_with fail
                refine KC3.out.mono ?_
                rintro e wh ⟨rfl, hbb6⟩
                have H16 := H15.below hbb6
                clear KC3 H15 hbb6
                go_wp2_with (first | (refine wpList_new AC.out LC.out size_counts rfl rfl rfl _ _ rfl rfl [.int .i64 (D.reads + 1), .int .i64 D.writes, .int .i64 D.syncs, .int .i64 (D.ops.length : Int)] rfl rfl rfl (one4 _ _ _ _) ?_; refine Hid.out ?_))
                refine hid ?_
                have H17 := H16.alloc [.int .i64 (D.reads + 1), .int .i64 D.writes, .int .i64 D.syncs, .int .i64 (D.ops.length : Int)] 37 (Or.inr rfl)
                clear H16
                generalize wh.alloc (.cells ([.int .i64 (D.reads + 1), .int .i64 D.writes, .int .i64 D.syncs, .int .i64 (D.ops.length : Int)] : List Value).toArray 37) = wi at *
                generalize wh.heap.size = gq at *
                have n0 := H17.cell (.head _) (j := 0) (v := .int .i64 (D.reads + 1)) rfl
                have n1 := H17.cell (.head _) (j := 1) (v := .int .i64 D.writes) rfl
                have n2 := H17.cell (.head _) (j := 2) (v := .int .i64 D.syncs) rfl
                have n3 := H17.cell (.head _) (j := 3) (v := .int .i64 (D.ops.length : Int)) rfl
                have m0 := H17.cell (.tail _ (.head _)) (j := 0) (v := .int .i64 (D.reads + 1)) rfl
                have m1 := H17.cell (.tail _ (.head _)) (j := 1) (v := .int .i64 D.writes) rfl
                have m2 := H17.cell (.tail _ (.head _)) (j := 2) (v := .int .i64 D.syncs) rfl
                have c0 := H17.cell (.tail _ (.tail _ (.tail _ (.head _)))) A0.out
                have HNX := hid (FNext_any wi g p s _ ep H17.fk)
                have Hz := (H17.sub (L' := []) (fun x h => by cases h)).more
                go_wp2_with (first | (go_at_call 7; refine HNX.out.mono ?_; rintro e wn ⟨rfl, rfl⟩))
                go_wp2
                go_roundw
                case rel => exact ⟨i + 1, ({ D with reads := D.reads + 1 }), s, nx, ep, _, _, F, by omega, by omega, by go_num, Hz⟩
                case measure => simp [intOf]; omega
            · have j2 : (nx : Int) ≤ 2 := by omega
              as_aux_lemma =>
                have KC1 := hid (Counts_any _ base F p D H1.da)
                go_wp2_with fail
                refine KC1.out.mono ?_
                rintro e w2 ⟨rfl, hb2⟩
                have H2 := H1.below hb2
                clear KC1 c0 H1 hb2
                go_wp2_with (first | (refine wpList_new AC.out LC.out size_counts rfl rfl rfl _ _ rfl rfl [.int .i64 D.reads, .int .i64 D.writes, .int .i64 D.syncs, .int .i64 D.ops.length] rfl rfl rfl (one4 _ _ _ _) ?_; refine Hid.out ?_))
                refine hid ?_
                have H3 := H2.alloc [.int .i64 D.reads, .int .i64 D.writes, .int .i64 D.syncs, .int .i64 D.ops.length] 37 (Or.inr rfl)
                clear H2
                generalize w2.alloc (.cells ([.int .i64 D.reads, .int .i64 D.writes, .int .i64 D.syncs, .int .i64 D.ops.length] : List Value).toArray 37) = w3 at *
                generalize w2.heap.size = gw at *
                have HNX := hid (FNext_any w3 g p s nx ep H3.fk)
                have HPG := hid (Pages_any w3 base F p D H3.da)
                rw [H3.lv.np] at HPG
                have KRD := hid (FRead_page w3 base F p D H3.da g s nx ep H3.fk H3.lv.live ((nx : Int) - 1) (by omega))
                go_wp2_with (first | (go_at_call 7; refine HNX.out.mono ?_; rintro e w5 ⟨rfl, rfl⟩) | (go_at_call 8; refine HPG.out.mono ?_; rintro e w5 ⟨rfl, rfl⟩))
                refine KRD.out.mono ?_
                rintro e w4 ⟨rfl, hb4⟩
                have H4 := (H3.below hb4).more
                clear hb4
                have KC2 := hid (show Calls Try.prog 6 #[.pointer (some ⟨p, 0, none⟩)] w4 fun e w' => e = .returned (.agg ([.int .i64 D.reads, .int .i64 D.writes, .int .i64 D.syncs, .int .i64 D.ops.length] : List Value).toArray) ∧ Below w4.heap.size w4 w' from Counts_any _ base F p _ H4.da)
                clear HNX HPG KRD H3
                go_wp2_with fail
                refine KC2.out.mono ?_
                rintro e w5 ⟨rfl, hb5⟩
                have H5 := H4.below hb5
                clear KC2 H4 hb5
                go_wp2_with (first | (refine wpList_new AC.out LC.out size_counts rfl rfl rfl _ _ rfl rfl [.int .i64 D.reads, .int .i64 D.writes, .int .i64 D.syncs, .int .i64 D.ops.length] rfl rfl rfl (one4 _ _ _ _) ?_; refine Hid.out ?_))
                refine hid ?_
                have H6 := H5.alloc [.int .i64 D.reads, .int .i64 D.writes, .int .i64 D.syncs, .int .i64 D.ops.length] 37 (Or.inr rfl)
                clear H5
                generalize w5.alloc (.cells ([.int .i64 D.reads, .int .i64 D.writes, .int .i64 D.syncs, .int .i64 D.ops.length] : List Value).toArray 37) = w6 at *
                generalize w5.heap.size = gr at *
                have m0 := H6.cell (.head _) (j := 0) (v := .int .i64 D.reads) rfl
                have m1 := H6.cell (.head _) (j := 1) (v := .int .i64 D.writes) rfl
                have m2 := H6.cell (.head _) (j := 2) (v := .int .i64 D.syncs) rfl
                have m3 := H6.cell (.head _) (j := 3) (v := .int .i64 D.ops.length) rfl
                have u0 := H6.cell (.tail _ (.head _)) (j := 0) (v := .int .i64 D.reads) rfl
                have u1 := H6.cell (.tail _ (.head _)) (j := 1) (v := .int .i64 D.writes) rfl
                have u2 := H6.cell (.tail _ (.head _)) (j := 2) (v := .int .i64 D.syncs) rfl
                have bq : (D.reads == D.reads + 1) = false := by simp; omega
                go_wp2_with fail
                go_quiet (fail)
                have H7 := H6.below (below_drewN (Below.refl w6.heap.size w6) nq)
                clear H6 m0 m1 m2 m3 u0 u1 u2 bq
                generalize w6.drewN nq = w7 at *
                have c0 := H7.cell (.tail _ (.tail _ (.head _))) A0.out
                have c1 := H7.cell (.tail _ (.tail _ (.head _))) A1.out
                have HNX := hid (FNext_any w7 g p s nx ep H7.fk)
                obtain ⟨m, hm⟩ : ∃ m, m = N % 3 := ⟨_, rfl⟩
                have HPL := hid (place_any w7 N 3 (by decide) (by decide) HAI.out.1 HAI.out.2 3 rfl)
                rw [show ((3 : Nat) : Int) = 3 from rfl, ← hm] at HPL
                have y0 : 0 ≤ m := by omega
                have y1 : m ≤ 2 := by omega
                have hkk : kindOk (1 + m) = true := (kindOk_iff _).2 ⟨by omega, by omega⟩
                have H8 := H7.below ((Below.refl w7.heap.size w7).alloc (Nat.le_refl _) (.cells (ints .u8 [(i : Int)]).toArray 5))
                have hSr : Src (w7.alloc (.cells (ints .u8 [(i : Int)]).toArray 5)) (some ⟨w7.heap.size, 0, none⟩) 1 [(i : Int)] := src_row (tl := []) (by rw [List.append_nil]; exact hnew w7 _) 1 (by simp) (by simp [maxLen])
                have hBy : Byts [(i : Int)] := fun x hx => by simp at hx; subst hx; omega
                have KAP := hid (Append_full _ base F p _ H8.da g s ep nx H8.fk H8.lv.live (by rw [H8.lv.np]; exact HFU.out) (1 + m) hkk [(i : Int)] (by simp) (some ⟨w7.heap.size, 0, none⟩) 1)
                clear hm hkk hBy hSr H7
                go_wp2_with (first | (go_at_call 7; refine HNX.out.mono ?_; rintro e wn ⟨rfl, rfl⟩) | (go_at_call 11; refine HPL.out.mono ?_; rintro e wn ⟨rfl, rfl⟩))
                refine KAP.out.mono ?_
                rintro e w9 ⟨rfl, hb9⟩
                have H9 := (H8.below hb9).more
                have cn := CN.same (D)
                clear KAP HPL HNX c0 c1 H8 hb9
                have hnx9 := H9.lv.hnx
                have hnp9 := H9.lv.np
                have x1 : (2 : Int) ≤ ((nx : Nat) : Int) := by
                  obtain ⟨mm, hm0, hm1, hm2⟩ := sup_ma H9.lv.val H9.lv.pg
                  omega
                have x2 : ((nx : Nat) : Int) ≤ 64 := by have := HN.out; omega
                clear hnx9 hnp9
                have KA0 := hid (Append_kind w9 base F p D H9.da g s _ ep H9.fk H9.lv.live 0 (Or.inl (by decide)) none 0 0)
                go_wp2_with fail
                refine KA0.out.mono ?_
                rintro e wb ⟨rfl, hbb1⟩
                have H10 := H9.below hbb1
                clear KA0 H9 hbb1
                go_wp2_with (first | (refine wpList_make_full _ rfl _ _ 33 rfl wb.heap.size 5 i5 (.int .u8 0) 1 Try.underlying33 HI.out hz5 hs5 .i64 .i64 _ _ 247 rfl rfl rfl rfl K1.out K2.out (Nat.le_refl _) ?_; intro wc hO1 hg1; refine Hid.out ?_))
                refine hid ?_
                have H11 := H10.below (grown_keeps hg1 (fun k hk => by cases hk) (Nat.le_refl _))
                have KA1 := hid (Append_load wc base F p D H11.da g s _ ep H11.fk H11.lv.live 1 (by decide) (by decide) (some ⟨wb.heap.size, 0, none⟩) 247 247 (by decide))
                clear H10 hO1 hg1
                go_wp2_with fail
                refine KA1.out.mono ?_
                rintro e wd1 ⟨rfl, hbb2⟩
                have H12 := H11.below hbb2
                clear KA1 H11 hbb2
                have HNX := hid (FNext_any wd1 g p s _ ep H12.fk)
                have KP1 := hid (Publish_page wd1 base F p D H12.da g s _ ep H12.fk H12.lv.live ((nx : Nat) : Int) (by omega) (by omega))
                go_wp2_with (first | (go_at_call 7; refine HNX.out.mono ?_; rintro e wn ⟨rfl, rfl⟩))
                refine KP1.out.mono ?_
                rintro e we ⟨rfl, hbb3⟩
                have H13 := H12.below hbb3
                clear KP1 HNX H12 hbb3
                have KP2 := hid (Publish_page we base F p D H13.da g s _ ep H13.fk H13.lv.live 1 (by decide) (by omega))
                go_wp2_with fail
                refine KP2.out.mono ?_
                rintro e wf ⟨rfl, hbb4⟩
                have H14 := H13.below hbb4
                clear KP2 H13 hbb4
                have KLV := hid (Live_any wf base F p D H14.da g s _ ep H14.fk)
                go_wp2_with fail
                refine KLV.out.mono ?_
                rintro e wg ⟨rfl, hbb5⟩
                have H15 := H14.below hbb5
                clear KLV H14 hbb5
                have KC3 := hid (show Calls Try.prog 6 #[.pointer (some ⟨p, 0, none⟩)] wg fun e w' => e = .returned (.agg ([.int .i64 D.reads, .int .i64 D.writes, .int .i64 D.syncs, .int .i64 (D.ops.length : Int)] : List Value).toArray) ∧ Below wg.heap.size wg w' from by
                  have h := Counts_any _ base F p D H15.da
                  obtain ⟨e1, e2, e3, e4⟩ := cn
                  rw [e1, e2, e3, e4] at h
                  simpa using h)
                go_wp2_with fail
                refine KC3.out.mono ?_
                rintro e wh ⟨rfl, hbb6⟩
                have H16 := H15.below hbb6
                clear KC3 H15 hbb6
                go_wp2_with (first | (refine wpList_new AC.out LC.out size_counts rfl rfl rfl _ _ rfl rfl [.int .i64 D.reads, .int .i64 D.writes, .int .i64 D.syncs, .int .i64 (D.ops.length : Int)] rfl rfl rfl (one4 _ _ _ _) ?_; refine Hid.out ?_))
                refine hid ?_
                have H17 := H16.alloc [.int .i64 D.reads, .int .i64 D.writes, .int .i64 D.syncs, .int .i64 (D.ops.length : Int)] 37 (Or.inr rfl)
                clear H16
                generalize wh.alloc (.cells ([.int .i64 D.reads, .int .i64 D.writes, .int .i64 D.syncs, .int .i64 (D.ops.length : Int)] : List Value).toArray 37) = wi at *
                generalize wh.heap.size = gq at *
                have n0 := H17.cell (.head _) (j := 0) (v := .int .i64 D.reads) rfl
                have n1 := H17.cell (.head _) (j := 1) (v := .int .i64 D.writes) rfl
                have n2 := H17.cell (.head _) (j := 2) (v := .int .i64 D.syncs) rfl
                have n3 := H17.cell (.head _) (j := 3) (v := .int .i64 (D.ops.length : Int)) rfl
                have m0 := H17.cell (.tail _ (.head _)) (j := 0) (v := .int .i64 D.reads) rfl
                have m1 := H17.cell (.tail _ (.head _)) (j := 1) (v := .int .i64 D.writes) rfl
                have m2 := H17.cell (.tail _ (.head _)) (j := 2) (v := .int .i64 D.syncs) rfl
                have c0 := H17.cell (.tail _ (.tail _ (.tail _ (.head _)))) A0.out
                have HNX := hid (FNext_any wi g p s _ ep H17.fk)
                have Hz := (H17.sub (L' := []) (fun x h => by cases h)).more
                go_wp2_with (first | (go_at_call 7; refine HNX.out.mono ?_; rintro e wn ⟨rfl, rfl⟩))
                go_wp2
                go_roundw
                case rel => exact ⟨i + 1, D, s, nx, ep, _, _, F, by omega, by omega, by go_num, Hz⟩
                case measure => simp [intOf]; omega
        · by_cases q2 : kd = 2
          · subst q2
            by_cases hx : 2 < nx
            · have j2 : (2 : Int) < (nx : Int) := by omega
              as_aux_lemma =>
                have KC1 := hid (Counts_any _ base F p D H1.da)
                go_wp2_with fail
                refine KC1.out.mono ?_
                rintro e w2 ⟨rfl, hb2⟩
                have H2 := H1.below hb2
                clear KC1 c0 H1 hb2
                go_wp2_with (first | (refine wpList_new AC.out LC.out size_counts rfl rfl rfl _ _ rfl rfl [.int .i64 D.reads, .int .i64 D.writes, .int .i64 D.syncs, .int .i64 D.ops.length] rfl rfl rfl (one4 _ _ _ _) ?_; refine Hid.out ?_))
                refine hid ?_
                have H3 := H2.alloc [.int .i64 D.reads, .int .i64 D.writes, .int .i64 D.syncs, .int .i64 D.ops.length] 37 (Or.inr rfl)
                clear H2
                generalize w2.alloc (.cells ([.int .i64 D.reads, .int .i64 D.writes, .int .i64 D.syncs, .int .i64 D.ops.length] : List Value).toArray 37) = w3 at *
                generalize w2.heap.size = gw at *
                have HNX := hid (FNext_any w3 g p s nx ep H3.fk)
                have HPG := hid (Pages_any w3 base F p D H3.da)
                rw [H3.lv.np] at HPG
                have KRD := hid (H3.read (by omega) hx)
                go_wp2_with (first | (go_at_call 7; refine HNX.out.mono ?_; rintro e w5 ⟨rfl, rfl⟩) | (go_at_call 8; refine HPG.out.mono ?_; rintro e w5 ⟨rfl, rfl⟩))
                refine KRD.out.mono ?_
                rintro e w4 ⟨k1, v1, hk1, rfl, H4⟩
                have KC2 := hid (show Calls Try.prog 6 #[.pointer (some ⟨p, 0, none⟩)] w4 fun e w' => e = .returned (.agg ([.int .i64 (D.reads + 1), .int .i64 D.writes, .int .i64 D.syncs, .int .i64 D.ops.length] : List Value).toArray) ∧ Below w4.heap.size w4 w' from Counts_any _ base F p _ H4.da)
                clear HNX HPG KRD H3
                go_wp2_with fail
                refine KC2.out.mono ?_
                rintro e w5 ⟨rfl, hb5⟩
                have H5 := H4.below hb5
                clear KC2 H4 hb5
                go_wp2_with (first | (refine wpList_new AC.out LC.out size_counts rfl rfl rfl _ _ rfl rfl [.int .i64 (D.reads + 1), .int .i64 D.writes, .int .i64 D.syncs, .int .i64 D.ops.length] rfl rfl rfl (one4 _ _ _ _) ?_; refine Hid.out ?_))
                refine hid ?_
                have H6 := H5.alloc [.int .i64 (D.reads + 1), .int .i64 D.writes, .int .i64 D.syncs, .int .i64 D.ops.length] 37 (Or.inr rfl)
                clear H5
                generalize w5.alloc (.cells ([.int .i64 (D.reads + 1), .int .i64 D.writes, .int .i64 D.syncs, .int .i64 D.ops.length] : List Value).toArray 37) = w6 at *
                generalize w5.heap.size = gr at *
                have m0 := H6.cell (.head _) (j := 0) (v := .int .i64 (D.reads + 1)) rfl
                have m1 := H6.cell (.head _) (j := 1) (v := .int .i64 D.writes) rfl
                have m2 := H6.cell (.head _) (j := 2) (v := .int .i64 D.syncs) rfl
                have m3 := H6.cell (.head _) (j := 3) (v := .int .i64 D.ops.length) rfl
                have u0 := H6.cell (.tail _ (.head _)) (j := 0) (v := .int .i64 D.reads) rfl
                have u1 := H6.cell (.tail _ (.head _)) (j := 1) (v := .int .i64 D.writes) rfl
                have u2 := H6.cell (.tail _ (.head _)) (j := 2) (v := .int .i64 D.syncs) rfl
                have bq : (D.reads == D.reads + 1) = false := by simp; omega
                go_wp2_with fail
                go_quiet (fail)
                have H7 := H6.below (below_drewN (Below.refl w6.heap.size w6) nq)
                clear H6 m0 m1 m2 m3 u0 u1 u2 bq
                generalize w6.drewN nq = w7 at *
                have c0 := H7.cell (.tail _ (.tail _ (.head _))) A0.out
                have c1 := H7.cell (.tail _ (.tail _ (.head _))) A1.out
                have HNX := hid (FNext_any w7 g p s nx ep H7.fk)
                have HSU := hid (FSuper_any w7 g p s nx ep H7.fk)
                go_wp2_with (first | (go_at_call 7; refine HNX.out.mono ?_; rintro e wn ⟨rfl, rfl⟩))
                refine HSU.out.mono ?_
                rintro e w8 ⟨rfl, hb8⟩
                have H8 := H7.below hb8
                obtain ⟨b2, _, _, _, _, bf⟩ := H8.ba.cell
                have f2 := bf 2
                have H9 := H8.setM s.ma
                have c0 := H9.cell (.tail _ (.tail _ (.head _))) A0.out
                have c1 := H9.cell (.tail _ (.tail _ (.head _))) A1.out
                have HBF := build_fact 2 N
                have KACT := hid (fact2 _ base F p _ H9.da H9.bwr g s nx ep H9.fk [gb] gb B { Bm with mrk := s.ma } H9.ba H9.ap H9.ng n _ H9.lv (by omega) H9.gn H9.arm N HAI.out [] (fun x hx => by cases hx) none 0 (Src.nil _) (by simp))
                clear HSU HNX H7 H8 hb8 bf
                go_wp2_with (first | refine wpList_field2 rfl _ rfl s s.ma rfl rfl ?_)
                refine KACT.out.mono ?_
                rintro e w9 ⟨rfl, hao⟩
                obtain ⟨D2, s2, nx2, B2, Bm2, F2, H9, cn⟩ := H9.act hao
                clear KACT hao b2 f2 c0 c1 HBF
                have hnx9 := H9.lv.hnx
                have hnp9 := H9.lv.np
                have x1 : (2 : Int) ≤ ((nx2 : Nat) : Int) := by
                  obtain ⟨mm, hm0, hm1, hm2⟩ := sup_ma H9.lv.val H9.lv.pg
                  omega
                have x2 : ((nx2 : Nat) : Int) ≤ 64 := by have := HN.out; omega
                clear hnx9 hnp9
                have KA0 := hid (Append_kind w9 base F2 p D2 H9.da g s2 _ ep H9.fk H9.lv.live 0 (Or.inl (by decide)) none 0 0)
                go_wp2_with fail
                refine KA0.out.mono ?_
                rintro e wb ⟨rfl, hbb1⟩
                have H10 := H9.below hbb1
                clear KA0 H9 hbb1
                go_wp2_with (first | (refine wpList_make_full _ rfl _ _ 33 rfl wb.heap.size 5 i5 (.int .u8 0) 1 Try.underlying33 HI.out hz5 hs5 .i64 .i64 _ _ 247 rfl rfl rfl rfl K1.out K2.out (Nat.le_refl _) ?_; intro wc hO1 hg1; refine Hid.out ?_))
                refine hid ?_
                have H11 := H10.below (grown_keeps hg1 (fun k hk => by cases hk) (Nat.le_refl _))
                have KA1 := hid (Append_load wc base F2 p D2 H11.da g s2 _ ep H11.fk H11.lv.live 1 (by decide) (by decide) (some ⟨wb.heap.size, 0, none⟩) 247 247 (by decide))
                clear H10 hO1 hg1
                go_wp2_with fail
                refine KA1.out.mono ?_
                rintro e wd1 ⟨rfl, hbb2⟩
                have H12 := H11.below hbb2
                clear KA1 H11 hbb2
                have HNX := hid (FNext_any wd1 g p s2 _ ep H12.fk)
                have KP1 := hid (Publish_page wd1 base F2 p D2 H12.da g s2 _ ep H12.fk H12.lv.live ((nx2 : Nat) : Int) (by omega) (by omega))
                go_wp2_with (first | (go_at_call 7; refine HNX.out.mono ?_; rintro e wn ⟨rfl, rfl⟩))
                refine KP1.out.mono ?_
                rintro e we ⟨rfl, hbb3⟩
                have H13 := H12.below hbb3
                clear KP1 HNX H12 hbb3
                have KP2 := hid (Publish_page we base F2 p D2 H13.da g s2 _ ep H13.fk H13.lv.live 1 (by decide) (by omega))
                go_wp2_with fail
                refine KP2.out.mono ?_
                rintro e wf ⟨rfl, hbb4⟩
                have H14 := H13.below hbb4
                clear KP2 H13 hbb4
                have KLV := hid (Live_any wf base F2 p D2 H14.da g s2 _ ep H14.fk)
                go_wp2_with fail
                refine KLV.out.mono ?_
                rintro e wg ⟨rfl, hbb5⟩
                have H15 := H14.below hbb5
                clear KLV H14 hbb5
                have KC3 := hid (show Calls Try.prog 6 #[.pointer (some ⟨p, 0, none⟩)] wg fun e w' => e = .returned (.agg ([.int .i64 (D.reads + 1), .int .i64 (D.writes + 1), .int .i64 (D.syncs + 2), .int .i64 0] : List Value).toArray) ∧ Below wg.heap.size wg w' from by
                  have h := Counts_any _ base F2 p D2 H15.da
                  obtain ⟨e1, e2, e3, e4⟩ := cn
                  rw [e1, e2, e3, e4] at h
                  simpa using h)
                go_wp2_with fail
                refine KC3.out.mono ?_
                rintro e wh ⟨rfl, hbb6⟩
                have H16 := H15.below hbb6
                clear KC3 H15 hbb6
                go_wp2_with (first | (refine wpList_new AC.out LC.out size_counts rfl rfl rfl _ _ rfl rfl [.int .i64 (D.reads + 1), .int .i64 (D.writes + 1), .int .i64 (D.syncs + 2), .int .i64 0] rfl rfl rfl (one4 _ _ _ _) ?_; refine Hid.out ?_))
                refine hid ?_
                have H17 := H16.alloc [.int .i64 (D.reads + 1), .int .i64 (D.writes + 1), .int .i64 (D.syncs + 2), .int .i64 0] 37 (Or.inr rfl)
                clear H16
                generalize wh.alloc (.cells ([.int .i64 (D.reads + 1), .int .i64 (D.writes + 1), .int .i64 (D.syncs + 2), .int .i64 0] : List Value).toArray 37) = wi at *
                generalize wh.heap.size = gq at *
                have n0 := H17.cell (.head _) (j := 0) (v := .int .i64 (D.reads + 1)) rfl
                have n1 := H17.cell (.head _) (j := 1) (v := .int .i64 (D.writes + 1)) rfl
                have n2 := H17.cell (.head _) (j := 2) (v := .int .i64 (D.syncs + 2)) rfl
                have n3 := H17.cell (.head _) (j := 3) (v := .int .i64 0) rfl
                have m0 := H17.cell (.tail _ (.head _)) (j := 0) (v := .int .i64 (D.reads + 1)) rfl
                have m1 := H17.cell (.tail _ (.head _)) (j := 1) (v := .int .i64 D.writes) rfl
                have m2 := H17.cell (.tail _ (.head _)) (j := 2) (v := .int .i64 D.syncs) rfl
                have c0 := H17.cell (.tail _ (.tail _ (.tail _ (.head _)))) A0.out
                have HNX := hid (FNext_any wi g p s2 _ ep H17.fk)
                have Hz := (H17.sub (L' := []) (fun x h => by cases h)).more
                go_wp2_with (first | (go_at_call 7; refine HNX.out.mono ?_; rintro e wn ⟨rfl, rfl⟩))
                go_wp2
                go_roundw
                case rel => exact ⟨i + 1, D2, s2, nx2, ep, _, _, F2, by omega, by omega, by go_num, Hz⟩
                case measure => simp [intOf]; omega
            · have j2 : (nx : Int) ≤ 2 := by omega
              as_aux_lemma =>
                have KC1 := hid (Counts_any _ base F p D H1.da)
                go_wp2_with fail
                refine KC1.out.mono ?_
                rintro e w2 ⟨rfl, hb2⟩
                have H2 := H1.below hb2
                clear KC1 c0 H1 hb2
                go_wp2_with (first | (refine wpList_new AC.out LC.out size_counts rfl rfl rfl _ _ rfl rfl [.int .i64 D.reads, .int .i64 D.writes, .int .i64 D.syncs, .int .i64 D.ops.length] rfl rfl rfl (one4 _ _ _ _) ?_; refine Hid.out ?_))
                refine hid ?_
                have H3 := H2.alloc [.int .i64 D.reads, .int .i64 D.writes, .int .i64 D.syncs, .int .i64 D.ops.length] 37 (Or.inr rfl)
                clear H2
                generalize w2.alloc (.cells ([.int .i64 D.reads, .int .i64 D.writes, .int .i64 D.syncs, .int .i64 D.ops.length] : List Value).toArray 37) = w3 at *
                generalize w2.heap.size = gw at *
                have HNX := hid (FNext_any w3 g p s nx ep H3.fk)
                have HPG := hid (Pages_any w3 base F p D H3.da)
                rw [H3.lv.np] at HPG
                have KRD := hid (FRead_page w3 base F p D H3.da g s nx ep H3.fk H3.lv.live ((nx : Int) - 1) (by omega))
                go_wp2_with (first | (go_at_call 7; refine HNX.out.mono ?_; rintro e w5 ⟨rfl, rfl⟩) | (go_at_call 8; refine HPG.out.mono ?_; rintro e w5 ⟨rfl, rfl⟩))
                refine KRD.out.mono ?_
                rintro e w4 ⟨rfl, hb4⟩
                have H4 := (H3.below hb4).more
                clear hb4
                have KC2 := hid (show Calls Try.prog 6 #[.pointer (some ⟨p, 0, none⟩)] w4 fun e w' => e = .returned (.agg ([.int .i64 D.reads, .int .i64 D.writes, .int .i64 D.syncs, .int .i64 D.ops.length] : List Value).toArray) ∧ Below w4.heap.size w4 w' from Counts_any _ base F p _ H4.da)
                clear HNX HPG KRD H3
                go_wp2_with fail
                refine KC2.out.mono ?_
                rintro e w5 ⟨rfl, hb5⟩
                have H5 := H4.below hb5
                clear KC2 H4 hb5
                go_wp2_with (first | (refine wpList_new AC.out LC.out size_counts rfl rfl rfl _ _ rfl rfl [.int .i64 D.reads, .int .i64 D.writes, .int .i64 D.syncs, .int .i64 D.ops.length] rfl rfl rfl (one4 _ _ _ _) ?_; refine Hid.out ?_))
                refine hid ?_
                have H6 := H5.alloc [.int .i64 D.reads, .int .i64 D.writes, .int .i64 D.syncs, .int .i64 D.ops.length] 37 (Or.inr rfl)
                clear H5
                generalize w5.alloc (.cells ([.int .i64 D.reads, .int .i64 D.writes, .int .i64 D.syncs, .int .i64 D.ops.length] : List Value).toArray 37) = w6 at *
                generalize w5.heap.size = gr at *
                have m0 := H6.cell (.head _) (j := 0) (v := .int .i64 D.reads) rfl
                have m1 := H6.cell (.head _) (j := 1) (v := .int .i64 D.writes) rfl
                have m2 := H6.cell (.head _) (j := 2) (v := .int .i64 D.syncs) rfl
                have m3 := H6.cell (.head _) (j := 3) (v := .int .i64 D.ops.length) rfl
                have u0 := H6.cell (.tail _ (.head _)) (j := 0) (v := .int .i64 D.reads) rfl
                have u1 := H6.cell (.tail _ (.head _)) (j := 1) (v := .int .i64 D.writes) rfl
                have u2 := H6.cell (.tail _ (.head _)) (j := 2) (v := .int .i64 D.syncs) rfl
                have bq : (D.reads == D.reads + 1) = false := by simp; omega
                go_wp2_with fail
                go_quiet (fail)
                have H7 := H6.below (below_drewN (Below.refl w6.heap.size w6) nq)
                clear H6 m0 m1 m2 m3 u0 u1 u2 bq
                generalize w6.drewN nq = w7 at *
                have c0 := H7.cell (.tail _ (.tail _ (.head _))) A0.out
                have c1 := H7.cell (.tail _ (.tail _ (.head _))) A1.out
                have HNX := hid (FNext_any w7 g p s nx ep H7.fk)
                have HSU := hid (FSuper_any w7 g p s nx ep H7.fk)
                go_wp2_with (first | (go_at_call 7; refine HNX.out.mono ?_; rintro e wn ⟨rfl, rfl⟩))
                refine HSU.out.mono ?_
                rintro e w8 ⟨rfl, hb8⟩
                have H8 := H7.below hb8
                obtain ⟨b2, _, _, _, _, bf⟩ := H8.ba.cell
                have f2 := bf 2
                have H9 := H8.setM s.ma
                have c0 := H9.cell (.tail _ (.tail _ (.head _))) A0.out
                have c1 := H9.cell (.tail _ (.tail _ (.head _))) A1.out
                have HBF := build_fact 2 N
                have KACT := hid (fact2 _ base F p _ H9.da H9.bwr g s nx ep H9.fk [gb] gb B { Bm with mrk := s.ma } H9.ba H9.ap H9.ng n _ H9.lv (by omega) H9.gn H9.arm N HAI.out [] (fun x hx => by cases hx) none 0 (Src.nil _) (by simp))
                clear HSU HNX H7 H8 hb8 bf
                go_wp2_with (first | refine wpList_field2 rfl _ rfl s s.ma rfl rfl ?_)
                refine KACT.out.mono ?_
                rintro e w9 ⟨rfl, hao⟩
                obtain ⟨D2, s2, nx2, B2, Bm2, F2, H9, cn⟩ := H9.act hao
                clear KACT hao b2 f2 c0 c1 HBF
                have hnx9 := H9.lv.hnx
                have hnp9 := H9.lv.np
                have x1 : (2 : Int) ≤ ((nx2 : Nat) : Int) := by
                  obtain ⟨mm, hm0, hm1, hm2⟩ := sup_ma H9.lv.val H9.lv.pg
                  omega
                have x2 : ((nx2 : Nat) : Int) ≤ 64 := by have := HN.out; omega
                clear hnx9 hnp9
                have KA0 := hid (Append_kind w9 base F2 p D2 H9.da g s2 _ ep H9.fk H9.lv.live 0 (Or.inl (by decide)) none 0 0)
                go_wp2_with fail
                refine KA0.out.mono ?_
                rintro e wb ⟨rfl, hbb1⟩
                have H10 := H9.below hbb1
                clear KA0 H9 hbb1
                go_wp2_with (first | (refine wpList_make_full _ rfl _ _ 33 rfl wb.heap.size 5 i5 (.int .u8 0) 1 Try.underlying33 HI.out hz5 hs5 .i64 .i64 _ _ 247 rfl rfl rfl rfl K1.out K2.out (Nat.le_refl _) ?_; intro wc hO1 hg1; refine Hid.out ?_))
                refine hid ?_
                have H11 := H10.below (grown_keeps hg1 (fun k hk => by cases hk) (Nat.le_refl _))
                have KA1 := hid (Append_load wc base F2 p D2 H11.da g s2 _ ep H11.fk H11.lv.live 1 (by decide) (by decide) (some ⟨wb.heap.size, 0, none⟩) 247 247 (by decide))
                clear H10 hO1 hg1
                go_wp2_with fail
                refine KA1.out.mono ?_
                rintro e wd1 ⟨rfl, hbb2⟩
                have H12 := H11.below hbb2
                clear KA1 H11 hbb2
                have HNX := hid (FNext_any wd1 g p s2 _ ep H12.fk)
                have KP1 := hid (Publish_page wd1 base F2 p D2 H12.da g s2 _ ep H12.fk H12.lv.live ((nx2 : Nat) : Int) (by omega) (by omega))
                go_wp2_with (first | (go_at_call 7; refine HNX.out.mono ?_; rintro e wn ⟨rfl, rfl⟩))
                refine KP1.out.mono ?_
                rintro e we ⟨rfl, hbb3⟩
                have H13 := H12.below hbb3
                clear KP1 HNX H12 hbb3
                have KP2 := hid (Publish_page we base F2 p D2 H13.da g s2 _ ep H13.fk H13.lv.live 1 (by decide) (by omega))
                go_wp2_with fail
                refine KP2.out.mono ?_
                rintro e wf ⟨rfl, hbb4⟩
                have H14 := H13.below hbb4
                clear KP2 H13 hbb4
                have KLV := hid (Live_any wf base F2 p D2 H14.da g s2 _ ep H14.fk)
                go_wp2_with fail
                refine KLV.out.mono ?_
                rintro e wg ⟨rfl, hbb5⟩
                have H15 := H14.below hbb5
                clear KLV H14 hbb5
                have KC3 := hid (show Calls Try.prog 6 #[.pointer (some ⟨p, 0, none⟩)] wg fun e w' => e = .returned (.agg ([.int .i64 D.reads, .int .i64 (D.writes + 1), .int .i64 (D.syncs + 2), .int .i64 0] : List Value).toArray) ∧ Below wg.heap.size wg w' from by
                  have h := Counts_any _ base F2 p D2 H15.da
                  obtain ⟨e1, e2, e3, e4⟩ := cn
                  rw [e1, e2, e3, e4] at h
                  simpa using h)
                go_wp2_with fail
                refine KC3.out.mono ?_
                rintro e wh ⟨rfl, hbb6⟩
                have H16 := H15.below hbb6
                clear KC3 H15 hbb6
                go_wp2_with (first | (refine wpList_new AC.out LC.out size_counts rfl rfl rfl _ _ rfl rfl [.int .i64 D.reads, .int .i64 (D.writes + 1), .int .i64 (D.syncs + 2), .int .i64 0] rfl rfl rfl (one4 _ _ _ _) ?_; refine Hid.out ?_))
                refine hid ?_
                have H17 := H16.alloc [.int .i64 D.reads, .int .i64 (D.writes + 1), .int .i64 (D.syncs + 2), .int .i64 0] 37 (Or.inr rfl)
                clear H16
                generalize wh.alloc (.cells ([.int .i64 D.reads, .int .i64 (D.writes + 1), .int .i64 (D.syncs + 2), .int .i64 0] : List Value).toArray 37) = wi at *
                generalize wh.heap.size = gq at *
                have n0 := H17.cell (.head _) (j := 0) (v := .int .i64 D.reads) rfl
                have n1 := H17.cell (.head _) (j := 1) (v := .int .i64 (D.writes + 1)) rfl
                have n2 := H17.cell (.head _) (j := 2) (v := .int .i64 (D.syncs + 2)) rfl
                have n3 := H17.cell (.head _) (j := 3) (v := .int .i64 0) rfl
                have m0 := H17.cell (.tail _ (.head _)) (j := 0) (v := .int .i64 D.reads) rfl
                have m1 := H17.cell (.tail _ (.head _)) (j := 1) (v := .int .i64 D.writes) rfl
                have m2 := H17.cell (.tail _ (.head _)) (j := 2) (v := .int .i64 D.syncs) rfl
                have c0 := H17.cell (.tail _ (.tail _ (.tail _ (.head _)))) A0.out
                have HNX := hid (FNext_any wi g p s2 _ ep H17.fk)
                have Hz := (H17.sub (L' := []) (fun x h => by cases h)).more
                go_wp2_with (first | (go_at_call 7; refine HNX.out.mono ?_; rintro e wn ⟨rfl, rfl⟩))
                go_wp2
                go_roundw
                case rel => exact ⟨i + 1, D2, s2, nx2, ep, _, _, F2, by omega, by omega, by go_num, Hz⟩
                case measure => simp [intOf]; omega
          · by_cases q3 : kd = 3
            · subst q3
              by_cases hx : 2 < nx
              · have j2 : (2 : Int) < (nx : Int) := by omega
                as_aux_lemma =>
                  have KC1 := hid (Counts_any _ base F p D H1.da)
                  go_wp2_with fail
                  refine KC1.out.mono ?_
                  rintro e w2 ⟨rfl, hb2⟩
                  have H2 := H1.below hb2
                  clear KC1 c0 H1 hb2
                  go_wp2_with (first | (refine wpList_new AC.out LC.out size_counts rfl rfl rfl _ _ rfl rfl [.int .i64 D.reads, .int .i64 D.writes, .int .i64 D.syncs, .int .i64 D.ops.length] rfl rfl rfl (one4 _ _ _ _) ?_; refine Hid.out ?_))
                  refine hid ?_
                  have H3 := H2.alloc [.int .i64 D.reads, .int .i64 D.writes, .int .i64 D.syncs, .int .i64 D.ops.length] 37 (Or.inr rfl)
                  clear H2
                  generalize w2.alloc (.cells ([.int .i64 D.reads, .int .i64 D.writes, .int .i64 D.syncs, .int .i64 D.ops.length] : List Value).toArray 37) = w3 at *
                  generalize w2.heap.size = gw at *
                  have HNX := hid (FNext_any w3 g p s nx ep H3.fk)
                  have HPG := hid (Pages_any w3 base F p D H3.da)
                  rw [H3.lv.np] at HPG
                  have KRD := hid (H3.read (by omega) hx)
                  go_wp2_with (first | (go_at_call 7; refine HNX.out.mono ?_; rintro e w5 ⟨rfl, rfl⟩) | (go_at_call 8; refine HPG.out.mono ?_; rintro e w5 ⟨rfl, rfl⟩))
                  refine KRD.out.mono ?_
                  rintro e w4 ⟨k1, v1, hk1, rfl, H4⟩
                  have KC2 := hid (show Calls Try.prog 6 #[.pointer (some ⟨p, 0, none⟩)] w4 fun e w' => e = .returned (.agg ([.int .i64 (D.reads + 1), .int .i64 D.writes, .int .i64 D.syncs, .int .i64 D.ops.length] : List Value).toArray) ∧ Below w4.heap.size w4 w' from Counts_any _ base F p _ H4.da)
                  clear HNX HPG KRD H3
                  go_wp2_with fail
                  refine KC2.out.mono ?_
                  rintro e w5 ⟨rfl, hb5⟩
                  have H5 := H4.below hb5
                  clear KC2 H4 hb5
                  go_wp2_with (first | (refine wpList_new AC.out LC.out size_counts rfl rfl rfl _ _ rfl rfl [.int .i64 (D.reads + 1), .int .i64 D.writes, .int .i64 D.syncs, .int .i64 D.ops.length] rfl rfl rfl (one4 _ _ _ _) ?_; refine Hid.out ?_))
                  refine hid ?_
                  have H6 := H5.alloc [.int .i64 (D.reads + 1), .int .i64 D.writes, .int .i64 D.syncs, .int .i64 D.ops.length] 37 (Or.inr rfl)
                  clear H5
                  generalize w5.alloc (.cells ([.int .i64 (D.reads + 1), .int .i64 D.writes, .int .i64 D.syncs, .int .i64 D.ops.length] : List Value).toArray 37) = w6 at *
                  generalize w5.heap.size = gr at *
                  have m0 := H6.cell (.head _) (j := 0) (v := .int .i64 (D.reads + 1)) rfl
                  have m1 := H6.cell (.head _) (j := 1) (v := .int .i64 D.writes) rfl
                  have m2 := H6.cell (.head _) (j := 2) (v := .int .i64 D.syncs) rfl
                  have m3 := H6.cell (.head _) (j := 3) (v := .int .i64 D.ops.length) rfl
                  have u0 := H6.cell (.tail _ (.head _)) (j := 0) (v := .int .i64 D.reads) rfl
                  have u1 := H6.cell (.tail _ (.head _)) (j := 1) (v := .int .i64 D.writes) rfl
                  have u2 := H6.cell (.tail _ (.head _)) (j := 2) (v := .int .i64 D.syncs) rfl
                  have bq : (D.reads == D.reads + 1) = false := by simp; omega
                  go_wp2_with fail
                  go_quiet (fail)
                  have H7 := H6.below (below_drewN (Below.refl w6.heap.size w6) nq)
                  clear H6 m0 m1 m2 m3 u0 u1 u2 bq
                  generalize w6.drewN nq = w7 at *
                  have c0 := H7.cell (.tail _ (.tail _ (.head _))) A0.out
                  have c1 := H7.cell (.tail _ (.tail _ (.head _))) A1.out
                  have HNX := hid (FNext_any w7 g p s nx ep H7.fk)
                  have HSU := hid (FSuper_any w7 g p s nx ep H7.fk)
                  go_wp2_with (first | (go_at_call 7; refine HNX.out.mono ?_; rintro e wn ⟨rfl, rfl⟩))
                  refine HSU.out.mono ?_
                  rintro e w8 ⟨rfl, hb8⟩
                  have H8 := H7.below hb8
                  obtain ⟨b2, _, _, _, _, bf⟩ := H8.ba.cell
                  have f2 := bf 2
                  have H9 := H8.setM s.ma
                  have c0 := H9.cell (.tail _ (.tail _ (.head _))) A0.out
                  have c1 := H9.cell (.tail _ (.tail _ (.head _))) A1.out
                  have HBF := build_fact 3 N
                  have KACT := hid (fact3 _ base F p _ H9.da H9.bwr g s nx ep H9.fk [gb] gb B { Bm with mrk := s.ma } H9.ba H9.ap H9.ng n _ H9.lv (by omega) H9.gn H9.arm N HAI.out [] (fun x hx => by cases hx) none 0 (Src.nil _) (by simp) rfl)
                  clear HSU HNX H7 H8 hb8 bf
                  go_wp2_with (first | refine wpList_field2 rfl _ rfl s s.ma rfl rfl ?_)
                  refine KACT.out.mono ?_
                  rintro e w9 ⟨rfl, hao⟩
                  obtain ⟨D2, s2, nx2, B2, Bm2, F2, H9, cn⟩ := H9.act hao
                  clear KACT hao b2 f2 c0 c1 HBF
                  have hnx9 := H9.lv.hnx
                  have hnp9 := H9.lv.np
                  have x1 : (2 : Int) ≤ ((nx2 : Nat) : Int) := by
                    obtain ⟨mm, hm0, hm1, hm2⟩ := sup_ma H9.lv.val H9.lv.pg
                    omega
                  have x2 : ((nx2 : Nat) : Int) ≤ 64 := by have := HN.out; omega
                  clear hnx9 hnp9
                  have KA0 := hid (Append_kind w9 base F2 p D2 H9.da g s2 _ ep H9.fk H9.lv.live 0 (Or.inl (by decide)) none 0 0)
                  go_wp2_with fail
                  refine KA0.out.mono ?_
                  rintro e wb ⟨rfl, hbb1⟩
                  have H10 := H9.below hbb1
                  clear KA0 H9 hbb1
                  go_wp2_with (first | (refine wpList_make_full _ rfl _ _ 33 rfl wb.heap.size 5 i5 (.int .u8 0) 1 Try.underlying33 HI.out hz5 hs5 .i64 .i64 _ _ 247 rfl rfl rfl rfl K1.out K2.out (Nat.le_refl _) ?_; intro wc hO1 hg1; refine Hid.out ?_))
                  refine hid ?_
                  have H11 := H10.below (grown_keeps hg1 (fun k hk => by cases hk) (Nat.le_refl _))
                  have KA1 := hid (Append_load wc base F2 p D2 H11.da g s2 _ ep H11.fk H11.lv.live 1 (by decide) (by decide) (some ⟨wb.heap.size, 0, none⟩) 247 247 (by decide))
                  clear H10 hO1 hg1
                  go_wp2_with fail
                  refine KA1.out.mono ?_
                  rintro e wd1 ⟨rfl, hbb2⟩
                  have H12 := H11.below hbb2
                  clear KA1 H11 hbb2
                  have HNX := hid (FNext_any wd1 g p s2 _ ep H12.fk)
                  have KP1 := hid (Publish_page wd1 base F2 p D2 H12.da g s2 _ ep H12.fk H12.lv.live ((nx2 : Nat) : Int) (by omega) (by omega))
                  go_wp2_with (first | (go_at_call 7; refine HNX.out.mono ?_; rintro e wn ⟨rfl, rfl⟩))
                  refine KP1.out.mono ?_
                  rintro e we ⟨rfl, hbb3⟩
                  have H13 := H12.below hbb3
                  clear KP1 HNX H12 hbb3
                  have KP2 := hid (Publish_page we base F2 p D2 H13.da g s2 _ ep H13.fk H13.lv.live 1 (by decide) (by omega))
                  go_wp2_with fail
                  refine KP2.out.mono ?_
                  rintro e wf ⟨rfl, hbb4⟩
                  have H14 := H13.below hbb4
                  clear KP2 H13 hbb4
                  have KLV := hid (Live_any wf base F2 p D2 H14.da g s2 _ ep H14.fk)
                  go_wp2_with fail
                  refine KLV.out.mono ?_
                  rintro e wg ⟨rfl, hbb5⟩
                  have H15 := H14.below hbb5
                  clear KLV H14 hbb5
                  have KC3 := hid (show Calls Try.prog 6 #[.pointer (some ⟨p, 0, none⟩)] wg fun e w' => e = .returned (.agg ([.int .i64 (D.reads + 1), .int .i64 D.writes, .int .i64 D.syncs, .int .i64 (D.ops.length : Int)] : List Value).toArray) ∧ Below wg.heap.size wg w' from by
                    have h := Counts_any _ base F2 p D2 H15.da
                    obtain ⟨e1, e2, e3, e4⟩ := cn
                    rw [e1, e2, e3, e4] at h
                    simpa using h)
                  go_wp2_with fail
                  refine KC3.out.mono ?_
                  rintro e wh ⟨rfl, hbb6⟩
                  have H16 := H15.below hbb6
                  clear KC3 H15 hbb6
                  go_wp2_with (first | (refine wpList_new AC.out LC.out size_counts rfl rfl rfl _ _ rfl rfl [.int .i64 (D.reads + 1), .int .i64 D.writes, .int .i64 D.syncs, .int .i64 (D.ops.length : Int)] rfl rfl rfl (one4 _ _ _ _) ?_; refine Hid.out ?_))
                  refine hid ?_
                  have H17 := H16.alloc [.int .i64 (D.reads + 1), .int .i64 D.writes, .int .i64 D.syncs, .int .i64 (D.ops.length : Int)] 37 (Or.inr rfl)
                  clear H16
                  generalize wh.alloc (.cells ([.int .i64 (D.reads + 1), .int .i64 D.writes, .int .i64 D.syncs, .int .i64 (D.ops.length : Int)] : List Value).toArray 37) = wi at *
                  generalize wh.heap.size = gq at *
                  have n0 := H17.cell (.head _) (j := 0) (v := .int .i64 (D.reads + 1)) rfl
                  have n1 := H17.cell (.head _) (j := 1) (v := .int .i64 D.writes) rfl
                  have n2 := H17.cell (.head _) (j := 2) (v := .int .i64 D.syncs) rfl
                  have n3 := H17.cell (.head _) (j := 3) (v := .int .i64 (D.ops.length : Int)) rfl
                  have m0 := H17.cell (.tail _ (.head _)) (j := 0) (v := .int .i64 (D.reads + 1)) rfl
                  have m1 := H17.cell (.tail _ (.head _)) (j := 1) (v := .int .i64 D.writes) rfl
                  have m2 := H17.cell (.tail _ (.head _)) (j := 2) (v := .int .i64 D.syncs) rfl
                  have c0 := H17.cell (.tail _ (.tail _ (.tail _ (.head _)))) A0.out
                  have HNX := hid (FNext_any wi g p s2 _ ep H17.fk)
                  have Hz := (H17.sub (L' := []) (fun x h => by cases h)).more
                  go_wp2_with (first | (go_at_call 7; refine HNX.out.mono ?_; rintro e wn ⟨rfl, rfl⟩))
                  go_wp2
                  go_roundw
                  case rel => exact ⟨i + 1, D2, s2, nx2, ep, _, _, F2, by omega, by omega, by go_num, Hz⟩
                  case measure => simp [intOf]; omega
              · have j2 : (nx : Int) ≤ 2 := by omega
                as_aux_lemma =>
                  have KC1 := hid (Counts_any _ base F p D H1.da)
                  go_wp2_with fail
                  refine KC1.out.mono ?_
                  rintro e w2 ⟨rfl, hb2⟩
                  have H2 := H1.below hb2
                  clear KC1 c0 H1 hb2
                  go_wp2_with (first | (refine wpList_new AC.out LC.out size_counts rfl rfl rfl _ _ rfl rfl [.int .i64 D.reads, .int .i64 D.writes, .int .i64 D.syncs, .int .i64 D.ops.length] rfl rfl rfl (one4 _ _ _ _) ?_; refine Hid.out ?_))
                  refine hid ?_
                  have H3 := H2.alloc [.int .i64 D.reads, .int .i64 D.writes, .int .i64 D.syncs, .int .i64 D.ops.length] 37 (Or.inr rfl)
                  clear H2
                  generalize w2.alloc (.cells ([.int .i64 D.reads, .int .i64 D.writes, .int .i64 D.syncs, .int .i64 D.ops.length] : List Value).toArray 37) = w3 at *
                  generalize w2.heap.size = gw at *
                  have HNX := hid (FNext_any w3 g p s nx ep H3.fk)
                  have HPG := hid (Pages_any w3 base F p D H3.da)
                  rw [H3.lv.np] at HPG
                  have KRD := hid (FRead_page w3 base F p D H3.da g s nx ep H3.fk H3.lv.live ((nx : Int) - 1) (by omega))
                  go_wp2_with (first | (go_at_call 7; refine HNX.out.mono ?_; rintro e w5 ⟨rfl, rfl⟩) | (go_at_call 8; refine HPG.out.mono ?_; rintro e w5 ⟨rfl, rfl⟩))
                  refine KRD.out.mono ?_
                  rintro e w4 ⟨rfl, hb4⟩
                  have H4 := (H3.below hb4).more
                  clear hb4
                  have KC2 := hid (show Calls Try.prog 6 #[.pointer (some ⟨p, 0, none⟩)] w4 fun e w' => e = .returned (.agg ([.int .i64 D.reads, .int .i64 D.writes, .int .i64 D.syncs, .int .i64 D.ops.length] : List Value).toArray) ∧ Below w4.heap.size w4 w' from Counts_any _ base F p _ H4.da)
                  clear HNX HPG KRD H3
                  go_wp2_with fail
                  refine KC2.out.mono ?_
                  rintro e w5 ⟨rfl, hb5⟩
                  have H5 := H4.below hb5
                  clear KC2 H4 hb5
                  go_wp2_with (first | (refine wpList_new AC.out LC.out size_counts rfl rfl rfl _ _ rfl rfl [.int .i64 D.reads, .int .i64 D.writes, .int .i64 D.syncs, .int .i64 D.ops.length] rfl rfl rfl (one4 _ _ _ _) ?_; refine Hid.out ?_))
                  refine hid ?_
                  have H6 := H5.alloc [.int .i64 D.reads, .int .i64 D.writes, .int .i64 D.syncs, .int .i64 D.ops.length] 37 (Or.inr rfl)
                  clear H5
                  generalize w5.alloc (.cells ([.int .i64 D.reads, .int .i64 D.writes, .int .i64 D.syncs, .int .i64 D.ops.length] : List Value).toArray 37) = w6 at *
                  generalize w5.heap.size = gr at *
                  have m0 := H6.cell (.head _) (j := 0) (v := .int .i64 D.reads) rfl
                  have m1 := H6.cell (.head _) (j := 1) (v := .int .i64 D.writes) rfl
                  have m2 := H6.cell (.head _) (j := 2) (v := .int .i64 D.syncs) rfl
                  have m3 := H6.cell (.head _) (j := 3) (v := .int .i64 D.ops.length) rfl
                  have u0 := H6.cell (.tail _ (.head _)) (j := 0) (v := .int .i64 D.reads) rfl
                  have u1 := H6.cell (.tail _ (.head _)) (j := 1) (v := .int .i64 D.writes) rfl
                  have u2 := H6.cell (.tail _ (.head _)) (j := 2) (v := .int .i64 D.syncs) rfl
                  have bq : (D.reads == D.reads + 1) = false := by simp; omega
                  go_wp2_with fail
                  go_quiet (fail)
                  have H7 := H6.below (below_drewN (Below.refl w6.heap.size w6) nq)
                  clear H6 m0 m1 m2 m3 u0 u1 u2 bq
                  generalize w6.drewN nq = w7 at *
                  have c0 := H7.cell (.tail _ (.tail _ (.head _))) A0.out
                  have c1 := H7.cell (.tail _ (.tail _ (.head _))) A1.out
                  have HNX := hid (FNext_any w7 g p s nx ep H7.fk)
                  have HSU := hid (FSuper_any w7 g p s nx ep H7.fk)
                  go_wp2_with (first | (go_at_call 7; refine HNX.out.mono ?_; rintro e wn ⟨rfl, rfl⟩))
                  refine HSU.out.mono ?_
                  rintro e w8 ⟨rfl, hb8⟩
                  have H8 := H7.below hb8
                  obtain ⟨b2, _, _, _, _, bf⟩ := H8.ba.cell
                  have f2 := bf 2
                  have H9 := H8.setM s.ma
                  have c0 := H9.cell (.tail _ (.tail _ (.head _))) A0.out
                  have c1 := H9.cell (.tail _ (.tail _ (.head _))) A1.out
                  have HBF := build_fact 3 N
                  have KACT := hid (fact3 _ base F p _ H9.da H9.bwr g s nx ep H9.fk [gb] gb B { Bm with mrk := s.ma } H9.ba H9.ap H9.ng n _ H9.lv (by omega) H9.gn H9.arm N HAI.out [] (fun x hx => by cases hx) none 0 (Src.nil _) (by simp) rfl)
                  clear HSU HNX H7 H8 hb8 bf
                  go_wp2_with (first | refine wpList_field2 rfl _ rfl s s.ma rfl rfl ?_)
                  refine KACT.out.mono ?_
                  rintro e w9 ⟨rfl, hao⟩
                  obtain ⟨D2, s2, nx2, B2, Bm2, F2, H9, cn⟩ := H9.act hao
                  clear KACT hao b2 f2 c0 c1 HBF
                  have hnx9 := H9.lv.hnx
                  have hnp9 := H9.lv.np
                  have x1 : (2 : Int) ≤ ((nx2 : Nat) : Int) := by
                    obtain ⟨mm, hm0, hm1, hm2⟩ := sup_ma H9.lv.val H9.lv.pg
                    omega
                  have x2 : ((nx2 : Nat) : Int) ≤ 64 := by have := HN.out; omega
                  clear hnx9 hnp9
                  have KA0 := hid (Append_kind w9 base F2 p D2 H9.da g s2 _ ep H9.fk H9.lv.live 0 (Or.inl (by decide)) none 0 0)
                  go_wp2_with fail
                  refine KA0.out.mono ?_
                  rintro e wb ⟨rfl, hbb1⟩
                  have H10 := H9.below hbb1
                  clear KA0 H9 hbb1
                  go_wp2_with (first | (refine wpList_make_full _ rfl _ _ 33 rfl wb.heap.size 5 i5 (.int .u8 0) 1 Try.underlying33 HI.out hz5 hs5 .i64 .i64 _ _ 247 rfl rfl rfl rfl K1.out K2.out (Nat.le_refl _) ?_; intro wc hO1 hg1; refine Hid.out ?_))
                  refine hid ?_
                  have H11 := H10.below (grown_keeps hg1 (fun k hk => by cases hk) (Nat.le_refl _))
                  have KA1 := hid (Append_load wc base F2 p D2 H11.da g s2 _ ep H11.fk H11.lv.live 1 (by decide) (by decide) (some ⟨wb.heap.size, 0, none⟩) 247 247 (by decide))
                  clear H10 hO1 hg1
                  go_wp2_with fail
                  refine KA1.out.mono ?_
                  rintro e wd1 ⟨rfl, hbb2⟩
                  have H12 := H11.below hbb2
                  clear KA1 H11 hbb2
                  have HNX := hid (FNext_any wd1 g p s2 _ ep H12.fk)
                  have KP1 := hid (Publish_page wd1 base F2 p D2 H12.da g s2 _ ep H12.fk H12.lv.live ((nx2 : Nat) : Int) (by omega) (by omega))
                  go_wp2_with (first | (go_at_call 7; refine HNX.out.mono ?_; rintro e wn ⟨rfl, rfl⟩))
                  refine KP1.out.mono ?_
                  rintro e we ⟨rfl, hbb3⟩
                  have H13 := H12.below hbb3
                  clear KP1 HNX H12 hbb3
                  have KP2 := hid (Publish_page we base F2 p D2 H13.da g s2 _ ep H13.fk H13.lv.live 1 (by decide) (by omega))
                  go_wp2_with fail
                  refine KP2.out.mono ?_
                  rintro e wf ⟨rfl, hbb4⟩
                  have H14 := H13.below hbb4
                  clear KP2 H13 hbb4
                  have KLV := hid (Live_any wf base F2 p D2 H14.da g s2 _ ep H14.fk)
                  go_wp2_with fail
                  refine KLV.out.mono ?_
                  rintro e wg ⟨rfl, hbb5⟩
                  have H15 := H14.below hbb5
                  clear KLV H14 hbb5
                  have KC3 := hid (show Calls Try.prog 6 #[.pointer (some ⟨p, 0, none⟩)] wg fun e w' => e = .returned (.agg ([.int .i64 D.reads, .int .i64 D.writes, .int .i64 D.syncs, .int .i64 (D.ops.length : Int)] : List Value).toArray) ∧ Below wg.heap.size wg w' from by
                    have h := Counts_any _ base F2 p D2 H15.da
                    obtain ⟨e1, e2, e3, e4⟩ := cn
                    rw [e1, e2, e3, e4] at h
                    simpa using h)
                  go_wp2_with fail
                  refine KC3.out.mono ?_
                  rintro e wh ⟨rfl, hbb6⟩
                  have H16 := H15.below hbb6
                  clear KC3 H15 hbb6
                  go_wp2_with (first | (refine wpList_new AC.out LC.out size_counts rfl rfl rfl _ _ rfl rfl [.int .i64 D.reads, .int .i64 D.writes, .int .i64 D.syncs, .int .i64 (D.ops.length : Int)] rfl rfl rfl (one4 _ _ _ _) ?_; refine Hid.out ?_))
                  refine hid ?_
                  have H17 := H16.alloc [.int .i64 D.reads, .int .i64 D.writes, .int .i64 D.syncs, .int .i64 (D.ops.length : Int)] 37 (Or.inr rfl)
                  clear H16
                  generalize wh.alloc (.cells ([.int .i64 D.reads, .int .i64 D.writes, .int .i64 D.syncs, .int .i64 (D.ops.length : Int)] : List Value).toArray 37) = wi at *
                  generalize wh.heap.size = gq at *
                  have n0 := H17.cell (.head _) (j := 0) (v := .int .i64 D.reads) rfl
                  have n1 := H17.cell (.head _) (j := 1) (v := .int .i64 D.writes) rfl
                  have n2 := H17.cell (.head _) (j := 2) (v := .int .i64 D.syncs) rfl
                  have n3 := H17.cell (.head _) (j := 3) (v := .int .i64 (D.ops.length : Int)) rfl
                  have m0 := H17.cell (.tail _ (.head _)) (j := 0) (v := .int .i64 D.reads) rfl
                  have m1 := H17.cell (.tail _ (.head _)) (j := 1) (v := .int .i64 D.writes) rfl
                  have m2 := H17.cell (.tail _ (.head _)) (j := 2) (v := .int .i64 D.syncs) rfl
                  have c0 := H17.cell (.tail _ (.tail _ (.tail _ (.head _)))) A0.out
                  have HNX := hid (FNext_any wi g p s2 _ ep H17.fk)
                  have Hz := (H17.sub (L' := []) (fun x h => by cases h)).more
                  go_wp2_with (first | (go_at_call 7; refine HNX.out.mono ?_; rintro e wn ⟨rfl, rfl⟩))
                  go_wp2
                  go_roundw
                  case rel => exact ⟨i + 1, D2, s2, nx2, ep, _, _, F2, by omega, by omega, by go_num, Hz⟩
                  case measure => simp [intOf]; omega
            · have b1 : (kd == (1 : Int)) = false := by simp [q1]
              have b2k : (kd == (2 : Int)) = false := by simp [q2]
              have b3k : (kd == (3 : Int)) = false := by simp [q3]
              by_cases hx : 2 < nx
              · have j2 : (2 : Int) < (nx : Int) := by omega
                as_aux_lemma =>
                  have KC1 := hid (Counts_any _ base F p D H1.da)
                  go_wp2_with fail
                  refine KC1.out.mono ?_
                  rintro e w2 ⟨rfl, hb2⟩
                  have H2 := H1.below hb2
                  clear KC1 c0 H1 hb2
                  go_wp2_with (first | (refine wpList_new AC.out LC.out size_counts rfl rfl rfl _ _ rfl rfl [.int .i64 D.reads, .int .i64 D.writes, .int .i64 D.syncs, .int .i64 D.ops.length] rfl rfl rfl (one4 _ _ _ _) ?_; refine Hid.out ?_))
                  refine hid ?_
                  have H3 := H2.alloc [.int .i64 D.reads, .int .i64 D.writes, .int .i64 D.syncs, .int .i64 D.ops.length] 37 (Or.inr rfl)
                  clear H2
                  generalize w2.alloc (.cells ([.int .i64 D.reads, .int .i64 D.writes, .int .i64 D.syncs, .int .i64 D.ops.length] : List Value).toArray 37) = w3 at *
                  generalize w2.heap.size = gw at *
                  have HNX := hid (FNext_any w3 g p s nx ep H3.fk)
                  have HPG := hid (Pages_any w3 base F p D H3.da)
                  rw [H3.lv.np] at HPG
                  have KRD := hid (H3.read (by omega) hx)
                  go_wp2_with (first | (go_at_call 7; refine HNX.out.mono ?_; rintro e w5 ⟨rfl, rfl⟩) | (go_at_call 8; refine HPG.out.mono ?_; rintro e w5 ⟨rfl, rfl⟩))
                  refine KRD.out.mono ?_
                  rintro e w4 ⟨k1, v1, hk1, rfl, H4⟩
                  have KC2 := hid (show Calls Try.prog 6 #[.pointer (some ⟨p, 0, none⟩)] w4 fun e w' => e = .returned (.agg ([.int .i64 (D.reads + 1), .int .i64 D.writes, .int .i64 D.syncs, .int .i64 D.ops.length] : List Value).toArray) ∧ Below w4.heap.size w4 w' from Counts_any _ base F p _ H4.da)
                  clear HNX HPG KRD H3
                  go_wp2_with fail
                  refine KC2.out.mono ?_
                  rintro e w5 ⟨rfl, hb5⟩
                  have H5 := H4.below hb5
                  clear KC2 H4 hb5
                  go_wp2_with (first | (refine wpList_new AC.out LC.out size_counts rfl rfl rfl _ _ rfl rfl [.int .i64 (D.reads + 1), .int .i64 D.writes, .int .i64 D.syncs, .int .i64 D.ops.length] rfl rfl rfl (one4 _ _ _ _) ?_; refine Hid.out ?_))
                  refine hid ?_
                  have H6 := H5.alloc [.int .i64 (D.reads + 1), .int .i64 D.writes, .int .i64 D.syncs, .int .i64 D.ops.length] 37 (Or.inr rfl)
                  clear H5
                  generalize w5.alloc (.cells ([.int .i64 (D.reads + 1), .int .i64 D.writes, .int .i64 D.syncs, .int .i64 D.ops.length] : List Value).toArray 37) = w6 at *
                  generalize w5.heap.size = gr at *
                  have m0 := H6.cell (.head _) (j := 0) (v := .int .i64 (D.reads + 1)) rfl
                  have m1 := H6.cell (.head _) (j := 1) (v := .int .i64 D.writes) rfl
                  have m2 := H6.cell (.head _) (j := 2) (v := .int .i64 D.syncs) rfl
                  have m3 := H6.cell (.head _) (j := 3) (v := .int .i64 D.ops.length) rfl
                  have u0 := H6.cell (.tail _ (.head _)) (j := 0) (v := .int .i64 D.reads) rfl
                  have u1 := H6.cell (.tail _ (.head _)) (j := 1) (v := .int .i64 D.writes) rfl
                  have u2 := H6.cell (.tail _ (.head _)) (j := 2) (v := .int .i64 D.syncs) rfl
                  have bq : (D.reads == D.reads + 1) = false := by simp; omega
                  go_wp2_with fail
                  go_quiet (fail)
                  have H7 := H6.below (below_drewN (Below.refl w6.heap.size w6) nq)
                  clear H6 m0 m1 m2 m3 u0 u1 u2 bq
                  generalize w6.drewN nq = w7 at *
                  have c0 := H7.cell (.tail _ (.tail _ (.head _))) A0.out
                  have c1 := H7.cell (.tail _ (.tail _ (.head _))) A1.out
                  have HNX := hid (FNext_any w7 g p s nx ep H7.fk)
                  have HSU := hid (FSuper_any w7 g p s nx ep H7.fk)
                  go_wp2_with (first | (go_at_call 7; refine HNX.out.mono ?_; rintro e wn ⟨rfl, rfl⟩))
                  refine HSU.out.mono ?_
                  rintro e w8 ⟨rfl, hb8⟩
                  have H8 := H7.below hb8
                  obtain ⟨b2, _, _, _, _, bf⟩ := H8.ba.cell
                  have f2 := bf 2
                  have H9 := H8.setM s.ma
                  have c0 := H9.cell (.tail _ (.tail _ (.head _))) A0.out
                  have c1 := H9.cell (.tail _ (.tail _ (.head _))) A1.out
                  have HBF := build_fact kd N
                  have KACT := hid (fact0 _ base F p _ H9.da H9.bwr g s nx ep H9.fk [gb] gb B { Bm with mrk := s.ma } H9.ba H9.ap H9.ng n _ H9.lv (by omega) H9.gn H9.arm kd N HAI.out [] (fun x hx => by cases hx) none 0 (Src.nil _) (by simp) b1 b2k b3k b4)
                  clear HSU HNX H7 H8 hb8 bf
                  go_wp2_with (first | refine wpList_field2 rfl _ rfl s s.ma rfl rfl ?_)
                  refine KACT.out.mono ?_
                  rintro e w9 ⟨rfl, hao⟩
                  obtain ⟨D2, s2, nx2, B2, Bm2, F2, H9, cn⟩ := H9.act hao
                  clear KACT hao b2 f2 c0 c1 HBF
                  have hnx9 := H9.lv.hnx
                  have hnp9 := H9.lv.np
                  have x1 : (2 : Int) ≤ ((nx2 : Nat) : Int) := by
                    obtain ⟨mm, hm0, hm1, hm2⟩ := sup_ma H9.lv.val H9.lv.pg
                    omega
                  have x2 : ((nx2 : Nat) : Int) ≤ 64 := by have := HN.out; omega
                  clear hnx9 hnp9
                  have KA0 := hid (Append_kind w9 base F2 p D2 H9.da g s2 _ ep H9.fk H9.lv.live 0 (Or.inl (by decide)) none 0 0)
                  go_wp2_with fail
                  refine KA0.out.mono ?_
                  rintro e wb ⟨rfl, hbb1⟩
                  have H10 := H9.below hbb1
                  clear KA0 H9 hbb1
                  go_wp2_with (first | (refine wpList_make_full _ rfl _ _ 33 rfl wb.heap.size 5 i5 (.int .u8 0) 1 Try.underlying33 HI.out hz5 hs5 .i64 .i64 _ _ 247 rfl rfl rfl rfl K1.out K2.out (Nat.le_refl _) ?_; intro wc hO1 hg1; refine Hid.out ?_))
                  refine hid ?_
                  have H11 := H10.below (grown_keeps hg1 (fun k hk => by cases hk) (Nat.le_refl _))
                  have KA1 := hid (Append_load wc base F2 p D2 H11.da g s2 _ ep H11.fk H11.lv.live 1 (by decide) (by decide) (some ⟨wb.heap.size, 0, none⟩) 247 247 (by decide))
                  clear H10 hO1 hg1
                  go_wp2_with fail
                  refine KA1.out.mono ?_
                  rintro e wd1 ⟨rfl, hbb2⟩
                  have H12 := H11.below hbb2
                  clear KA1 H11 hbb2
                  have HNX := hid (FNext_any wd1 g p s2 _ ep H12.fk)
                  have KP1 := hid (Publish_page wd1 base F2 p D2 H12.da g s2 _ ep H12.fk H12.lv.live ((nx2 : Nat) : Int) (by omega) (by omega))
                  go_wp2_with (first | (go_at_call 7; refine HNX.out.mono ?_; rintro e wn ⟨rfl, rfl⟩))
                  refine KP1.out.mono ?_
                  rintro e we ⟨rfl, hbb3⟩
                  have H13 := H12.below hbb3
                  clear KP1 HNX H12 hbb3
                  have KP2 := hid (Publish_page we base F2 p D2 H13.da g s2 _ ep H13.fk H13.lv.live 1 (by decide) (by omega))
                  go_wp2_with fail
                  refine KP2.out.mono ?_
                  rintro e wf ⟨rfl, hbb4⟩
                  have H14 := H13.below hbb4
                  clear KP2 H13 hbb4
                  have KLV := hid (Live_any wf base F2 p D2 H14.da g s2 _ ep H14.fk)
                  go_wp2_with fail
                  refine KLV.out.mono ?_
                  rintro e wg ⟨rfl, hbb5⟩
                  have H15 := H14.below hbb5
                  clear KLV H14 hbb5
                  have KC3 := hid (show Calls Try.prog 6 #[.pointer (some ⟨p, 0, none⟩)] wg fun e w' => e = .returned (.agg ([.int .i64 (D.reads + 1), .int .i64 D.writes, .int .i64 D.syncs, .int .i64 (D.ops.length : Int)] : List Value).toArray) ∧ Below wg.heap.size wg w' from by
                    have h := Counts_any _ base F2 p D2 H15.da
                    obtain ⟨e1, e2, e3, e4⟩ := cn
                    rw [e1, e2, e3, e4] at h
                    simpa using h)
                  go_wp2_with fail
                  refine KC3.out.mono ?_
                  rintro e wh ⟨rfl, hbb6⟩
                  have H16 := H15.below hbb6
                  clear KC3 H15 hbb6
                  go_wp2_with (first | (refine wpList_new AC.out LC.out size_counts rfl rfl rfl _ _ rfl rfl [.int .i64 (D.reads + 1), .int .i64 D.writes, .int .i64 D.syncs, .int .i64 (D.ops.length : Int)] rfl rfl rfl (one4 _ _ _ _) ?_; refine Hid.out ?_))
                  refine hid ?_
                  have H17 := H16.alloc [.int .i64 (D.reads + 1), .int .i64 D.writes, .int .i64 D.syncs, .int .i64 (D.ops.length : Int)] 37 (Or.inr rfl)
                  clear H16
                  generalize wh.alloc (.cells ([.int .i64 (D.reads + 1), .int .i64 D.writes, .int .i64 D.syncs, .int .i64 (D.ops.length : Int)] : List Value).toArray 37) = wi at *
                  generalize wh.heap.size = gq at *
                  have n0 := H17.cell (.head _) (j := 0) (v := .int .i64 (D.reads + 1)) rfl
                  have n1 := H17.cell (.head _) (j := 1) (v := .int .i64 D.writes) rfl
                  have n2 := H17.cell (.head _) (j := 2) (v := .int .i64 D.syncs) rfl
                  have n3 := H17.cell (.head _) (j := 3) (v := .int .i64 (D.ops.length : Int)) rfl
                  have m0 := H17.cell (.tail _ (.head _)) (j := 0) (v := .int .i64 (D.reads + 1)) rfl
                  have m1 := H17.cell (.tail _ (.head _)) (j := 1) (v := .int .i64 D.writes) rfl
                  have m2 := H17.cell (.tail _ (.head _)) (j := 2) (v := .int .i64 D.syncs) rfl
                  have c0 := H17.cell (.tail _ (.tail _ (.tail _ (.head _)))) A0.out
                  have HNX := hid (FNext_any wi g p s2 _ ep H17.fk)
                  have Hz := (H17.sub (L' := []) (fun x h => by cases h)).more
                  go_wp2_with (first | (go_at_call 7; refine HNX.out.mono ?_; rintro e wn ⟨rfl, rfl⟩))
                  go_wp2
                  go_roundw
                  case rel => exact ⟨i + 1, D2, s2, nx2, ep, _, _, F2, by omega, by omega, by go_num, Hz⟩
                  case measure => simp [intOf]; omega
              · have j2 : (nx : Int) ≤ 2 := by omega
                as_aux_lemma =>
                  have KC1 := hid (Counts_any _ base F p D H1.da)
                  go_wp2_with fail
                  refine KC1.out.mono ?_
                  rintro e w2 ⟨rfl, hb2⟩
                  have H2 := H1.below hb2
                  clear KC1 c0 H1 hb2
                  go_wp2_with (first | (refine wpList_new AC.out LC.out size_counts rfl rfl rfl _ _ rfl rfl [.int .i64 D.reads, .int .i64 D.writes, .int .i64 D.syncs, .int .i64 D.ops.length] rfl rfl rfl (one4 _ _ _ _) ?_; refine Hid.out ?_))
                  refine hid ?_
                  have H3 := H2.alloc [.int .i64 D.reads, .int .i64 D.writes, .int .i64 D.syncs, .int .i64 D.ops.length] 37 (Or.inr rfl)
                  clear H2
                  generalize w2.alloc (.cells ([.int .i64 D.reads, .int .i64 D.writes, .int .i64 D.syncs, .int .i64 D.ops.length] : List Value).toArray 37) = w3 at *
                  generalize w2.heap.size = gw at *
                  have HNX := hid (FNext_any w3 g p s nx ep H3.fk)
                  have HPG := hid (Pages_any w3 base F p D H3.da)
                  rw [H3.lv.np] at HPG
                  have KRD := hid (FRead_page w3 base F p D H3.da g s nx ep H3.fk H3.lv.live ((nx : Int) - 1) (by omega))
                  go_wp2_with (first | (go_at_call 7; refine HNX.out.mono ?_; rintro e w5 ⟨rfl, rfl⟩) | (go_at_call 8; refine HPG.out.mono ?_; rintro e w5 ⟨rfl, rfl⟩))
                  refine KRD.out.mono ?_
                  rintro e w4 ⟨rfl, hb4⟩
                  have H4 := (H3.below hb4).more
                  clear hb4
                  have KC2 := hid (show Calls Try.prog 6 #[.pointer (some ⟨p, 0, none⟩)] w4 fun e w' => e = .returned (.agg ([.int .i64 D.reads, .int .i64 D.writes, .int .i64 D.syncs, .int .i64 D.ops.length] : List Value).toArray) ∧ Below w4.heap.size w4 w' from Counts_any _ base F p _ H4.da)
                  clear HNX HPG KRD H3
                  go_wp2_with fail
                  refine KC2.out.mono ?_
                  rintro e w5 ⟨rfl, hb5⟩
                  have H5 := H4.below hb5
                  clear KC2 H4 hb5
                  go_wp2_with (first | (refine wpList_new AC.out LC.out size_counts rfl rfl rfl _ _ rfl rfl [.int .i64 D.reads, .int .i64 D.writes, .int .i64 D.syncs, .int .i64 D.ops.length] rfl rfl rfl (one4 _ _ _ _) ?_; refine Hid.out ?_))
                  refine hid ?_
                  have H6 := H5.alloc [.int .i64 D.reads, .int .i64 D.writes, .int .i64 D.syncs, .int .i64 D.ops.length] 37 (Or.inr rfl)
                  clear H5
                  generalize w5.alloc (.cells ([.int .i64 D.reads, .int .i64 D.writes, .int .i64 D.syncs, .int .i64 D.ops.length] : List Value).toArray 37) = w6 at *
                  generalize w5.heap.size = gr at *
                  have m0 := H6.cell (.head _) (j := 0) (v := .int .i64 D.reads) rfl
                  have m1 := H6.cell (.head _) (j := 1) (v := .int .i64 D.writes) rfl
                  have m2 := H6.cell (.head _) (j := 2) (v := .int .i64 D.syncs) rfl
                  have m3 := H6.cell (.head _) (j := 3) (v := .int .i64 D.ops.length) rfl
                  have u0 := H6.cell (.tail _ (.head _)) (j := 0) (v := .int .i64 D.reads) rfl
                  have u1 := H6.cell (.tail _ (.head _)) (j := 1) (v := .int .i64 D.writes) rfl
                  have u2 := H6.cell (.tail _ (.head _)) (j := 2) (v := .int .i64 D.syncs) rfl
                  have bq : (D.reads == D.reads + 1) = false := by simp; omega
                  go_wp2_with fail
                  go_quiet (fail)
                  have H7 := H6.below (below_drewN (Below.refl w6.heap.size w6) nq)
                  clear H6 m0 m1 m2 m3 u0 u1 u2 bq
                  generalize w6.drewN nq = w7 at *
                  have c0 := H7.cell (.tail _ (.tail _ (.head _))) A0.out
                  have c1 := H7.cell (.tail _ (.tail _ (.head _))) A1.out
                  have HNX := hid (FNext_any w7 g p s nx ep H7.fk)
                  have HSU := hid (FSuper_any w7 g p s nx ep H7.fk)
                  go_wp2_with (first | (go_at_call 7; refine HNX.out.mono ?_; rintro e wn ⟨rfl, rfl⟩))
                  refine HSU.out.mono ?_
                  rintro e w8 ⟨rfl, hb8⟩
                  have H8 := H7.below hb8
                  obtain ⟨b2, _, _, _, _, bf⟩ := H8.ba.cell
                  have f2 := bf 2
                  have H9 := H8.setM s.ma
                  have c0 := H9.cell (.tail _ (.tail _ (.head _))) A0.out
                  have c1 := H9.cell (.tail _ (.tail _ (.head _))) A1.out
                  have HBF := build_fact kd N
                  have KACT := hid (fact0 _ base F p _ H9.da H9.bwr g s nx ep H9.fk [gb] gb B { Bm with mrk := s.ma } H9.ba H9.ap H9.ng n _ H9.lv (by omega) H9.gn H9.arm kd N HAI.out [] (fun x hx => by cases hx) none 0 (Src.nil _) (by simp) b1 b2k b3k b4)
                  clear HSU HNX H7 H8 hb8 bf
                  go_wp2_with (first | refine wpList_field2 rfl _ rfl s s.ma rfl rfl ?_)
                  refine KACT.out.mono ?_
                  rintro e w9 ⟨rfl, hao⟩
                  obtain ⟨D2, s2, nx2, B2, Bm2, F2, H9, cn⟩ := H9.act hao
                  clear KACT hao b2 f2 c0 c1 HBF
                  have hnx9 := H9.lv.hnx
                  have hnp9 := H9.lv.np
                  have x1 : (2 : Int) ≤ ((nx2 : Nat) : Int) := by
                    obtain ⟨mm, hm0, hm1, hm2⟩ := sup_ma H9.lv.val H9.lv.pg
                    omega
                  have x2 : ((nx2 : Nat) : Int) ≤ 64 := by have := HN.out; omega
                  clear hnx9 hnp9
                  have KA0 := hid (Append_kind w9 base F2 p D2 H9.da g s2 _ ep H9.fk H9.lv.live 0 (Or.inl (by decide)) none 0 0)
                  go_wp2_with fail
                  refine KA0.out.mono ?_
                  rintro e wb ⟨rfl, hbb1⟩
                  have H10 := H9.below hbb1
                  clear KA0 H9 hbb1
                  go_wp2_with (first | (refine wpList_make_full _ rfl _ _ 33 rfl wb.heap.size 5 i5 (.int .u8 0) 1 Try.underlying33 HI.out hz5 hs5 .i64 .i64 _ _ 247 rfl rfl rfl rfl K1.out K2.out (Nat.le_refl _) ?_; intro wc hO1 hg1; refine Hid.out ?_))
                  refine hid ?_
                  have H11 := H10.below (grown_keeps hg1 (fun k hk => by cases hk) (Nat.le_refl _))
                  have KA1 := hid (Append_load wc base F2 p D2 H11.da g s2 _ ep H11.fk H11.lv.live 1 (by decide) (by decide) (some ⟨wb.heap.size, 0, none⟩) 247 247 (by decide))
                  clear H10 hO1 hg1
                  go_wp2_with fail
                  refine KA1.out.mono ?_
                  rintro e wd1 ⟨rfl, hbb2⟩
                  have H12 := H11.below hbb2
                  clear KA1 H11 hbb2
                  have HNX := hid (FNext_any wd1 g p s2 _ ep H12.fk)
                  have KP1 := hid (Publish_page wd1 base F2 p D2 H12.da g s2 _ ep H12.fk H12.lv.live ((nx2 : Nat) : Int) (by omega) (by omega))
                  go_wp2_with (first | (go_at_call 7; refine HNX.out.mono ?_; rintro e wn ⟨rfl, rfl⟩))
                  refine KP1.out.mono ?_
                  rintro e we ⟨rfl, hbb3⟩
                  have H13 := H12.below hbb3
                  clear KP1 HNX H12 hbb3
                  have KP2 := hid (Publish_page we base F2 p D2 H13.da g s2 _ ep H13.fk H13.lv.live 1 (by decide) (by omega))
                  go_wp2_with fail
                  refine KP2.out.mono ?_
                  rintro e wf ⟨rfl, hbb4⟩
                  have H14 := H13.below hbb4
                  clear KP2 H13 hbb4
                  have KLV := hid (Live_any wf base F2 p D2 H14.da g s2 _ ep H14.fk)
                  go_wp2_with fail
                  refine KLV.out.mono ?_
                  rintro e wg ⟨rfl, hbb5⟩
                  have H15 := H14.below hbb5
                  clear KLV H14 hbb5
                  have KC3 := hid (show Calls Try.prog 6 #[.pointer (some ⟨p, 0, none⟩)] wg fun e w' => e = .returned (.agg ([.int .i64 D.reads, .int .i64 D.writes, .int .i64 D.syncs, .int .i64 (D.ops.length : Int)] : List Value).toArray) ∧ Below wg.heap.size wg w' from by
                    have h := Counts_any _ base F2 p D2 H15.da
                    obtain ⟨e1, e2, e3, e4⟩ := cn
                    rw [e1, e2, e3, e4] at h
                    simpa using h)
                  go_wp2_with fail
                  refine KC3.out.mono ?_
                  rintro e wh ⟨rfl, hbb6⟩
                  have H16 := H15.below hbb6
                  clear KC3 H15 hbb6
                  go_wp2_with (first | (refine wpList_new AC.out LC.out size_counts rfl rfl rfl _ _ rfl rfl [.int .i64 D.reads, .int .i64 D.writes, .int .i64 D.syncs, .int .i64 (D.ops.length : Int)] rfl rfl rfl (one4 _ _ _ _) ?_; refine Hid.out ?_))
                  refine hid ?_
                  have H17 := H16.alloc [.int .i64 D.reads, .int .i64 D.writes, .int .i64 D.syncs, .int .i64 (D.ops.length : Int)] 37 (Or.inr rfl)
                  clear H16
                  generalize wh.alloc (.cells ([.int .i64 D.reads, .int .i64 D.writes, .int .i64 D.syncs, .int .i64 (D.ops.length : Int)] : List Value).toArray 37) = wi at *
                  generalize wh.heap.size = gq at *
                  have n0 := H17.cell (.head _) (j := 0) (v := .int .i64 D.reads) rfl
                  have n1 := H17.cell (.head _) (j := 1) (v := .int .i64 D.writes) rfl
                  have n2 := H17.cell (.head _) (j := 2) (v := .int .i64 D.syncs) rfl
                  have n3 := H17.cell (.head _) (j := 3) (v := .int .i64 (D.ops.length : Int)) rfl
                  have m0 := H17.cell (.tail _ (.head _)) (j := 0) (v := .int .i64 D.reads) rfl
                  have m1 := H17.cell (.tail _ (.head _)) (j := 1) (v := .int .i64 D.writes) rfl
                  have m2 := H17.cell (.tail _ (.head _)) (j := 2) (v := .int .i64 D.syncs) rfl
                  have c0 := H17.cell (.tail _ (.tail _ (.tail _ (.head _)))) A0.out
                  have HNX := hid (FNext_any wi g p s2 _ ep H17.fk)
                  have Hz := (H17.sub (L' := []) (fun x h => by cases h)).more
                  go_wp2_with (first | (go_at_call 7; refine HNX.out.mono ?_; rintro e wn ⟨rfl, rfl⟩))
                  go_wp2
                  go_roundw
                  case rel => exact ⟨i + 1, D2, s2, nx2, ep, _, _, F2, by omega, by omega, by go_num, Hz⟩
                  case measure => simp [intOf]; omega
    · have hend : ¬ ((i : Int) < (ac.length : Int) ∧ (i : Int) < 100) := by omega
      have hB := hS.bl
      by_cases e1 : i < ac.length
      · have k1 : (i : Int) < (ac.length : Int) := by omega
        have k2 : ¬ ((i : Int) < 100) := by omega
        go_wp2
        go_ret
        exact ⟨rfl, hB⟩
      · have k1 : ¬ ((i : Int) < (ac.length : Int)) := by omega
        go_wp2
        go_ret
        exact ⟨rfl, hB⟩
end Go.Proofs.Ytjlakgojbfglhaa
