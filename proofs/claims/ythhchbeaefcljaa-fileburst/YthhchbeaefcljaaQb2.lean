import Derived.Test.YthhchbeaefcljaaQb1
namespace Go.Proofs.Ythhchbeaefcljaa
set_option linter.unusedVariables false
set_option linter.unusedSimpArgs false
open Go.RowKit
attribute [local go_sem ↓] Go.wp_at_zero Go.wp_at_succ

/-- A file, its book and nothing else. -/
structure BS (w wr : World) (base p gb g : Nat) (D : DS) (s : Sup) (m : Nat) (ep : Int) (B : Bk) (F G : List Nat) : Prop where
  da : DA wr base F p D
  fk : FK wr g p s m ep
  ba : BA wr base G gb B
  ap : Apart F G
  bl : Below base w wr
  bw : base ≤ w.heap.size
theorem BS.fr {w wr w2 : World} {base p gb g : Nat} {D D' : DS} {s : Sup} {m : Nat} {ep : Int} {B : Bk} {F F' G : List Nat} (h : BS w wr base p gb g D s m ep B F G) (hD : DA w2 base F' p D') (hF : Fr F wr w2) (hG : Gr wr F F') : BS w w2 base p gb g D' s m ep B F' G :=
  ⟨hD, h.fk.other h.da hF, h.ba.other hF h.ap, h.ap.step (fun k hk => (h.ba.lt k hk).2) hG, h.bl.trans (hF.below (fun k hk => (h.da.lt k hk).1) (Nat.le_trans h.bw h.bl.size)), h.bw⟩
theorem BS.below {w wr w2 : World} {base p gb g : Nat} {D : DS} {s : Sup} {m : Nat} {ep : Int} {B : Bk} {F G : List Nat} (h : BS w wr base p gb g D s m ep B F G) (hb : Below wr.heap.size wr w2) : BS w w2 base p gb g D s m ep B F G :=
  ⟨h.da.below hb, h.fk.below hb, h.ba.below hb, h.ap, h.bl.trans (hb.mono (Nat.le_trans h.bw h.bl.size)), h.bw⟩
/-- What is known of the disk. -/
structure PB (D : DS) (B : Bk) (n m : Nat) (ep : Int) : Prop where
  ok : DsOk D
  np : D.np = n
  lv : liveF D ep = 0
  sz : 2 ≤ m ∧ m ≤ n ∧ n ≤ 64
  len : B.Ks.length = B.Ls.length ∧ m - 2 ≤ B.Ls.length
  opn : ∀ o ∈ D.ops, m ≤ o.page
  pgs : Pgs D B m
  rd : D.reads ≤ 2000000
theorem SS.pub {w wr : World} {base p gb n c g : Nat} {D : DS} {s : Sup} {nx : Nat} {ep : Int} {B : Bk} {F G : List Nat} (h : SS w wr base p gb n c g D s nx ep B F G) (ha : D.armed = 0) (hc : c ≤ 1000) :
    Calls Try.prog 16 #[.pointer (some ⟨g, 0, none⟩), .int .i64 0] wr fun e w' => e = .returned (.int .i64 0) ∧ ∃ D' F', BS w w' base p gb g D' (nextS s nx 0) nx ep B F' G ∧ PB D' B n nx ep := by
  have hlv := h.lv
  have hvv := (validS_iff s).1 hlv.val
  have hgv := hlv.ge
  have hcn := hlv.cnt
  obtain ⟨R, hR⟩ : ∃ R, R = runS D [.sync, .lay (nextS s nx 0) 0 0, .sync] := ⟨_, rfl⟩
  obtain ⟨hpA, hpB⟩ := hlv.publish hc 0 (Or.inl rfl) R hR
  obtain ⟨r0, ra⟩ := hpB ha
  have hlv2 : Lv R.1 (nextS s nx 0) nx ep { B with mrk := nx, hd := 0, gn := B.gn + 1 } n (c + 1) := by
    rcases hpA with ⟨_, x⟩ | ⟨x, _⟩
    · exact x
    · rw [r0] at x; exact absurd x (by decide)
  have hP := Publish_in wr base F p D h.da (Nat.le_trans h.bw h.bl.size) g s nx ep h.fk hlv.live 0 (Or.inl rfl) ⟨by omega, by omega⟩ (nextS s nx 0) rfl (nextS_valid hlv.val hlv.pg hlv.hnx (Or.inl rfl) (by omega)) ⟨hlv.pw, by omega, by omega, by omega⟩
  rw [← hR, r0, if_pos rfl] at hP
  refine hP.mono ?_
  rintro e w' ⟨rfl, F', hD, hK, hF, hG⟩
  have hgF : Apart (g :: F) G := fun k hk => by
    rcases List.mem_cons.1 hk with e | e
    · rw [e]; exact h.ng
    · exact h.ap k e
  obtain ⟨m, hm1, hm2, hm3⟩ := sup_ma hlv2.val hlv2.pg
  have hm : (m : Int) = (nx : Int) := hm1.symm
  refine ⟨rfl, R.1, F', ⟨hD, hK, h.ba.other hF hgF, h.ap.step (fun k hk => (h.ba.lt k hk).2) hG, h.bl.trans (hF.below (fun k hk => ?_) (Nat.le_trans h.bw h.bl.size)), h.bw⟩, ⟨hlv2.ok, hlv2.np, hlv2.live, ⟨by omega, by omega, hlv2.small⟩, ⟨hlv2.len.1, hlv2.len.2.1⟩, fun o ho => ?_, hlv2.pgs, ?_⟩⟩
  · rcases List.mem_cons.1 hk with e | e
    · rw [e]; exact h.bg
    · exact (h.da.lt k e).1
  · have := hlv2.opn o ho
    have e : (nextS s nx 0).ma = (nx : Int) := rfl
    omega
  · have := hlv2.cnt; omega
theorem wpList_field2 {ops : Array Oper} {rest : List Oper} {o : Oper} {a : Act} {w : World} {Q : Exit → Act → World → Prop} (hg : o.guard = none) (x : Operand) (ho : o.op = .field 53 x 2) (s2 : Sup) (y : Int) (hy : s2.ma = y) (hx : a.eval x = .agg (supC s2))
    (h : wpList Try.prog ops Q rest (a.put o.dst (.int .i64 y)) w) : wpList Try.prog ops Q (o :: rest) a w := by
  refine wpList_plain hg fun K hK => ?_
  unfold Oper.wp
  have e : (execOp a.eval o).run Try.prog w = .ok (.value (.int .i64 y)) w := by
    subst hy
    unfold execOp
    simp only [ho, hx]
    kernel_rfl
  rw [e]
  exact hK _ _ h
theorem Flip_z (w : World) (base : Nat) (F : List Nat) (p : Nat) (D : DS) (h : DA w base F p D) (q : Nat) (hq : q < D.np) (bit : Nat) (hb : bit < 2048) (pat : Nat) (hp : pat < 4294967296) (z : Int) (hz : z = (q : Int)) (y : Int) (hy : y = (pat : Int)) :
    Calls Try.prog 19 #[.pointer (some ⟨p, 0, none⟩), .int .i64 z, .int .i64 bit, .int .u32 y] w fun e w' => e = .returned (.int .i64 0) ∧ Nx base F p w (D.flipped q bit pat) w' := by
  subst hz hy; exact Flip_any w base F p D h q hq bit hb pat hp
set_option maxRecDepth 100000 in
set_option maxHeartbeats 4000000 in
theorem burst_in (w : World) (n : Nat) (wd : Int) (hn : 3 ≤ n ∧ n ≤ 64) (hw : 1 ≤ wd ∧ wd ≤ 32) (ac : List AC) (hok : ∀ a ∈ ac, AcOk a) (sp : Option Addr) (cap : Nat) (hA : Acs w w.heap.size sp ac) (hal : (ac.length : Int) ≤ 9223372036854775807) (pg : Int) (hpg : -9223372036854775808 ≤ pg ∧ pg ≤ 9223372036854775807) (bt : Int) (hbt : -9223372036854775808 ≤ bt ∧ bt ≤ 9223372036854775807) (pt0 : Int) (pt : Nat) (hpt : (pt0 = 0 ∧ pt = 1) ∨ (pt0 ≠ 0 ∧ pt0 = (pt : Int) ∧ pt < 4294967296)) :
    Calls Try.prog 4 #[.int .i64 n, .int .i64 wd, .slice sp ac.length cap, .int .i64 pg, .int .i64 bt, .int .u32 pt0] w fun e w' => e = .returned (.bool true) ∧ Below w.heap.size w w' := by
  have HFT := hid (fits_yes w n wd ⟨by omega, by omega, hw.1, hw.2⟩)
  have HFR := hid (fresh_in w n wd hn hw)
  obtain ⟨base, hbase⟩ : ∃ base, base = w.heap.size := ⟨_, rfl⟩
  rw [← hbase] at HFR hA ⊢
  have BW := hid (show base ≤ w.heap.size by omega)
  have HA := hid hA
  have HOK := hid hok
  have HBK := build_book
  have HPT := hid hpt
  have HPG := hid hpg
  have HBT := hid hbt
  obtain ⟨bit, hbit, hbit2⟩ : ∃ b : Nat, bt % ((2017 : Nat) : Int) = (b : Int) ∧ b < 2017 := ⟨(bt % 2017).toNat, by omega, by omega⟩
  have HBIT := hid hbit
  clear hpt hpg hbt hbit
  clear hA hok hbase hn hw
  go_enter Try.func4, Try.ntmps4
  go_wp2_with (first | (go_at_call 6; refine HFT.out.mono ?_; rintro e w0 ⟨rfl, rfl⟩))
  refine HFR.out.mono ?_
  rintro e w1 ⟨p, g, F, D, rfl, hD1, hK1, hg1, hlv1, harm1, hB1⟩
  have HD1 := hid hD1
  have HK1 := hid hK1
  have HG1 := hid hg1
  have HLV1 := hid hlv1
  have HB1 := hid hB1
  have HAR1 := hid harm1
  clear hD1 hK1 hg1 hlv1 harm1 hB1 HFR HFT
  go_wp2
  have HS0 := hid (SS.start HD1.out HK1.out HG1.out HLV1.out HB1.out BW.out)
  generalize hgb : w1.heap.size = gb at *
  clear HBK HD1 HK1 HG1 HLV1 HB1
  go_loopw [16, 17, 18] (fun iv _ _ wr => ∃ (i : Nat) (D : DS) (s : Sup) (nx : Nat) (ep : Int) (B : Bk) (F G : List Nat), i ≤ ac.length ∧ i ≤ 60 ∧ iv = .int .i64 i ∧ SS w wr base p gb n (2 * i) g D s nx ep B F G ∧ D.armed = 0) (fun iv _ _ _ => ac.length - (intOf iv).toNat)
  case atStart => exact ⟨0, D, _, 2, _, _, F, _, by omega, by omega, rfl, HS0.out, HAR1.out⟩
  case round =>
    clear HS0 HAR1
    obtain ⟨i, D, s, nx, ep, B, F, G, hi, hi2, rfl, hS, harm⟩ := hrel
    have j0 : (i : Int) ≤ 60 := by omega
    by_cases hlt : i < ac.length ∧ i < 60
    · have k1 : (i : Int) < (ac.length : Int) := by omega
      have k2 : (i : Int) < 60 := by omega
      have k3 : i < ac.length := hlt.1
      have k4 : i < 60 := hlt.2
      obtain ⟨b, o, tp, tc, rfl, hbb, hrg, hsr⟩ := HA.out.at hS.bl i hlt.1
      have hai := HOK.out (ac.getD i dA) (getD_memA ac i hlt.1)
      have HACT := hid (acts_in wr base F p D hS.da (Nat.le_trans hS.bw hS.bl.size) g s nx ep hS.fk G gb B hS.ba hS.ap hS.ng n (2 * i) hS.lv (by omega) (ac.getD i dA).kind (ac.getD i dA).N hai.1 (ac.getD i dA).load hai.2.1 tp tc hsr hai.2.2)
      have ck : wr.cell? ⟨b, o + i * 3, none⟩ = some (.int .i64 (ac.getD i dA).kind) := hrg 0 _ rfl
      have HRG := hid hrg
      have HS := hid hS
      have HAR := hid harm
      clear hS hrg hsr hai hlt harm
      generalize ac.getD i dA = A at *
      by_cases h4 : A.kind = 4
      · have h40 : (A.kind != 4) = false := by simp [h4]
        clear h4
        go_wp2
        refine ⟨⟨i + 1, D, s, nx, ep, B, F, G, by omega, by omega, by go_num, by have := HS.out.more.more; rw [show 2 * (i + 1) = 2 * i + 1 + 1 by omega]; exact this, HAR.out⟩, by simp [intOf]; omega⟩
      · have h40 : (A.kind != 4) = true := by simpa using h4
        have H4 := hid h4
        clear h4
        go_wp2_with (first | (refine wpList_load_mid_w (by rfl) 35 (.tmp 62) (by rfl) b (o + i * 3) (by rfl) (actL A tp tc) _ (by exact HRG.out) Try.underlying35 rfl (by rw [size_fact]; rfl) ?_))
        refine HACT.out.mono ?_
        rintro e w3 ⟨er, rfl, hao⟩
        obtain ⟨D', s', nx', B', F', G', hcase, _, _, _, _, hz⟩ := HS.out.step hao
        obtain ⟨rfl, harm'⟩ := hz ⟨HAR.out, H4.out⟩
        have hS2 : SS w w3 base p gb n (2 * i + 1) g D' s' nx' ep B' F' G' := by
          rcases hcase with ⟨_, x⟩ | ⟨x, _⟩
          · exact x
          · exact absurd x (by decide)
        have HS2 := hid hS2
        have HAR2 := hid harm'
        clear hao HACT HRG hcase hz harm' hS2 HS HAR ck
        go_wp2
        refine ⟨⟨i + 1, D', s', nx', ep, B', F', G', by omega, by omega, by go_num, by have := HS2.out.more; rw [show 2 * (i + 1) = 2 * i + 1 + 1 by omega]; exact this, HAR2.out⟩, by simp [intOf]; omega⟩
    · have HS := hid hS
      have HAR := hid harm
      have HPU := hid (hS.pub harm (by omega))
      have hx : ¬ ((i : Int) < (ac.length : Int)) ∨ (((i : Int) < (ac.length : Int)) ∧ ¬ ((i : Int) < 60)) := by omega
      clear hS harm hlt
      rcases HPT.out with ⟨rfl, rfl⟩ | ⟨p0, rfl, plt⟩
      · rcases hx with k1 | ⟨k1, k2⟩
        · skip
          go_wp2_with fail
          refine HPU.out.mono ?_
          rintro e w3 ⟨rfl, D', F', hB, hP⟩
          have HSU := hid (FSuper_any w3 g p _ nx ep hB.fk)
          obtain ⟨S2, hS2⟩ : ∃ S2, S2 = nextS s nx 0 := ⟨_, rfl⟩
          rw [← hS2] at HSU
          have HMA := hid (show S2.ma = (nx : Int) by rw [hS2]; rfl)
          have HS2 := hid hS2
          clear hS2
          have HP := hid hP
          have i0 : 2 ≤ (nx : Int) := by have := hP.sz; omega
          have i1 : (nx : Int) ≤ 64 := by have := hP.sz; omega
          have HB := hid hB
          clear hB hP HPU HS HAR
          go_wp2_with fail
          refine HSU.out.mono ?_
          rintro e w4 ⟨rfl, hb4⟩
          have HB4 := hid (HB.out.below hb4)
          clear HB hb4 HSU
          by_cases h2 : nx = 2
          · subst h2
            go_wp2_with (first | refine wpList_field2 rfl _ rfl S2 2 HMA.out rfl ?_)
            go_ret
            exact ⟨rfl, HB4.out.bl⟩
          have i2 : ¬ ((nx : Int) = 2) := by omega
          have nx2 : 0 < nx - 2 := by omega
          obtain ⟨q, hq, hq2⟩ : ∃ q : Nat, pg % ((nx - 2 : Nat) : Int) = (q : Int) ∧ q < nx - 2 := ⟨(pg % ((nx - 2 : Nat) : Int)).toNat, by have := Int.emod_nonneg pg (show ((nx - 2 : Nat) : Int) ≠ 0 by omega); omega, by have h1 := Int.emod_lt_of_pos pg (show (0 : Int) < ((nx - 2 : Nat) : Int) by omega); have := Int.emod_nonneg pg (show ((nx - 2 : Nat) : Int) ≠ 0 by omega); omega⟩
          have HP1 := hid (place_any w4 pg (nx - 2) nx2 (by omega) HPG.out.1 HPG.out.2 ((nx : Int) - 2) (by omega))
          rw [hq] at HP1
          have HP2 := hid (place_any w4 bt 2017 (by decide) (by decide) HBT.out.1 HBT.out.2 2017 rfl)
          rw [HBIT.out] at HP2
          clear hq nx2 h2
          have i3 : (q : Int) + 2 < (nx : Int) := by omega
          have HQ := hid hq2
          clear hq2
          have sz := HP.out.sz
          go_wp2_with (first | refine wpList_field2 rfl _ rfl S2 nx HMA.out rfl ?_)
          refine HP1.out.mono ?_
          rintro e w5 ⟨rfl, rfl⟩
          go_wp2_with fail
          refine HP2.out.mono ?_
          rintro e w5 ⟨rfl, rfl⟩
          clear HP1 HP2
          have HH := hid (holds_in w4 base F' p D' HB4.out.da g _ nx ep HB4.out.fk HP.out.lv G gb B HB4.out.ba HB4.out.ap HP.out.len.1 nx ⟨sz.1, HP.out.len.2, Int.le_refl _, by rw [HP.out.np]; exact sz.2.1⟩ HP.out.pgs (by have := HP.out.rd; omega))
          go_wp2_with fail
          refine HH.out.mono ?_
          rintro e w6 ⟨rfl, hD6, hF6⟩
          have HB6 := hid (HB4.out.fr hD6 hF6 (Gr.refl _ _))
          have HN6 := hid (show ({ D' with reads := D'.reads + ((nx - 2 : Nat) : Int) } : DS).np = n from HP.out.np)
          have HFL := hid (Flip_z w6 base F' p { D' with reads := D'.reads + ((nx - 2 : Nat) : Int) } hD6 (2 + q) (by rw [HN6.out]; have := HQ.out; omega) bit (by omega) 1 (by decide) (2 + (q : Int)) (by omega) 1 (rfl))
          clear HH hD6 hF6 HB4
          go_wp2_with fail
          refine HFL.out.mono ?_
          rintro e w7 ⟨rfl, F7, hD7, hF7, hG7⟩
          have HB7 := hid (HB6.out.fr hD7 hF7 hG7)
          clear hD7 hF7 hG7 HFL HB6
          have hbb : bit ≤ 2016 := by omega
          have HU := hid (fun (x : Int) (k : Nat) (h2 : 2 ≤ k) (hk : k < nx) (hne : k ≠ 2 + q) => show unpackF k (({ (({ D' with reads := D'.reads + ((nx - 2 : Nat) : Int) } : DS).flipped (2 + q) bit 1) with reads := x } : DS).readOf k) = (B.Ks.getD (k - 2) 0, B.Ls.getD (k - 2) [], 0) from by
            have e := burst_off (D := { D' with reads := D'.reads + ((nx - 2 : Nat) : Int) }) (2 + q) k hne (fun o ho => by have := HP.out.opn o ho; omega) bit 1 hbb
            exact (congrArg (unpackF k) e).trans (HP.out.pgs k h2 hk))
          have HX := hid (show (unpackF (2 + q : Nat) ((({ D' with reads := D'.reads + ((nx - 2 : Nat) : Int) } : DS).flipped (2 + q) bit 1).readOf (2 + q))).2.2 ≠ 0 from burst_bad (D := { D' with reads := D'.reads + ((nx - 2 : Nat) : Int) }) (by have h := HP.out.ok; exact ⟨h.n, h.bts, h.ops, ⟨by show 0 ≤ D'.reads + _; have := h.reads; omega, by show D'.reads + _ ≤ _; have := HP.out.rd; omega⟩, h.writes, h.syncs, h.epoch, h.armed⟩) (2 + q) (by rw [HN6.out]; have := HQ.out; omega) (fun o ho => by have := HP.out.opn o ho; have := HQ.out; omega) _ _ (HP.out.pgs (2 + q) (by omega) (by have := HQ.out; omega)) bit 1 hbb (by decide) (by decide))
          have HNF := hid (show (({ D' with reads := D'.reads + ((nx - 2 : Nat) : Int) } : DS).flipped (2 + q) bit 1).np = n from by rw [flipped_npB]; exact HN6.out)
          have HLF := hid (show liveF (({ D' with reads := D'.reads + ((nx - 2 : Nat) : Int) } : DS).flipped (2 + q) bit 1) ep = 0 from HP.out.lv)
          have HRF := hid (show (({ D' with reads := D'.reads + ((nx - 2 : Nat) : Int) } : DS).flipped (2 + q) bit 1).reads ≤ 2000100 from by show D'.reads + ((nx - 2 : Nat) : Int) ≤ _; have := HP.out.rd; omega)
          have HBK2 := hid (fun y => burst_back HP.out.ok (2 + q) (by rw [HP.out.np]; have := HQ.out; omega) bit 1 hbb (D'.reads + ((nx - 2 : Nat) : Int)) y)
          generalize (({ D' with reads := D'.reads + ((nx - 2 : Nat) : Int) } : DS).flipped (2 + q) bit 1) = Df at *
          go_wp2
          go_loopw [22, 23, 24, 25] (fun iv _ _ _ wr => ∃ k : Nat, 2 ≤ k ∧ k ≤ nx ∧ iv = .int .i64 k ∧ BS w wr base p gb g { Df with reads := Df.reads + ((k - 2 : Nat) : Int) } (nextS s nx 0) nx ep B F7 G) (fun iv _ _ _ _ => nx - (intOf iv).toNat)
          case atStart => exact ⟨2, by omega, by omega, rfl, by simpa using HB7.out⟩
          case round =>
            clear HB7
            obtain ⟨k, hk2, hkm, rfl, hBk⟩ := hrel
            by_cases hlt : k < nx
            · have j1 : (k : Int) < (nx : Int) := by omega
              have HBk := hid hBk
              by_cases hkq : k = 2 + q
              · have HRD := hid (FRead_bad wr base F7 p _ hBk.da g _ nx ep hBk.fk (show liveF { Df with reads := Df.reads + ((k - 2 : Nat) : Int) } ep = 0 from HLF.out) k ⟨hk2, by omega, by show k < Df.np; rw [HNF.out]; omega⟩ (by show Df.reads + ((k - 2 : Nat) : Int) < _; have := HRF.out; omega) (by rw [hkq]; exact HX.out))
                have j2 : (k : Int) ≤ 2 + (q : Int) := by omega
                have j3 : 2 + (q : Int) ≤ (k : Int) := by omega
                clear hBk hkq
                go_wp2_with fail
                refine HRD.out.mono ?_
                rintro e w9 ⟨rfl, hD9, hK9, hF9⟩
                have hB9 := HBk.out.fr hD9 hF9 (Gr.refl _ _)
                have HB9 := hid hB9
                clear hD9 hK9 hF9 hB9 HRD HBk
                go_wp2
                refine ⟨⟨k + 1, by omega, by omega, by go_num, ?_⟩, by simp [intOf]; omega⟩
                rw [show (({ Df with reads := Df.reads + ((k + 1 - 2 : Nat) : Int) } : DS)) = { Df with reads := Df.reads + ((k - 2 : Nat) : Int) + 1 } by congr 1; omega]
                exact HB9.out
              · have HRD := hid (FRead_ok wr base F7 p _ hBk.da g _ nx ep hBk.fk (show liveF { Df with reads := Df.reads + ((k - 2 : Nat) : Int) } ep = 0 from HLF.out) k ⟨hk2, by omega, by show k < Df.np; rw [HNF.out]; omega⟩ (by show Df.reads + ((k - 2 : Nat) : Int) < _; have := HRF.out; omega) _ _ (HU.out _ k hk2 hlt hkq) k rfl)
                have j2 : ¬ ((k : Int) = 2 + (q : Int)) := by omega
                have hi : k - 2 < B.Ls.length := by have := HP.out.len; omega
                have HI := hid hi
                clear hBk hi
                go_wp2_with fail
                refine HRD.out.mono ?_
                rintro e w9 ⟨v, rfl, hO9, hD9, hK9, hF9⟩
                have hB9 := HBk.out.fr hD9 hF9 (Gr.refl _ _)
                obtain ⟨lv9, kv9, vs9, hBI⟩ := hB9.ba
                obtain ⟨lg, lc2, kg, kc, sv, cv, _, _, e1, e2, e3, e4, e5⟩ := hBI.at HP.out.len.1 (k - 2) HI.out
                obtain ⟨s9, c9, hv9, hs9, _⟩ := hO9.form
                subst hv9
                have HSM := hid (same_any w9 _ _ _ _ _ _ hs9 e5)
                rw [show decide (B.Ls.getD (k - 2) [] = B.Ls.getD (k - 2) []) = true from decide_eq_true rfl] at HSM
                have HB9 := hid hB9
                have n2 : (k : Int) - 2 = ((k - 2 : Nat) : Int) := by omega
                have n3 := wrap_nat (k - 2) (by omega)
                have n4 : ((k - 2 : Nat) : Int) < (B.Ls.length : Int) := by have := HI.out; omega
                have n5 : k - 2 < B.Ls.length := HI.out
                have n6 : 0 ≤ ((k - 2 : Nat) : Int) := by omega
                clear hO9 hD9 hK9 hF9 hs9 e5 hB9 hBI HRD HBk
                generalize B.Ls.getD (k - 2) [] = LL at *
                generalize B.Ks.getD (k - 2) 0 = KK at *
                go_wp2_with (first | (go_at_call 20; refine HSM.out.mono ?_; rintro e wx ⟨rfl, hbx⟩))
                refine ⟨⟨k + 1, by omega, by omega, by go_num, ?_⟩, by simp [intOf]; omega⟩
                rw [show (({ Df with reads := Df.reads + ((k + 1 - 2 : Nat) : Int) } : DS)) = { Df with reads := Df.reads + ((k - 2 : Nat) : Int) + 1 } by congr 1; omega]
                exact HB9.out.below hbx
            · obtain rfl : nx = k := by omega
              have HFL := hid (Flip_z wr base F7 p _ hBk.da (2 + q) (by show 2 + q < Df.np; rw [HNF.out]; have := HQ.out; omega) bit (by omega) 1 (by decide) (2 + (q : Int)) (by omega) 1 (rfl))
              rw [HBK2.out] at HFL
              have HBk := hid hBk
              clear hBk hlt
              go_wp2_with fail
              refine HFL.out.mono ?_
              rintro e w9 ⟨rfl, F9, hD9, hF9, hG9⟩
              have HB9 := hid (HBk.out.fr hD9 hF9 hG9)
              have HH := hid (holds_in w9 base F9 p _ HB9.out.da g _ nx ep HB9.out.fk HP.out.lv G gb B HB9.out.ba HB9.out.ap HP.out.len.1 nx ⟨sz.1, HP.out.len.2, Int.le_refl _, by show nx ≤ D'.np; rw [HP.out.np]; exact sz.2.1⟩ HP.out.pgs (by show Df.reads + ((nx - 2 : Nat) : Int) + nx < _; have := HRF.out; omega))
              clear hD9 hF9 hG9 HFL HBk
              go_wp2_with fail
              refine HH.out.mono ?_
              rintro e wx ⟨rfl, hDx, hFx⟩
              have hBx := HB9.out.fr hDx hFx (Gr.refl _ _)
              go_wp2
              go_ret
              exact ⟨rfl, hBx.bl⟩
        · skip
          go_wp2_with fail
          refine HPU.out.mono ?_
          rintro e w3 ⟨rfl, D', F', hB, hP⟩
          have HSU := hid (FSuper_any w3 g p _ nx ep hB.fk)
          obtain ⟨S2, hS2⟩ : ∃ S2, S2 = nextS s nx 0 := ⟨_, rfl⟩
          rw [← hS2] at HSU
          have HMA := hid (show S2.ma = (nx : Int) by rw [hS2]; rfl)
          have HS2 := hid hS2
          clear hS2
          have HP := hid hP
          have i0 : 2 ≤ (nx : Int) := by have := hP.sz; omega
          have i1 : (nx : Int) ≤ 64 := by have := hP.sz; omega
          have HB := hid hB
          clear hB hP HPU HS HAR
          go_wp2_with fail
          refine HSU.out.mono ?_
          rintro e w4 ⟨rfl, hb4⟩
          have HB4 := hid (HB.out.below hb4)
          clear HB hb4 HSU
          by_cases h2 : nx = 2
          · subst h2
            go_wp2_with (first | refine wpList_field2 rfl _ rfl S2 2 HMA.out rfl ?_)
            go_ret
            exact ⟨rfl, HB4.out.bl⟩
          have i2 : ¬ ((nx : Int) = 2) := by omega
          have nx2 : 0 < nx - 2 := by omega
          obtain ⟨q, hq, hq2⟩ : ∃ q : Nat, pg % ((nx - 2 : Nat) : Int) = (q : Int) ∧ q < nx - 2 := ⟨(pg % ((nx - 2 : Nat) : Int)).toNat, by have := Int.emod_nonneg pg (show ((nx - 2 : Nat) : Int) ≠ 0 by omega); omega, by have h1 := Int.emod_lt_of_pos pg (show (0 : Int) < ((nx - 2 : Nat) : Int) by omega); have := Int.emod_nonneg pg (show ((nx - 2 : Nat) : Int) ≠ 0 by omega); omega⟩
          have HP1 := hid (place_any w4 pg (nx - 2) nx2 (by omega) HPG.out.1 HPG.out.2 ((nx : Int) - 2) (by omega))
          rw [hq] at HP1
          have HP2 := hid (place_any w4 bt 2017 (by decide) (by decide) HBT.out.1 HBT.out.2 2017 rfl)
          rw [HBIT.out] at HP2
          clear hq nx2 h2
          have i3 : (q : Int) + 2 < (nx : Int) := by omega
          have HQ := hid hq2
          clear hq2
          have sz := HP.out.sz
          go_wp2_with (first | refine wpList_field2 rfl _ rfl S2 nx HMA.out rfl ?_)
          refine HP1.out.mono ?_
          rintro e w5 ⟨rfl, rfl⟩
          go_wp2_with fail
          refine HP2.out.mono ?_
          rintro e w5 ⟨rfl, rfl⟩
          clear HP1 HP2
          have HH := hid (holds_in w4 base F' p D' HB4.out.da g _ nx ep HB4.out.fk HP.out.lv G gb B HB4.out.ba HB4.out.ap HP.out.len.1 nx ⟨sz.1, HP.out.len.2, Int.le_refl _, by rw [HP.out.np]; exact sz.2.1⟩ HP.out.pgs (by have := HP.out.rd; omega))
          go_wp2_with fail
          refine HH.out.mono ?_
          rintro e w6 ⟨rfl, hD6, hF6⟩
          have HB6 := hid (HB4.out.fr hD6 hF6 (Gr.refl _ _))
          have HN6 := hid (show ({ D' with reads := D'.reads + ((nx - 2 : Nat) : Int) } : DS).np = n from HP.out.np)
          have HFL := hid (Flip_z w6 base F' p { D' with reads := D'.reads + ((nx - 2 : Nat) : Int) } hD6 (2 + q) (by rw [HN6.out]; have := HQ.out; omega) bit (by omega) 1 (by decide) (2 + (q : Int)) (by omega) 1 (rfl))
          clear HH hD6 hF6 HB4
          go_wp2_with fail
          refine HFL.out.mono ?_
          rintro e w7 ⟨rfl, F7, hD7, hF7, hG7⟩
          have HB7 := hid (HB6.out.fr hD7 hF7 hG7)
          clear hD7 hF7 hG7 HFL HB6
          have hbb : bit ≤ 2016 := by omega
          have HU := hid (fun (x : Int) (k : Nat) (h2 : 2 ≤ k) (hk : k < nx) (hne : k ≠ 2 + q) => show unpackF k (({ (({ D' with reads := D'.reads + ((nx - 2 : Nat) : Int) } : DS).flipped (2 + q) bit 1) with reads := x } : DS).readOf k) = (B.Ks.getD (k - 2) 0, B.Ls.getD (k - 2) [], 0) from by
            have e := burst_off (D := { D' with reads := D'.reads + ((nx - 2 : Nat) : Int) }) (2 + q) k hne (fun o ho => by have := HP.out.opn o ho; omega) bit 1 hbb
            exact (congrArg (unpackF k) e).trans (HP.out.pgs k h2 hk))
          have HX := hid (show (unpackF (2 + q : Nat) ((({ D' with reads := D'.reads + ((nx - 2 : Nat) : Int) } : DS).flipped (2 + q) bit 1).readOf (2 + q))).2.2 ≠ 0 from burst_bad (D := { D' with reads := D'.reads + ((nx - 2 : Nat) : Int) }) (by have h := HP.out.ok; exact ⟨h.n, h.bts, h.ops, ⟨by show 0 ≤ D'.reads + _; have := h.reads; omega, by show D'.reads + _ ≤ _; have := HP.out.rd; omega⟩, h.writes, h.syncs, h.epoch, h.armed⟩) (2 + q) (by rw [HN6.out]; have := HQ.out; omega) (fun o ho => by have := HP.out.opn o ho; have := HQ.out; omega) _ _ (HP.out.pgs (2 + q) (by omega) (by have := HQ.out; omega)) bit 1 hbb (by decide) (by decide))
          have HNF := hid (show (({ D' with reads := D'.reads + ((nx - 2 : Nat) : Int) } : DS).flipped (2 + q) bit 1).np = n from by rw [flipped_npB]; exact HN6.out)
          have HLF := hid (show liveF (({ D' with reads := D'.reads + ((nx - 2 : Nat) : Int) } : DS).flipped (2 + q) bit 1) ep = 0 from HP.out.lv)
          have HRF := hid (show (({ D' with reads := D'.reads + ((nx - 2 : Nat) : Int) } : DS).flipped (2 + q) bit 1).reads ≤ 2000100 from by show D'.reads + ((nx - 2 : Nat) : Int) ≤ _; have := HP.out.rd; omega)
          have HBK2 := hid (fun y => burst_back HP.out.ok (2 + q) (by rw [HP.out.np]; have := HQ.out; omega) bit 1 hbb (D'.reads + ((nx - 2 : Nat) : Int)) y)
          generalize (({ D' with reads := D'.reads + ((nx - 2 : Nat) : Int) } : DS).flipped (2 + q) bit 1) = Df at *
          go_wp2
          go_loopw [22, 23, 24, 25] (fun iv _ _ _ wr => ∃ k : Nat, 2 ≤ k ∧ k ≤ nx ∧ iv = .int .i64 k ∧ BS w wr base p gb g { Df with reads := Df.reads + ((k - 2 : Nat) : Int) } (nextS s nx 0) nx ep B F7 G) (fun iv _ _ _ _ => nx - (intOf iv).toNat)
          case atStart => exact ⟨2, by omega, by omega, rfl, by simpa using HB7.out⟩
          case round =>
            clear HB7
            obtain ⟨k, hk2, hkm, rfl, hBk⟩ := hrel
            by_cases hlt : k < nx
            · have j1 : (k : Int) < (nx : Int) := by omega
              have HBk := hid hBk
              by_cases hkq : k = 2 + q
              · have HRD := hid (FRead_bad wr base F7 p _ hBk.da g _ nx ep hBk.fk (show liveF { Df with reads := Df.reads + ((k - 2 : Nat) : Int) } ep = 0 from HLF.out) k ⟨hk2, by omega, by show k < Df.np; rw [HNF.out]; omega⟩ (by show Df.reads + ((k - 2 : Nat) : Int) < _; have := HRF.out; omega) (by rw [hkq]; exact HX.out))
                have j2 : (k : Int) ≤ 2 + (q : Int) := by omega
                have j3 : 2 + (q : Int) ≤ (k : Int) := by omega
                clear hBk hkq
                go_wp2_with fail
                refine HRD.out.mono ?_
                rintro e w9 ⟨rfl, hD9, hK9, hF9⟩
                have hB9 := HBk.out.fr hD9 hF9 (Gr.refl _ _)
                have HB9 := hid hB9
                clear hD9 hK9 hF9 hB9 HRD HBk
                go_wp2
                refine ⟨⟨k + 1, by omega, by omega, by go_num, ?_⟩, by simp [intOf]; omega⟩
                rw [show (({ Df with reads := Df.reads + ((k + 1 - 2 : Nat) : Int) } : DS)) = { Df with reads := Df.reads + ((k - 2 : Nat) : Int) + 1 } by congr 1; omega]
                exact HB9.out
              · have HRD := hid (FRead_ok wr base F7 p _ hBk.da g _ nx ep hBk.fk (show liveF { Df with reads := Df.reads + ((k - 2 : Nat) : Int) } ep = 0 from HLF.out) k ⟨hk2, by omega, by show k < Df.np; rw [HNF.out]; omega⟩ (by show Df.reads + ((k - 2 : Nat) : Int) < _; have := HRF.out; omega) _ _ (HU.out _ k hk2 hlt hkq) k rfl)
                have j2 : ¬ ((k : Int) = 2 + (q : Int)) := by omega
                have hi : k - 2 < B.Ls.length := by have := HP.out.len; omega
                have HI := hid hi
                clear hBk hi
                go_wp2_with fail
                refine HRD.out.mono ?_
                rintro e w9 ⟨v, rfl, hO9, hD9, hK9, hF9⟩
                have hB9 := HBk.out.fr hD9 hF9 (Gr.refl _ _)
                obtain ⟨lv9, kv9, vs9, hBI⟩ := hB9.ba
                obtain ⟨lg, lc2, kg, kc, sv, cv, _, _, e1, e2, e3, e4, e5⟩ := hBI.at HP.out.len.1 (k - 2) HI.out
                obtain ⟨s9, c9, hv9, hs9, _⟩ := hO9.form
                subst hv9
                have HSM := hid (same_any w9 _ _ _ _ _ _ hs9 e5)
                rw [show decide (B.Ls.getD (k - 2) [] = B.Ls.getD (k - 2) []) = true from decide_eq_true rfl] at HSM
                have HB9 := hid hB9
                have n2 : (k : Int) - 2 = ((k - 2 : Nat) : Int) := by omega
                have n3 := wrap_nat (k - 2) (by omega)
                have n4 : ((k - 2 : Nat) : Int) < (B.Ls.length : Int) := by have := HI.out; omega
                have n5 : k - 2 < B.Ls.length := HI.out
                have n6 : 0 ≤ ((k - 2 : Nat) : Int) := by omega
                clear hO9 hD9 hK9 hF9 hs9 e5 hB9 hBI HRD HBk
                generalize B.Ls.getD (k - 2) [] = LL at *
                generalize B.Ks.getD (k - 2) 0 = KK at *
                go_wp2_with (first | (go_at_call 20; refine HSM.out.mono ?_; rintro e wx ⟨rfl, hbx⟩))
                refine ⟨⟨k + 1, by omega, by omega, by go_num, ?_⟩, by simp [intOf]; omega⟩
                rw [show (({ Df with reads := Df.reads + ((k + 1 - 2 : Nat) : Int) } : DS)) = { Df with reads := Df.reads + ((k - 2 : Nat) : Int) + 1 } by congr 1; omega]
                exact HB9.out.below hbx
            · obtain rfl : nx = k := by omega
              have HFL := hid (Flip_z wr base F7 p _ hBk.da (2 + q) (by show 2 + q < Df.np; rw [HNF.out]; have := HQ.out; omega) bit (by omega) 1 (by decide) (2 + (q : Int)) (by omega) 1 (rfl))
              rw [HBK2.out] at HFL
              have HBk := hid hBk
              clear hBk hlt
              go_wp2_with fail
              refine HFL.out.mono ?_
              rintro e w9 ⟨rfl, F9, hD9, hF9, hG9⟩
              have HB9 := hid (HBk.out.fr hD9 hF9 hG9)
              have HH := hid (holds_in w9 base F9 p _ HB9.out.da g _ nx ep HB9.out.fk HP.out.lv G gb B HB9.out.ba HB9.out.ap HP.out.len.1 nx ⟨sz.1, HP.out.len.2, Int.le_refl _, by show nx ≤ D'.np; rw [HP.out.np]; exact sz.2.1⟩ HP.out.pgs (by show Df.reads + ((nx - 2 : Nat) : Int) + nx < _; have := HRF.out; omega))
              clear hD9 hF9 hG9 HFL HBk
              go_wp2_with fail
              refine HH.out.mono ?_
              rintro e wx ⟨rfl, hDx, hFx⟩
              have hBx := HB9.out.fr hDx hFx (Gr.refl _ _)
              go_wp2
              go_ret
              exact ⟨rfl, hBx.bl⟩
      · have PLT := hid plt
        have PNE := hid (show pt ≠ 0 by omega)
        have p1 : ((pt : Int) == 0) = false := by simpa using p0
        clear plt p0
        rcases hx with k1 | ⟨k1, k2⟩
        · skip
          go_wp2_with fail
          refine HPU.out.mono ?_
          rintro e w3 ⟨rfl, D', F', hB, hP⟩
          have HSU := hid (FSuper_any w3 g p _ nx ep hB.fk)
          obtain ⟨S2, hS2⟩ : ∃ S2, S2 = nextS s nx 0 := ⟨_, rfl⟩
          rw [← hS2] at HSU
          have HMA := hid (show S2.ma = (nx : Int) by rw [hS2]; rfl)
          have HS2 := hid hS2
          clear hS2
          have HP := hid hP
          have i0 : 2 ≤ (nx : Int) := by have := hP.sz; omega
          have i1 : (nx : Int) ≤ 64 := by have := hP.sz; omega
          have HB := hid hB
          clear hB hP HPU HS HAR
          go_wp2_with fail
          refine HSU.out.mono ?_
          rintro e w4 ⟨rfl, hb4⟩
          have HB4 := hid (HB.out.below hb4)
          clear HB hb4 HSU
          by_cases h2 : nx = 2
          · subst h2
            go_wp2_with (first | refine wpList_field2 rfl _ rfl S2 2 HMA.out rfl ?_)
            go_ret
            exact ⟨rfl, HB4.out.bl⟩
          have i2 : ¬ ((nx : Int) = 2) := by omega
          have nx2 : 0 < nx - 2 := by omega
          obtain ⟨q, hq, hq2⟩ : ∃ q : Nat, pg % ((nx - 2 : Nat) : Int) = (q : Int) ∧ q < nx - 2 := ⟨(pg % ((nx - 2 : Nat) : Int)).toNat, by have := Int.emod_nonneg pg (show ((nx - 2 : Nat) : Int) ≠ 0 by omega); omega, by have h1 := Int.emod_lt_of_pos pg (show (0 : Int) < ((nx - 2 : Nat) : Int) by omega); have := Int.emod_nonneg pg (show ((nx - 2 : Nat) : Int) ≠ 0 by omega); omega⟩
          have HP1 := hid (place_any w4 pg (nx - 2) nx2 (by omega) HPG.out.1 HPG.out.2 ((nx : Int) - 2) (by omega))
          rw [hq] at HP1
          have HP2 := hid (place_any w4 bt 2017 (by decide) (by decide) HBT.out.1 HBT.out.2 2017 rfl)
          rw [HBIT.out] at HP2
          clear hq nx2 h2
          have i3 : (q : Int) + 2 < (nx : Int) := by omega
          have HQ := hid hq2
          clear hq2
          have sz := HP.out.sz
          go_wp2_with (first | refine wpList_field2 rfl _ rfl S2 nx HMA.out rfl ?_)
          refine HP1.out.mono ?_
          rintro e w5 ⟨rfl, rfl⟩
          go_wp2_with fail
          refine HP2.out.mono ?_
          rintro e w5 ⟨rfl, rfl⟩
          clear HP1 HP2
          have HH := hid (holds_in w4 base F' p D' HB4.out.da g _ nx ep HB4.out.fk HP.out.lv G gb B HB4.out.ba HB4.out.ap HP.out.len.1 nx ⟨sz.1, HP.out.len.2, Int.le_refl _, by rw [HP.out.np]; exact sz.2.1⟩ HP.out.pgs (by have := HP.out.rd; omega))
          go_wp2_with fail
          refine HH.out.mono ?_
          rintro e w6 ⟨rfl, hD6, hF6⟩
          have HB6 := hid (HB4.out.fr hD6 hF6 (Gr.refl _ _))
          have HN6 := hid (show ({ D' with reads := D'.reads + ((nx - 2 : Nat) : Int) } : DS).np = n from HP.out.np)
          have HFL := hid (Flip_z w6 base F' p { D' with reads := D'.reads + ((nx - 2 : Nat) : Int) } hD6 (2 + q) (by rw [HN6.out]; have := HQ.out; omega) bit (by omega) pt PLT.out (2 + (q : Int)) (by omega) (pt : Int) (rfl))
          clear HH hD6 hF6 HB4
          go_wp2_with fail
          refine HFL.out.mono ?_
          rintro e w7 ⟨rfl, F7, hD7, hF7, hG7⟩
          have HB7 := hid (HB6.out.fr hD7 hF7 hG7)
          clear hD7 hF7 hG7 HFL HB6
          have hbb : bit ≤ 2016 := by omega
          have HU := hid (fun (x : Int) (k : Nat) (h2 : 2 ≤ k) (hk : k < nx) (hne : k ≠ 2 + q) => show unpackF k (({ (({ D' with reads := D'.reads + ((nx - 2 : Nat) : Int) } : DS).flipped (2 + q) bit pt) with reads := x } : DS).readOf k) = (B.Ks.getD (k - 2) 0, B.Ls.getD (k - 2) [], 0) from by
            have e := burst_off (D := { D' with reads := D'.reads + ((nx - 2 : Nat) : Int) }) (2 + q) k hne (fun o ho => by have := HP.out.opn o ho; omega) bit pt hbb
            exact (congrArg (unpackF k) e).trans (HP.out.pgs k h2 hk))
          have HX := hid (show (unpackF (2 + q : Nat) ((({ D' with reads := D'.reads + ((nx - 2 : Nat) : Int) } : DS).flipped (2 + q) bit pt).readOf (2 + q))).2.2 ≠ 0 from burst_bad (D := { D' with reads := D'.reads + ((nx - 2 : Nat) : Int) }) (by have h := HP.out.ok; exact ⟨h.n, h.bts, h.ops, ⟨by show 0 ≤ D'.reads + _; have := h.reads; omega, by show D'.reads + _ ≤ _; have := HP.out.rd; omega⟩, h.writes, h.syncs, h.epoch, h.armed⟩) (2 + q) (by rw [HN6.out]; have := HQ.out; omega) (fun o ho => by have := HP.out.opn o ho; have := HQ.out; omega) _ _ (HP.out.pgs (2 + q) (by omega) (by have := HQ.out; omega)) bit pt hbb PNE.out PLT.out)
          have HNF := hid (show (({ D' with reads := D'.reads + ((nx - 2 : Nat) : Int) } : DS).flipped (2 + q) bit pt).np = n from by rw [flipped_npB]; exact HN6.out)
          have HLF := hid (show liveF (({ D' with reads := D'.reads + ((nx - 2 : Nat) : Int) } : DS).flipped (2 + q) bit pt) ep = 0 from HP.out.lv)
          have HRF := hid (show (({ D' with reads := D'.reads + ((nx - 2 : Nat) : Int) } : DS).flipped (2 + q) bit pt).reads ≤ 2000100 from by show D'.reads + ((nx - 2 : Nat) : Int) ≤ _; have := HP.out.rd; omega)
          have HBK2 := hid (fun y => burst_back HP.out.ok (2 + q) (by rw [HP.out.np]; have := HQ.out; omega) bit pt hbb (D'.reads + ((nx - 2 : Nat) : Int)) y)
          generalize (({ D' with reads := D'.reads + ((nx - 2 : Nat) : Int) } : DS).flipped (2 + q) bit pt) = Df at *
          go_wp2
          go_loopw [22, 23, 24, 25] (fun iv _ _ _ wr => ∃ k : Nat, 2 ≤ k ∧ k ≤ nx ∧ iv = .int .i64 k ∧ BS w wr base p gb g { Df with reads := Df.reads + ((k - 2 : Nat) : Int) } (nextS s nx 0) nx ep B F7 G) (fun iv _ _ _ _ => nx - (intOf iv).toNat)
          case atStart => exact ⟨2, by omega, by omega, rfl, by simpa using HB7.out⟩
          case round =>
            clear HB7
            obtain ⟨k, hk2, hkm, rfl, hBk⟩ := hrel
            by_cases hlt : k < nx
            · have j1 : (k : Int) < (nx : Int) := by omega
              have HBk := hid hBk
              by_cases hkq : k = 2 + q
              · have HRD := hid (FRead_bad wr base F7 p _ hBk.da g _ nx ep hBk.fk (show liveF { Df with reads := Df.reads + ((k - 2 : Nat) : Int) } ep = 0 from HLF.out) k ⟨hk2, by omega, by show k < Df.np; rw [HNF.out]; omega⟩ (by show Df.reads + ((k - 2 : Nat) : Int) < _; have := HRF.out; omega) (by rw [hkq]; exact HX.out))
                have j2 : (k : Int) ≤ 2 + (q : Int) := by omega
                have j3 : 2 + (q : Int) ≤ (k : Int) := by omega
                clear hBk hkq
                go_wp2_with fail
                refine HRD.out.mono ?_
                rintro e w9 ⟨rfl, hD9, hK9, hF9⟩
                have hB9 := HBk.out.fr hD9 hF9 (Gr.refl _ _)
                have HB9 := hid hB9
                clear hD9 hK9 hF9 hB9 HRD HBk
                go_wp2
                refine ⟨⟨k + 1, by omega, by omega, by go_num, ?_⟩, by simp [intOf]; omega⟩
                rw [show (({ Df with reads := Df.reads + ((k + 1 - 2 : Nat) : Int) } : DS)) = { Df with reads := Df.reads + ((k - 2 : Nat) : Int) + 1 } by congr 1; omega]
                exact HB9.out
              · have HRD := hid (FRead_ok wr base F7 p _ hBk.da g _ nx ep hBk.fk (show liveF { Df with reads := Df.reads + ((k - 2 : Nat) : Int) } ep = 0 from HLF.out) k ⟨hk2, by omega, by show k < Df.np; rw [HNF.out]; omega⟩ (by show Df.reads + ((k - 2 : Nat) : Int) < _; have := HRF.out; omega) _ _ (HU.out _ k hk2 hlt hkq) k rfl)
                have j2 : ¬ ((k : Int) = 2 + (q : Int)) := by omega
                have hi : k - 2 < B.Ls.length := by have := HP.out.len; omega
                have HI := hid hi
                clear hBk hi
                go_wp2_with fail
                refine HRD.out.mono ?_
                rintro e w9 ⟨v, rfl, hO9, hD9, hK9, hF9⟩
                have hB9 := HBk.out.fr hD9 hF9 (Gr.refl _ _)
                obtain ⟨lv9, kv9, vs9, hBI⟩ := hB9.ba
                obtain ⟨lg, lc2, kg, kc, sv, cv, _, _, e1, e2, e3, e4, e5⟩ := hBI.at HP.out.len.1 (k - 2) HI.out
                obtain ⟨s9, c9, hv9, hs9, _⟩ := hO9.form
                subst hv9
                have HSM := hid (same_any w9 _ _ _ _ _ _ hs9 e5)
                rw [show decide (B.Ls.getD (k - 2) [] = B.Ls.getD (k - 2) []) = true from decide_eq_true rfl] at HSM
                have HB9 := hid hB9
                have n2 : (k : Int) - 2 = ((k - 2 : Nat) : Int) := by omega
                have n3 := wrap_nat (k - 2) (by omega)
                have n4 : ((k - 2 : Nat) : Int) < (B.Ls.length : Int) := by have := HI.out; omega
                have n5 : k - 2 < B.Ls.length := HI.out
                have n6 : 0 ≤ ((k - 2 : Nat) : Int) := by omega
                clear hO9 hD9 hK9 hF9 hs9 e5 hB9 hBI HRD HBk
                generalize B.Ls.getD (k - 2) [] = LL at *
                generalize B.Ks.getD (k - 2) 0 = KK at *
                go_wp2_with (first | (go_at_call 20; refine HSM.out.mono ?_; rintro e wx ⟨rfl, hbx⟩))
                refine ⟨⟨k + 1, by omega, by omega, by go_num, ?_⟩, by simp [intOf]; omega⟩
                rw [show (({ Df with reads := Df.reads + ((k + 1 - 2 : Nat) : Int) } : DS)) = { Df with reads := Df.reads + ((k - 2 : Nat) : Int) + 1 } by congr 1; omega]
                exact HB9.out.below hbx
            · obtain rfl : nx = k := by omega
              have HFL := hid (Flip_z wr base F7 p _ hBk.da (2 + q) (by show 2 + q < Df.np; rw [HNF.out]; have := HQ.out; omega) bit (by omega) pt PLT.out (2 + (q : Int)) (by omega) (pt : Int) (rfl))
              rw [HBK2.out] at HFL
              have HBk := hid hBk
              clear hBk hlt
              go_wp2_with fail
              refine HFL.out.mono ?_
              rintro e w9 ⟨rfl, F9, hD9, hF9, hG9⟩
              have HB9 := hid (HBk.out.fr hD9 hF9 hG9)
              have HH := hid (holds_in w9 base F9 p _ HB9.out.da g _ nx ep HB9.out.fk HP.out.lv G gb B HB9.out.ba HB9.out.ap HP.out.len.1 nx ⟨sz.1, HP.out.len.2, Int.le_refl _, by show nx ≤ D'.np; rw [HP.out.np]; exact sz.2.1⟩ HP.out.pgs (by show Df.reads + ((nx - 2 : Nat) : Int) + nx < _; have := HRF.out; omega))
              clear hD9 hF9 hG9 HFL HBk
              go_wp2_with fail
              refine HH.out.mono ?_
              rintro e wx ⟨rfl, hDx, hFx⟩
              have hBx := HB9.out.fr hDx hFx (Gr.refl _ _)
              go_wp2
              go_ret
              exact ⟨rfl, hBx.bl⟩
        · skip
          go_wp2_with fail
          refine HPU.out.mono ?_
          rintro e w3 ⟨rfl, D', F', hB, hP⟩
          have HSU := hid (FSuper_any w3 g p _ nx ep hB.fk)
          obtain ⟨S2, hS2⟩ : ∃ S2, S2 = nextS s nx 0 := ⟨_, rfl⟩
          rw [← hS2] at HSU
          have HMA := hid (show S2.ma = (nx : Int) by rw [hS2]; rfl)
          have HS2 := hid hS2
          clear hS2
          have HP := hid hP
          have i0 : 2 ≤ (nx : Int) := by have := hP.sz; omega
          have i1 : (nx : Int) ≤ 64 := by have := hP.sz; omega
          have HB := hid hB
          clear hB hP HPU HS HAR
          go_wp2_with fail
          refine HSU.out.mono ?_
          rintro e w4 ⟨rfl, hb4⟩
          have HB4 := hid (HB.out.below hb4)
          clear HB hb4 HSU
          by_cases h2 : nx = 2
          · subst h2
            go_wp2_with (first | refine wpList_field2 rfl _ rfl S2 2 HMA.out rfl ?_)
            go_ret
            exact ⟨rfl, HB4.out.bl⟩
          have i2 : ¬ ((nx : Int) = 2) := by omega
          have nx2 : 0 < nx - 2 := by omega
          obtain ⟨q, hq, hq2⟩ : ∃ q : Nat, pg % ((nx - 2 : Nat) : Int) = (q : Int) ∧ q < nx - 2 := ⟨(pg % ((nx - 2 : Nat) : Int)).toNat, by have := Int.emod_nonneg pg (show ((nx - 2 : Nat) : Int) ≠ 0 by omega); omega, by have h1 := Int.emod_lt_of_pos pg (show (0 : Int) < ((nx - 2 : Nat) : Int) by omega); have := Int.emod_nonneg pg (show ((nx - 2 : Nat) : Int) ≠ 0 by omega); omega⟩
          have HP1 := hid (place_any w4 pg (nx - 2) nx2 (by omega) HPG.out.1 HPG.out.2 ((nx : Int) - 2) (by omega))
          rw [hq] at HP1
          have HP2 := hid (place_any w4 bt 2017 (by decide) (by decide) HBT.out.1 HBT.out.2 2017 rfl)
          rw [HBIT.out] at HP2
          clear hq nx2 h2
          have i3 : (q : Int) + 2 < (nx : Int) := by omega
          have HQ := hid hq2
          clear hq2
          have sz := HP.out.sz
          go_wp2_with (first | refine wpList_field2 rfl _ rfl S2 nx HMA.out rfl ?_)
          refine HP1.out.mono ?_
          rintro e w5 ⟨rfl, rfl⟩
          go_wp2_with fail
          refine HP2.out.mono ?_
          rintro e w5 ⟨rfl, rfl⟩
          clear HP1 HP2
          have HH := hid (holds_in w4 base F' p D' HB4.out.da g _ nx ep HB4.out.fk HP.out.lv G gb B HB4.out.ba HB4.out.ap HP.out.len.1 nx ⟨sz.1, HP.out.len.2, Int.le_refl _, by rw [HP.out.np]; exact sz.2.1⟩ HP.out.pgs (by have := HP.out.rd; omega))
          go_wp2_with fail
          refine HH.out.mono ?_
          rintro e w6 ⟨rfl, hD6, hF6⟩
          have HB6 := hid (HB4.out.fr hD6 hF6 (Gr.refl _ _))
          have HN6 := hid (show ({ D' with reads := D'.reads + ((nx - 2 : Nat) : Int) } : DS).np = n from HP.out.np)
          have HFL := hid (Flip_z w6 base F' p { D' with reads := D'.reads + ((nx - 2 : Nat) : Int) } hD6 (2 + q) (by rw [HN6.out]; have := HQ.out; omega) bit (by omega) pt PLT.out (2 + (q : Int)) (by omega) (pt : Int) (rfl))
          clear HH hD6 hF6 HB4
          go_wp2_with fail
          refine HFL.out.mono ?_
          rintro e w7 ⟨rfl, F7, hD7, hF7, hG7⟩
          have HB7 := hid (HB6.out.fr hD7 hF7 hG7)
          clear hD7 hF7 hG7 HFL HB6
          have hbb : bit ≤ 2016 := by omega
          have HU := hid (fun (x : Int) (k : Nat) (h2 : 2 ≤ k) (hk : k < nx) (hne : k ≠ 2 + q) => show unpackF k (({ (({ D' with reads := D'.reads + ((nx - 2 : Nat) : Int) } : DS).flipped (2 + q) bit pt) with reads := x } : DS).readOf k) = (B.Ks.getD (k - 2) 0, B.Ls.getD (k - 2) [], 0) from by
            have e := burst_off (D := { D' with reads := D'.reads + ((nx - 2 : Nat) : Int) }) (2 + q) k hne (fun o ho => by have := HP.out.opn o ho; omega) bit pt hbb
            exact (congrArg (unpackF k) e).trans (HP.out.pgs k h2 hk))
          have HX := hid (show (unpackF (2 + q : Nat) ((({ D' with reads := D'.reads + ((nx - 2 : Nat) : Int) } : DS).flipped (2 + q) bit pt).readOf (2 + q))).2.2 ≠ 0 from burst_bad (D := { D' with reads := D'.reads + ((nx - 2 : Nat) : Int) }) (by have h := HP.out.ok; exact ⟨h.n, h.bts, h.ops, ⟨by show 0 ≤ D'.reads + _; have := h.reads; omega, by show D'.reads + _ ≤ _; have := HP.out.rd; omega⟩, h.writes, h.syncs, h.epoch, h.armed⟩) (2 + q) (by rw [HN6.out]; have := HQ.out; omega) (fun o ho => by have := HP.out.opn o ho; have := HQ.out; omega) _ _ (HP.out.pgs (2 + q) (by omega) (by have := HQ.out; omega)) bit pt hbb PNE.out PLT.out)
          have HNF := hid (show (({ D' with reads := D'.reads + ((nx - 2 : Nat) : Int) } : DS).flipped (2 + q) bit pt).np = n from by rw [flipped_npB]; exact HN6.out)
          have HLF := hid (show liveF (({ D' with reads := D'.reads + ((nx - 2 : Nat) : Int) } : DS).flipped (2 + q) bit pt) ep = 0 from HP.out.lv)
          have HRF := hid (show (({ D' with reads := D'.reads + ((nx - 2 : Nat) : Int) } : DS).flipped (2 + q) bit pt).reads ≤ 2000100 from by show D'.reads + ((nx - 2 : Nat) : Int) ≤ _; have := HP.out.rd; omega)
          have HBK2 := hid (fun y => burst_back HP.out.ok (2 + q) (by rw [HP.out.np]; have := HQ.out; omega) bit pt hbb (D'.reads + ((nx - 2 : Nat) : Int)) y)
          generalize (({ D' with reads := D'.reads + ((nx - 2 : Nat) : Int) } : DS).flipped (2 + q) bit pt) = Df at *
          go_wp2
          go_loopw [22, 23, 24, 25] (fun iv _ _ _ wr => ∃ k : Nat, 2 ≤ k ∧ k ≤ nx ∧ iv = .int .i64 k ∧ BS w wr base p gb g { Df with reads := Df.reads + ((k - 2 : Nat) : Int) } (nextS s nx 0) nx ep B F7 G) (fun iv _ _ _ _ => nx - (intOf iv).toNat)
          case atStart => exact ⟨2, by omega, by omega, rfl, by simpa using HB7.out⟩
          case round =>
            clear HB7
            obtain ⟨k, hk2, hkm, rfl, hBk⟩ := hrel
            by_cases hlt : k < nx
            · have j1 : (k : Int) < (nx : Int) := by omega
              have HBk := hid hBk
              by_cases hkq : k = 2 + q
              · have HRD := hid (FRead_bad wr base F7 p _ hBk.da g _ nx ep hBk.fk (show liveF { Df with reads := Df.reads + ((k - 2 : Nat) : Int) } ep = 0 from HLF.out) k ⟨hk2, by omega, by show k < Df.np; rw [HNF.out]; omega⟩ (by show Df.reads + ((k - 2 : Nat) : Int) < _; have := HRF.out; omega) (by rw [hkq]; exact HX.out))
                have j2 : (k : Int) ≤ 2 + (q : Int) := by omega
                have j3 : 2 + (q : Int) ≤ (k : Int) := by omega
                clear hBk hkq
                go_wp2_with fail
                refine HRD.out.mono ?_
                rintro e w9 ⟨rfl, hD9, hK9, hF9⟩
                have hB9 := HBk.out.fr hD9 hF9 (Gr.refl _ _)
                have HB9 := hid hB9
                clear hD9 hK9 hF9 hB9 HRD HBk
                go_wp2
                refine ⟨⟨k + 1, by omega, by omega, by go_num, ?_⟩, by simp [intOf]; omega⟩
                rw [show (({ Df with reads := Df.reads + ((k + 1 - 2 : Nat) : Int) } : DS)) = { Df with reads := Df.reads + ((k - 2 : Nat) : Int) + 1 } by congr 1; omega]
                exact HB9.out
              · have HRD := hid (FRead_ok wr base F7 p _ hBk.da g _ nx ep hBk.fk (show liveF { Df with reads := Df.reads + ((k - 2 : Nat) : Int) } ep = 0 from HLF.out) k ⟨hk2, by omega, by show k < Df.np; rw [HNF.out]; omega⟩ (by show Df.reads + ((k - 2 : Nat) : Int) < _; have := HRF.out; omega) _ _ (HU.out _ k hk2 hlt hkq) k rfl)
                have j2 : ¬ ((k : Int) = 2 + (q : Int)) := by omega
                have hi : k - 2 < B.Ls.length := by have := HP.out.len; omega
                have HI := hid hi
                clear hBk hi
                go_wp2_with fail
                refine HRD.out.mono ?_
                rintro e w9 ⟨v, rfl, hO9, hD9, hK9, hF9⟩
                have hB9 := HBk.out.fr hD9 hF9 (Gr.refl _ _)
                obtain ⟨lv9, kv9, vs9, hBI⟩ := hB9.ba
                obtain ⟨lg, lc2, kg, kc, sv, cv, _, _, e1, e2, e3, e4, e5⟩ := hBI.at HP.out.len.1 (k - 2) HI.out
                obtain ⟨s9, c9, hv9, hs9, _⟩ := hO9.form
                subst hv9
                have HSM := hid (same_any w9 _ _ _ _ _ _ hs9 e5)
                rw [show decide (B.Ls.getD (k - 2) [] = B.Ls.getD (k - 2) []) = true from decide_eq_true rfl] at HSM
                have HB9 := hid hB9
                have n2 : (k : Int) - 2 = ((k - 2 : Nat) : Int) := by omega
                have n3 := wrap_nat (k - 2) (by omega)
                have n4 : ((k - 2 : Nat) : Int) < (B.Ls.length : Int) := by have := HI.out; omega
                have n5 : k - 2 < B.Ls.length := HI.out
                have n6 : 0 ≤ ((k - 2 : Nat) : Int) := by omega
                clear hO9 hD9 hK9 hF9 hs9 e5 hB9 hBI HRD HBk
                generalize B.Ls.getD (k - 2) [] = LL at *
                generalize B.Ks.getD (k - 2) 0 = KK at *
                go_wp2_with (first | (go_at_call 20; refine HSM.out.mono ?_; rintro e wx ⟨rfl, hbx⟩))
                refine ⟨⟨k + 1, by omega, by omega, by go_num, ?_⟩, by simp [intOf]; omega⟩
                rw [show (({ Df with reads := Df.reads + ((k + 1 - 2 : Nat) : Int) } : DS)) = { Df with reads := Df.reads + ((k - 2 : Nat) : Int) + 1 } by congr 1; omega]
                exact HB9.out.below hbx
            · obtain rfl : nx = k := by omega
              have HFL := hid (Flip_z wr base F7 p _ hBk.da (2 + q) (by show 2 + q < Df.np; rw [HNF.out]; have := HQ.out; omega) bit (by omega) pt PLT.out (2 + (q : Int)) (by omega) (pt : Int) (rfl))
              rw [HBK2.out] at HFL
              have HBk := hid hBk
              clear hBk hlt
              go_wp2_with fail
              refine HFL.out.mono ?_
              rintro e w9 ⟨rfl, F9, hD9, hF9, hG9⟩
              have HB9 := hid (HBk.out.fr hD9 hF9 hG9)
              have HH := hid (holds_in w9 base F9 p _ HB9.out.da g _ nx ep HB9.out.fk HP.out.lv G gb B HB9.out.ba HB9.out.ap HP.out.len.1 nx ⟨sz.1, HP.out.len.2, Int.le_refl _, by show nx ≤ D'.np; rw [HP.out.np]; exact sz.2.1⟩ HP.out.pgs (by show Df.reads + ((nx - 2 : Nat) : Int) + nx < _; have := HRF.out; omega))
              clear hD9 hF9 hG9 HFL HBk
              go_wp2_with fail
              refine HH.out.mono ?_
              rintro e wx ⟨rfl, hDx, hFx⟩
              have hBx := HB9.out.fr hDx hFx (Gr.refl _ _)
              go_wp2
              go_ret
              exact ⟨rfl, hBx.bl⟩
end Go.Proofs.Ythhchbeaefcljaa
