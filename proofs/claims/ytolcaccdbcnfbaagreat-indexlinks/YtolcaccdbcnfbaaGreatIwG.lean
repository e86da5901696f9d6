import Derived.Test.YtolcaccdbcnfbaaGreatIf1
import Derived.Deep.DeepCutAuto
namespace Go.Proofs.YtolcaccdbcnfbaaGreat
set_option linter.unusedVariables false
set_option linter.unusedSimpArgs false
open Go.RowKit
open Go.Proofs.YtolcaccdbcnfbaaGreat.Ca (Ct ct0 ctC argV AS)
attribute [local go_sem ↓] Go.wp_at_zero Go.wp_at_succ

set_option maxRecDepth 100000 in
set_option maxHeartbeats 8000000 in
theorem links_yes (w : World) (wd room : Int) (hf : 1 ≤ wd ∧ wd ≤ 32 ∧ 1 ≤ room ∧ room ≤ 4096) (first : Int) (T : Nat) (xs : List IR) (hok : ChOk first T xs) (hn1 : 1 ≤ xs.length) (sp : Option Addr) (cap : Nat) (hS : SrcR w.heap.size w sp xs) :
    Calls Tryz.prog 3 #[.int .i64 wd, .int .i64 room, .int .i64 first, .int .i64 T, .slice sp xs.length cap] w fun e w' => e = .returned (.bool true) ∧ Below w.heap.size w w' := by
  have hn4 := hok.n4
  have hni : (xs.length : Int) ≤ 4000 := by omega
  have KF := hid (fits_yes w wd room hf)
  have KB := hid (hbounded_yes w first T sp xs.length cap ⟨hok.f0, hok.f1, by omega, by have := hok.T8; omega, by omega, by omega⟩)
  have KR := hid (fresh_any w 4096 ⟨by omega, by omega⟩ wd room ⟨hf.1, hf.2.1⟩ ⟨hf.2.2.1, hf.2.2.2⟩)
  have HS := hid hS
  have HOK := hid hok
  have HN1 := hid hn1
  clear hf hok hS hn1 hn4
  go_enter Tryz.func3, Tryz.ntmps3
  go_wp2_with fail
  refine KF.out.mono ?_
  rintro e w' ⟨rfl, rfl⟩
  go_wp2_with fail
  refine KB.out.mono ?_
  rintro e w' ⟨rfl, rfl⟩
  go_wp2_with fail
  refine KR.out.mono ?_
  rintro e w1 ⟨S1, rfl, hQ, hb1⟩
  have KM := hid (made_any w1 w.heap.size S1 0 (hQ.ls ⟨by omega, by omega⟩) (by omega) hQ.np first T xs HOK.out sp cap (HS.out.below hb1))
  have HB1 := hid hb1
  clear hQ hb1 KF KB KR
  obtain ⟨dp, hdp⟩ : ∃ dp, S1.p = dp := ⟨_, rfl⟩
  obtain ⟨st, hst⟩ : ∃ st, S1.st = st := ⟨_, rfl⟩
  rw [hdp, hst]
  rw [hst] at KM
  clear hdp hst
  go_wp2_with fail
  refine KM.out.mono ?_
  rintro e w2 ⟨S2, c, rv, pv, b2, rfl, hC2, hs2, hn2, hb2, hl2⟩
  have HC2 := hid hC2
  have HS2 := hid hs2
  have HB2 := hid (HB1.out.trans hb2)
  have HL2 := hid hl2
  clear hC2 hs2 hn2 hb2 hl2 KM HB1
  go_wp2
  go_loopw [14] (fun i w' => ∃ (k : Nat) (S' : Sto) (b' : Nat), k ≤ xs.length ∧ i = .int .i64 ((k : Int) + 1) ∧ Cn w' w.heap.size S' (chP first T xs) b' c rv pv (recsOf first T xs) (pgsOf T xs.length) ∧ S'.st = st ∧ Below w.heap.size w w' ∧ b' ≤ 100000000 + 3 * k) (fun i _ => xs.length + 1 - (intOf i).toNat)
  case atStart => exact ⟨0, S2, b2, by omega, rfl, HC2.out, HS2.out, HB2.out, by have := HL2.out; omega⟩
  case round =>
    obtain ⟨k, S', b', hk, rfl, hC, hs, hbl, hb'⟩ := hrel
    have HC := hid hC
    have HST := hid hs
    have HBL := hid hbl
    have HB' := hid hb'
    clear hC hs hbl hb' HC2 HS2 HB2 HL2
    by_cases hk2 : k < xs.length
    · have i1 : (k : Int) + 1 ≤ (xs.length : Int) := by omega
      have HR0 := hid (RW.start HC.out)
      have HSK := hid HC.out.ls.sk
      have c2 := HC.out.c2
      obtain ⟨gp, pc, hpv, hcell, hp1, hp2⟩ := HC.out.page k (by rw [pgsOf_len]; omega)
      rw [pgsOf_len] at hpv hp1
      rw [pgsOf_at T xs.length k hk2] at hcell
      have HPV := hid hpv
      rw [hpv] at c2
      have KL := hid (HR0.out.load HOK.out (by have := HB'.out; omega) k hk2 st HST.out _ rfl)
      have hpb : 2 ≤ pgN T (k + 1) ∧ pgN T (k + 1) ≤ 4096 := by have := HOK.out.T8; have := HOK.out.n4; unfold pgN; rw [if_neg (by omega)]; omega
      obtain ⟨q, hq⟩ : ∃ q, pgN T (k + 1) = q := ⟨_, rfl⟩
      rw [hq] at hcell KL hpb
      have HQ := hid hq
      clear hpv hq
      go_wp2_with fail
      refine KL.out.mono ?_
      rintro e w3 ⟨S3, s3, c3, rfl, hS3, hst3, hR3⟩
      have HR3 := hid hR3
      have HST3 := hid hst3
      have KD := hid (dcR HOK.out k hk2 w3 s3 c3 hS3)
      clear hS3 hst3 hR3 KL HR0 HC c2 hcell hp1 hp2 hpb
      go_wp2_with fail
      refine KD.out.mono ?_
      rintro e w4 ⟨rfl, hb4⟩
      have HR4 := hid (HR3.out.call hb4)
      clear hb4 KD HR3
      have hrr : RightR (recN first T (k + 1) (xs.getD k dIR)) ∧ RcOk (recN first T (k + 1) (xs.getD k dIR)) := recN_right HOK.out.f0 HOK.out.f1 HOK.out.T8 (k := k + 1) (by omega) (by omega) (HOK.out.at k hk2)
      obtain ⟨R, hR⟩ : ∃ R, recN first T (k + 1) (xs.getD k dIR) = R := ⟨_, rfl⟩
      obtain ⟨gr, rc, hrv, hrg, hr1, hr2⟩ := HR4.out.cn.rec' (recsOf_ok HOK.out) k (by rw [recsOf_len]; exact hk2)
      rw [recsOf_at first T xs k hk2, hR] at hrg
      rw [recsOf_len] at hrv hr1
      rw [hR] at hrr ⊢
      have HRV := hid hrv
      have HRE := hid hR
      have qX := eqRc R hrr.2
      have gR := Tryz.guardRc
      have LC := hid (rcC_len hrr.2)
      have OC := hid (rcC_one R)
      have SC := hid (show (Tryz.prog.info? 42).map (·.size) = some (rcC R).length by rw [Tryz.sizeRc, rcC_len hrr.2])
      have ARc := hid allocRc
      have LRc0 := hid (rcC_len rc0_ok)
      have X0 := hid (show (rcC R)[0]? = some (.int .i64 R.v) from rfl)
      have X2 := hid (show (rcC R)[2]? = some (.int .i64 R.p) from rfl)
      have X3 := hid (show (rcC R)[3]? = some (.int .i64 R.s) from rfl)
      have EV := hid (show R.v = verN first (k + 1) by rw [← hR]; rfl)
      have EP := hid (show R.p = pgN T k by rw [← hR]; rfl)
      have ES := hid (show R.s = pgN T (farN (k + 1)) by rw [← hR]; rfl)
      have hrgB : Hid (∀ o : Obj, (w4.alloc o).rangeAt gr (k * 38) (rcC R)) := hid (fun o j v hv => by
        have := hrg j v hv
        exact ((below_new w4 o).cell (p := ⟨gr, k * 38 + j, none⟩) (World.block_lt_of_cell? _ _ this)).trans this)
      have HRR := hid hrr
      clear hR hrr hrv hrg
      have HR5 := hid (HR4.out.alloc (rcC R) 42)
      generalize hCR : rcC R = C at *
      have HCR := hid hCR
      clear hCR
      generalize rcC rc0 = C0 at ARc LRc0
      go_wp2_with (first
        | (refine wpList_new ARc.out LRc0.out Tryz.sizeRc rfl rfl rfl _ _ rfl rfl C rfl rfl LC.out OC.out ?_; refine Hid.out ?_))
      refine hid ?_
      have RG := hid (hrgB.out (.cells C.toArray 42))
      obtain ⟨G, hG⟩ : ∃ G, w4.heap.size = G := ⟨_, rfl⟩
      rw [hG] at HR5 ⊢
      clear hG hrgB HR4 ARc LRc0 OC
      generalize w4.alloc (.cells C.toArray 42) = w5 at *
      have HR5 := hid (HR5.out.call (Below.refl _ _).drew)
      have c1 := HR5.out.cn.c1
      rw [HRV.out] at c1
      have Z1 := hid c1
      have Z18 : Hid (w5.drew.rangeAt G 0 C) := hid (fun j v hv => by rw [Nat.zero_add]; exact HR5.out.lc.cell (k := G) (C := C) (t := 42) (by simp) hv)
      have ZR : Hid (w5.drew.rangeAt gr (k * 38) C) := hid RG.out
      clear c1 RG
      go_upto_region 14 with fail
      refine wp_region_noPanic ?_
      refine wp_region_held_drew (S := fun w' => w'.cell? ⟨c, 1, none⟩ = some (.slice (some ⟨gr, 0, none⟩) xs.length rc) ∧ w'.rangeAt G 0 C ∧ w'.rangeAt gr (k * 38) C) (by kernel_rfl) ⟨Z1.out, Z18.out, ZR.out⟩ (fun hHeld => ?_)
      refine wpAnyH_take (i := 0) (oi := { dst := some 74, op := Op.move (Operand.tmp 17), type := 32, pos := "outright.go:251", after := #[], guard := none }) (v := .int .i64 0) rfl (by kernel_rfl) (by kernel_rfl) (by kernel_rfl) (fun _ _ _ h => h) (Or.inl ⟨by rfl, by intro w hS; go_simp⟩) hHeld ?_
      try simp only [Act.put, List.setIfInBounds_toArray, List.set_cons_zero, List.set_cons_succ]
      refine wpAnyH_take (i := 1) (oi := { dst := some 75, op := Op.binOp BinOp.neq 32 (Operand.tmp 74) (Operand.const (Value.int IntKind.i64 0)) 32, type := 4, pos := "outright.go:251", after := #[{ on := 0, ground := Ground.data }], guard := none }) (v := .bool false) rfl (by kernel_rfl) (by kernel_rfl) (by kernel_rfl) (fun _ _ _ h => h) (Or.inl ⟨by rfl, by intro w hS; go_simp⟩) hHeld ?_
      try simp only [Act.put, List.setIfInBounds_toArray, List.set_cons_zero, List.set_cons_succ]
      refine wpAnyH_take (i := 2) (oi := { dst := some 76, op := Op.move (Operand.tmp 75), type := 4, pos := "outright.go:251", after := #[{ on := 1, ground := Ground.data }], guard := none }) (v := .bool false) rfl (by kernel_rfl) (by kernel_rfl) (by kernel_rfl) (fun _ _ _ h => h) (Or.inl ⟨by rfl, by intro w hS; go_simp⟩) hHeld ?_
      try simp only [Act.put, List.setIfInBounds_toArray, List.set_cons_zero, List.set_cons_succ]
      refine wpAnyH_take (i := 3) (oi := { dst := some 77, op := Op.move (Operand.tmp 19), type := 32, pos := "outright.go:251", after := #[{ on := 2, ground := Ground.guard }], guard := some (2, false) }) (v := .int .i64 0) rfl (by kernel_rfl) (by kernel_rfl) (by kernel_rfl) (fun _ _ _ h => h) (Or.inl ⟨by rfl, by intro w hS; go_simp⟩) hHeld ?_
      try simp only [Act.put, List.setIfInBounds_toArray, List.set_cons_zero, List.set_cons_succ]
      refine wpAnyH_take (i := 4) (oi := { dst := some 78, op := Op.binOp BinOp.neq 32 (Operand.tmp 77) (Operand.const (Value.int IntKind.i64 0)) 32, type := 4, pos := "outright.go:251", after := #[{ on := 3, ground := Ground.data }, { on := 2, ground := Ground.guard }], guard := some (2, false) }) (v := .bool false) rfl (by kernel_rfl) (by kernel_rfl) (by kernel_rfl) (fun _ _ _ h => h) (Or.inl ⟨by rfl, by intro w hS; go_simp⟩) hHeld ?_
      try simp only [Act.put, List.setIfInBounds_toArray, List.set_cons_zero, List.set_cons_succ]
      refine wpAnyH_take (i := 5) (oi := { dst := some 79, op := Op.pick (Operand.tmp 76) (Operand.const (Value.bool true)) (Operand.tmp 78), type := 4, pos := "outright.go:251", after := #[{ on := 2, ground := Ground.data }, { on := 4, ground := Ground.data }], guard := none }) (v := .bool false) rfl (by kernel_rfl) (by kernel_rfl) (by kernel_rfl) (fun _ _ _ h => h) (Or.inl ⟨by rfl, by intro w hS; go_simp⟩) hHeld ?_
      try simp only [Act.put, List.setIfInBounds_toArray, List.set_cons_zero, List.set_cons_succ]
      refine wpAnyH_take (i := 6) (oi := { dst := some 80, op := Op.move (Operand.tmp 79), type := 4, pos := "outright.go:251", after := #[{ on := 5, ground := Ground.data }, { on := 2, ground := Ground.chain }], guard := none }) (v := .bool false) rfl (by kernel_rfl) (by kernel_rfl) (by kernel_rfl) (fun _ _ _ h => h) (Or.inl ⟨by rfl, by intro w hS; go_simp⟩) hHeld ?_
      try simp only [Act.put, List.setIfInBounds_toArray, List.set_cons_zero, List.set_cons_succ]
      refine wpAnyH_take (i := 7) (oi := { dst := some 81, op := Op.move (Operand.tmp 15), type := 3, pos := "outright.go:251", after := #[{ on := 6, ground := Ground.guard }], guard := some (6, false) }) (v := .int .i64 3) rfl (by kernel_rfl) (by kernel_rfl) (by kernel_rfl) (fun _ _ _ h => h) (Or.inl ⟨by rfl, by intro w hS; go_simp⟩) hHeld ?_
      try simp only [Act.put, List.setIfInBounds_toArray, List.set_cons_zero, List.set_cons_succ]
      refine wpAnyH_take (i := 8) (oi := { dst := some 82, op := Op.binOp BinOp.neq 3 (Operand.tmp 81) (Operand.const (Value.int IntKind.i64 3)) 3, type := 4, pos := "outright.go:251", after := #[{ on := 7, ground := Ground.data }, { on := 6, ground := Ground.guard }], guard := some (6, false) }) (v := .bool false) rfl (by kernel_rfl) (by kernel_rfl) (by kernel_rfl) (fun _ _ _ h => h) (Or.inl ⟨by rfl, by intro w hS; go_simp⟩) hHeld ?_
      try simp only [Act.put, List.setIfInBounds_toArray, List.set_cons_zero, List.set_cons_succ]
      refine wpAnyH_take (i := 9) (oi := { dst := some 83, op := Op.pick (Operand.tmp 80) (Operand.const (Value.bool true)) (Operand.tmp 82), type := 4, pos := "outright.go:251", after := #[{ on := 6, ground := Ground.data }, { on := 8, ground := Ground.data }], guard := none }) (v := .bool false) rfl (by kernel_rfl) (by kernel_rfl) (by kernel_rfl) (fun _ _ _ h => h) (Or.inl ⟨by rfl, by intro w hS; go_simp⟩) hHeld ?_
      try simp only [Act.put, List.setIfInBounds_toArray, List.set_cons_zero, List.set_cons_succ]
      refine wpAnyH_take (i := 10) (oi := { dst := some 84, op := Op.move (Operand.tmp 83), type := 4, pos := "outright.go:251", after := #[{ on := 9, ground := Ground.data }, { on := 6, ground := Ground.chain }], guard := none }) (v := .bool false) rfl (by kernel_rfl) (by kernel_rfl) (by kernel_rfl) (fun _ _ _ h => h) (Or.inl ⟨by rfl, by intro w hS; go_simp⟩) hHeld ?_
      try simp only [Act.put, List.setIfInBounds_toArray, List.set_cons_zero, List.set_cons_succ]
      refine wpAnyH_take (i := 11) (oi := { dst := some 85, op := Op.move (Operand.tmp 16), type := 31, pos := "outright.go:251", after := #[{ on := 10, ground := Ground.guard }], guard := some (10, false) }) (v := .slice s3 56 c3) rfl (by kernel_rfl) (by kernel_rfl) (by kernel_rfl) (fun _ _ _ h => h) (Or.inl ⟨by rfl, by intro w hS; go_simp⟩) hHeld ?_
      try simp only [Act.put, List.setIfInBounds_toArray, List.set_cons_zero, List.set_cons_succ]
      refine wpAnyH_take (i := 12) (oi := { dst := some 86, op := Op.call { callee := Callee.builtin Builtin.len, args := #[Operand.tmp 85], argTypes := #[31] }, type := 3, pos := "outright.go:251", after := #[{ on := 11, ground := Ground.data }, { on := 10, ground := Ground.guard }], guard := some (10, false) }) (v := .int .i64 56) rfl (by kernel_rfl) (by kernel_rfl) (by kernel_rfl) (fun _ _ _ h => h) (Or.inl ⟨by rfl, by intro w hS; go_simp⟩) hHeld ?_
      try simp only [Act.put, List.setIfInBounds_toArray, List.set_cons_zero, List.set_cons_succ]
      refine wpAnyH_take (i := 13) (oi := { dst := some 87, op := Op.binOp BinOp.neq 3 (Operand.tmp 86) (Operand.const (Value.int IntKind.i64 56)) 3, type := 4, pos := "outright.go:251", after := #[{ on := 12, ground := Ground.data }, { on := 10, ground := Ground.guard }], guard := some (10, false) }) (v := .bool false) rfl (by kernel_rfl) (by kernel_rfl) (by kernel_rfl) (fun _ _ _ h => h) (Or.inl ⟨by rfl, by intro w hS; go_simp⟩) hHeld ?_
      try simp only [Act.put, List.setIfInBounds_toArray, List.set_cons_zero, List.set_cons_succ]
      refine wpAnyH_take (i := 14) (oi := { dst := some 88, op := Op.pick (Operand.tmp 84) (Operand.const (Value.bool true)) (Operand.tmp 87), type := 4, pos := "outright.go:251", after := #[{ on := 10, ground := Ground.data }, { on := 13, ground := Ground.data }], guard := none }) (v := .bool false) rfl (by kernel_rfl) (by kernel_rfl) (by kernel_rfl) (fun _ _ _ h => h) (Or.inl ⟨by rfl, by intro w hS; go_simp⟩) hHeld ?_
      try simp only [Act.put, List.setIfInBounds_toArray, List.set_cons_zero, List.set_cons_succ]
      refine wpAnyH_take (i := 15) (oi := { dst := some 89, op := Op.move (Operand.tmp 88), type := 4, pos := "outright.go:251", after := #[{ on := 14, ground := Ground.data }, { on := 10, ground := Ground.chain }], guard := none }) (v := .bool false) rfl (by kernel_rfl) (by kernel_rfl) (by kernel_rfl) (fun _ _ _ h => h) (Or.inl ⟨by rfl, by intro w hS; go_simp⟩) hHeld ?_
      try simp only [Act.put, List.setIfInBounds_toArray, List.set_cons_zero, List.set_cons_succ]
      refine wpAnyH_take (i := 16) (oi := { dst := some 90, op := Op.load 42 (Operand.tmp 18), type := 42, pos := "outright.go:251", after := #[{ on := 15, ground := Ground.guard }], guard := some (15, false) }) (v := .agg C.toArray) rfl (by kernel_rfl) (by kernel_rfl) (by kernel_rfl) (fun _ _ _ h => h) (yieldsIf_load_mid (by rfl) 42 _ rfl G (0) rfl C _ (fun w hS => hS.2.1) Tryz.underlying42 rfl SC.out) hHeld ?_
      try simp only [Act.put, List.setIfInBounds_toArray, List.set_cons_zero, List.set_cons_succ]
      refine wpAnyH_take (i := 17) (oi := { dst := some 91, op := Op.move (Operand.tmp 13), type := 29, pos := "outright.go:251", after := #[{ on := 15, ground := Ground.guard }], guard := some (15, false) }) (v := .pointer (some ⟨c, 0, none⟩)) rfl (by kernel_rfl) (by kernel_rfl) (by kernel_rfl) (fun _ _ _ h => h) (Or.inl ⟨by rfl, by intro w hS; go_simp⟩) hHeld ?_
      try simp only [Act.put, List.setIfInBounds_toArray, List.set_cons_zero, List.set_cons_succ]
      refine wpAnyH_take (i := 18) (oi := { dst := some 92, op := Op.nilCheck (Operand.tmp 91), type := 0, pos := "outright.go:251", after := #[{ on := 17, ground := Ground.data }, { on := 15, ground := Ground.guard }], guard := some (15, false) }) (v := .pointer (some ⟨c, 0, none⟩)) rfl (by kernel_rfl) (by kernel_rfl) (by kernel_rfl) (fun _ _ _ h => h) (Or.inl ⟨by rfl, by intro w hS; go_simp⟩) hHeld ?_
      try simp only [Act.put, List.setIfInBounds_toArray, List.set_cons_zero, List.set_cons_succ]
      refine wpAnyH_take (i := 19) (oi := { dst := some 93, op := Op.fieldAddr 38 (Operand.tmp 92) 1, type := 0, pos := "outright.go:251", after := #[{ on := 18, ground := Ground.data }, { on := 15, ground := Ground.guard }], guard := some (15, false) }) (v := .pointer (some ⟨c, 1, none⟩)) rfl (by kernel_rfl) (by kernel_rfl) (by kernel_rfl) (fun _ _ _ h => h) (Or.inl ⟨by rfl, by intro w hS; go_simp⟩) hHeld ?_
      try simp only [Act.put, List.setIfInBounds_toArray, List.set_cons_zero, List.set_cons_succ]
      refine wpAnyH_take (i := 20) (oi := { dst := some 94, op := Op.load 35 (Operand.tmp 93), type := 35, pos := "outright.go:251", after := #[{ on := 19, ground := Ground.data }, { on := 15, ground := Ground.guard }], guard := some (15, false) }) (v := .slice (some ⟨gr, 0, none⟩) xs.length rc) rfl (by kernel_rfl) (by kernel_rfl) (by kernel_rfl) (fun _ _ _ h => h) (Or.inl ⟨by rfl, by intro w hS; have hc := hS.1; go_simp⟩) hHeld ?_
      try simp only [Act.put, List.setIfInBounds_toArray, List.set_cons_zero, List.set_cons_succ]
      refine wpAnyH_take (i := 21) (oi := { dst := some 95, op := Op.move (Operand.tmp 14), type := 3, pos := "outright.go:251", after := #[{ on := 15, ground := Ground.guard }], guard := some (15, false) }) (v := .int .i64 ((k : Int) + 1)) rfl (by kernel_rfl) (by kernel_rfl) (by kernel_rfl) (fun _ _ _ h => h) (Or.inl ⟨by rfl, by intro w hS; go_simp⟩) hHeld ?_
      try simp only [Act.put, List.setIfInBounds_toArray, List.set_cons_zero, List.set_cons_succ]
      refine wpAnyH_take (i := 22) (oi := { dst := some 96, op := Op.binOp BinOp.sub 3 (Operand.tmp 95) (Operand.const (Value.int IntKind.i64 1)) 3, type := 3, pos := "outright.go:251", after := #[{ on := 21, ground := Ground.data }, { on := 15, ground := Ground.guard }], guard := some (15, false) }) (v := .int .i64 (k : Int)) rfl (by kernel_rfl) (by kernel_rfl) (by kernel_rfl) (fun _ _ _ h => h) (Or.inl ⟨by rfl, by intro w hS; go_simp; rw [IntKind.wrap_i64]; omega⟩) hHeld ?_
      try simp only [Act.put, List.setIfInBounds_toArray, List.set_cons_zero, List.set_cons_succ]
      refine wpAnyH_take (i := 23) (oi := { dst := some 97, op := Op.indexAddr 35 (Operand.tmp 94) (Operand.tmp 96), type := 0, pos := "outright.go:251", after := #[{ on := 20, ground := Ground.data }, { on := 22, ground := Ground.data }, { on := 15, ground := Ground.guard }], guard := some (15, false) }) (v := .pointer (some ⟨gr, k * 38, none⟩)) rfl (by kernel_rfl) (by kernel_rfl) (by kernel_rfl) (fun _ _ _ h => h) (Or.inl ⟨by rfl, by intro w hS; go_simp⟩) hHeld ?_
      try simp only [Act.put, List.setIfInBounds_toArray, List.set_cons_zero, List.set_cons_succ]
      refine wpAnyH_take (i := 24) (oi := { dst := some 98, op := Op.load 42 (Operand.tmp 97), type := 42, pos := "outright.go:251", after := #[{ on := 23, ground := Ground.data }, { on := 15, ground := Ground.guard }], guard := some (15, false) }) (v := .agg C.toArray) rfl (by kernel_rfl) (by kernel_rfl) (by kernel_rfl) (fun _ _ _ h => h) (yieldsIf_load_mid (by rfl) 42 _ rfl gr (k * 38) rfl C _ (fun w hS => hS.2.2) Tryz.underlying42 rfl SC.out) hHeld ?_
      try simp only [Act.put, List.setIfInBounds_toArray, List.set_cons_zero, List.set_cons_succ]
      refine wpAnyH_take (i := 25) (oi := { dst := some 99, op := Op.binOp BinOp.neq 42 (Operand.tmp 90) (Operand.tmp 98) 42, type := 4, pos := "outright.go:251", after := #[{ on := 16, ground := Ground.data }, { on := 24, ground := Ground.data }, { on := 15, ground := Ground.guard }], guard := some (15, false) }) (v := .bool false) rfl (by kernel_rfl) (by kernel_rfl) (by kernel_rfl) (fun _ _ _ h => h) (Or.inl ⟨by rfl, by intro w hS; go_simp⟩) hHeld ?_
      try simp only [Act.put, List.setIfInBounds_toArray, List.set_cons_zero, List.set_cons_succ]
      refine wpAnyH_take (i := 26) (oi := { dst := some 100, op := Op.pick (Operand.tmp 89) (Operand.const (Value.bool true)) (Operand.tmp 99), type := 4, pos := "outright.go:251", after := #[{ on := 15, ground := Ground.data }, { on := 25, ground := Ground.data }], guard := none }) (v := .bool false) rfl (by kernel_rfl) (by kernel_rfl) (by kernel_rfl) (fun _ _ _ h => h) (Or.inl ⟨by rfl, by intro w hS; go_simp⟩) hHeld ?_
      try simp only [Act.put, List.setIfInBounds_toArray, List.set_cons_zero, List.set_cons_succ]
      refine wpAnyH_done (by kernel_rfl) ?_ _
      refine NoPanic.normal ?_
      clear hHeld Z1 Z18 ZR
      generalize w5.drew = w6 at *
      have hbR : 1 ≤ R.v ∧ R.v ≤ 1073741824 := by obtain ⟨_, _, a, b⟩ := HRR.out.1.1; exact ⟨a, b⟩
      obtain ⟨hv1, hv2⟩ := hbR
      by_cases hk0 : k = 0
      · have HKE := hid hk0
        have hk0i : (k : Int) = 0 := by omega
        clear hk0
        go_wp2_with fail
        go_roundw
        case rel => exact ⟨k + 1, S3, b' + 1, by omega, by push_cast; go_num, HR5.out.cn, HST3.out, HBL.out.trans (HR5.out.lc.sp.below HSK.out), by have := HB'.out; omega⟩
        case measure => simp [intOf]; omega
      obtain ⟨j, hj⟩ : ∃ j, k = j + 1 := ⟨k - 1, by omega⟩
      have HJ := hid hj
      have hkp : 0 < (k : Int) := by omega
      have hkz : ¬ (k : Int) = 0 := by omega
      have KL := hid (HR5.out.load HOK.out (by have := HB'.out; omega) j (by omega) st HST3.out R.p (by rw [EP.out, hj]))
      have cp := HR5.out.lc.cell (k := G) (C := C) (t := 42) (by simp) X2.out
      clear hk0 hj
      go_wp2_with fail
      refine KL.out.mono ?_
      rintro e w7 ⟨S7, s7, c7, rfl, hS7, hst7, hR7⟩
      have HR7 := hid hR7
      have HST7 := hid hst7
      have KD := hid (dcR HOK.out j (by have := HJ.out; omega) w7 s7 c7 hS7)
      clear hS7 hst7 hR7 KL HR5 cp HST3
      go_wp2_with fail
      refine KD.out.mono ?_
      rintro e w8 ⟨rfl, hb8⟩
      have HR8 := hid (HR7.out.call hb8)
      clear hb8 KD HR7
      have hrq : RightR (recN first T (j + 1) (xs.getD j dIR)) ∧ RcOk (recN first T (j + 1) (xs.getD j dIR)) := recN_right HOK.out.f0 HOK.out.f1 HOK.out.T8 (k := j + 1) (by omega) (by have := HJ.out; omega) (HOK.out.at j (by have := HJ.out; omega))
      obtain ⟨Q, hQ⟩ : ∃ Q, recN first T (j + 1) (xs.getD j dIR) = Q := ⟨_, rfl⟩
      rw [hQ] at hrq ⊢
      have EQ := hid (show Q.v = R.v - 1 by
        rw [EV.out, HJ.out, ← hQ]
        show verN first (j + 1) = _
        unfold verN
        split <;> (push_cast; omega))
      have LQ := hid (rcC_len hrq.2)
      have OQ := hid (rcC_one Q)
      have Y0 := hid (show (rcC Q)[0]? = some (.int .i64 (R.v - 1)) by rw [← EQ.out]; rfl)
      have ARc := hid allocRc
      have LRc0 := hid (rcC_len rc0_ok)
      clear hQ hrq
      have HR9 := hid (HR8.out.alloc (rcC Q) 42)
      generalize rcC Q = D at *
      generalize rcC rc0 = C0 at ARc LRc0
      go_wp2_with (first
        | (refine wpList_new ARc.out LRc0.out Tryz.sizeRc rfl rfl rfl _ _ rfl rfl D rfl rfl LQ.out OQ.out ?_; refine Hid.out ?_))
      refine hid ?_
      obtain ⟨G2, hG2⟩ : ∃ G2, w8.heap.size = G2 := ⟨_, rfl⟩
      rw [hG2] at HR9 ⊢
      clear hG2 HR8 ARc LRc0 OQ LQ
      generalize w8.alloc (.cells D.toArray 42) = w9 at *
      have cq0 := HR9.out.lc.cell (k := G2) (C := D) (t := 42) (by simp) Y0.out
      have cr0 := HR9.out.lc.cell (k := G) (C := C) (t := 42) (by simp) X0.out
      have cr3 := HR9.out.lc.cell (k := G) (C := C) (t := 42) (by simp) X3.out
      obtain ⟨rv0, hrv0⟩ : ∃ rv0, R.v = rv0 := ⟨_, rfl⟩
      have HRV0 := hid hrv0
      rw [hrv0] at cq0 cr0 hv1 hv2
      clear hrv0
      go_upto_if 135 with fail
      obtain ⟨fr, hfr⟩ : ∃ fr, farN (k + 1) = fr := ⟨_, rfl⟩
      obtain ⟨hfl, hfe⟩ := farN_lt (k + 1) (by omega) (by omega)
      rw [hfr] at hfl hfe
      have hbits : bits .and .i64 ((k : Int) + 1) (k : Int) = (fr : Int) := by
        rw [← hfe]
        unfold far
        rw [show ((k + 1 : Nat) : Int) = (k : Int) + 1 by push_cast; rfl, show (k : Int) + 1 - 1 = (k : Int) by omega]
      rw [hbits]
      have ESF := hid (show R.s = pgN T fr by rw [ES.out, hfr])
      clear hfe hbits hfr cq0 cr0
      by_cases hz : fr = 0
      · have HZ := hid (show R.s = 0 by rw [ESF.out, hz]; rfl)
        subst hz
        rw [HZ.out] at cr3
        go_wp2_with fail
        go_roundw
        case rel => exact ⟨k + 1, S7, b' + 1 + 1, by omega, by push_cast; go_num, HR9.out.cn, HST7.out, HBL.out.trans (HR9.out.lc.sp.below HSK.out), by have := HB'.out; omega⟩
        case measure => simp [intOf]; omega
      obtain ⟨m, hm⟩ : ∃ m, fr = m + 1 := ⟨fr - 1, by omega⟩
      have HM := hid hm
      have hfz : ¬ (fr : Int) = 0 := by omega
      have hfp : 0 < (fr : Int) := by omega
      have hfk : (fr : Int) ≤ 4000 := by omega
      have KL := hid (HR9.out.load HOK.out (by have := HB'.out; omega) m (by omega) st HST7.out R.s (by rw [ESF.out, hm]))
      have hmk : m < xs.length := by omega
      clear hz hm
      go_wp2_with fail
      refine KL.out.mono ?_
      rintro e wA ⟨SA, sA, cA, rfl, hSA, hstA, hRA⟩
      have HRA := hid hRA
      have HSTA := hid hstA
      have KD := hid (dcR HOK.out m hmk wA sA cA hSA)
      clear hSA hstA hRA KL HR9 cr3 HST7
      go_wp2_with fail
      refine KD.out.mono ?_
      rintro e wB ⟨rfl, hbB⟩
      have HRB := hid (HRA.out.call hbB)
      clear hbB KD HRA
      have hrq : RightR (recN first T (m + 1) (xs.getD m dIR)) ∧ RcOk (recN first T (m + 1) (xs.getD m dIR)) := recN_right HOK.out.f0 HOK.out.f1 HOK.out.T8 (k := m + 1) (by omega) (by omega) (HOK.out.at m hmk)
      have hnum := num_recN first HOK.out.f0 T (m + 1) (by omega) (xs.getD m dIR)
      obtain ⟨Q2, hQ2⟩ : ∃ Q2, recN first T (m + 1) (xs.getD m dIR) = Q2 := ⟨_, rfl⟩
      have hf2 : Q2.f = first := by rw [← hQ2]; rfl
      rw [hQ2] at hrq hnum ⊢
      rw [hf2, ← HM.out] at hnum
      have LQ := hid (rcC_len hrq.2)
      have OQ := hid (rcC_one Q2)
      have KN := hid (fun w1 => hnum_any w1 Q2.v first (by obtain ⟨_, _, a, b⟩ := hrq.1.1; omega) ⟨HOK.out.f0, by have := HOK.out.f1; omega⟩)
      rw [hnum] at KN
      have Y0 := hid (show (rcC Q2)[0]? = some (.int .i64 Q2.v) from rfl)
      have ARc := hid allocRc
      have LRc0 := hid (rcC_len rc0_ok)
      clear hQ2 hrq hnum hf2
      have HRC := hid (HRB.out.alloc (rcC Q2) 42)
      generalize rcC Q2 = E at *
      generalize rcC rc0 = C0 at ARc LRc0
      go_wp2_with (first
        | (refine wpList_new ARc.out LRc0.out Tryz.sizeRc rfl rfl rfl _ _ rfl rfl E rfl rfl LQ.out OQ.out ?_; refine Hid.out ?_))
      refine hid ?_
      obtain ⟨G3, hG3⟩ : ∃ G3, wB.heap.size = G3 := ⟨_, rfl⟩
      rw [hG3] at HRC ⊢
      clear hG3 HRB ARc LRc0 OQ LQ
      generalize wB.alloc (.cells E.toArray 42) = wC at *
      have cq0 := HRC.out.lc.cell (k := G3) (C := E) (t := 42) (by simp) Y0.out
      go_wp2_with fail
      refine (KN.out _).mono ?_
      rintro e wD ⟨rfl, rfl⟩
      go_wp2_with fail
      go_roundw
      case rel => exact ⟨k + 1, SA, b' + 1 + 1 + 1, by omega, by push_cast; go_num, HRC.out.cn, HSTA.out, HBL.out.trans (HRC.out.lc.sp.below HSK.out), by have := HB'.out; omega⟩
      case measure => simp [intOf]; omega
    · obtain rfl : k = xs.length := by omega
      go_wp2
      go_ret
      exact ⟨rfl, HBL.out⟩
end Go.Proofs.YtolcaccdbcnfbaaGreat
