import Derived.Test.YtbjahdbmkcamoaaDoorTsB0
namespace Go.Proofs.YtbjahdbmkcamoaaDoor
set_option linter.unusedVariables false
set_option linter.unusedSimpArgs false
open Go.RowKit
attribute [local go_sem ↓] Go.wp_at_zero Go.wp_at_succ

def k1 : List Int := 1 :: List.replicate 31 0
theorem built_k1 : Tryd.prog.built 30 [(0, .int .u8 1)] = some (ints .u8 k1).toArray := by kernel_rfl
theorem k1_bys : Bys k1 := fun x hx => by
  rcases List.mem_cons.1 hx with rfl | hx
  · omega
  · rw [(List.mem_replicate.1 hx).2]; omega
set_option maxRecDepth 100000 in
set_option maxHeartbeats 4000000 in
theorem truths_many (w : World) (hG : Gb w) (k : Int) (cs : List Chg) (sp : Option Addr) (cap : Nat) (kss : List (List Int)) (sp2 : Option Addr) (cap2 : Nat) (hl : 100000 < kss.length) (hl2 : kss.length ≤ 140737488355328) (hc2 : cs.length ≤ 140737488355328) :
    Calls Tryd.prog 3 #[.int .i64 k, .slice sp cs.length cap, .slice sp2 kss.length cap2] w fun e w' => e = .returned (.bool true) ∧ Below w.heap.size w w' := by
  have KW := hid (fun w1 => lwithin_32 k w1)
  have i1 : (100000 : Int) < (kss.length : Int) := by omega
  have i2 : (kss.length : Int) ≤ 140737488355328 := by omega
  have i3 : (cs.length : Int) ≤ 140737488355328 := by omega
  obtain ⟨P, hP⟩ : ∃ P, wrap64 ((cs.length : Int) * ((kss.length : Int) + 1)) = P := ⟨_, rfl⟩
  generalize cs.length = C at *
  generalize kss.length = K at *
  clear hc2 i3
  by_cases hx : 100000 < P
  · go_enter Tryd.func3, Tryd.ntmps3
    go_wp2_with (first | (refine (KW.out _).mono ?_; rintro e w1 ⟨n, hn1, hn2, rfl, rfl⟩; refine Hid.out ?_))
    refine hid ?_
    go_wp2_with fail
    go_ret
    exact ⟨rfl, Below.refl _ _⟩
  · go_enter Tryd.func3, Tryd.ntmps3
    go_wp2_with (first | (refine (KW.out _).mono ?_; rintro e w1 ⟨n, hn1, hn2, rfl, rfl⟩; refine Hid.out ?_))
    refine hid ?_
    go_wp2_with fail
    go_ret
    exact ⟨rfl, Below.refl _ _⟩
set_option maxRecDepth 100000 in
set_option maxHeartbeats 4000000 in
theorem truths_few (w : World) (hG : Gb w) (k : Int) (cs : List Chg) (sp : Option Addr) (cap b o : Nat) (ms : List MC) (hC : Chs w sp cap cs b o ms) (hok : ∀ c ∈ cs, OkC c) (kss : List (List Int)) (sp2 : Option Addr) (cap2 : Nat) (hS2 : SrcD w sp2 cap2 kss) (hn2 : sp2 = none → cap2 = 0) (hyk : ∀ d ∈ kss, Bys d) (hl : kss.length ≤ 100000) :
    Calls Tryd.prog 3 #[.int .i64 k, .slice sp cs.length cap, .slice sp2 kss.length cap2] w fun e w' => e = .returned (.bool true) ∧ Below w.heap.size w w' := by
  have KW := hid (fun w1 => lwithin_32 k w1)
  have KM := hid (mapped_any w cs sp cap b o ms hC hok)
  have hmv := mapC_vs hok
  have hmy := mapC_y hok
  have hms := mapC_srt cs
  have hml := mapC_len cs
  have i1 : (kss.length : Int) ≤ 100000 := by omega
  obtain ⟨P, hP⟩ : ∃ P, wrap64 ((cs.length : Int) * ((kss.length : Int) + 1)) = P := ⟨_, rfl⟩
  generalize mapC cs = m at *
  generalize cs.length = C at *
  clear hC hok
  by_cases hx : 100000 < P
  · go_enter Tryd.func3, Tryd.ntmps3
    go_wp2_with (first | (refine (KW.out _).mono ?_; rintro e w1 ⟨n, hn1, hn2, rfl, rfl⟩; refine Hid.out ?_))
    refine hid ?_
    go_wp2_with fail
    go_ret
    exact ⟨rfl, Below.refl _ _⟩
  have AD := hid allocDg
  have BK1 := hid built_k1
  have LK1 := hid (show (ints .u8 k1).length = 32 from rfl)
  have lk1 := hid (show k1.length = 32 from rfl)
  have yk1 := hid k1_bys
  generalize k1 = K1 at *
  have LZ := hid (show (ints .u8 zB).length = 32 from rfl)
  have HS2 := hid hS2
  have HN2 := hid hn2
  have HL1 := hid (show kss.length ≤ 1000000 by omega)
  clear hS2 hn2
  go_enter Tryd.func3, Tryd.ntmps3
  go_wp2_with (first | (refine (KW.out _).mono ?_; rintro e w1 ⟨n, hn1, hn2, rfl, rfl⟩; refine Hid.out ?_))
  refine hid ?_
  clear KW
  have hkk : kept (n : Int) = n := by unfold kept; omega
  go_wp2_with (first | (refine KM.out.mono ?_; rintro e w2 ⟨v2, rfl, hO2, hb2⟩; refine Hid.out ?_))
  refine hid ?_
  clear KM
  obtain ⟨sp3, cap3, rfl, hE, hn3⟩ := hO2.form
  have hG2 : Gb w2 := hG.below hb2 hG.1.1
  have KR := hid (qroot_any w2 hG2 n m hmv hms.shr (hms.srt hmv) (by omega) sp3 cap3 hE)
  have LR := hid (tD_len n 256 m)
  have LR2 := hid (show (ints .u8 (tD n 256 m)).length = 32 by rw [ints_len, LR.out])
  have OR := hid (ints_one .u8 (tD n 256 m))
  clear hO2
  have HTD := hid (show tD n 256 m = tD n 256 m from rfl)
  generalize hTD : tD (n : Int) 256 m = RT at *
  go_wp2_with (first | (refine KR.out.mono ?_; rintro e w3 ⟨rfl, hb3⟩; refine Hid.out ?_))
  refine hid ?_
  have hb3' := hb2.trans (hb3.mono hb2.size)
  go_wp2_with (first
    | (refine wpList_new AD.out LZ.out Tryd.sizeD rfl rfl rfl _ _ rfl rfl (ints .u8 RT) rfl rfl LR2.out OR.out ?_; refine Hid.out ?_))
  refine hid ?_
  have r9 := hnew w3 (.cells (ints .u8 RT).toArray 28)
  have hb4 := hb3'.alloc hb3'.size (.cells (ints .u8 RT).toArray 28)
  have h34 : Below w3.heap.size w3 (w3.alloc (.cells (ints .u8 RT).toArray 28)) := (Below.refl _ _).alloc (Nat.le_refl _) _
  have KA := hid (HS2.out.below hb4 (Nat.le_refl _))
  have hE4 := (hE.below hb3).below h34
  generalize hw4 : w3.alloc (.cells (ints .u8 RT).toArray 28) = w4 at *
  generalize hB9 : w3.heap.size = B9 at *
  clear hw4
  go_wp2_with (first
    | refine wpList_built (by rfl) 30 _ (by rfl) _ (by rfl) _ BK1.out ?_
    | (refine wpList_sliceKy rfl _ rfl (ints .u8 K1) LK1.out rfl ?_; refine Hid.out ?_))
  refine hid ?_
  go_wp2_with (first
    | (at_builtin; refine wpList_appendKeys rfl _ _ rfl K1 lk1.out rfl kss sp2 cap2 rfl KA.out HN2.out HL1.out ?_; intro v6 w6 hO6 hb6; refine Hid.out ?_))
  refine hid ?_
  clear KA HS2 BK1 KR
  have hb6' := hb4.trans (hb6.mono hb4.size)
  have hG6 : Gb w6 := hG.below hb6' hG.1.1
  have hE6 : SrcE w6 sp3 cap3 m := hE4.below hb6
  have r96 := hbel hb6 r9 (hlt r9)
  have hNN : (K1 :: kss).length ≤ 1000000 := by simp; omega
  have hKy : ∀ d ∈ K1 :: kss, Bys d := fun d hd => by
    rcases List.mem_cons.1 hd with rfl | hd
    · exact yk1.out
    · exact hyk d hd
  have hKl := hO6.1
  obtain ⟨kb, kc, rfl, hkb, hkr⟩ := hO6.form0 (by simp)
  clear hO6 hb6 hb4 h34 r9 hb3 hb3' hb2 hE hE4 lk1 LK1 yk1 hyk HL1 HN2
  generalize K1 :: kss = kz at *
  have i2 : (kz.length : Int) ≤ 1000000 := by omega
  have LRd := hid (show (Tryd.prog.info? 28).map (·.size) = some (ints .u8 RT).length by rw [Tryd.sizeD, LR2.out])
  go_wp2_with fail
  go_loopw [10, 11, 12, 13, 14, 15, 16] (fun iv _ _ _ _ _ _ wr => ∃ i : Nat, i ≤ kz.length ∧ iv = .int .i64 i ∧ Below w6.heap.size w6 wr) (fun iv _ _ _ _ _ _ _ => kz.length - (intOf iv).toNat)
  case atStart => exact ⟨0, by omega, rfl, Below.refl _ _⟩
  case round =>
    obtain ⟨i, hi, rfl, hB⟩ := hrel
    by_cases hlt' : i < kz.length
    · have i3 : (i : Int) < (kz.length : Int) := by omega
      have hmem : kz.getD i [] ∈ kz := gD_mem kz [] i hlt'
      have hk := hKl _ hmem
      have yk := hKy _ hmem
      have hik := hkr i hlt'
      generalize kz.getD i [] = kk at *
      have LK := hid (show (Tryd.prog.info? 30).map (·.size) = some (ints .u8 kk).toArray.size by rw [Tryd.sizeKy, ints_size, hk])
      have LKc := hid (show (ints .u8 kk).length = 32 by rw [ints_len, hk])
      have LKi := hid (show (Tryd.prog.info? 30).map (·.size) = some (ints .u8 kk).length by rw [Tryd.sizeKy, ints_len, hk])
      rw [Nat.zero_add] at hik
      have hikr := hid (rng_below hik hB hkb)
      have hGr : Gb wr := hG6.below hB hG6.1.1
      have KZ := hid (zBytes_any wr hGr n m hmv hmy hms.nodup (by omega) sp3 cap3 (hE6.below hB) kk hk yk)
      have KV := hid (fun w1 (g1 : Glob w1) s c h => verify_truth w1 g1 hn1 hn2 hmv hmy hk yk s c h)
      have KL := hid (fun w1 h => look_truth w1 m hmv hms (by omega) sp3 cap3 h kk hk yk)
      have KP := hid (fun w1 (g1 : Glob w1) s c h => path_truth w1 g1 hn1 hn2 hmv hmy hk yk s c h)
      have yV := hid (mV_bys hmy kk)
      generalize encP (proofM (n : Int) m kk) = tt at *
      generalize mV m kk = vV at *
      generalize mF m kk = vF at *
      rw [hTD] at KV KP
      go_wp2_with (first
        | refine wpList_load_mid rfl 30 _ rfl kb (i * 32) rfl (ints .u8 kk) _ hikr.out Tryd.underlying30 rfl LKi.out ?_
        | (refine KZ.out.mono ?_; rintro e wz ⟨vz, rfl, hOz, hbz⟩; refine Hid.out ?_))
      refine hid ?_
      clear KZ hikr
      obtain ⟨sz, cz, rfl, hSz, hnz⟩ := hOz.form
      have hBz := hB.trans (hbz.mono hB.size)
      have d9 : BK w6 wz [(B9, ints .u8 RT, 28)] := ⟨hBz, fun x hx => by
        obtain rfl := List.mem_singleton.1 hx
        exact hbel hBz r96 (hlt r96)⟩
      have hkbz : kb < wz.heap.size := Nat.lt_of_lt_of_le hkb hBz.size
      have hikz := rng_below hik hBz hkb
      go_wp2_with fail
      refine treg11 w6 wz n RT kk tt LR.out hk B9 kb kz.length kc i hlt' (by rw [Nat.zero_add]; exact hikz) hkbz 0 vF vV sz cz hNN hBz.size d9 (hid (fun w1 a1 => KV.out w1 (hG6.1.below (hBz.trans (a1.mono hBz.size)) hG6.1.1) sz cz (hSz.below a1 (Nat.le_refl _)))) ?_
      intro ga s5 c5 w5
      intros
      rename_i dA hbA hga rA hOA
      have hB5 := dA.1
      have hik5 := hid (rng_below hik hB5 hkb)
      have KL5 := hid (KL.out w5 (hE6.below hB5))
      clear hikz hkbz d9 KL
      go_wp2_with (first
        | refine wpList_load_mid rfl 30 _ rfl kb (i * 32) rfl (ints .u8 kk) _ hik5.out Tryd.underlying30 rfl LKi.out ?_
        | (refine KL5.out.mono ?_; rintro e w7 ⟨s7, c7, rfl, hS7, hb7⟩; refine Hid.out ?_))
      refine hid ?_
      have rA7 := hbel hb7 rA (hlt rA)
      have hOA7 := hOA.below hb7 (Nat.le_refl _)
      have fA := cell_ck (C := ansC vF (.slice s5 vV.length c5)) (j := 0) (v := .bool vF) rA7 rfl
      have vA := cell_ck (C := ansC vF (.slice s5 vV.length c5)) (j := 1) (v := .slice s5 vV.length c5) rA7 rfl
      have cA := conv_str w7 vV s5 c5 (Own.srcN hOA7)
      have c7' := conv_str w7 vV s7 c7 hS7
      have hB7 := hB5.trans (hb7.mono hB5.size)
      have hik7 := hid (rng_below hik hB7 hkb)
      have hbz7 := hbA.trans (hb7.mono hbA.size)
      have KP7 := hid (KP.out w7 (hG6.1.below hB7 hG6.1.1) sz cz (hSz.below hbz7 (Nat.le_refl _)))
      clear KL5 hik5 rA rA7 hOA hOA7 KP KV
      go_wp2_with (first
        | refine wpList_load_mid rfl 30 _ rfl kb (i * 32) rfl (ints .u8 kk) _ hik7.out Tryd.underlying30 rfl LKi.out ?_
        | (refine KP7.out.mono ?_; rintro e wp ⟨gl, ol, cl, rfl, hgl, hrl, hbp⟩; refine Hid.out ?_))
      refine hid ?_
      have hBp6 := hid (hB7.trans (hbp.mono hB7.size))
      have r9p := hbel hBp6.out r96 (hlt r96)
      have qE := eqD_self RT LR.out
      have gD := Tryd.guardD
      clear KP7 fA vA cA c7' hik7
      go_wp2_with fail
      refine wp_region_noPanic ?_
      refine wp_region_held_drew (S := (fun w' => Below wp.heap.size wp w')) (by kernel_rfl) (Below.refl _ _).drew (fun hHeld => ?_)
      refine wpAnyH_take (i := 0) (oi := { dst := some 99, op := Op.move (Operand.tmp 13), type := 35, pos := "law.go:408", after := #[], guard := none }) (v := .int .i64 0) rfl (by kernel_rfl) (by kernel_rfl) (by kernel_rfl) (fun _ _ _ h => h) (Or.inl ⟨by rfl, by intro w hS; go_simp⟩) hHeld ?_
      try simp only [Act.put, List.setIfInBounds_toArray, List.set_cons_zero, List.set_cons_succ]
      refine wpAnyH_take (i := 1) (oi := { dst := some 100, op := Op.binOp BinOp.neq 35 (Operand.tmp 99) (Operand.const (Value.int IntKind.i64 0)) 35, type := 4, pos := "law.go:408", after := #[{ on := 0, ground := Ground.data }], guard := none }) (v := .bool false) rfl (by kernel_rfl) (by kernel_rfl) (by kernel_rfl) (fun _ _ _ h => h) (Or.inl ⟨by rfl, by intro w hS; go_simp⟩) hHeld ?_
      try simp only [Act.put, List.setIfInBounds_toArray, List.set_cons_zero, List.set_cons_succ]
      refine wpAnyH_take (i := 2) (oi := { dst := some 101, op := Op.move (Operand.tmp 100), type := 4, pos := "law.go:408", after := #[{ on := 1, ground := Ground.data }], guard := none }) (v := .bool false) rfl (by kernel_rfl) (by kernel_rfl) (by kernel_rfl) (fun _ _ _ h => h) (Or.inl ⟨by rfl, by intro w hS; go_simp⟩) hHeld ?_
      try simp only [Act.put, List.setIfInBounds_toArray, List.set_cons_zero, List.set_cons_succ]
      refine wpAnyH_take (i := 3) (oi := { dst := some 102, op := Op.move (Operand.tmp 16), type := 40, pos := "law.go:408", after := #[{ on := 2, ground := Ground.guard }], guard := some (2, false) }) (v := .slice (some ⟨gl, ol, none⟩) 257 cl) rfl (by kernel_rfl) (by kernel_rfl) (by kernel_rfl) (fun _ _ _ h => h) (Or.inl ⟨by rfl, by intro w hS; go_simp⟩) hHeld ?_
      try simp only [Act.put, List.setIfInBounds_toArray, List.set_cons_zero, List.set_cons_succ]
      refine wpAnyH_take (i := 4) (oi := { dst := some 103, op := Op.call { callee := Callee.builtin Builtin.len, args := #[Operand.tmp 102], argTypes := #[40] }, type := 3, pos := "law.go:408", after := #[{ on := 3, ground := Ground.data }, { on := 2, ground := Ground.guard }], guard := some (2, false) }) (v := .int .i64 257) rfl (by kernel_rfl) (by kernel_rfl) (by kernel_rfl) (fun _ _ _ h => h) (Or.inl ⟨by rfl, by intro w hS; go_simp⟩) hHeld ?_
      try simp only [Act.put, List.setIfInBounds_toArray, List.set_cons_zero, List.set_cons_succ]
      refine wpAnyH_take (i := 5) (oi := { dst := some 104, op := Op.binOp BinOp.neq 3 (Operand.tmp 103) (Operand.const (Value.int IntKind.i64 257)) 3, type := 4, pos := "law.go:408", after := #[{ on := 4, ground := Ground.data }, { on := 2, ground := Ground.guard }], guard := some (2, false) }) (v := .bool false) rfl (by kernel_rfl) (by kernel_rfl) (by kernel_rfl) (fun _ _ _ h => h) (Or.inl ⟨by rfl, by intro w hS; go_simp⟩) hHeld ?_
      try simp only [Act.put, List.setIfInBounds_toArray, List.set_cons_zero, List.set_cons_succ]
      refine wpAnyH_take (i := 6) (oi := { dst := some 105, op := Op.pick (Operand.tmp 101) (Operand.const (Value.bool true)) (Operand.tmp 104), type := 4, pos := "law.go:408", after := #[{ on := 2, ground := Ground.data }, { on := 5, ground := Ground.data }], guard := none }) (v := .bool false) rfl (by kernel_rfl) (by kernel_rfl) (by kernel_rfl) (fun _ _ _ h => h) (Or.inl ⟨by rfl, by intro w hS; go_simp⟩) hHeld ?_
      try simp only [Act.put, List.setIfInBounds_toArray, List.set_cons_zero, List.set_cons_succ]
      refine wpAnyH_take (i := 7) (oi := { dst := some 106, op := Op.move (Operand.tmp 105), type := 4, pos := "law.go:408", after := #[{ on := 6, ground := Ground.data }, { on := 2, ground := Ground.chain }], guard := none }) (v := .bool false) rfl (by kernel_rfl) (by kernel_rfl) (by kernel_rfl) (fun _ _ _ h => h) (Or.inl ⟨by rfl, by intro w hS; go_simp⟩) hHeld ?_
      try simp only [Act.put, List.setIfInBounds_toArray, List.set_cons_zero, List.set_cons_succ]
      refine wpAnyH_take (i := 8) (oi := { dst := some 107, op := Op.move (Operand.tmp 16), type := 40, pos := "law.go:408", after := #[{ on := 7, ground := Ground.guard }], guard := some (7, false) }) (v := .slice (some ⟨gl, ol, none⟩) 257 cl) rfl (by kernel_rfl) (by kernel_rfl) (by kernel_rfl) (fun _ _ _ h => h) (Or.inl ⟨by rfl, by intro w hS; go_simp⟩) hHeld ?_
      try simp only [Act.put, List.setIfInBounds_toArray, List.set_cons_zero, List.set_cons_succ]
      refine wpAnyH_take (i := 11) (oi := { dst := some 110, op := Op.load 28 (Operand.tmp 9), type := 28, pos := "law.go:408", after := #[{ on := 7, ground := Ground.guard }], guard := some (7, false) }) (v := .agg (ints .u8 RT).toArray) rfl (by kernel_rfl) (by kernel_rfl) (by kernel_rfl) (fun _ _ _ h => h) (yieldsIf_load_mid (by rfl) 28 _ rfl B9 (0) rfl (ints .u8 RT) _ (fun w hS => rng (hbel hS r9p (hlt r9p))) Tryd.underlying28 rfl LRd.out) hHeld ?_
      try simp only [Act.put, List.setIfInBounds_toArray, List.set_cons_zero, List.set_cons_succ]
      refine wpAnyH_take (i := 9) (oi := { dst := some 108, op := Op.indexAddr 40 (Operand.tmp 107) (Operand.const (Value.int IntKind.i64 256)), type := 0, pos := "law.go:408", after := #[{ on := 8, ground := Ground.data }, { on := 7, ground := Ground.guard }], guard := some (7, false) }) (v := .pointer (some ⟨gl, ol + 256 * 32, none⟩)) rfl (by kernel_rfl) (by kernel_rfl) (by kernel_rfl) (fun _ _ _ h => h) (Or.inl ⟨by rfl, by intro w hS; go_simp⟩) hHeld ?_
      try simp only [Act.put, List.setIfInBounds_toArray, List.set_cons_zero, List.set_cons_succ]
      refine wpAnyH_take (i := 10) (oi := { dst := some 109, op := Op.load 28 (Operand.tmp 108), type := 28, pos := "law.go:408", after := #[{ on := 9, ground := Ground.data }, { on := 7, ground := Ground.guard }], guard := some (7, false) }) (v := .agg (ints .u8 RT).toArray) rfl (by kernel_rfl) (by kernel_rfl) (by kernel_rfl) (fun _ _ _ h => h) (yieldsIf_load_mid (by rfl) 28 _ rfl gl (ol + 256 * 32) rfl (ints .u8 RT) _ (fun w hS => rng_below hrl hS hgl) Tryd.underlying28 rfl LRd.out) hHeld ?_
      try simp only [Act.put, List.setIfInBounds_toArray, List.set_cons_zero, List.set_cons_succ]
      refine wpAnyH_take (i := 12) (oi := { dst := some 111, op := Op.binOp BinOp.neq 28 (Operand.tmp 109) (Operand.tmp 110) 28, type := 4, pos := "law.go:408", after := #[{ on := 10, ground := Ground.data }, { on := 11, ground := Ground.data }, { on := 7, ground := Ground.guard }], guard := some (7, false) }) (v := .bool false) rfl (by kernel_rfl) (by kernel_rfl) (by kernel_rfl) (fun _ _ _ h => h) (Or.inl ⟨by rfl, by intro w hS; go_simp⟩) hHeld ?_
      try simp only [Act.put, List.setIfInBounds_toArray, List.set_cons_zero, List.set_cons_succ]
      refine wpAnyH_take (i := 13) (oi := { dst := some 112, op := Op.pick (Operand.tmp 106) (Operand.const (Value.bool true)) (Operand.tmp 111), type := 4, pos := "law.go:408", after := #[{ on := 7, ground := Ground.data }, { on := 12, ground := Ground.data }], guard := none }) (v := .bool false) rfl (by kernel_rfl) (by kernel_rfl) (by kernel_rfl) (fun _ _ _ h => h) (Or.inl ⟨by rfl, by intro w hS; go_simp⟩) hHeld ?_
      try simp only [Act.put, List.setIfInBounds_toArray, List.set_cons_zero, List.set_cons_succ]
      refine wpAnyH_done (by kernel_rfl) ?_ _
      refine NoPanic.normal ?_
      have HBp := hid hHeld
      clear hHeld
      go_wp2_with fail
      go_roundw
      case rel => exact ⟨i + 1, by omega, by go_num, hBp6.out.trans (HBp.out.mono hBp6.out.size)⟩
      case measure => simp [intOf]; omega
    · obtain rfl : i = kz.length := by omega
      have i3 : ¬ (kz.length : Int) < (kz.length : Int) := by omega
      have HB := hid (hb6'.trans (hB.mono hb6'.size))
      go_wp2_with fail
      go_ret
      exact ⟨rfl, HB.out⟩
end Go.Proofs.YtbjahdbmkcamoaaDoor
