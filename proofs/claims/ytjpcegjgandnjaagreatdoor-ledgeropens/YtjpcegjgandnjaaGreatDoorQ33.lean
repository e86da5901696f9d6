import Derived.Test.YtjpcegjgandnjaaGreatDoorQ30
import Derived.Deep.DeepCutAuto
namespace Go.Proofs.YtjpcegjgandnjaaGreatDoor
set_option linter.unusedVariables false
set_option linter.unusedSimpArgs false
open Go.RowKit
open Go.Proofs.YtjpcegjgandnjaaGreatDoor.Ca (Ct ct0 ctC argV AS)
attribute [local go_sem ↓] Go.wp_at_zero Go.wp_at_succ

set_option maxRecDepth 100000 in
set_option maxHeartbeats 16000000 in
theorem opens_ny (w : World) (hG : Glob w) (hT : TabP 0 w) (A : Nat → Addr) (hS : Sen w A) (pages wd room again : Int) (n : Nat) (h3 : 3 ≤ n) (h4 : n ≤ 4096) (hp : pages < 3 ∨ 4096 < pages) (hn : n = 3) (hq : (1 ≤ wd ∧ wd ≤ 32) ∧ (1 ≤ room ∧ room ≤ 4096)) :
    Calls Tryz.prog 3 #[.int .i64 pages, .int .i64 wd, .int .i64 room, .int .i64 again] w fun e w' => e = .returned (.bool true) ∧ Below w.heap.size w w' := by
  have HSEN := hid hS
  have HTB := hid hT
  have HGL := hid hG
  have HGN := hid hG.1
  have FLT := hid (fun w1 (hb : Below w.heap.size w w1) b c (nn : Int) (h0 : nn = -1 ∨ nn = 0) (h1 : True) hc i hi hr => flt_any w w1 hb nn (by rcases h0 with rfl | rfl; exact Or.inl rfl; exact hT) A hS b c (by omega) (by omega) hc i hi hr)
  have K1 := hid (create_ref w w (Below.refl _ _) A hS (.pointer none) wd room 0 (by decide) (gcreate_nil w wd room))
  have KN := fun w1 => New_ok w1 n h3 h4
  rw [show ((n : Nat) : Int) = 3 by omega] at KN
  replace KN := hid KN
  have H34 := hid (And.intro h3 h4)
  have HPN := hid (show ((n : Nat) : Int) = 3 by omega)
  have HQ := hid hq
  clear hS hT hG h3 h4 hq
  clear hn
  have hp2 : pages < 3 ∨ ¬ pages < 3 ∧ 4096 < pages := by omega
  clear hp
  go_enter Tryz.func3, Tryz.ntmps3
  go_upto_region 1 with fail
  go_cut [26] from 21 to 26 (fun s26 wx => s26 = .bool true ∧ wx = w)
  case first =>
    rcases hp2 with h1 | ⟨h1, h2⟩
    all_goals (go_wp2_with fail; go_meet; case rel => exact ⟨rfl, rfl⟩)
  case rest =>
  obtain ⟨rfl, hwc⟩ := hcut
  replace hwc := hwc.symm
  subst hwc
  clear hp2
  go_wp2_with fail
  refine K1.out.mono ?_
  rintro e W1 ⟨b1, rfl, hr1, hb1⟩
  have HB1 := hid hb1
  have F1 := hid (FLT.out W1 hb1 b1 createS (-1) (by decide) (by decide) (by decide) 0 (by decide) hr1)
  clear hr1 hb1 K1
  go_wp2_with fail
  refine F1.out.mono ?_
  rintro e W1b ⟨rfl, hb⟩
  have HB1b := hid (HB1.out.trans (hb.mono HB1.out.size))
  clear hb F1 HB1
  have K2 := hid (open_ref W1b w HB1b.out A HSEN.out (.pointer none) room 0 (by decide) (gopen_nil W1b room))
  go_wp2_with fail
  refine K2.out.mono ?_
  rintro e W2 ⟨b2, rfl, hr2, hb2⟩
  have HB2 := hid (HB1b.out.trans (hb2.mono HB1b.out.size))
  have F2 := hid (FLT.out W2 HB2.out b2 openS (-1) (by decide) (by decide) (by decide) 0 (by decide) hr2)
  clear hr2 hb2 K2 HB1b
  go_wp2_with fail
  refine F2.out.mono ?_
  rintro e W2b ⟨rfl, hb⟩
  have HB2b := hid (HB2.out.trans (hb.mono HB2.out.size))
  clear hb F2 HB2
  go_wp2_with fail
  refine (KN.out W2b).mono ?_
  rintro e W3 ⟨p, F, rfl, hd3, hb3⟩
  have base1 := HB2b.out.size
  have HB3 := hid (HB2b.out.trans (hb3.mono base1))
  have hBW3 := hb3.size
  obtain ⟨B, hB⟩ : ∃ B, B = W2b.heap.size := ⟨_, rfl⟩
  rw [← hB] at hd3 hb3 hBW3
  have HB0 := hid (show w.heap.size ≤ B by omega)
  obtain ⟨Z, hZ⟩ : ∃ Z : List Int, Z = List.replicate (256 * n) 0 := ⟨_, rfl⟩
  rw [← hZ] at hd3
  have npN : (newD Z).np = n := by
    show Z.length / 256 = n
    rw [hZ, List.length_replicate]; omega
  have pz : ∀ q, q < n → pgO Z q = zz 256 := fun q hq => by rw [hZ]; exact pgO_zero n q hq
  have BL0 : Blank (pgO Z 0) (pgO Z 1) := by rw [pz 0 (by have := H34.out; omega), pz 1 (by have := H34.out; omega)]; exact zz_blank
  have K3 := hid (open_blank W3 w HB3.out A HSEN.out B F p (newD Z) hd3 HB0.out hBW3 rfl (by show (0 : Int) < _; decide) 9 (by decide) (by rw [Blank.chooses (D := newD Z) rfl BL0]; rfl) (by decide) 1 (by decide))
  have NPN := hid npN
  have HBL := hid BL0
  clear hd3 hb3 hB hZ npN pz BL0 KN HB2b
  go_wp2_with fail
  refine K3.out.mono ?_
  rintro e W4 ⟨b4, rfl, hr4, hd4, hb4⟩
  have s4 := hb4.size
  have HB4 := hid (HB3.out.trans (hb4.mono HB0.out))
  have F4 := hid (FLT.out W4 HB4.out b4 openS (-1) (by decide) (by decide) (by decide) 9 (by decide) hr4)
  have hBW4 : B ≤ W4.heap.size := Nat.le_trans hBW3 s4
  have HD4 := hid hd4
  clear hr4 hd4 hb4 K3 HB3 s4 hBW3
  go_wp2_with fail
  refine F4.out.mono ?_
  rintro e W4b ⟨rfl, hb⟩
  have HB4b := hid (HB4.out.trans (hb.mono HB4.out.size))
  have HD4b := hid (HD4.out.below hb)
  have hBW4b : B ≤ W4b.heap.size := Nat.le_trans hBW4 hb.size
  clear hb F4 HB4 HD4 hBW4
  have RN : Rest { newD Z with reads := (newD Z).reads + 2 } n 0 := ⟨HD4b.out.ok, NPN.out, rfl, rfl, rfl, rfl, (by show (0 : Int) + 2 ≤ 1000; decide), (by show (0 : Int) ≤ 1000; decide), (by show (0 : Int) ≤ 1000; decide)⟩
  have K6 := hid (lcreate_ok W4b B F p _ HD4b.out hBW4b n RN wd HQ.out.1 HBL.out (by show (0 : Int) + 2 ≤ 800; decide) room HQ.out.2 (HGL.out.below HB4b.out HGN.out) (Nat.le_trans HGN.out HB0.out))
  obtain ⟨⟨q1, q2⟩, q3, q4⟩ := HQ.out
  have q1n : ¬ wd < 1 := by omega
  have q2n : ¬ 32 < wd := by omega
  have q3n : ¬ room < 1 := by omega
  have q4n : ¬ 4096 < room := by omega
  have HBp := hid HB4b.out
  have hBWp := hBW4b
  clear RN HD4b HB4b
  go_wp2_with fail
  refine K6.out.mono ?_
  rintro e W6 ⟨l, ⟨S, hLv, hrd6, hb6⟩, rfl⟩
  have HRD := hid (show S.D.reads ≤ 800 ∧ S.D.epoch ≤ 800 by
    obtain ⟨a1, a2⟩ := hrd6
    have a3 : S.D.reads ≤ (0 : Int) + 2 + 4 := a1
    omega)
  clear hrd6
  have HLV := hid hLv
  have HB6 := hid (HBp.out.trans (hb6.mono HB0.out))
  have hBW6 : B ≤ W6.heap.size := Nat.le_trans hBWp hb6.size
  clear hLv hb6 K6
  have K7 := info_any W6 B S [] 0 HLV.out.ls l (recE wd) (recE_ok _) HLV.out.ld HLV.out.nf
  have npS : (S.D.np : Int) = 3 := by rw [HLV.out.hs.np]; exact HPN.out
  rw [HLV.out.se, npS] at K7
  obtain ⟨I, hI⟩ : ∃ I, I = inC (fS n wd 1) (recE wd) 3 := ⟨_, rfl⟩
  rw [← hI] at K7
  have i0 := hid (show I[0]? = some (.int .i64 wd) by rw [hI]; rfl)
  have i1 := hid (show I[1]? = some (.int .i64 0) by rw [hI]; rfl)
  have i2 := hid (show I[2]? = some (.int .i64 0) by rw [hI]; rfl)
  have i3 := hid (show I[3]? = some (.int .i64 2) by rw [hI]; rfl)
  have i4 := hid (show I[4]? = some (.int .i64 3) by rw [hI]; rfl)
  have i5 := hid (show I[5]? = some (.int .i64 0) by rw [hI]; rfl)
  obtain ⟨sm, hsm⟩ : ∃ sm, sm = emptyD wd 256 := ⟨_, rfl⟩
  have HSM := hid (show sm.length = 32 by rw [hsm]; exact emptyD_len _ _)
  have LSM := hid (show (ints .u8 sm).length = 32 by rw [ints_len]; exact HSM.out)
  have i6 := hid (show ∀ j v, (ints .u8 sm)[j]? = some v → I[6 + j]? = some v from fun j v hv => by
    rw [hI]
    have := mid_at [.int .i64 wd, .int .i64 0, .int .i64 0, .int .i64 2, .int .i64 3, .int .i64 0] (ints .u8 sm) [] 6 j rfl v hv
    rw [List.append_nil] at this
    rw [hsm] at this
    exact this)
  have IL := hid (show I.length = 38 by rw [hI]; exact inC_len _ (recE_ok _) _)
  have IO := hid (show ∀ v ∈ I, v.oneCell' = true by rw [hI]; exact inC_one _ _ _)
  have EQI := hid (fun w => show (binOp .eql 36 (.agg I.toArray) (.agg I.toArray)).run Tryz.prog w = .ok (.bool true) w by rw [hI]; exact eqInfo _ _ _ (recE_ok wd).sm w)
  have HI := hid hI
  have HSMD := hid hsm
  replace K7 := hid K7
  have AS := hid (fun (w : World) (ops : Array Oper) (rest : List Oper) (o1 o2 : Oper) (a : Act) (Q : Exit → Act → World → Prop) => @wpList_new Tryz.prog 36 in0 38 allocIn rfl Tryz.sizeIn ops rest o1 o2 a w Q)
  clear hI hsm npS
  go_wp2_with fail
  refine K7.out.mono ?_
  rintro e W6b ⟨rfl, hb6b⟩
  have HB6b := hid (HB6.out.trans (hb6b.mono HB6.out.size))
  have HLVb := hid (HLV.out.below hb6b)
  have hBW6b : B ≤ W6b.heap.size := Nat.le_trans hBW6 hb6b.size
  clear hb6b K7 HB6 HLV hBW6
  go_wp2_with (first
    | (refine AS.out _ _ _ _ _ _ _ rfl rfl rfl _ _ rfl rfl I rfl rfl IL.out IO.out ?_; refine Hid.out ?_))
  refine hid ?_
  have B67 := below_new W6b (.cells I.toArray 36)
  have R7 := hnew W6b (.cells I.toArray 36)
  have HB7 := hid (HB6b.out.trans (B67.mono HB6b.out.size))
  have HLV7 := hid (HLVb.out.below B67)
  have hBW7 : B ≤ (W6b.alloc (.cells I.toArray 36)).heap.size := Nat.le_trans hBW6b B67.size
  clear B67 HB6b HLVb hBW6b
  generalize W6b.heap.size = B15 at *
  generalize W6b.alloc (.cells I.toArray 36) = W7 at *
  have HR7 := hid R7
  have C0 := hid (show W7.cell? ⟨B15, 0, none⟩ = some (.int .i64 (wd)) by rw [cell_of_row _ _ _ _ _ _ R7]; simpa using i0.out)
  have C1 := hid (show W7.cell? ⟨B15, 1, none⟩ = some (.int .i64 0) by rw [cell_of_row _ _ _ _ _ _ R7]; simpa using i1.out)
  have C2 := hid (show W7.cell? ⟨B15, 2, none⟩ = some (.int .i64 0) by rw [cell_of_row _ _ _ _ _ _ R7]; simpa using i2.out)
  have C3 := hid (show W7.cell? ⟨B15, 3, none⟩ = some (.int .i64 2) by rw [cell_of_row _ _ _ _ _ _ R7]; simpa using i3.out)
  have C4 := hid (show W7.cell? ⟨B15, 4, none⟩ = some (.int .i64 (3)) by rw [cell_of_row _ _ _ _ _ _ R7]; simpa using i4.out)
  have C5 := hid (show W7.cell? ⟨B15, 5, none⟩ = some (.int .i64 0) by rw [cell_of_row _ _ _ _ _ _ R7]; simpa using i5.out)
  have RG := hid (show W7.rangeAt B15 6 (ints .u8 sm) from fun j v hv => by rw [cell_of_row _ _ _ _ _ _ R7]; simpa using i6.out j v hv)
  clear R7 i0 i1 i2 i3 i4 i5 i6
  have KE := fun w9 (hb : Below W7.heap.size W7 w9) => empty_any w9 (HGL.out.below (HB7.out.trans (hb.mono HB7.out.size)) HGN.out) wd 256
  rw [show hgt 256 = 256 from rfl, ← HSMD.out] at KE
  replace KE := hid KE
  go_wp2_with fail
  refine wp_region_noPanic ?_
  refine wp_region_held_drew (S := fun w' => Below W7.heap.size W7 w') (by kernel_rfl) (Below.refl _ _).drew (fun hHeld => ?_)
  refine wpAnyH_take (i := 0) (oi := { dst := some 111, op := Op.move (Operand.tmp 10), type := 24, pos := "outright.go:114", after := #[], guard := none }) (v := .nilIface) rfl (by kernel_rfl) (by kernel_rfl) (by kernel_rfl) (fun _ _ _ h => h) (Or.inl ⟨by rfl, by intro w hS; go_simp⟩) hHeld ?_
  try simp only [Act.put, List.setIfInBounds_toArray, List.set_cons_zero, List.set_cons_succ]
  refine wpAnyH_take (i := 1) (oi := { dst := some 112, op := Op.binOp BinOp.neq 24 (Operand.tmp 111) (Operand.const Value.nilIface) 24, type := 4, pos := "outright.go:114", after := #[{ on := 0, ground := Ground.data }], guard := none }) (v := .bool false) rfl (by kernel_rfl) (by kernel_rfl) (by kernel_rfl) (fun _ _ _ h => h) (Or.inl ⟨by rfl, by intro w hS; go_simp⟩) hHeld ?_
  try simp only [Act.put, List.setIfInBounds_toArray, List.set_cons_zero, List.set_cons_succ]
  refine wpAnyH_take (i := 2) (oi := { dst := some 113, op := Op.move (Operand.tmp 112), type := 4, pos := "outright.go:114", after := #[{ on := 1, ground := Ground.data }], guard := none }) (v := .bool false) rfl (by kernel_rfl) (by kernel_rfl) (by kernel_rfl) (fun _ _ _ h => h) (Or.inl ⟨by rfl, by intro w hS; go_simp⟩) hHeld ?_
  try simp only [Act.put, List.setIfInBounds_toArray, List.set_cons_zero, List.set_cons_succ]
  refine wpAnyH_take (i := 3) (oi := { dst := some 114, op := Op.fieldAddr 36 (Operand.tmp 15) 0, type := 0, pos := "outright.go:114", after := #[{ on := 2, ground := Ground.guard }], guard := some (2, false) }) (v := .pointer (some ⟨B15, 0, none⟩)) rfl (by kernel_rfl) (by kernel_rfl) (by kernel_rfl) (fun _ _ _ h => h) (Or.inl ⟨by rfl, by intro w hS; go_simp⟩) hHeld ?_
  try simp only [Act.put, List.setIfInBounds_toArray, List.set_cons_zero, List.set_cons_succ]
  refine wpAnyH_take (i := 5) (oi := { dst := some 116, op := Op.move (Operand.tmp 1), type := 3, pos := "outright.go:114", after := #[{ on := 2, ground := Ground.guard }], guard := some (2, false) }) (v := .int .i64 (wd)) rfl (by kernel_rfl) (by kernel_rfl) (by kernel_rfl) (fun _ _ _ h => h) (Or.inl ⟨by rfl, by intro w hS; go_simp⟩) hHeld ?_
  try simp only [Act.put, List.setIfInBounds_toArray, List.set_cons_zero, List.set_cons_succ]
  refine wpAnyH_take (i := 4) (oi := { dst := some 115, op := Op.load 3 (Operand.tmp 114), type := 3, pos := "outright.go:114", after := #[{ on := 3, ground := Ground.data }, { on := 2, ground := Ground.guard }], guard := some (2, false) }) (v := .int .i64 wd) rfl (by kernel_rfl) (by kernel_rfl) (by kernel_rfl) (fun _ _ _ h => h) (Or.inl ⟨by rfl, by intro w hS; have hc := (hS.cell (block_lt_of_cell C0.out)).trans C0.out; go_simp⟩) hHeld ?_
  try simp only [Act.put, List.setIfInBounds_toArray, List.set_cons_zero, List.set_cons_succ]
  refine wpAnyH_take (i := 6) (oi := { dst := some 117, op := Op.binOp BinOp.neq 3 (Operand.tmp 115) (Operand.tmp 116) 3, type := 4, pos := "outright.go:114", after := #[{ on := 4, ground := Ground.data }, { on := 5, ground := Ground.data }, { on := 2, ground := Ground.guard }], guard := some (2, false) }) (v := .bool false) rfl (by kernel_rfl) (by kernel_rfl) (by kernel_rfl) (fun _ _ _ h => h) (Or.inl ⟨by rfl, by intro w hS; go_simp⟩) hHeld ?_
  try simp only [Act.put, List.setIfInBounds_toArray, List.set_cons_zero, List.set_cons_succ]
  refine wpAnyH_take (i := 7) (oi := { dst := some 118, op := Op.pick (Operand.tmp 113) (Operand.const (Value.bool true)) (Operand.tmp 117), type := 4, pos := "outright.go:114", after := #[{ on := 2, ground := Ground.data }, { on := 6, ground := Ground.data }], guard := none }) (v := .bool false) rfl (by kernel_rfl) (by kernel_rfl) (by kernel_rfl) (fun _ _ _ h => h) (Or.inl ⟨by rfl, by intro w hS; go_simp⟩) hHeld ?_
  try simp only [Act.put, List.setIfInBounds_toArray, List.set_cons_zero, List.set_cons_succ]
  refine wpAnyH_take (i := 8) (oi := { dst := some 119, op := Op.move (Operand.tmp 118), type := 4, pos := "outright.go:114", after := #[{ on := 7, ground := Ground.data }, { on := 2, ground := Ground.chain }], guard := none }) (v := .bool false) rfl (by kernel_rfl) (by kernel_rfl) (by kernel_rfl) (fun _ _ _ h => h) (Or.inl ⟨by rfl, by intro w hS; go_simp⟩) hHeld ?_
  try simp only [Act.put, List.setIfInBounds_toArray, List.set_cons_zero, List.set_cons_succ]
  refine wpAnyH_take (i := 9) (oi := { dst := some 120, op := Op.fieldAddr 36 (Operand.tmp 15) 1, type := 0, pos := "outright.go:114", after := #[{ on := 8, ground := Ground.guard }], guard := some (8, false) }) (v := .pointer (some ⟨B15, 1, none⟩)) rfl (by kernel_rfl) (by kernel_rfl) (by kernel_rfl) (fun _ _ _ h => h) (Or.inl ⟨by rfl, by intro w hS; go_simp⟩) hHeld ?_
  try simp only [Act.put, List.setIfInBounds_toArray, List.set_cons_zero, List.set_cons_succ]
  refine wpAnyH_take (i := 10) (oi := { dst := some 121, op := Op.load 3 (Operand.tmp 120), type := 3, pos := "outright.go:114", after := #[{ on := 9, ground := Ground.data }, { on := 8, ground := Ground.guard }], guard := some (8, false) }) (v := .int .i64 0) rfl (by kernel_rfl) (by kernel_rfl) (by kernel_rfl) (fun _ _ _ h => h) (Or.inl ⟨by rfl, by intro w hS; have hc := (hS.cell (block_lt_of_cell C1.out)).trans C1.out; go_simp⟩) hHeld ?_
  try simp only [Act.put, List.setIfInBounds_toArray, List.set_cons_zero, List.set_cons_succ]
  refine wpAnyH_take (i := 11) (oi := { dst := some 122, op := Op.binOp BinOp.neq 3 (Operand.tmp 121) (Operand.const (Value.int IntKind.i64 0)) 3, type := 4, pos := "outright.go:114", after := #[{ on := 10, ground := Ground.data }, { on := 8, ground := Ground.guard }], guard := some (8, false) }) (v := .bool false) rfl (by kernel_rfl) (by kernel_rfl) (by kernel_rfl) (fun _ _ _ h => h) (Or.inl ⟨by rfl, by intro w hS; go_simp⟩) hHeld ?_
  try simp only [Act.put, List.setIfInBounds_toArray, List.set_cons_zero, List.set_cons_succ]
  refine wpAnyH_take (i := 12) (oi := { dst := some 123, op := Op.pick (Operand.tmp 119) (Operand.const (Value.bool true)) (Operand.tmp 122), type := 4, pos := "outright.go:114", after := #[{ on := 8, ground := Ground.data }, { on := 11, ground := Ground.data }], guard := none }) (v := .bool false) rfl (by kernel_rfl) (by kernel_rfl) (by kernel_rfl) (fun _ _ _ h => h) (Or.inl ⟨by rfl, by intro w hS; go_simp⟩) hHeld ?_
  try simp only [Act.put, List.setIfInBounds_toArray, List.set_cons_zero, List.set_cons_succ]
  refine wpAnyH_take (i := 13) (oi := { dst := some 124, op := Op.move (Operand.tmp 123), type := 4, pos := "outright.go:114", after := #[{ on := 12, ground := Ground.data }, { on := 8, ground := Ground.chain }], guard := none }) (v := .bool false) rfl (by kernel_rfl) (by kernel_rfl) (by kernel_rfl) (fun _ _ _ h => h) (Or.inl ⟨by rfl, by intro w hS; go_simp⟩) hHeld ?_
  try simp only [Act.put, List.setIfInBounds_toArray, List.set_cons_zero, List.set_cons_succ]
  refine wpAnyH_take (i := 14) (oi := { dst := some 125, op := Op.fieldAddr 36 (Operand.tmp 15) 2, type := 0, pos := "outright.go:114", after := #[{ on := 13, ground := Ground.guard }], guard := some (13, false) }) (v := .pointer (some ⟨B15, 2, none⟩)) rfl (by kernel_rfl) (by kernel_rfl) (by kernel_rfl) (fun _ _ _ h => h) (Or.inl ⟨by rfl, by intro w hS; go_simp⟩) hHeld ?_
  try simp only [Act.put, List.setIfInBounds_toArray, List.set_cons_zero, List.set_cons_succ]
  refine wpAnyH_take (i := 15) (oi := { dst := some 126, op := Op.load 3 (Operand.tmp 125), type := 3, pos := "outright.go:114", after := #[{ on := 14, ground := Ground.data }, { on := 13, ground := Ground.guard }], guard := some (13, false) }) (v := .int .i64 0) rfl (by kernel_rfl) (by kernel_rfl) (by kernel_rfl) (fun _ _ _ h => h) (Or.inl ⟨by rfl, by intro w hS; have hc := (hS.cell (block_lt_of_cell C2.out)).trans C2.out; go_simp⟩) hHeld ?_
  try simp only [Act.put, List.setIfInBounds_toArray, List.set_cons_zero, List.set_cons_succ]
  refine wpAnyH_take (i := 16) (oi := { dst := some 127, op := Op.binOp BinOp.neq 3 (Operand.tmp 126) (Operand.const (Value.int IntKind.i64 0)) 3, type := 4, pos := "outright.go:114", after := #[{ on := 15, ground := Ground.data }, { on := 13, ground := Ground.guard }], guard := some (13, false) }) (v := .bool false) rfl (by kernel_rfl) (by kernel_rfl) (by kernel_rfl) (fun _ _ _ h => h) (Or.inl ⟨by rfl, by intro w hS; go_simp⟩) hHeld ?_
  try simp only [Act.put, List.setIfInBounds_toArray, List.set_cons_zero, List.set_cons_succ]
  refine wpAnyH_take (i := 17) (oi := { dst := some 128, op := Op.pick (Operand.tmp 124) (Operand.const (Value.bool true)) (Operand.tmp 127), type := 4, pos := "outright.go:114", after := #[{ on := 13, ground := Ground.data }, { on := 16, ground := Ground.data }], guard := none }) (v := .bool false) rfl (by kernel_rfl) (by kernel_rfl) (by kernel_rfl) (fun _ _ _ h => h) (Or.inl ⟨by rfl, by intro w hS; go_simp⟩) hHeld ?_
  try simp only [Act.put, List.setIfInBounds_toArray, List.set_cons_zero, List.set_cons_succ]
  refine wpAnyH_take (i := 18) (oi := { dst := some 129, op := Op.move (Operand.tmp 128), type := 4, pos := "outright.go:114", after := #[{ on := 17, ground := Ground.data }, { on := 13, ground := Ground.chain }], guard := none }) (v := .bool false) rfl (by kernel_rfl) (by kernel_rfl) (by kernel_rfl) (fun _ _ _ h => h) (Or.inl ⟨by rfl, by intro w hS; go_simp⟩) hHeld ?_
  try simp only [Act.put, List.setIfInBounds_toArray, List.set_cons_zero, List.set_cons_succ]
  refine wpAnyH_take (i := 19) (oi := { dst := some 130, op := Op.fieldAddr 36 (Operand.tmp 15) 3, type := 0, pos := "outright.go:114", after := #[{ on := 18, ground := Ground.guard }], guard := some (18, false) }) (v := .pointer (some ⟨B15, 3, none⟩)) rfl (by kernel_rfl) (by kernel_rfl) (by kernel_rfl) (fun _ _ _ h => h) (Or.inl ⟨by rfl, by intro w hS; go_simp⟩) hHeld ?_
  try simp only [Act.put, List.setIfInBounds_toArray, List.set_cons_zero, List.set_cons_succ]
  refine wpAnyH_take (i := 20) (oi := { dst := some 131, op := Op.load 3 (Operand.tmp 130), type := 3, pos := "outright.go:114", after := #[{ on := 19, ground := Ground.data }, { on := 18, ground := Ground.guard }], guard := some (18, false) }) (v := .int .i64 2) rfl (by kernel_rfl) (by kernel_rfl) (by kernel_rfl) (fun _ _ _ h => h) (Or.inl ⟨by rfl, by intro w hS; have hc := (hS.cell (block_lt_of_cell C3.out)).trans C3.out; go_simp⟩) hHeld ?_
  try simp only [Act.put, List.setIfInBounds_toArray, List.set_cons_zero, List.set_cons_succ]
  refine wpAnyH_take (i := 21) (oi := { dst := some 132, op := Op.binOp BinOp.neq 3 (Operand.tmp 131) (Operand.const (Value.int IntKind.i64 2)) 3, type := 4, pos := "outright.go:114", after := #[{ on := 20, ground := Ground.data }, { on := 18, ground := Ground.guard }], guard := some (18, false) }) (v := .bool false) rfl (by kernel_rfl) (by kernel_rfl) (by kernel_rfl) (fun _ _ _ h => h) (Or.inl ⟨by rfl, by intro w hS; go_simp⟩) hHeld ?_
  try simp only [Act.put, List.setIfInBounds_toArray, List.set_cons_zero, List.set_cons_succ]
  refine wpAnyH_take (i := 22) (oi := { dst := some 133, op := Op.pick (Operand.tmp 129) (Operand.const (Value.bool true)) (Operand.tmp 132), type := 4, pos := "outright.go:114", after := #[{ on := 18, ground := Ground.data }, { on := 21, ground := Ground.data }], guard := none }) (v := .bool false) rfl (by kernel_rfl) (by kernel_rfl) (by kernel_rfl) (fun _ _ _ h => h) (Or.inl ⟨by rfl, by intro w hS; go_simp⟩) hHeld ?_
  try simp only [Act.put, List.setIfInBounds_toArray, List.set_cons_zero, List.set_cons_succ]
  refine wpAnyH_take (i := 23) (oi := { dst := some 134, op := Op.move (Operand.tmp 133), type := 4, pos := "outright.go:114", after := #[{ on := 22, ground := Ground.data }, { on := 18, ground := Ground.chain }], guard := none }) (v := .bool false) rfl (by kernel_rfl) (by kernel_rfl) (by kernel_rfl) (fun _ _ _ h => h) (Or.inl ⟨by rfl, by intro w hS; go_simp⟩) hHeld ?_
  try simp only [Act.put, List.setIfInBounds_toArray, List.set_cons_zero, List.set_cons_succ]
  refine wpAnyH_take (i := 24) (oi := { dst := some 135, op := Op.fieldAddr 36 (Operand.tmp 15) 4, type := 0, pos := "outright.go:114", after := #[{ on := 23, ground := Ground.guard }], guard := some (23, false) }) (v := .pointer (some ⟨B15, 4, none⟩)) rfl (by kernel_rfl) (by kernel_rfl) (by kernel_rfl) (fun _ _ _ h => h) (Or.inl ⟨by rfl, by intro w hS; go_simp⟩) hHeld ?_
  try simp only [Act.put, List.setIfInBounds_toArray, List.set_cons_zero, List.set_cons_succ]
  refine wpAnyH_take (i := 26) (oi := { dst := some 137, op := Op.move (Operand.tmp 0), type := 3, pos := "outright.go:114", after := #[{ on := 23, ground := Ground.guard }], guard := some (23, false) }) (v := .int .i64 (3)) rfl (by kernel_rfl) (by kernel_rfl) (by kernel_rfl) (fun _ _ _ h => h) (Or.inl ⟨by rfl, by intro w hS; go_simp⟩) hHeld ?_
  try simp only [Act.put, List.setIfInBounds_toArray, List.set_cons_zero, List.set_cons_succ]
  refine wpAnyH_take (i := 25) (oi := { dst := some 136, op := Op.load 3 (Operand.tmp 135), type := 3, pos := "outright.go:114", after := #[{ on := 24, ground := Ground.data }, { on := 23, ground := Ground.guard }], guard := some (23, false) }) (v := .int .i64 3) rfl (by kernel_rfl) (by kernel_rfl) (by kernel_rfl) (fun _ _ _ h => h) (Or.inl ⟨by rfl, by intro w hS; have hc := (hS.cell (block_lt_of_cell C4.out)).trans C4.out; go_simp⟩) hHeld ?_
  try simp only [Act.put, List.setIfInBounds_toArray, List.set_cons_zero, List.set_cons_succ]
  refine wpAnyH_take (i := 27) (oi := { dst := some 138, op := Op.binOp BinOp.neq 3 (Operand.tmp 136) (Operand.tmp 137) 3, type := 4, pos := "outright.go:114", after := #[{ on := 25, ground := Ground.data }, { on := 26, ground := Ground.data }, { on := 23, ground := Ground.guard }], guard := some (23, false) }) (v := .bool false) rfl (by kernel_rfl) (by kernel_rfl) (by kernel_rfl) (fun _ _ _ h => h) (Or.inl ⟨by rfl, by intro w hS; go_simp⟩) hHeld ?_
  try simp only [Act.put, List.setIfInBounds_toArray, List.set_cons_zero, List.set_cons_succ]
  refine wpAnyH_take (i := 28) (oi := { dst := some 139, op := Op.pick (Operand.tmp 134) (Operand.const (Value.bool true)) (Operand.tmp 138), type := 4, pos := "outright.go:114", after := #[{ on := 23, ground := Ground.data }, { on := 27, ground := Ground.data }], guard := none }) (v := .bool false) rfl (by kernel_rfl) (by kernel_rfl) (by kernel_rfl) (fun _ _ _ h => h) (Or.inl ⟨by rfl, by intro w hS; go_simp⟩) hHeld ?_
  try simp only [Act.put, List.setIfInBounds_toArray, List.set_cons_zero, List.set_cons_succ]
  refine wpAnyH_take (i := 29) (oi := { dst := some 140, op := Op.move (Operand.tmp 139), type := 4, pos := "outright.go:114", after := #[{ on := 28, ground := Ground.data }, { on := 23, ground := Ground.chain }], guard := none }) (v := .bool false) rfl (by kernel_rfl) (by kernel_rfl) (by kernel_rfl) (fun _ _ _ h => h) (Or.inl ⟨by rfl, by intro w hS; go_simp⟩) hHeld ?_
  try simp only [Act.put, List.setIfInBounds_toArray, List.set_cons_zero, List.set_cons_succ]
  refine wpAnyH_take (i := 30) (oi := { dst := some 141, op := Op.fieldAddr 36 (Operand.tmp 15) 5, type := 0, pos := "outright.go:114", after := #[{ on := 29, ground := Ground.guard }], guard := some (29, false) }) (v := .pointer (some ⟨B15, 5, none⟩)) rfl (by kernel_rfl) (by kernel_rfl) (by kernel_rfl) (fun _ _ _ h => h) (Or.inl ⟨by rfl, by intro w hS; go_simp⟩) hHeld ?_
  try simp only [Act.put, List.setIfInBounds_toArray, List.set_cons_zero, List.set_cons_succ]
  refine wpAnyH_take (i := 31) (oi := { dst := some 142, op := Op.load 3 (Operand.tmp 141), type := 3, pos := "outright.go:114", after := #[{ on := 30, ground := Ground.data }, { on := 29, ground := Ground.guard }], guard := some (29, false) }) (v := .int .i64 0) rfl (by kernel_rfl) (by kernel_rfl) (by kernel_rfl) (fun _ _ _ h => h) (Or.inl ⟨by rfl, by intro w hS; have hc := (hS.cell (block_lt_of_cell C5.out)).trans C5.out; go_simp⟩) hHeld ?_
  try simp only [Act.put, List.setIfInBounds_toArray, List.set_cons_zero, List.set_cons_succ]
  refine wpAnyH_take (i := 32) (oi := { dst := some 143, op := Op.binOp BinOp.neq 3 (Operand.tmp 142) (Operand.const (Value.int IntKind.i64 0)) 3, type := 4, pos := "outright.go:114", after := #[{ on := 31, ground := Ground.data }, { on := 29, ground := Ground.guard }], guard := some (29, false) }) (v := .bool false) rfl (by kernel_rfl) (by kernel_rfl) (by kernel_rfl) (fun _ _ _ h => h) (Or.inl ⟨by rfl, by intro w hS; go_simp⟩) hHeld ?_
  try simp only [Act.put, List.setIfInBounds_toArray, List.set_cons_zero, List.set_cons_succ]
  refine wpAnyH_take (i := 33) (oi := { dst := some 144, op := Op.pick (Operand.tmp 140) (Operand.const (Value.bool true)) (Operand.tmp 143), type := 4, pos := "outright.go:114", after := #[{ on := 29, ground := Ground.data }, { on := 32, ground := Ground.data }], guard := none }) (v := .bool false) rfl (by kernel_rfl) (by kernel_rfl) (by kernel_rfl) (fun _ _ _ h => h) (Or.inl ⟨by rfl, by intro w hS; go_simp⟩) hHeld ?_
  try simp only [Act.put, List.setIfInBounds_toArray, List.set_cons_zero, List.set_cons_succ]
  refine wpAnyH_take (i := 34) (oi := { dst := some 145, op := Op.move (Operand.tmp 144), type := 4, pos := "outright.go:114", after := #[{ on := 33, ground := Ground.data }, { on := 29, ground := Ground.chain }], guard := none }) (v := .bool false) rfl (by kernel_rfl) (by kernel_rfl) (by kernel_rfl) (fun _ _ _ h => h) (Or.inl ⟨by rfl, by intro w hS; go_simp⟩) hHeld ?_
  try simp only [Act.put, List.setIfInBounds_toArray, List.set_cons_zero, List.set_cons_succ]
  refine wpAnyH_take (i := 35) (oi := { dst := some 146, op := Op.fieldAddr 36 (Operand.tmp 15) 6, type := 0, pos := "outright.go:114", after := #[{ on := 34, ground := Ground.guard }], guard := some (34, false) }) (v := .pointer (some ⟨B15, 6, none⟩)) rfl (by kernel_rfl) (by kernel_rfl) (by kernel_rfl) (fun _ _ _ h => h) (Or.inl ⟨by rfl, by intro w hS; go_simp⟩) hHeld ?_
  try simp only [Act.put, List.setIfInBounds_toArray, List.set_cons_zero, List.set_cons_succ]
  refine wpAnyH_take (i := 37) (oi := { dst := some 148, op := Op.move (Operand.tmp 1), type := 3, pos := "outright.go:114", after := #[{ on := 34, ground := Ground.guard }], guard := some (34, false) }) (v := .int .i64 (wd)) rfl (by kernel_rfl) (by kernel_rfl) (by kernel_rfl) (fun _ _ _ h => h) (Or.inl ⟨by rfl, by intro w hS; go_simp⟩) hHeld ?_
  try simp only [Act.put, List.setIfInBounds_toArray, List.set_cons_zero, List.set_cons_succ]
  refine wpAnyH_take (i := 36) (oi := { dst := some 147, op := Op.load 34 (Operand.tmp 146), type := 34, pos := "outright.go:114", after := #[{ on := 35, ground := Ground.data }, { on := 34, ground := Ground.guard }], guard := some (34, false) }) (v := .agg (ints .u8 sm).toArray) rfl (by kernel_rfl) (by kernel_rfl) (by kernel_rfl) (fun _ _ _ h => h) (yieldsIf_load_mid (by rfl) 34 _ rfl B15 (6) rfl (ints .u8 sm) _ (fun w1 hS => fun j v hv => (hS.cell (block_lt_of_cell (RG.out j v hv))).trans (RG.out j v hv)) Tryz.underlying34 rfl (by rw [LSM.out]; kernel_rfl)) hHeld ?_
  try simp only [Act.put, List.setIfInBounds_toArray, List.set_cons_zero, List.set_cons_succ]
  refine wpAnyH_ready (rs := [38]) (by kernel_rfl) (by simp) ?_
  refine (AllReadyH.cons (o := { dst := some 149, op := Op.call { callee := Callee.value (Operand.func 10), args := #[Operand.tmp 148, Operand.const (Value.int IntKind.i64 256)], argTypes := #[3, 3] }, type := 34, pos := "outright.go:114", after := #[{ on := 37, ground := Ground.data }, { on := 34, ground := Ground.chain }, { on := 34, ground := Ground.guard }], guard := some (34, false) }) rfl (fun K hK => ?_) AllReadyH.nil)
  go_simp
  go_at_call 10
  refine (KE.out _ hHeld).mono ?_
  rintro e w9 ⟨rfl, hb9⟩
  go_wp2_with fail
  refine hK.out _ _ (hHeld.trans (hb9.mono hHeld.size)) (fun hHeld2 => ?_)
  clear hK K hHeld
  have hHeld := hHeld2
  clear hHeld2
  clear hb9
  try simp only [Act.put, List.setIfInBounds_toArray, List.set_cons_zero, List.set_cons_succ]
  refine wpAnyH_take (i := 39) (oi := { dst := some 150, op := Op.binOp BinOp.neq 34 (Operand.tmp 147) (Operand.tmp 149) 34, type := 4, pos := "outright.go:114", after := #[{ on := 36, ground := Ground.data }, { on := 38, ground := Ground.data }, { on := 34, ground := Ground.guard }], guard := some (34, false) }) (v := .bool false) rfl (by kernel_rfl) (by kernel_rfl) (by kernel_rfl) (fun _ _ _ h => h) (Or.inl ⟨by rfl, by intro w hS; (have hnd := eqDgS sm HSM.out w; go_simp)⟩) hHeld ?_
  try simp only [Act.put, List.setIfInBounds_toArray, List.set_cons_zero, List.set_cons_succ]
  refine wpAnyH_take (i := 40) (oi := { dst := some 151, op := Op.pick (Operand.tmp 145) (Operand.const (Value.bool true)) (Operand.tmp 150), type := 4, pos := "outright.go:114", after := #[{ on := 34, ground := Ground.data }, { on := 39, ground := Ground.data }], guard := none }) (v := .bool false) rfl (by kernel_rfl) (by kernel_rfl) (by kernel_rfl) (fun _ _ _ h => h) (Or.inl ⟨by rfl, by intro w hS; go_simp⟩) hHeld ?_
  try simp only [Act.put, List.setIfInBounds_toArray, List.set_cons_zero, List.set_cons_succ]
  refine wpAnyH_done (by kernel_rfl) ?_ _
  refine NoPanic.normal ?_
  have HB8 := hid (HB7.out.trans (hHeld.mono HB7.out.size))
  have HLV8 := hid (HLV7.out.below hHeld)
  have hBW8 : B ≤ w9.heap.size := Nat.le_trans hBW7 hHeld.size
  have HR8 := hid ((hHeld.block _ (hlt HR7.out)).trans HR7.out)
  clear hHeld KE HB7 HLV7 HR7 C0 C1 C2 C3 C4 C5 RG hBW7
  have da8 := HLV8.out.ls.sk.da
  rw [HLV8.out.pe] at da8
  have KC := hid (Counts_any w9 B S.F p S.D da8)
  have AC := hid (fun (w : World) (ops : Array Oper) (rest : List Oper) (o1 o2 : Oper) (a : Act) (Q : Exit → Act → World → Prop) => @wpList_new Tryz.prog 41 co0 4 allocCo rfl Tryz.sizeCo ops rest o1 o2 a w Q)
  clear da8
  go_wp2_with fail
  refine KC.out.mono ?_
  rintro e W9 ⟨rfl, hb9⟩
  have HB9 := hid (HB8.out.trans (hb9.mono HB8.out.size))
  have HLV9 := hid (HLV8.out.below hb9)
  have hBW9 : B ≤ W9.heap.size := Nat.le_trans hBW8 hb9.size
  have HR9 := hid ((hb9.block _ (hlt HR8.out)).trans HR8.out)
  clear hb9 KC HB8 HLV8 HR8 hBW8
  go_wp2_with (first
    | (refine AC.out _ _ _ _ _ _ _ rfl rfl rfl _ _ rfl rfl [.int .i64 S.D.reads, .int .i64 S.D.writes, .int .i64 S.D.syncs, .int .i64 (S.D.ops.length : Nat)] rfl rfl rfl (by intro v hv; simp at hv; rcases hv with rfl | rfl | rfl | rfl <;> rfl) ?_; refine Hid.out ?_))
  refine hid ?_
  have B90 := below_new W9 (.cells ([.int .i64 S.D.reads, .int .i64 S.D.writes, .int .i64 S.D.syncs, .int .i64 (S.D.ops.length : Nat)] : List Value).toArray 41)
  have R10 := hnew W9 (.cells ([.int .i64 S.D.reads, .int .i64 S.D.writes, .int .i64 S.D.syncs, .int .i64 (S.D.ops.length : Nat)] : List Value).toArray 41)
  have HB10 := hid (HB9.out.trans (B90.mono HB9.out.size))
  have HLV10 := hid (HLV9.out.below B90)
  have hBW10 : B ≤ (W9.alloc (.cells ([.int .i64 S.D.reads, .int .i64 S.D.writes, .int .i64 S.D.syncs, .int .i64 (S.D.ops.length : Nat)] : List Value).toArray 41)).heap.size := Nat.le_trans hBW9 B90.size
  have HR10 := hid ((B90.block _ (hlt HR9.out)).trans HR9.out)
  clear B90 HB9 HLV9 hBW9 HR9
  generalize W9.heap.size = B16 at *
  generalize W9.alloc (.cells ([.int .i64 S.D.reads, .int .i64 S.D.writes, .int .i64 S.D.syncs, .int .i64 (S.D.ops.length : Nat)] : List Value).toArray 41) = W10 at *
  have CA1 := hid (show W10.cell? ⟨B16, 1, none⟩ = some (.int .i64 S.D.writes) by rw [cell_of_row _ _ _ _ _ _ R10]; rfl)
  have CA2 := hid (show W10.cell? ⟨B16, 2, none⟩ = some (.int .i64 S.D.syncs) by rw [cell_of_row _ _ _ _ _ _ R10]; rfl)
  have HRC := hid R10
  clear R10
  by_cases ha : 1 ≤ again ∧ again ≤ 4096
  · have KO := hid (lopen_again W10 B p n wd S l HLV10.out hBW10 HRD.out.1 HRD.out.2 again ha (HGL.out.below HB10.out HGN.out) (Nat.le_trans HGN.out HB0.out))
    have a1 : ¬ again < 1 := by omega
    have a2 : ¬ 4096 < again := by omega
    clear ha
    go_wp2_with fail
    refine KO.out.mono ?_
    rintro e W11 ⟨l2, ⟨S2, hLv2, hSt, hD2, hfr, hb11⟩, rfl⟩
    have HB11 := hid (HB10.out.trans (hb11.mono HB0.out))
    have HLV11 := hid hLv2
    have HST11 := hid hSt
    have hBW11 : B ≤ W11.heap.size := Nat.le_trans hBW10 hb11.size
    have HLL := hid (show B ≤ l from HLV10.out.bl)
    have daX := HLV10.out.ls.sk.da
    rw [HLV10.out.pe] at daX
    have HR11 := hid ((hfr.keep HR10.out (daX.not_in HR10.out (by decide) (by decide) (by decide))))
    have r16 := HRC.out
    have HRC11 := hid (hfr.keep r16 (daX.not_in r16 (by decide) (by decide) (by decide)))
    have dc := Counts_any W11 B S2.F p S2.D hSt.da
    rw [show S2.D.writes = S.D.writes by rw [hD2], show S2.D.syncs = S.D.syncs by rw [hD2], show ((S2.D.ops.length : Nat) : Int) = 0 by rw [hLv2.hs.ops]; rfl] at dc
    have KC := hid dc
    clear hLv2 hSt hD2 hfr hb11 daX r16 dc KO HB10 HLV10 hBW10 HR10 HRC CA1 CA2
    go_wp2_with fail
    refine KC.out.mono ?_
    rintro e W12 ⟨rfl, hb12⟩
    have HB12 := hid (HB11.out.trans (hb12.mono HB11.out.size))
    have HLV12 := hid (HLV11.out.below hb12)
    have HST12 := hid (HST11.out.below hb12)
    have HR12 := hid ((hb12.block _ (hlt HR11.out)).trans HR11.out)
    have HRC12 := hid ((hb12.block _ (hlt HRC11.out)).trans HRC11.out)
    clear hb12 KC HB11 HLV11 HST11 HR11 HRC11
    go_wp2_with (first
    | (refine AC.out _ _ _ _ _ _ _ rfl rfl rfl _ _ rfl rfl [.int .i64 S2.D.reads, .int .i64 S.D.writes, .int .i64 S.D.syncs, .int .i64 0] rfl rfl rfl (by intro v hv; simp at hv; rcases hv with rfl | rfl | rfl | rfl <;> rfl) ?_; refine Hid.out ?_))
    refine hid ?_
    have B120 := below_new W12 (.cells ([.int .i64 S2.D.reads, .int .i64 S.D.writes, .int .i64 S.D.syncs, .int .i64 0] : List Value).toArray 41)
    have R13 := hnew W12 (.cells ([.int .i64 S2.D.reads, .int .i64 S.D.writes, .int .i64 S.D.syncs, .int .i64 0] : List Value).toArray 41)
    have HB13 := hid (HB12.out.trans (B120.mono HB12.out.size))
    have HLV13 := hid (HLV12.out.below B120)
    have HST13 := hid (HST12.out.below B120)
    have HR13 := hid ((B120.block _ (hlt HR12.out)).trans HR12.out)
    have rc13 := (B120.block _ (hlt HRC12.out)).trans HRC12.out
    clear B120 HB12 HLV12 HST12 HR12 HRC12
    generalize W12.heap.size = B18 at *
    generalize W12.alloc (.cells ([.int .i64 S2.D.reads, .int .i64 S.D.writes, .int .i64 S.D.syncs, .int .i64 0] : List Value).toArray 41) = W13 at *
    have ca1 : W13.cell? ⟨B16, 1, none⟩ = some (.int .i64 S.D.writes) := by rw [cell_of_row _ _ _ _ _ _ rc13]; rfl
    have ca2 : W13.cell? ⟨B16, 2, none⟩ = some (.int .i64 S.D.syncs) := by rw [cell_of_row _ _ _ _ _ _ rc13]; rfl
    have cb1 : W13.cell? ⟨B18, 1, none⟩ = some (.int .i64 S.D.writes) := by rw [cell_of_row _ _ _ _ _ _ R13]; rfl
    have cb2 : W13.cell? ⟨B18, 2, none⟩ = some (.int .i64 S.D.syncs) := by rw [cell_of_row _ _ _ _ _ _ R13]; rfl
    have cb3 : W13.cell? ⟨B18, 3, none⟩ = some (.int .i64 0) := by rw [cell_of_row _ _ _ _ _ _ R13]; rfl
    clear rc13 R13
    have hbA : ∀ g, g < 20 → (A g).block ≠ l := fun g hg e => by
      have h1 : (A g).block < w.heap.size := block_lt_of_cell (HSEN.out.text g hg)
      have h2 := HLL.out
      have h3 := HB0.out
      omega
    have KR := hid (root_dead W13 l S.st (recE wd) HST13.out.ld A (HSEN.out.mono HB13.out) ⟨hbA, by have := HGN.out; have := HLL.out; have := HB0.out; omega⟩ 2 (by decide) (by decide) 0 HST13.out.live)
    clear hbA
    go_wp2_with fail
    refine KR.out.mono ?_
    rintro e W14 ⟨b14, rfl, hr14, hb14⟩
    have HB14 := hid (HB13.out.trans (hb14.mono HB13.out.size))
    have HLV14 := hid (HLV13.out.below hb14)
    have HR14 := hid ((hb14.block _ (hlt HR13.out)).trans HR13.out)
    have HRF14 := hid hr14
    clear hr14 hb14 KR HB13 HLV13 HST13 HR13 ca1 ca2 cb1 cb2 cb3
    have K15 := info_any W14 B S2 [] 0 HLV14.out.ls l2 (recE wd) (recE_ok _) HLV14.out.ld HLV14.out.nf
    have npS2 : (S2.D.np : Int) = 3 := by rw [HLV14.out.hs.np]; exact HPN.out
    rw [HLV14.out.se, npS2, ← HI.out] at K15
    replace K15 := hid K15
    clear npS2
    go_wp2_with fail
    refine K15.out.mono ?_
    rintro e W15 ⟨rfl, hb15⟩
    have HB15 := hid (HB14.out.trans (hb15.mono HB14.out.size))
    have HR15 := hid ((hb15.block _ (hlt HR14.out)).trans HR14.out)
    have HRF15 := hid ((hb15.block _ (hlt HRF14.out)).trans HRF14.out)
    clear hb15 K15 HB14 HR14 HRF14 HLV14
    go_wp2_with (first
      | (refine AS.out _ _ _ _ _ _ _ rfl rfl rfl _ _ rfl rfl I rfl rfl IL.out IO.out ?_; refine Hid.out ?_))
    refine hid ?_
    have B150 := below_new W15 (.cells I.toArray 36)
    have HR19 := hid (hnew W15 (.cells I.toArray 36))
    have HB16 := hid (HB15.out.trans (B150.mono HB15.out.size))
    have HR16 := hid ((B150.block _ (hlt HR15.out)).trans HR15.out)
    have HRF16 := hid ((B150.block _ (hlt HRF15.out)).trans HRF15.out)
    clear B150 HB15 HR15 HRF15
    generalize W15.heap.size = B19 at *
    generalize W15.alloc (.cells I.toArray 36) = W16 at *
    have F16 := hid (FLT.out W16 HB16.out b14 rootS 0 (by decide) (by decide) (by decide) 2 (by decide) HRF16.out)
    have hEQ := EQI.out
    have IL2 := hid (show (Tryz.prog.info? 36).map (·.size) = some I.toArray.size by rw [List.size_toArray, IL.out]; exact Tryz.sizeIn)
    generalize I.toArray = IA at *
    go_wp2_with fail
    refine F16.out.mono ?_
    rintro e W17 ⟨rfl, hb17⟩
    have HB17 := hid (HB16.out.trans (hb17.mono HB16.out.size))
    have HR17 := hid ((hb17.block _ (hlt HR16.out)).trans HR16.out)
    have HR18 := hid ((hb17.block _ (hlt HR19.out)).trans HR19.out)
    clear hb17 F16 HB16 HR16 HRF16 HR19
    go_wp2_with (first
      | (refine wpList_load_row_w (by rfl) 36 (.tmp 15) rfl B15 rfl 36 _ (0, 0) _ HR17.out Tryz.underlying36 rfl IL2.out ?_)
      | (refine wpList_load_row_w (by rfl) 36 (.tmp 19) rfl B19 rfl 36 _ (0, 0) _ HR18.out Tryz.underlying36 rfl IL2.out ?_))
    go_ret
    exact ⟨rfl, HB17.out⟩
  · have daX := HLV10.out.ls.sk.da
    rw [HLV10.out.pe] at daX
    have KO := hid (open_ref W10 w HB10.out A HSEN.out (.pointer (some ⟨p, 0, none⟩)) again 0 (by decide) (gopen_room W10 B S.F p S.D daX HLV10.out.hs.pw again ha))
    have hag : again < 1 ∨ (¬ again < 1 ∧ 4096 < again) := by omega
    clear ha
    go_wp2_with fail
    refine KO.out.mono ?_
    rintro e W11 ⟨b11, rfl, hr11, hb11⟩
    have HB11 := hid (HB10.out.trans (hb11.mono HB10.out.size))
    have da11 := daX.below hb11
    have HRF11 := hid hr11
    have HRC11 := hid ((hb11.block _ (hlt HRC.out)).trans HRC.out)
    have dc := Counts_any W11 B S.F p S.D da11
    rw [show ((S.D.ops.length : Nat) : Int) = 0 by rw [HLV10.out.hs.ops]; rfl] at dc
    have KC := hid dc
    clear hr11 hb11 daX da11 dc KO HB10 HLV10 hBW10 HR10 HRC CA1 CA2
    go_wp2_with fail
    refine KC.out.mono ?_
    rintro e W12 ⟨rfl, hb12⟩
    have HB12 := hid (HB11.out.trans (hb12.mono HB11.out.size))
    have HRF12 := hid ((hb12.block _ (hlt HRF11.out)).trans HRF11.out)
    have HRC12 := hid ((hb12.block _ (hlt HRC11.out)).trans HRC11.out)
    clear hb12 KC HB11 HRF11 HRC11
    go_wp2_with (first
    | (refine AC.out _ _ _ _ _ _ _ rfl rfl rfl _ _ rfl rfl [.int .i64 S.D.reads, .int .i64 S.D.writes, .int .i64 S.D.syncs, .int .i64 0] rfl rfl rfl (by intro v hv; simp at hv; rcases hv with rfl | rfl | rfl | rfl <;> rfl) ?_; refine Hid.out ?_))
    refine hid ?_
    have B120 := below_new W12 (.cells ([.int .i64 S.D.reads, .int .i64 S.D.writes, .int .i64 S.D.syncs, .int .i64 0] : List Value).toArray 41)
    have R13 := hnew W12 (.cells ([.int .i64 S.D.reads, .int .i64 S.D.writes, .int .i64 S.D.syncs, .int .i64 0] : List Value).toArray 41)
    have HB13 := hid (HB12.out.trans (B120.mono HB12.out.size))
    have HRF13 := hid ((B120.block _ (hlt HRF12.out)).trans HRF12.out)
    have rc13 := (B120.block _ (hlt HRC12.out)).trans HRC12.out
    clear B120 HB12 HRF12 HRC12
    generalize W12.heap.size = B18 at *
    generalize W12.alloc (.cells ([.int .i64 S.D.reads, .int .i64 S.D.writes, .int .i64 S.D.syncs, .int .i64 0] : List Value).toArray 41) = W13 at *
    have ca1 : W13.cell? ⟨B16, 1, none⟩ = some (.int .i64 S.D.writes) := by rw [cell_of_row _ _ _ _ _ _ rc13]; rfl
    have ca2 : W13.cell? ⟨B16, 2, none⟩ = some (.int .i64 S.D.syncs) := by rw [cell_of_row _ _ _ _ _ _ rc13]; rfl
    have cb1 : W13.cell? ⟨B18, 1, none⟩ = some (.int .i64 S.D.writes) := by rw [cell_of_row _ _ _ _ _ _ R13]; rfl
    have cb2 : W13.cell? ⟨B18, 2, none⟩ = some (.int .i64 S.D.syncs) := by rw [cell_of_row _ _ _ _ _ _ R13]; rfl
    have cb3 : W13.cell? ⟨B18, 3, none⟩ = some (.int .i64 0) := by rw [cell_of_row _ _ _ _ _ _ R13]; rfl
    clear rc13 R13
    have F13 := hid (FLT.out W13 HB13.out b11 openS (-1) (by decide) (by decide) (by decide) 0 (by decide) HRF13.out)
    rcases hag with hag | ⟨hag0, hag⟩
    · go_wp2_with fail
      refine F13.out.mono ?_
      rintro e W14 ⟨rfl, hb14⟩
      have HB14 := hid (HB13.out.trans (hb14.mono HB13.out.size))
      clear hb14
      go_wp2
      go_ret
      exact ⟨rfl, HB14.out⟩
    · go_wp2_with fail
      refine F13.out.mono ?_
      rintro e W14 ⟨rfl, hb14⟩
      have HB14 := hid (HB13.out.trans (hb14.mono HB13.out.size))
      clear hb14
      go_wp2
      go_ret
      exact ⟨rfl, HB14.out⟩
end Go.Proofs.YtjpcegjgandnjaaGreatDoor
