import Derived.Test.YtfogohpmphgkkaaDoorLg11
namespace Go.Proofs.YtfogohpmphgkkaaDoor
set_option linter.unusedVariables false
set_option linter.unusedSimpArgs false
open Go.RowKit Go.Extern.Stop Go.Stop Go.Extern
attribute [local go_sem ↓] Go.wp_at_zero Go.wp_at_succ

def noC : ByteArray := ⟨#[58, 32, 110, 111, 32, 114, 101, 97, 115, 111, 110]⟩
theorem noC_eq (u : ByteArray) : (u ++ colon) ++ noR = u ++ noC := by rw [ByteArray.append_assoc]; rfl
theorem Tryd.comp34 : (Tryd.prog.info? 34).map (·.comparable) = some true := by kernel_rfl
theorem Tryd.size39 : (Tryd.prog.info? 39).map (·.size) = some 3 := by kernel_rfl
theorem fa_same (a : Addr) (w : World) : (binOp .eql 25 (.iface 34 (.pointer (some a))) (.iface 34 (.pointer (some a)))).run Tryd.prog w = .ok (.bool true) w := by
  obtain ⟨k, hk, hcmp⟩ := Option.map_eq_some_iff.1 Tryd.comp34
  obtain ⟨q, hq, hqs⟩ := Option.map_eq_some_iff.1 Tryd.size39
  exact run_eql_iface_ptr_same (P := Tryd.prog) w a Tryd.underlying25 Tryd.underlying34 hk hcmp hq
/-- Two blocks made one behind the other. -/
theorem two (w : World) (l0 l1 : List Value) (t0 t1 : TypeId) (W : World) (hW : W = (w.alloc (.cells l0.toArray t0)).alloc (.cells l1.toArray t1)) :
    Below w.heap.size w W ∧ W.rangeAt w.heap.size 0 l0 ∧ W.rangeAt (w.heap.size + 1) 0 l1 := by
  subst hW
  have r1 := rng_new (w.alloc (.cells l0.toArray t0)) l1 t1
  simp only [World.size_alloc] at r1
  exact ⟨bel3 (bel1 _ _) (bel1 _ _), rngB (bel1 _ _) (rng_new w l0 t0), r1⟩
set_option maxRecDepth 100000 in
set_option maxHeartbeats 4000000 in
theorem faults_aux (w : World) (hT : TabP w) (A : Nat → Addr) (hS : Sen w A) (c : ByteArray) (n : Int) (h0 : -9223372036854775808 ≤ n) (h1 : n ≤ 9223372036854775807) (hc : c.size ≤ 140737488351232) (e : Int) (he : e ≠ 0) (i : Nat) (hi : i < 20)
    (hW : Calls Tryd.prog 9 #[.string c, .int .i64 n, .int .i64 e] w fun r w' => r = .returned (.iface 34 (.pointer (some ⟨w.heap.size, 0, none⟩))) ∧ w' = w.alloc (.cells #[.string c, .int .i64 n, .iface 88 (.pointer (some (A i)))] 39))
    (hF : ∀ w, Calls Tryd.prog 14 #[.int .i64 e] w fun r w' => r = .returned (.int .i64 (nos i)) ∧ w' = w) :
    Calls Tryd.prog 5 #[.string c, .int .i64 n, .int .i64 e] w fun r w' => r = .returned (.bool true) ∧ Below w.heap.size w w' := by
  have hee : (e == 0) = false := by simpa using he
  have hO : ∀ (w : World), (binOp .neq 25 .nilIface .nilIface).run Tryd.prog w = .ok (.bool false) w := fun w => by kernel_rfl
  have hSm := fa_same
  have hME := Tryd.methodErrP
  replace hW := hid hW
  replace hF := hid hF
  replace hS := hid hS
  replace hT := hid hT
  go_enter Tryd.func5, Tryd.ntmps5
  go_wp2_with fail
  refine hW.out.mono ?_
  rintro _ _ ⟨rfl, rfl⟩
  go_wp2_with fail
  obtain ⟨hB2, rg, rp⟩ := two w [.string c, .int .i64 n, .iface 88 (.pointer (some (A i)))] [.string c, .int .i64 n] 39 37 _ rfl
  generalize (w.alloc (.cells #[.string c, .int .i64 n, .iface 88 (.pointer (some (A i)))] 39)).alloc (.cells #[.string c, .int .i64 n] 37) = w2 at *
  generalize w.heap.size + 1 = b2 at *
  have HB2 := hid (show Below w.heap.size w w2 from hB2)
  clear hB2 hW
  generalize hb1 : w.heap.size = b1 at rg ⊢
  clear hb1
  refine (pwhere_any w2 (hT.out.later HB2.out) c n h0 h1 hc).mono ?_
  rintro _ w3 ⟨rfl, hb3⟩
  have HB3 := hid (bel3 HB2.out hb3)
  replace rg := rngB hb3 rg
  replace rp := rngB hb3 rp
  clear hb3
  go_wp2_with fail
  refine (rwhere_any w3 c n h0 h1 hc).mono ?_
  rintro _ w4 ⟨rfl, hb4⟩
  have HB4 := hid (bel3 HB3.out hb4)
  replace rg := rngB hb4 rg
  replace rp := rngB hb4 rp
  clear hb4
  go_wp2_with fail
  refine (hF.out w4).mono ?_
  rintro _ wx ⟨rfl, hw⟩
  obtain rfl := hw.symm
  go_wp2_with fail
  refine (fault_any w4 (hT.out.later HB4.out) A (hS.out.mono HB4.out) b1 c n h0 h1 hc i hi (rg 0 _ rfl) (rg 1 _ rfl) (rg 2 _ rfl)).mono ?_
  rintro _ w5 ⟨rfl, hb5⟩
  have HB5 := hid (bel3 HB4.out hb5)
  replace rg := rngB hb5 rg
  replace rp := rngB hb5 rp
  clear hb5
  go_wp2_with fail
  refine (code_any w5 A (hS.out.mono HB5.out) 34 _ _ (nos i) (isP_fa1 (hS.out.mono HB5.out) b1 hi (rg 2 _ rfl)) (codeIs_one hi)).mono ?_
  rintro _ w6 ⟨rfl, hb6⟩
  have HB6 := hid (bel3 HB5.out hb6)
  replace rg := rngB hb6 rg
  replace rp := rngB hb6 rp
  clear hb6
  have z0 : w6.cell? ⟨b2, 0, none⟩ = some (.string c) := rp 0 _ rfl
  have z1 : w6.cell? ⟨b2, 1, none⟩ = some (.int .i64 n) := rp 1 _ rfl
  have hl0 : b2 < w6.heap.size := block_lt_of_cell z0
  have hl1 : b2 < w6.heap.size + 1 := by omega
  go_wp2_with fail
  obtain ⟨hB8, rf, rh⟩ := two w6 [.string c, .int .i64 n, .nilIface] [.string c, .int .i64 n, .iface 34 (.pointer (some ⟨b1, 0, none⟩))] 39 39 _ rfl
  generalize (w6.alloc (.cells #[.string c, .int .i64 n, .nilIface] 39)).alloc (.cells #[.string c, .int .i64 n, .iface 34 (.pointer (some ⟨b1, 0, none⟩))] 39) = w8 at *
  have HB8 := hid (bel3 HB6.out hB8)
  replace rg := rngB hB8 rg
  replace rp := rngB hB8 rp
  clear hB8 z0 z1 hl0 hl1
  generalize w6.heap.size + 1 = bg at *
  generalize w6.heap.size = bf at *
  have hT8 := hid (hT.out.later HB8.out)
  have hS8 := hid (hS.out.mono HB8.out)
  have hs := whereB_size c n h0 h1
  have hts := txt_size i hi
  have KN := hid (fun (w' : World) (hb : Below w8.heap.size w8 w') => noC_eq (whereB c n) ▸ ferr_nil w' (hT8.out.later hb) bf c n h0 h1 hc (cellB hb (rf 0 _ rfl)) (cellB hb (rf 1 _ rfl)) (cellB hb (rf 2 _ rfl)))
  have KW := hid (fun (w' : World) (hb : Below w8.heap.size w8 w') => pwhere_any w' (hT8.out.later hb) c n h0 h1 hc)
  have KU := hid (fun (w' : World) (hb : Below w8.heap.size w8 w') => un_any w' bf _ (cellB hb (rf 2 _ rfl)))
  have KV := hid (fun (w' : World) (hb : Below w8.heap.size w8 w') => un_any w' bg _ (cellB hb (rh 2 _ rfl)))
  have KC := hid (fun (w' : World) (hb : Below w8.heap.size w8 w') => code_any w' A (hS8.out.mono hb) 34 _ _ (-1) (isP_fa0 (hS8.out.mono hb) bf (cellB hb (rf 2 _ rfl))) codeIs_none)
  have KD := hid (fun (w' : World) (hb : Below w8.heap.size w8 w') => code_any w' A (hS8.out.mono hb) 34 _ _ (nos i) (isP_fa2 (hS8.out.mono hb) bg b1 hi (cellB hb (rh 2 _ rfl)) (cellB hb (rg 2 _ rfl))) (codeIs_one hi))
  have KM := hid (fun (w' : World) (hb : Below w8.heap.size w8 w') => num_any w' A (hS8.out.mono hb) 34 _ _ (nos i) (isP_fa2 (hS8.out.mono hb) bg b1 hi (cellB hb (rh 2 _ rfl)) (cellB hb (rg 2 _ rfl))) (codeIs_one hi))
  have KE := hid (fun (w' : World) (hb : Below w8.heap.size w8 w') => ferr_fx w' (hT8.out.later hb) A (hS8.out.mono hb) b1 c n h0 h1 hc i hi (cellB hb (rg 0 _ rfl)) (cellB hb (rg 1 _ rfl)) (cellB hb (rg 2 _ rfl)))
  have KG := hid (fun (w' : World) (hb : Below w8.heap.size w8 w') => ferr_fa w' (hT8.out.later hb) A (hS8.out.mono hb) bg b1 c n h0 h1 hc i hi (cellB hb (rh 0 _ rfl)) (cellB hb (rh 1 _ rfl)) (cellB hb (rh 2 _ rfl)) (cellB hb (rg 0 _ rfl)) (cellB hb (rg 1 _ rfl)) (cellB hb (rg 2 _ rfl)))
  have a3 := strAdd (whereB c n) noC (by rw [show noC.size = 11 from rfl]; omega)
  have a4 := strAdd (whereB c n) colon (by rw [show colon.size = 2 from rfl]; omega)
  have a6 := strAdd (whereB c n ++ colon) ((whereB c n ++ colon) ++ txt i) (by rw [ByteArray.size_append, ByteArray.size_append, ByteArray.size_append, show colon.size = 2 from rfl]; omega)
  clear hs hts
  rw [show noC = (⟨#[58, 32, 110, 111, 32, 114, 101, 97, 115, 111, 110]⟩ : ByteArray) from rfl] at a3 KN
  rw [show colon = (⟨#[58, 32]⟩ : ByteArray) from rfl] at a4 a6 KE KG
  generalize whereB c n = u at *
  generalize u ++ (⟨#[58, 32, 110, 111, 32, 114, 101, 97, 115, 111, 110]⟩ : ByteArray) = v3 at *
  generalize u ++ (⟨#[58, 32]⟩ : ByteArray) = v4 at *
  generalize v4 ++ txt i = v5 at *
  generalize v4 ++ v5 = v6 at *
  replace rf : w8.rangeAt bf 0 [.string c, .int .i64 n] := fun j v hv => rf j v (by
    rcases j with _ | _ | j
    · simpa using hv
    · simpa using hv
    · simp at hv)
  clear rg rh
  refine wp_region_noPanic ?_
  refine wp_region_held_drew (S := fun w' => Below w8.heap.size w8 w') (by kernel_rfl) (Below.refl _ _).drew (fun hHeld => ?_)
  refine wpAnyH_take (i := 0) (oi := { dst := some 55, op := Op.move (Operand.tmp 10), type := 34, pos := "outright.go:32", after := #[], guard := none }) (v := .pointer (some ⟨bf, 0, none⟩)) rfl (by kernel_rfl) (by kernel_rfl) (by kernel_rfl) (fun _ _ _ h => h) (Or.inl ⟨by rfl, by intro w hS; go_simp⟩) hHeld ?_
  try simp only [Act.put, List.setIfInBounds_toArray, List.set_cons_zero, List.set_cons_succ]
  refine wpAnyH_take (i := 2) (oi := { dst := some 57, op := Op.load 37 (Operand.tmp 8), type := 37, pos := "outright.go:32", after := #[], guard := none }) (v := .agg ([.string c, .int .i64 n]).toArray) rfl (by kernel_rfl) (by kernel_rfl) (by kernel_rfl) (fun _ _ _ h => h) (yieldsIf_load_mid (by rfl) 37 _ rfl b2 (0) rfl ([.string c, .int .i64 n]) _ (fun w hS => (rngB hS rp)) Tryd.underlying37 rfl (by kernel_rfl)) hHeld ?_
  try simp only [Act.put, List.setIfInBounds_toArray, List.set_cons_zero, List.set_cons_succ]
  refine wpAnyH_ready (rs := [1]) (by kernel_rfl) (by simp) ?_
  refine (AllReadyH.cons (o := { dst := some 56, op := Op.call { callee := Callee.value (Operand.func 16), args := #[Operand.tmp 55], argTypes := #[34] }, type := 9, pos := "outright.go:32", after := #[{ on := 0, ground := Ground.data }], guard := none }) rfl (fun K hK => ?_) AllReadyH.nil)
  go_simp
  go_at_call 16
  refine (KN.out _ hHeld).mono ?_
  rintro e w4 ⟨rfl, hb4⟩
  go_wp2_with fail
  refine hK.out _ _ (hHeld.trans (hb4.mono hHeld.size)) (fun hHeld2 => ?_)
  clear hK K hHeld
  have hHeld := hHeld2
  clear hHeld2
  try simp only [Act.put, List.setIfInBounds_toArray, List.set_cons_zero, List.set_cons_succ]
  refine wpAnyH_ready (rs := [3]) (by kernel_rfl) (by simp) ?_
  refine (AllReadyH.cons (o := { dst := some 58, op := Op.call { callee := Callee.value (Operand.func 12), args := #[Operand.tmp 57], argTypes := #[37] }, type := 9, pos := "outright.go:32", after := #[{ on := 2, ground := Ground.data }, { on := 1, ground := Ground.chain }], guard := none }) rfl (fun K hK => ?_) AllReadyH.nil)
  go_simp
  go_at_call 12
  refine (KW.out _ hHeld).mono ?_
  rintro e w4 ⟨rfl, hb4⟩
  go_wp2_with fail
  refine hK.out _ _ (hHeld.trans (hb4.mono hHeld.size)) (fun hHeld2 => ?_)
  clear hK K hHeld
  have hHeld := hHeld2
  clear hHeld2
  try simp only [Act.put, List.setIfInBounds_toArray, List.set_cons_zero, List.set_cons_succ]
  refine wpAnyH_take (i := 4) (oi := { dst := some 59, op := Op.binOp BinOp.add 9 (Operand.tmp 58) (Operand.const (Value.string { data := #[58, 32, 110, 111, 32, 114, 101, 97, 115, 111, 110] })) 9, type := 9, pos := "outright.go:32", after := #[{ on := 3, ground := Ground.data }], guard := none }) (v := .string v3) rfl (by kernel_rfl) (by kernel_rfl) (by kernel_rfl) (fun _ _ _ h => h) (Or.inl ⟨by rfl, by intro w hS; go_simp⟩) hHeld ?_
  try simp only [Act.put, List.setIfInBounds_toArray, List.set_cons_zero, List.set_cons_succ]
  refine wpAnyH_take (i := 5) (oi := { dst := some 60, op := Op.binOp BinOp.neq 9 (Operand.tmp 56) (Operand.tmp 59) 9, type := 4, pos := "outright.go:32", after := #[{ on := 1, ground := Ground.data }, { on := 4, ground := Ground.data }], guard := none }) (v := .bool false) rfl (by kernel_rfl) (by kernel_rfl) (by kernel_rfl) (fun _ _ _ h => h) (Or.inl ⟨by rfl, by intro w hS; go_simp⟩) hHeld ?_
  try simp only [Act.put, List.setIfInBounds_toArray, List.set_cons_zero, List.set_cons_succ]
  refine wpAnyH_take (i := 6) (oi := { dst := some 61, op := Op.move (Operand.tmp 60), type := 4, pos := "outright.go:32", after := #[{ on := 5, ground := Ground.data }, { on := 3, ground := Ground.chain }], guard := none }) (v := .bool false) rfl (by kernel_rfl) (by kernel_rfl) (by kernel_rfl) (fun _ _ _ h => h) (Or.inl ⟨by rfl, by intro w hS; go_simp⟩) hHeld ?_
  try simp only [Act.put, List.setIfInBounds_toArray, List.set_cons_zero, List.set_cons_succ]
  refine wpAnyH_take (i := 7) (oi := { dst := some 62, op := Op.move (Operand.tmp 10), type := 34, pos := "outright.go:32", after := #[{ on := 6, ground := Ground.guard }], guard := some (6, false) }) (v := .pointer (some ⟨bf, 0, none⟩)) rfl (by kernel_rfl) (by kernel_rfl) (by kernel_rfl) (fun _ _ _ h => h) (Or.inl ⟨by rfl, by intro w hS; go_simp⟩) hHeld ?_
  try simp only [Act.put, List.setIfInBounds_toArray, List.set_cons_zero, List.set_cons_succ]
  refine wpAnyH_ready (rs := [8]) (by kernel_rfl) (by simp) ?_
  refine (AllReadyH.cons (o := { dst := some 63, op := Op.call { callee := Callee.value (Operand.func 10), args := #[Operand.tmp 62], argTypes := #[34] }, type := 25, pos := "outright.go:32", after := #[{ on := 7, ground := Ground.data }, { on := 6, ground := Ground.chain }, { on := 6, ground := Ground.guard }], guard := some (6, false) }) rfl (fun K hK => ?_) AllReadyH.nil)
  go_simp
  go_at_call 10
  refine (KU.out _ hHeld).mono ?_
  rintro e w4 ⟨rfl, rfl⟩
  go_wp2_with fail
  refine hK.out _ _ (hHeld) (fun hHeld2 => ?_)
  clear hK K hHeld
  have hHeld := hHeld2
  clear hHeld2
  try simp only [Act.put, List.setIfInBounds_toArray, List.set_cons_zero, List.set_cons_succ]
  refine wpAnyH_take (i := 9) (oi := { dst := some 64, op := Op.binOp BinOp.neq 25 (Operand.tmp 63) (Operand.const Value.nilIface) 25, type := 4, pos := "outright.go:32", after := #[{ on := 8, ground := Ground.data }, { on := 6, ground := Ground.guard }], guard := some (6, false) }) (v := .bool false) rfl (by kernel_rfl) (by kernel_rfl) (by kernel_rfl) (fun _ _ _ h => h) (Or.inl ⟨by rfl, by intro w hS; go_simp⟩) hHeld ?_
  try simp only [Act.put, List.setIfInBounds_toArray, List.set_cons_zero, List.set_cons_succ]
  refine wpAnyH_take (i := 10) (oi := { dst := some 65, op := Op.pick (Operand.tmp 61) (Operand.const (Value.bool true)) (Operand.tmp 64), type := 4, pos := "outright.go:32", after := #[{ on := 6, ground := Ground.data }, { on := 9, ground := Ground.data }], guard := none }) (v := .bool false) rfl (by kernel_rfl) (by kernel_rfl) (by kernel_rfl) (fun _ _ _ h => h) (Or.inl ⟨by rfl, by intro w hS; go_simp⟩) hHeld ?_
  try simp only [Act.put, List.setIfInBounds_toArray, List.set_cons_zero, List.set_cons_succ]
  refine wpAnyH_take (i := 11) (oi := { dst := some 66, op := Op.move (Operand.tmp 65), type := 4, pos := "outright.go:32", after := #[{ on := 10, ground := Ground.data }, { on := 8, ground := Ground.chain }], guard := none }) (v := .bool false) rfl (by kernel_rfl) (by kernel_rfl) (by kernel_rfl) (fun _ _ _ h => h) (Or.inl ⟨by rfl, by intro w hS; go_simp⟩) hHeld ?_
  try simp only [Act.put, List.setIfInBounds_toArray, List.set_cons_zero, List.set_cons_succ]
  refine wpAnyH_take (i := 12) (oi := { dst := some 67, op := Op.move (Operand.tmp 10), type := 34, pos := "outright.go:32", after := #[{ on := 11, ground := Ground.guard }], guard := some (11, false) }) (v := .pointer (some ⟨bf, 0, none⟩)) rfl (by kernel_rfl) (by kernel_rfl) (by kernel_rfl) (fun _ _ _ h => h) (Or.inl ⟨by rfl, by intro w hS; go_simp⟩) hHeld ?_
  try simp only [Act.put, List.setIfInBounds_toArray, List.set_cons_zero, List.set_cons_succ]
  refine wpAnyH_take (i := 17) (oi := { dst := some 72, op := Op.load 37 (Operand.tmp 8), type := 37, pos := "outright.go:32", after := #[{ on := 11, ground := Ground.guard }], guard := some (11, false) }) (v := .agg ([.string c, .int .i64 n]).toArray) rfl (by kernel_rfl) (by kernel_rfl) (by kernel_rfl) (fun _ _ _ h => h) (yieldsIf_load_mid (by rfl) 37 _ rfl b2 (0) rfl ([.string c, .int .i64 n]) _ (fun w hS => (rngB hS rp)) Tryd.underlying37 rfl (by kernel_rfl)) hHeld ?_
  try simp only [Act.put, List.setIfInBounds_toArray, List.set_cons_zero, List.set_cons_succ]
  refine wpAnyH_take (i := 13) (oi := { dst := some 68, op := Op.nilCheck (Operand.tmp 67), type := 0, pos := "outright.go:32", after := #[{ on := 12, ground := Ground.data }, { on := 11, ground := Ground.guard }], guard := some (11, false) }) (v := .pointer (some ⟨bf, 0, none⟩)) rfl (by kernel_rfl) (by kernel_rfl) (by kernel_rfl) (fun _ _ _ h => h) (Or.inl ⟨by rfl, by intro w hS; go_simp⟩) hHeld ?_
  try simp only [Act.put, List.setIfInBounds_toArray, List.set_cons_zero, List.set_cons_succ]
  refine wpAnyH_take (i := 14) (oi := { dst := some 69, op := Op.fieldAddr 39 (Operand.tmp 68) 0, type := 0, pos := "outright.go:32", after := #[{ on := 13, ground := Ground.data }, { on := 11, ground := Ground.guard }], guard := some (11, false) }) (v := .pointer (some ⟨bf, 0, none⟩)) rfl (by kernel_rfl) (by kernel_rfl) (by kernel_rfl) (fun _ _ _ h => h) (Or.inl ⟨by rfl, by intro w hS; go_simp⟩) hHeld ?_
  try simp only [Act.put, List.setIfInBounds_toArray, List.set_cons_zero, List.set_cons_succ]
  refine wpAnyH_take (i := 15) (oi := { dst := some 70, op := Op.load 37 (Operand.tmp 69), type := 37, pos := "outright.go:32", after := #[{ on := 14, ground := Ground.data }, { on := 11, ground := Ground.guard }], guard := some (11, false) }) (v := .agg ([.string c, .int .i64 n]).toArray) rfl (by kernel_rfl) (by kernel_rfl) (by kernel_rfl) (fun _ _ _ h => h) (yieldsIf_load_mid (by rfl) 37 _ rfl bf (0) rfl ([.string c, .int .i64 n]) _ (fun w hS => (rngB hS rf)) Tryd.underlying37 rfl (by kernel_rfl)) hHeld ?_
  try simp only [Act.put, List.setIfInBounds_toArray, List.set_cons_zero, List.set_cons_succ]
  refine wpAnyH_ready (rs := [16]) (by kernel_rfl) (by simp) ?_
  refine (AllReadyH.cons (o := { dst := some 71, op := Op.call { callee := Callee.value (Operand.func 12), args := #[Operand.tmp 70], argTypes := #[37] }, type := 9, pos := "outright.go:32", after := #[{ on := 15, ground := Ground.data }, { on := 11, ground := Ground.chain }, { on := 11, ground := Ground.guard }], guard := some (11, false) }) rfl (fun K hK => ?_) AllReadyH.nil)
  go_simp
  go_at_call 12
  refine (KW.out _ hHeld).mono ?_
  rintro e w4 ⟨rfl, hb4⟩
  go_wp2_with fail
  refine hK.out _ _ (hHeld.trans (hb4.mono hHeld.size)) (fun hHeld2 => ?_)
  clear hK K hHeld
  have hHeld := hHeld2
  clear hHeld2
  try simp only [Act.put, List.setIfInBounds_toArray, List.set_cons_zero, List.set_cons_succ]
  refine wpAnyH_ready (rs := [18]) (by kernel_rfl) (by simp) ?_
  refine (AllReadyH.cons (o := { dst := some 73, op := Op.call { callee := Callee.value (Operand.func 12), args := #[Operand.tmp 72], argTypes := #[37] }, type := 9, pos := "outright.go:32", after := #[{ on := 17, ground := Ground.data }, { on := 16, ground := Ground.chain }, { on := 11, ground := Ground.guard }], guard := some (11, false) }) rfl (fun K hK => ?_) AllReadyH.nil)
  go_simp
  go_at_call 12
  refine (KW.out _ hHeld).mono ?_
  rintro e w4 ⟨rfl, hb4⟩
  go_wp2_with fail
  refine hK.out _ _ (hHeld.trans (hb4.mono hHeld.size)) (fun hHeld2 => ?_)
  clear hK K hHeld
  have hHeld := hHeld2
  clear hHeld2
  try simp only [Act.put, List.setIfInBounds_toArray, List.set_cons_zero, List.set_cons_succ]
  refine wpAnyH_take (i := 19) (oi := { dst := some 74, op := Op.binOp BinOp.neq 9 (Operand.tmp 71) (Operand.tmp 73) 9, type := 4, pos := "outright.go:32", after := #[{ on := 16, ground := Ground.data }, { on := 18, ground := Ground.data }, { on := 11, ground := Ground.guard }], guard := some (11, false) }) (v := .bool false) rfl (by kernel_rfl) (by kernel_rfl) (by kernel_rfl) (fun _ _ _ h => h) (Or.inl ⟨by rfl, by intro w hS; go_simp⟩) hHeld ?_
  try simp only [Act.put, List.setIfInBounds_toArray, List.set_cons_zero, List.set_cons_succ]
  refine wpAnyH_take (i := 20) (oi := { dst := some 75, op := Op.pick (Operand.tmp 66) (Operand.const (Value.bool true)) (Operand.tmp 74), type := 4, pos := "outright.go:32", after := #[{ on := 11, ground := Ground.data }, { on := 19, ground := Ground.data }], guard := none }) (v := .bool false) rfl (by kernel_rfl) (by kernel_rfl) (by kernel_rfl) (fun _ _ _ h => h) (Or.inl ⟨by rfl, by intro w hS; go_simp⟩) hHeld ?_
  try simp only [Act.put, List.setIfInBounds_toArray, List.set_cons_zero, List.set_cons_succ]
  refine wpAnyH_take (i := 21) (oi := { dst := some 76, op := Op.move (Operand.tmp 75), type := 4, pos := "outright.go:32", after := #[{ on := 20, ground := Ground.data }, { on := 18, ground := Ground.chain }], guard := none }) (v := .bool false) rfl (by kernel_rfl) (by kernel_rfl) (by kernel_rfl) (fun _ _ _ h => h) (Or.inl ⟨by rfl, by intro w hS; go_simp⟩) hHeld ?_
  try simp only [Act.put, List.setIfInBounds_toArray, List.set_cons_zero, List.set_cons_succ]
  refine wpAnyH_take (i := 22) (oi := { dst := some 77, op := Op.move (Operand.tmp 10), type := 34, pos := "outright.go:32", after := #[{ on := 21, ground := Ground.guard }], guard := some (21, false) }) (v := .pointer (some ⟨bf, 0, none⟩)) rfl (by kernel_rfl) (by kernel_rfl) (by kernel_rfl) (fun _ _ _ h => h) (Or.inl ⟨by rfl, by intro w hS; go_simp⟩) hHeld ?_
  try simp only [Act.put, List.setIfInBounds_toArray, List.set_cons_zero, List.set_cons_succ]
  refine wpAnyH_take (i := 23) (oi := { dst := some 78, op := Op.makeInterface 34 (Operand.tmp 77), type := 25, pos := "outright.go:32", after := #[{ on := 22, ground := Ground.data }, { on := 21, ground := Ground.guard }], guard := some (21, false) }) (v := .iface 34 (.pointer (some ⟨bf, 0, none⟩))) rfl (by kernel_rfl) (by kernel_rfl) (by kernel_rfl) (fun _ _ _ h => h) (Or.inl ⟨by rfl, by intro w hS; go_simp⟩) hHeld ?_
  try simp only [Act.put, List.setIfInBounds_toArray, List.set_cons_zero, List.set_cons_succ]
  refine wpAnyH_ready (rs := [24]) (by kernel_rfl) (by simp) ?_
  refine (AllReadyH.cons (o := { dst := some 79, op := Op.call { callee := Callee.value (Operand.func 8), args := #[Operand.tmp 78], argTypes := #[25] }, type := 31, pos := "outright.go:32", after := #[{ on := 23, ground := Ground.data }, { on := 21, ground := Ground.chain }, { on := 21, ground := Ground.guard }], guard := some (21, false) }) rfl (fun K hK => ?_) AllReadyH.nil)
  go_simp
  go_at_call 8
  refine (KC.out _ hHeld).mono ?_
  rintro e w4 ⟨rfl, hb4⟩
  go_wp2_with fail
  refine hK.out _ _ (hHeld.trans (hb4.mono hHeld.size)) (fun hHeld2 => ?_)
  clear hK K hHeld
  have hHeld := hHeld2
  clear hHeld2
  try simp only [Act.put, List.setIfInBounds_toArray, List.set_cons_zero, List.set_cons_succ]
  refine wpAnyH_take (i := 25) (oi := { dst := some 80, op := Op.binOp BinOp.neq 3 (Operand.tmp 79) (Operand.const (Value.int IntKind.i64 (-1))) 3, type := 4, pos := "outright.go:32", after := #[{ on := 24, ground := Ground.data }, { on := 21, ground := Ground.guard }], guard := some (21, false) }) (v := .bool false) rfl (by kernel_rfl) (by kernel_rfl) (by kernel_rfl) (fun _ _ _ h => h) (Or.inl ⟨by rfl, by intro w hS; go_simp⟩) hHeld ?_
  try simp only [Act.put, List.setIfInBounds_toArray, List.set_cons_zero, List.set_cons_succ]
  refine wpAnyH_take (i := 26) (oi := { dst := some 81, op := Op.pick (Operand.tmp 76) (Operand.const (Value.bool true)) (Operand.tmp 80), type := 4, pos := "outright.go:32", after := #[{ on := 21, ground := Ground.data }, { on := 25, ground := Ground.data }], guard := none }) (v := .bool false) rfl (by kernel_rfl) (by kernel_rfl) (by kernel_rfl) (fun _ _ _ h => h) (Or.inl ⟨by rfl, by intro w hS; go_simp⟩) hHeld ?_
  try simp only [Act.put, List.setIfInBounds_toArray, List.set_cons_zero, List.set_cons_succ]
  refine wpAnyH_done (by kernel_rfl) ?_ _
  refine NoPanic.normal ?_
  have HB9 := hid hHeld
  clear hHeld
  go_wp2_with fail
  refine wp_region_noPanic ?_
  refine wp_region_held_drew (S := fun w' => Below w8.heap.size w8 w') (by kernel_rfl) HB9.out.drew (fun hHeld => ?_)
  refine wpAnyH_take (i := 0) (oi := { dst := some 82, op := Op.move (Operand.tmp 11), type := 34, pos := "outright.go:35", after := #[], guard := none }) (v := .pointer (some ⟨bg, 0, none⟩)) rfl (by kernel_rfl) (by kernel_rfl) (by kernel_rfl) (fun _ _ _ h => h) (Or.inl ⟨by rfl, by intro w hS; go_simp⟩) hHeld ?_
  try simp only [Act.put, List.setIfInBounds_toArray, List.set_cons_zero, List.set_cons_succ]
  refine wpAnyH_take (i := 2) (oi := { dst := some 84, op := Op.load 37 (Operand.tmp 8), type := 37, pos := "outright.go:35", after := #[], guard := none }) (v := .agg ([.string c, .int .i64 n]).toArray) rfl (by kernel_rfl) (by kernel_rfl) (by kernel_rfl) (fun _ _ _ h => h) (yieldsIf_load_mid (by rfl) 37 _ rfl b2 (0) rfl ([.string c, .int .i64 n]) _ (fun w hS => (rngB hS rp)) Tryd.underlying37 rfl (by kernel_rfl)) hHeld ?_
  try simp only [Act.put, List.setIfInBounds_toArray, List.set_cons_zero, List.set_cons_succ]
  refine wpAnyH_take (i := 5) (oi := { dst := some 87, op := Op.move (Operand.tmp 7), type := 25, pos := "outright.go:35", after := #[], guard := none }) (v := .iface 34 (.pointer (some ⟨b1, 0, none⟩))) rfl (by kernel_rfl) (by kernel_rfl) (by kernel_rfl) (fun _ _ _ h => h) (Or.inl ⟨by rfl, by intro w hS; go_simp⟩) hHeld ?_
  try simp only [Act.put, List.setIfInBounds_toArray, List.set_cons_zero, List.set_cons_succ]
  refine wpAnyH_ready (rs := [1]) (by kernel_rfl) (by simp) ?_
  refine (AllReadyH.cons (o := { dst := some 83, op := Op.call { callee := Callee.value (Operand.func 16), args := #[Operand.tmp 82], argTypes := #[34] }, type := 9, pos := "outright.go:35", after := #[{ on := 0, ground := Ground.data }], guard := none }) rfl (fun K hK => ?_) AllReadyH.nil)
  go_simp
  go_at_call 16
  refine (KG.out _ hHeld).mono ?_
  rintro e w4 ⟨rfl, hb4⟩
  go_wp2_with fail
  refine hK.out _ _ (hHeld.trans (hb4.mono hHeld.size)) (fun hHeld2 => ?_)
  clear hK K hHeld
  have hHeld := hHeld2
  clear hHeld2
  try simp only [Act.put, List.setIfInBounds_toArray, List.set_cons_zero, List.set_cons_succ]
  refine wpAnyH_ready (rs := [3]) (by kernel_rfl) (by simp) ?_
  refine (AllReadyH.cons (o := { dst := some 85, op := Op.call { callee := Callee.value (Operand.func 12), args := #[Operand.tmp 84], argTypes := #[37] }, type := 9, pos := "outright.go:35", after := #[{ on := 2, ground := Ground.data }, { on := 1, ground := Ground.chain }], guard := none }) rfl (fun K hK => ?_) AllReadyH.nil)
  go_simp
  go_at_call 12
  refine (KW.out _ hHeld).mono ?_
  rintro e w4 ⟨rfl, hb4⟩
  go_wp2_with fail
  refine hK.out _ _ (hHeld.trans (hb4.mono hHeld.size)) (fun hHeld2 => ?_)
  clear hK K hHeld
  have hHeld := hHeld2
  clear hHeld2
  try simp only [Act.put, List.setIfInBounds_toArray, List.set_cons_zero, List.set_cons_succ]
  refine wpAnyH_take (i := 4) (oi := { dst := some 86, op := Op.binOp BinOp.add 9 (Operand.tmp 85) (Operand.const (Value.string { data := #[58, 32] })) 9, type := 9, pos := "outright.go:35", after := #[{ on := 3, ground := Ground.data }], guard := none }) (v := .string v4) rfl (by kernel_rfl) (by kernel_rfl) (by kernel_rfl) (fun _ _ _ h => h) (Or.inl ⟨by rfl, by intro w hS; go_simp⟩) hHeld ?_
  try simp only [Act.put, List.setIfInBounds_toArray, List.set_cons_zero, List.set_cons_succ]
  refine wpAnyH_ready (rs := [6]) (by kernel_rfl) (by simp) ?_
  refine (AllReadyH.cons (o := { dst := some 88, op := Op.call { callee := Callee.invoke (Operand.tmp 87) "Error", args := #[], argTypes := #[] }, type := 9, pos := "outright.go:35", after := #[{ on := 5, ground := Ground.data }, { on := 3, ground := Ground.chain }], guard := none }) rfl (fun K hK => ?_) AllReadyH.nil)
  go_simp
  go_at_call 16
  refine (KE.out _ hHeld).mono ?_
  rintro e w4 ⟨rfl, hb4⟩
  go_wp2_with fail
  refine hK.out _ _ (hHeld.trans (hb4.mono hHeld.size)) (fun hHeld2 => ?_)
  clear hK K hHeld
  have hHeld := hHeld2
  clear hHeld2
  try simp only [Act.put, List.setIfInBounds_toArray, List.set_cons_zero, List.set_cons_succ]
  refine wpAnyH_take (i := 7) (oi := { dst := some 89, op := Op.binOp BinOp.add 9 (Operand.tmp 86) (Operand.tmp 88) 9, type := 9, pos := "outright.go:35", after := #[{ on := 4, ground := Ground.data }, { on := 6, ground := Ground.data }], guard := none }) (v := .string v6) rfl (by kernel_rfl) (by kernel_rfl) (by kernel_rfl) (fun _ _ _ h => h) (Or.inl ⟨by rfl, by intro w hS; go_simp⟩) hHeld ?_
  try simp only [Act.put, List.setIfInBounds_toArray, List.set_cons_zero, List.set_cons_succ]
  refine wpAnyH_take (i := 8) (oi := { dst := some 90, op := Op.binOp BinOp.eql 9 (Operand.tmp 83) (Operand.tmp 89) 9, type := 4, pos := "outright.go:35", after := #[{ on := 1, ground := Ground.data }, { on := 7, ground := Ground.data }], guard := none }) (v := .bool true) rfl (by kernel_rfl) (by kernel_rfl) (by kernel_rfl) (fun _ _ _ h => h) (Or.inl ⟨by rfl, by intro w hS; go_simp⟩) hHeld ?_
  try simp only [Act.put, List.setIfInBounds_toArray, List.set_cons_zero, List.set_cons_succ]
  refine wpAnyH_take (i := 9) (oi := { dst := some 91, op := Op.move (Operand.tmp 90), type := 4, pos := "outright.go:35", after := #[{ on := 8, ground := Ground.data }, { on := 6, ground := Ground.chain }], guard := none }) (v := .bool true) rfl (by kernel_rfl) (by kernel_rfl) (by kernel_rfl) (fun _ _ _ h => h) (Or.inl ⟨by rfl, by intro w hS; go_simp⟩) hHeld ?_
  try simp only [Act.put, List.setIfInBounds_toArray, List.set_cons_zero, List.set_cons_succ]
  refine wpAnyH_take (i := 10) (oi := { dst := some 92, op := Op.move (Operand.tmp 11), type := 34, pos := "outright.go:35", after := #[{ on := 9, ground := Ground.guard }], guard := some (9, true) }) (v := .pointer (some ⟨bg, 0, none⟩)) rfl (by kernel_rfl) (by kernel_rfl) (by kernel_rfl) (fun _ _ _ h => h) (Or.inl ⟨by rfl, by intro w hS; go_simp⟩) hHeld ?_
  try simp only [Act.put, List.setIfInBounds_toArray, List.set_cons_zero, List.set_cons_succ]
  refine wpAnyH_take (i := 12) (oi := { dst := some 94, op := Op.move (Operand.tmp 7), type := 25, pos := "outright.go:35", after := #[{ on := 9, ground := Ground.guard }], guard := some (9, true) }) (v := .iface 34 (.pointer (some ⟨b1, 0, none⟩))) rfl (by kernel_rfl) (by kernel_rfl) (by kernel_rfl) (fun _ _ _ h => h) (Or.inl ⟨by rfl, by intro w hS; go_simp⟩) hHeld ?_
  try simp only [Act.put, List.setIfInBounds_toArray, List.set_cons_zero, List.set_cons_succ]
  refine wpAnyH_ready (rs := [11]) (by kernel_rfl) (by simp) ?_
  refine (AllReadyH.cons (o := { dst := some 93, op := Op.call { callee := Callee.value (Operand.func 10), args := #[Operand.tmp 92], argTypes := #[34] }, type := 25, pos := "outright.go:35", after := #[{ on := 10, ground := Ground.data }, { on := 9, ground := Ground.chain }, { on := 9, ground := Ground.guard }], guard := some (9, true) }) rfl (fun K hK => ?_) AllReadyH.nil)
  go_simp
  go_at_call 10
  refine (KV.out _ hHeld).mono ?_
  rintro e w4 ⟨rfl, rfl⟩
  go_wp2_with fail
  refine hK.out _ _ (hHeld) (fun hHeld2 => ?_)
  clear hK K hHeld
  have hHeld := hHeld2
  clear hHeld2
  try simp only [Act.put, List.setIfInBounds_toArray, List.set_cons_zero, List.set_cons_succ]
  refine wpAnyH_take (i := 13) (oi := { dst := some 95, op := Op.binOp BinOp.eql 25 (Operand.tmp 93) (Operand.tmp 94) 25, type := 4, pos := "outright.go:35", after := #[{ on := 11, ground := Ground.data }, { on := 12, ground := Ground.data }, { on := 9, ground := Ground.guard }], guard := some (9, true) }) (v := .bool true) rfl (by kernel_rfl) (by kernel_rfl) (by kernel_rfl) (fun _ _ _ h => h) (Or.inl ⟨by rfl, by intro w hS; go_simp⟩) hHeld ?_
  try simp only [Act.put, List.setIfInBounds_toArray, List.set_cons_zero, List.set_cons_succ]
  refine wpAnyH_take (i := 14) (oi := { dst := some 96, op := Op.pick (Operand.tmp 91) (Operand.tmp 95) (Operand.const (Value.bool false)), type := 4, pos := "outright.go:35", after := #[{ on := 9, ground := Ground.data }, { on := 13, ground := Ground.data }], guard := none }) (v := .bool true) rfl (by kernel_rfl) (by kernel_rfl) (by kernel_rfl) (fun _ _ _ h => h) (Or.inl ⟨by rfl, by intro w hS; go_simp⟩) hHeld ?_
  try simp only [Act.put, List.setIfInBounds_toArray, List.set_cons_zero, List.set_cons_succ]
  refine wpAnyH_take (i := 15) (oi := { dst := some 97, op := Op.move (Operand.tmp 96), type := 4, pos := "outright.go:35", after := #[{ on := 14, ground := Ground.data }, { on := 11, ground := Ground.chain }], guard := none }) (v := .bool true) rfl (by kernel_rfl) (by kernel_rfl) (by kernel_rfl) (fun _ _ _ h => h) (Or.inl ⟨by rfl, by intro w hS; go_simp⟩) hHeld ?_
  try simp only [Act.put, List.setIfInBounds_toArray, List.set_cons_zero, List.set_cons_succ]
  refine wpAnyH_take (i := 16) (oi := { dst := some 98, op := Op.move (Operand.tmp 11), type := 34, pos := "outright.go:35", after := #[{ on := 15, ground := Ground.guard }], guard := some (15, true) }) (v := .pointer (some ⟨bg, 0, none⟩)) rfl (by kernel_rfl) (by kernel_rfl) (by kernel_rfl) (fun _ _ _ h => h) (Or.inl ⟨by rfl, by intro w hS; go_simp⟩) hHeld ?_
  try simp only [Act.put, List.setIfInBounds_toArray, List.set_cons_zero, List.set_cons_succ]
  refine wpAnyH_take (i := 19) (oi := { dst := some 101, op := Op.move (Operand.tmp 9), type := 3, pos := "outright.go:35", after := #[{ on := 15, ground := Ground.guard }], guard := some (15, true) }) (v := .int .i64 (nos i)) rfl (by kernel_rfl) (by kernel_rfl) (by kernel_rfl) (fun _ _ _ h => h) (Or.inl ⟨by rfl, by intro w hS; go_simp⟩) hHeld ?_
  try simp only [Act.put, List.setIfInBounds_toArray, List.set_cons_zero, List.set_cons_succ]
  refine wpAnyH_take (i := 17) (oi := { dst := some 99, op := Op.makeInterface 34 (Operand.tmp 98), type := 25, pos := "outright.go:35", after := #[{ on := 16, ground := Ground.data }, { on := 15, ground := Ground.guard }], guard := some (15, true) }) (v := .iface 34 (.pointer (some ⟨bg, 0, none⟩))) rfl (by kernel_rfl) (by kernel_rfl) (by kernel_rfl) (fun _ _ _ h => h) (Or.inl ⟨by rfl, by intro w hS; go_simp⟩) hHeld ?_
  try simp only [Act.put, List.setIfInBounds_toArray, List.set_cons_zero, List.set_cons_succ]
  refine wpAnyH_ready (rs := [18]) (by kernel_rfl) (by simp) ?_
  refine (AllReadyH.cons (o := { dst := some 100, op := Op.call { callee := Callee.value (Operand.func 17), args := #[Operand.tmp 99], argTypes := #[25] }, type := 3, pos := "outright.go:35", after := #[{ on := 17, ground := Ground.data }, { on := 15, ground := Ground.chain }, { on := 15, ground := Ground.guard }], guard := some (15, true) }) rfl (fun K hK => ?_) AllReadyH.nil)
  go_simp
  go_at_call 17
  refine (KM.out _ hHeld).mono ?_
  rintro e w4 ⟨rfl, hb4⟩
  go_wp2_with fail
  refine hK.out _ _ (hHeld.trans (hb4.mono hHeld.size)) (fun hHeld2 => ?_)
  clear hK K hHeld
  have hHeld := hHeld2
  clear hHeld2
  try simp only [Act.put, List.setIfInBounds_toArray, List.set_cons_zero, List.set_cons_succ]
  refine wpAnyH_take (i := 20) (oi := { dst := some 102, op := Op.binOp BinOp.eql 3 (Operand.tmp 100) (Operand.tmp 101) 3, type := 4, pos := "outright.go:35", after := #[{ on := 18, ground := Ground.data }, { on := 19, ground := Ground.data }, { on := 15, ground := Ground.guard }], guard := some (15, true) }) (v := .bool true) rfl (by kernel_rfl) (by kernel_rfl) (by kernel_rfl) (fun _ _ _ h => h) (Or.inl ⟨by rfl, by intro w hS; go_simp⟩) hHeld ?_
  try simp only [Act.put, List.setIfInBounds_toArray, List.set_cons_zero, List.set_cons_succ]
  refine wpAnyH_take (i := 21) (oi := { dst := some 103, op := Op.pick (Operand.tmp 97) (Operand.tmp 102) (Operand.const (Value.bool false)), type := 4, pos := "outright.go:35", after := #[{ on := 15, ground := Ground.data }, { on := 20, ground := Ground.data }], guard := none }) (v := .bool true) rfl (by kernel_rfl) (by kernel_rfl) (by kernel_rfl) (fun _ _ _ h => h) (Or.inl ⟨by rfl, by intro w hS; go_simp⟩) hHeld ?_
  try simp only [Act.put, List.setIfInBounds_toArray, List.set_cons_zero, List.set_cons_succ]
  refine wpAnyH_take (i := 22) (oi := { dst := some 104, op := Op.move (Operand.tmp 103), type := 4, pos := "outright.go:35", after := #[{ on := 21, ground := Ground.data }, { on := 18, ground := Ground.chain }], guard := none }) (v := .bool true) rfl (by kernel_rfl) (by kernel_rfl) (by kernel_rfl) (fun _ _ _ h => h) (Or.inl ⟨by rfl, by intro w hS; go_simp⟩) hHeld ?_
  try simp only [Act.put, List.setIfInBounds_toArray, List.set_cons_zero, List.set_cons_succ]
  refine wpAnyH_take (i := 23) (oi := { dst := some 105, op := Op.move (Operand.tmp 11), type := 34, pos := "outright.go:35", after := #[{ on := 22, ground := Ground.guard }], guard := some (22, true) }) (v := .pointer (some ⟨bg, 0, none⟩)) rfl (by kernel_rfl) (by kernel_rfl) (by kernel_rfl) (fun _ _ _ h => h) (Or.inl ⟨by rfl, by intro w hS; go_simp⟩) hHeld ?_
  try simp only [Act.put, List.setIfInBounds_toArray, List.set_cons_zero, List.set_cons_succ]
  refine wpAnyH_take (i := 26) (oi := { dst := some 108, op := Op.move (Operand.tmp 9), type := 3, pos := "outright.go:35", after := #[{ on := 22, ground := Ground.guard }], guard := some (22, true) }) (v := .int .i64 (nos i)) rfl (by kernel_rfl) (by kernel_rfl) (by kernel_rfl) (fun _ _ _ h => h) (Or.inl ⟨by rfl, by intro w hS; go_simp⟩) hHeld ?_
  try simp only [Act.put, List.setIfInBounds_toArray, List.set_cons_zero, List.set_cons_succ]
  refine wpAnyH_take (i := 24) (oi := { dst := some 106, op := Op.makeInterface 34 (Operand.tmp 105), type := 25, pos := "outright.go:35", after := #[{ on := 23, ground := Ground.data }, { on := 22, ground := Ground.guard }], guard := some (22, true) }) (v := .iface 34 (.pointer (some ⟨bg, 0, none⟩))) rfl (by kernel_rfl) (by kernel_rfl) (by kernel_rfl) (fun _ _ _ h => h) (Or.inl ⟨by rfl, by intro w hS; go_simp⟩) hHeld ?_
  try simp only [Act.put, List.setIfInBounds_toArray, List.set_cons_zero, List.set_cons_succ]
  refine wpAnyH_ready (rs := [25]) (by kernel_rfl) (by simp) ?_
  refine (AllReadyH.cons (o := { dst := some 107, op := Op.call { callee := Callee.value (Operand.func 8), args := #[Operand.tmp 106], argTypes := #[25] }, type := 31, pos := "outright.go:35", after := #[{ on := 24, ground := Ground.data }, { on := 22, ground := Ground.chain }, { on := 22, ground := Ground.guard }], guard := some (22, true) }) rfl (fun K hK => ?_) AllReadyH.nil)
  go_simp
  go_at_call 8
  refine (KD.out _ hHeld).mono ?_
  rintro e w4 ⟨rfl, hb4⟩
  go_wp2_with fail
  refine hK.out _ _ (hHeld.trans (hb4.mono hHeld.size)) (fun hHeld2 => ?_)
  clear hK K hHeld
  have hHeld := hHeld2
  clear hHeld2
  try simp only [Act.put, List.setIfInBounds_toArray, List.set_cons_zero, List.set_cons_succ]
  refine wpAnyH_take (i := 27) (oi := { dst := some 109, op := Op.binOp BinOp.eql 3 (Operand.tmp 107) (Operand.tmp 108) 3, type := 4, pos := "outright.go:35", after := #[{ on := 25, ground := Ground.data }, { on := 26, ground := Ground.data }, { on := 22, ground := Ground.guard }], guard := some (22, true) }) (v := .bool true) rfl (by kernel_rfl) (by kernel_rfl) (by kernel_rfl) (fun _ _ _ h => h) (Or.inl ⟨by rfl, by intro w hS; go_simp⟩) hHeld ?_
  try simp only [Act.put, List.setIfInBounds_toArray, List.set_cons_zero, List.set_cons_succ]
  refine wpAnyH_take (i := 28) (oi := { dst := some 110, op := Op.pick (Operand.tmp 104) (Operand.tmp 109) (Operand.const (Value.bool false)), type := 4, pos := "outright.go:35", after := #[{ on := 22, ground := Ground.data }, { on := 27, ground := Ground.data }], guard := none }) (v := .bool true) rfl (by kernel_rfl) (by kernel_rfl) (by kernel_rfl) (fun _ _ _ h => h) (Or.inl ⟨by rfl, by intro w hS; go_simp⟩) hHeld ?_
  try simp only [Act.put, List.setIfInBounds_toArray, List.set_cons_zero, List.set_cons_succ]
  refine wpAnyH_take (i := 29) (oi := { dst := some 6, op := Op.assign (Operand.tmp 110), type := 4, pos := "outright.go:35", after := #[{ on := 28, ground := Ground.data }, { on := 25, ground := Ground.chain }, { on := 0, ground := Ground.phase }, { on := 1, ground := Ground.phase }, { on := 2, ground := Ground.phase }, { on := 3, ground := Ground.phase }, { on := 4, ground := Ground.phase }, { on := 5, ground := Ground.phase }, { on := 6, ground := Ground.phase }, { on := 7, ground := Ground.phase }, { on := 8, ground := Ground.phase }, { on := 9, ground := Ground.phase }, { on := 10, ground := Ground.phase }, { on := 11, ground := Ground.phase }, { on := 12, ground := Ground.phase }, { on := 13, ground := Ground.phase }, { on := 14, ground := Ground.phase }, { on := 15, ground := Ground.phase }, { on := 16, ground := Ground.phase }, { on := 17, ground := Ground.phase }, { on := 18, ground := Ground.phase }, { on := 19, ground := Ground.phase }, { on := 20, ground := Ground.phase }, { on := 21, ground := Ground.phase }, { on := 22, ground := Ground.phase }, { on := 23, ground := Ground.phase }, { on := 24, ground := Ground.phase }, { on := 25, ground := Ground.phase }, { on := 26, ground := Ground.phase }, { on := 27, ground := Ground.phase }, { on := 28, ground := Ground.phase }], guard := none }) (v := .bool true) rfl (by kernel_rfl) (by kernel_rfl) (by kernel_rfl) (fun _ _ _ h => h) (Or.inl ⟨by rfl, by intro w hS; go_simp⟩) hHeld ?_
  try simp only [Act.put, List.setIfInBounds_toArray, List.set_cons_zero, List.set_cons_succ]
  refine wpAnyH_done (by kernel_rfl) ?_ _
  refine NoPanic.normal ?_
  have HBz := hid hHeld
  clear hHeld
  go_wp2
  go_ret
  exact ⟨rfl, bel3 HB8.out HBz.out⟩
set_option maxRecDepth 100000 in
set_option maxHeartbeats 4000000 in
theorem faults_zero (w : World) (hT : TabP w) (c : ByteArray) (n : Int) (h0 : -9223372036854775808 ≤ n) (h1 : n ≤ 9223372036854775807) (hc : c.size ≤ 140737488351232) :
    Calls Tryd.prog 5 #[.string c, .int .i64 n, .int .i64 0] w fun r w' => r = .returned (.bool true) ∧ Below w.heap.size w w' := by
  have hO : ∀ (w : World), (binOp .eql 25 .nilIface .nilIface).run Tryd.prog w = .ok (.bool true) w := fun w => by kernel_rfl
  replace hT := hid hT
  go_enter Tryd.func5, Tryd.ntmps5
  go_wp2_with fail
  refine (wrap_zero w c n).mono ?_
  rintro _ wx ⟨rfl, hw⟩
  obtain rfl := hw.symm
  go_wp2_with fail
  refine (pwhere_any _ (hT.out.later (bel1 _ _)) c n h0 h1 hc).mono ?_
  rintro _ w3 ⟨rfl, hb3⟩
  have HB3 := hid (bel3 (bel1 w _) hb3)
  clear hb3
  go_wp2_with fail
  refine (rwhere_any w3 c n h0 h1 hc).mono ?_
  rintro _ w4 ⟨rfl, hb4⟩
  have HB4 := hid (bel3 HB3.out hb4)
  clear hb4
  go_wp2_with fail
  refine (code_nil w4).mono ?_
  rintro _ wx ⟨rfl, hw⟩
  obtain rfl := hw.symm
  go_wp2
  go_ret
  exact ⟨rfl, HB4.out⟩
theorem ledgerFaults_any (w : World) (hT : TabP w) (A : Nat → Addr) (hS : Sen w A) (c : ByteArray) (n : Int) (h0 : -9223372036854775808 ≤ n) (h1 : n ≤ 9223372036854775807) (hc : c.size ≤ 140737488351232) (e : Int) :
    Calls Tryd.prog 5 #[.string c, .int .i64 n, .int .i64 e] w fun r w' => r = .returned (.bool true) ∧ Below w.heap.size w w' := by
  by_cases he : e = 0
  · subst he
    exact faults_zero w hT c n h0 h1 hc
  · by_cases h : ∃ i, i < 20 ∧ e = nos i
    · obtain ⟨i, hi, rfl⟩ := h
      exact faults_aux w hT A hS c n h0 h1 hc _ he i hi (wrap_at w A hS c n i hi) (fun w => rfixed_at w i hi)
    · have hn : ∀ i, i < 20 → e ≠ nos i := fun i hi q => h ⟨i, hi, q⟩
      exact faults_aux w hT A hS c n h0 h1 hc e he 3 (by decide) (wrap_none w A hS c n e he hn) (fun w => rfixed_none w e hn)
end Go.Proofs.YtfogohpmphgkkaaDoor
