import Derived.Test.YtbjahdbmkcamoaaGreatDoorTf0
namespace Go.Proofs.YtbjahdbmkcamoaaGreatDoor
set_option linter.unusedVariables false
set_option linter.unusedSimpArgs false
open Go.RowKit
attribute [local go_sem ↓] Go.wp_at_zero Go.wp_at_succ

set_option maxRecDepth 100000 in
set_option maxHeartbeats 4000000 in
theorem freg11 (w8 w : World) (gb cb i L : Nat) (hi : i < L) (hL : L ≤ 1000000) (kbits : Int) (a : Nat) (haL : a < 256) (cs9 : List Value) {Q : Exit → Act → World → Prop} {u0 u1 u2 u3 u5 u6 u7 u8 u9 u10 u11 u12 u13 u14 u15 u16 u17 u18 u21 u22 u23 u24 u25 u26 u27 u28 u29 u30 u31 u32 u33 u34 u35 u36 u37 u38 u39 u40 u41 u42 u43 u44 u45 u46 u47 u48 u49 u50 u51 u52 u53 u54 u55 u56 u57 u58 u59 u60 u61 u62 u63 u64 u65 u66 u67 u68 u69 u70 u71 u72 u73 u74 u75 u76 u77 u78 u79 u80 u81 u82 u83 u84 u85 u86 u87 u88 u89 u90 u91 u92 u93 u94 u95 u96 u97 u98 u99 u100 u101 u102 u103 u104 u105 u106 u107 u108 u109 u110 u111 u112 u113 u114 u115 u116 u117 u118 u119 u120 u121 u122 u123 u124 u125 u126 u127 u128 u129 u130 u131 u132 u133 u134 u135 u136 : Value} (rw9 : w.heap[gb]? = some (.cells cs9.toArray 5 (0, 0))) (hi9 : i < cs9.length) (hc9 : cs9[i]? = some (.int .u8 (a : Nat))) (hgb : w8.heap.size ≤ gb) (hb9 : Below w8.heap.size w8 w)
    (HK : ∀ (r : Nat) (w' : World) (t72 t73 t74 t75 t76 t77 t78 t79 t80 t81 t82 : Value), 1 ≤ r → r ≤ 255 → w' = w.drew.setRow gb (cs9.set i (.int .u8 ((a ^^^ r : Nat) : Int))).toArray → Q .normal { tmps := #[u0, u1, u2, u3, .int .i64 kbits, u5, u6, u7, u8, u9, u10, u11, u12, u13, u14, u15, u16, u17, u18, .slice (some ⟨gb, 0, none⟩) L cb, .int .i64 i, u21, u22, u23, u24, u25, u26, u27, u28, u29, u30, u31, u32, u33, u34, u35, u36, u37, u38, u39, u40, u41, u42, u43, u44, u45, u46, u47, u48, u49, u50, u51, u52, u53, u54, u55, u56, u57, u58, u59, u60, u61, u62, u63, u64, u65, u66, u67, u68, u69, u70, u71, t72, t73, t74, t75, t76, t77, t78, t79, t80, t81, t82, u83, u84, u85, u86, u87, u88, u89, u90, u91, u92, u93, u94, u95, u96, u97, u98, u99, u100, u101, u102, u103, u104, u105, u106, u107, u108, u109, u110, u111, u112, u113, u114, u115, u116, u117, u118, u119, u120, u121, u122, u123, u124, u125, u126, u127, u128, u129, u130, u131, u132, u133, u134, u135, u136], defers := [] } w') :
    Code.wp Tryz.prog (Code.region 11 #[{ dst := some 72, op := Op.move (Operand.tmp 19), type := 30, pos := "law.go:517", after := #[], guard := none }, { dst := some 73, op := Op.move (Operand.tmp 20), type := 3, pos := "law.go:517", after := #[], guard := none }, { dst := some 74, op := Op.move (Operand.tmp 19), type := 30, pos := "law.go:517", after := #[], guard := none }, { dst := some 75, op := Op.move (Operand.tmp 20), type := 3, pos := "law.go:517", after := #[], guard := none }, { dst := some 76, op := Op.indexAddr 30 (Operand.tmp 74) (Operand.tmp 75), type := 0, pos := "law.go:517", after := #[{ on := 2, ground := Ground.data }, { on := 3, ground := Ground.data }], guard := none }, { dst := some 77, op := Op.load 5 (Operand.tmp 76), type := 5, pos := "law.go:517", after := #[{ on := 4, ground := Ground.data }], guard := none }, { dst := some 78, op := Op.move (Operand.tmp 4), type := 3, pos := "law.go:517", after := #[], guard := none }, { dst := some 79, op := Op.call { callee := Callee.value (Operand.func 4), args := #[Operand.tmp 78, Operand.const (Value.int IntKind.i64 1), Operand.const (Value.int IntKind.i64 255)], argTypes := #[3, 3, 3] }, type := 3, pos := "law.go:517", after := #[{ on := 6, ground := Ground.data }], guard := none }, { dst := some 80, op := Op.convert 3 5 (Operand.tmp 79), type := 5, pos := "law.go:517", after := #[{ on := 7, ground := Ground.data }], guard := none }, { dst := some 81, op := Op.binOp BinOp.xor 5 (Operand.tmp 77) (Operand.tmp 80) 5, type := 5, pos := "law.go:517", after := #[{ on := 5, ground := Ground.data }, { on := 8, ground := Ground.data }], guard := none }, { dst := some 82, op := Op.indexAddr 30 (Operand.tmp 72) (Operand.tmp 73), type := 0, pos := "law.go:517", after := #[{ on := 0, ground := Ground.data }, { on := 1, ground := Ground.data }, { on := 0, ground := Ground.phase }, { on := 1, ground := Ground.phase }, { on := 2, ground := Ground.phase }, { on := 3, ground := Ground.phase }, { on := 4, ground := Ground.phase }, { on := 5, ground := Ground.phase }, { on := 6, ground := Ground.phase }, { on := 7, ground := Ground.phase }, { on := 8, ground := Ground.phase }, { on := 9, ground := Ground.phase }], guard := none }, { dst := none, op := Op.store 5 (Operand.tmp 82) (Operand.tmp 81), type := 0, pos := "law.go:517", after := #[{ on := 10, ground := Ground.data }, { on := 9, ground := Ground.data }, { on := 7, ground := Ground.chain }, { on := 0, ground := Ground.phase }, { on := 1, ground := Ground.phase }, { on := 2, ground := Ground.phase }, { on := 3, ground := Ground.phase }, { on := 4, ground := Ground.phase }, { on := 5, ground := Ground.phase }, { on := 6, ground := Ground.phase }, { on := 7, ground := Ground.phase }, { on := 8, ground := Ground.phase }, { on := 9, ground := Ground.phase }], guard := none }] true) Q { tmps := #[u0, u1, u2, u3, .int .i64 kbits, u5, u6, u7, u8, u9, u10, u11, u12, u13, u14, u15, u16, u17, u18, .slice (some ⟨gb, 0, none⟩) L cb, .int .i64 i, u21, u22, u23, u24, u25, u26, u27, u28, u29, u30, u31, u32, u33, u34, u35, u36, u37, u38, u39, u40, u41, u42, u43, u44, u45, u46, u47, u48, u49, u50, u51, u52, u53, u54, u55, u56, u57, u58, u59, u60, u61, u62, u63, u64, u65, u66, u67, u68, u69, u70, u71, u72, u73, u74, u75, u76, u77, u78, u79, u80, u81, u82, u83, u84, u85, u86, u87, u88, u89, u90, u91, u92, u93, u94, u95, u96, u97, u98, u99, u100, u101, u102, u103, u104, u105, u106, u107, u108, u109, u110, u111, u112, u113, u114, u115, u116, u117, u118, u119, u120, u121, u122, u123, u124, u125, u126, u127, u128, u129, u130, u131, u132, u133, u134, u135, u136], defers := [] } w := by
  have KWb := hid (fun w1 => lwithin_255 kbits w1)
  have cell9 : w.drew.cell? ⟨gb, i, none⟩ = some (.int .u8 (a : Nat)) := by
    rw [show w.drew.cell? ⟨gb, i, none⟩ = w.cell? ⟨gb, i, none⟩ from rfl, cell_of_row _ _ _ _ _ _ rw9, List.getElem?_toArray]; exact hc9
  have i2 : (L : Int) ≤ 1000000 := by omega
  have i3 : (i : Int) < (L : Int) := by omega
  have i4 : (a : Int) < 256 := by omega
  refine wp_region_noPanic ?_
  refine wp_region_held_drew (S := (fun w' => Below w8.heap.size w8 w')) (by kernel_rfl) hb9.drew (fun hHeld => ?_)
  refine wpAnyH_take (i := 0) (oi := { dst := some 72, op := Op.move (Operand.tmp 19), type := 30, pos := "law.go:517", after := #[], guard := none }) (v := .slice (some ⟨gb, 0, none⟩) L cb) rfl (by kernel_rfl) (by kernel_rfl) (by kernel_rfl) (fun _ _ _ h => h) (Or.inl ⟨by rfl, by intro w hS; go_simp⟩) hHeld ?_
  try simp only [Act.put, List.setIfInBounds_toArray, List.set_cons_zero, List.set_cons_succ]
  refine wpAnyH_take (i := 1) (oi := { dst := some 73, op := Op.move (Operand.tmp 20), type := 3, pos := "law.go:517", after := #[], guard := none }) (v := .int .i64 i) rfl (by kernel_rfl) (by kernel_rfl) (by kernel_rfl) (fun _ _ _ h => h) (Or.inl ⟨by rfl, by intro w hS; go_simp⟩) hHeld ?_
  try simp only [Act.put, List.setIfInBounds_toArray, List.set_cons_zero, List.set_cons_succ]
  refine wpAnyH_take (i := 2) (oi := { dst := some 74, op := Op.move (Operand.tmp 19), type := 30, pos := "law.go:517", after := #[], guard := none }) (v := .slice (some ⟨gb, 0, none⟩) L cb) rfl (by kernel_rfl) (by kernel_rfl) (by kernel_rfl) (fun _ _ _ h => h) (Or.inl ⟨by rfl, by intro w hS; go_simp⟩) hHeld ?_
  try simp only [Act.put, List.setIfInBounds_toArray, List.set_cons_zero, List.set_cons_succ]
  refine wpAnyH_take (i := 3) (oi := { dst := some 75, op := Op.move (Operand.tmp 20), type := 3, pos := "law.go:517", after := #[], guard := none }) (v := .int .i64 i) rfl (by kernel_rfl) (by kernel_rfl) (by kernel_rfl) (fun _ _ _ h => h) (Or.inl ⟨by rfl, by intro w hS; go_simp⟩) hHeld ?_
  try simp only [Act.put, List.setIfInBounds_toArray, List.set_cons_zero, List.set_cons_succ]
  refine wpAnyH_take (i := 6) (oi := { dst := some 78, op := Op.move (Operand.tmp 4), type := 3, pos := "law.go:517", after := #[], guard := none }) (v := .int .i64 kbits) rfl (by kernel_rfl) (by kernel_rfl) (by kernel_rfl) (fun _ _ _ h => h) (Or.inl ⟨by rfl, by intro w hS; go_simp⟩) hHeld ?_
  try simp only [Act.put, List.setIfInBounds_toArray, List.set_cons_zero, List.set_cons_succ]
  refine wpAnyH_take (i := 4) (oi := { dst := some 76, op := Op.indexAddr 30 (Operand.tmp 74) (Operand.tmp 75), type := 0, pos := "law.go:517", after := #[{ on := 2, ground := Ground.data }, { on := 3, ground := Ground.data }], guard := none }) (v := .pointer (some ⟨gb, i, none⟩)) rfl (by kernel_rfl) (by kernel_rfl) (by kernel_rfl) (fun _ _ _ h => h) (Or.inl ⟨by rfl, by intro w hS; go_simp⟩) hHeld ?_
  try simp only [Act.put, List.setIfInBounds_toArray, List.set_cons_zero, List.set_cons_succ]
  refine wpAnyH_ready (rs := [5, 7]) (by kernel_rfl) (by simp) ?_
  refine (AllReadyH.cons (o := { dst := some 77, op := Op.load 5 (Operand.tmp 76), type := 5, pos := "law.go:517", after := #[{ on := 4, ground := Ground.data }], guard := none }) rfl (fun K hK => ?_) (AllReadyH.cons (o := { dst := some 79, op := Op.call { callee := Callee.value (Operand.func 4), args := #[Operand.tmp 78, Operand.const (Value.int IntKind.i64 1), Operand.const (Value.int IntKind.i64 255)], argTypes := #[3, 3, 3] }, type := 3, pos := "law.go:517", after := #[{ on := 6, ground := Ground.data }], guard := none }) rfl (fun K hK => ?_) AllReadyH.nil))
  · skip
    go_simp
    refine hK.out _ _ (hHeld) (fun hHeld2 => ?_)
    clear hK K hHeld
    have hHeld := hHeld2
    clear hHeld2
    try simp only [Act.put, List.setIfInBounds_toArray, List.set_cons_zero, List.set_cons_succ]
    refine wpAnyH_ready (rs := [7]) (by kernel_rfl) (by simp) ?_
    refine (AllReadyH.cons (o := { dst := some 79, op := Op.call { callee := Callee.value (Operand.func 4), args := #[Operand.tmp 78, Operand.const (Value.int IntKind.i64 1), Operand.const (Value.int IntKind.i64 255)], argTypes := #[3, 3, 3] }, type := 3, pos := "law.go:517", after := #[{ on := 6, ground := Ground.data }], guard := none }) rfl (fun K hK => ?_) AllReadyH.nil)
    go_simp
    go_at_call 4
    refine (KWb.out _).mono ?_
    rintro e w4 ⟨r, hr1, hr2, rfl, rfl⟩
    have i5 : (r : Int) ≤ 255 := by omega
    have xr := xor_u8 a r haL (by omega)
    have wr8 : IntKind.u8.wrap (r : Int) = (r : Int) := by rw [IntKind.wrap_u8]; omega
    go_wp2_with fail
    refine hK.out _ _ (hHeld) (fun hHeld2 => ?_)
    clear hK K hHeld
    have hHeld := hHeld2
    clear hHeld2
    try simp only [Act.put, List.setIfInBounds_toArray, List.set_cons_zero, List.set_cons_succ]
    refine wpAnyH_take (i := 8) (oi := { dst := some 80, op := Op.convert 3 5 (Operand.tmp 79), type := 5, pos := "law.go:517", after := #[{ on := 7, ground := Ground.data }], guard := none }) (v := .int .u8 (r : Nat)) rfl (by kernel_rfl) (by kernel_rfl) (by kernel_rfl) (fun _ _ _ h => h) (Or.inl ⟨by rfl, by intro w hS; go_simp⟩) hHeld ?_
    try simp only [Act.put, List.setIfInBounds_toArray, List.set_cons_zero, List.set_cons_succ]
    refine wpAnyH_take (i := 9) (oi := { dst := some 81, op := Op.binOp BinOp.xor 5 (Operand.tmp 77) (Operand.tmp 80) 5, type := 5, pos := "law.go:517", after := #[{ on := 5, ground := Ground.data }, { on := 8, ground := Ground.data }], guard := none }) (v := .int .u8 ((a ^^^ r : Nat) : Int)) rfl (by kernel_rfl) (by kernel_rfl) (by kernel_rfl) (fun _ _ _ h => h) (Or.inl ⟨by rfl, by intro w hS; go_simp⟩) hHeld ?_
    try simp only [Act.put, List.setIfInBounds_toArray, List.set_cons_zero, List.set_cons_succ]
    refine wpAnyH_take (i := 10) (oi := { dst := some 82, op := Op.indexAddr 30 (Operand.tmp 72) (Operand.tmp 73), type := 0, pos := "law.go:517", after := #[{ on := 0, ground := Ground.data }, { on := 1, ground := Ground.data }, { on := 0, ground := Ground.phase }, { on := 1, ground := Ground.phase }, { on := 2, ground := Ground.phase }, { on := 3, ground := Ground.phase }, { on := 4, ground := Ground.phase }, { on := 5, ground := Ground.phase }, { on := 6, ground := Ground.phase }, { on := 7, ground := Ground.phase }, { on := 8, ground := Ground.phase }, { on := 9, ground := Ground.phase }], guard := none }) (v := .pointer (some ⟨gb, i, none⟩)) rfl (by kernel_rfl) (by kernel_rfl) (by kernel_rfl) (fun _ _ _ h => h) (Or.inl ⟨by rfl, by intro w hS; go_simp⟩) hHeld ?_
    try simp only [Act.put, List.setIfInBounds_toArray, List.set_cons_zero, List.set_cons_succ]
    refine wpAnyH_ready (rs := [11]) (by kernel_rfl) (by simp) ?_
    refine (AllReadyH.cons (o := { dst := none, op := Op.store 5 (Operand.tmp 82) (Operand.tmp 81), type := 0, pos := "law.go:517", after := #[{ on := 10, ground := Ground.data }, { on := 9, ground := Ground.data }, { on := 7, ground := Ground.chain }, { on := 0, ground := Ground.phase }, { on := 1, ground := Ground.phase }, { on := 2, ground := Ground.phase }, { on := 3, ground := Ground.phase }, { on := 4, ground := Ground.phase }, { on := 5, ground := Ground.phase }, { on := 6, ground := Ground.phase }, { on := 7, ground := Ground.phase }, { on := 8, ground := Ground.phase }, { on := 9, ground := Ground.phase }], guard := none }) rfl (fun K hK => ?_) AllReadyH.nil)
    rw [if_pos (by rfl)]
    refine wp_storeC 5 _ _ rfl gb i _ rfl rfl cs9 5 rw9 hi9 Tryz.size5 rfl rfl ?_
    refine hK.out _ _ (below_setRow hHeld hgb _) (fun hHeld2 => ?_)
    clear hK K hHeld
    have hHeld := hHeld2
    clear hHeld2
    try simp only [Act.put, List.setIfInBounds_toArray, List.set_cons_zero, List.set_cons_succ]
    refine wpAnyH_done (by kernel_rfl) ?_ _
    refine NoPanic.normal ?_
    exact HK r _ _ _ _ _ _ _ _ _ _ _ _ hr1 hr2 rfl
  · skip
    go_simp
    go_at_call 4
    refine (KWb.out _).mono ?_
    rintro e w4 ⟨r, hr1, hr2, rfl, rfl⟩
    have i5 : (r : Int) ≤ 255 := by omega
    have xr := xor_u8 a r haL (by omega)
    have wr8 : IntKind.u8.wrap (r : Int) = (r : Int) := by rw [IntKind.wrap_u8]; omega
    go_wp2_with fail
    refine hK.out _ _ (hHeld) (fun hHeld2 => ?_)
    clear hK K hHeld
    have hHeld := hHeld2
    clear hHeld2
    try simp only [Act.put, List.setIfInBounds_toArray, List.set_cons_zero, List.set_cons_succ]
    refine wpAnyH_take (i := 8) (oi := { dst := some 80, op := Op.convert 3 5 (Operand.tmp 79), type := 5, pos := "law.go:517", after := #[{ on := 7, ground := Ground.data }], guard := none }) (v := .int .u8 (r : Nat)) rfl (by kernel_rfl) (by kernel_rfl) (by kernel_rfl) (fun _ _ _ h => h) (Or.inl ⟨by rfl, by intro w hS; go_simp⟩) hHeld ?_
    try simp only [Act.put, List.setIfInBounds_toArray, List.set_cons_zero, List.set_cons_succ]
    refine wpAnyH_ready (rs := [5]) (by kernel_rfl) (by simp) ?_
    refine (AllReadyH.cons (o := { dst := some 77, op := Op.load 5 (Operand.tmp 76), type := 5, pos := "law.go:517", after := #[{ on := 4, ground := Ground.data }], guard := none }) rfl (fun K hK => ?_) AllReadyH.nil)
    go_simp
    refine hK.out _ _ (hHeld) (fun hHeld2 => ?_)
    clear hK K hHeld
    have hHeld := hHeld2
    clear hHeld2
    try simp only [Act.put, List.setIfInBounds_toArray, List.set_cons_zero, List.set_cons_succ]
    refine wpAnyH_take (i := 9) (oi := { dst := some 81, op := Op.binOp BinOp.xor 5 (Operand.tmp 77) (Operand.tmp 80) 5, type := 5, pos := "law.go:517", after := #[{ on := 5, ground := Ground.data }, { on := 8, ground := Ground.data }], guard := none }) (v := .int .u8 ((a ^^^ r : Nat) : Int)) rfl (by kernel_rfl) (by kernel_rfl) (by kernel_rfl) (fun _ _ _ h => h) (Or.inl ⟨by rfl, by intro w hS; go_simp⟩) hHeld ?_
    try simp only [Act.put, List.setIfInBounds_toArray, List.set_cons_zero, List.set_cons_succ]
    refine wpAnyH_take (i := 10) (oi := { dst := some 82, op := Op.indexAddr 30 (Operand.tmp 72) (Operand.tmp 73), type := 0, pos := "law.go:517", after := #[{ on := 0, ground := Ground.data }, { on := 1, ground := Ground.data }, { on := 0, ground := Ground.phase }, { on := 1, ground := Ground.phase }, { on := 2, ground := Ground.phase }, { on := 3, ground := Ground.phase }, { on := 4, ground := Ground.phase }, { on := 5, ground := Ground.phase }, { on := 6, ground := Ground.phase }, { on := 7, ground := Ground.phase }, { on := 8, ground := Ground.phase }, { on := 9, ground := Ground.phase }], guard := none }) (v := .pointer (some ⟨gb, i, none⟩)) rfl (by kernel_rfl) (by kernel_rfl) (by kernel_rfl) (fun _ _ _ h => h) (Or.inl ⟨by rfl, by intro w hS; go_simp⟩) hHeld ?_
    try simp only [Act.put, List.setIfInBounds_toArray, List.set_cons_zero, List.set_cons_succ]
    refine wpAnyH_ready (rs := [11]) (by kernel_rfl) (by simp) ?_
    refine (AllReadyH.cons (o := { dst := none, op := Op.store 5 (Operand.tmp 82) (Operand.tmp 81), type := 0, pos := "law.go:517", after := #[{ on := 10, ground := Ground.data }, { on := 9, ground := Ground.data }, { on := 7, ground := Ground.chain }, { on := 0, ground := Ground.phase }, { on := 1, ground := Ground.phase }, { on := 2, ground := Ground.phase }, { on := 3, ground := Ground.phase }, { on := 4, ground := Ground.phase }, { on := 5, ground := Ground.phase }, { on := 6, ground := Ground.phase }, { on := 7, ground := Ground.phase }, { on := 8, ground := Ground.phase }, { on := 9, ground := Ground.phase }], guard := none }) rfl (fun K hK => ?_) AllReadyH.nil)
    rw [if_pos (by rfl)]
    refine wp_storeC 5 _ _ rfl gb i _ rfl rfl cs9 5 rw9 hi9 Tryz.size5 rfl rfl ?_
    refine hK.out _ _ (below_setRow hHeld hgb _) (fun hHeld2 => ?_)
    clear hK K hHeld
    have hHeld := hHeld2
    clear hHeld2
    try simp only [Act.put, List.setIfInBounds_toArray, List.set_cons_zero, List.set_cons_succ]
    refine wpAnyH_done (by kernel_rfl) ?_ _
    refine NoPanic.normal ?_
    exact HK r _ _ _ _ _ _ _ _ _ _ _ _ hr1 hr2 rfl
set_option maxRecDepth 100000 in
set_option maxHeartbeats 4000000 in
theorem freg12 (w0 w : World) (n : Nat) (RT ks t2 : List Int) (hr : RT.length = 32) (hk : ks.length = 32) (B7 B13 gb cb L : Nat) (vE : Int) (vF2 : Bool) (vV2 : List Int) {Q : Exit → Act → World → Prop} {u0 u1 u2 u3 u4 u5 u6 u8 u9 u10 u12 u14 u15 u16 u17 u18 u20 u21 u22 u23 u24 u25 u26 u27 u28 u29 u30 u31 u32 u33 u34 u35 u36 u37 u38 u39 u40 u41 u42 u43 u44 u45 u46 u47 u48 u49 u50 u51 u52 u53 u54 u55 u56 u57 u58 u59 u60 u61 u62 u63 u64 u65 u66 u67 u68 u69 u70 u71 u72 u73 u74 u75 u76 u77 u78 u79 u80 u81 u82 u83 u84 u85 u86 u87 u88 u89 u90 u91 u92 u93 u94 u95 u96 u97 u98 u99 u100 u101 u102 u103 u104 u105 u106 u107 u108 u109 u110 u111 u112 u113 u114 u115 u116 u117 u118 u119 u120 u121 u122 u123 u124 u125 u126 u127 u128 u129 u130 u131 u132 u133 u134 u135 u136 : Value} (d10 : BK w0 w [(B13, ints .u8 RT, 28), (B7, ints .u8 ks, 24)]) (KC : Hid (∀ w1, Below w.heap.size w w1 → Calls Tryz.prog 10 #[.slice (some ⟨gb, 0, none⟩) L cb] w1 fun e w' => ∃ v, e = .returned v ∧ Own w' w1.heap.size v t2 ∧ Below w1.heap.size w1 w')) (KV : Hid (∀ w1, Below w.heap.size w w1 → ∀ sp cap, Src w1 sp cap t2 → Calls Tryz.prog 8 #[.int .i64 n, .agg (ints .u8 RT).toArray, .agg (ints .u8 ks).toArray, .slice sp t2.length cap] w1 fun e w' => ∃ s c, e = .returned (.tuple #[.agg (ansC vF2 (.slice s vV2.length c)).toArray, .int .i64 vE]) ∧ Own w' w1.heap.size (.slice s vV2.length c) vV2 ∧ Below w1.heap.size w1 w'))
    (HK : ∀ (z : Unit) (w' : World) (t84 t85 t86 t87 t88 t89 t83 t90 t91 : Value), BK w0 w' [(B13, ints .u8 RT, 28), (B7, ints .u8 ks, 24)] → Below w.heap.size w w' → Q .normal { tmps := #[u0, u1, u2, u3, u4, u5, u6, .pointer (some ⟨B7, 0, none⟩), u8, u9, u10, .int .i64 n, u12, .pointer (some ⟨B13, 0, none⟩), u14, u15, .int .i64 vE, u17, u18, .slice (some ⟨gb, 0, none⟩) L cb, u20, u21, u22, u23, u24, u25, u26, u27, u28, u29, u30, u31, u32, u33, u34, u35, u36, u37, u38, u39, u40, u41, u42, u43, u44, u45, u46, u47, u48, u49, u50, u51, u52, u53, u54, u55, u56, u57, u58, u59, u60, u61, u62, u63, u64, u65, u66, u67, u68, u69, u70, u71, u72, u73, u74, u75, u76, u77, u78, u79, u80, u81, u82, t83, t84, t85, t86, t87, t88, t89, t90, t91, u92, u93, u94, u95, u96, u97, u98, u99, u100, u101, u102, u103, u104, u105, u106, u107, u108, u109, u110, u111, u112, u113, u114, u115, u116, u117, u118, u119, u120, u121, u122, u123, u124, u125, u126, u127, u128, u129, u130, u131, u132, u133, u134, u135, u136], defers := [] } w') :
    Code.wp Tryz.prog (Code.region 12 #[{ dst := some 84, op := Op.move (Operand.tmp 11), type := 3, pos := "law.go:518", after := #[], guard := none }, { dst := some 85, op := Op.load 28 (Operand.tmp 13), type := 28, pos := "law.go:518", after := #[], guard := none }, { dst := some 86, op := Op.load 24 (Operand.tmp 7), type := 24, pos := "law.go:518", after := #[], guard := none }, { dst := some 87, op := Op.move (Operand.tmp 19), type := 30, pos := "law.go:518", after := #[], guard := none }, { dst := some 88, op := Op.call { callee := Callee.value (Operand.func 10), args := #[Operand.tmp 87], argTypes := #[30] }, type := 30, pos := "law.go:518", after := #[{ on := 3, ground := Ground.data }], guard := none }, { dst := some 89, op := Op.call { callee := Callee.value (Operand.func 8), args := #[Operand.tmp 84, Operand.tmp 85, Operand.tmp 86, Operand.tmp 88], argTypes := #[3, 28, 24, 30] }, type := 35, pos := "law.go:518", after := #[{ on := 0, ground := Ground.data }, { on := 1, ground := Ground.data }, { on := 2, ground := Ground.data }, { on := 4, ground := Ground.data }, { on := 4, ground := Ground.chain }], guard := none }, { dst := some 83, op := Op.move (Operand.tmp 89), type := 35, pos := "law.go:518", after := #[{ on := 5, ground := Ground.data }], guard := none }, { dst := some 90, op := Op.extract (Operand.tmp 83) 0, type := 33, pos := "law.go:518", after := #[{ on := 6, ground := Ground.data }], guard := none }, { dst := some 91, op := Op.extract (Operand.tmp 83) 1, type := 34, pos := "law.go:518", after := #[{ on := 6, ground := Ground.data }], guard := none }, { dst := some 16, op := Op.assign (Operand.tmp 91), type := 34, pos := "law.go:518", after := #[{ on := 8, ground := Ground.data }, { on := 5, ground := Ground.chain }, { on := 0, ground := Ground.phase }, { on := 1, ground := Ground.phase }, { on := 2, ground := Ground.phase }, { on := 3, ground := Ground.phase }, { on := 4, ground := Ground.phase }, { on := 5, ground := Ground.phase }, { on := 6, ground := Ground.phase }, { on := 7, ground := Ground.phase }, { on := 8, ground := Ground.phase }], guard := none }] true) Q { tmps := #[u0, u1, u2, u3, u4, u5, u6, .pointer (some ⟨B7, 0, none⟩), u8, u9, u10, .int .i64 n, u12, .pointer (some ⟨B13, 0, none⟩), u14, u15, u16, u17, u18, .slice (some ⟨gb, 0, none⟩) L cb, u20, u21, u22, u23, u24, u25, u26, u27, u28, u29, u30, u31, u32, u33, u34, u35, u36, u37, u38, u39, u40, u41, u42, u43, u44, u45, u46, u47, u48, u49, u50, u51, u52, u53, u54, u55, u56, u57, u58, u59, u60, u61, u62, u63, u64, u65, u66, u67, u68, u69, u70, u71, u72, u73, u74, u75, u76, u77, u78, u79, u80, u81, u82, u83, u84, u85, u86, u87, u88, u89, u90, u91, u92, u93, u94, u95, u96, u97, u98, u99, u100, u101, u102, u103, u104, u105, u106, u107, u108, u109, u110, u111, u112, u113, u114, u115, u116, u117, u118, u119, u120, u121, u122, u123, u124, u125, u126, u127, u128, u129, u130, u131, u132, u133, u134, u135, u136], defers := [] } w := by
  have LKc := hid (show (Tryz.prog.info? 24).map (·.size) = some (ints .u8 ks).length by rw [Tryz.sizeKy, ints_len, hk])
  have LRc := hid (show (Tryz.prog.info? 28).map (·.size) = some (ints .u8 RT).length by rw [Tryz.sizeD, ints_len, hr])
  refine wp_region_noPanic ?_
  refine wp_region_held_drew (S := (fun w' => BK w0 w' [(B13, ints .u8 RT, 28), (B7, ints .u8 ks, 24)] ∧ Below w.heap.size w w')) (by kernel_rfl) ⟨d10.drew, (Below.refl _ _).drew⟩ (fun hHeld => ?_)
  refine wpAnyH_take (i := 0) (oi := { dst := some 84, op := Op.move (Operand.tmp 11), type := 3, pos := "law.go:518", after := #[], guard := none }) (v := .int .i64 n) rfl (by kernel_rfl) (by kernel_rfl) (by kernel_rfl) (fun _ _ _ h => h) (Or.inl ⟨by rfl, by intro w hS; go_simp⟩) hHeld ?_
  try simp only [Act.put, List.setIfInBounds_toArray, List.set_cons_zero, List.set_cons_succ]
  refine wpAnyH_take (i := 1) (oi := { dst := some 85, op := Op.load 28 (Operand.tmp 13), type := 28, pos := "law.go:518", after := #[], guard := none }) (v := .agg (ints .u8 RT).toArray) rfl (by kernel_rfl) (by kernel_rfl) (by kernel_rfl) (fun _ _ _ h => h) (yieldsIf_load_mid (by rfl) 28 _ rfl B13 (0) rfl (ints .u8 RT) _ (fun w hS => hS.1.rng (.head _) (fun j x hx => by rw [Nat.zero_add]; exact hx)) Tryz.underlying28 rfl LRc.out) hHeld ?_
  try simp only [Act.put, List.setIfInBounds_toArray, List.set_cons_zero, List.set_cons_succ]
  refine wpAnyH_take (i := 2) (oi := { dst := some 86, op := Op.load 24 (Operand.tmp 7), type := 24, pos := "law.go:518", after := #[], guard := none }) (v := .agg (ints .u8 ks).toArray) rfl (by kernel_rfl) (by kernel_rfl) (by kernel_rfl) (fun _ _ _ h => h) (yieldsIf_load_mid (by rfl) 24 _ rfl B7 (0) rfl (ints .u8 ks) _ (fun w hS => hS.1.rng (.tail _ (.head _)) (fun j x hx => by rw [Nat.zero_add]; exact hx)) Tryz.underlying24 rfl LKc.out) hHeld ?_
  try simp only [Act.put, List.setIfInBounds_toArray, List.set_cons_zero, List.set_cons_succ]
  refine wpAnyH_take (i := 3) (oi := { dst := some 87, op := Op.move (Operand.tmp 19), type := 30, pos := "law.go:518", after := #[], guard := none }) (v := .slice (some ⟨gb, 0, none⟩) L cb) rfl (by kernel_rfl) (by kernel_rfl) (by kernel_rfl) (fun _ _ _ h => h) (Or.inl ⟨by rfl, by intro w hS; go_simp⟩) hHeld ?_
  try simp only [Act.put, List.setIfInBounds_toArray, List.set_cons_zero, List.set_cons_succ]
  refine wpAnyH_ready (rs := [4]) (by kernel_rfl) (by simp) ?_
  refine (AllReadyH.cons (o := { dst := some 88, op := Op.call { callee := Callee.value (Operand.func 10), args := #[Operand.tmp 87], argTypes := #[30] }, type := 30, pos := "law.go:518", after := #[{ on := 3, ground := Ground.data }], guard := none }) rfl (fun K hK => ?_) AllReadyH.nil)
  go_simp
  go_at_call 10
  refine (KC.out _ hHeld.2).mono ?_
  rintro e wA ⟨vA, rfl, hOA, hbA⟩
  obtain ⟨sA, cA, rfl, hSA, -⟩ := hOA.form
  go_wp2_with fail
  refine hK.out _ _ (⟨hHeld.1.call hbA, hHeld.2.trans (hbA.mono hHeld.2.size)⟩) (fun hHeld2 => ?_)
  clear hK K hHeld
  have hHeld := hHeld2
  clear hHeld2
  try simp only [Act.put, List.setIfInBounds_toArray, List.set_cons_zero, List.set_cons_succ]
  refine wpAnyH_ready (rs := [5]) (by kernel_rfl) (by simp) ?_
  refine (AllReadyH.cons (o := { dst := some 89, op := Op.call { callee := Callee.value (Operand.func 8), args := #[Operand.tmp 84, Operand.tmp 85, Operand.tmp 86, Operand.tmp 88], argTypes := #[3, 28, 24, 30] }, type := 35, pos := "law.go:518", after := #[{ on := 0, ground := Ground.data }, { on := 1, ground := Ground.data }, { on := 2, ground := Ground.data }, { on := 4, ground := Ground.data }, { on := 4, ground := Ground.chain }], guard := none }) rfl (fun K hK => ?_) AllReadyH.nil)
  go_simp
  go_at_call 8
  refine (KV.out _ hHeld.2 _ _ hSA).mono ?_
  rintro e wB ⟨s5, c5, rfl, hOB, hbB⟩
  go_wp2_with fail
  refine hK.out _ _ (⟨hHeld.1.call hbB, hHeld.2.trans (hbB.mono hHeld.2.size)⟩) (fun hHeld2 => ?_)
  clear hK K hHeld
  have hHeld := hHeld2
  clear hHeld2
  try simp only [Act.put, List.setIfInBounds_toArray, List.set_cons_zero, List.set_cons_succ]
  refine wpAnyH_take (i := 6) (oi := { dst := some 83, op := Op.move (Operand.tmp 89), type := 35, pos := "law.go:518", after := #[{ on := 5, ground := Ground.data }], guard := none }) (v := .tuple #[.agg (ansC vF2 (.slice s5 vV2.length c5)).toArray, .int .i64 vE]) rfl (by kernel_rfl) (by kernel_rfl) (by kernel_rfl) (fun _ _ _ h => h) (Or.inl ⟨by rfl, by intro w hS; go_simp⟩) hHeld ?_
  try simp only [Act.put, List.setIfInBounds_toArray, List.set_cons_zero, List.set_cons_succ]
  refine wpAnyH_take (i := 7) (oi := { dst := some 90, op := Op.extract (Operand.tmp 83) 0, type := 33, pos := "law.go:518", after := #[{ on := 6, ground := Ground.data }], guard := none }) (v := .agg (ansC vF2 (.slice s5 vV2.length c5)).toArray) rfl (by kernel_rfl) (by kernel_rfl) (by kernel_rfl) (fun _ _ _ h => h) (Or.inl ⟨by rfl, by intro w hS; go_simp⟩) hHeld ?_
  try simp only [Act.put, List.setIfInBounds_toArray, List.set_cons_zero, List.set_cons_succ]
  refine wpAnyH_take (i := 8) (oi := { dst := some 91, op := Op.extract (Operand.tmp 83) 1, type := 34, pos := "law.go:518", after := #[{ on := 6, ground := Ground.data }], guard := none }) (v := .int .i64 vE) rfl (by kernel_rfl) (by kernel_rfl) (by kernel_rfl) (fun _ _ _ h => h) (Or.inl ⟨by rfl, by intro w hS; go_simp⟩) hHeld ?_
  try simp only [Act.put, List.setIfInBounds_toArray, List.set_cons_zero, List.set_cons_succ]
  refine wpAnyH_take (i := 9) (oi := { dst := some 16, op := Op.assign (Operand.tmp 91), type := 34, pos := "law.go:518", after := #[{ on := 8, ground := Ground.data }, { on := 5, ground := Ground.chain }, { on := 0, ground := Ground.phase }, { on := 1, ground := Ground.phase }, { on := 2, ground := Ground.phase }, { on := 3, ground := Ground.phase }, { on := 4, ground := Ground.phase }, { on := 5, ground := Ground.phase }, { on := 6, ground := Ground.phase }, { on := 7, ground := Ground.phase }, { on := 8, ground := Ground.phase }], guard := none }) (v := .int .i64 vE) rfl (by kernel_rfl) (by kernel_rfl) (by kernel_rfl) (fun _ _ _ h => h) (Or.inl ⟨by rfl, by intro w hS; go_simp⟩) hHeld ?_
  try simp only [Act.put, List.setIfInBounds_toArray, List.set_cons_zero, List.set_cons_succ]
  refine wpAnyH_done (by kernel_rfl) ?_ _
  refine NoPanic.normal ?_
  exact HK () _ _ _ _ _ _ _ _ _ _ hHeld.1 hHeld.2
end Go.Proofs.YtbjahdbmkcamoaaGreatDoor
