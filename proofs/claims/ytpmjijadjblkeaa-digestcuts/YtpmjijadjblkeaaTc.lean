import Derived.Test.YtpmjijadjblkeaaTb
namespace Go.Proofs.Ytpmjijadjblkeaa
open Go.RowKit
attribute [local go_sem ↓] Go.wp_at_zero Go.wp_at_succ

theorem cutV_get (cs : List Value) (hl : cs.length = 32) (n : Nat) (hn : n ≤ 32) (j : Nat) : (cutV cs n)[j]? = if j < n then cs[j]? else if j < 32 then some (.int .u8 0) else none := by
  simp only [cutV, splice, List.take_zero, List.nil_append, Nat.zero_add, List.length_take]
  by_cases c : j < n
  · rw [if_pos c, List.getElem?_append_left (by simp [hl]; omega), List.getElem?_take, if_pos c]
  · rw [if_neg c, List.getElem?_append_right (by simp; omega), zero32, List.getElem?_drop, List.getElem?_replicate, List.length_take, hl]
    by_cases d : j < 32
    · rw [if_pos d, if_pos (by omega)]
    · rw [if_neg d, if_neg (by omega)]
theorem cutV_cutV (cs : List Value) (hl : cs.length = 32) (a b : Nat) (ha : a ≤ 32) (hb : b ≤ 32) : cutV (cutV cs a) b = cutV cs (min a b) := by
  apply List.ext_getElem?; intro j
  rw [cutV_get _ (cutV_len cs a hl) b hb, cutV_get cs hl (min a b) (by omega), cutV_get cs hl a ha]
  by_cases c : j < b <;> by_cases d : j < a <;> simp [c, d] <;> (intro h; omega)
theorem kept_min (a b : Int) : min (kept a) (kept b) = kept (min a b) := by unfold kept; omega

theorem cutV_ints (zs : List Int) (n : Nat) : cutV (zs.map (Value.int .u8)) n = (splice (List.replicate 32 0) 0 (zs.take n)).map (Value.int .u8) := by
  simp [cutV, splice, zero32, List.map_take]
theorem eq_self (zs : List Int) (hl : zs.length = 32) (n : Nat) (w : World) :
    (Op.equalIn 10000 23 (.agg (cutV (zs.map (Value.int .u8)) n).toArray) (.agg (cutV (zs.map (Value.int .u8)) n).toArray)).run Try.prog w = .ok true w := by
  rw [cutV_ints, equalIn_ints Try.underlying23 Try.underlying5 Try.size5 .u8 _ _ (by rw [length_splice] <;> simp <;> omega) (by rw [length_splice] <;> simp <;> omega)]
  simp
theorem Try.guard23 : Try.prog.eqGuardType Try.prog.depth 23 = false := by kernel_rfl

set_option maxRecDepth 100000 in
set_option maxHeartbeats 400000 in
theorem law_lt (cs X Y : List Value) (hl : cs.length = 32) (hz1 : X.length = 32) (hz2 : Y.length = 32) (ho1 : ∀ v ∈ X, v.oneCell' = true) (ho2 : ∀ v ∈ Y, v.oneCell' = true)
    (hq1 : ∀ w, (Op.equalIn 10000 23 (.agg X.toArray) (.agg X.toArray)).run Try.prog w = .ok true w) (hq2 : ∀ w, (Op.equalIn 10000 23 (.agg Y.toArray) (.agg Y.toArray)).run Try.prog w = .ok true w)
    (a b : Int) (hab : b < a)
    (KC0 : Hid (∀ w, Calls Try.prog 4 #[.agg cs.toArray, .int .i64 a] w fun e w' => e = .returned (.agg X.toArray) ∧ Below w.heap.size w w'))
    (KC4 : Hid (∀ w, Calls Try.prog 4 #[.agg X.toArray, .int .i64 b] w fun e w' => e = .returned (.agg Y.toArray) ∧ Below w.heap.size w w'))
    (KC1 : Hid (∀ w, Calls Try.prog 5 #[.agg cs.toArray, .int .i64 a] w fun e w' => e = .returned (.agg X.toArray) ∧ Below w.heap.size w w'))
    (KC2 : Hid (∀ w, Calls Try.prog 5 #[.agg cs.toArray, .int .i64 b] w fun e w' => e = .returned (.agg Y.toArray) ∧ Below w.heap.size w w'))
    (KC3 : Hid (∀ w, Calls Try.prog 4 #[.agg cs.toArray, .int .i64 b] w fun e w' => e = .returned (.agg Y.toArray) ∧ Below w.heap.size w w')) (w : World) :
    Calls Try.prog 3 #[.agg cs.toArray, .int .i64 a, .int .i64 b] w fun e w' => e = .returned (.bool true) ∧ Below w.heap.size w w' := by
  have hi : (Try.prog.info? 23).map (·.size) = some cs.length := by rw [Try.size23, hl]
  go_enter Try.func3, Try.ntmps3
  go_wp2_with (first | refine wpList_load_row rfl 23 _ rfl _ rfl 23 _ _ _ (by exact hnew w _) Try.underlying23 rfl (by rw [hi]; simp) ?_)
  refine (KC0.out _).mono ?_
  rintro e w1 ⟨rfl, hb1⟩
  have hd1 := hbel hb1 (hnew w (Obj.cells cs.toArray 23)) (by simp)
  have hB1 : Below w.heap.size w w1 := ((Below.refl _ _).alloc (Nat.le_refl _) _).trans (hb1.mono (by simp))
  have hs1 : w.heap.size < w1.heap.size := hlt hd1
  clear hb1
  go_wp2_with (first | (refine wpList_store_row rfl 23 _ _ rfl _ _ rfl rfl 23 _ (by exact hnew _ _) (by rw [Try.size23]; simp [hz1]) (by simp [hz1]) (all_oneCell_toArray ho1) ?_; rw [setRow_alloc]) | refine wpList_load_row rfl 23 _ rfl _ rfl 23 _ _ _ (by exact hnew _ _) Try.underlying23 rfl (by rw [Try.size23]; simp [hz1]) ?_)
  refine (KC4.out _).mono ?_
  rintro e w2 ⟨rfl, hb2⟩
  have hd2 := hbel hb2 (hold hd1) (by simp; omega)
  have he2 := hbel hb2 (hnew w1 (Obj.cells X.toArray 23)) (by simp)
  have hB2 : Below w.heap.size w w2 := (hB1.alloc (by omega) _).trans (hb2.mono (by simp; omega))
  have hs2 : w1.heap.size < w2.heap.size := hlt he2
  clear hb2 hd1 hB1
  generalize hN1 : w1.heap.size = N1 at *
  go_wp2_with (first | (refine wpList_store_row rfl 23 _ _ rfl _ _ rfl rfl 23 _ (by exact hnew _ _) (by rw [Try.size23]; simp [hz2]) (by simp [hz2]) (all_oneCell_toArray ho2) ?_; rw [setRow_alloc]))
  have S1 := rng (hold (o := Obj.cells Y.toArray 23) hd2)
  have S2 := rng (hold (o := Obj.cells Y.toArray 23) he2)
  have S3 := rng (hnew w2 (Obj.cells Y.toArray 23))
  have hB3 : Below w.heap.size w (w2.alloc (Obj.cells Y.toArray 23)) := hB2.alloc (by omega) _
  have hs3 : w2.heap.size < (w2.alloc (Obj.cells Y.toArray 23)).heap.size := by simp
  have g1 := Try.guard23
  have hu := Try.underlying23
  have hi1 : (Try.prog.info? 23).map (·.size) = some X.length := by rw [Try.size23, hz1]
  have hi2 : (Try.prog.info? 23).map (·.size) = some Y.length := by rw [Try.size23, hz2]
  clear hd2 he2 hB2
  generalize (w2.alloc (Obj.cells Y.toArray 23)) = w3 at *
  have keepS : ∀ {u v : World}, (u.rangeAt w.heap.size 0 cs ∧ u.rangeAt N1 0 X ∧ u.rangeAt w2.heap.size 0 Y ∧ Below w.heap.size w u ∧ w2.heap.size < u.heap.size) → Below u.heap.size u v → (v.rangeAt w.heap.size 0 cs ∧ v.rangeAt N1 0 X ∧ v.rangeAt w2.heap.size 0 Y ∧ Below w.heap.size w v ∧ w2.heap.size < v.heap.size) :=
    fun h hb => ⟨rng_below h.1 hb (by omega), rng_below h.2.1 hb (by omega), rng_below h.2.2.1 hb (by omega), h.2.2.2.1.trans (hb.mono (by omega)), by have := hb.size; omega⟩
  refine wp_region_noPanic ?_
  refine wp_region_held_drew (S := fun w' => w'.rangeAt w.heap.size 0 cs ∧ w'.rangeAt N1 0 X ∧ w'.rangeAt w2.heap.size 0 Y ∧ Below w.heap.size w w' ∧ w2.heap.size < w'.heap.size) (by kernel_rfl) ⟨by simpa using S1, by simpa using S2, by simpa using S3, hB3.drew, hs3⟩ (fun hHeld => ?_)
  refine wpAnyH_take (i := 0) (oi := { dst := some 21, op := Op.load 23 (Operand.tmp 7), type := 23, pos := "law.go:107", after := #[], guard := none }) (v := .agg X.toArray) rfl (by kernel_rfl) (by kernel_rfl) (by kernel_rfl) (fun _ _ _ h => h) (yieldsIf_load_mid (by rfl) 23 _ rfl N1 0 rfl X _ (fun w hS => hS.2.1) hu rfl hi1) hHeld ?_
  try simp only [Act.put, List.setIfInBounds_toArray, List.set_cons_zero, List.set_cons_succ]
  refine wpAnyH_take (i := 1) (oi := { dst := some 22, op := Op.load 23 (Operand.tmp 3), type := 23, pos := "law.go:107", after := #[], guard := none }) (v := .agg cs.toArray) rfl (by kernel_rfl) (by kernel_rfl) (by kernel_rfl) (fun _ _ _ h => h) (yieldsIf_load_mid (by rfl) 23 _ rfl w.heap.size 0 rfl cs _ (fun w hS => hS.1) hu rfl hi) hHeld ?_
  try simp only [Act.put, List.setIfInBounds_toArray, List.set_cons_zero, List.set_cons_succ]
  refine wpAnyH_take (i := 2) (oi := { dst := some 23, op := Op.move (Operand.tmp 1), type := 3, pos := "law.go:107", after := #[], guard := none }) (v := .int .i64 a) rfl (by kernel_rfl) (by kernel_rfl) (by kernel_rfl) (fun _ _ _ h => h) (Or.inl ⟨by rfl, by intro w hS; go_simp⟩) hHeld ?_
  try simp only [Act.put, List.setIfInBounds_toArray, List.set_cons_zero, List.set_cons_succ]
  refine wpAnyH_ready (rs := [3]) (by kernel_rfl) (by simp) ?_
  refine AllReadyH.cons (o := { dst := some 24, op := Op.call { callee := Callee.value (Operand.func 5), args := #[Operand.tmp 22, Operand.tmp 23], argTypes := #[23, 3] }, type := 23, pos := "law.go:107", after := #[{ on := 1, ground := Ground.data }, { on := 2, ground := Ground.data }], guard := none }) rfl (fun K hK => ?_) AllReadyH.nil
  go_simp
  go_at_call 5
  refine (KC1.out _).mono ?_
  rintro e w4 ⟨rfl, hb4⟩
  go_wp2_with fail
  refine hK.out _ _ (keepS hHeld hb4) (fun hHeld2 => ?_)
  clear hK K hHeld hb4
  have hHeld := hHeld2
  clear hHeld2
  try simp only [Act.put, List.setIfInBounds_toArray, List.set_cons_zero, List.set_cons_succ]
  refine wpAnyH_take (i := 4) (oi := { dst := some 25, op := Op.binOp BinOp.eql 23 (Operand.tmp 21) (Operand.tmp 24) 23, type := 4, pos := "law.go:107", after := #[{ on := 0, ground := Ground.data }, { on := 3, ground := Ground.data }], guard := none }) (v := .bool true) rfl (by kernel_rfl) (by kernel_rfl) (by kernel_rfl) (fun _ _ _ h => h) (Or.inl ⟨by rfl, by intro w hS; go_simp⟩) hHeld ?_
  try simp only [Act.put, List.setIfInBounds_toArray, List.set_cons_zero, List.set_cons_succ]
  refine wpAnyH_take (i := 5) (oi := { dst := some 26, op := Op.move (Operand.tmp 25), type := 4, pos := "law.go:107", after := #[{ on := 4, ground := Ground.data }, { on := 3, ground := Ground.chain }], guard := none }) (v := .bool true) rfl (by kernel_rfl) (by kernel_rfl) (by kernel_rfl) (fun _ _ _ h => h) (Or.inl ⟨by rfl, by intro w hS; go_simp⟩) hHeld ?_
  try simp only [Act.put, List.setIfInBounds_toArray, List.set_cons_zero, List.set_cons_succ]
  refine wpAnyH_take (i := 6) (oi := { dst := some 27, op := Op.load 23 (Operand.tmp 8), type := 23, pos := "law.go:107", after := #[{ on := 5, ground := Ground.guard }], guard := some (5, true) }) (v := .agg Y.toArray) rfl (by kernel_rfl) (by kernel_rfl) (by kernel_rfl) (fun _ _ _ h => h) (yieldsIf_load_mid (by rfl) 23 _ rfl w2.heap.size 0 rfl Y _ (fun w hS => hS.2.2.1) hu rfl hi2) hHeld ?_
  try simp only [Act.put, List.setIfInBounds_toArray, List.set_cons_zero, List.set_cons_succ]
  refine wpAnyH_take (i := 7) (oi := { dst := some 28, op := Op.load 23 (Operand.tmp 3), type := 23, pos := "law.go:107", after := #[{ on := 5, ground := Ground.guard }], guard := some (5, true) }) (v := .agg cs.toArray) rfl (by kernel_rfl) (by kernel_rfl) (by kernel_rfl) (fun _ _ _ h => h) (yieldsIf_load_mid (by rfl) 23 _ rfl w.heap.size 0 rfl cs _ (fun w hS => hS.1) hu rfl hi) hHeld ?_
  try simp only [Act.put, List.setIfInBounds_toArray, List.set_cons_zero, List.set_cons_succ]
  refine wpAnyH_take (i := 8) (oi := { dst := some 29, op := Op.move (Operand.tmp 9), type := 3, pos := "law.go:107", after := #[{ on := 5, ground := Ground.guard }], guard := some (5, true) }) (v := .int .i64 b) rfl (by kernel_rfl) (by kernel_rfl) (by kernel_rfl) (fun _ _ _ h => h) (Or.inl ⟨by rfl, by intro w hS; go_simp⟩) hHeld ?_
  try simp only [Act.put, List.setIfInBounds_toArray, List.set_cons_zero, List.set_cons_succ]
  refine wpAnyH_ready (rs := [9]) (by kernel_rfl) (by simp) ?_
  refine AllReadyH.cons (o := { dst := some 30, op := Op.call { callee := Callee.value (Operand.func 5), args := #[Operand.tmp 28, Operand.tmp 29], argTypes := #[23, 3] }, type := 23, pos := "law.go:107", after := #[{ on := 7, ground := Ground.data }, { on := 8, ground := Ground.data }, { on := 5, ground := Ground.chain }, { on := 5, ground := Ground.guard }], guard := some (5, true) }) rfl (fun K hK => ?_) AllReadyH.nil
  go_simp
  go_at_call 5
  refine (KC2.out _).mono ?_
  rintro e w4 ⟨rfl, hb4⟩
  go_wp2_with fail
  refine hK.out _ _ (keepS hHeld hb4) (fun hHeld2 => ?_)
  clear hK K hHeld hb4
  have hHeld := hHeld2
  clear hHeld2
  try simp only [Act.put, List.setIfInBounds_toArray, List.set_cons_zero, List.set_cons_succ]
  refine wpAnyH_take (i := 10) (oi := { dst := some 31, op := Op.binOp BinOp.eql 23 (Operand.tmp 27) (Operand.tmp 30) 23, type := 4, pos := "law.go:107", after := #[{ on := 6, ground := Ground.data }, { on := 9, ground := Ground.data }, { on := 5, ground := Ground.guard }], guard := some (5, true) }) (v := .bool true) rfl (by kernel_rfl) (by kernel_rfl) (by kernel_rfl) (fun _ _ _ h => h) (Or.inl ⟨by rfl, by intro w hS; go_simp⟩) hHeld ?_
  try simp only [Act.put, List.setIfInBounds_toArray, List.set_cons_zero, List.set_cons_succ]
  refine wpAnyH_take (i := 11) (oi := { dst := some 32, op := Op.pick (Operand.tmp 26) (Operand.tmp 31) (Operand.const (Value.bool false)), type := 4, pos := "law.go:107", after := #[{ on := 5, ground := Ground.data }, { on := 10, ground := Ground.data }], guard := none }) (v := .bool true) rfl (by kernel_rfl) (by kernel_rfl) (by kernel_rfl) (fun _ _ _ h => h) (Or.inl ⟨by rfl, by intro w hS; go_simp⟩) hHeld ?_
  try simp only [Act.put, List.setIfInBounds_toArray, List.set_cons_zero, List.set_cons_succ]
  refine wpAnyH_take (i := 12) (oi := { dst := some 33, op := Op.move (Operand.tmp 32), type := 4, pos := "law.go:107", after := #[{ on := 11, ground := Ground.data }, { on := 9, ground := Ground.chain }], guard := none }) (v := .bool true) rfl (by kernel_rfl) (by kernel_rfl) (by kernel_rfl) (fun _ _ _ h => h) (Or.inl ⟨by rfl, by intro w hS; go_simp⟩) hHeld ?_
  try simp only [Act.put, List.setIfInBounds_toArray, List.set_cons_zero, List.set_cons_succ]
  refine wpAnyH_take (i := 13) (oi := { dst := some 34, op := Op.load 23 (Operand.tmp 8), type := 23, pos := "law.go:107", after := #[{ on := 12, ground := Ground.guard }], guard := some (12, true) }) (v := .agg Y.toArray) rfl (by kernel_rfl) (by kernel_rfl) (by kernel_rfl) (fun _ _ _ h => h) (yieldsIf_load_mid (by rfl) 23 _ rfl w2.heap.size 0 rfl Y _ (fun w hS => hS.2.2.1) hu rfl hi2) hHeld ?_
  try simp only [Act.put, List.setIfInBounds_toArray, List.set_cons_zero, List.set_cons_succ]
  refine wpAnyH_take (i := 14) (oi := { dst := some 35, op := Op.load 23 (Operand.tmp 3), type := 23, pos := "law.go:107", after := #[{ on := 12, ground := Ground.guard }], guard := some (12, true) }) (v := .agg cs.toArray) rfl (by kernel_rfl) (by kernel_rfl) (by kernel_rfl) (fun _ _ _ h => h) (yieldsIf_load_mid (by rfl) 23 _ rfl w.heap.size 0 rfl cs _ (fun w hS => hS.1) hu rfl hi) hHeld ?_
  try simp only [Act.put, List.setIfInBounds_toArray, List.set_cons_zero, List.set_cons_succ]
  refine wpAnyH_take (i := 15) (oi := { dst := some 36, op := Op.move (Operand.tmp 9), type := 3, pos := "law.go:107", after := #[{ on := 12, ground := Ground.guard }], guard := some (12, true) }) (v := .int .i64 b) rfl (by kernel_rfl) (by kernel_rfl) (by kernel_rfl) (fun _ _ _ h => h) (Or.inl ⟨by rfl, by intro w hS; go_simp⟩) hHeld ?_
  try simp only [Act.put, List.setIfInBounds_toArray, List.set_cons_zero, List.set_cons_succ]
  refine wpAnyH_ready (rs := [16]) (by kernel_rfl) (by simp) ?_
  refine AllReadyH.cons (o := { dst := some 37, op := Op.call { callee := Callee.value (Operand.func 4), args := #[Operand.tmp 35, Operand.tmp 36], argTypes := #[23, 3] }, type := 23, pos := "law.go:107", after := #[{ on := 14, ground := Ground.data }, { on := 15, ground := Ground.data }, { on := 12, ground := Ground.chain }, { on := 12, ground := Ground.guard }], guard := some (12, true) }) rfl (fun K hK => ?_) AllReadyH.nil
  go_simp
  go_at_call 4
  refine (KC3.out _).mono ?_
  rintro e w4 ⟨rfl, hb4⟩
  go_wp2_with fail
  refine hK.out _ _ (keepS hHeld hb4) (fun hHeld2 => ?_)
  clear hK K hHeld hb4
  have hHeld := hHeld2
  clear hHeld2
  try simp only [Act.put, List.setIfInBounds_toArray, List.set_cons_zero, List.set_cons_succ]
  refine wpAnyH_take (i := 17) (oi := { dst := some 38, op := Op.binOp BinOp.eql 23 (Operand.tmp 34) (Operand.tmp 37) 23, type := 4, pos := "law.go:107", after := #[{ on := 13, ground := Ground.data }, { on := 16, ground := Ground.data }, { on := 12, ground := Ground.guard }], guard := some (12, true) }) (v := .bool true) rfl (by kernel_rfl) (by kernel_rfl) (by kernel_rfl) (fun _ _ _ h => h) (Or.inl ⟨by rfl, by intro w hS; go_simp⟩) hHeld ?_
  try simp only [Act.put, List.setIfInBounds_toArray, List.set_cons_zero, List.set_cons_succ]
  refine wpAnyH_take (i := 18) (oi := { dst := some 39, op := Op.pick (Operand.tmp 33) (Operand.tmp 38) (Operand.const (Value.bool false)), type := 4, pos := "law.go:107", after := #[{ on := 12, ground := Ground.data }, { on := 17, ground := Ground.data }], guard := none }) (v := .bool true) rfl (by kernel_rfl) (by kernel_rfl) (by kernel_rfl) (fun _ _ _ h => h) (Or.inl ⟨by rfl, by intro w hS; go_simp⟩) hHeld ?_
  try simp only [Act.put, List.setIfInBounds_toArray, List.set_cons_zero, List.set_cons_succ]
  refine wpAnyH_take (i := 19) (oi := { dst := some 6, op := Op.assign (Operand.tmp 39), type := 4, pos := "law.go:107", after := #[{ on := 18, ground := Ground.data }, { on := 16, ground := Ground.chain }, { on := 0, ground := Ground.phase }, { on := 1, ground := Ground.phase }, { on := 2, ground := Ground.phase }, { on := 3, ground := Ground.phase }, { on := 4, ground := Ground.phase }, { on := 5, ground := Ground.phase }, { on := 6, ground := Ground.phase }, { on := 7, ground := Ground.phase }, { on := 8, ground := Ground.phase }, { on := 9, ground := Ground.phase }, { on := 10, ground := Ground.phase }, { on := 11, ground := Ground.phase }, { on := 12, ground := Ground.phase }, { on := 13, ground := Ground.phase }, { on := 14, ground := Ground.phase }, { on := 15, ground := Ground.phase }, { on := 16, ground := Ground.phase }, { on := 17, ground := Ground.phase }, { on := 18, ground := Ground.phase }], guard := none }) (v := .bool true) rfl (by kernel_rfl) (by kernel_rfl) (by kernel_rfl) (fun _ _ _ h => h) (Or.inl ⟨by rfl, by intro w hS; go_simp⟩) hHeld ?_
  try simp only [Act.put, List.setIfInBounds_toArray, List.set_cons_zero, List.set_cons_succ]
  refine wpAnyH_done (by kernel_rfl) ?_ _
  refine NoPanic.normal ?_
  go_wp2
  go_ret
  exact ⟨rfl, hHeld.2.2.2.1⟩

set_option maxRecDepth 100000 in
set_option maxHeartbeats 400000 in
theorem law_ge (cs X Y : List Value) (hl : cs.length = 32) (hz1 : X.length = 32) (hz2 : Y.length = 32) (ho1 : ∀ v ∈ X, v.oneCell' = true) (ho2 : ∀ v ∈ Y, v.oneCell' = true)
    (hq1 : ∀ w, (Op.equalIn 10000 23 (.agg X.toArray) (.agg X.toArray)).run Try.prog w = .ok true w) (hq2 : ∀ w, (Op.equalIn 10000 23 (.agg Y.toArray) (.agg Y.toArray)).run Try.prog w = .ok true w)
    (a b : Int) (hab : ¬ b < a)
    (KC0 : Hid (∀ w, Calls Try.prog 4 #[.agg cs.toArray, .int .i64 a] w fun e w' => e = .returned (.agg X.toArray) ∧ Below w.heap.size w w'))
    (KC4 : Hid (∀ w, Calls Try.prog 4 #[.agg X.toArray, .int .i64 b] w fun e w' => e = .returned (.agg Y.toArray) ∧ Below w.heap.size w w'))
    (KC1 : Hid (∀ w, Calls Try.prog 5 #[.agg cs.toArray, .int .i64 a] w fun e w' => e = .returned (.agg X.toArray) ∧ Below w.heap.size w w'))
    (KC2 : Hid (∀ w, Calls Try.prog 5 #[.agg cs.toArray, .int .i64 a] w fun e w' => e = .returned (.agg Y.toArray) ∧ Below w.heap.size w w'))
    (KC3 : Hid (∀ w, Calls Try.prog 4 #[.agg cs.toArray, .int .i64 a] w fun e w' => e = .returned (.agg Y.toArray) ∧ Below w.heap.size w w')) (w : World) :
    Calls Try.prog 3 #[.agg cs.toArray, .int .i64 a, .int .i64 b] w fun e w' => e = .returned (.bool true) ∧ Below w.heap.size w w' := by
  have hi : (Try.prog.info? 23).map (·.size) = some cs.length := by rw [Try.size23, hl]
  go_enter Try.func3, Try.ntmps3
  go_wp2_with (first | refine wpList_load_row rfl 23 _ rfl _ rfl 23 _ _ _ (by exact hnew w _) Try.underlying23 rfl (by rw [hi]; simp) ?_)
  refine (KC0.out _).mono ?_
  rintro e w1 ⟨rfl, hb1⟩
  have hd1 := hbel hb1 (hnew w (Obj.cells cs.toArray 23)) (by simp)
  have hB1 : Below w.heap.size w w1 := ((Below.refl _ _).alloc (Nat.le_refl _) _).trans (hb1.mono (by simp))
  have hs1 : w.heap.size < w1.heap.size := hlt hd1
  clear hb1
  go_wp2_with (first | (refine wpList_store_row rfl 23 _ _ rfl _ _ rfl rfl 23 _ (by exact hnew _ _) (by rw [Try.size23]; simp [hz1]) (by simp [hz1]) (all_oneCell_toArray ho1) ?_; rw [setRow_alloc]) | refine wpList_load_row rfl 23 _ rfl _ rfl 23 _ _ _ (by exact hnew _ _) Try.underlying23 rfl (by rw [Try.size23]; simp [hz1]) ?_)
  refine (KC4.out _).mono ?_
  rintro e w2 ⟨rfl, hb2⟩
  have hd2 := hbel hb2 (hold hd1) (by simp; omega)
  have he2 := hbel hb2 (hnew w1 (Obj.cells X.toArray 23)) (by simp)
  have hB2 : Below w.heap.size w w2 := (hB1.alloc (by omega) _).trans (hb2.mono (by simp; omega))
  have hs2 : w1.heap.size < w2.heap.size := hlt he2
  clear hb2 hd1 hB1
  generalize hN1 : w1.heap.size = N1 at *
  go_wp2_with (first | (refine wpList_store_row rfl 23 _ _ rfl _ _ rfl rfl 23 _ (by exact hnew _ _) (by rw [Try.size23]; simp [hz2]) (by simp [hz2]) (all_oneCell_toArray ho2) ?_; rw [setRow_alloc]))
  have S1 := rng (hold (o := Obj.cells Y.toArray 23) hd2)
  have S2 := rng (hold (o := Obj.cells Y.toArray 23) he2)
  have S3 := rng (hnew w2 (Obj.cells Y.toArray 23))
  have hB3 : Below w.heap.size w (w2.alloc (Obj.cells Y.toArray 23)) := hB2.alloc (by omega) _
  have hs3 : w2.heap.size < (w2.alloc (Obj.cells Y.toArray 23)).heap.size := by simp
  have g1 := Try.guard23
  have hu := Try.underlying23
  have hi1 : (Try.prog.info? 23).map (·.size) = some X.length := by rw [Try.size23, hz1]
  have hi2 : (Try.prog.info? 23).map (·.size) = some Y.length := by rw [Try.size23, hz2]
  clear hd2 he2 hB2
  generalize (w2.alloc (Obj.cells Y.toArray 23)) = w3 at *
  have keepS : ∀ {u v : World}, (u.rangeAt w.heap.size 0 cs ∧ u.rangeAt N1 0 X ∧ u.rangeAt w2.heap.size 0 Y ∧ Below w.heap.size w u ∧ w2.heap.size < u.heap.size) → Below u.heap.size u v → (v.rangeAt w.heap.size 0 cs ∧ v.rangeAt N1 0 X ∧ v.rangeAt w2.heap.size 0 Y ∧ Below w.heap.size w v ∧ w2.heap.size < v.heap.size) :=
    fun h hb => ⟨rng_below h.1 hb (by omega), rng_below h.2.1 hb (by omega), rng_below h.2.2.1 hb (by omega), h.2.2.2.1.trans (hb.mono (by omega)), by have := hb.size; omega⟩
  refine wp_region_noPanic ?_
  refine wp_region_held_drew (S := fun w' => w'.rangeAt w.heap.size 0 cs ∧ w'.rangeAt N1 0 X ∧ w'.rangeAt w2.heap.size 0 Y ∧ Below w.heap.size w w' ∧ w2.heap.size < w'.heap.size) (by kernel_rfl) ⟨by simpa using S1, by simpa using S2, by simpa using S3, hB3.drew, hs3⟩ (fun hHeld => ?_)
  refine wpAnyH_take (i := 0) (oi := { dst := some 21, op := Op.load 23 (Operand.tmp 7), type := 23, pos := "law.go:107", after := #[], guard := none }) (v := .agg X.toArray) rfl (by kernel_rfl) (by kernel_rfl) (by kernel_rfl) (fun _ _ _ h => h) (yieldsIf_load_mid (by rfl) 23 _ rfl N1 0 rfl X _ (fun w hS => hS.2.1) hu rfl hi1) hHeld ?_
  try simp only [Act.put, List.setIfInBounds_toArray, List.set_cons_zero, List.set_cons_succ]
  refine wpAnyH_take (i := 1) (oi := { dst := some 22, op := Op.load 23 (Operand.tmp 3), type := 23, pos := "law.go:107", after := #[], guard := none }) (v := .agg cs.toArray) rfl (by kernel_rfl) (by kernel_rfl) (by kernel_rfl) (fun _ _ _ h => h) (yieldsIf_load_mid (by rfl) 23 _ rfl w.heap.size 0 rfl cs _ (fun w hS => hS.1) hu rfl hi) hHeld ?_
  try simp only [Act.put, List.setIfInBounds_toArray, List.set_cons_zero, List.set_cons_succ]
  refine wpAnyH_take (i := 2) (oi := { dst := some 23, op := Op.move (Operand.tmp 1), type := 3, pos := "law.go:107", after := #[], guard := none }) (v := .int .i64 a) rfl (by kernel_rfl) (by kernel_rfl) (by kernel_rfl) (fun _ _ _ h => h) (Or.inl ⟨by rfl, by intro w hS; go_simp⟩) hHeld ?_
  try simp only [Act.put, List.setIfInBounds_toArray, List.set_cons_zero, List.set_cons_succ]
  refine wpAnyH_ready (rs := [3]) (by kernel_rfl) (by simp) ?_
  refine AllReadyH.cons (o := { dst := some 24, op := Op.call { callee := Callee.value (Operand.func 5), args := #[Operand.tmp 22, Operand.tmp 23], argTypes := #[23, 3] }, type := 23, pos := "law.go:107", after := #[{ on := 1, ground := Ground.data }, { on := 2, ground := Ground.data }], guard := none }) rfl (fun K hK => ?_) AllReadyH.nil
  go_simp
  go_at_call 5
  refine (KC1.out _).mono ?_
  rintro e w4 ⟨rfl, hb4⟩
  go_wp2_with fail
  refine hK.out _ _ (keepS hHeld hb4) (fun hHeld2 => ?_)
  clear hK K hHeld hb4
  have hHeld := hHeld2
  clear hHeld2
  try simp only [Act.put, List.setIfInBounds_toArray, List.set_cons_zero, List.set_cons_succ]
  refine wpAnyH_take (i := 4) (oi := { dst := some 25, op := Op.binOp BinOp.eql 23 (Operand.tmp 21) (Operand.tmp 24) 23, type := 4, pos := "law.go:107", after := #[{ on := 0, ground := Ground.data }, { on := 3, ground := Ground.data }], guard := none }) (v := .bool true) rfl (by kernel_rfl) (by kernel_rfl) (by kernel_rfl) (fun _ _ _ h => h) (Or.inl ⟨by rfl, by intro w hS; go_simp⟩) hHeld ?_
  try simp only [Act.put, List.setIfInBounds_toArray, List.set_cons_zero, List.set_cons_succ]
  refine wpAnyH_take (i := 5) (oi := { dst := some 26, op := Op.move (Operand.tmp 25), type := 4, pos := "law.go:107", after := #[{ on := 4, ground := Ground.data }, { on := 3, ground := Ground.chain }], guard := none }) (v := .bool true) rfl (by kernel_rfl) (by kernel_rfl) (by kernel_rfl) (fun _ _ _ h => h) (Or.inl ⟨by rfl, by intro w hS; go_simp⟩) hHeld ?_
  try simp only [Act.put, List.setIfInBounds_toArray, List.set_cons_zero, List.set_cons_succ]
  refine wpAnyH_take (i := 6) (oi := { dst := some 27, op := Op.load 23 (Operand.tmp 8), type := 23, pos := "law.go:107", after := #[{ on := 5, ground := Ground.guard }], guard := some (5, true) }) (v := .agg Y.toArray) rfl (by kernel_rfl) (by kernel_rfl) (by kernel_rfl) (fun _ _ _ h => h) (yieldsIf_load_mid (by rfl) 23 _ rfl w2.heap.size 0 rfl Y _ (fun w hS => hS.2.2.1) hu rfl hi2) hHeld ?_
  try simp only [Act.put, List.setIfInBounds_toArray, List.set_cons_zero, List.set_cons_succ]
  refine wpAnyH_take (i := 7) (oi := { dst := some 28, op := Op.load 23 (Operand.tmp 3), type := 23, pos := "law.go:107", after := #[{ on := 5, ground := Ground.guard }], guard := some (5, true) }) (v := .agg cs.toArray) rfl (by kernel_rfl) (by kernel_rfl) (by kernel_rfl) (fun _ _ _ h => h) (yieldsIf_load_mid (by rfl) 23 _ rfl w.heap.size 0 rfl cs _ (fun w hS => hS.1) hu rfl hi) hHeld ?_
  try simp only [Act.put, List.setIfInBounds_toArray, List.set_cons_zero, List.set_cons_succ]
  refine wpAnyH_take (i := 8) (oi := { dst := some 29, op := Op.move (Operand.tmp 9), type := 3, pos := "law.go:107", after := #[{ on := 5, ground := Ground.guard }], guard := some (5, true) }) (v := .int .i64 a) rfl (by kernel_rfl) (by kernel_rfl) (by kernel_rfl) (fun _ _ _ h => h) (Or.inl ⟨by rfl, by intro w hS; go_simp⟩) hHeld ?_
  try simp only [Act.put, List.setIfInBounds_toArray, List.set_cons_zero, List.set_cons_succ]
  refine wpAnyH_ready (rs := [9]) (by kernel_rfl) (by simp) ?_
  refine AllReadyH.cons (o := { dst := some 30, op := Op.call { callee := Callee.value (Operand.func 5), args := #[Operand.tmp 28, Operand.tmp 29], argTypes := #[23, 3] }, type := 23, pos := "law.go:107", after := #[{ on := 7, ground := Ground.data }, { on := 8, ground := Ground.data }, { on := 5, ground := Ground.chain }, { on := 5, ground := Ground.guard }], guard := some (5, true) }) rfl (fun K hK => ?_) AllReadyH.nil
  go_simp
  go_at_call 5
  refine (KC2.out _).mono ?_
  rintro e w4 ⟨rfl, hb4⟩
  go_wp2_with fail
  refine hK.out _ _ (keepS hHeld hb4) (fun hHeld2 => ?_)
  clear hK K hHeld hb4
  have hHeld := hHeld2
  clear hHeld2
  try simp only [Act.put, List.setIfInBounds_toArray, List.set_cons_zero, List.set_cons_succ]
  refine wpAnyH_take (i := 10) (oi := { dst := some 31, op := Op.binOp BinOp.eql 23 (Operand.tmp 27) (Operand.tmp 30) 23, type := 4, pos := "law.go:107", after := #[{ on := 6, ground := Ground.data }, { on := 9, ground := Ground.data }, { on := 5, ground := Ground.guard }], guard := some (5, true) }) (v := .bool true) rfl (by kernel_rfl) (by kernel_rfl) (by kernel_rfl) (fun _ _ _ h => h) (Or.inl ⟨by rfl, by intro w hS; go_simp⟩) hHeld ?_
  try simp only [Act.put, List.setIfInBounds_toArray, List.set_cons_zero, List.set_cons_succ]
  refine wpAnyH_take (i := 11) (oi := { dst := some 32, op := Op.pick (Operand.tmp 26) (Operand.tmp 31) (Operand.const (Value.bool false)), type := 4, pos := "law.go:107", after := #[{ on := 5, ground := Ground.data }, { on := 10, ground := Ground.data }], guard := none }) (v := .bool true) rfl (by kernel_rfl) (by kernel_rfl) (by kernel_rfl) (fun _ _ _ h => h) (Or.inl ⟨by rfl, by intro w hS; go_simp⟩) hHeld ?_
  try simp only [Act.put, List.setIfInBounds_toArray, List.set_cons_zero, List.set_cons_succ]
  refine wpAnyH_take (i := 12) (oi := { dst := some 33, op := Op.move (Operand.tmp 32), type := 4, pos := "law.go:107", after := #[{ on := 11, ground := Ground.data }, { on := 9, ground := Ground.chain }], guard := none }) (v := .bool true) rfl (by kernel_rfl) (by kernel_rfl) (by kernel_rfl) (fun _ _ _ h => h) (Or.inl ⟨by rfl, by intro w hS; go_simp⟩) hHeld ?_
  try simp only [Act.put, List.setIfInBounds_toArray, List.set_cons_zero, List.set_cons_succ]
  refine wpAnyH_take (i := 13) (oi := { dst := some 34, op := Op.load 23 (Operand.tmp 8), type := 23, pos := "law.go:107", after := #[{ on := 12, ground := Ground.guard }], guard := some (12, true) }) (v := .agg Y.toArray) rfl (by kernel_rfl) (by kernel_rfl) (by kernel_rfl) (fun _ _ _ h => h) (yieldsIf_load_mid (by rfl) 23 _ rfl w2.heap.size 0 rfl Y _ (fun w hS => hS.2.2.1) hu rfl hi2) hHeld ?_
  try simp only [Act.put, List.setIfInBounds_toArray, List.set_cons_zero, List.set_cons_succ]
  refine wpAnyH_take (i := 14) (oi := { dst := some 35, op := Op.load 23 (Operand.tmp 3), type := 23, pos := "law.go:107", after := #[{ on := 12, ground := Ground.guard }], guard := some (12, true) }) (v := .agg cs.toArray) rfl (by kernel_rfl) (by kernel_rfl) (by kernel_rfl) (fun _ _ _ h => h) (yieldsIf_load_mid (by rfl) 23 _ rfl w.heap.size 0 rfl cs _ (fun w hS => hS.1) hu rfl hi) hHeld ?_
  try simp only [Act.put, List.setIfInBounds_toArray, List.set_cons_zero, List.set_cons_succ]
  refine wpAnyH_take (i := 15) (oi := { dst := some 36, op := Op.move (Operand.tmp 9), type := 3, pos := "law.go:107", after := #[{ on := 12, ground := Ground.guard }], guard := some (12, true) }) (v := .int .i64 a) rfl (by kernel_rfl) (by kernel_rfl) (by kernel_rfl) (fun _ _ _ h => h) (Or.inl ⟨by rfl, by intro w hS; go_simp⟩) hHeld ?_
  try simp only [Act.put, List.setIfInBounds_toArray, List.set_cons_zero, List.set_cons_succ]
  refine wpAnyH_ready (rs := [16]) (by kernel_rfl) (by simp) ?_
  refine AllReadyH.cons (o := { dst := some 37, op := Op.call { callee := Callee.value (Operand.func 4), args := #[Operand.tmp 35, Operand.tmp 36], argTypes := #[23, 3] }, type := 23, pos := "law.go:107", after := #[{ on := 14, ground := Ground.data }, { on := 15, ground := Ground.data }, { on := 12, ground := Ground.chain }, { on := 12, ground := Ground.guard }], guard := some (12, true) }) rfl (fun K hK => ?_) AllReadyH.nil
  go_simp
  go_at_call 4
  refine (KC3.out _).mono ?_
  rintro e w4 ⟨rfl, hb4⟩
  go_wp2_with fail
  refine hK.out _ _ (keepS hHeld hb4) (fun hHeld2 => ?_)
  clear hK K hHeld hb4
  have hHeld := hHeld2
  clear hHeld2
  try simp only [Act.put, List.setIfInBounds_toArray, List.set_cons_zero, List.set_cons_succ]
  refine wpAnyH_take (i := 17) (oi := { dst := some 38, op := Op.binOp BinOp.eql 23 (Operand.tmp 34) (Operand.tmp 37) 23, type := 4, pos := "law.go:107", after := #[{ on := 13, ground := Ground.data }, { on := 16, ground := Ground.data }, { on := 12, ground := Ground.guard }], guard := some (12, true) }) (v := .bool true) rfl (by kernel_rfl) (by kernel_rfl) (by kernel_rfl) (fun _ _ _ h => h) (Or.inl ⟨by rfl, by intro w hS; go_simp⟩) hHeld ?_
  try simp only [Act.put, List.setIfInBounds_toArray, List.set_cons_zero, List.set_cons_succ]
  refine wpAnyH_take (i := 18) (oi := { dst := some 39, op := Op.pick (Operand.tmp 33) (Operand.tmp 38) (Operand.const (Value.bool false)), type := 4, pos := "law.go:107", after := #[{ on := 12, ground := Ground.data }, { on := 17, ground := Ground.data }], guard := none }) (v := .bool true) rfl (by kernel_rfl) (by kernel_rfl) (by kernel_rfl) (fun _ _ _ h => h) (Or.inl ⟨by rfl, by intro w hS; go_simp⟩) hHeld ?_
  try simp only [Act.put, List.setIfInBounds_toArray, List.set_cons_zero, List.set_cons_succ]
  refine wpAnyH_take (i := 19) (oi := { dst := some 6, op := Op.assign (Operand.tmp 39), type := 4, pos := "law.go:107", after := #[{ on := 18, ground := Ground.data }, { on := 16, ground := Ground.chain }, { on := 0, ground := Ground.phase }, { on := 1, ground := Ground.phase }, { on := 2, ground := Ground.phase }, { on := 3, ground := Ground.phase }, { on := 4, ground := Ground.phase }, { on := 5, ground := Ground.phase }, { on := 6, ground := Ground.phase }, { on := 7, ground := Ground.phase }, { on := 8, ground := Ground.phase }, { on := 9, ground := Ground.phase }, { on := 10, ground := Ground.phase }, { on := 11, ground := Ground.phase }, { on := 12, ground := Ground.phase }, { on := 13, ground := Ground.phase }, { on := 14, ground := Ground.phase }, { on := 15, ground := Ground.phase }, { on := 16, ground := Ground.phase }, { on := 17, ground := Ground.phase }, { on := 18, ground := Ground.phase }], guard := none }) (v := .bool true) rfl (by kernel_rfl) (by kernel_rfl) (by kernel_rfl) (fun _ _ _ h => h) (Or.inl ⟨by rfl, by intro w hS; go_simp⟩) hHeld ?_
  try simp only [Act.put, List.setIfInBounds_toArray, List.set_cons_zero, List.set_cons_succ]
  refine wpAnyH_done (by kernel_rfl) ?_ _
  refine NoPanic.normal ?_
  go_wp2
  go_ret
  exact ⟨rfl, hHeld.2.2.2.1⟩

theorem law_any (zs : List Int) (hl : zs.length = 32) (a b : Int) (w : World) :
    Calls Try.prog 3 #[.agg (zs.map (Value.int .u8)).toArray, .int .i64 a, .int .i64 b] w fun e w' => e = .returned (.bool true) ∧ Below w.heap.size w w' := by
  have hl' : (zs.map (Value.int .u8)).length = 32 := by simp [hl]
  have h1 : ∀ v ∈ zs.map (Value.int .u8), v.oneCell' = true := fun v hv => by
    obtain ⟨z, _, rfl⟩ := List.mem_map.1 hv; rfl
  have hzz := cutV_cutV (zs.map (Value.int .u8)) hl' _ _ (kept_le a) (kept_le b)
  rw [kept_min] at hzz
  have K4 := fun w => cut_any (cutV (zs.map (Value.int .u8)) (kept a)) (cutV_len _ _ hl') (cutV_one _ _ h1) b w
  rw [hzz] at K4
  by_cases hab : b < a
  · rw [show min a b = b by omega] at K4
    exact law_lt _ _ _ hl' (cutV_len _ (kept a) hl') (cutV_len _ (kept b) hl') (cutV_one _ _ h1) (cutV_one _ _ h1) (eq_self zs hl _) (eq_self zs hl _) a b hab (hid (cut_any _ hl' h1 a)) (hid K4) (hid (ref_any _ hl' h1 a)) (hid (ref_any _ hl' h1 b)) (hid (cut_any _ hl' h1 b)) w
  · rw [show min a b = a by omega] at K4
    exact law_ge _ _ _ hl' (cutV_len _ (kept a) hl') (cutV_len _ (kept a) hl') (cutV_one _ _ h1) (cutV_one _ _ h1) (eq_self zs hl _) (eq_self zs hl _) a b hab (hid (cut_any _ hl' h1 a)) (hid K4) (hid (ref_any _ hl' h1 a)) (hid (ref_any _ hl' h1 a)) (hid (cut_any _ hl' h1 a)) w
end Go.Proofs.Ytpmjijadjblkeaa
