import Derived.Test.YtipbbmbkjcpjbaaDoorXf9
import Derived.Test.YtipbbmbkjcpjbaaDoorXi9
namespace Go.Proofs.YtipbbmbkjcpjbaaDoor
set_option linter.unusedVariables false
set_option linter.unusedSimpArgs false
open Go.RowKit
attribute [local go_sem ↓] Go.wp_at_zero Go.wp_at_succ

theorem Src.front {w : World} {sp : Option Addr} {cap : Nat} {A B : List Int} (h : Src w sp cap (A ++ B)) : Src w sp cap A := by
  obtain ⟨h1, h2, b, o, h3, h4, h5⟩ := h
  rw [List.length_append] at h1 h3 h4 h5
  refine ⟨by omega, h2, b, o, fun h => h3 (by omega), fun h => h4 (by omega), fun j hj => ?_⟩
  have := h5 j (by omega)
  rw [List.getD_eq_getElem?_getD, List.getElem?_append_left hj] at this
  rw [this, List.getD_eq_getElem?_getD]
theorem full_set (xs : List Int) (k : Nat) (y : Int) (h : k < xs.length) : full (xs.set k y) = (full xs).set k y := by
  unfold full; rw [List.set_append_left _ _ h, List.length_set]
set_option maxRecDepth 100000 in
set_option maxHeartbeats 4000000 in
theorem value_text (w : World) (hG : Gb w) (o : NOp) (ok : NOk o) (hkd : o.kd = 3) (xs : List Int) (gl : Nat) (spv : Option Addr) (capv : Nat) (hL : Src w (some ⟨gl, 0, none⟩) (xs.length + 100) (full xs)) (hI : Src w spv capv xs) (hnv : spv = none → capv = 0) (hlen : xs.length ≤ 140737488351232) :
    Calls Tryd.prog 10 #[.agg (opC o).toArray, .slice (some ⟨gl, 0, none⟩) (xs.length + 100) (xs.length + 100), .slice spv xs.length capv] w fun e w' => e = .returned (.bool true) ∧ Below w.heap.size w w' := by
  have d0 := NR.box (w := w) ok
  have c0 := d0.ck
  rw [hkd] at c0
  have hF := Src.front hL
  have KR := hid (fun w1 (hb : Below w.heap.size w w1) => roomyIs_any w1 xs (some ⟨gl, 0, none⟩) spv (xs.length + 100) capv (hL.below hb (Nat.le_refl _)) (hI.below hb (Nat.le_refl _)) hlen)
  have KL := hid (fun w1 (h : Src w1 (some ⟨gl, 0, none⟩) (xs.length + 100) xs) => leafText_any w1 o.k xs ok.k (some ⟨gl, 0, none⟩) (xs.length + 100) h (fun h => by cases h) hlen)
  have KX := hid (fun w1 (h : Src w1 spv capv xs) => xleafText_any w1 o.k xs ok.k spv capv h (by omega))
  have HLn := hid hlen
  generalize hn : xs.length = n at *
  have HN := hid hn
  have i0 : (n : Int) ≤ 140737488351232 := by omega
  clear hn hkd
  go_enter Tryd.func10, Tryd.ntmps10
  go_wp2
  generalize w.alloc (.cells (opC o).toArray 32) = w1 at *
  refine wp_region_noPanic ?_
  refine wp_region_held_drew (S := (fun w' => NR w w' w.heap.size o)) (by kernel_rfl) d0.drew (fun hHeld => ?_)
  refine wpAnyH_take (i := 0) (oi := { dst := some 79, op := Op.fieldAddr 32 (Operand.tmp 3) 4, type := 0, pos := "law.go:93", after := #[], guard := none }) (v := .pointer (some ⟨w.heap.size, 4, none⟩)) rfl (by kernel_rfl) (by kernel_rfl) (by kernel_rfl) (fun _ _ _ h => h) (Or.inl ⟨by rfl, by intro w hS; go_simp⟩) hHeld ?_
  try simp only [Act.put, List.setIfInBounds_toArray, List.set_cons_zero, List.set_cons_succ]
  refine wpAnyH_take (i := 2) (oi := { dst := some 81, op := Op.move (Operand.tmp 7), type := 28, pos := "law.go:93", after := #[], guard := none }) (v := .slice (some ⟨gl, 0, none⟩) n (n + 100)) rfl (by kernel_rfl) (by kernel_rfl) (by kernel_rfl) (fun _ _ _ h => h) (Or.inl ⟨by rfl, by intro w hS; go_simp⟩) hHeld ?_
  try simp only [Act.put, List.setIfInBounds_toArray, List.set_cons_zero, List.set_cons_succ]
  refine wpAnyH_take (i := 4) (oi := { dst := some 83, op := Op.fieldAddr 32 (Operand.tmp 3) 4, type := 0, pos := "law.go:93", after := #[], guard := none }) (v := .pointer (some ⟨w.heap.size, 4, none⟩)) rfl (by kernel_rfl) (by kernel_rfl) (by kernel_rfl) (fun _ _ _ h => h) (Or.inl ⟨by rfl, by intro w hS; go_simp⟩) hHeld ?_
  try simp only [Act.put, List.setIfInBounds_toArray, List.set_cons_zero, List.set_cons_succ]
  refine wpAnyH_take (i := 6) (oi := { dst := some 85, op := Op.move (Operand.tmp 2), type := 28, pos := "law.go:93", after := #[], guard := none }) (v := .slice spv n capv) rfl (by kernel_rfl) (by kernel_rfl) (by kernel_rfl) (fun _ _ _ h => h) (Or.inl ⟨by rfl, by intro w hS; go_simp⟩) hHeld ?_
  try simp only [Act.put, List.setIfInBounds_toArray, List.set_cons_zero, List.set_cons_succ]
  refine wpAnyH_take (i := 1) (oi := { dst := some 80, op := Op.load 26 (Operand.tmp 79), type := 26, pos := "law.go:93", after := #[{ on := 0, ground := Ground.data }], guard := none }) (v := .agg (ints .u8 o.k).toArray) rfl (by kernel_rfl) (by kernel_rfl) (by kernel_rfl) (fun _ _ _ h => h) (yieldsIf_load_mid (by rfl) 26 _ rfl w.heap.size (4) rfl (ints .u8 o.k) _ (fun w hS => hS.rk) Tryd.underlying26 rfl (by rw [ints_len, ok.k]; rfl)) hHeld ?_
  try simp only [Act.put, List.setIfInBounds_toArray, List.set_cons_zero, List.set_cons_succ]
  refine wpAnyH_take (i := 5) (oi := { dst := some 84, op := Op.load 26 (Operand.tmp 83), type := 26, pos := "law.go:93", after := #[{ on := 4, ground := Ground.data }], guard := none }) (v := .agg (ints .u8 o.k).toArray) rfl (by kernel_rfl) (by kernel_rfl) (by kernel_rfl) (fun _ _ _ h => h) (yieldsIf_load_mid (by rfl) 26 _ rfl w.heap.size (4) rfl (ints .u8 o.k) _ (fun w hS => hS.rk) Tryd.underlying26 rfl (by rw [ints_len, ok.k]; rfl)) hHeld ?_
  try simp only [Act.put, List.setIfInBounds_toArray, List.set_cons_zero, List.set_cons_succ]
  refine wpAnyH_ready (rs := [3]) (by kernel_rfl) (by simp) ?_
  refine (AllReadyH.cons (o := { dst := some 82, op := Op.call { callee := Callee.value (Operand.func 19), args := #[Operand.tmp 80, Operand.tmp 81], argTypes := #[26, 28] }, type := 28, pos := "law.go:93", after := #[{ on := 1, ground := Ground.data }, { on := 2, ground := Ground.data }], guard := none }) rfl (fun K hK => ?_) AllReadyH.nil)
  go_simp
  go_at_call 19
  refine (KL.out _ (hF.below hHeld.2.1 (Nat.le_refl _))).mono ?_
  rintro e w4 ⟨v, rfl, hO, hb4⟩
  obtain ⟨s1, c1, rfl, S1, n1⟩ := hO.form
  go_wp2_with fail
  refine hK.out _ _ (NR.call hHeld hb4) (fun hHeld2 => ?_)
  clear hK K hHeld
  have hHeld := hHeld2
  clear hHeld2
  try simp only [Act.put, List.setIfInBounds_toArray, List.set_cons_zero, List.set_cons_succ]
  refine wpAnyH_ready (rs := [7]) (by kernel_rfl) (by simp) ?_
  refine (AllReadyH.cons (o := { dst := some 86, op := Op.call { callee := Callee.value (Operand.func 20), args := #[Operand.tmp 84, Operand.tmp 85], argTypes := #[26, 28] }, type := 28, pos := "law.go:93", after := #[{ on := 5, ground := Ground.data }, { on := 6, ground := Ground.data }, { on := 3, ground := Ground.chain }], guard := none }) rfl (fun K hK => ?_) AllReadyH.nil)
  go_simp
  go_at_call 20
  refine (KX.out _ (hI.below hHeld.2.1 (Nat.le_refl _))).mono ?_
  rintro e w4 ⟨v, rfl, hO, hb4⟩
  obtain ⟨s2, c2, rfl, S2, n2⟩ := hO.form
  replace S1 := S1.below hb4 (Nat.le_refl _)
  go_wp2_with fail
  refine hK.out _ _ (NR.call hHeld hb4) (fun hHeld2 => ?_)
  clear hK K hHeld
  have hHeld := hHeld2
  clear hHeld2
  try simp only [Act.put, List.setIfInBounds_toArray, List.set_cons_zero, List.set_cons_succ]
  refine wpAnyH_ready (rs := [8]) (by kernel_rfl) (by simp) ?_
  refine (AllReadyH.cons (o := { dst := some 87, op := Op.call { callee := Callee.value (Operand.func 15), args := #[Operand.tmp 82, Operand.tmp 86], argTypes := #[28, 28] }, type := 4, pos := "law.go:93", after := #[{ on := 3, ground := Ground.data }, { on := 7, ground := Ground.data }, { on := 7, ground := Ground.chain }], guard := none }) rfl (fun K hK => ?_) AllReadyH.nil)
  go_simp
  go_at_call 15
  refine (same_self _ (leafT o.k xs) s1 s2 c1 c2 S1 S2).mono ?_
  rintro e w4 ⟨rfl, hb4⟩
  go_wp2_with fail
  refine hK.out _ _ (NR.call hHeld hb4) (fun hHeld2 => ?_)
  clear hK K hHeld
  have hHeld := hHeld2
  clear hHeld2
  try simp only [Act.put, List.setIfInBounds_toArray, List.set_cons_zero, List.set_cons_succ]
  refine wpAnyH_take (i := 9) (oi := { dst := some 8, op := Op.assign (Operand.tmp 87), type := 4, pos := "law.go:93", after := #[{ on := 8, ground := Ground.data }, { on := 8, ground := Ground.chain }, { on := 0, ground := Ground.phase }, { on := 1, ground := Ground.phase }, { on := 2, ground := Ground.phase }, { on := 3, ground := Ground.phase }, { on := 4, ground := Ground.phase }, { on := 5, ground := Ground.phase }, { on := 6, ground := Ground.phase }, { on := 7, ground := Ground.phase }, { on := 8, ground := Ground.phase }], guard := none }) (v := .bool true) rfl (by kernel_rfl) (by kernel_rfl) (by kernel_rfl) (fun _ _ _ h => h) (Or.inl ⟨by rfl, by intro w hS; go_simp⟩) hHeld ?_
  try simp only [Act.put, List.setIfInBounds_toArray, List.set_cons_zero, List.set_cons_succ]
  refine wpAnyH_done (by kernel_rfl) ?_ _
  refine NoPanic.normal ?_
  go_wp2_with fail
  refine (KR.out _ hHeld.2.1).mono ?_
  rintro e w9 ⟨rfl, hb9⟩
  have d9 := NR.call hHeld hb9
  go_wp2
  go_ret
  exact ⟨rfl, d9.2.1⟩
set_option maxRecDepth 100000 in
set_option maxHeartbeats 4000000 in
theorem value_leaf (w : World) (hG : Gb w) (o : NOp) (ok : NOk o) (hkd : o.kd = 5) (xs : List Int) (gl : Nat) (spv : Option Addr) (capv : Nat) (hL : Src w (some ⟨gl, 0, none⟩) (xs.length + 100) (full xs)) (hI : Src w spv capv xs) (hnv : spv = none → capv = 0) (hlen : xs.length ≤ 140737488351232) :
    Calls Tryd.prog 10 #[.agg (opC o).toArray, .slice (some ⟨gl, 0, none⟩) (xs.length + 100) (xs.length + 100), .slice spv xs.length capv] w fun e w' => e = .returned (.bool true) ∧ Below w.heap.size w w' := by
  have d0 := NR.box (w := w) ok
  have c0 := d0.ck
  rw [hkd] at c0
  have hF := Src.front hL
  have KR := hid (fun w1 (hb : Below w.heap.size w w1) => roomyIs_any w1 xs (some ⟨gl, 0, none⟩) spv (xs.length + 100) capv (hL.below hb (Nat.le_refl _)) (hI.below hb (Nat.le_refl _)) hlen)
  have KL := hid (fun w1 (hg : Glob w1) (h : Src w1 (some ⟨gl, 0, none⟩) (xs.length + 100) xs) => leaf_any w1 hg o.wd o.k xs ok.k (some ⟨gl, 0, none⟩) (xs.length + 100) h (fun h => by cases h) hlen)
  have KX := hid (fun w1 (hg : Gb w1) (h : Src w1 spv capv xs) => xleaf_any w1 hg o.wd o.k xs ok.k spv capv h (by omega))
  have hDl := leafD_len o.wd o.k xs
  generalize leafD o.wd o.k xs = D at *
  have q := eqD_self D hDl
  have gD := Tryd.guardD
  have HLn := hid hlen
  generalize hn : xs.length = n at *
  have HN := hid hn
  have i0 : (n : Int) ≤ 140737488351232 := by omega
  clear hn hkd
  go_enter Tryd.func10, Tryd.ntmps10
  go_wp2
  generalize w.alloc (.cells (opC o).toArray 32) = w1 at *
  refine wp_region_noPanic ?_
  refine wp_region_held_drew (S := (fun w' => NR w w' w.heap.size o)) (by kernel_rfl) d0.drew (fun hHeld => ?_)
  refine wpAnyH_take (i := 0) (oi := { dst := some 90, op := Op.fieldAddr 32 (Operand.tmp 3) 1, type := 0, pos := "law.go:95", after := #[], guard := none }) (v := .pointer (some ⟨w.heap.size, 1, none⟩)) rfl (by kernel_rfl) (by kernel_rfl) (by kernel_rfl) (fun _ _ _ h => h) (Or.inl ⟨by rfl, by intro w hS; go_simp⟩) hHeld ?_
  try simp only [Act.put, List.setIfInBounds_toArray, List.set_cons_zero, List.set_cons_succ]
  refine wpAnyH_take (i := 2) (oi := { dst := some 92, op := Op.fieldAddr 32 (Operand.tmp 3) 4, type := 0, pos := "law.go:95", after := #[], guard := none }) (v := .pointer (some ⟨w.heap.size, 4, none⟩)) rfl (by kernel_rfl) (by kernel_rfl) (by kernel_rfl) (fun _ _ _ h => h) (Or.inl ⟨by rfl, by intro w hS; go_simp⟩) hHeld ?_
  try simp only [Act.put, List.setIfInBounds_toArray, List.set_cons_zero, List.set_cons_succ]
  refine wpAnyH_take (i := 4) (oi := { dst := some 94, op := Op.move (Operand.tmp 7), type := 28, pos := "law.go:95", after := #[], guard := none }) (v := .slice (some ⟨gl, 0, none⟩) n (n + 100)) rfl (by kernel_rfl) (by kernel_rfl) (by kernel_rfl) (fun _ _ _ h => h) (Or.inl ⟨by rfl, by intro w hS; go_simp⟩) hHeld ?_
  try simp only [Act.put, List.setIfInBounds_toArray, List.set_cons_zero, List.set_cons_succ]
  refine wpAnyH_take (i := 6) (oi := { dst := some 96, op := Op.fieldAddr 32 (Operand.tmp 3) 1, type := 0, pos := "law.go:95", after := #[], guard := none }) (v := .pointer (some ⟨w.heap.size, 1, none⟩)) rfl (by kernel_rfl) (by kernel_rfl) (by kernel_rfl) (fun _ _ _ h => h) (Or.inl ⟨by rfl, by intro w hS; go_simp⟩) hHeld ?_
  try simp only [Act.put, List.setIfInBounds_toArray, List.set_cons_zero, List.set_cons_succ]
  refine wpAnyH_take (i := 8) (oi := { dst := some 98, op := Op.fieldAddr 32 (Operand.tmp 3) 4, type := 0, pos := "law.go:95", after := #[], guard := none }) (v := .pointer (some ⟨w.heap.size, 4, none⟩)) rfl (by kernel_rfl) (by kernel_rfl) (by kernel_rfl) (fun _ _ _ h => h) (Or.inl ⟨by rfl, by intro w hS; go_simp⟩) hHeld ?_
  try simp only [Act.put, List.setIfInBounds_toArray, List.set_cons_zero, List.set_cons_succ]
  refine wpAnyH_take (i := 10) (oi := { dst := some 100, op := Op.move (Operand.tmp 2), type := 28, pos := "law.go:95", after := #[], guard := none }) (v := .slice spv n capv) rfl (by kernel_rfl) (by kernel_rfl) (by kernel_rfl) (fun _ _ _ h => h) (Or.inl ⟨by rfl, by intro w hS; go_simp⟩) hHeld ?_
  try simp only [Act.put, List.setIfInBounds_toArray, List.set_cons_zero, List.set_cons_succ]
  refine wpAnyH_take (i := 1) (oi := { dst := some 91, op := Op.load 3 (Operand.tmp 90), type := 3, pos := "law.go:95", after := #[{ on := 0, ground := Ground.data }], guard := none }) (v := .int .i64 o.wd) rfl (by kernel_rfl) (by kernel_rfl) (by kernel_rfl) (fun _ _ _ h => h) (Or.inl ⟨by rfl, by intro w hS; have hc := hS.cw; go_simp⟩) hHeld ?_
  try simp only [Act.put, List.setIfInBounds_toArray, List.set_cons_zero, List.set_cons_succ]
  refine wpAnyH_take (i := 3) (oi := { dst := some 93, op := Op.load 26 (Operand.tmp 92), type := 26, pos := "law.go:95", after := #[{ on := 2, ground := Ground.data }], guard := none }) (v := .agg (ints .u8 o.k).toArray) rfl (by kernel_rfl) (by kernel_rfl) (by kernel_rfl) (fun _ _ _ h => h) (yieldsIf_load_mid (by rfl) 26 _ rfl w.heap.size (4) rfl (ints .u8 o.k) _ (fun w hS => hS.rk) Tryd.underlying26 rfl (by rw [ints_len, ok.k]; rfl)) hHeld ?_
  try simp only [Act.put, List.setIfInBounds_toArray, List.set_cons_zero, List.set_cons_succ]
  refine wpAnyH_take (i := 7) (oi := { dst := some 97, op := Op.load 3 (Operand.tmp 96), type := 3, pos := "law.go:95", after := #[{ on := 6, ground := Ground.data }], guard := none }) (v := .int .i64 o.wd) rfl (by kernel_rfl) (by kernel_rfl) (by kernel_rfl) (fun _ _ _ h => h) (Or.inl ⟨by rfl, by intro w hS; have hc := hS.cw; go_simp⟩) hHeld ?_
  try simp only [Act.put, List.setIfInBounds_toArray, List.set_cons_zero, List.set_cons_succ]
  refine wpAnyH_take (i := 9) (oi := { dst := some 99, op := Op.load 26 (Operand.tmp 98), type := 26, pos := "law.go:95", after := #[{ on := 8, ground := Ground.data }], guard := none }) (v := .agg (ints .u8 o.k).toArray) rfl (by kernel_rfl) (by kernel_rfl) (by kernel_rfl) (fun _ _ _ h => h) (yieldsIf_load_mid (by rfl) 26 _ rfl w.heap.size (4) rfl (ints .u8 o.k) _ (fun w hS => hS.rk) Tryd.underlying26 rfl (by rw [ints_len, ok.k]; rfl)) hHeld ?_
  try simp only [Act.put, List.setIfInBounds_toArray, List.set_cons_zero, List.set_cons_succ]
  refine wpAnyH_ready (rs := [5]) (by kernel_rfl) (by simp) ?_
  refine (AllReadyH.cons (o := { dst := some 95, op := Op.call { callee := Callee.value (Operand.func 21), args := #[Operand.tmp 91, Operand.tmp 93, Operand.tmp 94], argTypes := #[3, 26, 28] }, type := 27, pos := "law.go:95", after := #[{ on := 1, ground := Ground.data }, { on := 3, ground := Ground.data }, { on := 4, ground := Ground.data }], guard := none }) rfl (fun K hK => ?_) AllReadyH.nil)
  go_simp
  go_at_call 21
  refine (KL.out _ (NR.gb hHeld hG).1 (hF.below hHeld.2.1 (Nat.le_refl _))).mono ?_
  rintro e w4 ⟨rfl, hb4⟩
  go_wp2_with fail
  refine hK.out _ _ (NR.call hHeld hb4) (fun hHeld2 => ?_)
  clear hK K hHeld
  have hHeld := hHeld2
  clear hHeld2
  try simp only [Act.put, List.setIfInBounds_toArray, List.set_cons_zero, List.set_cons_succ]
  refine wpAnyH_ready (rs := [11]) (by kernel_rfl) (by simp) ?_
  refine (AllReadyH.cons (o := { dst := some 101, op := Op.call { callee := Callee.value (Operand.func 22), args := #[Operand.tmp 97, Operand.tmp 99, Operand.tmp 100], argTypes := #[3, 26, 28] }, type := 27, pos := "law.go:95", after := #[{ on := 7, ground := Ground.data }, { on := 9, ground := Ground.data }, { on := 10, ground := Ground.data }, { on := 5, ground := Ground.chain }], guard := none }) rfl (fun K hK => ?_) AllReadyH.nil)
  go_simp
  go_at_call 22
  refine (KX.out _ (NR.gb hHeld hG) (hI.below hHeld.2.1 (Nat.le_refl _))).mono ?_
  rintro e w4 ⟨rfl, hb4⟩
  go_wp2_with fail
  refine hK.out _ _ (NR.call hHeld hb4) (fun hHeld2 => ?_)
  clear hK K hHeld
  have hHeld := hHeld2
  clear hHeld2
  try simp only [Act.put, List.setIfInBounds_toArray, List.set_cons_zero, List.set_cons_succ]
  refine wpAnyH_take (i := 12) (oi := { dst := some 102, op := Op.binOp BinOp.eql 27 (Operand.tmp 95) (Operand.tmp 101) 27, type := 4, pos := "law.go:95", after := #[{ on := 5, ground := Ground.data }, { on := 11, ground := Ground.data }], guard := none }) (v := .bool true) rfl (by kernel_rfl) (by kernel_rfl) (by kernel_rfl) (fun _ _ _ h => h) (Or.inl ⟨by rfl, by intro w hS; go_simp⟩) hHeld ?_
  try simp only [Act.put, List.setIfInBounds_toArray, List.set_cons_zero, List.set_cons_succ]
  refine wpAnyH_take (i := 13) (oi := { dst := some 8, op := Op.assign (Operand.tmp 102), type := 4, pos := "law.go:95", after := #[{ on := 12, ground := Ground.data }, { on := 11, ground := Ground.chain }, { on := 0, ground := Ground.phase }, { on := 1, ground := Ground.phase }, { on := 2, ground := Ground.phase }, { on := 3, ground := Ground.phase }, { on := 4, ground := Ground.phase }, { on := 5, ground := Ground.phase }, { on := 6, ground := Ground.phase }, { on := 7, ground := Ground.phase }, { on := 8, ground := Ground.phase }, { on := 9, ground := Ground.phase }, { on := 10, ground := Ground.phase }, { on := 11, ground := Ground.phase }, { on := 12, ground := Ground.phase }], guard := none }) (v := .bool true) rfl (by kernel_rfl) (by kernel_rfl) (by kernel_rfl) (fun _ _ _ h => h) (Or.inl ⟨by rfl, by intro w hS; go_simp⟩) hHeld ?_
  try simp only [Act.put, List.setIfInBounds_toArray, List.set_cons_zero, List.set_cons_succ]
  refine wpAnyH_done (by kernel_rfl) ?_ _
  refine NoPanic.normal ?_
  go_wp2_with fail
  refine (KR.out _ hHeld.2.1).mono ?_
  rintro e w9 ⟨rfl, hb9⟩
  have d9 := NR.call hHeld hb9
  go_wp2
  go_ret
  exact ⟨rfl, d9.2.1⟩
end Go.Proofs.YtipbbmbkjcpjbaaDoor
