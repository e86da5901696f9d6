import Derived.Test.YtipbbmbkjcpjbaaDoorXb9
import Derived.Test.YtipbbmbkjcpjbaaDoorVf9
import Derived.Test.YtipbbmbkjcpjbaaDoorVt9
namespace Go.Proofs.YtipbbmbkjcpjbaaDoor
set_option linter.unusedVariables false
set_option linter.unusedSimpArgs false
open Go.RowKit
attribute [local go_sem ↓] Go.wp_at_zero Go.wp_at_succ

/-- A step as it lies in memory. -/
structure NOp where
  kd : Int
  wd : Int
  n : Int
  m : Int
  k : List Int
  d : List Int
  e : List Int
  v : Value
  nd : List Value
structure NOk (o : NOp) : Prop where
  k : o.k.length = 32
  d : o.d.length = 32
  e : o.e.length = 32
  nd : o.nd.length = 102
  yk : Byts o.k
  v1 : o.v.oneCell' = true
  n1 : ∀ x ∈ o.nd, x.oneCell' = true
def opC (o : NOp) : List Value := [.int .i64 o.kd, .int .i64 o.wd, .int .i64 o.n, .int .i64 o.m] ++ (ints .u8 o.k ++ (ints .u8 o.d ++ (ints .u8 o.e ++ (o.v :: o.nd))))
theorem opC_len {o : NOp} (h : NOk o) : (opC o).length = 203 := by simp [opC, ints_len, h.k, h.d, h.e, h.nd]
theorem opC_size {o : NOp} (h : NOk o) : (opC o).toArray.size = 203 := by rw [List.size_toArray, opC_len h]
theorem opC_one {o : NOp} (h : NOk o) : ∀ x ∈ opC o, x.oneCell' = true := fun x hx => by
  simp only [opC, List.mem_append, List.mem_cons, List.not_mem_nil, or_false] at hx
  rcases hx with (rfl | rfl | rfl | rfl) | hx | hx | hx | rfl | hx
  · rfl
  · rfl
  · rfl
  · rfl
  · exact ints_one _ _ x hx
  · exact ints_one _ _ x hx
  · exact ints_one _ _ x hx
  · exact h.v1
  · exact h.n1 x hx
theorem mid_get (A B C : List Value) (j : Nat) (hj : j < B.length) : (A ++ (B ++ C))[A.length + j]? = B[j]? := by
  rw [List.getElem?_append_right (by omega), show A.length + j - A.length = j by omega, List.getElem?_append_left hj]
theorem opC_k {o : NOp} (h : NOk o) (j : Nat) (v : Value) (hv : (ints .u8 o.k)[j]? = some v) : (opC o)[4 + j]? = some v := by
  have hj := (List.getElem?_eq_some_iff.1 hv).1
  rw [← hv]; exact mid_get [.int .i64 o.kd, .int .i64 o.wd, .int .i64 o.n, .int .i64 o.m] _ _ j hj
theorem opC_d {o : NOp} (h : NOk o) (j : Nat) (v : Value) (hv : (ints .u8 o.d)[j]? = some v) : (opC o)[36 + j]? = some v := by
  have hj := (List.getElem?_eq_some_iff.1 hv).1
  have := mid_get ([.int .i64 o.kd, .int .i64 o.wd, .int .i64 o.n, .int .i64 o.m] ++ ints .u8 o.k) (ints .u8 o.d) (ints .u8 o.e ++ (o.v :: o.nd)) j hj
  rw [List.append_assoc, show ([.int .i64 o.kd, .int .i64 o.wd, .int .i64 o.n, .int .i64 o.m] ++ ints .u8 o.k : List Value).length = 36 by simp [ints_len, h.k]] at this
  rw [← hv]; exact this
theorem opC_e {o : NOp} (h : NOk o) (j : Nat) (v : Value) (hv : (ints .u8 o.e)[j]? = some v) : (opC o)[68 + j]? = some v := by
  have hj := (List.getElem?_eq_some_iff.1 hv).1
  have := mid_get ([.int .i64 o.kd, .int .i64 o.wd, .int .i64 o.n, .int .i64 o.m] ++ (ints .u8 o.k ++ ints .u8 o.d)) (ints .u8 o.e) (o.v :: o.nd) j hj
  rw [List.append_assoc, List.append_assoc, show ([.int .i64 o.kd, .int .i64 o.wd, .int .i64 o.n, .int .i64 o.m] ++ (ints .u8 o.k ++ ints .u8 o.d) : List Value).length = 68 by simp [ints_len, h.k, h.d]] at this
  rw [← hv]; exact this
theorem opC_v {o : NOp} (h : NOk o) : (opC o)[100]? = some o.v := by
  have := mid_get ([.int .i64 o.kd, .int .i64 o.wd, .int .i64 o.n, .int .i64 o.m] ++ (ints .u8 o.k ++ (ints .u8 o.d ++ ints .u8 o.e))) [o.v] o.nd 0 (by simp)
  rw [List.append_assoc, List.append_assoc, List.append_assoc, show ([.int .i64 o.kd, .int .i64 o.wd, .int .i64 o.n, .int .i64 o.m] ++ (ints .u8 o.k ++ (ints .u8 o.d ++ ints .u8 o.e)) : List Value).length = 100 by simp [ints_len, h.k, h.d, h.e]] at this
  exact this
/-- The step in a block. -/
def NR (w0 w : World) (g : Nat) (o : NOp) : Prop := NOk o ∧ Below w0.heap.size w0 w ∧ w.heap[g]? = some (.cells (opC o).toArray 32 (0, 0))
theorem NR.call {w0 w w' : World} {g : Nat} {o : NOp} (h : NR w0 w g o) (hb : Below w.heap.size w w') : NR w0 w' g o := ⟨h.1, h.2.1.trans (hb.mono h.2.1.size), hbel hb h.2.2 (hlt h.2.2)⟩
theorem NR.drew {w0 w : World} {g : Nat} {o : NOp} (h : NR w0 w g o) : NR w0 w.drew g o := ⟨h.1, h.2.1.drew, h.2.2⟩
theorem NR.gb {w0 w : World} {g : Nat} {o : NOp} (h : NR w0 w g o) (hG : Gb w0) : Gb w := hG.keep h.2.1
theorem NR.box {w : World} {o : NOp} (h : NOk o) : NR w (w.alloc (.cells (opC o).toArray 32)) w.heap.size o := ⟨h, (Below.refl _ _).alloc (Nat.le_refl _) _, hnew w _⟩
theorem NR.cell {w0 w : World} {g : Nat} {o : NOp} (h : NR w0 w g o) {j : Nat} {v : Value} (hv : (opC o)[j]? = some v) : w.cell? ⟨g, j, none⟩ = some v := by rw [cell_of_row _ _ _ _ _ _ h.2.2]; simpa using hv
theorem NR.ck {w0 w : World} {g : Nat} {o : NOp} (h : NR w0 w g o) : w.cell? ⟨g, 0, none⟩ = some (.int .i64 o.kd) := h.cell rfl
theorem NR.cw {w0 w : World} {g : Nat} {o : NOp} (h : NR w0 w g o) : w.cell? ⟨g, 1, none⟩ = some (.int .i64 o.wd) := h.cell rfl
theorem NR.cn {w0 w : World} {g : Nat} {o : NOp} (h : NR w0 w g o) : w.cell? ⟨g, 2, none⟩ = some (.int .i64 o.n) := h.cell rfl
theorem NR.cm {w0 w : World} {g : Nat} {o : NOp} (h : NR w0 w g o) : w.cell? ⟨g, 3, none⟩ = some (.int .i64 o.m) := h.cell rfl
theorem NR.cv {w0 w : World} {g : Nat} {o : NOp} (h : NR w0 w g o) : w.cell? ⟨g, 100, none⟩ = some o.v := h.cell (opC_v h.1)
theorem NR.rk {w0 w : World} {g : Nat} {o : NOp} (h : NR w0 w g o) : w.rangeAt g 4 (ints .u8 o.k) := fun j v hv => h.cell (opC_k h.1 j v hv)
theorem NR.rd {w0 w : World} {g : Nat} {o : NOp} (h : NR w0 w g o) : w.rangeAt g 36 (ints .u8 o.d) := fun j v hv => h.cell (opC_d h.1 j v hv)
theorem NR.re {w0 w : World} {g : Nat} {o : NOp} (h : NR w0 w g o) : w.rangeAt g 68 (ints .u8 o.e) := fun j v hv => h.cell (opC_e h.1 j v hv)
theorem Tryd.sizeOp : (Tryd.prog.info? 32).map (·.size) = some 203 := by kernel_rfl
theorem xempty_to (w : World) (hG : Gb w) (k h : Int) (D : List Int) (hD : emptyD k (hgt h) = D) :
    Calls Tryd.prog 29 #[.int .i64 k, .int .i64 h] w fun e w' => e = .returned (.agg (ints .u8 D).toArray) ∧ Below w.heap.size w w' := by
  rw [← hD]; exact xempty_any w hG k h
set_option maxRecDepth 100000 in
set_option maxHeartbeats 4000000 in
theorem numbers_text (w : World) (hG : Gb w) (o : NOp) (ok : NOk o) (hkd : o.kd = 4) :
    Calls Tryd.prog 11 #[.agg (opC o).toArray] w fun e w' => e = .returned (.bool true) ∧ Below w.heap.size w w' := by
  have d0 := NR.box (w := w) ok
  have c0 := d0.ck
  rw [hkd] at c0
  go_enter Tryd.func11, Tryd.ntmps11
  go_wp2
  generalize w.alloc (.cells (opC o).toArray 32) = w1 at *
  refine wp_region_noPanic ?_
  refine wp_region_held_drew (S := (fun w' => NR w w' w.heap.size o)) (by kernel_rfl) d0.drew (fun hHeld => ?_)
  refine wpAnyH_take (i := 0) (oi := { dst := some 7, op := Op.fieldAddr 32 (Operand.tmp 1) 1, type := 0, pos := "law.go:104", after := #[], guard := none }) (v := .pointer (some ⟨w.heap.size, 1, none⟩)) rfl (by kernel_rfl) (by kernel_rfl) (by kernel_rfl) (fun _ _ _ h => h) (Or.inl ⟨by rfl, by intro w hS; go_simp⟩) hHeld ?_
  try simp only [Act.put, List.setIfInBounds_toArray, List.set_cons_zero, List.set_cons_succ]
  refine wpAnyH_take (i := 2) (oi := { dst := some 9, op := Op.fieldAddr 32 (Operand.tmp 1) 5, type := 0, pos := "law.go:104", after := #[], guard := none }) (v := .pointer (some ⟨w.heap.size, 36, none⟩)) rfl (by kernel_rfl) (by kernel_rfl) (by kernel_rfl) (fun _ _ _ h => h) (Or.inl ⟨by rfl, by intro w hS; go_simp⟩) hHeld ?_
  try simp only [Act.put, List.setIfInBounds_toArray, List.set_cons_zero, List.set_cons_succ]
  refine wpAnyH_take (i := 4) (oi := { dst := some 11, op := Op.fieldAddr 32 (Operand.tmp 1) 6, type := 0, pos := "law.go:104", after := #[], guard := none }) (v := .pointer (some ⟨w.heap.size, 68, none⟩)) rfl (by kernel_rfl) (by kernel_rfl) (by kernel_rfl) (fun _ _ _ h => h) (Or.inl ⟨by rfl, by intro w hS; go_simp⟩) hHeld ?_
  try simp only [Act.put, List.setIfInBounds_toArray, List.set_cons_zero, List.set_cons_succ]
  refine wpAnyH_take (i := 7) (oi := { dst := some 14, op := Op.fieldAddr 32 (Operand.tmp 1) 1, type := 0, pos := "law.go:104", after := #[], guard := none }) (v := .pointer (some ⟨w.heap.size, 1, none⟩)) rfl (by kernel_rfl) (by kernel_rfl) (by kernel_rfl) (fun _ _ _ h => h) (Or.inl ⟨by rfl, by intro w hS; go_simp⟩) hHeld ?_
  try simp only [Act.put, List.setIfInBounds_toArray, List.set_cons_zero, List.set_cons_succ]
  refine wpAnyH_take (i := 9) (oi := { dst := some 16, op := Op.fieldAddr 32 (Operand.tmp 1) 5, type := 0, pos := "law.go:104", after := #[], guard := none }) (v := .pointer (some ⟨w.heap.size, 36, none⟩)) rfl (by kernel_rfl) (by kernel_rfl) (by kernel_rfl) (fun _ _ _ h => h) (Or.inl ⟨by rfl, by intro w hS; go_simp⟩) hHeld ?_
  try simp only [Act.put, List.setIfInBounds_toArray, List.set_cons_zero, List.set_cons_succ]
  refine wpAnyH_take (i := 11) (oi := { dst := some 18, op := Op.fieldAddr 32 (Operand.tmp 1) 6, type := 0, pos := "law.go:104", after := #[], guard := none }) (v := .pointer (some ⟨w.heap.size, 68, none⟩)) rfl (by kernel_rfl) (by kernel_rfl) (by kernel_rfl) (fun _ _ _ h => h) (Or.inl ⟨by rfl, by intro w hS; go_simp⟩) hHeld ?_
  try simp only [Act.put, List.setIfInBounds_toArray, List.set_cons_zero, List.set_cons_succ]
  refine wpAnyH_take (i := 1) (oi := { dst := some 8, op := Op.load 3 (Operand.tmp 7), type := 3, pos := "law.go:104", after := #[{ on := 0, ground := Ground.data }], guard := none }) (v := .int .i64 o.wd) rfl (by kernel_rfl) (by kernel_rfl) (by kernel_rfl) (fun _ _ _ h => h) (Or.inl ⟨by rfl, by intro w hS; have hc := hS.cw; go_simp⟩) hHeld ?_
  try simp only [Act.put, List.setIfInBounds_toArray, List.set_cons_zero, List.set_cons_succ]
  refine wpAnyH_take (i := 3) (oi := { dst := some 10, op := Op.load 27 (Operand.tmp 9), type := 27, pos := "law.go:104", after := #[{ on := 2, ground := Ground.data }], guard := none }) (v := .agg (ints .u8 o.d).toArray) rfl (by kernel_rfl) (by kernel_rfl) (by kernel_rfl) (fun _ _ _ h => h) (yieldsIf_load_mid (by rfl) 27 _ rfl w.heap.size (36) rfl (ints .u8 o.d) _ (fun w hS => hS.rd) Tryd.underlying27 rfl (by rw [ints_len, ok.d]; rfl)) hHeld ?_
  try simp only [Act.put, List.setIfInBounds_toArray, List.set_cons_zero, List.set_cons_succ]
  refine wpAnyH_take (i := 5) (oi := { dst := some 12, op := Op.load 27 (Operand.tmp 11), type := 27, pos := "law.go:104", after := #[{ on := 4, ground := Ground.data }], guard := none }) (v := .agg (ints .u8 o.e).toArray) rfl (by kernel_rfl) (by kernel_rfl) (by kernel_rfl) (fun _ _ _ h => h) (yieldsIf_load_mid (by rfl) 27 _ rfl w.heap.size (68) rfl (ints .u8 o.e) _ (fun w hS => hS.re) Tryd.underlying27 rfl (by rw [ints_len, ok.e]; rfl)) hHeld ?_
  try simp only [Act.put, List.setIfInBounds_toArray, List.set_cons_zero, List.set_cons_succ]
  refine wpAnyH_take (i := 8) (oi := { dst := some 15, op := Op.load 3 (Operand.tmp 14), type := 3, pos := "law.go:104", after := #[{ on := 7, ground := Ground.data }], guard := none }) (v := .int .i64 o.wd) rfl (by kernel_rfl) (by kernel_rfl) (by kernel_rfl) (fun _ _ _ h => h) (Or.inl ⟨by rfl, by intro w hS; have hc := hS.cw; go_simp⟩) hHeld ?_
  try simp only [Act.put, List.setIfInBounds_toArray, List.set_cons_zero, List.set_cons_succ]
  refine wpAnyH_take (i := 10) (oi := { dst := some 17, op := Op.load 27 (Operand.tmp 16), type := 27, pos := "law.go:104", after := #[{ on := 9, ground := Ground.data }], guard := none }) (v := .agg (ints .u8 o.d).toArray) rfl (by kernel_rfl) (by kernel_rfl) (by kernel_rfl) (fun _ _ _ h => h) (yieldsIf_load_mid (by rfl) 27 _ rfl w.heap.size (36) rfl (ints .u8 o.d) _ (fun w hS => hS.rd) Tryd.underlying27 rfl (by rw [ints_len, ok.d]; rfl)) hHeld ?_
  try simp only [Act.put, List.setIfInBounds_toArray, List.set_cons_zero, List.set_cons_succ]
  refine wpAnyH_take (i := 12) (oi := { dst := some 19, op := Op.load 27 (Operand.tmp 18), type := 27, pos := "law.go:104", after := #[{ on := 11, ground := Ground.data }], guard := none }) (v := .agg (ints .u8 o.e).toArray) rfl (by kernel_rfl) (by kernel_rfl) (by kernel_rfl) (fun _ _ _ h => h) (yieldsIf_load_mid (by rfl) 27 _ rfl w.heap.size (68) rfl (ints .u8 o.e) _ (fun w hS => hS.re) Tryd.underlying27 rfl (by rw [ints_len, ok.e]; rfl)) hHeld ?_
  try simp only [Act.put, List.setIfInBounds_toArray, List.set_cons_zero, List.set_cons_succ]
  refine wpAnyH_ready (rs := [6]) (by kernel_rfl) (by simp) ?_
  refine (AllReadyH.cons (o := { dst := some 13, op := Op.call { callee := Callee.value (Operand.func 24), args := #[Operand.tmp 8, Operand.tmp 10, Operand.tmp 12], argTypes := #[3, 27, 27] }, type := 28, pos := "law.go:104", after := #[{ on := 1, ground := Ground.data }, { on := 3, ground := Ground.data }, { on := 5, ground := Ground.data }], guard := none }) rfl (fun K hK => ?_) AllReadyH.nil)
  go_simp
  go_at_call 24
  refine (branchText_any _ o.wd o.d o.e ok.d ok.e).mono ?_
  rintro e w4 ⟨v, rfl, hO, hb4⟩
  obtain ⟨s1, c1, rfl, S1, n1⟩ := hO.form
  go_wp2_with fail
  refine hK.out _ _ (NR.call hHeld hb4) (fun hHeld2 => ?_)
  clear hK K hHeld
  have hHeld := hHeld2
  clear hHeld2
  try simp only [Act.put, List.setIfInBounds_toArray, List.set_cons_zero, List.set_cons_succ]
  refine wpAnyH_ready (rs := [13]) (by kernel_rfl) (by simp) ?_
  refine (AllReadyH.cons (o := { dst := some 20, op := Op.call { callee := Callee.value (Operand.func 25), args := #[Operand.tmp 15, Operand.tmp 17, Operand.tmp 19], argTypes := #[3, 27, 27] }, type := 28, pos := "law.go:104", after := #[{ on := 8, ground := Ground.data }, { on := 10, ground := Ground.data }, { on := 12, ground := Ground.data }, { on := 6, ground := Ground.chain }], guard := none }) rfl (fun K hK => ?_) AllReadyH.nil)
  go_simp
  go_at_call 25
  refine (xbranchText_any _ o.wd o.d o.e ok.d ok.e).mono ?_
  rintro e w4 ⟨v, rfl, hO, hb4⟩
  obtain ⟨s2, c2, rfl, S2, n2⟩ := hO.form
  replace S1 := S1.below hb4 (Nat.le_refl _)
  go_wp2_with fail
  refine hK.out _ _ (NR.call hHeld hb4) (fun hHeld2 => ?_)
  clear hK K hHeld
  have hHeld := hHeld2
  clear hHeld2
  try simp only [Act.put, List.setIfInBounds_toArray, List.set_cons_zero, List.set_cons_succ]
  refine wpAnyH_ready (rs := [14]) (by kernel_rfl) (by simp) ?_
  refine (AllReadyH.cons (o := { dst := some 21, op := Op.call { callee := Callee.value (Operand.func 15), args := #[Operand.tmp 13, Operand.tmp 20], argTypes := #[28, 28] }, type := 4, pos := "law.go:104", after := #[{ on := 6, ground := Ground.data }, { on := 13, ground := Ground.data }, { on := 13, ground := Ground.chain }], guard := none }) rfl (fun K hK => ?_) AllReadyH.nil)
  go_simp
  go_at_call 15
  refine (same_self _ (branchT (kept o.wd) o.d o.e) s1 s2 c1 c2 S1 S2).mono ?_
  rintro e w4 ⟨rfl, hb4⟩
  go_wp2_with fail
  refine hK.out _ _ (NR.call hHeld hb4) (fun hHeld2 => ?_)
  clear hK K hHeld
  have hHeld := hHeld2
  clear hHeld2
  try simp only [Act.put, List.setIfInBounds_toArray, List.set_cons_zero, List.set_cons_succ]
  refine wpAnyH_take (i := 15) (oi := { dst := some 2, op := Op.assign (Operand.tmp 21), type := 4, pos := "law.go:104", after := #[{ on := 14, ground := Ground.data }, { on := 14, ground := Ground.chain }, { on := 0, ground := Ground.phase }, { on := 1, ground := Ground.phase }, { on := 2, ground := Ground.phase }, { on := 3, ground := Ground.phase }, { on := 4, ground := Ground.phase }, { on := 5, ground := Ground.phase }, { on := 6, ground := Ground.phase }, { on := 7, ground := Ground.phase }, { on := 8, ground := Ground.phase }, { on := 9, ground := Ground.phase }, { on := 10, ground := Ground.phase }, { on := 11, ground := Ground.phase }, { on := 12, ground := Ground.phase }, { on := 13, ground := Ground.phase }, { on := 14, ground := Ground.phase }], guard := none }) (v := .bool true) rfl (by kernel_rfl) (by kernel_rfl) (by kernel_rfl) (fun _ _ _ h => h) (Or.inl ⟨by rfl, by intro w hS; go_simp⟩) hHeld ?_
  try simp only [Act.put, List.setIfInBounds_toArray, List.set_cons_zero, List.set_cons_succ]
  refine wpAnyH_done (by kernel_rfl) ?_ _
  refine NoPanic.normal ?_
  go_wp2
  go_ret
  exact ⟨rfl, hHeld.2.1⟩
set_option maxRecDepth 100000 in
set_option maxHeartbeats 4000000 in
theorem numbers_branch (w : World) (hG : Gb w) (o : NOp) (ok : NOk o) (hkd : o.kd = 6) :
    Calls Tryd.prog 11 #[.agg (opC o).toArray] w fun e w' => e = .returned (.bool true) ∧ Below w.heap.size w w' := by
  have d0 := NR.box (w := w) ok
  have c0 := d0.ck
  rw [hkd] at c0
  obtain ⟨D, hD⟩ : ∃ D, branchD o.wd o.d o.e = D := ⟨_, rfl⟩
  have hDl : D.length = 32 := by rw [← hD]; exact branchD_len _ _ _
  have HD := hid hD
  have q := eqD_self D hDl
  have gD := Tryd.guardD
  clear hD
  go_enter Tryd.func11, Tryd.ntmps11
  go_wp2
  generalize w.alloc (.cells (opC o).toArray 32) = w1 at *
  refine wp_region_noPanic ?_
  refine wp_region_held_drew (S := (fun w' => NR w w' w.heap.size o)) (by kernel_rfl) d0.drew (fun hHeld => ?_)
  refine wpAnyH_take (i := 0) (oi := { dst := some 24, op := Op.fieldAddr 32 (Operand.tmp 1) 1, type := 0, pos := "law.go:106", after := #[], guard := none }) (v := .pointer (some ⟨w.heap.size, 1, none⟩)) rfl (by kernel_rfl) (by kernel_rfl) (by kernel_rfl) (fun _ _ _ h => h) (Or.inl ⟨by rfl, by intro w hS; go_simp⟩) hHeld ?_
  try simp only [Act.put, List.setIfInBounds_toArray, List.set_cons_zero, List.set_cons_succ]
  refine wpAnyH_take (i := 2) (oi := { dst := some 26, op := Op.fieldAddr 32 (Operand.tmp 1) 5, type := 0, pos := "law.go:106", after := #[], guard := none }) (v := .pointer (some ⟨w.heap.size, 36, none⟩)) rfl (by kernel_rfl) (by kernel_rfl) (by kernel_rfl) (fun _ _ _ h => h) (Or.inl ⟨by rfl, by intro w hS; go_simp⟩) hHeld ?_
  try simp only [Act.put, List.setIfInBounds_toArray, List.set_cons_zero, List.set_cons_succ]
  refine wpAnyH_take (i := 4) (oi := { dst := some 28, op := Op.fieldAddr 32 (Operand.tmp 1) 6, type := 0, pos := "law.go:106", after := #[], guard := none }) (v := .pointer (some ⟨w.heap.size, 68, none⟩)) rfl (by kernel_rfl) (by kernel_rfl) (by kernel_rfl) (fun _ _ _ h => h) (Or.inl ⟨by rfl, by intro w hS; go_simp⟩) hHeld ?_
  try simp only [Act.put, List.setIfInBounds_toArray, List.set_cons_zero, List.set_cons_succ]
  refine wpAnyH_take (i := 7) (oi := { dst := some 31, op := Op.fieldAddr 32 (Operand.tmp 1) 1, type := 0, pos := "law.go:106", after := #[], guard := none }) (v := .pointer (some ⟨w.heap.size, 1, none⟩)) rfl (by kernel_rfl) (by kernel_rfl) (by kernel_rfl) (fun _ _ _ h => h) (Or.inl ⟨by rfl, by intro w hS; go_simp⟩) hHeld ?_
  try simp only [Act.put, List.setIfInBounds_toArray, List.set_cons_zero, List.set_cons_succ]
  refine wpAnyH_take (i := 9) (oi := { dst := some 33, op := Op.fieldAddr 32 (Operand.tmp 1) 5, type := 0, pos := "law.go:106", after := #[], guard := none }) (v := .pointer (some ⟨w.heap.size, 36, none⟩)) rfl (by kernel_rfl) (by kernel_rfl) (by kernel_rfl) (fun _ _ _ h => h) (Or.inl ⟨by rfl, by intro w hS; go_simp⟩) hHeld ?_
  try simp only [Act.put, List.setIfInBounds_toArray, List.set_cons_zero, List.set_cons_succ]
  refine wpAnyH_take (i := 11) (oi := { dst := some 35, op := Op.fieldAddr 32 (Operand.tmp 1) 6, type := 0, pos := "law.go:106", after := #[], guard := none }) (v := .pointer (some ⟨w.heap.size, 68, none⟩)) rfl (by kernel_rfl) (by kernel_rfl) (by kernel_rfl) (fun _ _ _ h => h) (Or.inl ⟨by rfl, by intro w hS; go_simp⟩) hHeld ?_
  try simp only [Act.put, List.setIfInBounds_toArray, List.set_cons_zero, List.set_cons_succ]
  refine wpAnyH_take (i := 1) (oi := { dst := some 25, op := Op.load 3 (Operand.tmp 24), type := 3, pos := "law.go:106", after := #[{ on := 0, ground := Ground.data }], guard := none }) (v := .int .i64 o.wd) rfl (by kernel_rfl) (by kernel_rfl) (by kernel_rfl) (fun _ _ _ h => h) (Or.inl ⟨by rfl, by intro w hS; have hc := hS.cw; go_simp⟩) hHeld ?_
  try simp only [Act.put, List.setIfInBounds_toArray, List.set_cons_zero, List.set_cons_succ]
  refine wpAnyH_take (i := 3) (oi := { dst := some 27, op := Op.load 27 (Operand.tmp 26), type := 27, pos := "law.go:106", after := #[{ on := 2, ground := Ground.data }], guard := none }) (v := .agg (ints .u8 o.d).toArray) rfl (by kernel_rfl) (by kernel_rfl) (by kernel_rfl) (fun _ _ _ h => h) (yieldsIf_load_mid (by rfl) 27 _ rfl w.heap.size (36) rfl (ints .u8 o.d) _ (fun w hS => hS.rd) Tryd.underlying27 rfl (by rw [ints_len, ok.d]; rfl)) hHeld ?_
  try simp only [Act.put, List.setIfInBounds_toArray, List.set_cons_zero, List.set_cons_succ]
  refine wpAnyH_take (i := 5) (oi := { dst := some 29, op := Op.load 27 (Operand.tmp 28), type := 27, pos := "law.go:106", after := #[{ on := 4, ground := Ground.data }], guard := none }) (v := .agg (ints .u8 o.e).toArray) rfl (by kernel_rfl) (by kernel_rfl) (by kernel_rfl) (fun _ _ _ h => h) (yieldsIf_load_mid (by rfl) 27 _ rfl w.heap.size (68) rfl (ints .u8 o.e) _ (fun w hS => hS.re) Tryd.underlying27 rfl (by rw [ints_len, ok.e]; rfl)) hHeld ?_
  try simp only [Act.put, List.setIfInBounds_toArray, List.set_cons_zero, List.set_cons_succ]
  refine wpAnyH_take (i := 8) (oi := { dst := some 32, op := Op.load 3 (Operand.tmp 31), type := 3, pos := "law.go:106", after := #[{ on := 7, ground := Ground.data }], guard := none }) (v := .int .i64 o.wd) rfl (by kernel_rfl) (by kernel_rfl) (by kernel_rfl) (fun _ _ _ h => h) (Or.inl ⟨by rfl, by intro w hS; have hc := hS.cw; go_simp⟩) hHeld ?_
  try simp only [Act.put, List.setIfInBounds_toArray, List.set_cons_zero, List.set_cons_succ]
  refine wpAnyH_take (i := 10) (oi := { dst := some 34, op := Op.load 27 (Operand.tmp 33), type := 27, pos := "law.go:106", after := #[{ on := 9, ground := Ground.data }], guard := none }) (v := .agg (ints .u8 o.d).toArray) rfl (by kernel_rfl) (by kernel_rfl) (by kernel_rfl) (fun _ _ _ h => h) (yieldsIf_load_mid (by rfl) 27 _ rfl w.heap.size (36) rfl (ints .u8 o.d) _ (fun w hS => hS.rd) Tryd.underlying27 rfl (by rw [ints_len, ok.d]; rfl)) hHeld ?_
  try simp only [Act.put, List.setIfInBounds_toArray, List.set_cons_zero, List.set_cons_succ]
  refine wpAnyH_take (i := 12) (oi := { dst := some 36, op := Op.load 27 (Operand.tmp 35), type := 27, pos := "law.go:106", after := #[{ on := 11, ground := Ground.data }], guard := none }) (v := .agg (ints .u8 o.e).toArray) rfl (by kernel_rfl) (by kernel_rfl) (by kernel_rfl) (fun _ _ _ h => h) (yieldsIf_load_mid (by rfl) 27 _ rfl w.heap.size (68) rfl (ints .u8 o.e) _ (fun w hS => hS.re) Tryd.underlying27 rfl (by rw [ints_len, ok.e]; rfl)) hHeld ?_
  try simp only [Act.put, List.setIfInBounds_toArray, List.set_cons_zero, List.set_cons_succ]
  refine wpAnyH_ready (rs := [6]) (by kernel_rfl) (by simp) ?_
  refine (AllReadyH.cons (o := { dst := some 30, op := Op.call { callee := Callee.value (Operand.func 26), args := #[Operand.tmp 25, Operand.tmp 27, Operand.tmp 29], argTypes := #[3, 27, 27] }, type := 27, pos := "law.go:106", after := #[{ on := 1, ground := Ground.data }, { on := 3, ground := Ground.data }, { on := 5, ground := Ground.data }], guard := none }) rfl (fun K hK => ?_) AllReadyH.nil)
  go_simp
  go_at_call 26
  refine (branch_to _ (NR.gb hHeld hG).1 o.wd o.d o.e D ok.d ok.e HD.out).mono ?_
  rintro e w4 ⟨rfl, hb4⟩
  go_wp2_with fail
  refine hK.out _ _ (NR.call hHeld hb4) (fun hHeld2 => ?_)
  clear hK K hHeld
  have hHeld := hHeld2
  clear hHeld2
  try simp only [Act.put, List.setIfInBounds_toArray, List.set_cons_zero, List.set_cons_succ]
  refine wpAnyH_ready (rs := [13]) (by kernel_rfl) (by simp) ?_
  refine (AllReadyH.cons (o := { dst := some 37, op := Op.call { callee := Callee.value (Operand.func 27), args := #[Operand.tmp 32, Operand.tmp 34, Operand.tmp 36], argTypes := #[3, 27, 27] }, type := 27, pos := "law.go:106", after := #[{ on := 8, ground := Ground.data }, { on := 10, ground := Ground.data }, { on := 12, ground := Ground.data }, { on := 6, ground := Ground.chain }], guard := none }) rfl (fun K hK => ?_) AllReadyH.nil)
  go_simp
  go_at_call 27
  refine (xbranch_to _ (NR.gb hHeld hG) o.wd o.d o.e D ok.d ok.e HD.out).mono ?_
  rintro e w4 ⟨rfl, hb4⟩
  go_wp2_with fail
  refine hK.out _ _ (NR.call hHeld hb4) (fun hHeld2 => ?_)
  clear hK K hHeld
  have hHeld := hHeld2
  clear hHeld2
  try simp only [Act.put, List.setIfInBounds_toArray, List.set_cons_zero, List.set_cons_succ]
  refine wpAnyH_take (i := 14) (oi := { dst := some 38, op := Op.binOp BinOp.eql 27 (Operand.tmp 30) (Operand.tmp 37) 27, type := 4, pos := "law.go:106", after := #[{ on := 6, ground := Ground.data }, { on := 13, ground := Ground.data }], guard := none }) (v := .bool true) rfl (by kernel_rfl) (by kernel_rfl) (by kernel_rfl) (fun _ _ _ h => h) (Or.inl ⟨by rfl, by intro w hS; go_simp⟩) hHeld ?_
  try simp only [Act.put, List.setIfInBounds_toArray, List.set_cons_zero, List.set_cons_succ]
  refine wpAnyH_take (i := 15) (oi := { dst := some 2, op := Op.assign (Operand.tmp 38), type := 4, pos := "law.go:106", after := #[{ on := 14, ground := Ground.data }, { on := 13, ground := Ground.chain }, { on := 0, ground := Ground.phase }, { on := 1, ground := Ground.phase }, { on := 2, ground := Ground.phase }, { on := 3, ground := Ground.phase }, { on := 4, ground := Ground.phase }, { on := 5, ground := Ground.phase }, { on := 6, ground := Ground.phase }, { on := 7, ground := Ground.phase }, { on := 8, ground := Ground.phase }, { on := 9, ground := Ground.phase }, { on := 10, ground := Ground.phase }, { on := 11, ground := Ground.phase }, { on := 12, ground := Ground.phase }, { on := 13, ground := Ground.phase }, { on := 14, ground := Ground.phase }], guard := none }) (v := .bool true) rfl (by kernel_rfl) (by kernel_rfl) (by kernel_rfl) (fun _ _ _ h => h) (Or.inl ⟨by rfl, by intro w hS; go_simp⟩) hHeld ?_
  try simp only [Act.put, List.setIfInBounds_toArray, List.set_cons_zero, List.set_cons_succ]
  refine wpAnyH_done (by kernel_rfl) ?_ _
  refine NoPanic.normal ?_
  go_wp2
  go_ret
  exact ⟨rfl, hHeld.2.1⟩
set_option maxRecDepth 100000 in
set_option maxHeartbeats 4000000 in
theorem numbers_empty (w : World) (hG : Gb w) (o : NOp) (ok : NOk o) (hkd : o.kd = 7) :
    Calls Tryd.prog 11 #[.agg (opC o).toArray] w fun e w' => e = .returned (.bool true) ∧ Below w.heap.size w w' := by
  have d0 := NR.box (w := w) ok
  have c0 := d0.ck
  rw [hkd] at c0
  obtain ⟨D, hD⟩ : ∃ D, emptyD o.wd (hgt o.n) = D := ⟨_, rfl⟩
  have hDl : D.length = 32 := by rw [← hD]; exact emptyD_len _ _
  have HD := hid hD
  have q := eqD_self D hDl
  have gD := Tryd.guardD
  clear hD
  go_enter Tryd.func11, Tryd.ntmps11
  go_wp2
  generalize w.alloc (.cells (opC o).toArray 32) = w1 at *
  refine wp_region_noPanic ?_
  refine wp_region_held_drew (S := (fun w' => NR w w' w.heap.size o)) (by kernel_rfl) d0.drew (fun hHeld => ?_)
  refine wpAnyH_take (i := 0) (oi := { dst := some 41, op := Op.fieldAddr 32 (Operand.tmp 1) 1, type := 0, pos := "law.go:108", after := #[], guard := none }) (v := .pointer (some ⟨w.heap.size, 1, none⟩)) rfl (by kernel_rfl) (by kernel_rfl) (by kernel_rfl) (fun _ _ _ h => h) (Or.inl ⟨by rfl, by intro w hS; go_simp⟩) hHeld ?_
  try simp only [Act.put, List.setIfInBounds_toArray, List.set_cons_zero, List.set_cons_succ]
  refine wpAnyH_take (i := 2) (oi := { dst := some 43, op := Op.fieldAddr 32 (Operand.tmp 1) 2, type := 0, pos := "law.go:108", after := #[], guard := none }) (v := .pointer (some ⟨w.heap.size, 2, none⟩)) rfl (by kernel_rfl) (by kernel_rfl) (by kernel_rfl) (fun _ _ _ h => h) (Or.inl ⟨by rfl, by intro w hS; go_simp⟩) hHeld ?_
  try simp only [Act.put, List.setIfInBounds_toArray, List.set_cons_zero, List.set_cons_succ]
  refine wpAnyH_take (i := 5) (oi := { dst := some 46, op := Op.fieldAddr 32 (Operand.tmp 1) 1, type := 0, pos := "law.go:108", after := #[], guard := none }) (v := .pointer (some ⟨w.heap.size, 1, none⟩)) rfl (by kernel_rfl) (by kernel_rfl) (by kernel_rfl) (fun _ _ _ h => h) (Or.inl ⟨by rfl, by intro w hS; go_simp⟩) hHeld ?_
  try simp only [Act.put, List.setIfInBounds_toArray, List.set_cons_zero, List.set_cons_succ]
  refine wpAnyH_take (i := 7) (oi := { dst := some 48, op := Op.fieldAddr 32 (Operand.tmp 1) 2, type := 0, pos := "law.go:108", after := #[], guard := none }) (v := .pointer (some ⟨w.heap.size, 2, none⟩)) rfl (by kernel_rfl) (by kernel_rfl) (by kernel_rfl) (fun _ _ _ h => h) (Or.inl ⟨by rfl, by intro w hS; go_simp⟩) hHeld ?_
  try simp only [Act.put, List.setIfInBounds_toArray, List.set_cons_zero, List.set_cons_succ]
  refine wpAnyH_take (i := 1) (oi := { dst := some 42, op := Op.load 3 (Operand.tmp 41), type := 3, pos := "law.go:108", after := #[{ on := 0, ground := Ground.data }], guard := none }) (v := .int .i64 o.wd) rfl (by kernel_rfl) (by kernel_rfl) (by kernel_rfl) (fun _ _ _ h => h) (Or.inl ⟨by rfl, by intro w hS; have hc := hS.cw; go_simp⟩) hHeld ?_
  try simp only [Act.put, List.setIfInBounds_toArray, List.set_cons_zero, List.set_cons_succ]
  refine wpAnyH_take (i := 3) (oi := { dst := some 44, op := Op.load 3 (Operand.tmp 43), type := 3, pos := "law.go:108", after := #[{ on := 2, ground := Ground.data }], guard := none }) (v := .int .i64 o.n) rfl (by kernel_rfl) (by kernel_rfl) (by kernel_rfl) (fun _ _ _ h => h) (Or.inl ⟨by rfl, by intro w hS; have hc := hS.cn; go_simp⟩) hHeld ?_
  try simp only [Act.put, List.setIfInBounds_toArray, List.set_cons_zero, List.set_cons_succ]
  refine wpAnyH_take (i := 6) (oi := { dst := some 47, op := Op.load 3 (Operand.tmp 46), type := 3, pos := "law.go:108", after := #[{ on := 5, ground := Ground.data }], guard := none }) (v := .int .i64 o.wd) rfl (by kernel_rfl) (by kernel_rfl) (by kernel_rfl) (fun _ _ _ h => h) (Or.inl ⟨by rfl, by intro w hS; have hc := hS.cw; go_simp⟩) hHeld ?_
  try simp only [Act.put, List.setIfInBounds_toArray, List.set_cons_zero, List.set_cons_succ]
  refine wpAnyH_take (i := 8) (oi := { dst := some 49, op := Op.load 3 (Operand.tmp 48), type := 3, pos := "law.go:108", after := #[{ on := 7, ground := Ground.data }], guard := none }) (v := .int .i64 o.n) rfl (by kernel_rfl) (by kernel_rfl) (by kernel_rfl) (fun _ _ _ h => h) (Or.inl ⟨by rfl, by intro w hS; have hc := hS.cn; go_simp⟩) hHeld ?_
  try simp only [Act.put, List.setIfInBounds_toArray, List.set_cons_zero, List.set_cons_succ]
  refine wpAnyH_ready (rs := [4]) (by kernel_rfl) (by simp) ?_
  refine (AllReadyH.cons (o := { dst := some 45, op := Op.call { callee := Callee.value (Operand.func 28), args := #[Operand.tmp 42, Operand.tmp 44], argTypes := #[3, 3] }, type := 27, pos := "law.go:108", after := #[{ on := 1, ground := Ground.data }, { on := 3, ground := Ground.data }], guard := none }) rfl (fun K hK => ?_) AllReadyH.nil)
  go_simp
  go_at_call 28
  refine (empty_to _ (NR.gb hHeld hG).1 o.wd o.n D HD.out).mono ?_
  rintro e w4 ⟨rfl, hb4⟩
  go_wp2_with fail
  refine hK.out _ _ (NR.call hHeld hb4) (fun hHeld2 => ?_)
  clear hK K hHeld
  have hHeld := hHeld2
  clear hHeld2
  try simp only [Act.put, List.setIfInBounds_toArray, List.set_cons_zero, List.set_cons_succ]
  refine wpAnyH_ready (rs := [9]) (by kernel_rfl) (by simp) ?_
  refine (AllReadyH.cons (o := { dst := some 50, op := Op.call { callee := Callee.value (Operand.func 29), args := #[Operand.tmp 47, Operand.tmp 49], argTypes := #[3, 3] }, type := 27, pos := "law.go:108", after := #[{ on := 6, ground := Ground.data }, { on := 8, ground := Ground.data }, { on := 4, ground := Ground.chain }], guard := none }) rfl (fun K hK => ?_) AllReadyH.nil)
  go_simp
  go_at_call 29
  refine (xempty_to _ (NR.gb hHeld hG) o.wd o.n D HD.out).mono ?_
  rintro e w4 ⟨rfl, hb4⟩
  go_wp2_with fail
  refine hK.out _ _ (NR.call hHeld hb4) (fun hHeld2 => ?_)
  clear hK K hHeld
  have hHeld := hHeld2
  clear hHeld2
  try simp only [Act.put, List.setIfInBounds_toArray, List.set_cons_zero, List.set_cons_succ]
  refine wpAnyH_take (i := 10) (oi := { dst := some 51, op := Op.binOp BinOp.eql 27 (Operand.tmp 45) (Operand.tmp 50) 27, type := 4, pos := "law.go:108", after := #[{ on := 4, ground := Ground.data }, { on := 9, ground := Ground.data }], guard := none }) (v := .bool true) rfl (by kernel_rfl) (by kernel_rfl) (by kernel_rfl) (fun _ _ _ h => h) (Or.inl ⟨by rfl, by intro w hS; go_simp⟩) hHeld ?_
  try simp only [Act.put, List.setIfInBounds_toArray, List.set_cons_zero, List.set_cons_succ]
  refine wpAnyH_take (i := 11) (oi := { dst := some 2, op := Op.assign (Operand.tmp 51), type := 4, pos := "law.go:108", after := #[{ on := 10, ground := Ground.data }, { on := 9, ground := Ground.chain }, { on := 0, ground := Ground.phase }, { on := 1, ground := Ground.phase }, { on := 2, ground := Ground.phase }, { on := 3, ground := Ground.phase }, { on := 4, ground := Ground.phase }, { on := 5, ground := Ground.phase }, { on := 6, ground := Ground.phase }, { on := 7, ground := Ground.phase }, { on := 8, ground := Ground.phase }, { on := 9, ground := Ground.phase }, { on := 10, ground := Ground.phase }], guard := none }) (v := .bool true) rfl (by kernel_rfl) (by kernel_rfl) (by kernel_rfl) (fun _ _ _ h => h) (Or.inl ⟨by rfl, by intro w hS; go_simp⟩) hHeld ?_
  try simp only [Act.put, List.setIfInBounds_toArray, List.set_cons_zero, List.set_cons_succ]
  refine wpAnyH_done (by kernel_rfl) ?_ _
  refine NoPanic.normal ?_
  go_wp2
  go_ret
  exact ⟨rfl, hHeld.2.1⟩
end Go.Proofs.YtipbbmbkjcpjbaaDoor
