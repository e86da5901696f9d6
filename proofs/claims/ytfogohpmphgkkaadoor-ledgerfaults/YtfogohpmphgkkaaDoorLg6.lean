import Derived.Test.YtfogohpmphgkkaaDoorLg5
namespace Go.Proofs.YtfogohpmphgkkaaDoor
set_option linter.unusedVariables false
set_option linter.unusedSimpArgs false
open Go.RowKit Go.Extern.Stop Go.Stop Go.Extern
attribute [local go_sem ↓] Go.wp_at_zero Go.wp_at_succ

/-- What '(internal/reflectlite.rtype).Comparable' is in the model. -/
def cmpFn : Array Value → Sem Value := Extern.ReflectliteType.method fun t => do Extern.Rtype.noPackHeld "Comparable" t; pure (.bool (← typeInfo t).comparable)
theorem Tryd.isComparable (w : World) : (cmpFn #[.agg #[.pointer (some ⟨23, 88, none⟩)]]).run Tryd.prog w = .ok (.bool true) w := by kernel_rfl
/-- errors.is finds in v just the fixed errors of p, in this world and whatever is grown out of it. -/
def IsP (w : World) (A : Nat → Addr) (v : Value) (p : Nat → Bool) : Prop :=
  ∀ w', Below w.heap.size w w' → ∀ g, g < 20 → Calls Tryd.prog 25 #[v, .iface 88 (.pointer (some (A g))), .bool true] w' fun e w'' => e = .returned (.bool (p g)) ∧ Below w'.heap.size w' w''
theorem IsP.later {w w' : World} {A : Nat → Addr} {v : Value} {p : Nat → Bool} (h : IsP w A v p) (hb : Below w.heap.size w w') : IsP w' A v p :=
  fun w2 hb2 g hg => h w2 (hb.trans (hb2.mono hb.size)) g hg
theorem cellB {w w' : World} (hb : Below w.heap.size w w') {a : Addr} {v : Value} (h : w.cell? a = some v) : w'.cell? a = some v := by
  rw [← h]; exact hb.cell (block_lt_of_cell h)
theorem isP_fx {w : World} {A : Nat → Addr} (hS : Sen w A) {i : Nat} (hi : i < 20) : IsP w A (.iface 88 (.pointer (some (A i)))) (fun g => i == g) :=
  fun w' hb g hg => (is_fx w' A (hS.mono hb) i g hi hg).mono fun e w2 ⟨h1, h2⟩ => ⟨h1, by rw [h2]; exact Below.refl _ _⟩
theorem isP_fo0 {w : World} {A : Nat → Addr} (hS : Sen w A) (s : ByteArray) : IsP w A (.iface 42 (.agg #[.string s, .nilIface])) (fun _ => false) :=
  fun w' hb g hg => is_fo0 w' A (hS.mono hb) g hg s
theorem isP_fo1 {w : World} {A : Nat → Addr} (hS : Sen w A) (s : ByteArray) {i : Nat} (hi : i < 20) : IsP w A (.iface 42 (.agg #[.string s, .iface 88 (.pointer (some (A i)))])) (fun g => i == g) :=
  fun w' hb g hg => is_fo1 w' A (hS.mono hb) i g hi hg s
theorem isP_fo2 {w : World} {A : Nat → Addr} (hS : Sen w A) (s : ByteArray) (b : Nat) {i : Nat} (hi : i < 20) (h : w.cell? ⟨b, 2, none⟩ = some (.iface 88 (.pointer (some (A i))))) : IsP w A (.iface 42 (.agg #[.string s, .iface 34 (.pointer (some ⟨b, 0, none⟩))])) (fun g => i == g) :=
  fun w' hb g hg => is_fo2 w' A (hS.mono hb) i g hi hg b s (cellB hb h)
theorem isP_fa0 {w : World} {A : Nat → Addr} (hS : Sen w A) (b : Nat) (h : w.cell? ⟨b, 2, none⟩ = some .nilIface) : IsP w A (.iface 34 (.pointer (some ⟨b, 0, none⟩))) (fun _ => false) :=
  fun w' hb g hg => is_fa0 w' A (hS.mono hb) g hg b (cellB hb h)
theorem isP_fa1 {w : World} {A : Nat → Addr} (hS : Sen w A) (b : Nat) {i : Nat} (hi : i < 20) (h : w.cell? ⟨b, 2, none⟩ = some (.iface 88 (.pointer (some (A i))))) : IsP w A (.iface 34 (.pointer (some ⟨b, 0, none⟩))) (fun g => i == g) :=
  fun w' hb g hg => is_fa1 w' A (hS.mono hb) i g hi hg b (cellB hb h)
theorem isP_fa2 {w : World} {A : Nat → Addr} (hS : Sen w A) (b c : Nat) {i : Nat} (hi : i < 20) (h : w.cell? ⟨b, 2, none⟩ = some (.iface 34 (.pointer (some ⟨c, 0, none⟩)))) (h2 : w.cell? ⟨c, 2, none⟩ = some (.iface 88 (.pointer (some (A i))))) : IsP w A (.iface 34 (.pointer (some ⟨b, 0, none⟩))) (fun g => i == g) :=
  fun w' hb g hg => is_fa2 w' A (hS.mono hb) i g hi hg c b (cellB hb h2) (cellB hb h)
theorem isP_faf {w : World} {A : Nat → Addr} (hS : Sen w A) (b : Nat) (s : ByteArray) (h : w.cell? ⟨b, 2, none⟩ = some (.iface 42 (.agg #[.string s, .nilIface]))) : IsP w A (.iface 34 (.pointer (some ⟨b, 0, none⟩))) (fun _ => false) :=
  fun w' hb g hg => is_faf w' A (hS.mono hb) g hg s b (cellB hb h)
set_option maxRecDepth 100000 in
set_option maxHeartbeats 2000000 in
theorem is_join2 (w : World) (A : Nat → Addr) (g : Nat) (hg : g < 20) (b d : Nat) (v0 v1 : Value) (p0 p1 : Nat → Bool) (hc : w.cell? ⟨b, 0, none⟩ = some (.slice (some ⟨d, 0, none⟩) 2 2)) (c0 : w.cell? ⟨d, 0, none⟩ = some v0) (i0 : IsP w A v0 p0) (c1 : w.cell? ⟨d, 1, none⟩ = some v1) (i1 : IsP w A v1 p1) :
    Calls Tryd.prog 25 #[.iface 53 (.pointer (some ⟨b, 0, none⟩)), .iface 88 (.pointer (some (A g))), .bool true] w fun e w' => e = .returned (.bool (p0 g || p1 g)) ∧ Below w.heap.size w w' := by
  have nE := Tryd.noIsE
  have uE := Tryd.noUE
  have vE := Tryd.noUsE
  have nF := Tryd.noIsF
  have uF := Tryd.hasUF
  have nP := Tryd.noIsP
  have uP := Tryd.hasUP
  have nJ := Tryd.noIsJ
  have uJ := Tryd.noUJ
  have vJ := Tryd.hasUsJ
  have mF := Tryd.mUnwF
  have mP := Tryd.mUnwP
  have mJ := Tryd.mUnwJ
  have tF := fun w v a => er_types w 42 v a (by decide)
  have tP := fun w v a => er_types w 34 v a (by decide)
  have tJ := fun w v a => er_types w 53 v a (by decide)
  have hN : ∀ (t : TypeId) (v : Value) (w : World), (binOp .eql 25 (.iface t v) .nilIface).run Tryd.prog w = .ok (.bool false) w := fun t v w => nil_other Tryd.underlying25
  have hB := hid (Below.refl w.heap.size w)
  have j0 := hid i0
  have C0 := hid c0
  have j1 := hid i1
  have C1 := hid c1
  clear i0 i1
  go_enter Tryd.func25, Tryd.ntmps25
  go_wp2
  refine wp_loop_rounds 1 ?_
  rw [rounds_succ]
  go_wp2
  refine wp_loop_rounds 3 ?_
  rw [rounds_succ]
  go_wp2_with fail
  refine (j0.out w (hB.out) g hg).mono ?_
  rintro e w0 ⟨rfl, hb0⟩
  have k0 := hid (show Below w.heap.size w w0 from (hB.out).trans (hb0.mono (hB.out).size))
  have d01 : w0.cell? ⟨d, 1, none⟩ = some v1 := cellB k0.out C1.out
  clear hb0
  cases e0 : p0 g
  case true =>
    go_wp2
    go_ret
    exact ⟨by simp [e0], k0.out⟩
  go_wp2
  rw [rounds_succ]
  go_wp2_with fail
  refine (j1.out w0 (k0.out) g hg).mono ?_
  rintro e w1 ⟨rfl, hb1⟩
  have k1 := hid (show Below w.heap.size w w1 from (k0.out).trans (hb1.mono (k0.out).size))
  clear hb1
  cases e1 : p1 g
  case true =>
    go_wp2
    go_ret
    exact ⟨by simp [e0, e1], k1.out⟩
  go_wp2
  rw [rounds_succ]
  go_wp2
  go_ret
  exact ⟨by simp [e0, e1], k1.out⟩
set_option maxRecDepth 100000 in
set_option maxHeartbeats 2000000 in
theorem is_join3 (w : World) (A : Nat → Addr) (g : Nat) (hg : g < 20) (b d : Nat) (v0 v1 v2 : Value) (p0 p1 p2 : Nat → Bool) (hc : w.cell? ⟨b, 0, none⟩ = some (.slice (some ⟨d, 0, none⟩) 3 3)) (c0 : w.cell? ⟨d, 0, none⟩ = some v0) (i0 : IsP w A v0 p0) (c1 : w.cell? ⟨d, 1, none⟩ = some v1) (i1 : IsP w A v1 p1) (c2 : w.cell? ⟨d, 2, none⟩ = some v2) (i2 : IsP w A v2 p2) :
    Calls Tryd.prog 25 #[.iface 53 (.pointer (some ⟨b, 0, none⟩)), .iface 88 (.pointer (some (A g))), .bool true] w fun e w' => e = .returned (.bool (p0 g || p1 g || p2 g)) ∧ Below w.heap.size w w' := by
  have nE := Tryd.noIsE
  have uE := Tryd.noUE
  have vE := Tryd.noUsE
  have nF := Tryd.noIsF
  have uF := Tryd.hasUF
  have nP := Tryd.noIsP
  have uP := Tryd.hasUP
  have nJ := Tryd.noIsJ
  have uJ := Tryd.noUJ
  have vJ := Tryd.hasUsJ
  have mF := Tryd.mUnwF
  have mP := Tryd.mUnwP
  have mJ := Tryd.mUnwJ
  have tF := fun w v a => er_types w 42 v a (by decide)
  have tP := fun w v a => er_types w 34 v a (by decide)
  have tJ := fun w v a => er_types w 53 v a (by decide)
  have hN : ∀ (t : TypeId) (v : Value) (w : World), (binOp .eql 25 (.iface t v) .nilIface).run Tryd.prog w = .ok (.bool false) w := fun t v w => nil_other Tryd.underlying25
  have hB := hid (Below.refl w.heap.size w)
  have j0 := hid i0
  have C0 := hid c0
  have j1 := hid i1
  have C1 := hid c1
  have j2 := hid i2
  have C2 := hid c2
  clear i0 i1 i2
  go_enter Tryd.func25, Tryd.ntmps25
  go_wp2
  refine wp_loop_rounds 1 ?_
  rw [rounds_succ]
  go_wp2
  refine wp_loop_rounds 4 ?_
  rw [rounds_succ]
  go_wp2_with fail
  refine (j0.out w (hB.out) g hg).mono ?_
  rintro e w0 ⟨rfl, hb0⟩
  have k0 := hid (show Below w.heap.size w w0 from (hB.out).trans (hb0.mono (hB.out).size))
  have d01 : w0.cell? ⟨d, 1, none⟩ = some v1 := cellB k0.out C1.out
  have d02 : w0.cell? ⟨d, 2, none⟩ = some v2 := cellB k0.out C2.out
  clear hb0
  cases e0 : p0 g
  case true =>
    go_wp2
    go_ret
    exact ⟨by simp [e0], k0.out⟩
  go_wp2
  rw [rounds_succ]
  go_wp2_with fail
  refine (j1.out w0 (k0.out) g hg).mono ?_
  rintro e w1 ⟨rfl, hb1⟩
  have k1 := hid (show Below w.heap.size w w1 from (k0.out).trans (hb1.mono (k0.out).size))
  have d12 : w1.cell? ⟨d, 2, none⟩ = some v2 := cellB k1.out C2.out
  clear hb1
  cases e1 : p1 g
  case true =>
    go_wp2
    go_ret
    exact ⟨by simp [e0, e1], k1.out⟩
  go_wp2
  rw [rounds_succ]
  go_wp2_with fail
  refine (j2.out w1 (k1.out) g hg).mono ?_
  rintro e w2 ⟨rfl, hb2⟩
  have k2 := hid (show Below w.heap.size w w2 from (k1.out).trans (hb2.mono (k1.out).size))
  clear hb2
  cases e2 : p2 g
  case true =>
    go_wp2
    go_ret
    exact ⟨by simp [e0, e1, e2], k2.out⟩
  go_wp2
  rw [rounds_succ]
  go_wp2
  go_ret
  exact ⟨by simp [e0, e1, e2], k2.out⟩
theorem nil_neq {P : Program} {w : World} {ti tp : TypeId} {v : Value} {ms : Array (String × TypeId)} (hi : P.underlying ti = some (.interface ms)) : (binOp .neq ti (.iface tp v) .nilIface).run P w = .ok (.bool true) w := by
  have h : ∀ d : Nat, (Op.equalIn (d + 1) ti (.iface tp v) .nilIface).run P w = .ok false w := fun d => by simp [Op.equalIn, run_underlying hi]
  simp only [binOp]
  simp [Op.equal, Op.maxDepth, h 9999]
theorem mk2 (w : World) : (Instr.makeSlice 52 (.int .i64 0) (.int .i64 2)).run Tryd.prog w = .ok (.slice (some ⟨w.heap.size, 0, none⟩) 0 2) (w.alloc (.cells #[.nilIface, .nilIface] 25)) := by kernel_rfl
theorem mk3 (w : World) : (Instr.makeSlice 52 (.int .i64 0) (.int .i64 3)).run Tryd.prog w = .ok (.slice (some ⟨w.heap.size, 0, none⟩) 0 3) (w.alloc (.cells #[.nilIface, .nilIface, .nilIface] 25)) := by kernel_rfl
set_option maxRecDepth 100000 in
set_option maxHeartbeats 2000000 in
theorem join2_any (w : World) (d : Nat) (t0 t1 : TypeId) (v0 v1 : Value) (c0 : w.cell? ⟨d, 0, none⟩ = some (.iface t0 v0)) (c1 : w.cell? ⟨d, 1, none⟩ = some (.iface t1 v1)) :
    Calls Tryd.prog 11 #[.slice (some ⟨d, 0, none⟩) 2 2] w fun e w' => ∃ b q : Nat, e = .returned (.iface 53 (.pointer (some ⟨b, 0, none⟩))) ∧ Below w.heap.size w w' ∧ w'.cell? ⟨b, 0, none⟩ = some (.slice (some ⟨q, 0, none⟩) 2 2) ∧ w'.cell? ⟨q, 0, none⟩ = some (.iface t0 v0) ∧ w'.cell? ⟨q, 1, none⟩ = some (.iface t1 v1) := by
  have hN : ∀ (t : TypeId) (v : Value) (w : World), (binOp .neq 25 (.iface t v) .nilIface).run Tryd.prog w = .ok (.bool true) w := fun t v w => nil_neq Tryd.underlying25
  have hM := mk2
  have hd0 : d < w.heap.size := block_lt_of_cell c0
  have hd1 : d < w.heap.size + 1 := by omega
  have hd2 : d < w.heap.size + 1 + 1 := by omega
  have hd3 : d < w.heap.size + 1 + 1 + 1 := by omega
  have hd4 : d < w.heap.size + 1 + 1 + 1 + 1 := by omega
  have hd5 : d < w.heap.size + 1 + 1 + 1 + 1 + 1 := by omega
  go_enter Tryd.func11, Tryd.ntmps11
  go_wp2
  refine wp_loop_rounds 3 ?_
  rw [rounds_succ]
  go_wp2
  rw [rounds_succ]
  go_wp2
  rw [rounds_succ]
  go_wp2
  refine wp_loop_rounds 3 ?_
  rw [rounds_succ]
  go_wp2
  rw [rounds_succ]
  go_wp2
  rw [rounds_succ]
  go_wp2
  go_ret
  refine ⟨w.heap.size + 1, w.heap.size, rfl, ?_, by simp [go_sem], by simp [go_sem], by simp [go_sem]⟩
  go_grown
set_option maxRecDepth 100000 in
set_option maxHeartbeats 2000000 in
theorem join3_any (w : World) (d : Nat) (t0 t1 t2 : TypeId) (v0 v1 v2 : Value) (c0 : w.cell? ⟨d, 0, none⟩ = some (.iface t0 v0)) (c1 : w.cell? ⟨d, 1, none⟩ = some (.iface t1 v1)) (c2 : w.cell? ⟨d, 2, none⟩ = some (.iface t2 v2)) :
    Calls Tryd.prog 11 #[.slice (some ⟨d, 0, none⟩) 3 3] w fun e w' => ∃ b q : Nat, e = .returned (.iface 53 (.pointer (some ⟨b, 0, none⟩))) ∧ Below w.heap.size w w' ∧ w'.cell? ⟨b, 0, none⟩ = some (.slice (some ⟨q, 0, none⟩) 3 3) ∧ w'.cell? ⟨q, 0, none⟩ = some (.iface t0 v0) ∧ w'.cell? ⟨q, 1, none⟩ = some (.iface t1 v1) ∧ w'.cell? ⟨q, 2, none⟩ = some (.iface t2 v2) := by
  have hN : ∀ (t : TypeId) (v : Value) (w : World), (binOp .neq 25 (.iface t v) .nilIface).run Tryd.prog w = .ok (.bool true) w := fun t v w => nil_neq Tryd.underlying25
  have hM := mk3
  have hd0 : d < w.heap.size := block_lt_of_cell c0
  have hd1 : d < w.heap.size + 1 := by omega
  have hd2 : d < w.heap.size + 1 + 1 := by omega
  have hd3 : d < w.heap.size + 1 + 1 + 1 := by omega
  have hd4 : d < w.heap.size + 1 + 1 + 1 + 1 := by omega
  have hd5 : d < w.heap.size + 1 + 1 + 1 + 1 + 1 := by omega
  go_enter Tryd.func11, Tryd.ntmps11
  go_wp2
  refine wp_loop_rounds 4 ?_
  rw [rounds_succ]
  go_wp2
  rw [rounds_succ]
  go_wp2
  rw [rounds_succ]
  go_wp2
  rw [rounds_succ]
  go_wp2
  refine wp_loop_rounds 4 ?_
  rw [rounds_succ]
  go_wp2
  rw [rounds_succ]
  go_wp2
  rw [rounds_succ]
  go_wp2
  rw [rounds_succ]
  go_wp2
  go_ret
  refine ⟨w.heap.size + 1, w.heap.size, rfl, ?_, by simp [go_sem], by simp [go_sem], by simp [go_sem], by simp [go_sem]⟩
  go_grown
set_option maxRecDepth 100000 in
set_option maxHeartbeats 2000000 in
theorem fixed_0 (w : World) (a : Addr) (hc : w.cell? ⟨0, 0, none⟩ = some (.iface 88 (.pointer (some a)))) : Calls Tryd.prog 19 #[.int .i64 1] w fun e w' => e = .returned (.iface 88 (.pointer (some a))) ∧ w' = w := by
  go_enter Tryd.func19, Tryd.ntmps19
  go_wp2
  go_ret
  exact ⟨rfl, rfl⟩
set_option maxRecDepth 100000 in
set_option maxHeartbeats 2000000 in
theorem fixed_1 (w : World) (a : Addr) (hc : w.cell? ⟨1, 0, none⟩ = some (.iface 88 (.pointer (some a)))) : Calls Tryd.prog 19 #[.int .i64 2] w fun e w' => e = .returned (.iface 88 (.pointer (some a))) ∧ w' = w := by
  go_enter Tryd.func19, Tryd.ntmps19
  go_wp2
  go_ret
  exact ⟨rfl, rfl⟩
set_option maxRecDepth 100000 in
set_option maxHeartbeats 2000000 in
theorem fixed_2 (w : World) (a : Addr) (hc : w.cell? ⟨2, 0, none⟩ = some (.iface 88 (.pointer (some a)))) : Calls Tryd.prog 19 #[.int .i64 3] w fun e w' => e = .returned (.iface 88 (.pointer (some a))) ∧ w' = w := by
  go_enter Tryd.func19, Tryd.ntmps19
  go_wp2
  go_ret
  exact ⟨rfl, rfl⟩
set_option maxRecDepth 100000 in
set_option maxHeartbeats 2000000 in
theorem fixed_3 (w : World) (a : Addr) (hc : w.cell? ⟨3, 0, none⟩ = some (.iface 88 (.pointer (some a)))) : Calls Tryd.prog 19 #[.int .i64 4] w fun e w' => e = .returned (.iface 88 (.pointer (some a))) ∧ w' = w := by
  go_enter Tryd.func19, Tryd.ntmps19
  go_wp2
  go_ret
  exact ⟨rfl, rfl⟩
set_option maxRecDepth 100000 in
set_option maxHeartbeats 2000000 in
theorem fixed_4 (w : World) (a : Addr) (hc : w.cell? ⟨4, 0, none⟩ = some (.iface 88 (.pointer (some a)))) : Calls Tryd.prog 19 #[.int .i64 5] w fun e w' => e = .returned (.iface 88 (.pointer (some a))) ∧ w' = w := by
  go_enter Tryd.func19, Tryd.ntmps19
  go_wp2
  go_ret
  exact ⟨rfl, rfl⟩
set_option maxRecDepth 100000 in
set_option maxHeartbeats 2000000 in
theorem fixed_5 (w : World) (a : Addr) (hc : w.cell? ⟨5, 0, none⟩ = some (.iface 88 (.pointer (some a)))) : Calls Tryd.prog 19 #[.int .i64 30] w fun e w' => e = .returned (.iface 88 (.pointer (some a))) ∧ w' = w := by
  go_enter Tryd.func19, Tryd.ntmps19
  go_wp2
  go_ret
  exact ⟨rfl, rfl⟩
set_option maxRecDepth 100000 in
set_option maxHeartbeats 2000000 in
theorem fixed_6 (w : World) (a : Addr) (hc : w.cell? ⟨6, 0, none⟩ = some (.iface 88 (.pointer (some a)))) : Calls Tryd.prog 19 #[.int .i64 31] w fun e w' => e = .returned (.iface 88 (.pointer (some a))) ∧ w' = w := by
  go_enter Tryd.func19, Tryd.ntmps19
  go_wp2
  go_ret
  exact ⟨rfl, rfl⟩
set_option maxRecDepth 100000 in
set_option maxHeartbeats 2000000 in
theorem fixed_7 (w : World) (a : Addr) (hc : w.cell? ⟨7, 0, none⟩ = some (.iface 88 (.pointer (some a)))) : Calls Tryd.prog 19 #[.int .i64 32] w fun e w' => e = .returned (.iface 88 (.pointer (some a))) ∧ w' = w := by
  go_enter Tryd.func19, Tryd.ntmps19
  go_wp2
  go_ret
  exact ⟨rfl, rfl⟩
set_option maxRecDepth 100000 in
set_option maxHeartbeats 2000000 in
theorem fixed_8 (w : World) (a : Addr) (hc : w.cell? ⟨8, 0, none⟩ = some (.iface 88 (.pointer (some a)))) : Calls Tryd.prog 19 #[.int .i64 33] w fun e w' => e = .returned (.iface 88 (.pointer (some a))) ∧ w' = w := by
  go_enter Tryd.func19, Tryd.ntmps19
  go_wp2
  go_ret
  exact ⟨rfl, rfl⟩
set_option maxRecDepth 100000 in
set_option maxHeartbeats 2000000 in
theorem fixed_9 (w : World) (a : Addr) (hc : w.cell? ⟨9, 0, none⟩ = some (.iface 88 (.pointer (some a)))) : Calls Tryd.prog 19 #[.int .i64 55] w fun e w' => e = .returned (.iface 88 (.pointer (some a))) ∧ w' = w := by
  go_enter Tryd.func19, Tryd.ntmps19
  go_wp2
  go_ret
  exact ⟨rfl, rfl⟩
set_option maxRecDepth 100000 in
set_option maxHeartbeats 2000000 in
theorem fixed_10 (w : World) (a : Addr) (hc : w.cell? ⟨10, 0, none⟩ = some (.iface 88 (.pointer (some a)))) : Calls Tryd.prog 19 #[.int .i64 60] w fun e w' => e = .returned (.iface 88 (.pointer (some a))) ∧ w' = w := by
  go_enter Tryd.func19, Tryd.ntmps19
  go_wp2
  go_ret
  exact ⟨rfl, rfl⟩
set_option maxRecDepth 100000 in
set_option maxHeartbeats 2000000 in
theorem fixed_11 (w : World) (a : Addr) (hc : w.cell? ⟨11, 0, none⟩ = some (.iface 88 (.pointer (some a)))) : Calls Tryd.prog 19 #[.int .i64 110] w fun e w' => e = .returned (.iface 88 (.pointer (some a))) ∧ w' = w := by
  go_enter Tryd.func19, Tryd.ntmps19
  go_wp2
  go_ret
  exact ⟨rfl, rfl⟩
set_option maxRecDepth 100000 in
set_option maxHeartbeats 2000000 in
theorem fixed_12 (w : World) (a : Addr) (hc : w.cell? ⟨12, 0, none⟩ = some (.iface 88 (.pointer (some a)))) : Calls Tryd.prog 19 #[.int .i64 151] w fun e w' => e = .returned (.iface 88 (.pointer (some a))) ∧ w' = w := by
  go_enter Tryd.func19, Tryd.ntmps19
  go_wp2
  go_ret
  exact ⟨rfl, rfl⟩
set_option maxRecDepth 100000 in
set_option maxHeartbeats 2000000 in
theorem fixed_13 (w : World) (a : Addr) (hc : w.cell? ⟨13, 0, none⟩ = some (.iface 88 (.pointer (some a)))) : Calls Tryd.prog 19 #[.int .i64 152] w fun e w' => e = .returned (.iface 88 (.pointer (some a))) ∧ w' = w := by
  go_enter Tryd.func19, Tryd.ntmps19
  go_wp2
  go_ret
  exact ⟨rfl, rfl⟩
set_option maxRecDepth 100000 in
set_option maxHeartbeats 2000000 in
theorem fixed_14 (w : World) (a : Addr) (hc : w.cell? ⟨14, 0, none⟩ = some (.iface 88 (.pointer (some a)))) : Calls Tryd.prog 19 #[.int .i64 160] w fun e w' => e = .returned (.iface 88 (.pointer (some a))) ∧ w' = w := by
  go_enter Tryd.func19, Tryd.ntmps19
  go_wp2
  go_ret
  exact ⟨rfl, rfl⟩
set_option maxRecDepth 100000 in
set_option maxHeartbeats 2000000 in
theorem fixed_15 (w : World) (a : Addr) (hc : w.cell? ⟨15, 0, none⟩ = some (.iface 88 (.pointer (some a)))) : Calls Tryd.prog 19 #[.int .i64 180] w fun e w' => e = .returned (.iface 88 (.pointer (some a))) ∧ w' = w := by
  go_enter Tryd.func19, Tryd.ntmps19
  go_wp2
  go_ret
  exact ⟨rfl, rfl⟩
set_option maxRecDepth 100000 in
set_option maxHeartbeats 2000000 in
theorem fixed_16 (w : World) (a : Addr) (hc : w.cell? ⟨16, 0, none⟩ = some (.iface 88 (.pointer (some a)))) : Calls Tryd.prog 19 #[.int .i64 181] w fun e w' => e = .returned (.iface 88 (.pointer (some a))) ∧ w' = w := by
  go_enter Tryd.func19, Tryd.ntmps19
  go_wp2
  go_ret
  exact ⟨rfl, rfl⟩
set_option maxRecDepth 100000 in
set_option maxHeartbeats 2000000 in
theorem fixed_17 (w : World) (a : Addr) (hc : w.cell? ⟨17, 0, none⟩ = some (.iface 88 (.pointer (some a)))) : Calls Tryd.prog 19 #[.int .i64 190] w fun e w' => e = .returned (.iface 88 (.pointer (some a))) ∧ w' = w := by
  go_enter Tryd.func19, Tryd.ntmps19
  go_wp2
  go_ret
  exact ⟨rfl, rfl⟩
set_option maxRecDepth 100000 in
set_option maxHeartbeats 2000000 in
theorem fixed_18 (w : World) (a : Addr) (hc : w.cell? ⟨18, 0, none⟩ = some (.iface 88 (.pointer (some a)))) : Calls Tryd.prog 19 #[.int .i64 191] w fun e w' => e = .returned (.iface 88 (.pointer (some a))) ∧ w' = w := by
  go_enter Tryd.func19, Tryd.ntmps19
  go_wp2
  go_ret
  exact ⟨rfl, rfl⟩
set_option maxRecDepth 100000 in
set_option maxHeartbeats 2000000 in
theorem fixed_19 (w : World) (a : Addr) (hc : w.cell? ⟨19, 0, none⟩ = some (.iface 88 (.pointer (some a)))) : Calls Tryd.prog 19 #[.int .i64 192] w fun e w' => e = .returned (.iface 88 (.pointer (some a))) ∧ w' = w := by
  go_enter Tryd.func19, Tryd.ntmps19
  go_wp2
  go_ret
  exact ⟨rfl, rfl⟩
theorem fixed_at (w : World) (A : Nat → Addr) (hS : Sen w A) (i : Nat) (hi : i < 20) : Calls Tryd.prog 19 #[.int .i64 (nos i)] w fun e w' => e = .returned (.iface 88 (.pointer (some (A i)))) ∧ w' = w := by
  have hc := hS.cell i hi
  have : i = 0 ∨ i = 1 ∨ i = 2 ∨ i = 3 ∨ i = 4 ∨ i = 5 ∨ i = 6 ∨ i = 7 ∨ i = 8 ∨ i = 9 ∨ i = 10 ∨ i = 11 ∨ i = 12 ∨ i = 13 ∨ i = 14 ∨ i = 15 ∨ i = 16 ∨ i = 17 ∨ i = 18 ∨ i = 19 := by omega
  rcases this with h | h | h | h | h | h | h | h | h | h | h | h | h | h | h | h | h | h | h | h <;> subst h
  · exact fixed_0 w _ hc
  · exact fixed_1 w _ hc
  · exact fixed_2 w _ hc
  · exact fixed_3 w _ hc
  · exact fixed_4 w _ hc
  · exact fixed_5 w _ hc
  · exact fixed_6 w _ hc
  · exact fixed_7 w _ hc
  · exact fixed_8 w _ hc
  · exact fixed_9 w _ hc
  · exact fixed_10 w _ hc
  · exact fixed_11 w _ hc
  · exact fixed_12 w _ hc
  · exact fixed_13 w _ hc
  · exact fixed_14 w _ hc
  · exact fixed_15 w _ hc
  · exact fixed_16 w _ hc
  · exact fixed_17 w _ hc
  · exact fixed_18 w _ hc
  · exact fixed_19 w _ hc
set_option maxRecDepth 100000 in
set_option maxHeartbeats 2000000 in
theorem fixed_none (w : World) (e : Int) (h : ∀ i, i < 20 → e ≠ nos i) : Calls Tryd.prog 19 #[.int .i64 e] w fun r w' => r = .returned .nilIface ∧ w' = w := by
  have h0 : (e == 1) = false := by have := h 0 (by decide); simpa [nos] using this
  have h1 : (e == 2) = false := by have := h 1 (by decide); simpa [nos] using this
  have h2 : (e == 3) = false := by have := h 2 (by decide); simpa [nos] using this
  have h3 : (e == 4) = false := by have := h 3 (by decide); simpa [nos] using this
  have h4 : (e == 5) = false := by have := h 4 (by decide); simpa [nos] using this
  have h5 : (e == 30) = false := by have := h 5 (by decide); simpa [nos] using this
  have h6 : (e == 31) = false := by have := h 6 (by decide); simpa [nos] using this
  have h7 : (e == 32) = false := by have := h 7 (by decide); simpa [nos] using this
  have h8 : (e == 33) = false := by have := h 8 (by decide); simpa [nos] using this
  have h9 : (e == 55) = false := by have := h 9 (by decide); simpa [nos] using this
  have h10 : (e == 60) = false := by have := h 10 (by decide); simpa [nos] using this
  have h11 : (e == 110) = false := by have := h 11 (by decide); simpa [nos] using this
  have h12 : (e == 151) = false := by have := h 12 (by decide); simpa [nos] using this
  have h13 : (e == 152) = false := by have := h 13 (by decide); simpa [nos] using this
  have h14 : (e == 160) = false := by have := h 14 (by decide); simpa [nos] using this
  have h15 : (e == 180) = false := by have := h 15 (by decide); simpa [nos] using this
  have h16 : (e == 181) = false := by have := h 16 (by decide); simpa [nos] using this
  have h17 : (e == 190) = false := by have := h 17 (by decide); simpa [nos] using this
  have h18 : (e == 191) = false := by have := h 18 (by decide); simpa [nos] using this
  have h19 : (e == 192) = false := by have := h 19 (by decide); simpa [nos] using this
  clear h
  go_enter Tryd.func19, Tryd.ntmps19
  go_wp2
  go_ret
  exact ⟨rfl, rfl⟩
set_option maxRecDepth 100000 in
set_option maxHeartbeats 2000000 in
theorem Is_any (w : World) (t : TypeId) (x : Value) (a : Addr) (r : Bool) (h : Calls Tryd.prog 25 #[.iface t x, .iface 88 (.pointer (some a)), .bool true] w fun e w' => e = .returned (.bool r) ∧ Below w.heap.size w w') :
    Calls Tryd.prog 20 #[.iface t x, .iface 88 (.pointer (some a))] w fun e w' => e = .returned (.bool r) ∧ Below w.heap.size w w' := by
  have h24 := @run_callFunc_extern Tryd.prog 24 _ Extern.ReflectliteType.typeOf Tryd.func24 (by kernel_rfl) (by kernel_rfl) (by kernel_rfl) (by kernel_rfl)
  have h62 := @run_callFunc_extern Tryd.prog 62 _ cmpFn Tryd.func62 (by kernel_rfl) (by kernel_rfl) (by kernel_rfl) (by kernel_rfl)
  have tT := Tryd.isTypeOf
  have cT := Tryd.isComparable
  have mR := Tryd.isMethodComparable
  have hN : ∀ (t : TypeId) (v : Value) (w : World), (binOp .eql 25 (.iface t v) .nilIface).run Tryd.prog w = .ok (.bool false) w := fun t v w => nil_other Tryd.underlying25
  replace h := hid h
  go_enter Tryd.func20, Tryd.ntmps20
  go_wp2_with fail
  refine h.out.mono ?_
  rintro e w' ⟨rfl, hQ⟩
  go_wp2
  go_ret
  exact ⟨rfl, hQ⟩
/-- The number that Code tells of an error in which errors.Is finds the fixed errors of p. -/
def CodeIs (p : Nat → Bool) (c : Int) : Prop := (∃ g, g < 20 ∧ p g = true ∧ (∀ h, h < g → p h = false) ∧ c = nos g) ∨ ((∀ g, g < 20 → p g = false) ∧ c = -1)
theorem nos_lt : ∀ g, g < 20 → ∀ h, h < 20 → (nos h < nos g ↔ h < g) := by decide +kernel
theorem nos_lo : ∀ g, g < 20 → 1 ≤ nos g ∧ nos g ≤ 192 := by decide +kernel
theorem nos_inj {g h : Nat} (hg : g < 20) (hh : h < 20) (e : nos g = nos h) : g = h := by
  have a := nos_lt g hg h hh
  have b := nos_lt h hh g hg
  omega
set_option maxRecDepth 100000 in
set_option maxHeartbeats 2000000 in
theorem code_any (w : World) (A : Nat → Addr) (hS : Sen w A) (t : TypeId) (x : Value) (p : Nat → Bool) (c : Int) (hI : IsP w A (.iface t x) p) (hc : CodeIs p c) :
    Calls Tryd.prog 8 #[.iface t x] w fun e w' => e = .returned (.int .i64 c) ∧ Below w.heap.size w w' := by
  have hN : ∀ (t : TypeId) (v : Value) (w : World), (binOp .eql 25 (.iface t v) .nilIface).run Tryd.prog w = .ok (.bool false) w := fun t v w => nil_other Tryd.underlying25
  have hM : ∀ (t : TypeId) (v : Value) (w : World), (binOp .neq 25 (.iface t v) .nilIface).run Tryd.prog w = .ok (.bool true) w := fun t v w => nil_neq Tryd.underlying25
  have hO : ∀ (w : World), (binOp .neq 25 .nilIface .nilIface).run Tryd.prog w = .ok (.bool false) w := fun w => by kernel_rfl
  replace hI := hid hI
  replace hc := hid hc
  replace hS := hid hS
  go_enter Tryd.func8, Tryd.ntmps8
  go_wp2
  go_loopw [3] (fun i w' => ∃ k : Nat, 1 ≤ k ∧ k ≤ 193 ∧ i = .int .i64 k ∧ (∀ g, g < 20 → nos g < k → p g = false) ∧ Below w.heap.size w w')
    (fun i _ => 193 - (intOf i).toNat)
  case atStart => exact ⟨1, by omega, by omega, rfl, fun g hg h => by have := (nos_lo g hg).1; omega, Below.refl _ _⟩
  case round =>
    obtain ⟨k, h1, hk, rfl, hp, hb⟩ := hrel
    replace hp := hid hp
    replace hb := hid hb
    by_cases hk2 : k ≤ 192
    · have hki : (k : Int) ≤ 192 := by omega
      by_cases hg : ∃ g, g < 20 ∧ (k : Int) = nos g
      · obtain ⟨g, hg, e⟩ := hg
        have F := hid (show Calls Tryd.prog 19 #[.int .i64 (k : Int)] wr fun r w' => r = .returned (.iface 88 (.pointer (some (A g)))) ∧ w' = wr by rw [e]; exact fixed_at wr A (hS.out.mono hb.out) g hg)
        have I := hid (hI.out wr hb.out g hg)
        replace e := hid e
        go_wp2_with fail
        refine F.out.mono ?_
        rintro _ _ ⟨rfl, rfl⟩
        cases hpg : p g
        case true =>
          rw [hpg] at I
          go_wp2_with fail
          refine (Is_any _ _ _ _ _ I.out).mono ?_
          rintro _ w2 ⟨rfl, hb2⟩
          go_wp2
          go_ret
          refine ⟨?_, hb.out.trans (hb2.mono hb.out.size)⟩
          rcases hc.out with ⟨g0, h0, p0, q0, c0⟩ | ⟨q0, c0⟩
          · obtain rfl : g0 = g := by
              rcases Nat.lt_trichotomy g0 g with h | h | h
              · have := hp.out g0 h0 (by rw [e.out]; exact (nos_lt g hg g0 h0).2 h)
                rw [this] at p0; cases p0
              · exact h
              · have := q0 g h; rw [this] at hpg; cases hpg
            rw [c0, e.out]; rfl
          · have := q0 g hg; rw [this] at hpg; cases hpg
        case false =>
          rw [hpg] at I
          go_wp2_with fail
          refine (Is_any _ _ _ _ _ I.out).mono ?_
          rintro _ w2 ⟨rfl, hb2⟩
          go_wp2
          go_roundw
          case rel => exact ⟨k + 1, by omega, by omega, by go_num, fun h hh hl => by
            by_cases hq : nos h < k
            · exact hp.out h hh hq
            · have : h = g := nos_inj hh hg (by rw [← e.out]; omega)
              rw [this]; exact hpg, hb.out.trans (hb2.mono hb.out.size)⟩
          case measure => simp [intOf]; omega
      · have F := hid (fixed_none wr (k : Int) (fun i hi e => hg ⟨i, hi, e⟩))
        replace hg := hid hg
        go_wp2_with fail
        refine F.out.mono ?_
        rintro _ _ ⟨rfl, rfl⟩
        go_wp2
        go_roundw
        case rel => exact ⟨k + 1, by omega, by omega, by go_num, fun h hh hl => hp.out h hh (by
          have : (k : Int) ≠ nos h := fun e => hg.out ⟨h, hh, e⟩
          omega), hb.out⟩
        case measure => simp [intOf]; omega
    · obtain rfl : k = 193 := by omega
      go_wp2
      go_ret
      refine ⟨?_, hb.out⟩
      rcases hc.out with ⟨g0, h0, p0, q0, c0⟩ | ⟨q0, c0⟩
      · have := hp.out g0 h0 (by have := (nos_lo g0 h0).2; omega)
        rw [this] at p0; cases p0
      · rw [c0]; rfl
end Go.Proofs.YtfogohpmphgkkaaDoor
