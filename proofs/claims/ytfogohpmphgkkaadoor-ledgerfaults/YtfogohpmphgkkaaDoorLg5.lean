import Derived.Test.YtfogohpmphgkkaaDoorLg2
import Derived.Stop.Asserts
namespace Go.Proofs.YtfogohpmphgkkaaDoor
set_option linter.unusedVariables false
set_option linter.unusedSimpArgs false
open Go.RowKit Go.Extern.Stop Go.Stop Go.Extern
attribute [local go_sem ↓] Go.wp_at_zero Go.wp_at_succ

theorem Tryd.isTypeOf (v : Value) (w : World) : (Extern.ReflectliteType.typeOf #[.iface 88 v]).run Tryd.prog w = .ok (.iface 63 (.agg #[.pointer (some ⟨23, 88, none⟩)])) w := by kernel_rfl
theorem Tryd.isMethodComparable (v : Value) (w : World) : (Go.method 225 63 v "Comparable").run Tryd.prog w = .ok (62, v) w := by kernel_rfl
theorem Tryd.mUnwF (v : Value) (w : World) : (Go.method 225 42 v "Unwrap").run Tryd.prog w = .ok (56, v) w := by kernel_rfl
theorem Tryd.mUnwP (v : Value) (w : World) : (Go.method 225 34 v "Unwrap").run Tryd.prog w = .ok (10, v) w := by kernel_rfl
theorem Tryd.mUnwJ (v : Value) (w : World) : (Go.method 225 53 v "Unwrap").run Tryd.prog w = .ok (58, v) w := by kernel_rfl
theorem Tryd.noIsE (v : Value) (xT : TypeId) (w : World) : (Instr.typeAssert (.iface 88 v) xT 65 true).run Tryd.prog w = .ok (.tuple #[.nilIface, .bool false]) w := run_typeAssert_lacksB Tryd.underlying65 (by kernel_rfl) (by kernel_rfl) v xT w
theorem Tryd.noUE (v : Value) (xT : TypeId) (w : World) : (Instr.typeAssert (.iface 88 v) xT 68 true).run Tryd.prog w = .ok (.tuple #[.nilIface, .bool false]) w := run_typeAssert_lacksB Tryd.underlying68 (by kernel_rfl) (by kernel_rfl) v xT w
theorem Tryd.noUsE (v : Value) (xT : TypeId) (w : World) : (Instr.typeAssert (.iface 88 v) xT 69 true).run Tryd.prog w = .ok (.tuple #[.nilIface, .bool false]) w := run_typeAssert_lacksB Tryd.underlying69 (by kernel_rfl) (by kernel_rfl) v xT w
theorem Tryd.noIsF (v : Value) (xT : TypeId) (w : World) : (Instr.typeAssert (.iface 42 v) xT 65 true).run Tryd.prog w = .ok (.tuple #[.nilIface, .bool false]) w := run_typeAssert_lacksB Tryd.underlying65 (by kernel_rfl) (by kernel_rfl) v xT w
theorem Tryd.hasUF (v : Value) (xT : TypeId) (w : World) : (Instr.typeAssert (.iface 42 v) xT 68 true).run Tryd.prog w = .ok (.tuple #[.iface 42 v, .bool true]) w := run_typeAssert_hasB Tryd.underlying68 (by kernel_rfl) v xT w
theorem Tryd.noIsP (v : Value) (xT : TypeId) (w : World) : (Instr.typeAssert (.iface 34 v) xT 65 true).run Tryd.prog w = .ok (.tuple #[.nilIface, .bool false]) w := run_typeAssert_lacksB Tryd.underlying65 (by kernel_rfl) (by kernel_rfl) v xT w
theorem Tryd.hasUP (v : Value) (xT : TypeId) (w : World) : (Instr.typeAssert (.iface 34 v) xT 68 true).run Tryd.prog w = .ok (.tuple #[.iface 34 v, .bool true]) w := run_typeAssert_hasB Tryd.underlying68 (by kernel_rfl) v xT w
theorem Tryd.noIsJ (v : Value) (xT : TypeId) (w : World) : (Instr.typeAssert (.iface 53 v) xT 65 true).run Tryd.prog w = .ok (.tuple #[.nilIface, .bool false]) w := run_typeAssert_lacksB Tryd.underlying65 (by kernel_rfl) (by kernel_rfl) v xT w
theorem Tryd.noUJ (v : Value) (xT : TypeId) (w : World) : (Instr.typeAssert (.iface 53 v) xT 68 true).run Tryd.prog w = .ok (.tuple #[.nilIface, .bool false]) w := run_typeAssert_lacksB Tryd.underlying68 (by kernel_rfl) (by kernel_rfl) v xT w
theorem Tryd.hasUsJ (v : Value) (xT : TypeId) (w : World) : (Instr.typeAssert (.iface 53 v) xT 69 true).run Tryd.prog w = .ok (.tuple #[.iface 53 v, .bool true]) w := run_typeAssert_hasB Tryd.underlying69 (by kernel_rfl) v xT w
theorem un_any (w : World) (b : Nat) (v : Value) (h : w.cell? ⟨b, 2, none⟩ = some v) : Calls Tryd.prog 10 #[.pointer (some ⟨b, 0, none⟩)] w fun e w' => e = .returned v ∧ w' = w := by
  go_enter Tryd.func10, Tryd.ntmps10
  go_wp2
  go_ret
  exact ⟨rfl, rfl⟩
theorem unF_any (w : World) (s : ByteArray) (v : Value) : Calls Tryd.prog 56 #[.agg #[.string s, v]] w fun e w' => e = .returned v ∧ w' = w.alloc (.cells #[.string s, v] 42) := by
  go_enter Tryd.func56, Tryd.ntmps56
  go_wp2
  go_ret
  exact ⟨rfl, rfl⟩
theorem er_types (w : World) (t : TypeId) (v : Value) (a : Addr) (h : (t == 88) = false) : (binOp .eql 25 (.iface t v) (.iface 88 (.pointer (some a)))).run Tryd.prog w = .ok (.bool false) w :=
  run_eql_iface_types (P := Tryd.prog) t 88 v (.pointer (some a)) Tryd.underlying25 (by simpa using h) w
set_option maxRecDepth 100000 in
set_option maxHeartbeats 2000000 in
theorem is_fx (w : World) (A : Nat → Addr) (hS : Sen w A) (i g : Nat) (hi : i < 20) (hg : g < 20) :
    Calls Tryd.prog 25 #[.iface 88 (.pointer (some (A i))), .iface 88 (.pointer (some (A g))), .bool true] w fun e w' => e = .returned (.bool (i == g)) ∧ w' = w := by
  have nE := Tryd.noIsE
  have uE := Tryd.noUE
  have vE := Tryd.noUsE
  have nF := Tryd.noIsF
  have uF := Tryd.hasUF
  have nP := Tryd.noIsP
  have uP := Tryd.hasUP
  have nJ := Tryd.noIsJ
  have uJ := Tryd.noUJ
  have vJ := Tryd.hasUsJ
  have mF := Tryd.mUnwF
  have mP := Tryd.mUnwP
  have mJ := Tryd.mUnwJ
  have tF := fun w v a => er_types w 42 v a (by decide)
  have tP := fun w v a => er_types w 34 v a (by decide)
  have tJ := fun w v a => er_types w 53 v a (by decide)
  have hN : ∀ (t : TypeId) (v : Value) (w : World), (binOp .eql 25 (.iface t v) .nilIface).run Tryd.prog w = .ok (.bool false) w := fun t v w => nil_other Tryd.underlying25
  by_cases e : i = g
  · subst e
    have heq := er_same w (A i)
    have hb : (i == i) = true := by simp
    rw [hb]
    generalize A i = a at *
    go_enter Tryd.func25, Tryd.ntmps25
    go_wp2
    refine wp_loop_rounds 1 ?_
    rw [rounds_succ]
    go_wp2
    go_ret
    exact ⟨rfl, rfl⟩
  · have heq := er_ne w A hS i g hi hg e
    have hb : (i == g) = false := by simpa using e
    rw [hb]
    generalize A i = a at *
    generalize A g = c at *
    go_enter Tryd.func25, Tryd.ntmps25
    go_wp2
    refine wp_loop_rounds 1 ?_
    rw [rounds_succ]
    go_wp2
    go_ret
    exact ⟨rfl, rfl⟩
set_option maxRecDepth 100000 in
set_option maxHeartbeats 2000000 in
theorem is_fo0 (w : World) (A : Nat → Addr) (hS : Sen w A) (g : Nat) (hg : g < 20) (s1 : ByteArray) :
    Calls Tryd.prog 25 #[.iface 42 (.agg #[.string s1, .nilIface]), .iface 88 (.pointer (some (A g))), .bool true] w fun e w' => e = .returned (.bool (false)) ∧ Below w.heap.size w w' := by
  have nE := Tryd.noIsE
  have uE := Tryd.noUE
  have vE := Tryd.noUsE
  have nF := Tryd.noIsF
  have uF := Tryd.hasUF
  have nP := Tryd.noIsP
  have uP := Tryd.hasUP
  have nJ := Tryd.noIsJ
  have uJ := Tryd.noUJ
  have vJ := Tryd.hasUsJ
  have mF := Tryd.mUnwF
  have mP := Tryd.mUnwP
  have mJ := Tryd.mUnwJ
  have tF := fun w v a => er_types w 42 v a (by decide)
  have tP := fun w v a => er_types w 34 v a (by decide)
  have tJ := fun w v a => er_types w 53 v a (by decide)
  have hN : ∀ (t : TypeId) (v : Value) (w : World), (binOp .eql 25 (.iface t v) .nilIface).run Tryd.prog w = .ok (.bool false) w := fun t v w => nil_other Tryd.underlying25
  generalize A g = c at *
  go_enter Tryd.func25, Tryd.ntmps25
  go_wp2
  refine wp_loop_rounds 1 ?_
  rw [rounds_succ]
  go_wp2
  go_ret
  exact ⟨rfl, (Below.refl _ _).alloc (Nat.le_refl _) _⟩
set_option maxRecDepth 100000 in
set_option maxHeartbeats 2000000 in
theorem is_fo1 (w : World) (A : Nat → Addr) (hS : Sen w A) (i g : Nat) (hi : i < 20) (hg : g < 20) (s1 : ByteArray) :
    Calls Tryd.prog 25 #[.iface 42 (.agg #[.string s1, .iface 88 (.pointer (some (A i)))]), .iface 88 (.pointer (some (A g))), .bool true] w fun e w' => e = .returned (.bool (i == g)) ∧ Below w.heap.size w w' := by
  have nE := Tryd.noIsE
  have uE := Tryd.noUE
  have vE := Tryd.noUsE
  have nF := Tryd.noIsF
  have uF := Tryd.hasUF
  have nP := Tryd.noIsP
  have uP := Tryd.hasUP
  have nJ := Tryd.noIsJ
  have uJ := Tryd.noUJ
  have vJ := Tryd.hasUsJ
  have mF := Tryd.mUnwF
  have mP := Tryd.mUnwP
  have mJ := Tryd.mUnwJ
  have tF := fun w v a => er_types w 42 v a (by decide)
  have tP := fun w v a => er_types w 34 v a (by decide)
  have tJ := fun w v a => er_types w 53 v a (by decide)
  have hN : ∀ (t : TypeId) (v : Value) (w : World), (binOp .eql 25 (.iface t v) .nilIface).run Tryd.prog w = .ok (.bool false) w := fun t v w => nil_other Tryd.underlying25
  by_cases e : i = g
  · subst e
    have heq := fun o => er_same (w.alloc o) (A i)
    have hb : (i == i) = true := by simp
    rw [hb]
    generalize A i = a at *
    go_enter Tryd.func25, Tryd.ntmps25
    go_wp2
    refine wp_loop_rounds 2 ?_
    rw [rounds_succ]
    go_wp2
    rw [rounds_succ]
    go_wp2
    go_ret
    exact ⟨rfl, (Below.refl _ _).alloc (Nat.le_refl _) _⟩
  · have heq := fun o => er_ne (w.alloc o) A (hS.mono ((Below.refl _ _).alloc (Nat.le_refl _) o)) i g hi hg e
    have hb : (i == g) = false := by simpa using e
    rw [hb]
    generalize A i = a at *
    generalize A g = c at *
    go_enter Tryd.func25, Tryd.ntmps25
    go_wp2
    refine wp_loop_rounds 2 ?_
    rw [rounds_succ]
    go_wp2
    rw [rounds_succ]
    go_wp2
    go_ret
    exact ⟨rfl, (Below.refl _ _).alloc (Nat.le_refl _) _⟩
set_option maxRecDepth 100000 in
set_option maxHeartbeats 2000000 in
theorem is_fo2 (w : World) (A : Nat → Addr) (hS : Sen w A) (i g : Nat) (hi : i < 20) (hg : g < 20) (b1 : Nat) (s2 : ByteArray) (h1 : w.cell? ⟨b1, 2, none⟩ = some (.iface 88 (.pointer (some (A i))))) :
    Calls Tryd.prog 25 #[.iface 42 (.agg #[.string s2, .iface 34 (.pointer (some ⟨b1, 0, none⟩))]), .iface 88 (.pointer (some (A g))), .bool true] w fun e w' => e = .returned (.bool (i == g)) ∧ Below w.heap.size w w' := by
  have nE := Tryd.noIsE
  have uE := Tryd.noUE
  have vE := Tryd.noUsE
  have nF := Tryd.noIsF
  have uF := Tryd.hasUF
  have nP := Tryd.noIsP
  have uP := Tryd.hasUP
  have nJ := Tryd.noIsJ
  have uJ := Tryd.noUJ
  have vJ := Tryd.hasUsJ
  have mF := Tryd.mUnwF
  have mP := Tryd.mUnwP
  have mJ := Tryd.mUnwJ
  have tF := fun w v a => er_types w 42 v a (by decide)
  have tP := fun w v a => er_types w 34 v a (by decide)
  have tJ := fun w v a => er_types w 53 v a (by decide)
  have hN : ∀ (t : TypeId) (v : Value) (w : World), (binOp .eql 25 (.iface t v) .nilIface).run Tryd.prog w = .ok (.bool false) w := fun t v w => nil_other Tryd.underlying25
  have h1o : ∀ o, (w.alloc o).cell? ⟨b1, 2, none⟩ = some (.iface 88 (.pointer (some (A i)))) := fun o => (World.cell?_of_block (w := w) (Below.heap_alloc w o b1 (block_lt_of_cell h1))).trans h1
  by_cases e : i = g
  · subst e
    have heq := fun o => er_same (w.alloc o) (A i)
    have hb : (i == i) = true := by simp
    rw [hb]
    generalize A i = a at *
    go_enter Tryd.func25, Tryd.ntmps25
    go_wp2
    refine wp_loop_rounds 3 ?_
    rw [rounds_succ]
    go_wp2
    rw [rounds_succ]
    go_wp2
    rw [rounds_succ]
    go_wp2
    go_ret
    exact ⟨rfl, (Below.refl _ _).alloc (Nat.le_refl _) _⟩
  · have heq := fun o => er_ne (w.alloc o) A (hS.mono ((Below.refl _ _).alloc (Nat.le_refl _) o)) i g hi hg e
    have hb : (i == g) = false := by simpa using e
    rw [hb]
    generalize A i = a at *
    generalize A g = c at *
    go_enter Tryd.func25, Tryd.ntmps25
    go_wp2
    refine wp_loop_rounds 3 ?_
    rw [rounds_succ]
    go_wp2
    rw [rounds_succ]
    go_wp2
    rw [rounds_succ]
    go_wp2
    go_ret
    exact ⟨rfl, (Below.refl _ _).alloc (Nat.le_refl _) _⟩
set_option maxRecDepth 100000 in
set_option maxHeartbeats 2000000 in
theorem is_fa0 (w : World) (A : Nat → Addr) (hS : Sen w A) (g : Nat) (hg : g < 20) (b1 : Nat) (h1 : w.cell? ⟨b1, 2, none⟩ = some (.nilIface)) :
    Calls Tryd.prog 25 #[.iface 34 (.pointer (some ⟨b1, 0, none⟩)), .iface 88 (.pointer (some (A g))), .bool true] w fun e w' => e = .returned (.bool (false)) ∧ Below w.heap.size w w' := by
  have nE := Tryd.noIsE
  have uE := Tryd.noUE
  have vE := Tryd.noUsE
  have nF := Tryd.noIsF
  have uF := Tryd.hasUF
  have nP := Tryd.noIsP
  have uP := Tryd.hasUP
  have nJ := Tryd.noIsJ
  have uJ := Tryd.noUJ
  have vJ := Tryd.hasUsJ
  have mF := Tryd.mUnwF
  have mP := Tryd.mUnwP
  have mJ := Tryd.mUnwJ
  have tF := fun w v a => er_types w 42 v a (by decide)
  have tP := fun w v a => er_types w 34 v a (by decide)
  have tJ := fun w v a => er_types w 53 v a (by decide)
  have hN : ∀ (t : TypeId) (v : Value) (w : World), (binOp .eql 25 (.iface t v) .nilIface).run Tryd.prog w = .ok (.bool false) w := fun t v w => nil_other Tryd.underlying25
  have h1o : ∀ o, (w.alloc o).cell? ⟨b1, 2, none⟩ = some (.nilIface) := fun o => (World.cell?_of_block (w := w) (Below.heap_alloc w o b1 (block_lt_of_cell h1))).trans h1
  generalize A g = c at *
  go_enter Tryd.func25, Tryd.ntmps25
  go_wp2
  refine wp_loop_rounds 1 ?_
  rw [rounds_succ]
  go_wp2
  go_ret
  exact ⟨rfl, Below.refl _ _⟩
set_option maxRecDepth 100000 in
set_option maxHeartbeats 2000000 in
theorem is_fa1 (w : World) (A : Nat → Addr) (hS : Sen w A) (i g : Nat) (hi : i < 20) (hg : g < 20) (b1 : Nat) (h1 : w.cell? ⟨b1, 2, none⟩ = some (.iface 88 (.pointer (some (A i))))) :
    Calls Tryd.prog 25 #[.iface 34 (.pointer (some ⟨b1, 0, none⟩)), .iface 88 (.pointer (some (A g))), .bool true] w fun e w' => e = .returned (.bool (i == g)) ∧ Below w.heap.size w w' := by
  have nE := Tryd.noIsE
  have uE := Tryd.noUE
  have vE := Tryd.noUsE
  have nF := Tryd.noIsF
  have uF := Tryd.hasUF
  have nP := Tryd.noIsP
  have uP := Tryd.hasUP
  have nJ := Tryd.noIsJ
  have uJ := Tryd.noUJ
  have vJ := Tryd.hasUsJ
  have mF := Tryd.mUnwF
  have mP := Tryd.mUnwP
  have mJ := Tryd.mUnwJ
  have tF := fun w v a => er_types w 42 v a (by decide)
  have tP := fun w v a => er_types w 34 v a (by decide)
  have tJ := fun w v a => er_types w 53 v a (by decide)
  have hN : ∀ (t : TypeId) (v : Value) (w : World), (binOp .eql 25 (.iface t v) .nilIface).run Tryd.prog w = .ok (.bool false) w := fun t v w => nil_other Tryd.underlying25
  have h1o : ∀ o, (w.alloc o).cell? ⟨b1, 2, none⟩ = some (.iface 88 (.pointer (some (A i)))) := fun o => (World.cell?_of_block (w := w) (Below.heap_alloc w o b1 (block_lt_of_cell h1))).trans h1
  by_cases e : i = g
  · subst e
    have heq := er_same w (A i)
    have hb : (i == i) = true := by simp
    rw [hb]
    generalize A i = a at *
    go_enter Tryd.func25, Tryd.ntmps25
    go_wp2
    refine wp_loop_rounds 2 ?_
    rw [rounds_succ]
    go_wp2
    rw [rounds_succ]
    go_wp2
    go_ret
    exact ⟨rfl, Below.refl _ _⟩
  · have heq := er_ne w A hS i g hi hg e
    have hb : (i == g) = false := by simpa using e
    rw [hb]
    generalize A i = a at *
    generalize A g = c at *
    go_enter Tryd.func25, Tryd.ntmps25
    go_wp2
    refine wp_loop_rounds 2 ?_
    rw [rounds_succ]
    go_wp2
    rw [rounds_succ]
    go_wp2
    go_ret
    exact ⟨rfl, Below.refl _ _⟩
set_option maxRecDepth 100000 in
set_option maxHeartbeats 2000000 in
theorem is_fa2 (w : World) (A : Nat → Addr) (hS : Sen w A) (i g : Nat) (hi : i < 20) (hg : g < 20) (b1 : Nat) (b2 : Nat) (h1 : w.cell? ⟨b1, 2, none⟩ = some (.iface 88 (.pointer (some (A i))))) (h2 : w.cell? ⟨b2, 2, none⟩ = some (.iface 34 (.pointer (some ⟨b1, 0, none⟩)))) :
    Calls Tryd.prog 25 #[.iface 34 (.pointer (some ⟨b2, 0, none⟩)), .iface 88 (.pointer (some (A g))), .bool true] w fun e w' => e = .returned (.bool (i == g)) ∧ Below w.heap.size w w' := by
  have nE := Tryd.noIsE
  have uE := Tryd.noUE
  have vE := Tryd.noUsE
  have nF := Tryd.noIsF
  have uF := Tryd.hasUF
  have nP := Tryd.noIsP
  have uP := Tryd.hasUP
  have nJ := Tryd.noIsJ
  have uJ := Tryd.noUJ
  have vJ := Tryd.hasUsJ
  have mF := Tryd.mUnwF
  have mP := Tryd.mUnwP
  have mJ := Tryd.mUnwJ
  have tF := fun w v a => er_types w 42 v a (by decide)
  have tP := fun w v a => er_types w 34 v a (by decide)
  have tJ := fun w v a => er_types w 53 v a (by decide)
  have hN : ∀ (t : TypeId) (v : Value) (w : World), (binOp .eql 25 (.iface t v) .nilIface).run Tryd.prog w = .ok (.bool false) w := fun t v w => nil_other Tryd.underlying25
  have h1o : ∀ o, (w.alloc o).cell? ⟨b1, 2, none⟩ = some (.iface 88 (.pointer (some (A i)))) := fun o => (World.cell?_of_block (w := w) (Below.heap_alloc w o b1 (block_lt_of_cell h1))).trans h1
  have h2o : ∀ o, (w.alloc o).cell? ⟨b2, 2, none⟩ = some (.iface 34 (.pointer (some ⟨b1, 0, none⟩))) := fun o => (World.cell?_of_block (w := w) (Below.heap_alloc w o b2 (block_lt_of_cell h2))).trans h2
  by_cases e : i = g
  · subst e
    have heq := er_same w (A i)
    have hb : (i == i) = true := by simp
    rw [hb]
    generalize A i = a at *
    go_enter Tryd.func25, Tryd.ntmps25
    go_wp2
    refine wp_loop_rounds 3 ?_
    rw [rounds_succ]
    go_wp2
    rw [rounds_succ]
    go_wp2
    rw [rounds_succ]
    go_wp2
    go_ret
    exact ⟨rfl, Below.refl _ _⟩
  · have heq := er_ne w A hS i g hi hg e
    have hb : (i == g) = false := by simpa using e
    rw [hb]
    generalize A i = a at *
    generalize A g = c at *
    go_enter Tryd.func25, Tryd.ntmps25
    go_wp2
    refine wp_loop_rounds 3 ?_
    rw [rounds_succ]
    go_wp2
    rw [rounds_succ]
    go_wp2
    rw [rounds_succ]
    go_wp2
    go_ret
    exact ⟨rfl, Below.refl _ _⟩
set_option maxRecDepth 100000 in
set_option maxHeartbeats 2000000 in
theorem is_faf (w : World) (A : Nat → Addr) (hS : Sen w A) (g : Nat) (hg : g < 20) (s1 : ByteArray) (b2 : Nat) (h2 : w.cell? ⟨b2, 2, none⟩ = some (.iface 42 (.agg #[.string s1, .nilIface]))) :
    Calls Tryd.prog 25 #[.iface 34 (.pointer (some ⟨b2, 0, none⟩)), .iface 88 (.pointer (some (A g))), .bool true] w fun e w' => e = .returned (.bool (false)) ∧ Below w.heap.size w w' := by
  have nE := Tryd.noIsE
  have uE := Tryd.noUE
  have vE := Tryd.noUsE
  have nF := Tryd.noIsF
  have uF := Tryd.hasUF
  have nP := Tryd.noIsP
  have uP := Tryd.hasUP
  have nJ := Tryd.noIsJ
  have uJ := Tryd.noUJ
  have vJ := Tryd.hasUsJ
  have mF := Tryd.mUnwF
  have mP := Tryd.mUnwP
  have mJ := Tryd.mUnwJ
  have tF := fun w v a => er_types w 42 v a (by decide)
  have tP := fun w v a => er_types w 34 v a (by decide)
  have tJ := fun w v a => er_types w 53 v a (by decide)
  have hN : ∀ (t : TypeId) (v : Value) (w : World), (binOp .eql 25 (.iface t v) .nilIface).run Tryd.prog w = .ok (.bool false) w := fun t v w => nil_other Tryd.underlying25
  have h2o : ∀ o, (w.alloc o).cell? ⟨b2, 2, none⟩ = some (.iface 42 (.agg #[.string s1, .nilIface])) := fun o => (World.cell?_of_block (w := w) (Below.heap_alloc w o b2 (block_lt_of_cell h2))).trans h2
  generalize A g = c at *
  go_enter Tryd.func25, Tryd.ntmps25
  go_wp2
  refine wp_loop_rounds 2 ?_
  rw [rounds_succ]
  go_wp2
  rw [rounds_succ]
  go_wp2
  go_ret
  exact ⟨rfl, (Below.refl _ _).alloc (Nat.le_refl _) _⟩
end Go.Proofs.YtfogohpmphgkkaaDoor
