import Derived.Test.YtnaekphogibnbaaDoorKt
import Derived.LaidEql
import Derived.Stop.Asserts
import Derived.RowKitTokens
import Derived.Handy
namespace Go.Proofs.YtnaekphogibnbaaDoor
set_option linter.unusedVariables false
set_option linter.unusedSimpArgs false
open Go.RowKit Go.Extern.Stop Go.Stop Go.Extern
attribute [local go_sem ↓] Go.wp_at_zero Go.wp_at_succ

/-- The texts of the fixed errors. -/
def txt : Nat → ByteArray
  | 0 => { data := #[97, 32, 110, 117, 109, 98, 101, 114, 32, 116, 104, 97, 116, 32, 109, 97, 121, 32, 110, 111, 116, 32, 98, 101] }
  | 1 => { data := #[116, 104, 101, 32, 100, 105, 115, 107, 32, 104, 97, 115, 32, 110, 111, 32, 112, 111, 119, 101, 114] }
  | 2 => { data := #[111, 108, 100, 101, 114, 32, 116, 104, 97, 110, 32, 116, 104, 101, 32, 108, 97, 115, 116, 32, 99, 114, 97, 115, 104] }
  | 3 => { data := #[116, 104, 101, 32, 100, 105, 115, 107, 32, 105, 115, 32, 99, 111, 114, 114, 117, 112, 116] }
  | 4 => { data := #[110, 111, 32, 112, 97, 103, 101, 32, 105, 115, 32, 108, 101, 102, 116] }
  | 5 => { data := #[110, 111, 32, 98, 97, 116, 99, 104] }
  | 6 => { data := #[116, 111, 111, 32, 109, 97, 110, 121, 32, 99, 104, 97, 110, 103, 101, 115] }
  | 7 => { data := #[97, 32, 118, 97, 108, 117, 101, 32, 116, 111, 111, 32, 108, 111, 110, 103] }
  | 8 => { data := #[111, 110, 101, 32, 107, 101, 121, 32, 116, 119, 105, 99, 101] }
  | 9 => { data := #[110, 111, 116, 104, 105, 110, 103, 32, 105, 115, 32, 108, 97, 105, 100, 32, 104, 101, 114, 101] }
  | 10 => { data := #[116, 104, 101, 114, 101, 32, 105, 115, 32, 115, 111, 109, 101, 116, 104, 105, 110, 103, 32, 97, 108, 114, 101, 97, 100, 121] }
  | 11 => { data := #[116, 104, 101, 32, 108, 111, 119, 32, 101, 110, 100, 32, 108, 105, 101, 115, 32, 97, 98, 111, 118, 101, 32, 116, 104, 101, 32, 104, 105, 103, 104, 32, 101, 110, 100] }
  | 12 => { data := #[110, 111, 32, 115, 117, 99, 104, 32, 118, 101, 114, 115, 105, 111, 110, 32, 121, 101, 116] }
  | 13 => { data := #[97, 32, 118, 101, 114, 115, 105, 111, 110, 32, 98, 101, 108, 111, 119, 32, 116, 104, 101, 32, 102, 105, 114, 115, 116] }
  | 14 => { data := #[110, 111, 116, 32, 97, 32, 107, 101, 121, 39, 115, 32, 98, 121, 116, 101, 115] }
  | 15 => { data := #[110, 111, 32, 115, 117, 99, 104, 32, 116, 114, 97, 110, 115, 97, 99, 116, 105, 111, 110] }
  | 16 => { data := #[119, 104, 97, 116, 32, 119, 97, 115, 32, 114, 101, 97, 100, 32, 104, 97, 115, 32, 99, 104, 97, 110, 103, 101, 100] }
  | 17 => { data := #[110, 111, 32, 115, 116, 114, 101, 97, 109] }
  | 18 => { data := #[116, 104, 101, 32, 115, 116, 114, 101, 97, 109, 32, 98, 101, 103, 105, 110, 115, 32, 101, 108, 115, 101, 119, 104, 101, 114, 101] }
  | 19 => { data := #[97, 110, 111, 116, 104, 101, 114, 32, 114, 111, 111, 116, 32, 116, 104, 97, 110, 32, 116, 104, 101, 32, 115, 116, 114, 101, 97, 109, 32, 115, 97, 121, 115] }
  | _ => { data := #[] }
/-- Their numbers. -/
def nos : Nat → Int
  | 0 => 1
  | 1 => 2
  | 2 => 3
  | 3 => 4
  | 4 => 5
  | 5 => 30
  | 6 => 31
  | 7 => 32
  | 8 => 33
  | 9 => 55
  | 10 => 60
  | 11 => 110
  | 12 => 151
  | 13 => 152
  | 14 => 160
  | 15 => 180
  | 16 => 181
  | 17 => 190
  | 18 => 191
  | 19 => 192
  | _ => 0
def gl (i : Nat) : Nat := if i = 15 then 0 else if i = 16 then 1 else if i < 15 then i + 2 else i
/-- The value of a fixed error. -/
def erV (A : Nat → Addr) (g : Nat) : Value := .iface 44 (.pointer (some (A g)))
/-- The fixed errors in memory. -/
structure Sen (w : World) (A : Nat → Addr) : Prop where
  cell : ∀ g, g < 20 → w.cell? ⟨gl g, 0, none⟩ = some (erV A g)
  text : ∀ g, g < 20 → w.cell? (A g) = some (.string (txt g))
  blk : ∀ g, g < 20 → ∃ c t, w.heap[(A g).block]? = some (.cells c t (0, 0))
  ne : ∀ g h, g < 20 → h < 20 → g ≠ h → A g ≠ A h
theorem Sen.mono {w w' : World} {A : Nat → Addr} (h : Sen w A) (hb : Below w.heap.size w w') : Sen w' A := by
  have hold : ∀ (a : Addr) v, w.cell? a = some v → w'.cell? a = some v := fun a v e => by
    rw [← e]; exact hb.cell (block_lt_of_cell e)
  exact ⟨fun g hg => hold _ _ (h.cell g hg), fun g hg => hold _ _ (h.text g hg), fun g hg => by
    obtain ⟨c, t, e⟩ := h.blk g hg
    exact ⟨c, t, by rw [← e]; exact hb.block _ (by rcases Nat.lt_or_ge (A g).block w.heap.size with h1 | h1; exact h1; simp [Array.getElem?_eq_none h1] at e)⟩, h.ne⟩
theorem Tryd.comp44 : (Tryd.prog.info? 44).map (·.comparable) = some true := by kernel_rfl
theorem Tryd.size70 : (Tryd.prog.info? 70).map (·.size) = some 1 := by kernel_rfl
theorem nil_other {P : Program} {w : World} {ti tp : TypeId} {v : Value} {ms : Array (String × TypeId)} (hi : P.underlying ti = some (.interface ms)) : (binOp .eql ti (.iface tp v) .nilIface).run P w = .ok (.bool false) w := by
  have h : ∀ d : Nat, (Op.equalIn (d + 1) ti (.iface tp v) .nilIface).run P w = .ok false w := fun d => by simp [Op.equalIn, run_underlying hi]
  simp only [binOp]
  simp [Op.equal, Op.maxDepth, h 9999]
theorem er_ne (w : World) (A : Nat → Addr) (hS : Sen w A) (i j : Nat) (hi : i < 20) (hj : j < 20) (h : i ≠ j) : (binOp .eql 25 (.iface 44 (.pointer (some (A i)))) (.iface 44 (.pointer (some (A j))))).run Tryd.prog w = .ok (.bool false) w := by
  obtain ⟨k, hk, hcmp⟩ := Option.map_eq_some_iff.1 Tryd.comp44
  obtain ⟨q, hq, hqs⟩ := Option.map_eq_some_iff.1 Tryd.size70
  obtain ⟨c, t, hb⟩ := hS.blk i hi
  obtain ⟨c', t', hb'⟩ := hS.blk j hj
  exact run_eql_iface_ptr_other (P := Tryd.prog) w Tryd.underlying25 Tryd.underlying44 hk hcmp hq (by rw [hqs]; decide) (hS.ne i j hi hj h) hb hb'
theorem er_same (w : World) (a : Addr) : (binOp .eql 25 (.iface 44 (.pointer (some a))) (.iface 44 (.pointer (some a)))).run Tryd.prog w = .ok (.bool true) w := by
  obtain ⟨k, hk, hcmp⟩ := Option.map_eq_some_iff.1 Tryd.comp44
  obtain ⟨q, hq, hqs⟩ := Option.map_eq_some_iff.1 Tryd.size70
  exact run_eql_iface_ptr_same (P := Tryd.prog) w a Tryd.underlying25 Tryd.underlying44 hk hcmp hq
theorem Tryd.isTypeOf (v : Value) (w : World) : (Extern.ReflectliteType.typeOf #[.iface 44 v]).run Tryd.prog w = .ok (.iface 34 (.agg #[.pointer (some ⟨20, 44, none⟩)])) w := by kernel_rfl
theorem Tryd.isMethodComparable (v : Value) (w : World) : (Go.method 182 34 v "Comparable").run Tryd.prog w = .ok (28, v) w := by kernel_rfl
theorem Tryd.noIsE (v : Value) (xT : TypeId) (w : World) : (Instr.typeAssert (.iface 44 v) xT 36 true).run Tryd.prog w = .ok (.tuple #[.nilIface, .bool false]) w := run_typeAssert_lacksB Tryd.underlying36 (by kernel_rfl) (by kernel_rfl) v xT w
theorem Tryd.noUE (v : Value) (xT : TypeId) (w : World) : (Instr.typeAssert (.iface 44 v) xT 39 true).run Tryd.prog w = .ok (.tuple #[.nilIface, .bool false]) w := run_typeAssert_lacksB Tryd.underlying39 (by kernel_rfl) (by kernel_rfl) v xT w
theorem Tryd.noUsE (v : Value) (xT : TypeId) (w : World) : (Instr.typeAssert (.iface 44 v) xT 41 true).run Tryd.prog w = .ok (.tuple #[.nilIface, .bool false]) w := run_typeAssert_lacksB Tryd.underlying41 (by kernel_rfl) (by kernel_rfl) v xT w
set_option maxRecDepth 100000 in
set_option maxHeartbeats 2000000 in
theorem is_fx (w : World) (A : Nat → Addr) (hS : Sen w A) (i g : Nat) (hi : i < 20) (hg : g < 20) :
    Calls Tryd.prog 8 #[.iface 44 (.pointer (some (A i))), .iface 44 (.pointer (some (A g))), .bool true] w fun e w' => e = .returned (.bool (i == g)) ∧ w' = w := by
  have nE := Tryd.noIsE
  have uE := Tryd.noUE
  have vE := Tryd.noUsE
  have hN : ∀ (t : TypeId) (v : Value) (w : World), (binOp .eql 25 (.iface t v) .nilIface).run Tryd.prog w = .ok (.bool false) w := fun t v w => nil_other Tryd.underlying25
  by_cases e : i = g
  · subst e
    have heq := er_same w (A i)
    have hb : (i == i) = true := by simp
    rw [hb]
    generalize A i = a at *
    go_enter Tryd.func8, Tryd.ntmps8
    go_wp2
    refine wp_loop_rounds 1 ?_
    rw [rounds_succ]
    go_wp2
    go_ret
    exact ⟨rfl, rfl⟩
  · have heq := er_ne w A hS i g hi hg e
    have hb : (i == g) = false := by simpa using e
    rw [hb]
    generalize A i = a at *
    generalize A g = c at *
    go_enter Tryd.func8, Tryd.ntmps8
    go_wp2
    refine wp_loop_rounds 1 ?_
    rw [rounds_succ]
    go_wp2
    go_ret
    exact ⟨rfl, rfl⟩
/-- What '(internal/reflectlite.rtype).Comparable' is in the model. -/
def cmpFn : Array Value → Sem Value := Extern.ReflectliteType.method fun t => do Extern.Rtype.noPackHeld "Comparable" t; pure (.bool (← typeInfo t).comparable)
theorem Tryd.isComparable (w : World) : (cmpFn #[.agg #[.pointer (some ⟨20, 44, none⟩)]]).run Tryd.prog w = .ok (.bool true) w := by kernel_rfl
/-- errors.is finds in v just the fixed errors of p, in this world and whatever is grown out of it. -/
def IsP (w : World) (A : Nat → Addr) (v : Value) (p : Nat → Bool) : Prop :=
  ∀ w', Below w.heap.size w w' → ∀ g, g < 20 → Calls Tryd.prog 8 #[v, .iface 44 (.pointer (some (A g))), .bool true] w' fun e w'' => e = .returned (.bool (p g)) ∧ Below w'.heap.size w' w''
theorem IsP.later {w w' : World} {A : Nat → Addr} {v : Value} {p : Nat → Bool} (h : IsP w A v p) (hb : Below w.heap.size w w') : IsP w' A v p :=
  fun w2 hb2 g hg => h w2 (hb.trans (hb2.mono hb.size)) g hg
theorem isP_fx {w : World} {A : Nat → Addr} (hS : Sen w A) {i : Nat} (hi : i < 20) : IsP w A (.iface 44 (.pointer (some (A i)))) (fun g => i == g) :=
  fun w' hb g hg => (is_fx w' A (hS.mono hb) i g hi hg).mono fun e w2 ⟨h1, h2⟩ => ⟨h1, by rw [h2]; exact Below.refl _ _⟩
set_option maxRecDepth 100000 in
set_option maxHeartbeats 2000000 in
theorem fixed_0 (w : World) (a : Addr) (hc : w.cell? ⟨2, 0, none⟩ = some (.iface 44 (.pointer (some a)))) : Calls Tryd.prog 5 #[.int .i64 1] w fun e w' => e = .returned (.iface 44 (.pointer (some a))) ∧ w' = w := by
  go_enter Tryd.func5, Tryd.ntmps5
  go_wp2
  go_ret
  exact ⟨rfl, rfl⟩
set_option maxRecDepth 100000 in
set_option maxHeartbeats 2000000 in
theorem fixed_1 (w : World) (a : Addr) (hc : w.cell? ⟨3, 0, none⟩ = some (.iface 44 (.pointer (some a)))) : Calls Tryd.prog 5 #[.int .i64 2] w fun e w' => e = .returned (.iface 44 (.pointer (some a))) ∧ w' = w := by
  go_enter Tryd.func5, Tryd.ntmps5
  go_wp2
  go_ret
  exact ⟨rfl, rfl⟩
set_option maxRecDepth 100000 in
set_option maxHeartbeats 2000000 in
theorem fixed_2 (w : World) (a : Addr) (hc : w.cell? ⟨4, 0, none⟩ = some (.iface 44 (.pointer (some a)))) : Calls Tryd.prog 5 #[.int .i64 3] w fun e w' => e = .returned (.iface 44 (.pointer (some a))) ∧ w' = w := by
  go_enter Tryd.func5, Tryd.ntmps5
  go_wp2
  go_ret
  exact ⟨rfl, rfl⟩
set_option maxRecDepth 100000 in
set_option maxHeartbeats 2000000 in
theorem fixed_3 (w : World) (a : Addr) (hc : w.cell? ⟨5, 0, none⟩ = some (.iface 44 (.pointer (some a)))) : Calls Tryd.prog 5 #[.int .i64 4] w fun e w' => e = .returned (.iface 44 (.pointer (some a))) ∧ w' = w := by
  go_enter Tryd.func5, Tryd.ntmps5
  go_wp2
  go_ret
  exact ⟨rfl, rfl⟩
set_option maxRecDepth 100000 in
set_option maxHeartbeats 2000000 in
theorem fixed_4 (w : World) (a : Addr) (hc : w.cell? ⟨6, 0, none⟩ = some (.iface 44 (.pointer (some a)))) : Calls Tryd.prog 5 #[.int .i64 5] w fun e w' => e = .returned (.iface 44 (.pointer (some a))) ∧ w' = w := by
  go_enter Tryd.func5, Tryd.ntmps5
  go_wp2
  go_ret
  exact ⟨rfl, rfl⟩
set_option maxRecDepth 100000 in
set_option maxHeartbeats 2000000 in
theorem fixed_5 (w : World) (a : Addr) (hc : w.cell? ⟨7, 0, none⟩ = some (.iface 44 (.pointer (some a)))) : Calls Tryd.prog 5 #[.int .i64 30] w fun e w' => e = .returned (.iface 44 (.pointer (some a))) ∧ w' = w := by
  go_enter Tryd.func5, Tryd.ntmps5
  go_wp2
  go_ret
  exact ⟨rfl, rfl⟩
set_option maxRecDepth 100000 in
set_option maxHeartbeats 2000000 in
theorem fixed_6 (w : World) (a : Addr) (hc : w.cell? ⟨8, 0, none⟩ = some (.iface 44 (.pointer (some a)))) : Calls Tryd.prog 5 #[.int .i64 31] w fun e w' => e = .returned (.iface 44 (.pointer (some a))) ∧ w' = w := by
  go_enter Tryd.func5, Tryd.ntmps5
  go_wp2
  go_ret
  exact ⟨rfl, rfl⟩
set_option maxRecDepth 100000 in
set_option maxHeartbeats 2000000 in
theorem fixed_7 (w : World) (a : Addr) (hc : w.cell? ⟨9, 0, none⟩ = some (.iface 44 (.pointer (some a)))) : Calls Tryd.prog 5 #[.int .i64 32] w fun e w' => e = .returned (.iface 44 (.pointer (some a))) ∧ w' = w := by
  go_enter Tryd.func5, Tryd.ntmps5
  go_wp2
  go_ret
  exact ⟨rfl, rfl⟩
set_option maxRecDepth 100000 in
set_option maxHeartbeats 2000000 in
theorem fixed_8 (w : World) (a : Addr) (hc : w.cell? ⟨10, 0, none⟩ = some (.iface 44 (.pointer (some a)))) : Calls Tryd.prog 5 #[.int .i64 33] w fun e w' => e = .returned (.iface 44 (.pointer (some a))) ∧ w' = w := by
  go_enter Tryd.func5, Tryd.ntmps5
  go_wp2
  go_ret
  exact ⟨rfl, rfl⟩
set_option maxRecDepth 100000 in
set_option maxHeartbeats 2000000 in
theorem fixed_9 (w : World) (a : Addr) (hc : w.cell? ⟨11, 0, none⟩ = some (.iface 44 (.pointer (some a)))) : Calls Tryd.prog 5 #[.int .i64 55] w fun e w' => e = .returned (.iface 44 (.pointer (some a))) ∧ w' = w := by
  go_enter Tryd.func5, Tryd.ntmps5
  go_wp2
  go_ret
  exact ⟨rfl, rfl⟩
set_option maxRecDepth 100000 in
set_option maxHeartbeats 2000000 in
theorem fixed_10 (w : World) (a : Addr) (hc : w.cell? ⟨12, 0, none⟩ = some (.iface 44 (.pointer (some a)))) : Calls Tryd.prog 5 #[.int .i64 60] w fun e w' => e = .returned (.iface 44 (.pointer (some a))) ∧ w' = w := by
  go_enter Tryd.func5, Tryd.ntmps5
  go_wp2
  go_ret
  exact ⟨rfl, rfl⟩
set_option maxRecDepth 100000 in
set_option maxHeartbeats 2000000 in
theorem fixed_11 (w : World) (a : Addr) (hc : w.cell? ⟨13, 0, none⟩ = some (.iface 44 (.pointer (some a)))) : Calls Tryd.prog 5 #[.int .i64 110] w fun e w' => e = .returned (.iface 44 (.pointer (some a))) ∧ w' = w := by
  go_enter Tryd.func5, Tryd.ntmps5
  go_wp2
  go_ret
  exact ⟨rfl, rfl⟩
set_option maxRecDepth 100000 in
set_option maxHeartbeats 2000000 in
theorem fixed_12 (w : World) (a : Addr) (hc : w.cell? ⟨14, 0, none⟩ = some (.iface 44 (.pointer (some a)))) : Calls Tryd.prog 5 #[.int .i64 151] w fun e w' => e = .returned (.iface 44 (.pointer (some a))) ∧ w' = w := by
  go_enter Tryd.func5, Tryd.ntmps5
  go_wp2
  go_ret
  exact ⟨rfl, rfl⟩
set_option maxRecDepth 100000 in
set_option maxHeartbeats 2000000 in
theorem fixed_13 (w : World) (a : Addr) (hc : w.cell? ⟨15, 0, none⟩ = some (.iface 44 (.pointer (some a)))) : Calls Tryd.prog 5 #[.int .i64 152] w fun e w' => e = .returned (.iface 44 (.pointer (some a))) ∧ w' = w := by
  go_enter Tryd.func5, Tryd.ntmps5
  go_wp2
  go_ret
  exact ⟨rfl, rfl⟩
set_option maxRecDepth 100000 in
set_option maxHeartbeats 2000000 in
theorem fixed_14 (w : World) (a : Addr) (hc : w.cell? ⟨16, 0, none⟩ = some (.iface 44 (.pointer (some a)))) : Calls Tryd.prog 5 #[.int .i64 160] w fun e w' => e = .returned (.iface 44 (.pointer (some a))) ∧ w' = w := by
  go_enter Tryd.func5, Tryd.ntmps5
  go_wp2
  go_ret
  exact ⟨rfl, rfl⟩
set_option maxRecDepth 100000 in
set_option maxHeartbeats 2000000 in
theorem fixed_15 (w : World) (a : Addr) (hc : w.cell? ⟨0, 0, none⟩ = some (.iface 44 (.pointer (some a)))) : Calls Tryd.prog 5 #[.int .i64 180] w fun e w' => e = .returned (.iface 44 (.pointer (some a))) ∧ w' = w := by
  go_enter Tryd.func5, Tryd.ntmps5
  go_wp2
  go_ret
  exact ⟨rfl, rfl⟩
set_option maxRecDepth 100000 in
set_option maxHeartbeats 2000000 in
theorem fixed_16 (w : World) (a : Addr) (hc : w.cell? ⟨1, 0, none⟩ = some (.iface 44 (.pointer (some a)))) : Calls Tryd.prog 5 #[.int .i64 181] w fun e w' => e = .returned (.iface 44 (.pointer (some a))) ∧ w' = w := by
  go_enter Tryd.func5, Tryd.ntmps5
  go_wp2
  go_ret
  exact ⟨rfl, rfl⟩
set_option maxRecDepth 100000 in
set_option maxHeartbeats 2000000 in
theorem fixed_17 (w : World) (a : Addr) (hc : w.cell? ⟨17, 0, none⟩ = some (.iface 44 (.pointer (some a)))) : Calls Tryd.prog 5 #[.int .i64 190] w fun e w' => e = .returned (.iface 44 (.pointer (some a))) ∧ w' = w := by
  go_enter Tryd.func5, Tryd.ntmps5
  go_wp2
  go_ret
  exact ⟨rfl, rfl⟩
set_option maxRecDepth 100000 in
set_option maxHeartbeats 2000000 in
theorem fixed_18 (w : World) (a : Addr) (hc : w.cell? ⟨18, 0, none⟩ = some (.iface 44 (.pointer (some a)))) : Calls Tryd.prog 5 #[.int .i64 191] w fun e w' => e = .returned (.iface 44 (.pointer (some a))) ∧ w' = w := by
  go_enter Tryd.func5, Tryd.ntmps5
  go_wp2
  go_ret
  exact ⟨rfl, rfl⟩
set_option maxRecDepth 100000 in
set_option maxHeartbeats 2000000 in
theorem fixed_19 (w : World) (a : Addr) (hc : w.cell? ⟨19, 0, none⟩ = some (.iface 44 (.pointer (some a)))) : Calls Tryd.prog 5 #[.int .i64 192] w fun e w' => e = .returned (.iface 44 (.pointer (some a))) ∧ w' = w := by
  go_enter Tryd.func5, Tryd.ntmps5
  go_wp2
  go_ret
  exact ⟨rfl, rfl⟩
theorem fixed_at (w : World) (A : Nat → Addr) (hS : Sen w A) (i : Nat) (hi : i < 20) : Calls Tryd.prog 5 #[.int .i64 (nos i)] w fun e w' => e = .returned (.iface 44 (.pointer (some (A i)))) ∧ w' = w := by
  have hc := hS.cell i hi
  have : i = 0 ∨ i = 1 ∨ i = 2 ∨ i = 3 ∨ i = 4 ∨ i = 5 ∨ i = 6 ∨ i = 7 ∨ i = 8 ∨ i = 9 ∨ i = 10 ∨ i = 11 ∨ i = 12 ∨ i = 13 ∨ i = 14 ∨ i = 15 ∨ i = 16 ∨ i = 17 ∨ i = 18 ∨ i = 19 := by omega
  rcases this with h | h | h | h | h | h | h | h | h | h | h | h | h | h | h | h | h | h | h | h <;> subst h
  · exact fixed_0 w _ hc
  · exact fixed_1 w _ hc
  · exact fixed_2 w _ hc
  · exact fixed_3 w _ hc
  · exact fixed_4 w _ hc
  · exact fixed_5 w _ hc
  · exact fixed_6 w _ hc
  · exact fixed_7 w _ hc
  · exact fixed_8 w _ hc
  · exact fixed_9 w _ hc
  · exact fixed_10 w _ hc
  · exact fixed_11 w _ hc
  · exact fixed_12 w _ hc
  · exact fixed_13 w _ hc
  · exact fixed_14 w _ hc
  · exact fixed_15 w _ hc
  · exact fixed_16 w _ hc
  · exact fixed_17 w _ hc
  · exact fixed_18 w _ hc
  · exact fixed_19 w _ hc
set_option maxRecDepth 100000 in
set_option maxHeartbeats 2000000 in
theorem fixed_none (w : World) (e : Int) (h : ∀ i, i < 20 → e ≠ nos i) : Calls Tryd.prog 5 #[.int .i64 e] w fun r w' => r = .returned .nilIface ∧ w' = w := by
  have h0 : (e == 1) = false := by have := h 0 (by decide); simpa [nos] using this
  have h1 : (e == 2) = false := by have := h 1 (by decide); simpa [nos] using this
  have h2 : (e == 3) = false := by have := h 2 (by decide); simpa [nos] using this
  have h3 : (e == 4) = false := by have := h 3 (by decide); simpa [nos] using this
  have h4 : (e == 5) = false := by have := h 4 (by decide); simpa [nos] using this
  have h5 : (e == 30) = false := by have := h 5 (by decide); simpa [nos] using this
  have h6 : (e == 31) = false := by have := h 6 (by decide); simpa [nos] using this
  have h7 : (e == 32) = false := by have := h 7 (by decide); simpa [nos] using this
  have h8 : (e == 33) = false := by have := h 8 (by decide); simpa [nos] using this
  have h9 : (e == 55) = false := by have := h 9 (by decide); simpa [nos] using this
  have h10 : (e == 60) = false := by have := h 10 (by decide); simpa [nos] using this
  have h11 : (e == 110) = false := by have := h 11 (by decide); simpa [nos] using this
  have h12 : (e == 151) = false := by have := h 12 (by decide); simpa [nos] using this
  have h13 : (e == 152) = false := by have := h 13 (by decide); simpa [nos] using this
  have h14 : (e == 160) = false := by have := h 14 (by decide); simpa [nos] using this
  have h15 : (e == 180) = false := by have := h 15 (by decide); simpa [nos] using this
  have h16 : (e == 181) = false := by have := h 16 (by decide); simpa [nos] using this
  have h17 : (e == 190) = false := by have := h 17 (by decide); simpa [nos] using this
  have h18 : (e == 191) = false := by have := h 18 (by decide); simpa [nos] using this
  have h19 : (e == 192) = false := by have := h 19 (by decide); simpa [nos] using this
  clear h
  go_enter Tryd.func5, Tryd.ntmps5
  go_wp2
  go_ret
  exact ⟨rfl, rfl⟩
set_option maxRecDepth 100000 in
set_option maxHeartbeats 2000000 in
theorem Is_any (w : World) (t : TypeId) (x : Value) (a : Addr) (r : Bool) (h : Calls Tryd.prog 8 #[.iface t x, .iface 44 (.pointer (some a)), .bool true] w fun e w' => e = .returned (.bool r) ∧ Below w.heap.size w w') :
    Calls Tryd.prog 6 #[.iface t x, .iface 44 (.pointer (some a))] w fun e w' => e = .returned (.bool r) ∧ Below w.heap.size w w' := by
  have h24 := @run_callFunc_extern Tryd.prog 7 _ Extern.ReflectliteType.typeOf Tryd.func7 (by kernel_rfl) (by kernel_rfl) (by kernel_rfl) (by kernel_rfl)
  have h62 := @run_callFunc_extern Tryd.prog 28 _ cmpFn Tryd.func28 (by kernel_rfl) (by kernel_rfl) (by kernel_rfl) (by kernel_rfl)
  have tT := Tryd.isTypeOf
  have cT := Tryd.isComparable
  have mR := Tryd.isMethodComparable
  have hN : ∀ (t : TypeId) (v : Value) (w : World), (binOp .eql 25 (.iface t v) .nilIface).run Tryd.prog w = .ok (.bool false) w := fun t v w => nil_other Tryd.underlying25
  replace h := hid h
  go_enter Tryd.func6, Tryd.ntmps6
  go_wp2_with fail
  refine h.out.mono ?_
  rintro e w' ⟨rfl, hQ⟩
  go_wp2
  go_ret
  exact ⟨rfl, hQ⟩
/-- The number that Code tells of an error in which errors.Is finds the fixed errors of p. -/
def CodeIs (p : Nat → Bool) (c : Int) : Prop := (∃ g, g < 20 ∧ p g = true ∧ (∀ h, h < g → p h = false) ∧ c = nos g) ∨ ((∀ g, g < 20 → p g = false) ∧ c = -1)
theorem nos_lt : ∀ g, g < 20 → ∀ h, h < 20 → (nos h < nos g ↔ h < g) := by decide +kernel
theorem nos_lo : ∀ g, g < 20 → 1 ≤ nos g ∧ nos g ≤ 192 := by decide +kernel
theorem nos_inj {g h : Nat} (hg : g < 20) (hh : h < 20) (e : nos g = nos h) : g = h := by
  have a := nos_lt g hg h hh
  have b := nos_lt h hh g hg
  omega
theorem nil_neq {P : Program} {w : World} {ti tp : TypeId} {v : Value} {ms : Array (String × TypeId)} (hi : P.underlying ti = some (.interface ms)) : (binOp .neq ti (.iface tp v) .nilIface).run P w = .ok (.bool true) w := by
  have h : ∀ d : Nat, (Op.equalIn (d + 1) ti (.iface tp v) .nilIface).run P w = .ok false w := fun d => by simp [Op.equalIn, run_underlying hi]
  simp only [binOp]
  simp [Op.equal, Op.maxDepth, h 9999]
set_option maxRecDepth 100000 in
set_option maxHeartbeats 2000000 in
theorem code_any (w : World) (A : Nat → Addr) (hS : Sen w A) (t : TypeId) (x : Value) (p : Nat → Bool) (c : Int) (hI : IsP w A (.iface t x) p) (hc : CodeIs p c) :
    Calls Tryd.prog 4 #[.iface t x] w fun e w' => e = .returned (.int .i64 c) ∧ Below w.heap.size w w' := by
  have hN : ∀ (t : TypeId) (v : Value) (w : World), (binOp .eql 25 (.iface t v) .nilIface).run Tryd.prog w = .ok (.bool false) w := fun t v w => nil_other Tryd.underlying25
  have hM : ∀ (t : TypeId) (v : Value) (w : World), (binOp .neq 25 (.iface t v) .nilIface).run Tryd.prog w = .ok (.bool true) w := fun t v w => nil_neq Tryd.underlying25
  have hO : ∀ (w : World), (binOp .neq 25 .nilIface .nilIface).run Tryd.prog w = .ok (.bool false) w := fun w => by kernel_rfl
  replace hI := hid hI
  replace hc := hid hc
  replace hS := hid hS
  go_enter Tryd.func4, Tryd.ntmps4
  go_wp2
  go_loopw [3] (fun i w' => ∃ k : Nat, 1 ≤ k ∧ k ≤ 193 ∧ i = .int .i64 k ∧ (∀ g, g < 20 → nos g < k → p g = false) ∧ Below w.heap.size w w')
    (fun i _ => 193 - (intOf i).toNat)
  case atStart => exact ⟨1, by omega, by omega, rfl, fun g hg h => by have := (nos_lo g hg).1; omega, Below.refl _ _⟩
  case round =>
    obtain ⟨k, h1, hk, rfl, hp, hb⟩ := hrel
    replace hp := hid hp
    replace hb := hid hb
    by_cases hk2 : k ≤ 192
    · have hki : (k : Int) ≤ 192 := by omega
      by_cases hg : ∃ g, g < 20 ∧ (k : Int) = nos g
      · obtain ⟨g, hg, e⟩ := hg
        have F := hid (show Calls Tryd.prog 5 #[.int .i64 (k : Int)] wr fun r w' => r = .returned (.iface 44 (.pointer (some (A g)))) ∧ w' = wr by rw [e]; exact fixed_at wr A (hS.out.mono hb.out) g hg)
        have I := hid (hI.out wr hb.out g hg)
        replace e := hid e
        go_wp2_with fail
        refine F.out.mono ?_
        rintro _ _ ⟨rfl, rfl⟩
        cases hpg : p g
        case true =>
          rw [hpg] at I
          go_wp2_with fail
          refine (Is_any _ _ _ _ _ I.out).mono ?_
          rintro _ w2 ⟨rfl, hb2⟩
          go_wp2
          go_ret
          refine ⟨?_, hb.out.trans (hb2.mono hb.out.size)⟩
          rcases hc.out with ⟨g0, h0, p0, q0, c0⟩ | ⟨q0, c0⟩
          · obtain rfl : g0 = g := by
              rcases Nat.lt_trichotomy g0 g with h | h | h
              · have := hp.out g0 h0 (by rw [e.out]; exact (nos_lt g hg g0 h0).2 h)
                rw [this] at p0; cases p0
              · exact h
              · have := q0 g h; rw [this] at hpg; cases hpg
            rw [c0, e.out]; rfl
          · have := q0 g hg; rw [this] at hpg; cases hpg
        case false =>
          rw [hpg] at I
          go_wp2_with fail
          refine (Is_any _ _ _ _ _ I.out).mono ?_
          rintro _ w2 ⟨rfl, hb2⟩
          go_wp2
          go_roundw
          case rel => exact ⟨k + 1, by omega, by omega, by go_num, fun h hh hl => by
            by_cases hq : nos h < k
            · exact hp.out h hh hq
            · have : h = g := nos_inj hh hg (by rw [← e.out]; omega)
              rw [this]; exact hpg, hb.out.trans (hb2.mono hb.out.size)⟩
          case measure => simp [intOf]; omega
      · have F := hid (fixed_none wr (k : Int) (fun i hi e => hg ⟨i, hi, e⟩))
        replace hg := hid hg
        go_wp2_with fail
        refine F.out.mono ?_
        rintro _ _ ⟨rfl, rfl⟩
        go_wp2
        go_roundw
        case rel => exact ⟨k + 1, by omega, by omega, by go_num, fun h hh hl => hp.out h hh (by
          have : (k : Int) ≠ nos h := fun e => hg.out ⟨h, hh, e⟩
          omega), hb.out⟩
        case measure => simp [intOf]; omega
    · obtain rfl : k = 193 := by omega
      go_wp2
      go_ret
      refine ⟨?_, hb.out⟩
      rcases hc.out with ⟨g0, h0, p0, q0, c0⟩ | ⟨q0, c0⟩
      · have := hp.out g0 h0 (by have := (nos_lo g0 h0).2; omega)
        rw [this] at p0; cases p0
      · rw [c0]; rfl
set_option maxRecDepth 100000 in
set_option maxHeartbeats 2000000 in
theorem txnNames_any (w : World) (A : Nat → Addr) (hS : Sen w A) : Calls Tryd.prog 3 #[] w fun e w' => e = .returned (.bool true) ∧ Below w.heap.size w w' := by
  have c15 : w.cell? ⟨0, 0, none⟩ = some (.iface 44 (.pointer (some (A 15)))) := hS.cell 15 (by decide)
  have c16 : ∀ w', Below w.heap.size w w' → w'.cell? ⟨1, 0, none⟩ = some (.iface 44 (.pointer (some (A 16)))) := fun w' hb => (hS.mono hb).cell 16 (by decide)
  have K15 := hid (code_any w A hS 44 (.pointer (some (A 15))) (fun g => 15 == g) 180 (isP_fx hS (by decide)) (Or.inl ⟨15, by decide, by decide, fun h hh => beq_false_of_ne (by omega), rfl⟩))
  have K16 := hid (fun w' (hb : Below w.heap.size w w') => code_any w' A (hS.mono hb) 44 (.pointer (some (A 16))) (fun g => 16 == g) 181 (isP_fx (hS.mono hb) (by decide)) (Or.inl ⟨16, by decide, by decide, fun h hh => beq_false_of_ne (by omega), rfl⟩))
  have C16 := hid c16
  clear hS c16
  go_enter Tryd.func3, Tryd.ntmps3
  go_wp2_with fail
  refine K15.out.mono ?_
  rintro e w1 ⟨rfl, hb1⟩
  have HB1 := hid hb1
  have d16 := C16.out w1 hb1
  clear hb1
  go_wp2_with fail
  refine (K16.out w1 HB1.out).mono ?_
  rintro e w2 ⟨rfl, hb2⟩
  go_wp2
  go_ret
  exact ⟨rfl, HB1.out.trans (hb2.mono HB1.out.size)⟩
end Go.Proofs.YtnaekphogibnbaaDoor
