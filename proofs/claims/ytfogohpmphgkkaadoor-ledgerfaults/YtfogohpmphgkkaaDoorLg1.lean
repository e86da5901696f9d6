import Derived.Test.YtfogohpmphgkkaaDoorKt
import Derived.LaidEql
import Derived.Stop.Asserts
import Derived.RowKitTokens
import Derived.Handy
namespace Go.Proofs.YtfogohpmphgkkaaDoor
set_option linter.unusedVariables false
set_option linter.unusedSimpArgs false
open Go.RowKit
attribute [local go_sem ↓] Go.wp_at_zero Go.wp_at_succ

/-- The texts of the fixed errors. -/
def txt : Nat → ByteArray
  | 0 => { data := #[97, 32, 110, 117, 109, 98, 101, 114, 32, 116, 104, 97, 116, 32, 109, 97, 121, 32, 110, 111, 116, 32, 98, 101] }
  | 1 => { data := #[116, 104, 101, 32, 100, 105, 115, 107, 32, 104, 97, 115, 32, 110, 111, 32, 112, 111, 119, 101, 114] }
  | 2 => { data := #[111, 108, 100, 101, 114, 32, 116, 104, 97, 110, 32, 116, 104, 101, 32, 108, 97, 115, 116, 32, 99, 114, 97, 115, 104] }
  | 3 => { data := #[116, 104, 101, 32, 100, 105, 115, 107, 32, 105, 115, 32, 99, 111, 114, 114, 117, 112, 116] }
  | 4 => { data := #[110, 111, 32, 112, 97, 103, 101, 32, 105, 115, 32, 108, 101, 102, 116] }
  | 5 => { data := #[110, 111, 32, 98, 97, 116, 99, 104] }
  | 6 => { data := #[116, 111, 111, 32, 109, 97, 110, 121, 32, 99, 104, 97, 110, 103, 101, 115] }
  | 7 => { data := #[97, 32, 118, 97, 108, 117, 101, 32, 116, 111, 111, 32, 108, 111, 110, 103] }
  | 8 => { data := #[111, 110, 101, 32, 107, 101, 121, 32, 116, 119, 105, 99, 101] }
  | 9 => { data := #[110, 111, 116, 104, 105, 110, 103, 32, 105, 115, 32, 108, 97, 105, 100, 32, 104, 101, 114, 101] }
  | 10 => { data := #[116, 104, 101, 114, 101, 32, 105, 115, 32, 115, 111, 109, 101, 116, 104, 105, 110, 103, 32, 97, 108, 114, 101, 97, 100, 121] }
  | 11 => { data := #[116, 104, 101, 32, 108, 111, 119, 32, 101, 110, 100, 32, 108, 105, 101, 115, 32, 97, 98, 111, 118, 101, 32, 116, 104, 101, 32, 104, 105, 103, 104, 32, 101, 110, 100] }
  | 12 => { data := #[110, 111, 32, 115, 117, 99, 104, 32, 118, 101, 114, 115, 105, 111, 110, 32, 121, 101, 116] }
  | 13 => { data := #[97, 32, 118, 101, 114, 115, 105, 111, 110, 32, 98, 101, 108, 111, 119, 32, 116, 104, 101, 32, 102, 105, 114, 115, 116] }
  | 14 => { data := #[110, 111, 116, 32, 97, 32, 107, 101, 121, 39, 115, 32, 98, 121, 116, 101, 115] }
  | 15 => { data := #[110, 111, 32, 115, 117, 99, 104, 32, 116, 114, 97, 110, 115, 97, 99, 116, 105, 111, 110] }
  | 16 => { data := #[119, 104, 97, 116, 32, 119, 97, 115, 32, 114, 101, 97, 100, 32, 104, 97, 115, 32, 99, 104, 97, 110, 103, 101, 100] }
  | 17 => { data := #[110, 111, 32, 115, 116, 114, 101, 97, 109] }
  | 18 => { data := #[116, 104, 101, 32, 115, 116, 114, 101, 97, 109, 32, 98, 101, 103, 105, 110, 115, 32, 101, 108, 115, 101, 119, 104, 101, 114, 101] }
  | 19 => { data := #[97, 110, 111, 116, 104, 101, 114, 32, 114, 111, 111, 116, 32, 116, 104, 97, 110, 32, 116, 104, 101, 32, 115, 116, 114, 101, 97, 109, 32, 115, 97, 121, 115] }
  | _ => { data := #[] }
/-- Their numbers. -/
def nos : Nat → Int
  | 0 => 1
  | 1 => 2
  | 2 => 3
  | 3 => 4
  | 4 => 5
  | 5 => 30
  | 6 => 31
  | 7 => 32
  | 8 => 33
  | 9 => 55
  | 10 => 60
  | 11 => 110
  | 12 => 151
  | 13 => 152
  | 14 => 160
  | 15 => 180
  | 16 => 181
  | 17 => 190
  | 18 => 191
  | 19 => 192
  | _ => 0
/-- The value of a fixed error. -/
def erV (A : Nat → Addr) (g : Nat) : Value := .iface 88 (.pointer (some (A g)))
/-- The fixed errors in memory. -/
structure Sen (w : World) (A : Nat → Addr) : Prop where
  cell : ∀ g, g < 20 → w.cell? ⟨g, 0, none⟩ = some (erV A g)
  text : ∀ g, g < 20 → w.cell? (A g) = some (.string (txt g))
  blk : ∀ g, g < 20 → ∃ c t, w.heap[(A g).block]? = some (.cells c t (0, 0))
  ne : ∀ g h, g < 20 → h < 20 → g ≠ h → A g ≠ A h
theorem Sen.mono {w w' : World} {A : Nat → Addr} (h : Sen w A) (hb : Below w.heap.size w w') : Sen w' A := by
  have hold : ∀ (a : Addr) v, w.cell? a = some v → w'.cell? a = some v := fun a v e => by
    rw [← e]; exact hb.cell (block_lt_of_cell e)
  exact ⟨fun g hg => hold _ _ (h.cell g hg), fun g hg => hold _ _ (h.text g hg), fun g hg => by
    obtain ⟨c, t, e⟩ := h.blk g hg
    exact ⟨c, t, by rw [← e]; exact hb.block _ (by rcases Nat.lt_or_ge (A g).block w.heap.size with h1 | h1; exact h1; simp [Array.getElem?_eq_none h1] at e)⟩, h.ne⟩
/-- The cells of the list. -/
def lst (A : Nat → Addr) : Array Value := #[.int .i64 1, .iface 88 (.pointer (some (A 0))), .int .i64 2, .iface 88 (.pointer (some (A 1))), .int .i64 3, .iface 88 (.pointer (some (A 2))), .int .i64 4, .iface 88 (.pointer (some (A 3))), .int .i64 5, .iface 88 (.pointer (some (A 4))), .int .i64 30, .iface 88 (.pointer (some (A 5))), .int .i64 31, .iface 88 (.pointer (some (A 6))), .int .i64 32, .iface 88 (.pointer (some (A 7))), .int .i64 33, .iface 88 (.pointer (some (A 8))), .int .i64 55, .iface 88 (.pointer (some (A 9))), .int .i64 60, .iface 88 (.pointer (some (A 10))), .int .i64 110, .iface 88 (.pointer (some (A 11))), .int .i64 151, .iface 88 (.pointer (some (A 12))), .int .i64 152, .iface 88 (.pointer (some (A 13))), .int .i64 160, .iface 88 (.pointer (some (A 14))), .int .i64 180, .iface 88 (.pointer (some (A 15))), .int .i64 181, .iface 88 (.pointer (some (A 16))), .int .i64 190, .iface 88 (.pointer (some (A 17))), .int .i64 191, .iface 88 (.pointer (some (A 18))), .int .i64 192, .iface 88 (.pointer (some (A 19)))]
theorem lst_no (A : Nat → Addr) : ∀ i, i < 20 → (lst A)[2 * i]? = some (.int .i64 (nos i)) := by
  intro i hi
  have : i = 0 ∨ i = 1 ∨ i = 2 ∨ i = 3 ∨ i = 4 ∨ i = 5 ∨ i = 6 ∨ i = 7 ∨ i = 8 ∨ i = 9 ∨ i = 10 ∨ i = 11 ∨ i = 12 ∨ i = 13 ∨ i = 14 ∨ i = 15 ∨ i = 16 ∨ i = 17 ∨ i = 18 ∨ i = 19 := by omega
  rcases this with h | h | h | h | h | h | h | h | h | h | h | h | h | h | h | h | h | h | h | h <;> subst h <;> rfl
theorem lst_er (A : Nat → Addr) : ∀ i, i < 20 → (lst A)[2 * i + 1]? = some (erV A i) := by
  intro i hi
  have : i = 0 ∨ i = 1 ∨ i = 2 ∨ i = 3 ∨ i = 4 ∨ i = 5 ∨ i = 6 ∨ i = 7 ∨ i = 8 ∨ i = 9 ∨ i = 10 ∨ i = 11 ∨ i = 12 ∨ i = 13 ∨ i = 14 ∨ i = 15 ∨ i = 16 ∨ i = 17 ∨ i = 18 ∨ i = 19 := by omega
  rcases this with h | h | h | h | h | h | h | h | h | h | h | h | h | h | h | h | h | h | h | h <;> subst h <;> rfl
set_option maxRecDepth 100000 in
set_option maxHeartbeats 2000000 in
theorem list_any (w : World) (A : Nat → Addr) (hS : Sen w A) : Calls Tryd.prog 6 #[] w fun e w' => e = .returned (.slice (some ⟨w.heap.size, 0, none⟩) 20 20) ∧ w' = w.alloc (.cells (lst A) 27) := by
  have c0 : w.cell? ⟨0, 0, none⟩ = some (.iface 88 (.pointer (some (A 0)))) := hS.cell 0 (by decide)
  have c1 : w.cell? ⟨1, 0, none⟩ = some (.iface 88 (.pointer (some (A 1)))) := hS.cell 1 (by decide)
  have c2 : w.cell? ⟨2, 0, none⟩ = some (.iface 88 (.pointer (some (A 2)))) := hS.cell 2 (by decide)
  have c3 : w.cell? ⟨3, 0, none⟩ = some (.iface 88 (.pointer (some (A 3)))) := hS.cell 3 (by decide)
  have c4 : w.cell? ⟨4, 0, none⟩ = some (.iface 88 (.pointer (some (A 4)))) := hS.cell 4 (by decide)
  have c5 : w.cell? ⟨5, 0, none⟩ = some (.iface 88 (.pointer (some (A 5)))) := hS.cell 5 (by decide)
  have c6 : w.cell? ⟨6, 0, none⟩ = some (.iface 88 (.pointer (some (A 6)))) := hS.cell 6 (by decide)
  have c7 : w.cell? ⟨7, 0, none⟩ = some (.iface 88 (.pointer (some (A 7)))) := hS.cell 7 (by decide)
  have c8 : w.cell? ⟨8, 0, none⟩ = some (.iface 88 (.pointer (some (A 8)))) := hS.cell 8 (by decide)
  have c9 : w.cell? ⟨9, 0, none⟩ = some (.iface 88 (.pointer (some (A 9)))) := hS.cell 9 (by decide)
  have c10 : w.cell? ⟨10, 0, none⟩ = some (.iface 88 (.pointer (some (A 10)))) := hS.cell 10 (by decide)
  have c11 : w.cell? ⟨11, 0, none⟩ = some (.iface 88 (.pointer (some (A 11)))) := hS.cell 11 (by decide)
  have c12 : w.cell? ⟨12, 0, none⟩ = some (.iface 88 (.pointer (some (A 12)))) := hS.cell 12 (by decide)
  have c13 : w.cell? ⟨13, 0, none⟩ = some (.iface 88 (.pointer (some (A 13)))) := hS.cell 13 (by decide)
  have c14 : w.cell? ⟨14, 0, none⟩ = some (.iface 88 (.pointer (some (A 14)))) := hS.cell 14 (by decide)
  have c15 : w.cell? ⟨15, 0, none⟩ = some (.iface 88 (.pointer (some (A 15)))) := hS.cell 15 (by decide)
  have c16 : w.cell? ⟨16, 0, none⟩ = some (.iface 88 (.pointer (some (A 16)))) := hS.cell 16 (by decide)
  have c17 : w.cell? ⟨17, 0, none⟩ = some (.iface 88 (.pointer (some (A 17)))) := hS.cell 17 (by decide)
  have c18 : w.cell? ⟨18, 0, none⟩ = some (.iface 88 (.pointer (some (A 18)))) := hS.cell 18 (by decide)
  have c19 : w.cell? ⟨19, 0, none⟩ = some (.iface 88 (.pointer (some (A 19)))) := hS.cell 19 (by decide)
  clear hS
  unfold lst
  generalize A 0 = a0 at *
  generalize A 1 = a1 at *
  generalize A 2 = a2 at *
  generalize A 3 = a3 at *
  generalize A 4 = a4 at *
  generalize A 5 = a5 at *
  generalize A 6 = a6 at *
  generalize A 7 = a7 at *
  generalize A 8 = a8 at *
  generalize A 9 = a9 at *
  generalize A 10 = a10 at *
  generalize A 11 = a11 at *
  generalize A 12 = a12 at *
  generalize A 13 = a13 at *
  generalize A 14 = a14 at *
  generalize A 15 = a15 at *
  generalize A 16 = a16 at *
  generalize A 17 = a17 at *
  generalize A 18 = a18 at *
  generalize A 19 = a19 at *
  clear A
  go_enter Tryd.func6, Tryd.ntmps6
  go_wp2
  go_ret
  exact ⟨rfl, rfl⟩
set_option maxRecDepth 100000 in
set_option maxHeartbeats 2000000 in
theorem text_0 (w : World) : Calls Tryd.prog 7 #[.int .i64 1] w fun e w' => e = .returned (.string (txt 0)) ∧ w' = w := by
  go_enter Tryd.func7, Tryd.ntmps7
  go_wp2
  go_ret
  exact ⟨rfl, rfl⟩
set_option maxRecDepth 100000 in
set_option maxHeartbeats 2000000 in
theorem text_1 (w : World) : Calls Tryd.prog 7 #[.int .i64 2] w fun e w' => e = .returned (.string (txt 1)) ∧ w' = w := by
  go_enter Tryd.func7, Tryd.ntmps7
  go_wp2
  go_ret
  exact ⟨rfl, rfl⟩
set_option maxRecDepth 100000 in
set_option maxHeartbeats 2000000 in
theorem text_2 (w : World) : Calls Tryd.prog 7 #[.int .i64 3] w fun e w' => e = .returned (.string (txt 2)) ∧ w' = w := by
  go_enter Tryd.func7, Tryd.ntmps7
  go_wp2
  go_ret
  exact ⟨rfl, rfl⟩
set_option maxRecDepth 100000 in
set_option maxHeartbeats 2000000 in
theorem text_3 (w : World) : Calls Tryd.prog 7 #[.int .i64 4] w fun e w' => e = .returned (.string (txt 3)) ∧ w' = w := by
  go_enter Tryd.func7, Tryd.ntmps7
  go_wp2
  go_ret
  exact ⟨rfl, rfl⟩
set_option maxRecDepth 100000 in
set_option maxHeartbeats 2000000 in
theorem text_4 (w : World) : Calls Tryd.prog 7 #[.int .i64 5] w fun e w' => e = .returned (.string (txt 4)) ∧ w' = w := by
  go_enter Tryd.func7, Tryd.ntmps7
  go_wp2
  go_ret
  exact ⟨rfl, rfl⟩
set_option maxRecDepth 100000 in
set_option maxHeartbeats 2000000 in
theorem text_5 (w : World) : Calls Tryd.prog 7 #[.int .i64 30] w fun e w' => e = .returned (.string (txt 5)) ∧ w' = w := by
  go_enter Tryd.func7, Tryd.ntmps7
  go_wp2
  go_ret
  exact ⟨rfl, rfl⟩
set_option maxRecDepth 100000 in
set_option maxHeartbeats 2000000 in
theorem text_6 (w : World) : Calls Tryd.prog 7 #[.int .i64 31] w fun e w' => e = .returned (.string (txt 6)) ∧ w' = w := by
  go_enter Tryd.func7, Tryd.ntmps7
  go_wp2
  go_ret
  exact ⟨rfl, rfl⟩
set_option maxRecDepth 100000 in
set_option maxHeartbeats 2000000 in
theorem text_7 (w : World) : Calls Tryd.prog 7 #[.int .i64 32] w fun e w' => e = .returned (.string (txt 7)) ∧ w' = w := by
  go_enter Tryd.func7, Tryd.ntmps7
  go_wp2
  go_ret
  exact ⟨rfl, rfl⟩
set_option maxRecDepth 100000 in
set_option maxHeartbeats 2000000 in
theorem text_8 (w : World) : Calls Tryd.prog 7 #[.int .i64 33] w fun e w' => e = .returned (.string (txt 8)) ∧ w' = w := by
  go_enter Tryd.func7, Tryd.ntmps7
  go_wp2
  go_ret
  exact ⟨rfl, rfl⟩
set_option maxRecDepth 100000 in
set_option maxHeartbeats 2000000 in
theorem text_9 (w : World) : Calls Tryd.prog 7 #[.int .i64 55] w fun e w' => e = .returned (.string (txt 9)) ∧ w' = w := by
  go_enter Tryd.func7, Tryd.ntmps7
  go_wp2
  go_ret
  exact ⟨rfl, rfl⟩
set_option maxRecDepth 100000 in
set_option maxHeartbeats 2000000 in
theorem text_10 (w : World) : Calls Tryd.prog 7 #[.int .i64 60] w fun e w' => e = .returned (.string (txt 10)) ∧ w' = w := by
  go_enter Tryd.func7, Tryd.ntmps7
  go_wp2
  go_ret
  exact ⟨rfl, rfl⟩
set_option maxRecDepth 100000 in
set_option maxHeartbeats 2000000 in
theorem text_11 (w : World) : Calls Tryd.prog 7 #[.int .i64 110] w fun e w' => e = .returned (.string (txt 11)) ∧ w' = w := by
  go_enter Tryd.func7, Tryd.ntmps7
  go_wp2
  go_ret
  exact ⟨rfl, rfl⟩
set_option maxRecDepth 100000 in
set_option maxHeartbeats 2000000 in
theorem text_12 (w : World) : Calls Tryd.prog 7 #[.int .i64 151] w fun e w' => e = .returned (.string (txt 12)) ∧ w' = w := by
  go_enter Tryd.func7, Tryd.ntmps7
  go_wp2
  go_ret
  exact ⟨rfl, rfl⟩
set_option maxRecDepth 100000 in
set_option maxHeartbeats 2000000 in
theorem text_13 (w : World) : Calls Tryd.prog 7 #[.int .i64 152] w fun e w' => e = .returned (.string (txt 13)) ∧ w' = w := by
  go_enter Tryd.func7, Tryd.ntmps7
  go_wp2
  go_ret
  exact ⟨rfl, rfl⟩
set_option maxRecDepth 100000 in
set_option maxHeartbeats 2000000 in
theorem text_14 (w : World) : Calls Tryd.prog 7 #[.int .i64 160] w fun e w' => e = .returned (.string (txt 14)) ∧ w' = w := by
  go_enter Tryd.func7, Tryd.ntmps7
  go_wp2
  go_ret
  exact ⟨rfl, rfl⟩
set_option maxRecDepth 100000 in
set_option maxHeartbeats 2000000 in
theorem text_15 (w : World) : Calls Tryd.prog 7 #[.int .i64 180] w fun e w' => e = .returned (.string (txt 15)) ∧ w' = w := by
  go_enter Tryd.func7, Tryd.ntmps7
  go_wp2
  go_ret
  exact ⟨rfl, rfl⟩
set_option maxRecDepth 100000 in
set_option maxHeartbeats 2000000 in
theorem text_16 (w : World) : Calls Tryd.prog 7 #[.int .i64 181] w fun e w' => e = .returned (.string (txt 16)) ∧ w' = w := by
  go_enter Tryd.func7, Tryd.ntmps7
  go_wp2
  go_ret
  exact ⟨rfl, rfl⟩
set_option maxRecDepth 100000 in
set_option maxHeartbeats 2000000 in
theorem text_17 (w : World) : Calls Tryd.prog 7 #[.int .i64 190] w fun e w' => e = .returned (.string (txt 17)) ∧ w' = w := by
  go_enter Tryd.func7, Tryd.ntmps7
  go_wp2
  go_ret
  exact ⟨rfl, rfl⟩
set_option maxRecDepth 100000 in
set_option maxHeartbeats 2000000 in
theorem text_18 (w : World) : Calls Tryd.prog 7 #[.int .i64 191] w fun e w' => e = .returned (.string (txt 18)) ∧ w' = w := by
  go_enter Tryd.func7, Tryd.ntmps7
  go_wp2
  go_ret
  exact ⟨rfl, rfl⟩
set_option maxRecDepth 100000 in
set_option maxHeartbeats 2000000 in
theorem text_19 (w : World) : Calls Tryd.prog 7 #[.int .i64 192] w fun e w' => e = .returned (.string (txt 19)) ∧ w' = w := by
  go_enter Tryd.func7, Tryd.ntmps7
  go_wp2
  go_ret
  exact ⟨rfl, rfl⟩
theorem text_any (w : World) (i : Nat) (hi : i < 20) : Calls Tryd.prog 7 #[.int .i64 (nos i)] w fun e w' => e = .returned (.string (txt i)) ∧ w' = w := by
  have : i = 0 ∨ i = 1 ∨ i = 2 ∨ i = 3 ∨ i = 4 ∨ i = 5 ∨ i = 6 ∨ i = 7 ∨ i = 8 ∨ i = 9 ∨ i = 10 ∨ i = 11 ∨ i = 12 ∨ i = 13 ∨ i = 14 ∨ i = 15 ∨ i = 16 ∨ i = 17 ∨ i = 18 ∨ i = 19 := by omega
  rcases this with h | h | h | h | h | h | h | h | h | h | h | h | h | h | h | h | h | h | h | h <;> subst h
  · exact text_0 w
  · exact text_1 w
  · exact text_2 w
  · exact text_3 w
  · exact text_4 w
  · exact text_5 w
  · exact text_6 w
  · exact text_7 w
  · exact text_8 w
  · exact text_9 w
  · exact text_10 w
  · exact text_11 w
  · exact text_12 w
  · exact text_13 w
  · exact text_14 w
  · exact text_15 w
  · exact text_16 w
  · exact text_17 w
  · exact text_18 w
  · exact text_19 w
set_option maxRecDepth 100000 in
set_option maxHeartbeats 2000000 in
theorem error_any (w : World) (a : Addr) (s : ByteArray) (h : w.cell? a = some (.string s)) : Calls Tryd.prog 71 #[.pointer (some a)] w fun e w' => e = .returned (.string s) ∧ w' = w := by
  obtain ⟨b, o, v⟩ := a
  go_enter Tryd.func71, Tryd.ntmps71
  go_wp2
  go_ret
  exact ⟨rfl, rfl⟩
end Go.Proofs.YtfogohpmphgkkaaDoor
