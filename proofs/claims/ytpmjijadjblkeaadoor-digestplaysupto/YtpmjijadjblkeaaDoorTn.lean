import Derived.Test.YtpmjijadjblkeaaDoorTm
import Derived.Lib.SlBytesConst
import Derived.Laws.IdiomStrings
namespace Go.Proofs.YtpmjijadjblkeaaDoor
set_option linter.unusedVariables false
set_option linter.unusedSimpArgs false
open Go.RowKit
attribute [local go_sem ↓] Go.wp_at_zero Go.wp_at_succ

theorem Tryd.guard23 : Tryd.prog.eqGuardType Tryd.prog.depth 23 = false := by kernel_rfl
theorem eqD (xs ys : List Int) (ha : xs.length = 32) (hb : ys.length = 32) (w : World) :
    (Op.equalIn 10000 23 (.agg (ints .u8 xs).toArray) (.agg (ints .u8 ys).toArray)).run Tryd.prog w = .ok (decide (xs = ys)) w :=
  equalIn_ints Tryd.underlying23 Tryd.underlying5 Tryd.size5 .u8 xs ys ha hb w
theorem eqD_self (xs : List Int) (ha : xs.length = 32) (w : World) :
    (Op.equalIn 10000 23 (.agg (ints .u8 xs).toArray) (.agg (ints .u8 xs).toArray)).run Tryd.prog w = .ok true w := by
  rw [eqD xs xs ha ha]; simp

def longT : ByteArray := ⟨#[97, 98, 99, 100, 98, 99, 100, 101, 99, 100, 101, 102, 100, 101, 102, 103, 101, 102, 103, 104, 102, 103, 104, 105, 103, 104, 105, 106, 104, 105, 106, 107, 105, 106, 107, 108, 106, 107, 108, 109, 107, 108, 109, 110, 108, 109, 110, 111, 109, 110, 111, 112, 110, 111, 112, 113]⟩
theorem row_const (w : World) (C : List Int) (t : TypeId) (fr : Nat × Nat) : ∀ j, j < C.length → (w.alloc (.cells (ints .u8 C).toArray t fr)).cell? ⟨w.heap.size, 0 + j, none⟩ = some (.int .u8 (C.getD j 0)) := fun j hj => by
  rw [Nat.zero_add]; exact cell_ints (hnew w _) j hj
theorem row_long (w : World) (cap : Nat) (fr : Nat × Nat) : ∀ j, j < longZ.length → (w.alloc (.cells (bytesRow longT cap) 5 fr)).cell? ⟨w.heap.size, 0 + j, none⟩ = some (.int .u8 (longZ.getD j 0)) := fun j hj => by
  rw [Nat.zero_add, cell_of_row _ _ _ _ _ _ (hnew w _)]
  have hl : (ints .u8 longZ).toArray = longT.data.map (fun b => Value.int .u8 b.toNat) := by kernel_rfl
  rw [bytesRow, ← hl, Array.getElem?_append_left (by rw [ints_size]; exact hj)]
  simpa using ints_get .u8 longZ j hj

set_option maxRecDepth 100000 in
set_option maxHeartbeats 400000 in
theorem names_any (w : World) (hG : Glob w) :
    Calls Tryd.prog 3 #[] w fun e w' => e = .returned (.bool true) ∧ Below w.heap.size w w' := by
  have hw0 := hG.1
  have g23 := Tryd.guard23
  have q1 := eqD_self (wrt noneS 32) (wrt_len _ _)
  have q2 := eqD_self (wrt abcS 32) (wrt_len _ _)
  have q3 := eqD_self (wrt longS 32) (wrt_len _ _)
  have Q1 := hid sha_nil
  have Q2 := hid sha_abc
  have Q3 := hid sha_long
  have kc := fun (w : World) (C : Array Value) (n c : Nat) => Lib.run_convert_bytes_const (P := Tryd.prog) w 26 5 C n c Tryd.underlying26 Tryd.underlying5
  have kb := fun (w : World) (s : ByteArray) => run_bytes_of_string (P := Tryd.prog) w 9 26 5 s Tryd.underlying9 Tryd.underlying26 Tryd.underlying5
  go_enter Tryd.func3, Tryd.ntmps3
  go_wp2_with fail
  refine (dsum_any w [] none 0 (Src.nil (by omega)) hG (by simp)).mono ?_
  rintro e w1 ⟨rfl, b1⟩
  rw [Q1.out]
  have hG1 := hG.below b1 hw0
  go_wp2_with fail
  refine (written_any noneS rfl w1).mono ?_
  rintro e w2 ⟨rfl, b2⟩
  have b02 := b1.trans (b2.mono b1.size)
  have hG2 := hG.below b02 hw0
  clear b1 b2 hG1
  go_wp2_with fail
  have b03 : Below w.heap.size w (w2.alloc (Obj.cells #[] 5)) := b02.alloc b02.size _
  have hG3 := hG.below b03 hw0
  generalize hsp : (some ({ block := w2.heap.size, off := 0, spot := none } : Addr)) = sp3
  generalize w2.alloc (Obj.cells #[] 5) = w3 at *
  refine (dsum_any w3 [] sp3 0 ⟨by simp, by simp [maxLen], 0, 0, by have := hG3.1; omega, fun h => by simp at h, fun j hj => by simp at hj⟩ hG3 (by simp)).mono ?_
  rintro e w4 ⟨rfl, b4⟩
  rw [Q1.out]
  have b04 := b03.trans (b4.mono b03.size)
  clear b02 b03 b4 hG2 hG3 hsp
  go_wp2_with fail
  refine (written_any noneS rfl w4).mono ?_
  rintro e w5 ⟨rfl, b5⟩
  have b05 := b04.trans (b5.mono b04.size)
  clear b04 b5
  go_wp2_with fail
  have b06 : Below w.heap.size w (w5.alloc (Obj.cells (ints .u8 [97, 98, 99]).toArray 5 (3, 4))) := b05.alloc b05.size _
  have hG6 := hG.below b06 hw0
  have hS6 : Src (w5.alloc (Obj.cells (ints .u8 [97, 98, 99]).toArray 5 (3, 4))) (some ⟨w5.heap.size, 0, none⟩) 3 [97, 98, 99] := ⟨by simp, by simp [maxLen], w5.heap.size, 0, by simp, fun _ => rfl, row_const w5 [97, 98, 99] 5 (3, 4)⟩
  show Calls Tryd.prog 8 _ (w5.alloc (Obj.cells (ints .u8 [97, 98, 99]).toArray 5 (3, 4))) _
  generalize w5.alloc (Obj.cells (ints .u8 [97, 98, 99]).toArray 5 (3, 4)) = w6 at *
  refine (dsum_any w6 [97, 98, 99] _ 3 hS6 hG6 (by simp)).mono ?_
  rintro e w7 ⟨rfl, b7⟩
  rw [Q2.out]
  have b07 := b06.trans (b7.mono b06.size)
  clear b05 b06 hG6 hS6 b7
  go_wp2_with fail
  refine (written_any abcS rfl w7).mono ?_
  rintro e w8 ⟨rfl, b8⟩
  have b08 := b07.trans (b8.mono b07.size)
  clear b07 b8
  go_wp2_with fail
  show Calls Tryd.prog 8 #[.slice (some ⟨w8.heap.size, 0, none⟩) longZ.length (grownCap w8 56 0 5)] (w8.alloc (Obj.cells (bytesRow longT (grownCap w8 56 0 5)) 5 ((bytesRow longT (grownCap w8 56 0 5)).size, (bytesRow longT (grownCap w8 56 0 5)).size + 1))).drew _
  have hc1 := grownCap_ge w8 56 0 5
  have hc2 := grownCap_le_maxLen w8 56 0 5 (by simp [maxLen])
  generalize grownCap w8 56 0 5 = cap at *
  generalize ((bytesRow longT cap).size, (bytesRow longT cap).size + 1) = fr
  have b09 : Below w.heap.size w (w8.alloc (Obj.cells (bytesRow longT cap) 5 fr)).drew := (b08.alloc b08.size _).drew
  have hG9 := hG.below b09 hw0
  have hS9 : Src (w8.alloc (Obj.cells (bytesRow longT cap) 5 fr)).drew (some ⟨w8.heap.size, 0, none⟩) cap longZ := ⟨hc1, hc2, w8.heap.size, 0, by simp, fun _ => rfl, row_long w8 cap fr⟩
  generalize (w8.alloc (Obj.cells (bytesRow longT cap) 5 fr)).drew = w9 at *
  refine (dsum_any w9 longZ _ cap hS9 hG9 (by simp [longZ])).mono ?_
  rintro e w10 ⟨rfl, b10⟩
  rw [Q3.out]
  have b010 := b09.trans (b10.mono b09.size)
  clear b08 b09 hG9 hS9 b10
  go_wp2_with fail
  refine (written_any longS rfl w10).mono ?_
  rintro e w11 ⟨rfl, b11⟩
  have b011 := b010.trans (b11.mono b010.size)
  clear b010 b11
  go_wp2_with fail
  go_ret
  exact ⟨rfl, b011⟩
end Go.Proofs.YtpmjijadjblkeaaDoor
