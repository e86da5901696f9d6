import Derived.Test.YtihkjfbhmlfonaaHw5
import Derived.Test.YtihkjfbhmlfonaaMb
namespace Go.Proofs.Ytihkjfbhmlfonaa
set_option linter.unusedVariables false
set_option linter.unusedSimpArgs false
open Go.RowKit
attribute [local go_sem ↓] Go.wp_at_zero Go.wp_at_succ

theorem xor_u8N (a b : Nat) (ha : a < 256) (hb : b < 256) : bits .xor .u8 (a : Int) (b : Int) = ((a ^^^ b : Nat) : Int) := by
  have hx : a ^^^ b < 2 ^ 8 := Nat.xor_lt_two_pow (by omega) (by omega)
  have h1 : (BitVec.ofInt 8 (a : Int)).toNat = a := by
    rw [BitVec.ofInt_natCast, BitVec.toNat_ofNat]; exact Nat.mod_eq_of_lt (by omega)
  have h2 : (BitVec.ofInt 8 (b : Int)).toNat = b := by
    rw [BitVec.ofInt_natCast, BitVec.toNat_ofNat]; exact Nat.mod_eq_of_lt (by omega)
  show IntKind.u8.wrap ((BitVec.ofInt 8 (a : Int) ^^^ BitVec.ofInt 8 (b : Int)).toNat : Int) = _
  rw [BitVec.toNat_xor, h1, h2, IntKind.wrap_u8]
  omega
/-- A list of bytes that lies in block g, from its beginning. -/
def In (w : World) (g : Nat) (rest : List Value) (os : List Int) : Prop := w.heap[g]? = some (.cells (ints .u8 os ++ rest).toArray 5 (0, 0))
theorem In.cell {w : World} {g : Nat} {rest : List Value} {os : List Int} (h : In w g rest os) (j : Nat) (hj : j < os.length) : w.cell? ⟨g, j, none⟩ = some (.int .u8 (os.getD j 0)) := by
  rw [cell_of_row _ _ _ _ _ _ h]
  have hg2 := ints_get .u8 os j hj
  simp only [List.getElem?_toArray]
  rw [List.getElem?_append_left (by rw [ints_len]; exact hj), hg2]
theorem In.set {w : World} {g : Nat} {rest : List Value} {os : List Int} (h : In w g rest os) (j : Nat) (x : Int) (hj : j < os.length) : In (w.setCell ⟨g, j, none⟩ (.int .u8 x)) g rest (os.set j x) := by
  unfold In
  rw [setCell_eq_setRow w g _ _ _ _ _ h, setRow_heap _ _ _ _ _ _ h]
  congr 2
  simp only [List.setIfInBounds_toArray]
  rw [List.set_append_left _ _ (by rw [ints_len]; exact hj)]
  simp [ints, List.map_set]
theorem In.src {w : World} {g : Nat} {rest : List Value} {os : List Int} (h : In w g rest os) (cap : Nat) (hc : os.length ≤ cap) (hm : cap ≤ maxLen) : Src w (some ⟨g, 0, none⟩) cap os :=
  ⟨hc, hm, g, 0, fun _ => hlt h, fun _ => rfl, fun j hj => by rw [Nat.zero_add]; exact h.cell j hj⟩
theorem Keeps.setCell {g : Nat} {a b : World} (h : Keeps g a b) (j : Nat) (v : Value) : Keeps g a (b.setCell ⟨g, j, none⟩ v) :=
  ⟨h.os, h.tape, h.output, by rw [World.size_setCell]; exact h.size, fun k hk hne => by rw [heap_setCell_other _ _ _ _ hne]; exact h.block k hk hne⟩
def flO (l : List Int) (k : Int) : List Int := if 0 ≤ k ∧ k < 8 * (l.length : Int) then turnB l k.toNat else l
theorem flO_len (l : List Int) (k : Int) : (flO l k).length = l.length := by
  unfold flO; split
  · exact turnB_len _ _
  · rfl
theorem flO_byts {l : List Int} (h : Byts l) (k : Int) : Byts (flO l k) := by
  unfold flO; split
  · exact turnB_byts h _
  · exact h
theorem le_sb (s : Nat) (hs : s < 4294967296) : le (sbF s) = s := by simp only [sbF, le]; omega
theorem seal_CR (zs : List Int) (h : Byts zs) : feed ones (sealF zs) = CR := by
  have hs := sumF_lt h
  have h1 := sbF_byts (sumF zs)
  have := (whole_iff zs _ _ _ _ h h1).2 (le_sb _ hs).symm
  exact this
theorem four_of {ys : List Int} (hy : ys.length = 4) : ∃ y0 y1 y2 y3, ys = [y0, y1, y2, y3] := by
  match ys, hy with
  | [y0, y1, y2, y3], _ => exact ⟨y0, y1, y2, y3, rfl⟩
theorem whole_D (xs ys : List Int) (h8 : Byts (xs ++ ys)) (hy : ys.length = 4) : decide (sbF (sumF xs) = ys) = decide (feed ones (xs ++ ys) = CR) := by
  obtain ⟨y0, y1, y2, y3, rfl⟩ := four_of hy
  have hx : Byts xs := fun x hx => h8 x (List.mem_append_left _ hx)
  have hyb : Byts [y0, y1, y2, y3] := fun x hx => h8 x (List.mem_append_right _ hx)
  have hw := whole_iff xs y0 y1 y2 y3 hx hyb
  have hs := sumF_lt hx
  have h0 := hyb y0 (by simp)
  have h1 := hyb y1 (by simp)
  have h2 := hyb y2 (by simp)
  have h3 := hyb y3 (by simp)
  rw [decide_eq_decide, hw]
  constructor
  · intro h; rw [← h, le_sb _ hs]
  · intro h
    rw [h]
    simp only [sbF, le, List.cons.injEq, and_true]
    omega
theorem whole_L (w : World) (L : List Int) (h8 : Byts L) (h4 : 4 ≤ L.length) (sp : Option Addr) (cap : Nat) (hS : Src w sp cap L) :
    Calls Try.prog 82 #[.slice sp L.length cap] w fun e w' => e = .returned (.bool (decide (feed ones L = CR))) ∧ Below w.heap.size w w' := by
  have e := List.take_append_drop (L.length - 4) L
  have hy : (L.drop (L.length - 4)).length = 4 := by rw [List.length_drop]; omega
  have hl : (L.take (L.length - 4)).length + 4 = L.length := by rw [List.length_take]; omega
  have := whole_any w (L.take (L.length - 4)) (L.drop (L.length - 4)) (by rw [e]; exact h8) hy sp cap (by rw [e]; exact hS)
  rw [whole_D _ _ (by rw [e]; exact h8) hy, e, hl] at this
  exact this
end Go.Proofs.Ytihkjfbhmlfonaa
