import Derived.Test.YtbmjegcnfokagaaHw
import Derived.Test.YtbmjegcnfokagaaMb
namespace Go.Proofs.Ytbmjegcnfokagaa
set_option linter.unusedVariables false
set_option linter.unusedSimpArgs false
open Go.RowKit
attribute [local go_sem ↓] Go.wp_at_zero Go.wp_at_succ

theorem xor_u8 (a b : Nat) (ha : a < 256) (hb : b < 256) : bits .xor .u8 (a : Int) (b : Int) = ((a ^^^ b : Nat) : Int) := by
  have hx : a ^^^ b < 2 ^ 8 := Nat.xor_lt_two_pow (by omega) (by omega)
  have h1 : (BitVec.ofInt 8 (a : Int)).toNat = a := by
    rw [BitVec.ofInt_natCast, BitVec.toNat_ofNat]; exact Nat.mod_eq_of_lt (by omega)
  have h2 : (BitVec.ofInt 8 (b : Int)).toNat = b := by
    rw [BitVec.ofInt_natCast, BitVec.toNat_ofNat]; exact Nat.mod_eq_of_lt (by omega)
  show IntKind.u8.wrap ((BitVec.ofInt 8 (a : Int) ^^^ BitVec.ofInt 8 (b : Int)).toNat : Int) = _
  rw [BitVec.toNat_xor, h1, h2, IntKind.wrap_u8]
  omega
/-- A list of bytes that lies in block g, from its beginning. -/
def In (w : World) (g : Nat) (rest : List Value) (os : List Int) : Prop := w.heap[g]? = some (.cells (ints .u8 os ++ rest).toArray 5 (0, 0))
theorem In.cell {w : World} {g : Nat} {rest : List Value} {os : List Int} (h : In w g rest os) (j : Nat) (hj : j < os.length) : w.cell? ⟨g, j, none⟩ = some (.int .u8 (os.getD j 0)) := by
  rw [cell_of_row _ _ _ _ _ _ h]
  have hg2 := ints_get .u8 os j hj
  simp only [List.getElem?_toArray]
  rw [List.getElem?_append_left (by rw [ints_len]; exact hj), hg2]
theorem In.set {w : World} {g : Nat} {rest : List Value} {os : List Int} (h : In w g rest os) (j : Nat) (x : Int) (hj : j < os.length) : In (w.setCell ⟨g, j, none⟩ (.int .u8 x)) g rest (os.set j x) := by
  unfold In
  rw [setCell_eq_setRow w g _ _ _ _ _ h, setRow_heap _ _ _ _ _ _ h]
  congr 2
  simp only [List.setIfInBounds_toArray]
  rw [List.set_append_left _ _ (by rw [ints_len]; exact hj)]
  simp [ints, List.map_set]
theorem In.src {w : World} {g : Nat} {rest : List Value} {os : List Int} (h : In w g rest os) (cap : Nat) (hc : os.length ≤ cap) (hm : cap ≤ maxLen) : Src w (some ⟨g, 0, none⟩) cap os :=
  ⟨hc, hm, g, 0, fun _ => hlt h, fun _ => rfl, fun j hj => by rw [Nat.zero_add]; exact h.cell j hj⟩
theorem Keeps.setCell {g : Nat} {a b : World} (h : Keeps g a b) (j : Nat) (v : Value) : Keeps g a (b.setCell ⟨g, j, none⟩ v) :=
  ⟨h.os, h.tape, h.output, by rw [World.size_setCell]; exact h.size, fun k hk hne => by rw [heap_setCell_other _ _ _ _ hne]; exact h.block k hk hne⟩
set_option maxRecDepth 100000 in
set_option maxHeartbeats 400000 in
theorem flip_in (w : World) (g : Nat) (rest : List Value) (os : List Int) (h8 : Byts os) (cap : Nat) (hI : In w g rest os) (hlen : os.length ≤ 140737488355000) (k : Nat) (hk : k < 8 * os.length) :
    Calls Try.prog 18 #[.slice (some ⟨g, 0, none⟩) os.length cap, .int .i64 k] w fun e w' => e = .returned (.bool true) ∧ In w' g rest (turnB os k) ∧ Keeps g w w' := by
  have i0 : (os.length : Int) ≤ 140737488355000 := by omega
  have i1 : (k : Int) < 8 * (os.length : Int) := by omega
  have i2 : ¬ (k : Int) < 0 := by omega
  have hi : k / 8 < os.length := by omega
  have HT := hid (show turnB os k = os.set (k / 8) (((os.getD (k / 8) 0).toNat ^^^ 2 ^ (k % 8) : Nat) : Int) from rfl)
  have hbq : 0 ≤ os.getD (k / 8) 0 ∧ os.getD (k / 8) 0 < 256 := by rw [List.getD_eq_getElem?_getD, List.getElem?_eq_getElem hi]; exact h8 _ (List.getElem_mem hi)
  have c0 := hI.cell (k / 8) hi
  have f0 : w.frozen? ⟨g, k / 8, none⟩ = false := frozen_of_row _ _ _ _ _ hI
  have hj8 : k % 8 < 8 := Nat.mod_lt _ (by decide)
  have e1 : (k : Int) / 8 = ((k / 8 : Nat) : Int) := by omega
  have e2 : (k : Int) % 8 = ((k % 8 : Nat) : Int) := by omega
  have hset := fun x => hI.set (k / 8) x hi
  generalize k / 8 = q at *
  generalize k % 8 = j at *
  have i3 : (q : Int) < (os.length : Int) := by omega
  obtain ⟨x, hx⟩ := Int.eq_ofNat_of_zero_le hbq.1
  rw [hx] at HT c0
  have hx2 : x < 256 := by omega
  clear hbq hx
  have hp : 2 ^ j < 256 := pow8_lt hj8
  have e3 : (2 : Int) ^ j = ((2 ^ j : Nat) : Int) := by push_cast; rfl
  have e5 : bits .xor .u8 (x : Int) ((2 : Int) ^ j) = ((x ^^^ 2 ^ j : Nat) : Int) := by rw [e3]; exact xor_u8 x (2 ^ j) hx2 hp
  have e6 : (2 : Int) ^ j < 256 := by rw [e3]; omega
  have e7 : IntKind.u8.wrap ((2 : Int) ^ j) = (2 : Int) ^ j := by rw [IntKind.wrap_u8]; exact Int.emod_eq_of_lt (by rw [e3]; exact Int.natCast_nonneg _) e6
  have j1 : (j : Int) < 8 := by omega
  rw [Int.toNat_natCast] at HT
  generalize x ^^^ 2 ^ j = y at *
  clear e3 hp hj8
  go_enter Try.func18, Try.ntmps18
  go_wp2
  go_ret
  exact ⟨rfl, by rw [HT.out]; exact hset y, (Keeps.refl g w).setCell _ _⟩
set_option maxRecDepth 100000 in
set_option maxHeartbeats 400000 in
theorem flip_out (w : World) (g : Nat) (os : List Int) (cap : Nat) (hlen : os.length ≤ 140737488355000) (k : Int) (hk : k < 0 ∨ 8 * (os.length : Int) ≤ k) :
    Calls Try.prog 18 #[.slice (some ⟨g, 0, none⟩) os.length cap, .int .i64 k] w fun e w' => e = .returned (.bool false) ∧ w' = w := by
  have i0 : (os.length : Int) ≤ 140737488355000 := by omega
  by_cases h : k < 0
  · go_enter Try.func18, Try.ntmps18
    go_wp2
    go_ret
    exact ⟨rfl, rfl⟩
  · have h2 : 8 * (os.length : Int) ≤ k := by omega
    go_enter Try.func18, Try.ntmps18
    go_wp2
    go_ret
    exact ⟨rfl, rfl⟩
/-- A bit turned, if the text has it. -/
def flO (l : List Int) (k : Int) : List Int := if 0 ≤ k ∧ k < 8 * (l.length : Int) then turnB l k.toNat else l
theorem flO_len (l : List Int) (k : Int) : (flO l k).length = l.length := by
  unfold flO; split
  · exact turnB_len _ _
  · rfl
theorem flO_byts {l : List Int} (h : Byts l) (k : Int) : Byts (flO l k) := by
  unfold flO; split
  · exact turnB_byts h _
  · exact h
theorem flip_any (w : World) (g : Nat) (rest : List Value) (os : List Int) (h8 : Byts os) (cap : Nat) (hI : In w g rest os) (hlen : os.length ≤ 140737488355000) (k : Int) :
    Calls Try.prog 18 #[.slice (some ⟨g, 0, none⟩) os.length cap, .int .i64 k] w fun e w' => ∃ b, e = .returned (.bool b) ∧ In w' g rest (flO os k) ∧ Keeps g w w' := by
  by_cases h : 0 ≤ k ∧ k < 8 * (os.length : Int)
  · obtain ⟨m, rfl⟩ := Int.eq_ofNat_of_zero_le h.1
    refine (flip_in w g rest os h8 cap hI hlen m (by omega)).mono ?_
    rintro e w' ⟨rfl, h1, h2⟩
    exact ⟨true, rfl, by unfold flO; rw [if_pos h]; exact h1, h2⟩
  · refine (flip_out w g os cap hlen k (by omega)).mono ?_
    rintro e w' ⟨rfl, rfl⟩
    exact ⟨false, rfl, by unfold flO; rw [if_neg h]; exact hI, Keeps.refl g _⟩
theorem le_sb (s : Nat) (hs : s < 4294967296) : le (sbF s) = s := by simp only [sbF, le]; omega
theorem seal_CR (zs : List Int) (h : Byts zs) : feed ones (sealF zs) = CR := by
  have hs := sumF_lt h
  have h1 := sbF_byts (sumF zs)
  have := (whole_iff zs _ _ _ _ h h1).2 (le_sb _ hs).symm
  exact this
theorem four_of {ys : List Int} (hy : ys.length = 4) : ∃ y0 y1 y2 y3, ys = [y0, y1, y2, y3] := by
  match ys, hy with
  | [y0, y1, y2, y3], _ => exact ⟨y0, y1, y2, y3, rfl⟩
theorem whole_D (xs ys : List Int) (h8 : Byts (xs ++ ys)) (hy : ys.length = 4) : decide (sbF (sumF xs) = ys) = decide (feed ones (xs ++ ys) = CR) := by
  obtain ⟨y0, y1, y2, y3, rfl⟩ := four_of hy
  have hx : Byts xs := fun x hx => h8 x (List.mem_append_left _ hx)
  have hyb : Byts [y0, y1, y2, y3] := fun x hx => h8 x (List.mem_append_right _ hx)
  have hw := whole_iff xs y0 y1 y2 y3 hx hyb
  have hs := sumF_lt hx
  have h0 := hyb y0 (by simp)
  have h1 := hyb y1 (by simp)
  have h2 := hyb y2 (by simp)
  have h3 := hyb y3 (by simp)
  rw [decide_eq_decide, hw]
  constructor
  · intro h; rw [← h, le_sb _ hs]
  · intro h
    rw [h]
    simp only [sbF, le, List.cons.injEq, and_true]
    omega
theorem whole_L (w : World) (L : List Int) (h8 : Byts L) (h4 : 4 ≤ L.length) (sp : Option Addr) (cap : Nat) (hS : Src w sp cap L) :
    Calls Try.prog 16 #[.slice sp L.length cap] w fun e w' => e = .returned (.bool (decide (feed ones L = CR))) ∧ Below w.heap.size w w' := by
  have e := List.take_append_drop (L.length - 4) L
  have hy : (L.drop (L.length - 4)).length = 4 := by rw [List.length_drop]; omega
  have hl : (L.take (L.length - 4)).length + 4 = L.length := by rw [List.length_take]; omega
  have := whole_any w (L.take (L.length - 4)) (L.drop (L.length - 4)) (by rw [e]; exact h8) hy sp cap (by rw [e]; exact hS)
  rw [whole_D _ _ (by rw [e]; exact h8) hy, e, hl] at this
  exact this
end Go.Proofs.Ytbmjegcnfokagaa
