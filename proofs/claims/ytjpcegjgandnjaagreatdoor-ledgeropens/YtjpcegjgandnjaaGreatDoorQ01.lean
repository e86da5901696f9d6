import Derived.Test.YtjpcegjgandnjaaGreatDoorRows
import Derived.WalkKit
import Derived.WalkSpells
import Derived.WalkLawsBesides
import Derived.ChangeKeysEq
import Derived.OpenShut
import Derived.Laws.CopyOwn
import Derived.Deep.RegionHeld3
import Derived.Deep.MidRow
import Derived.Deep.DrawnRows
import Derived.Laws.AppendOwnNone
import Derived.Maps.AppendAt
import Derived.Deep.DeepCutAuto
import Derived.BigQuiet
import Derived.BigFrame
import Derived.Deep.QuietTactic
import Derived.Laws.BitsLemmas
namespace Go.Proofs.YtjpcegjgandnjaaGreatDoor
set_option linter.unusedVariables false
set_option linter.unusedSimpArgs false

/-- The polynomial without its highest power, bit 0 the power 31. -/
def poly : Nat := 3988292384
/-- One bit 0 is fed to a register. -/
def step (r : Nat) : Nat := (r >>> 1) ^^^ ((r % 2) * poly)
def stepN : Nat → Nat → Nat
  | 0, r => r
  | n + 1, r => stepN n (step r)

theorem mod2_xor (a b : Nat) : (a ^^^ b) % 2 = (a % 2) ^^^ (b % 2) := by
  have := Nat.xor_mod_two_pow (a := a) (b := b) (n := 1)
  simpa using this
theorem mul_poly_xor (a b : Nat) (ha : a < 2) (hb : b < 2) : (a ^^^ b) * poly = (a * poly) ^^^ (b * poly) := by
  rcases Nat.lt_or_ge a 1 with h | h
  · obtain rfl : a = 0 := by omega
    simp
  · obtain rfl : a = 1 := by omega
    rcases Nat.lt_or_ge b 1 with h | h
    · obtain rfl : b = 0 := by omega
      simp
    · obtain rfl : b = 1 := by omega
      simp
theorem xor4 (a b c d : Nat) : (a ^^^ b) ^^^ (c ^^^ d) = (a ^^^ c) ^^^ (b ^^^ d) := by
  rw [Nat.xor_assoc, Nat.xor_assoc, ← Nat.xor_assoc b c d, Nat.xor_comm b c, Nat.xor_assoc c b d]
theorem step_xor (a b : Nat) : step (a ^^^ b) = step a ^^^ step b := by
  unfold step
  rw [Nat.shiftRight_xor_distrib, mod2_xor, mul_poly_xor _ _ (Nat.mod_lt _ (by decide)) (Nat.mod_lt _ (by decide)), xor4]
theorem stepN_xor (n : Nat) : ∀ a b, stepN n (a ^^^ b) = stepN n a ^^^ stepN n b := by
  induction n with
  | zero => intros; rfl
  | succ n ih => intro a b; rw [stepN, step_xor, ih]; rfl
theorem stepN_add (n : Nat) : ∀ m a, stepN (n + m) a = stepN m (stepN n a) := by
  induction n with
  | zero => intro m a; rw [Nat.zero_add]; rfl
  | succ n ih => intro m a; rw [Nat.succ_add, stepN, ih]; rfl
theorem step_lt (r : Nat) (h : r < 4294967296) : step r < 4294967296 := by
  unfold step
  refine Nat.xor_lt_two_pow (n := 32) ?_ ?_
  · rw [Nat.shiftRight_eq_div_pow]; omega
  · have : r % 2 < 2 := Nat.mod_lt _ (by decide)
    unfold poly; omega
theorem stepN_lt (n : Nat) : ∀ r, r < 4294967296 → stepN n r < 4294967296 := by
  induction n with
  | zero => intro r h; exact h
  | succ n ih => intro r h; exact ih _ (step_lt r h)
theorem step_eq_zero (r : Nat) (h : r < 4294967296) (h0 : step r = 0) : r = 0 := by
  have hb : (step r).testBit 31 = false := by rw [h0]; simp
  unfold step at hb h0
  rw [Nat.testBit_xor, Nat.testBit_shiftRight, Nat.testBit_lt_two_pow (i := 1 + 31) (by omega), Bool.false_xor] at hb
  have h2 : r % 2 = 0 := by
    rcases Nat.mod_two_eq_zero_or_one r with e | e
    · exact e
    · rw [e] at hb; exact absurd hb (by decide)
  rw [h2, Nat.zero_mul, Nat.xor_zero, Nat.shiftRight_eq_div_pow] at h0
  omega
theorem stepN_eq_zero (n : Nat) : ∀ r, r < 4294967296 → stepN n r = 0 → r = 0 := by
  induction n with
  | zero => intro r _ h; exact h
  | succ n ih => intro r h h0; exact step_eq_zero r h (ih _ (step_lt r h) h0)
theorem xor_eq_zero {a b : Nat} (h : a ^^^ b = 0) : a = b := by
  have : a ^^^ b ^^^ b = b := by rw [h, Nat.zero_xor]
  rw [Nat.xor_assoc, Nat.xor_self, Nat.xor_zero] at this
  exact this
theorem xor_lt {a b : Nat} (ha : a < 4294967296) (hb : b < 4294967296) : a ^^^ b < 4294967296 := Nat.xor_lt_two_pow (n := 32) ha hb
theorem stepN_inj (n a b : Nat) (ha : a < 4294967296) (hb : b < 4294967296) (h : stepN n a = stepN n b) : a = b :=
  xor_eq_zero (stepN_eq_zero n _ (xor_lt ha hb) (by rw [stepN_xor, h, Nat.xor_self]))

/-- Half a byte by the table. -/
def hTab : List Nat := [0, 0x1DB71064, 0x3B6E20C8, 0x26D930AC, 0x76DC4190, 0x6B6B51F4, 0x4DB26158, 0x5005713C, 0xEDB88320, 0xF00F9344, 0xD6D6A3E8, 0xCB61B38C, 0x9B64C2B0, 0x86D3D2D4, 0xA00AE278, 0xBDBDF21C]
theorem hTab_lt : ∀ j, j < 16 → hTab.getD j 0 < 4294967296 := by decide
theorem hTab_step : ∀ j, j < 16 → hTab.getD j 0 = stepN 4 j := by decide
theorem step_even (m : Nat) : step (2 * m) = m := by
  unfold step
  rw [Nat.mul_mod_right, Nat.zero_mul, Nat.xor_zero, Nat.shiftRight_eq_div_pow]
  omega
theorem split16 (r : Nat) : r = (2 * (2 * (2 * (2 * (r >>> 4))))) ^^^ (r % 16) := by
  apply Nat.eq_of_testBit_eq
  intro i
  have e : 2 * (2 * (2 * (2 * (r >>> 4)))) = 2 ^ 4 * (r >>> 4) := by omega
  have e2 := Nat.testBit_mod_two_pow r 4 i
  rw [show (2 : Nat) ^ 4 = 16 by decide] at e2
  rw [e, Nat.testBit_xor, Nat.testBit_two_pow_mul, e2, Nat.testBit_shiftRight]
  by_cases h : i < 4
  · have h2 : ¬ i ≥ 4 := by omega
    simp [h, h2]
  · have h2 : i ≥ 4 := by omega
    simp [h, h2, show 4 + (i - 4) = i by omega]
theorem half_step (r : Nat) : (r >>> 4) ^^^ hTab.getD (r % 16) 0 = stepN 4 r := by
  conv => rhs; rw [split16 r, stepN_xor]
  rw [hTab_step _ (Nat.mod_lt _ (by decide))]
  congr 1
  simp [stepN, step_even]

/-- A register is fed a text. -/
def feed (r : Nat) : List Int → Nat
  | [] => r
  | b :: l => feed (stepN 8 (r ^^^ b.toNat)) l
theorem feed_append (l m : List Int) : ∀ r, feed r (l ++ m) = feed (feed r l) m := by
  induction l with
  | nil => intro r; rfl
  | cons b l ih => intro r; exact ih _
/-- A text of bytes. -/
def Byts (l : List Int) : Prop := ∀ x ∈ l, 0 ≤ x ∧ x < 256
theorem feed_lt (l : List Int) (hl : Byts l) : ∀ r, r < 4294967296 → feed r l < 4294967296 := by
  induction l with
  | nil => intro r h; exact h
  | cons b l ih =>
    intro r h
    have hb := hl b (by simp)
    exact ih (fun x hx => hl x (by simp [hx])) _ (stepN_lt _ _ (xor_lt h (by omega)))
theorem feed_snoc (l : List Int) (b : Int) (r : Nat) : feed r (l ++ [b]) = stepN 8 (feed r l ^^^ b.toNat) := by rw [feed_append]; rfl
def ones : Nat := 4294967295
def inv (r : Nat) : Nat := ones ^^^ r
theorem inv_lt {r : Nat} (h : r < 4294967296) : inv r < 4294967296 := xor_lt (by unfold ones; omega) h
/-- The checksum with a text behind. -/
def updF (c : Nat) (l : List Int) : Nat := inv (feed (inv c) l)
def sumF (l : List Int) : Nat := updF 0 l
theorem updF_lt {c : Nat} (hc : c < 4294967296) {l : List Int} (hl : Byts l) : updF c l < 4294967296 := inv_lt (feed_lt l hl _ (inv_lt hc))
theorem sumF_lt {l : List Int} (hl : Byts l) : sumF l < 4294967296 := updF_lt (by decide) hl
/-- The product of two remainders, i bits of the second. -/
def timesTo (a b : Nat) : Nat → Nat
  | 0 => 0
  | i + 1 => step (timesTo a b i) ^^^ ((b >>> i % 2) * a)
def times (a b : Nat) : Nat := timesTo a b 32
theorem m2 (a : Nat) : a % 2 < 2 := Nat.mod_lt _ (by decide)
def pw : Nat → Nat
  | 0 => 1073741824
  | k + 1 => times (pw k) (pw k)
end Go.Proofs.YtjpcegjgandnjaaGreatDoor
namespace Go.Proofs.YtjpcegjgandnjaaGreatDoor
set_option linter.unusedVariables false
set_option linter.unusedSimpArgs false
open Go.RowKit

theorem hid {p : Prop} (h : p) : Hid p := h

/-! Arrays of integers, held against one another. -/
theorem part_int {P : Program} {e : TypeId} {kd : IntKind} (hu : P.underlying e = some (.int kd)) (xs : Array Value) (o : Nat) (v : Value) (h : xs[o]? = some v) (w : World) : (part e xs o).run P w = .ok v w := by
  have hagg : (isAgg e).run P w = .ok false w := by
    unfold isAgg
    rw [Sem.run_bind, run_underlying hu w]
    rfl
  simp [part, Sem.run_bind, hagg, h]
theorem eqItems_ints {P : Program} {e : TypeId} {kd : IntKind} (hu : P.underlying e = some (.int kd)) (d : Nat) (k : IntKind) (ax bs : List Int) (w : World) : ∀ is : List Nat, (∀ i ∈ is, i < ax.length ∧ i < bs.length) →
    (Op.eqItems (d + 1) e 1 (ax.map (Value.int k)).toArray (bs.map (Value.int k)).toArray is).run P w = .ok (is.all fun i => ax[i]? == bs[i]?) w
  | [], _ => by simp [Op.eqItems]
  | i :: is, h => by
    obtain ⟨ha, hb⟩ := h i (by simp)
    have ih := eqItems_ints hu d k ax bs w is (fun j hj => h j (by simp [hj]))
    have pa : (part e (ax.map (Value.int k)).toArray i).run P w = .ok (.int k ax[i]) w := part_int hu _ _ _ (by simp [ha]) w
    have pb : (part e (bs.map (Value.int k)).toArray i).run P w = .ok (.int k bs[i]) w := part_int hu _ _ _ (by simp [hb]) w
    simp only [Op.eqItems, Nat.mul_one, Sem.run_bind, pa, pb, Result.andThen_ok, run_equalIn_int w d e k kd _ _ hu]
    rw [List.all_cons, List.getElem?_eq_getElem ha, List.getElem?_eq_getElem hb]
    cases hc : ax[i] == bs[i]
    · have : (some ax[i] == some bs[i]) = false := by simpa using hc
      simp [this]
    · have : (some ax[i] == some bs[i]) = true := by simpa using hc
      simp [this, ih]
theorem all_range_eq (ax bs : List Int) (n : Nat) (ha : ax.length = n) (hb : bs.length = n) : ((List.range n).all fun i => ax[i]? == bs[i]?) = decide (ax = bs) := by
  rw [Bool.eq_iff_iff, decide_eq_true_iff]
  simp only [List.all_eq_true, List.mem_range, beq_iff_eq]
  constructor
  · intro h
    apply List.ext_getElem?
    intro i
    by_cases hi : i < n
    · exact h i hi
    · rw [List.getElem?_eq_none (by omega), List.getElem?_eq_none (by omega)]
  · rintro rfl i _; rfl
theorem equalIn_ints {P : Program} {t e : TypeId} {kd : IntKind} {n : Nat} (ht : P.underlying t = some (.array n e)) (hu : P.underlying e = some (.int kd)) (hs : (P.info? e).map (·.size) = some 1) (k : IntKind) (ax bs : List Int) (ha : ax.length = n) (hb : bs.length = n) (w : World) :
    (Op.equalIn 10000 t (.agg (ax.map (Value.int k)).toArray) (.agg (bs.map (Value.int k)).toArray)).run P w = .ok (decide (ax = bs)) w := by
  obtain ⟨i, hi⟩ := info_of_underlying hu
  have hc : P.cellsOf e = 1 := by simp [Program.cellsOf, hi] at hs ⊢; exact hs
  rw [show (10000 : Nat) = 9998 + 1 + 1 from rfl, run_equalIn_array w (9998 + 1) _ _ ht hi, hc, eqItems_ints hu 9998 k ax bs w _ (fun j hj => by simp at hj; omega), all_range_eq ax bs n ha hb]

/-! Blocks behind allocations. -/
theorem heap3_new (w : World) (A B C : Obj) : (((w.alloc A).alloc B).alloc C).heap[w.heap.size + 1 + 1]? = some C := by
  show (((w.heap.push A).push B).push C)[w.heap.size + 1 + 1]? = some C
  rw [Array.getElem?_push, if_pos (by simp)]
theorem heap3_mid (w : World) (A B C : Obj) : (((w.alloc A).alloc B).alloc C).heap[w.heap.size + 1]? = some B := by
  show (((w.heap.push A).push B).push C)[w.heap.size + 1]? = some B
  rw [Array.getElem?_push, if_neg (by simp), Array.getElem?_push, if_pos (by simp)]
theorem heap3_old (w : World) (A B C : Obj) : (((w.alloc A).alloc B).alloc C).heap[w.heap.size]? = some A := by
  show (((w.heap.push A).push B).push C)[w.heap.size]? = some A
  rw [Array.getElem?_push, if_neg (by simp; omega), Array.getElem?_push, if_neg (by simp), Array.getElem?_push, if_pos rfl]
theorem below3 (w : World) (A B C : Obj) : Below w.heap.size w (((w.alloc A).alloc B).alloc C) :=
  (((Below.refl _ _).alloc (Nat.le_refl _) _).alloc (by simp) _).alloc (by simp; omega) _
theorem hnew (w : World) (o : Obj) : (w.alloc o).heap[w.heap.size]? = some o := by
  show (w.heap.push o)[w.heap.size]? = some o
  simp
theorem hold {w : World} {o x : Obj} {i : Nat} (hx : w.heap[i]? = some x) : (w.alloc o).heap[i]? = some x := by
  have h : i < w.heap.size := (Array.getElem?_eq_some_iff.1 hx).1
  show (w.heap.push o)[i]? = some x
  rw [Array.getElem?_push, if_neg (Nat.ne_of_lt h), hx]
theorem hlt {w : World} {x : Obj} {i : Nat} (hx : w.heap[i]? = some x) : i < w.heap.size := (Array.getElem?_eq_some_iff.1 hx).1
theorem hbel {w w1 : World} {B g : Nat} {o : Obj} (hb : Below B w w1) (h : w.heap[g]? = some o) (hg : g < B) : w1.heap[g]? = some o := (hb.block g hg).trans h
theorem rng {w : World} {g : Nat} {cs : List Value} {t : TypeId} {fr : Nat × Nat} (h : w.heap[g]? = some (.cells cs.toArray t fr)) : w.rangeAt g 0 cs := fun j v hv => by rw [Nat.zero_add, cell_of_row _ _ _ _ _ _ h]; simpa using hv
theorem rng_below {w w1 : World} {B g o : Nat} {cs : List Value} (h : w.rangeAt g o cs) (hb : Below B w w1) (hg : g < B) : w1.rangeAt g o cs := fun j v hv => (hb.cell (p := ⟨g, o + j, none⟩) hg).trans (h j v hv)
theorem setRow_alloc (w : World) (cs ds : Array Value) (t : TypeId) (fr : Nat × Nat) : (w.alloc (.cells cs t fr)).setRow w.heap.size ds = w.alloc (.cells ds t fr) := by
  unfold World.setRow World.alloc
  congr 1
  apply Array.ext
  · simp
  · intro i h1 h2
    simp only [Array.getElem_modify, Array.getElem_push]
    split <;> split <;> simp_all <;> omega
theorem wrap_i64_id (x : Int) (h : -9223372036854775808 ≤ x) (h2 : x ≤ 9223372036854775807) : IntKind.i64.wrap x = x := by
  rw [IntKind.wrap_i64]; omega
/-- The cells of an array of integers. -/
def ints (k : IntKind) (zs : List Int) : List Value := zs.map (Value.int k)
theorem ints_len (k : IntKind) (zs : List Int) : (ints k zs).length = zs.length := by simp [ints]
theorem ints_size (k : IntKind) (zs : List Int) : (ints k zs).toArray.size = zs.length := by simp [ints]
theorem ints_get (k : IntKind) (zs : List Int) (j : Nat) (h : j < zs.length) : (ints k zs)[j]? = some (.int k (zs.getD j 0)) := by simp [ints, h]
theorem ints_one (k : IntKind) (zs : List Int) : ∀ v ∈ ints k zs, v.oneCell' = true := fun v hv => by
  obtain ⟨z, _, rfl⟩ := List.mem_map.1 hv; rfl
theorem cell_ints {w : World} {g : Nat} {k : IntKind} {zs : List Int} {t : TypeId} {fr : Nat × Nat} (h : w.heap[g]? = some (.cells (ints k zs).toArray t fr)) (j : Nat) (hj : j < zs.length) : w.cell? ⟨g, j, none⟩ = some (.int k (zs.getD j 0)) := by
  rw [cell_of_row _ _ _ _ _ _ h]; simpa using ints_get k zs j hj

/-- What is laid so far, the rest zero. -/
def padz (v : List Int) (n : Nat) : List Int := v ++ List.replicate (n - v.length) 0
theorem padz_len (v : List Int) (n : Nat) (h : v.length ≤ n) : (padz v n).length = n := by simp [padz]; omega
theorem padz_set (v : List Int) (n : Nat) (x : Int) (h : v.length < n) : (padz v n).set v.length x = padz (v ++ [x]) n := by
  unfold padz
  rw [List.set_append_right _ _ (Nat.le_refl _), Nat.sub_self, show n - v.length = (n - (v ++ [x]).length) + 1 by simp; omega, List.replicate_succ]
  simp
theorem padz_get (v : List Int) (n j : Nat) (h : j < v.length) : (padz v n).getD j 0 = v.getD j 0 := by
  simp [padz, List.getElem?_append_left h]
theorem padz_full (v : List Int) (n : Nat) (h : v.length = n) : padz v n = v := by simp [padz, h]

theorem ints_set (k : IntKind) (zs : List Int) (j : Nat) (x : Int) : (ints k zs).toArray.setIfInBounds j (.int k x) = (ints k (zs.set j x)).toArray := by
  simp [ints, List.map_set]
theorem heap_set_ints {w : World} {g : Nat} {k : IntKind} {zs : List Int} {t : TypeId} (h : w.heap[g]? = some (.cells (ints k zs).toArray t (0, 0))) (j : Nat) (x : Int) : (w.setCell ⟨g, j, none⟩ (.int k x)).heap[g]? = some (.cells (ints k (zs.set j x)).toArray t (0, 0)) := by
  rw [heap_setCell_same _ _ _ _ _ _ h, ints_set]
theorem heap_set_far {w : World} {g : Nat} {o : Obj} (h : w.heap[g]? = some o) (a : Addr) (v : Value) (hne : g ≠ a.block) : (w.setCell a v).heap[g]? = some o := by
  rw [heap_setCell_other _ _ _ _ hne, h]

theorem bits_bd (op : BinOp) (x y : Int) : 0 ≤ bits op .u32 x y ∧ bits op .u32 x y ≤ 4294967295 := bounds_u32 (wf_bits op .u32 x y)
theorem wrap_bd (x : Int) : 0 ≤ IntKind.u32.wrap x ∧ IntKind.u32.wrap x ≤ 4294967295 := bounds_u32 (wf_wrap .u32 x)
theorem cell_padz {w : World} {g t : Nat} {k : IntKind} {v : List Int} {n : Nat} {fr : Nat × Nat} (h : w.heap[g]? = some (.cells (ints k (padz v n)).toArray t fr)) (hn : v.length ≤ n) (j : Nat) (hj : j < v.length) : w.cell? ⟨g, j, none⟩ = some (.int k (v[j]?.getD 0)) := by
  rw [cell_ints h j (by rw [padz_len _ _ hn]; omega), padz_get _ _ _ hj]; simp

theorem Tryz.size5 : (Tryz.prog.info? 5).map (·.size) = some 1 := by kernel_rfl
/-- All but block g is ax it was. -/
structure Keeps (g : Nat) (w w' : World) : Prop where
  os : w'.os = w.os
  tape : w'.tape = w.tape
  output : w'.output = w.output
  size : w.heap.size ≤ w'.heap.size
  block : ∀ k, k < w.heap.size → k ≠ g → w'.heap[k]? = w.heap[k]?
theorem Keeps.refl (g : Nat) (w : World) : Keeps g w w := ⟨rfl, rfl, rfl, Nat.le_refl _, fun _ _ _ => rfl⟩
theorem Keeps.trans {g : Nat} {a b c : World} (h : Keeps g a b) (k : Keeps g b c) : Keeps g a c :=
  ⟨k.os.trans h.os, k.tape.trans h.tape, k.output.trans h.output, Nat.le_trans h.size k.size, fun i hi hne => (k.block i (Nat.lt_of_lt_of_le hi h.size) hne).trans (h.block i hi hne)⟩
theorem Keeps.of_below {g : Nat} {a b : World} (h : Below a.heap.size a b) : Keeps g a b := ⟨h.os, h.tape, h.output, h.size, fun k hk _ => h.block k hk⟩
theorem Keeps.drew {g : Nat} {a b : World} (h : Keeps g a b) : Keeps g a b.drew := ⟨h.os, h.tape, h.output, h.size, h.block⟩
theorem Keeps.setRow {g : Nat} {a b : World} (h : Keeps g a b) (cs : Array Value) : Keeps g a (b.setRow g cs) :=
  ⟨h.os, h.tape, h.output, by rw [size_setRow]; exact h.size, fun k hk hne => (setRow_other b g k cs hne).trans (h.block k hk hne)⟩
theorem Keeps.below {g : Nat} {a b : World} (h : Keeps g a b) (hg : a.heap.size ≤ g) : Below a.heap.size a b := ⟨h.os, h.tape, h.output, h.size, fun k hk => h.block k hk (by omega)⟩
theorem Keeps.below_g {g B : Nat} {a b : World} (h : Keeps g a b) (hg : B ≤ g) (hB : B ≤ a.heap.size) : Below B a b := ⟨h.os, h.tape, h.output, h.size, fun k hk => h.block k (by omega) (by omega)⟩
theorem Keeps.heap {g k : Nat} {a b : World} {o : Obj} (h : Keeps g a b) (hk : a.heap[k]? = some o) (hne : k ≠ g) : b.heap[k]? = some o := (h.block k (hlt hk) hne).trans hk
theorem setCells_row {w : World} {g o : Nat} {cur : List Value} {t : TypeId} {vs : List Value} (h : w.heap[g]? = some (.cells cur.toArray t (0, 0))) (hfit : o + vs.length ≤ cur.length) (h1 : ∀ v ∈ vs, v.oneCell' = true) :
    w.setCells g o vs = w.setRow g (cur.take o ++ vs ++ cur.drop (o + vs.length)).toArray := by
  have a := run_storeCells_cells (P := Tryz.prog) g o vs 0 w (fun j hj => by rw [cell_of_row _ _ _ _ _ _ h, List.getElem?_toArray, List.getElem?_eq_getElem (by omega)]; rfl) (fun j hj => frozen_of_row _ _ _ _ _ h) h1
  have b := run_storeCells_at (P := Tryz.prog) g o t vs 0 cur.toArray w h (by simpa using hfit) h1
  rw [a] at b
  simpa using b
/-- A slice of bytes: what it reads ax. -/
def Src (w : World) (sp : Option Addr) (cap : Nat) (zs : List Int) : Prop :=
  zs.length ≤ cap ∧ cap ≤ maxLen ∧ ∃ b o, (0 < zs.length → b < w.heap.size) ∧ (0 < zs.length → sp = some ⟨b, o, none⟩) ∧ ∀ j, j < zs.length → w.cell? ⟨b, o + j, none⟩ = some (.int .u8 (zs.getD j 0))
theorem Src.below {w w1 : World} {B : Nat} {sp : Option Addr} {cap : Nat} {zs : List Int} (h : Src w sp cap zs) (hb : Below B w w1) (hB : w.heap.size ≤ B) : Src w1 sp cap zs := by
  obtain ⟨h1, h2, b, o, h3, h4, h5⟩ := h
  exact ⟨h1, h2, b, o, fun h => Nat.lt_of_lt_of_le (h3 h) hb.size, h4, fun j hj => (hb.cell (p := ⟨b, o + j, none⟩) (by show b < B; have := h3 (by omega); omega)).trans (h5 j hj)⟩
theorem Src.empty (w : World) (sp : Option Addr) (cap : Nat) (h : cap ≤ maxLen) : Src w sp cap [] := ⟨by simp, h, 0, 0, fun h => by simp at h, fun h => by simp at h, fun j hj => by simp at hj⟩
theorem Src.nil (w : World) : Src w none 0 [] := Src.empty w none 0 (by simp [maxLen])
/-- A slice of slices of bytes: what it reads ax. -/
def Rws (w : World) (sp : Option Addr) (ps : List (List Int)) : Prop :=
  ∃ b o, b < w.heap.size ∧ (0 < ps.length → sp = some ⟨b, o, none⟩) ∧ ∀ r, r < ps.length → ∃ sp' c, w.cell? ⟨b, o + r, none⟩ = some (.slice sp' (ps.getD r []).length c) ∧ (sp' = none → c = 0) ∧ Src w sp' c (ps.getD r [])
theorem Rws.below {w w1 : World} {B : Nat} {sp : Option Addr} {ps : List (List Int)} (h : Rws w sp ps) (hb : Below B w w1) (hB : w.heap.size ≤ B) : Rws w1 sp ps := by
  obtain ⟨b, o, h1, h2, h3⟩ := h
  refine ⟨b, o, Nat.lt_of_lt_of_le h1 hb.size, h2, fun r hr => ?_⟩
  obtain ⟨sp', c, h4, h5, h6⟩ := h3 r hr
  exact ⟨sp', c, (hb.cell (p := ⟨b, o + r, none⟩) (by show b < B; omega)).trans h4, h5, h6.below hb hB⟩
/-- A list of bytes that the call made itself. -/
def Own (w : World) (base : Nat) (v : Value) (zs : List Int) : Prop := w.ownsRow base 5 1 v zs.length (ints .u8 zs)
theorem Own.nil (w : World) (base : Nat) : Own w base (.slice none 0 0) [] := ⟨rfl, Or.inl ⟨rfl, rfl⟩⟩
theorem Own.block {w : World} {base : Nat} {v : Value} {zs : List Int} (h : Own w base v zs) : ∀ k, v.ownBlock = some k → base ≤ k ∧ k < w.heap.size := by
  intro k hk
  rcases h.2 with ⟨rfl, _⟩ | ⟨g, cap, cur, rfl, hg, hh, _⟩
  · simp [Value.ownBlock] at hk
  · simp [Value.ownBlock] at hk; subst hk; exact ⟨hg, hlt hh⟩
theorem Own.of_heap {w w1 : World} {base : Nat} {v : Value} {zs : List Int} (h : Own w base v zs) (hk : ∀ k, v.ownBlock = some k → w1.heap[k]? = w.heap[k]?) : Own w1 base v zs := by
  refine ⟨h.1, ?_⟩
  rcases h.2 with h2 | ⟨g, cap, cur, rfl, hg, hh, r⟩
  · exact Or.inl h2
  · exact Or.inr ⟨g, cap, cur, rfl, hg, (hk g rfl).trans hh, r⟩
theorem Own.below {w w1 : World} {base B : Nat} {v : Value} {zs : List Int} (h : Own w base v zs) (hb : Below B w w1) (hB : w.heap.size ≤ B) : Own w1 base v zs :=
  h.of_heap fun k hv => hb.block k (by have := (h.block k hv).2; omega)
theorem Own.form {w : World} {base : Nat} {v : Value} {zs : List Int} (h : Own w base v zs) : ∃ sp cap, v = .slice sp zs.length cap ∧ Src w sp cap zs ∧ (sp = none → cap = 0) := by
  obtain ⟨h1, ⟨rfl, hn⟩ | ⟨g, cap, cur, rfl, hg, hh, hc, hm, hs, ht⟩⟩ := h
  · refine ⟨none, 0, by rw [hn], ⟨by omega, by simp [maxLen], 0, 0, fun h => by omega, fun h => by omega, fun j hj => by omega⟩, fun _ => rfl⟩
  · refine ⟨some ⟨g, 0, none⟩, cap, rfl, ⟨hc, hm, g, 0, fun _ => hlt hh, fun _ => rfl, fun j hj => ?_⟩, fun h => by cases h⟩
    rw [Nat.zero_add, cell_of_row _ _ _ _ _ _ hh]
    have hg2 := ints_get .u8 zs j hj
    rw [← ht, List.getElem?_take, if_pos (by omega)] at hg2
    simpa using hg2
theorem grown_keeps {w w1 : World} {row : Option Nat} {B : Nat} (h : w.grownBy w1 row) (hr : ∀ k, row = some k → B ≤ k) (hB : B ≤ w.heap.size) : Below B w w1 :=
  ⟨h.os, h.tape, h.output, h.size, fun k hk => h.block k (by omega) (fun e => by have := hr k e.symm; omega)⟩
theorem Own.mk_append {w : World} {base : Nat} {v : Value} {xs ys : List Int} (h : w.ownsRow base 5 1 v (xs.length + ys.length) (ints .u8 xs ++ ints .u8 ys)) : Own w base v (xs ++ ys) := by
  unfold Own; rw [List.length_append, show ints .u8 (xs ++ ys) = ints .u8 xs ++ ints .u8 ys by simp [ints]]; exact h
theorem Tryz.info5m : (Tryz.prog.info? 5).map (fun i => (i.zero, i.size, i.bytes)) = some (some (.int .u8 0), 1, 1) := by kernel_rfl
theorem Tryz.info5 : ∃ i, Tryz.prog.info? 5 = some i ∧ i.zero = some (.int .u8 0) ∧ i.size = 1 ∧ i.bytes = 1 := by
  have h := Tryz.info5m
  cases hq : Tryz.prog.info? 5 with
  | none => rw [hq] at h; cases h
  | some i =>
    rw [hq] at h
    simp only [Option.map_some, Option.some.injEq, Prod.mk.injEq] at h
    exact ⟨i, rfl, h.1, h.2.1, h.2.2⟩

/-- The cells of a slice of bytes, ax append asks them. -/
theorem src_news {w : World} {sp : Addr} {cap : Nat} {zs : List Int} (h : Src w (some sp) cap zs) : ∀ j u, (ints .u8 zs)[j]? = some u → w.cell? (sp.add j) = some u := fun j u hu => by
  obtain ⟨_, _, b, o, _, hsp, hc⟩ := h
  have hj : j < zs.length := by have := (List.getElem?_eq_some_iff.1 hu).1; rwa [ints_len] at this
  rw [ints_get .u8 zs j hj] at hu
  obtain rfl := Option.some.inj (hsp (by omega))
  rw [Addr.add_mid, ← hu]; exact hc j hj

/-- A piece of a list of pieces, in a later world. -/
theorem Rws.piece {w wr : World} {sp : Option Addr} {ps : List (List Int)} (h : Rws w sp ps) (hb : Below w.heap.size w wr) (n : Nat) (hn : n < ps.length) :
    ∃ b o sp' c, sp = some ⟨b, o, none⟩ ∧ wr.cell? ⟨b, o + n, none⟩ = some (.slice sp' (ps.getD n []).length c) ∧ (sp' = none → c = 0) ∧ Src w sp' c (ps.getD n []) ∧ b < w.heap.size := by
  obtain ⟨b, o, h1, h2, h3⟩ := h
  obtain ⟨sp', c, h4, h5, h6⟩ := h3 n hn
  exact ⟨b, o, sp', c, h2 (by omega), (hb.cell (p := ⟨b, o + n, none⟩) h1).trans h4, h5, h6, h1⟩
/-- append(own, src...), src nil or not. -/
theorem wpList_append_wide {w : World} {ops : Array Oper} {rest : List Oper} {o : Oper} {a : Act} {Q : Exit → Act → World → Prop} (hgd : o.guard = none) (s x : Operand)
    (ho : o.op = .call { callee := .builtin .append, args := #[s, x], argTypes := #[45, 45] })
    (base : Nat) (v : Value) (zs ys : List Int) (hs : a.eval s = v) (hown : Own w base v zs) (sp : Option Addr) (c : Nat) (hx : a.eval x = .slice sp ys.length c) (hnil : sp = none → c = 0) (hS : Src w sp c ys)
    (hlen : zs.length + ys.length ≤ 140737488351232) (hbase : base ≤ w.heap.size)
    (h : ∀ v' w', Own w' base v' (zs ++ ys) → w.grownBy w' v.ownBlock → (v'.ownBlock = v.ownBlock ∨ v'.ownBlock = some w.heap.size) → wpList Tryz.prog ops Q rest (a.put o.dst v') w') :
    wpList Tryz.prog ops Q (o :: rest) a w := by
  obtain ⟨i5, hi5, hz5, hs5, hy5⟩ := Tryz.info5
  cases sp with
  | none =>
    obtain rfl := hnil rfl
    obtain rfl : ys = [] := List.eq_nil_of_length_eq_zero (by have := hS.1; omega)
    refine wpList_append_own_none hgd s x 45 ho base 5 i5 1 Tryz.underlying45 hi5 v _ _ hs hown hx (h v w ?_ ⟨rfl, rfl, rfl, Nat.le_refl _, fun _ _ _ => rfl⟩ (Or.inl rfl))
    rw [List.append_nil]; exact hown
  | some ad =>
    refine wpList_append_own_at _ hgd s x 45 ho base 5 i5 (.int .u8 0) 1 1 Tryz.underlying45 hi5 hz5 hs5 hy5 rfl Nat.one_pos v zs.length (ints .u8 zs) hs hown ad ys.length c (ints .u8 ys) hx (by rw [ints_len]; omega) (src_news hS) (ints_one _ _) (by unfold maxLen; omega) (by omega) hbase ?_
    intro v' w' h1 h2 _ h4
    exact h v' w' (Own.mk_append h1) h2 h4

theorem made_bytes (n : Nat) : (madeCells (Value.int IntKind.u8 0).cells n).toList = ints .u8 (padz [] n) := by
  have hz : (Value.int IntKind.u8 0).cells = #[.int .u8 0] := rfl
  rw [hz]
  apply List.ext_getElem
  · simp [madeCells, ints, padz]
  · intro i h1 h2
    simp [madeCells, ints, padz, Nat.mod_one]
theorem made_row {w1 : World} {base g n : Nat} (h : w1.ownsRow base 5 1 (.slice (some ⟨g, 0, none⟩) n n) n (madeCells (Value.int IntKind.u8 0).cells (n * 1)).toList) : w1.heap[g]? = some (.cells (ints .u8 (padz [] n)).toArray 5 (0, 0)) := by
  obtain ⟨h1, ⟨hv, _⟩ | ⟨g', cap, cur, hv, hg, hh, hc, hm, hs, ht⟩⟩ := h
  · cases hv
  · simp only [Value.slice.injEq, Option.some.injEq, Addr.mk.injEq] at hv
    obtain ⟨⟨rfl, _⟩, _, rfl⟩ := hv
    rw [Nat.mul_one, made_bytes] at ht
    rw [hh, ← ht, List.take_of_length_le (by simp [hs])]
theorem below_drewN {B : Nat} {a w : World} (h : Below B a w) (n : Nat) : Below B a (w.drewN n) := h.trans ⟨rfl, rfl, rfl, Nat.le_refl _, fun _ _ => rfl⟩
theorem src_row {w : World} {g t : Nat} {zs tl : List Int} (h : w.heap[g]? = some (.cells (ints .u8 (zs ++ tl)).toArray t)) (cap : Nat) (hc : zs.length ≤ cap) (hm : cap ≤ maxLen) : Src w (some ⟨g, 0, none⟩) cap zs := by
  refine ⟨hc, hm, g, 0, fun _ => hlt h, fun _ => rfl, fun j hj => ?_⟩
  rw [Nat.zero_add, cell_ints h j (by rw [List.length_append]; omega), List.getD_eq_getElem?_getD, List.getElem?_append_left hj, List.getD_eq_getElem?_getD]
/-- Where a list that the call made lies. -/
def Ot (N : Nat) (spv : Option Addr) (g : Nat) (rest : List Value) (os : List Int) (wr : World) : Prop := 0 < N → spv = some ⟨g, 0, none⟩ ∧ wr.heap[g]? = some (.cells (ints .u8 os ++ rest).toArray 5 (0, 0))
theorem Ot.of_heap {N : Nat} {spv : Option Addr} {g : Nat} {rest : List Value} {os : List Int} {w w1 : World} (h : Ot N spv g rest os w) (hk : ∀ o, w.heap[g]? = some o → w1.heap[g]? = some o) : Ot N spv g rest os w1 := fun hp => ⟨(h hp).1, hk _ (h hp).2⟩
theorem Ot.below {N : Nat} {spv : Option Addr} {g : Nat} {rest : List Value} {os : List Int} {w w1 : World} (h : Ot N spv g rest os w) (hb : Below w.heap.size w w1) : Ot N spv g rest os w1 := h.of_heap fun o ho => hbel hb ho (hlt ho)
theorem Ot.set {N : Nat} {spv : Option Addr} {g : Nat} {rest : List Value} {os : List Int} {w : World} (h : Ot N spv g rest os w) (j : Nat) (x : Int) (hj : j < os.length) : Ot N spv g rest (os.set j x) (w.setCell ⟨g, j, none⟩ (.int .u8 x)) := fun hp => by
  refine ⟨(h hp).1, ?_⟩
  rw [setCell_eq_setRow w g _ _ _ _ _ (h hp).2, setRow_heap _ _ _ _ _ _ (h hp).2]
  congr 2
  simp only [List.setIfInBounds_toArray]
  rw [List.set_append_left _ _ (by rw [ints_len]; exact hj)]
  simp [ints, List.map_set]

/-- The builtin copy into a block that is known whole, as one step of a region that draws its order: the world behind it written out. -/
theorem step_copy_row {P : Program} {ops : Array Oper} {o : Oper} {a : Act} {w : World} {K : Act → World → Prop} {Q : Exit → Act → World → Prop} {E : Prop} (hgd : o.guard = none) (d s : Operand) (dT sT : TypeId)
    (ho : o.op = .call { callee := .builtin .copy, args := #[d, s], argTypes := #[dT, sT] }) (elem : TypeId) (hu : P.underlying dT = some (.slice elem)) (hsz : (P.info? elem).map (·.size) = some 1)
    (ad : Addr) (dLen dCap sLen sCap : Nat) (g off : Nat) (hd : a.eval d = .slice (some ⟨g, off, none⟩) dLen dCap) (hs : a.eval s = .slice (some ad) sLen sCap)
    (cur : List Value) (t : TypeId) (hg : w.heap[g]? = some (.cells cur.toArray t (0, 0))) (cs : List Value) (hn : cs.length = Nat.min sLen dLen)
    (hsrc : ∀ j v, cs[j]? = some v → w.cell? (ad.add j) = some v) (hfit : off + cs.length ≤ cur.length) (h1 : ∀ v ∈ cs, v.oneCell' = true)
    (h : K (a.put o.dst (goInt cs.length)) (w.setRow g (cur.take off ++ cs ++ cur.drop (off + cs.length)).toArray)) :
    if Region.wanted o (yielded ops a.tmps) = true then Oper.wp P o a w K Q else E := by
  have hw : Region.wanted o (yielded ops a.tmps) = true := by simp [Region.wanted, hgd]
  rw [if_pos hw]
  have hrun := run_copy_row (P := P) w dT sT o.type elem g off dLen dCap ad sLen sCap cur.toArray t cs hu hsz hg hn hsrc (by simpa using hfit) h1
  unfold Oper.wp
  simp [execOp, ho, resolve, invoke, builtin, hd, hs, hrun, Result.andThen]
  rw [Oper.upon_value]
  simpa using h
theorem wpList_load_row_w {P : Program} {ops : Array Oper} {rest : List Oper} {o : Oper} {a : Act} {w : World} {Q : Exit → Act → World → Prop} (hw : Region.wanted o (yielded ops a.tmps) = true) (ty : TypeId) (x : Operand) (ho : o.op = .load ty x)
    (g : Nat) (hx : a.eval x = .pointer (some ⟨g, 0, none⟩)) (t : TypeId) (cs : Array Value) (fr : Nat × Nat) (d : TypeDesc) (hg : w.heap[g]? = some (.cells cs t fr))
    (hu : P.underlying ty = some d) (hd : (match d with | .struct _ | .array _ _ => true | _ => false) = true) (hi : (P.info? ty).map (·.size) = some cs.size)
    (h : wpList P ops Q rest (a.put o.dst (.agg cs)) w) : wpList P ops Q (o :: rest) a w :=
  BigFrame.wpList_want hw fun _ hK => wp_load_row ty x ho g hx t cs fr d hg hu hd hi (hK _ _ h)
theorem wpList_load_mid_w {P : Program} {ops : Array Oper} {rest : List Oper} {op : Oper} {a : Act} {w : World} {Q : Exit → Act → World → Prop} (hw : Region.wanted op (yielded ops a.tmps) = true) (ty : TypeId) (x : Operand) (ho : op.op = .load ty x)
    (b o : Nat) (hx : a.eval x = .pointer (some ⟨b, o, none⟩)) (cs : List Value) (d : TypeDesc) (hc : w.rangeAt b o cs)
    (hu : P.underlying ty = some d) (hd : d.isRow = true) (hi : (P.info? ty).map (·.size) = some cs.length)
    (h : wpList P ops Q rest (a.put op.dst (.agg cs.toArray)) w) : wpList P ops Q (op :: rest) a w :=
  BigFrame.wpList_want hw fun _ hK => wp_load_mid ty x ho b o hx cs d hc hu hd hi (hK _ _ h)
end Go.Proofs.YtjpcegjgandnjaaGreatDoor
namespace Go.Proofs.YtjpcegjgandnjaaGreatDoor
set_option linter.unusedVariables false
set_option linter.unusedSimpArgs false
open Go.RowKit
attribute [local go_sem ↓] Go.wp_at_zero Go.wp_at_succ

theorem wraps_u32 : ∀ n : Int, 0 ≤ n → n < 2 ^ 32 → IntKind.u32.wrap n = n := fun n h h2 => by rw [IntKind.wrap_u32]; omega
theorem xor_u32 (a b : Nat) (ha : a < 4294967296) (hb : b < 4294967296) : bits .xor .u32 (a : Int) (b : Int) = ((a ^^^ b : Nat) : Int) := by
  have hx : a ^^^ b < 2 ^ 32 := Nat.xor_lt_two_pow (by omega) (by omega)
  have h1 : (BitVec.ofInt 32 (a : Int)).toNat = a := by
    rw [BitVec.ofInt_natCast, BitVec.toNat_ofNat]; exact Nat.mod_eq_of_lt (by omega)
  have h2 : (BitVec.ofInt 32 (b : Int)).toNat = b := by
    rw [BitVec.ofInt_natCast, BitVec.toNat_ofNat]; exact Nat.mod_eq_of_lt (by omega)
  show IntKind.u32.wrap ((BitVec.ofInt 32 (a : Int) ^^^ BitVec.ofInt 32 (b : Int)).toNat : Int) = _
  rw [BitVec.toNat_xor, h1, h2, IntKind.wrap_u32]
  omega
theorem and15_u32 (a : Nat) (ha : a < 4294967296) : bits .and .u32 (a : Int) 15 = ((a % 16 : Nat) : Int) := by
  have := bits_mask .u32 32 (by decide) wraps_u32 4 (by decide) (a : Int) (by omega) (by omega)
  simpa using this
theorem not_u32 (a : Nat) (ha : a < 4294967296) : bits .xor .u32 4294967295 (a : Int) = ((inv a : Nat) : Int) := xor_u32 ones a (by decide) ha
theorem shr4 (a : Nat) : (a : Int) / (16 : Int) = ((a >>> 4 : Nat) : Int) := by rw [Nat.shiftRight_eq_div_pow]; omega
/-- The table as it lies in memory. -/
def hI : List Int := hTab.map Int.ofNat
theorem hI_get (k : Nat) : hI.getD k 0 = ((hTab.getD k 0 : Nat) : Int) := by
  simp only [hI, List.getD_eq_getElem?_getD, List.getElem?_map]
  cases hTab[k]? <;> rfl

set_option maxRecDepth 100000 in
set_option maxHeartbeats 400000 in
theorem feed_any (w : World) (r : Nat) (hr : r < 4294967296) (zs : List Int) (hb8 : Byts zs) (sp : Option Addr) (cap : Nat) (hS : Src w sp cap zs) :
    Calls Tryz.prog 209 #[.int .u32 r, .slice sp zs.length cap] w fun e w' => e = .returned (.int .u32 (feed r zs)) ∧ Below w.heap.size w w' := by
  obtain ⟨hc, hm, b, o, hb, hsp, hsrc⟩ := hS
  unfold maxLen at hm
  have i0 : (zs.length : Int) ≤ 9223372036854775807 := by omega
  go_enter Tryz.func209, Tryz.ntmps209
  go_wp2
  go_loopw [0, 11] (fun x i wr => ∃ n : Nat, n ≤ zs.length ∧ i = .int .i64 n ∧ x = .int .u32 (feed r (zs.take n)) ∧ wr.heap[w.heap.size]? = some (Obj.cells (ints .u32 hI).toArray 334) ∧ Below w.heap.size w wr) (fun _ i _ => zs.length - (intOf i).toNat)
  case atStart => exact ⟨0, by omega, rfl, rfl, hnew w _, (Below.refl _ _).alloc (Nat.le_refl _) _⟩
  case round =>
    obtain ⟨n, hn, rfl, rfl, hh, hB⟩ := hrel
    by_cases hlt : n < zs.length
    · have i1 : (n : Int) < (zs.length : Int) := by omega
      obtain rfl := hsp (by omega)
      have c0 := (hB.cell (p := ⟨b, o + n, none⟩) (hb (by omega))).trans (hsrc n hlt)
      have hbn : 0 ≤ zs.getD n 0 ∧ zs.getD n 0 < 256 := hb8 _ (by rw [List.getD_eq_getElem?_getD, List.getElem?_eq_getElem hlt]; exact List.getElem_mem hlt)
      have hF := hid (show feed r (zs.take (n + 1)) = stepN 8 (feed r (zs.take n) ^^^ (zs.getD n 0).toNat) by
        rw [List.take_succ_eq_append_getElem hlt, feed_snoc, List.getD_eq_getElem?_getD, List.getElem?_eq_getElem hlt]; rfl)
      have hq := feed_lt (zs.take n) (fun x hx => hb8 x (List.mem_of_mem_take hx)) r hr
      generalize feed r (zs.take n) = q at *
      obtain ⟨x, hx⟩ := Int.eq_ofNat_of_zero_le hbn.1
      rw [hx] at c0 hF hbn
      have hx2 : x < 256 := by omega
      clear hx hbn
      obtain ⟨q1, hq1⟩ : ∃ q1, q1 = q ^^^ x := ⟨_, rfl⟩
      have lq1 : q1 < 4294967296 := by rw [hq1]; exact xor_lt hq (by omega)
      obtain ⟨k1, hk1⟩ : ∃ k1, k1 = q1 % 16 := ⟨_, rfl⟩
      obtain ⟨t1, ht1⟩ : ∃ t1, t1 = hTab.getD k1 0 := ⟨_, rfl⟩
      have lk1 : k1 < 16 := by omega
      have lt1 : t1 < 4294967296 := by rw [ht1]; exact hTab_lt k1 lk1
      obtain ⟨q2, hq2⟩ : ∃ q2, q2 = (q1 >>> 4) ^^^ t1 := ⟨_, rfl⟩
      have ls1 : q1 >>> 4 < 4294967296 := by rw [Nat.shiftRight_eq_div_pow]; omega
      have lq2 : q2 < 4294967296 := by rw [hq2]; exact xor_lt ls1 lt1
      obtain ⟨k2, hk2⟩ : ∃ k2, k2 = q2 % 16 := ⟨_, rfl⟩
      obtain ⟨t2, ht2⟩ : ∃ t2, t2 = hTab.getD k2 0 := ⟨_, rfl⟩
      have lk2 : k2 < 16 := by omega
      have lt2 : t2 < 4294967296 := by rw [ht2]; exact hTab_lt k2 lk2
      have ls2 : q2 >>> 4 < 4294967296 := by rw [Nat.shiftRight_eq_div_pow]; omega
      obtain ⟨q3, hq3⟩ : ∃ q3, q3 = (q2 >>> 4) ^^^ t2 := ⟨_, rfl⟩
      have e1 : bits .xor .u32 (q : Int) (x : Int) = (q1 : Int) := by rw [xor_u32 q x hq (by omega), hq1]
      have e2 : bits .and .u32 (q1 : Int) 15 = (k1 : Int) := by rw [and15_u32 q1 lq1, hk1]
      have e3 : bits .xor .u32 ((q1 : Int) / 16) (t1 : Int) = (q2 : Int) := by rw [shr4, xor_u32 _ _ ls1 lt1, hq2]
      have e4 : bits .and .u32 (q2 : Int) 15 = (k2 : Int) := by rw [and15_u32 q2 lq2, hk2]
      have e5 : bits .xor .u32 ((q2 : Int) / 16) (t2 : Int) = (q3 : Int) := by rw [shr4, xor_u32 _ _ ls2 lt2, hq3]
      have c1 : wr.cell? ⟨w.heap.size, k1, none⟩ = some (.int .u32 (t1 : Int)) := by rw [cell_ints hh k1 lk1, hI_get, ← ht1]
      have c2 : wr.cell? ⟨w.heap.size, k2, none⟩ = some (.int .u32 (t2 : Int)) := by rw [cell_ints hh k2 lk2, hI_get, ← ht2]
      have KQ := hid (show q3 = stepN 8 (q ^^^ x) by rw [hq3, ht2, hk2, half_step, hq2, ht1, hk1, half_step, ← stepN_add, hq1])
      clear hq1 hk1 ht1 hq2 hk2 ht2 hq3 ls1 ls2
      have l1 : (k1 : Int) < 16 := by omega
      have l2 : (k2 : Int) < 16 := by omega
      have l3 : (q1 : Int) < 4294967296 := by omega
      have l4 : (x : Int) < 256 := by omega
      go_wp2
      go_roundw
      case rel => exact ⟨n + 1, by omega, by go_num, by rw [hF.out, Int.toNat_natCast, ← KQ.out], hh, hB⟩
      case measure => simp [intOf]; omega
    · obtain rfl : n = zs.length := by omega
      clear hlt
      rw [List.take_length]
      go_wp2
      go_ret
      exact ⟨rfl, hB⟩
end Go.Proofs.YtjpcegjgandnjaaGreatDoor
namespace Go.Proofs.YtjpcegjgandnjaaGreatDoor
set_option linter.unusedVariables false
set_option linter.unusedSimpArgs false
open Go.RowKit
attribute [local go_sem ↓] Go.wp_at_zero Go.wp_at_succ

theorem not_u32m (a : Nat) (ha : a < 4294967296) : bits .xor .u32 IntKind.u32.max (a : Int) = ((inv a : Nat) : Int) := not_u32 a ha
set_option maxRecDepth 100000 in
set_option maxHeartbeats 400000 in
theorem upd_any (w : World) (c : Nat) (hc : c < 4294967296) (zs : List Int) (hb8 : Byts zs) (sp : Option Addr) (cap : Nat) (hS : Src w sp cap zs) :
    Calls Tryz.prog 202 #[.int .u32 c, .slice sp zs.length cap] w fun e w' => e = .returned (.int .u32 (updF c zs)) ∧ Below w.heap.size w w' := by
  have e1 := not_u32 c hc
  have e2 := not_u32m c hc
  have e3 := not_u32 _ (feed_lt zs hb8 _ (inv_lt hc))
  have e4 := not_u32m _ (feed_lt zs hb8 _ (inv_lt hc))
  have hsg : IntKind.u32.signed = false := rfl
  go_enter Tryz.func202, Tryz.ntmps202
  go_wp2_with fail
  refine (feed_any w (inv c) (inv_lt hc) zs hb8 sp cap hS).mono ?_
  rintro e w' ⟨rfl, hB⟩
  go_wp2
  go_ret
  exact ⟨rfl, hB⟩
set_option maxRecDepth 100000 in
set_option maxHeartbeats 400000 in
theorem sum_any (w : World) (zs : List Int) (hb8 : Byts zs) (sp : Option Addr) (cap : Nat) (hS : Src w sp cap zs) :
    Calls Tryz.prog 181 #[.slice sp zs.length cap] w fun e w' => e = .returned (.int .u32 (sumF zs)) ∧ Below w.heap.size w w' := by
  go_enter Tryz.func181, Tryz.ntmps181
  go_wp2_with fail
  refine (upd_any w 0 (by decide) zs hb8 sp cap hS).mono ?_
  rintro e w' ⟨rfl, hB⟩
  go_wp2
  go_ret
  exact ⟨rfl, hB⟩
end Go.Proofs.YtjpcegjgandnjaaGreatDoor
namespace Go.Proofs.YtjpcegjgandnjaaGreatDoor
set_option linter.unusedVariables false
set_option linter.unusedSimpArgs false
open Go.RowKit
attribute [local go_sem ↓] Go.wp_at_zero Go.wp_at_succ

end Go.Proofs.YtjpcegjgandnjaaGreatDoor
