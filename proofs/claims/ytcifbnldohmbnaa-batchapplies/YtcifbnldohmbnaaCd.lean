import Derived.Test.YtcifbnldohmbnaaCc
import Derived.Lib.BytesEntry
namespace Go.Proofs.Ytcifbnldohmbnaa
set_option linter.unusedVariables false
set_option linter.unusedSimpArgs false
open Go.RowKit
attribute [local go_sem ↓] Go.wp_at_zero Go.wp_at_succ

theorem cmpK_at : ∀ (i : Nat) (z y : List Int), i < z.length → i < y.length → (∀ j, j < i → z.getD j 0 = y.getD j 0) → z.getD i 0 ≠ y.getD i 0 → cmpK z y = if z.getD i 0 < y.getD i 0 then -1 else 1
  | _, [], _, h, _, _, _ => by simp at h
  | _, _ :: _, [], _, h, _, _ => by simp at h
  | 0, a :: z, b :: y, _, _, _, h => by
    simp at h ⊢
    simp only [cmpK]
    by_cases h1 : a < b
    · simp [h1]
    · rw [if_neg h1, if_neg h1, if_pos (by omega)]
  | i + 1, a :: z, b :: y, h1, h2, h, hne => by
    have h0 := h 0 (by omega)
    simp at h0 h1 h2
    subst h0
    have := cmpK_at i z y h1 h2 (fun j hj => by have := h (j + 1) (by omega); simpa using this) (by simpa using hne)
    simp only [cmpK, Int.lt_irrefl, if_false, this]
    simp
theorem cmpK_all {z y : List Int} (hl : z.length = y.length) (h : ∀ j, j < z.length → z.getD j 0 = y.getD j 0) : z = y := by
  apply List.ext_getElem hl
  intro i h1 h2
  have := h i h1
  simpa [List.getD_eq_getElem?_getD, List.getElem?_eq_getElem h1, List.getElem?_eq_getElem h2] using this
def mkB (zs : List Int) : ByteArray := ⟨(Lib.bytesOf zs).toArray⟩
theorem mkB_get (zs : List Int) (i : Nat) (hi : i < zs.length) : (mkB zs)[i]! = (zs.getD i 0).toNat.toUInt8 := by
  have h : i < (mkB zs).size := by simp [mkB, Lib.bytesOf, ByteArray.size]; exact hi
  rw [getElem!_pos (mkB zs) i h]
  simp [mkB, Lib.bytesOf, ByteArray.getElem_eq_getElem_data, hi]
theorem u8_lt {x y : Int} (hx : 0 ≤ x ∧ x < 256) (hy : 0 ≤ y ∧ y < 256) : (x.toNat.toUInt8 < y.toNat.toUInt8) ↔ x < y := by
  rw [UInt8.lt_iff_toNat_lt]; simp; omega
theorem u8_ne {x y : Int} (hx : 0 ≤ x ∧ x < 256) (hy : 0 ≤ y ∧ y < 256) : (x.toNat.toUInt8 = y.toNat.toUInt8) ↔ x = y := by
  constructor
  · intro h
    have := congrArg UInt8.toNat h
    simp at this; omega
  · rintro rfl; rfl
theorem cmp_mkB (z y : List Int) (hz : Byts z) (hy : Byts y) (hl : z.length = y.length) : Extern.BytealgCompare.cmp (mkB z) (mkB y) = cmpK z y := by
  have s1 : (mkB z).size = z.length := by simp [mkB, Lib.bytesOf, ByteArray.size]
  have s2 : (mkB y).size = y.length := by simp [mkB, Lib.bytesOf, ByteArray.size]
  unfold Extern.BytealgCompare.cmp
  rw [s1, s2, ← hl, Nat.min_self]
  cases hf : (List.range z.length).find? (fun i => (mkB z)[i]! != (mkB y)[i]!) with
  | none =>
    have e : z = y := cmpK_all hl fun j hj => by
      have := List.find?_eq_none.1 hf j (List.mem_range.2 hj)
      simp only [bne_iff_ne, ne_eq, Decidable.not_not] at this
      rw [mkB_get z j hj, mkB_get y j (by omega)] at this
      exact (u8_ne (hz.get j) (hy.get j)).1 this
    subst e
    simp [cmpK_self]
  | some i =>
    obtain ⟨h1, h2, h3⟩ := List.find?_range_eq_some.1 hf
    have hi := List.mem_range.1 h2
    simp only [bne_iff_ne, ne_eq] at h1
    rw [mkB_get z i hi, mkB_get y i (by omega)] at h1
    have hne : z.getD i 0 ≠ y.getD i 0 := fun e => h1 (by rw [e])
    rw [cmpK_at i z y hi (by omega) (fun j hj => by
      have := h3 j hj
      simp only [Bool.not_eq_true', bne_eq_false_iff_eq] at this
      rw [mkB_get z j (by omega), mkB_get y j (by omega)] at this
      exact (u8_ne (hz.get j) (hy.get j)).1 this) hne]
    simp only [mkB_get z i hi, mkB_get y i (show i < y.length by omega)]
    by_cases h : z.getD i 0 < y.getD i 0
    · rw [if_pos h, if_pos ((u8_lt (hz.get i) (hy.get i)).2 h)]
    · rw [if_neg h, if_neg (fun h' => h ((u8_lt (hz.get i) (hy.get i)).1 h'))]
theorem cmp_ext (args : Array Value) (w : World) : (callFunc 56 args).run Try.prog w = ((Extern.BytealgCompare.compare args).run Try.prog w).andThen fun v w' => .ok (.value v) w' :=
  run_callFunc_extern Try.func56 (by kernel_rfl) (by kernel_rfl) (by kernel_rfl) (by kernel_rfl) args w
theorem cmp_run (w : World) (z y : List Int) (hz : Byts z) (hy : Byts y) (hl : z.length = y.length) (a b : Nat) (o p c d : Nat)
    (ha : ∀ j, j < z.length → w.cell? ⟨a, o + j, none⟩ = some (.int .u8 (z.getD j 0))) (hb : ∀ j, j < y.length → w.cell? ⟨b, p + j, none⟩ = some (.int .u8 (y.getD j 0))) :
    (callFunc 56 #[.slice (some ⟨a, o, none⟩) z.length c, .slice (some ⟨b, p, none⟩) y.length d]).run Try.prog w = .ok (.value (.int .i64 (cmpK z y))) w := by
  have go : ∀ (zs : List Int) (a o c : Nat), (∀ j, j < zs.length → w.cell? ⟨a, o + j, none⟩ = some (.int .u8 (zs.getD j 0))) → (Extern.Bytes.bytesOf (.slice (some ⟨a, o, none⟩) zs.length c)).run Try.prog w = .ok (mkB zs) w := by
    intro zs a o c h
    have := Lib.run_loadBytesX (P := Try.prog) w zs ⟨a, o, none⟩ .empty (fun j x hj => by
      have hjl : j < zs.length := (List.getElem?_eq_some_iff.1 hj).1
      rw [Addr.add_mid, h j hjl, List.getD_eq_getElem?_getD, hj]; rfl)
    simp only [Extern.Bytes.bytesOf]
    rw [this]
    congr 1
    apply ByteArray.ext
    show (#[] : Array UInt8) ++ (Lib.bytesOf zs).toArray = (Lib.bytesOf zs).toArray
    simp
  rw [cmp_ext]
  change ((Sem.run Try.prog (do pure (goInt (Extern.BytealgCompare.cmp (← Extern.Bytes.bytesOf (.slice (some ⟨a, o, none⟩) z.length c)) (← Extern.Bytes.bytesOf (.slice (some ⟨b, p, none⟩) y.length d))))) w).andThen _) = _
  simp only [Sem.run_bind, go z a o c ha, go y b p d hb, Result.andThen, Sem.run_pure, cmp_mkB z y hz hy hl, goInt]
set_option maxRecDepth 100000 in
set_option maxHeartbeats 400000 in
theorem yCompare_any (w : World) (z y : List Int) (hz : Byts z) (hy : Byts y) (hl : z.length = y.length) (a b : Nat) (o p c d : Nat)
    (ha : ∀ j, j < z.length → w.cell? ⟨a, o + j, none⟩ = some (.int .u8 (z.getD j 0))) (hb : ∀ j, j < y.length → w.cell? ⟨b, p + j, none⟩ = some (.int .u8 (y.getD j 0))) :
    Calls Try.prog 36 #[.slice (some ⟨a, o, none⟩) z.length c, .slice (some ⟨b, p, none⟩) y.length d] w fun e w' => e = .returned (.int .i64 (cmpK z y)) ∧ w' = w := by
  have hr := cmp_run w z y hz hy hl a b o p c d ha hb
  generalize cmpK z y = r at *
  clear ha hb hz hy
  rw [hl] at hr ⊢
  clear hl
  generalize y.length = n at *
  go_enter Try.func36, Try.ntmps36
  go_wp2
  go_ret
  exact ⟨rfl, rfl⟩
/-- The cells of a key that was boxed. -/
theorem box_cells {w : World} {g t : Nat} {k : List Int} {fr : Nat × Nat} (h : w.heap[g]? = some (.cells (ints .u8 k).toArray t fr)) : ∀ j, j < k.length → w.cell? ⟨g, 0 + j, none⟩ = some (.int .u8 (k.getD j 0)) := fun j hj => by
  rw [Nat.zero_add]; exact cell_ints h j hj
set_option maxRecDepth 100000 in
set_option maxHeartbeats 400000 in
theorem Compare_ex (w : World) (z y : List Int) (hz : Byts z) (hy : Byts y) (lz : z.length = 32) (ly : y.length = 32) :
    Calls Try.prog 12 #[.agg (ints .u8 z).toArray, .agg (ints .u8 y).toArray] w fun e w' => e = .returned (.int .i64 (cmpK z y)) ∧ ∃ q, w' = (((w.alloc (.cells (ints .u8 z).toArray 24)).alloc (.cells (ints .u8 y).toArray 24))).drewN q := by
  have hc : ∀ q : Nat, Calls Try.prog 36 #[.slice (some ⟨w.heap.size, 0, none⟩) 32 32, .slice (some ⟨w.heap.size + 1, 0, none⟩) 32 32] ((((w.alloc (.cells (ints .u8 z).toArray 24)).alloc (.cells (ints .u8 y).toArray 24))).drewN q) fun e w' => e = .returned (.int .i64 (cmpK z y)) ∧ w' = (((w.alloc (.cells (ints .u8 z).toArray 24)).alloc (.cells (ints .u8 y).toArray 24))).drewN q := by
    intro q
    have := yCompare_any ((((w.alloc (.cells (ints .u8 z).toArray 24)).alloc (.cells (ints .u8 y).toArray 24))).drewN q) z y hz hy (by omega) w.heap.size (w.heap.size + 1) 0 0 32 32 (box_cells (t := 24) (fr := (0, 0)) (hold (hnew w _))) (box_cells (t := 24) (fr := (0, 0)) (by have := hnew (w.alloc (.cells (ints .u8 z).toArray 24)) (.cells (ints .u8 y).toArray 24); simpa using this))
    rw [lz, ly] at this
    exact this
  have KC := hid hc
  clear hc
  generalize cmpK z y = r at *
  generalize (ints .u8 z).toArray = Z at *
  generalize (ints .u8 y).toArray = Y at *
  go_enter Try.func12, Try.ntmps12
  go_wp2
  go_quiet (first | (go_at_call 36; refine Calls.quiet_of_same (KC.out _)))
  go_wp2
  go_ret
  exact ⟨rfl, _, rfl⟩
theorem Compare_any (w : World) (z y : List Int) (hz : Byts z) (hy : Byts y) (lz : z.length = 32) (ly : y.length = 32) :
    Calls Try.prog 12 #[.agg (ints .u8 z).toArray, .agg (ints .u8 y).toArray] w fun e w' => e = .returned (.int .i64 (cmpK z y)) ∧ Below w.heap.size w w' :=
  (Compare_ex w z y hz hy lz ly).mono fun e w' ⟨he, q, hq⟩ => ⟨he, by rw [hq]; exact below_drewN ((((Below.refl _ _).alloc (Nat.le_refl _) _)).alloc (by simp) _) q⟩
end Go.Proofs.Ytcifbnldohmbnaa
