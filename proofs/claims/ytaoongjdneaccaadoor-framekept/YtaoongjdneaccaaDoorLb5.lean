import Derived.Test.YtaoongjdneaccaaDoorLa5
import Derived.Test.YtaoongjdneaccaaDoorCards
import Derived.Test.YtaoongjdneaccaaDoorTie
import Derived.Test.YtaoongjdneaccaaDoorDc5
import Derived.Deep.Matrix
namespace Go.Proofs.YtaoongjdneaccaaDoor
set_option linter.unusedVariables false
set_option linter.unusedSimpArgs false
open Go.ChangeShapes Go.WideShapes Go.ChangeAt Go.RowKit

theorem gD : Tryd.prog.globalNamed "ledger/ledgerref2.divisor" = some 0 := by kernel_rfl
theorem gDt : (Tryd.prog.globals[0]?).map (·.type) = some 87 := by kernel_rfl
theorem cells33 : Tryd.prog.cellsOf 87 = 33 := by kernel_rfl
theorem cellsBytes : Tryd.prog.cellsOf 29 = 1 := by kernel_rfl
theorem tab1 {W : World} (h : laidMetH Tryd.prog [("ledger/ledgerref2.divisor", Rows.laid_ledger_ledgerref2_divisor)] W) : Gl W := by
  have hD : Lib.TabIs Tryd.prog W "ledger/ledgerref2.divisor" .u8 dvI := by
    obtain ⟨ps, ⟨g1, t1, cs1, f1, p1, q1, hg1, ht1, hv1, hd1, _, _⟩, _⟩ := h
    obtain rfl := Option.some.inj (gD.symm.trans hg1)
    obtain rfl := Option.some.inj (gDt.symm.trans ht1)
    unfold Lib.TabIs
    rw [hv1, ← Lib.cells_of_tab (zs := dvI) Tryd.underlying87 Tryd.underlying5 cells5 cells33 hd1]
  have c : ∀ j, j < 33 → W.cell? ⟨0, j, none⟩ = some (.int .u8 (dvI.getD j 0)) := fun j hj => hD.cell gD j hj
  exact ⟨block_lt_of_cell (c 0 (by omega)), c⟩
def putTab (zs : List Int) : Obj → Obj
  | .cells _ t frozen => .cells (ints .u8 zs).toArray t frozen
  | o => o
noncomputable def laidWorld (os : Os) : World :=
  { World.holding Tryd.prog os ⟨#[], #[], []⟩ with heap := (World.holding Tryd.prog os ⟨#[], #[], []⟩).heap.modify 0 (putTab dvI) }
theorem bulk_bound {H : Type} {l : List (DataW H)} (hk : Rows.uptoSmall H l = true) : Rows.uptoBulkAll l ≤ 1048576 := of_decide_eq_true hk
/-- How many letters and values: what the bound gives. -/
theorem bulk_lits {H : Type} (k : IntKind) : ∀ zs : List Int, Rows.uptoBulkAll (lits (H := H) k zs) = zs.length
  | [] => by simp [lits, Rows.uptoBulkAll]
  | z :: zs => by have := bulk_lits (H := H) k zs; simp only [lits, List.map_cons, Rows.uptoBulkAll, Rows.uptoBulk, List.length_cons] at this ⊢; omega
theorem bulk_row {H : Type} (A : Option Addr) (L : Nat) (zs : List Int) (h : A = none → (zs.take L).length = 0) : (zs.take L).length + 1 ≤ Rows.uptoBulk (Deep.intRow (H := H) .u8 A L zs) := by
  cases A with
  | none => have := h rfl; simp only [Deep.intRow, Rows.uptoBulk]; omega
  | some a => simp only [Deep.intRow, Rows.uptoBulk, bulk_lits]; omega
theorem bulk_rows {H : Type} (A : Nat → Option Addr) (L : Nat → Nat) (Z : Nat → List Int) (rs : List Nat) (h : ∀ r ∈ rs, A r = none → ((Z r).take (L r)).length = 0) :
    (rs.map fun r => (Z r).take (L r)).flatten.length + rs.length ≤ Rows.uptoBulkAll (rs.map fun r => Deep.intRow (H := H) .u8 (A r) (L r) (Z r)) := by
  induction rs with
  | nil => simp [Rows.uptoBulkAll]
  | cons r rs ih =>
    have h1 := ih (fun r' hr => h r' (by simp [hr]))
    have h2 := bulk_row (H := H) (A r) (L r) (Z r) (h r (by simp))
    simp only [List.map_cons, List.flatten_cons, List.length_append, List.length_cons, Rows.uptoBulkAll] at h1 ⊢
    omega


theorem open_bytesU {H : Type} {enc : TypeId × Value → H} {W : World} {v : Value} {d : DataW H} {p : List MemPlace} {b0 : Nat}
    (hv : Value.okWide Tryd.prog W .any b0 29 v) (h : DataW.Trod enc Tryd.prog W 0 (fun _ => true) true 29 v d p) :
    ∃ (zs : List Int) (sp : Option Addr) (cap : Nat), v = .slice sp zs.length cap ∧ Byts zs ∧ Src W sp cap zs ∧ (sp = none → cap = 0) ∧ zs.length ≤ Rows.uptoBulk d := by
  obtain ⟨zs, sp, cap, h1, h2, h3, h4, h5⟩ := open_bytesD hv h
  refine ⟨zs, sp, cap, h1, h2, h3, h4, ?_⟩
  rcases h5 with h | ⟨el, spare, rfl, he⟩
  · omega
  · simp only [Rows.uptoBulk]
    have : ∀ l : List (DataW H), l.length ≤ Rows.uptoBulkAll l := by
      intro l
      induction l with
      | nil => simp [Rows.uptoBulkAll]
      | cons x l ih =>
        have : 1 ≤ Rows.uptoBulk x := by
          cases x with
          | lit l => cases l <;> simp [Rows.uptoBulk]
          | _ => simp [Rows.uptoBulk]
        simp only [Rows.uptoBulkAll, List.length_cons]; omega
    have := this el
    omega
/-- A slice of slices of bytes that came in. -/
theorem open_rows {H : Type} {enc : TypeId × Value → H} {W : World} {v : Value} {d : DataW H} {p : List MemPlace} {b0 : Nat} (h0 : 0 < W.heap.size)
    (hv : Value.okWide Tryd.prog W .any b0 25 v) (h : DataW.Trod enc Tryd.prog W 0 (fun _ => true) true 25 v d p) :
    ∃ (ps : List (List Int)) (sp : Option Addr) (cap : Nat), v = .slice sp ps.length cap ∧ ps.length ≤ cap ∧ cap ≤ maxLen ∧ Rws W sp ps ∧ (∀ p ∈ ps, Byts p) ∧ ps.flatten.length + ps.length ≤ Rows.uptoBulk d := by
  obtain ⟨a0, len0, cap0, rfl⟩ := okWide_slice Tryd.underlying25 hv
  obtain ⟨fuel, hf⟩ := h
  rcases Deep.open_int_rows Tryd.underlying25 Tryd.underlying29 Tryd.underlying5 cellsBytes cells5 hf with ⟨hcs, hx⟩ | ⟨a, len, cap, A, L, C, Z, hcs, _, hl, hm, hx, hrow⟩
  · simp [Value.cells] at hcs
    obtain ⟨rfl, rfl, rfl⟩ := hcs
    exact ⟨[], none, 0, rfl, by simp, by simp [maxLen], ⟨0, 0, h0, fun h => by simp at h, fun r hr => by simp at hr⟩, fun p hp => by simp at hp, by simp⟩
  · simp [Value.cells] at hcs
    obtain ⟨rfl, rfl, rfl⟩ := hcs
    have hlen : ((List.range len0).map fun r => (Z r).take (L r)).length = len0 := by simp
    refine ⟨(List.range len0).map fun r => (Z r).take (L r), some a, cap0, by rw [hlen], by rw [hlen]; exact hl, hm, ?_, ?_, ?_⟩
    · by_cases hz : 0 < len0
      · obtain ⟨c0, _⟩ := hrow 0 (by omega)
        have hsp : a.spot = none := by have := World.cell?_spot c0; unfold Addr.add at this; split at this <;> simp_all
        obtain ⟨b, o, spot⟩ := a
        obtain rfl : spot = none := hsp
        have hblk : b < W.heap.size := by have := block_lt_of_cell c0; rwa [Addr.add_mid] at this
        refine ⟨b, o, hblk, fun _ => rfl, fun r hr => ?_⟩
        rw [hlen] at hr
        obtain ⟨c1, c2, c3, c4, c5, c6, c7⟩ := hrow r (by omega)
        rw [Addr.add_mid] at c1
        have hg : ((List.range len0).map fun r => (Z r).take (L r)).getD r [] = (Z r).take (L r) := by simp [hr]
        have hll : ((Z r).take (L r)).length = L r := by rw [List.length_take]; omega
        rw [hg, hll]
        refine ⟨A r, C r, c1, c6, by rw [hll]; exact c2, c3, ?_⟩
        rw [hll]
        by_cases hL : 0 < L r
        · cases hA : A r with
          | none => have := c6 hA; omega
          | some a' =>
            obtain ⟨_, hcell⟩ := c7 a' hA
            have hc0 := hcell 0 (by omega)
            have hsp' : a'.spot = none := by have := World.cell?_spot hc0; unfold Addr.add at this; split at this <;> simp_all
            obtain ⟨b', o', spot'⟩ := a'
            obtain rfl : spot' = none := hsp'
            refine ⟨b', o', fun _ => by have := block_lt_of_cell hc0; rwa [Addr.add_mid] at this, fun _ => rfl, fun j hj => ?_⟩
            have := hcell j (by omega)
            rw [Addr.add_mid] at this
            rw [this]
            congr 2
            simp [List.getElem?_take, hj]
        · exact ⟨0, 0, fun h => by omega, fun h => by omega, fun j hj => by omega⟩
      · exact ⟨0, 0, h0, fun h => by rw [hlen] at h; omega, fun r hr => by rw [hlen] at hr; omega⟩
    · intro p hp
      obtain ⟨r, hr, rfl⟩ := List.mem_map.1 hp
      obtain ⟨_, _, _, _, c5, _, _⟩ := hrow r (by simp at hr; omega)
      intro x hx
      have := bounds_u8 (c5 x (List.mem_of_mem_take hx))
      omega
    · simp only [Prod.mk.injEq] at hx
      rw [hx.1]
      have hb := bulk_rows (H := H) A L Z (List.range len0) (fun r hr hA => by
        obtain ⟨_, c2, _, c4, _, c6, _⟩ := hrow r (by simp at hr; omega)
        rw [List.length_take]; have := c6 hA; omega)
      simp only [Rows.uptoBulk, hlen, List.length_range] at hb ⊢
      omega
end Go.Proofs.YtaoongjdneaccaaDoor
