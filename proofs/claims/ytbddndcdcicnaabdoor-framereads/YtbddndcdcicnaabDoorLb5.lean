import Derived.Test.YtbddndcdcicnaabDoorLa5
import Derived.Test.YtbddndcdcicnaabDoorCards
import Derived.Test.YtbddndcdcicnaabDoorTie
import Derived.Test.YtbddndcdcicnaabDoorDc5
import Derived.Deep.Matrix
namespace Go.Proofs.YtbddndcdcicnaabDoor
set_option linter.unusedVariables false
set_option linter.unusedSimpArgs false
open Go.ChangeShapes Go.WideShapes Go.ChangeAt Go.RowKit

theorem gD : Tryd.prog.globalNamed "ledger/ledgerref2.divisor" = some 0 := by kernel_rfl
theorem gDt : (Tryd.prog.globals[0]?).map (·.type) = some 76 := by kernel_rfl
theorem cells33 : Tryd.prog.cellsOf 76 = 33 := by kernel_rfl
theorem cellsBytes : Tryd.prog.cellsOf 24 = 1 := by kernel_rfl
theorem tab1 {W : World} (h : laidMetH Tryd.prog [("ledger/ledgerref2.divisor", Rows.laid_ledger_ledgerref2_divisor)] W) : Gl W := by
  have hD : Lib.TabIs Tryd.prog W "ledger/ledgerref2.divisor" .u8 dvI := by
    obtain ⟨ps, ⟨g1, t1, cs1, f1, p1, q1, hg1, ht1, hv1, hd1, _, _⟩, _⟩ := h
    obtain rfl := Option.some.inj (gD.symm.trans hg1)
    obtain rfl := Option.some.inj (gDt.symm.trans ht1)
    unfold Lib.TabIs
    rw [hv1, ← Lib.cells_of_tab (zs := dvI) Tryd.underlying76 Tryd.underlying5 cells5 cells33 hd1]
  have c : ∀ j, j < 33 → W.cell? ⟨0, j, none⟩ = some (.int .u8 (dvI.getD j 0)) := fun j hj => hD.cell gD j hj
  exact ⟨block_lt_of_cell (c 0 (by omega)), c⟩
def putTab (zs : List Int) : Obj → Obj
  | .cells _ t frozen => .cells (ints .u8 zs).toArray t frozen
  | o => o
noncomputable def laidWorld (os : Os) : World :=
  { World.holding Tryd.prog os ⟨#[], #[], []⟩ with heap := (World.holding Tryd.prog os ⟨#[], #[], []⟩).heap.modify 0 (putTab dvI) }
theorem bulk_bound {H : Type} {l : List (DataW H)} (hk : Rows.uptoSmall H l = true) : Rows.uptoBulkAll l ≤ 1048576 := of_decide_eq_true hk
/-- How many letters and values: what the bound gives. -/
theorem bulk_lits {H : Type} (k : IntKind) : ∀ zs : List Int, Rows.uptoBulkAll (lits (H := H) k zs) = zs.length
  | [] => by simp [lits, Rows.uptoBulkAll]
  | z :: zs => by have := bulk_lits (H := H) k zs; simp only [lits, List.map_cons, Rows.uptoBulkAll, Rows.uptoBulk, List.length_cons] at this ⊢; omega
theorem bulk_row {H : Type} (A : Option Addr) (L : Nat) (zs : List Int) (h : A = none → (zs.take L).length = 0) : (zs.take L).length + 1 ≤ Rows.uptoBulk (Deep.intRow (H := H) .u8 A L zs) := by
  cases A with
  | none => have := h rfl; simp only [Deep.intRow, Rows.uptoBulk]; omega
  | some a => simp only [Deep.intRow, Rows.uptoBulk, bulk_lits]; omega
theorem bulk_rows {H : Type} (A : Nat → Option Addr) (L : Nat → Nat) (Z : Nat → List Int) (rs : List Nat) (h : ∀ r ∈ rs, A r = none → ((Z r).take (L r)).length = 0) :
    (rs.map fun r => (Z r).take (L r)).flatten.length + rs.length ≤ Rows.uptoBulkAll (rs.map fun r => Deep.intRow (H := H) .u8 (A r) (L r) (Z r)) := by
  induction rs with
  | nil => simp [Rows.uptoBulkAll]
  | cons r rs ih =>
    have h1 := ih (fun r' hr => h r' (by simp [hr]))
    have h2 := bulk_row (H := H) (A r) (L r) (Z r) (h r (by simp))
    simp only [List.map_cons, List.flatten_cons, List.length_append, List.length_cons, Rows.uptoBulkAll] at h1 ⊢
    omega


theorem open_bytesU {H : Type} {enc : TypeId × Value → H} {W : World} {v : Value} {d : DataW H} {p : List MemPlace} {b0 : Nat}
    (hv : Value.okWide Tryd.prog W .any b0 24 v) (h : DataW.Trod enc Tryd.prog W 0 (fun _ => true) true 24 v d p) :
    ∃ (zs : List Int) (sp : Option Addr) (cap : Nat), v = .slice sp zs.length cap ∧ Byts zs ∧ Src W sp cap zs ∧ (sp = none → cap = 0) ∧ zs.length ≤ Rows.uptoBulk d := by
  obtain ⟨zs, sp, cap, h1, h2, h3, h4, h5⟩ := open_bytesD hv h
  refine ⟨zs, sp, cap, h1, h2, h3, h4, ?_⟩
  rcases h5 with h | ⟨el, spare, rfl, he⟩
  · omega
  · simp only [Rows.uptoBulk]
    have : ∀ l : List (DataW H), l.length ≤ Rows.uptoBulkAll l := by
      intro l
      induction l with
      | nil => simp [Rows.uptoBulkAll]
      | cons x l ih =>
        have : 1 ≤ Rows.uptoBulk x := by
          cases x with
          | lit l => cases l <;> simp [Rows.uptoBulk]
          | _ => simp [Rows.uptoBulk]
        simp only [Rows.uptoBulkAll, List.length_cons]; omega
    have := this el
    omega
end Go.Proofs.YtbddndcdcicnaabDoor
