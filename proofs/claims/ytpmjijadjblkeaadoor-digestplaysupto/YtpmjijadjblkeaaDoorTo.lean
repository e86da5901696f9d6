import Derived.Test.YtpmjijadjblkeaaDoorTn
import Derived.Test.YtpmjijadjblkeaaDoorCards
import Derived.Test.YtpmjijadjblkeaaDoorTie
import Derived.ProofKit
import Derived.OpenShut
import Derived.Deep.DeepHandedRow
import Derived.Lib.LaidTab
namespace Go.Proofs.YtpmjijadjblkeaaDoor
set_option linter.unusedVariables false
set_option linter.unusedSimpArgs false
open Go.ChangeShapes Go.WideShapes Go.ChangeAt Go.RowKit

theorem Tryd.own : ownKnob Tryd.prog.godebug = none := by kernel_rfl
theorem Tryd.laidOut : laidOutB Tryd.prog = true := by kernel_rfl
theorem gF : Tryd.prog.globalNamed "ledger/digest.firstState" = some 0 := by kernel_rfl
theorem gK : Tryd.prog.globalNamed "ledger/digest.roundConstants" = some 3 := by kernel_rfl
theorem gFt : (Tryd.prog.globals[0]?).map (·.type) = some 51 := by kernel_rfl
theorem gKt : (Tryd.prog.globals[3]?).map (·.type) = some 58 := by kernel_rfl
theorem cells51 : Tryd.prog.cellsOf 51 = 8 := by kernel_rfl
theorem cells58 : Tryd.prog.cellsOf 58 = 64 := by kernel_rfl
theorem cells50 : Tryd.prog.cellsOf 50 = 1 := by kernel_rfl

theorem glob_of {W : World} (hF : Lib.TabIs Tryd.prog W "ledger/digest.firstState" .u32 fTab) (hK : Lib.TabIs Tryd.prog W "ledger/digest.roundConstants" .u32 kTab) : Glob W := by
  have cK : ∀ j, j < 64 → W.cell? ⟨3, j, none⟩ = some (.int .u32 (kTab.getD j 0)) := fun j hj => hK.cell gK j hj
  have cF : ∀ j, j < 8 → W.cell? ⟨0, j, none⟩ = some (.int .u32 (fTab.getD j 0)) := fun j hj => hF.cell gF j hj
  refine ⟨block_lt_of_cell (cK 0 (by omega)), fun j v hv => ?_, fun j v hv => ?_⟩
  · have hj : j < kTab.length := by have := (List.getElem?_eq_some_iff.1 hv).1; rwa [ints_len] at this
    rw [ints_get .u32 kTab j hj] at hv
    rw [Nat.zero_add, ← hv]; exact cK j hj
  · have hj : j < fTab.length := by have := (List.getElem?_eq_some_iff.1 hv).1; rwa [ints_len] at this
    rw [ints_get .u32 fTab j hj] at hv
    rw [Nat.zero_add, ← hv]; exact cF j hj
theorem tab2 {W : World} (h : laidMetH Tryd.prog Rows.digestNamesRow.laid W) : Glob W := by
  have hF : Lib.TabIs Tryd.prog W "ledger/digest.firstState" .u32 fTab := Lib.tabIs_of_head (rest := [("ledger/digest.roundConstants", Rows.laid_ledger_digest_roundConstants)]) gF gFt Tryd.underlying51 Tryd.underlying50 cells50 cells51 h
  refine glob_of hF ?_
  obtain ⟨ps, ⟨g1, t1, cs1, f1, p1, q1, _, _, _, _, ⟨g2, t2, cs2, f2, p2, q2, hg2, ht2, hv2, hd2, _, _⟩, _⟩, _⟩ := h
  obtain rfl := Option.some.inj (gK.symm.trans hg2)
  obtain rfl := Option.some.inj (gKt.symm.trans ht2)
  unfold Lib.TabIs
  rw [hv2, ← Lib.cells_of_tab (zs := kTab) Tryd.underlying58 Tryd.underlying50 cells50 cells58 hd2]
end Go.Proofs.YtpmjijadjblkeaaDoor
