import Derived.Test.YtblcpcfonnaiiaaDoorClQ
import Derived.Test.YtblcpcfonnaiiaaDoorCards
import Derived.Test.YtblcpcfonnaiiaaDoorTie
import Derived.ProofKit
import Derived.OpenShut
import Derived.SizedLaws
import Derived.Deep.DeepHandedRow
import Derived.Deep.Slices
import Derived.Lib.LaidTab
namespace Go.Proofs.YtblcpcfonnaiiaaDoor
set_option linter.unusedVariables false
set_option linter.unusedSimpArgs false
open Go.ChangeShapes Go.WideShapes Go.ChangeAt Go.RowKit

theorem own_knob : ownKnob Tryd.prog.godebug = none := by kernel_rfl
theorem Tryd.laidOut : laidOutB Tryd.prog = true := by kernel_rfl
theorem cells5 : Tryd.prog.cellsOf 5 = 1 := by kernel_rfl
theorem Tryd.bytes5 : Tryd.prog.bytesOf 5 = 1 := by kernel_rfl
theorem cellsD : Tryd.prog.cellsOf 29 = 32 := by kernel_rfl
theorem cellsK : Tryd.prog.cellsOf 31 = 32 := by kernel_rfl
theorem gF : Tryd.prog.globalNamed "ledger/digest.firstState" = some 0 := by kernel_rfl
theorem gK : Tryd.prog.globalNamed "ledger/digest.roundConstants" = some 3 := by kernel_rfl
theorem gFt : (Tryd.prog.globals[0]?).map (·.type) = some 73 := by kernel_rfl
theorem gKt : (Tryd.prog.globals[3]?).map (·.type) = some 85 := by kernel_rfl
theorem cellsA8 : Tryd.prog.cellsOf 73 = 8 := by kernel_rfl
theorem cellsA64 : Tryd.prog.cellsOf 85 = 64 := by kernel_rfl
theorem cellsU : Tryd.prog.cellsOf 72 = 1 := by kernel_rfl
theorem glob_of {W : World} (hF : Lib.TabIs Tryd.prog W "ledger/digest.firstState" .u32 fTab) (hK : Lib.TabIs Tryd.prog W "ledger/digest.roundConstants" .u32 kTab) : Glob W := by
  have cK : ∀ j, j < 64 → W.cell? ⟨3, j, none⟩ = some (.int .u32 (kTab.getD j 0)) := fun j hj => hK.cell gK j hj
  have cF : ∀ j, j < 8 → W.cell? ⟨0, j, none⟩ = some (.int .u32 (fTab.getD j 0)) := fun j hj => hF.cell gF j hj
  refine ⟨by have h1 := block_lt_of_cell (cK 0 (by omega)); have h2 := block_lt_of_cell (cF 0 (by omega)); simp only at h1 h2; omega, fun j v hv => ?_, fun j v hv => ?_⟩
  · have hj : j < kTab.length := by have := (List.getElem?_eq_some_iff.1 hv).1; rwa [ints_len] at this
    rw [ints_get .u32 kTab j hj] at hv
    rw [Nat.zero_add, ← hv]; exact cK j hj
  · have hj : j < fTab.length := by have := (List.getElem?_eq_some_iff.1 hv).1; rwa [ints_len] at this
    rw [ints_get .u32 fTab j hj] at hv
    rw [Nat.zero_add, ← hv]; exact cF j hj
theorem gRF : Tryd.prog.globalNamed "ledger/ledgerref1.first" = some 1 := by kernel_rfl
theorem gRK : Tryd.prog.globalNamed "ledger/ledgerref1.consts" = some 2 := by kernel_rfl
theorem gRFt : (Tryd.prog.globals[1]?).map (·.type) = some 73 := by kernel_rfl
theorem gRKt : (Tryd.prog.globals[2]?).map (·.type) = some 85 := by kernel_rfl
theorem globR_of {W : World} (hF : Lib.TabIs Tryd.prog W "ledger/ledgerref1.first" .u32 fTab) (hK : Lib.TabIs Tryd.prog W "ledger/ledgerref1.consts" .u32 kTab) : GlobR W := by
  have cK : ∀ j, j < 64 → W.cell? ⟨2, j, none⟩ = some (.int .u32 (kTab.getD j 0)) := fun j hj => hK.cell gRK j hj
  have cF : ∀ j, j < 8 → W.cell? ⟨1, j, none⟩ = some (.int .u32 (fTab.getD j 0)) := fun j hj => hF.cell gRF j hj
  refine ⟨fun j v hv => ?_, fun j v hv => ?_⟩
  · have hj : j < kTab.length := by have := (List.getElem?_eq_some_iff.1 hv).1; rwa [ints_len] at this
    rw [ints_get .u32 kTab j hj] at hv
    rw [Nat.zero_add, ← hv]; exact cK j hj
  · have hj : j < fTab.length := by have := (List.getElem?_eq_some_iff.1 hv).1; rwa [ints_len] at this
    rw [ints_get .u32 fTab j hj] at hv
    rw [Nat.zero_add, ← hv]; exact cF j hj
theorem tab4 {W : World} (h : laidMetH Tryd.prog Rows.clientBindsRow.laid W) : Gb W := by
  obtain ⟨ps, ⟨g1, t1, cs1, f1, p1, q1, hg1, ht1, hv1, hd1, ⟨g2, t2, cs2, f2, p2, q2, hg2, ht2, hv2, hd2, ⟨g3, t3, cs3, f3, p3, q3, hg3, ht3, hv3, hd3, ⟨g4, t4, cs4, f4, p4, q4, hg4, ht4, hv4, hd4, _, _⟩, _⟩, _⟩, _⟩, _⟩ := h
  obtain rfl := Option.some.inj (gRF.symm.trans hg1)
  obtain rfl := Option.some.inj (gRFt.symm.trans ht1)
  obtain rfl := Option.some.inj (gRK.symm.trans hg2)
  obtain rfl := Option.some.inj (gRKt.symm.trans ht2)
  obtain rfl := Option.some.inj (gF.symm.trans hg3)
  obtain rfl := Option.some.inj (gFt.symm.trans ht3)
  obtain rfl := Option.some.inj (gK.symm.trans hg4)
  obtain rfl := Option.some.inj (gKt.symm.trans ht4)
  refine ⟨glob_of ?_ ?_, globR_of ?_ ?_⟩ <;> unfold Lib.TabIs
  · rw [hv3, ← Lib.cells_of_tab (zs := fTab) Tryd.underlying73 Tryd.underlying72 cellsU cellsA8 hd3]
  · rw [hv4, ← Lib.cells_of_tab (zs := kTab) Tryd.underlying85 Tryd.underlying72 cellsU cellsA64 hd4]
  · rw [hv1, ← Lib.cells_of_tab (zs := fTab) Tryd.underlying73 Tryd.underlying72 cellsU cellsA8 hd1]
  · rw [hv2, ← Lib.cells_of_tab (zs := kTab) Tryd.underlying85 Tryd.underlying72 cellsU cellsA64 hd2]
def putTab (zs : List Int) : Obj → Obj
  | .cells _ t frozen => .cells (ints .u32 zs).toArray t frozen
  | o => o
/-- A world for the witness: the settled one, the four tables holding what their text lays. -/
noncomputable def laidWorld (os : Os) : World :=
  { World.holding Tryd.prog os ⟨#[], #[], []⟩ with heap := ((((World.holding Tryd.prog os ⟨#[], #[], []⟩).heap.modify 0 (putTab fTab)).modify 3 (putTab kTab)).modify 1 (putTab fTab)).modify 2 (putTab kTab) }

section
variable {H : Type} {enc : TypeId × Value → H} {W : World}
theorem open_key {fuel : Nat} {cs : List Value} {x : DataW H × List MemPlace} (h : DataW.trod enc Tryd.prog W 0 (fun _ => true) true fuel 31 cs = some x) : ∃ k : List Int, cs = ints .u8 k ∧ k.length = 32 ∧ Byts k := by
  cases fuel with
  | zero => simp [DataW.trod] at h
  | succ n =>
    rw [DataW.trod_step] at h
    unfold DataW.trodStep at h
    simp only [Tryd.underlying31, cellsK, cells5] at h
    split at h
    · rename_i hl
      obtain ⟨xs, hm, _⟩ := Option.map_eq_some_iff.1 h
      have each : ∀ i, i < 32 → ∃ z, cs[i]? = some (.int .u8 z) ∧ 0 ≤ z ∧ z < 256 := fun i hi => by
        have := mapM_some_get hm i i (by simp [hi])
        have hxl := mapM_some_length hm
        simp at hxl
        rw [List.getElem?_eq_getElem (by omega)] at this
        obtain ⟨z, hz, _, hw⟩ := DataW.trod_int Tryd.underlying5 this
        have hb := bounds_u8 hw
        refine ⟨z, ?_, by omega, by omega⟩
        have e : ((cs.drop (i * 1)).take 1)[0]? = cs[i]? := by simp
        rw [← e, hz]; rfl
      refine ⟨cs.map intOf, ?_, by simp [hl], ?_⟩
      · apply List.ext_getElem?
        intro i
        by_cases hi : i < 32
        · obtain ⟨z, hz, _⟩ := each i hi
          simp [ints, hz, intOf]
        · rw [List.getElem?_eq_none (by omega), List.getElem?_eq_none (by simp [ints]; omega)]
      · intro y hy
        obtain ⟨v, hv, rfl⟩ := List.mem_map.1 hy
        obtain ⟨i, hi, rfl⟩ := List.mem_iff_getElem.1 hv
        obtain ⟨z, hz, h1, h2⟩ := each i (by omega)
        rw [List.getElem?_eq_getElem hi] at hz
        rw [Option.some.inj hz]; exact ⟨h1, h2⟩
    · cases h
theorem open_dig {fuel : Nat} {cs : List Value} {x : DataW H × List MemPlace} (h : DataW.trod enc Tryd.prog W 0 (fun _ => true) true fuel 29 cs = some x) : ∃ k : List Int, cs = ints .u8 k ∧ k.length = 32 ∧ Byts k := by
  cases fuel with
  | zero => simp [DataW.trod] at h
  | succ n =>
    rw [DataW.trod_step] at h
    unfold DataW.trodStep at h
    simp only [Tryd.underlying29, cellsD, cells5] at h
    split at h
    · rename_i hl
      obtain ⟨xs, hm, _⟩ := Option.map_eq_some_iff.1 h
      have each : ∀ i, i < 32 → ∃ z, cs[i]? = some (.int .u8 z) ∧ 0 ≤ z ∧ z < 256 := fun i hi => by
        have := mapM_some_get hm i i (by simp [hi])
        have hxl := mapM_some_length hm
        simp at hxl
        rw [List.getElem?_eq_getElem (by omega)] at this
        obtain ⟨z, hz, _, hw⟩ := DataW.trod_int Tryd.underlying5 this
        have hb := bounds_u8 hw
        refine ⟨z, ?_, by omega, by omega⟩
        have e : ((cs.drop (i * 1)).take 1)[0]? = cs[i]? := by simp
        rw [← e, hz]; rfl
      refine ⟨cs.map intOf, ?_, by simp [hl], ?_⟩
      · apply List.ext_getElem?
        intro i
        by_cases hi : i < 32
        · obtain ⟨z, hz, _⟩ := each i hi
          simp [ints, hz, intOf]
        · rw [List.getElem?_eq_none (by omega), List.getElem?_eq_none (by simp [ints]; omega)]
      · intro y hy
        obtain ⟨v, hv, rfl⟩ := List.mem_map.1 hy
        obtain ⟨i, hi, rfl⟩ := List.mem_iff_getElem.1 hv
        obtain ⟨z, hz, h1, h2⟩ := each i (by omega)
        rw [List.getElem?_eq_getElem hi] at hz
        rw [Option.some.inj hz]; exact ⟨h1, h2⟩
    · cases h
end
set_option maxRecDepth 100000 in
/-- A slice of bytes that came in. -/
theorem open_bytesD {H : Type} {enc : TypeId × Value → H} {W : World} {v : Value} {d : DataW H} {p : List MemPlace} {b0 : Nat}
    (hv : Value.okWide Tryd.prog W .any b0 22 v) (h : DataW.Trod enc Tryd.prog W 0 (fun _ => true) true 22 v d p) :
    ∃ (zs : List Int) (sp : Option Addr) (cap : Nat), v = .slice sp zs.length cap ∧ Byts zs ∧ Src W sp cap zs ∧ (sp = none → cap = 0) ∧ (zs.length = 0 ∨ ∃ el spare, d = .slice el spare ∧ el.length = zs.length) := by
  obtain ⟨a0, len0, cap0, rfl⟩ := okWide_slice Tryd.underlying22 hv
  obtain ⟨fuel, hf⟩ := h
  rcases open_ints Tryd.underlying22 Tryd.underlying5 cells5 hf with ⟨hcs, hx⟩ | ⟨a, len, cap, zs, hcs, _, hl, hm, hz, hx, hcell, hwz⟩
  · simp [Value.cells] at hcs
    obtain ⟨rfl, rfl, rfl⟩ := hcs
    refine ⟨[], none, 0, rfl, fun x hx => by simp at hx, Src.nil W, fun _ => rfl, ?_⟩
    exact Or.inl rfl
  · simp [Value.cells] at hcs
    obtain ⟨rfl, rfl, rfl⟩ := hcs
    have hzl : zs.length = cap0 := by simpa using hz
    have hll : (zs.take len0).length = len0 := by rw [List.length_take]; omega
    refine ⟨zs.take len0, some a, cap0, by rw [hll], fun x hx => ?_, ⟨by rw [hll]; exact hl, hm, ?_⟩, (fun h => by cases h), ?_⟩
    · have := bounds_u8 (hwz x (List.mem_of_mem_take hx))
      omega
    · rw [hll]
      by_cases hL : 0 < len0
      · have hc0 := hcell 0 (by omega)
        have hsp : a.spot = none := by have := World.cell?_spot hc0; unfold Addr.add at this; split at this <;> simp_all
        obtain ⟨b, o, spot⟩ := a
        obtain rfl : spot = none := hsp
        refine ⟨b, o, fun _ => by have := block_lt_of_cell hc0; rwa [Addr.add_mid] at this, fun _ => rfl, fun j hj => ?_⟩
        have := hcell j (by omega)
        rw [Addr.add_mid] at this
        rw [this]
        congr 2
        simp [List.getElem?_take, hj]
      · exact ⟨0, 0, fun h => by omega, fun h => by omega, fun j hj => by omega⟩
    · simp only [Prod.mk.injEq] at hx
      exact Or.inr ⟨_, _, hx.1, by simp [lits]⟩
set_option maxRecDepth 100000 in
/-- An array of bytes by value. -/
theorem open_digest {H : Type} {enc : TypeId × Value → H} {W : World} {v : Value} {d : DataW H} {p : List MemPlace} {b0 : Nat}
    (hv : Value.okWide Tryd.prog W .any b0 29 v) (h : DataW.Trod enc Tryd.prog W 0 (fun _ => true) true 29 v d p) : ∃ zs : List Int, zs.length = 32 ∧ Byts zs ∧ v = .agg (ints .u8 zs).toArray := by
  obtain ⟨cs, rfl, hsz, _⟩ : ∃ cs, v = .agg cs ∧ cs.size = Tryd.prog.cellsOf 29 ∧ Row.okWide Tryd.prog W .any b0 29 cs := by
    simpa [Value.okWide, Tryd.underlying29] using hv
  obtain ⟨fuel, hf⟩ := h
  obtain ⟨k, h1, h2, h3⟩ := open_dig hf
  exact ⟨k, h2, h3, by rw [← h1]; rfl⟩
set_option maxRecDepth 100000 in
theorem open_path {H : Type} {enc : TypeId × Value → H} {W : World} {v : Value} {d : DataW H} {p : List MemPlace} {b0 : Nat}
    (hv : Value.okWide Tryd.prog W .any b0 31 v) (h : DataW.Trod enc Tryd.prog W 0 (fun _ => true) true 31 v d p) : ∃ zs : List Int, zs.length = 32 ∧ Byts zs ∧ v = .agg (ints .u8 zs).toArray := by
  obtain ⟨cs, rfl, hsz, _⟩ : ∃ cs, v = .agg cs ∧ cs.size = Tryd.prog.cellsOf 31 ∧ Row.okWide Tryd.prog W .any b0 31 cs := by
    simpa [Value.okWide, Tryd.underlying31] using hv
  obtain ⟨fuel, hf⟩ := h
  obtain ⟨k, h1, h2, h3⟩ := open_key hf
  exact ⟨k, h2, h3, by rw [← h1]; rfl⟩
end Go.Proofs.YtblcpcfonnaiiaaDoor
