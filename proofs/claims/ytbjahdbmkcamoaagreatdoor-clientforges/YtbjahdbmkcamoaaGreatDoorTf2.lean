import Derived.Test.YtbjahdbmkcamoaaGreatDoorTf1
import Derived.Test.YtbjahdbmkcamoaaGreatDoorCards
import Derived.Test.YtbjahdbmkcamoaaGreatDoorTie
import Derived.ProofKit
import Derived.OpenShut
import Derived.SizedLaws
import Derived.Deep.DeepHandedRow
import Derived.Deep.Slices
import Derived.Lib.LaidTab
namespace Go.Proofs.YtbjahdbmkcamoaaGreatDoor
set_option linter.unusedVariables false
set_option linter.unusedSimpArgs false
open Go.ChangeShapes Go.WideShapes Go.ChangeAt Go.RowKit

theorem own_knob : ownKnob Tryz.prog.godebug = none := by kernel_rfl
theorem Tryz.laidOut : laidOutB Tryz.prog = true := by kernel_rfl
theorem cells5 : Tryz.prog.cellsOf 5 = 1 := by kernel_rfl
theorem Tryz.bytes5 : Tryz.prog.bytesOf 5 = 1 := by kernel_rfl
theorem cellsD : Tryz.prog.cellsOf 28 = 32 := by kernel_rfl
theorem cellsK : Tryz.prog.cellsOf 24 = 32 := by kernel_rfl
theorem gF : Tryz.prog.globalNamed "ledger/digest.firstState" = some 0 := by kernel_rfl
theorem gK : Tryz.prog.globalNamed "ledger/digest.roundConstants" = some 2 := by kernel_rfl
theorem gFt : (Tryz.prog.globals[0]?).map (·.type) = some 97 := by kernel_rfl
theorem gKt : (Tryz.prog.globals[2]?).map (·.type) = some 120 := by kernel_rfl
theorem cellsA8 : Tryz.prog.cellsOf 97 = 8 := by kernel_rfl
theorem cellsA64 : Tryz.prog.cellsOf 120 = 64 := by kernel_rfl
theorem cellsU : Tryz.prog.cellsOf 96 = 1 := by kernel_rfl
theorem gRF : Tryz.prog.globalNamed "ledger/ledgerref1.first" = some 1 := by kernel_rfl
theorem gRK : Tryz.prog.globalNamed "ledger/ledgerref1.consts" = some 3 := by kernel_rfl
theorem glob_of {W : World} (hR : Lib.TabIs Tryz.prog W "ledger/ledgerref1.consts" .u32 kTab) (hF : Lib.TabIs Tryz.prog W "ledger/digest.firstState" .u32 fTab) (hK : Lib.TabIs Tryz.prog W "ledger/digest.roundConstants" .u32 kTab) : Glob W := by
  have cR : ∀ j, j < 64 → W.cell? ⟨3, j, none⟩ = some (.int .u32 (kTab.getD j 0)) := fun j hj => hR.cell gRK j hj
  have cK : ∀ j, j < 64 → W.cell? ⟨2, j, none⟩ = some (.int .u32 (kTab.getD j 0)) := fun j hj => hK.cell gK j hj
  have cF : ∀ j, j < 8 → W.cell? ⟨0, j, none⟩ = some (.int .u32 (fTab.getD j 0)) := fun j hj => hF.cell gF j hj
  refine ⟨by have h1 := block_lt_of_cell (cK 0 (by omega)); have h2 := block_lt_of_cell (cF 0 (by omega)); have h3 := block_lt_of_cell (cR 0 (by omega)); simp only at h1 h2 h3; omega, fun j v hv => ?_, fun j v hv => ?_⟩
  · have hj : j < kTab.length := by have := (List.getElem?_eq_some_iff.1 hv).1; rwa [ints_len] at this
    rw [ints_get .u32 kTab j hj] at hv
    rw [Nat.zero_add, ← hv]; exact cK j hj
  · have hj : j < fTab.length := by have := (List.getElem?_eq_some_iff.1 hv).1; rwa [ints_len] at this
    rw [ints_get .u32 fTab j hj] at hv
    rw [Nat.zero_add, ← hv]; exact cF j hj
theorem gRFt : (Tryz.prog.globals[1]?).map (·.type) = some 97 := by kernel_rfl
theorem gRKt : (Tryz.prog.globals[3]?).map (·.type) = some 120 := by kernel_rfl
theorem globR_of {W : World} (hF : Lib.TabIs Tryz.prog W "ledger/ledgerref1.first" .u32 fTab) (hK : Lib.TabIs Tryz.prog W "ledger/ledgerref1.consts" .u32 kTab) : GlobR W := by
  have cK : ∀ j, j < 64 → W.cell? ⟨3, j, none⟩ = some (.int .u32 (kTab.getD j 0)) := fun j hj => hK.cell gRK j hj
  have cF : ∀ j, j < 8 → W.cell? ⟨1, j, none⟩ = some (.int .u32 (fTab.getD j 0)) := fun j hj => hF.cell gRF j hj
  refine ⟨fun j v hv => ?_, fun j v hv => ?_⟩
  · have hj : j < kTab.length := by have := (List.getElem?_eq_some_iff.1 hv).1; rwa [ints_len] at this
    rw [ints_get .u32 kTab j hj] at hv
    rw [Nat.zero_add, ← hv]; exact cK j hj
  · have hj : j < fTab.length := by have := (List.getElem?_eq_some_iff.1 hv).1; rwa [ints_len] at this
    rw [ints_get .u32 fTab j hj] at hv
    rw [Nat.zero_add, ← hv]; exact cF j hj
theorem tab4 {W : World} (h : laidMetH Tryz.prog Rows.clientForgesRow.laid W) : Gb W := by
  obtain ⟨ps, ⟨g1, t1, cs1, f1, p1, q1, hg1, ht1, hv1, hd1, ⟨g2, t2, cs2, f2, p2, q2, hg2, ht2, hv2, hd2, ⟨g3, t3, cs3, f3, p3, q3, hg3, ht3, hv3, hd3, ⟨g4, t4, cs4, f4, p4, q4, hg4, ht4, hv4, hd4, _, _⟩, _⟩, _⟩, _⟩, _⟩ := h
  obtain rfl := Option.some.inj (gRF.symm.trans hg1)
  obtain rfl := Option.some.inj (gRFt.symm.trans ht1)
  obtain rfl := Option.some.inj (gRK.symm.trans hg2)
  obtain rfl := Option.some.inj (gRKt.symm.trans ht2)
  obtain rfl := Option.some.inj (gF.symm.trans hg3)
  obtain rfl := Option.some.inj (gFt.symm.trans ht3)
  obtain rfl := Option.some.inj (gK.symm.trans hg4)
  obtain rfl := Option.some.inj (gKt.symm.trans ht4)
  refine ⟨glob_of ?_ ?_ ?_, globR_of ?_ ?_⟩ <;> unfold Lib.TabIs
  · rw [hv2, ← Lib.cells_of_tab (zs := kTab) Tryz.underlying120 Tryz.underlying96 cellsU cellsA64 hd2]
  · rw [hv3, ← Lib.cells_of_tab (zs := fTab) Tryz.underlying97 Tryz.underlying96 cellsU cellsA8 hd3]
  · rw [hv4, ← Lib.cells_of_tab (zs := kTab) Tryz.underlying120 Tryz.underlying96 cellsU cellsA64 hd4]
  · rw [hv1, ← Lib.cells_of_tab (zs := fTab) Tryz.underlying97 Tryz.underlying96 cellsU cellsA8 hd1]
  · rw [hv2, ← Lib.cells_of_tab (zs := kTab) Tryz.underlying120 Tryz.underlying96 cellsU cellsA64 hd2]
def putTab (zs : List Int) : Obj → Obj
  | .cells _ t frozen => .cells (ints .u32 zs).toArray t frozen
  | o => o
/-- A world for the witness: the settled one, the four tables holding what their text lays. -/
noncomputable def laidWorld (os : Os) : World :=
  { World.holding Tryz.prog os ⟨#[], #[], []⟩ with heap := ((((World.holding Tryz.prog os ⟨#[], #[], []⟩).heap.modify 0 (putTab fTab)).modify 2 (putTab kTab)).modify 1 (putTab fTab)).modify 3 (putTab kTab) }

section
variable {H : Type} {enc : TypeId × Value → H} {W : World}
theorem open_key {fuel : Nat} {cs : List Value} {x : DataW H × List MemPlace} (h : DataW.trod enc Tryz.prog W 0 (fun _ => true) true fuel 24 cs = some x) : ∃ k : List Int, cs = ints .u8 k ∧ k.length = 32 ∧ Byts k := by
  cases fuel with
  | zero => simp [DataW.trod] at h
  | succ n =>
    rw [DataW.trod_step] at h
    unfold DataW.trodStep at h
    simp only [Tryz.underlying24, cellsK, cells5] at h
    split at h
    · rename_i hl
      obtain ⟨xs, hm, _⟩ := Option.map_eq_some_iff.1 h
      have each : ∀ i, i < 32 → ∃ z, cs[i]? = some (.int .u8 z) ∧ 0 ≤ z ∧ z < 256 := fun i hi => by
        have := mapM_some_get hm i i (by simp [hi])
        have hxl := mapM_some_length hm
        simp at hxl
        rw [List.getElem?_eq_getElem (by omega)] at this
        obtain ⟨z, hz, _, hw⟩ := DataW.trod_int Tryz.underlying5 this
        have hb := bounds_u8 hw
        refine ⟨z, ?_, by omega, by omega⟩
        have e : ((cs.drop (i * 1)).take 1)[0]? = cs[i]? := by simp
        rw [← e, hz]; rfl
      refine ⟨cs.map intOf, ?_, by simp [hl], ?_⟩
      · apply List.ext_getElem?
        intro i
        by_cases hi : i < 32
        · obtain ⟨z, hz, _⟩ := each i hi
          simp [ints, hz, intOf]
        · rw [List.getElem?_eq_none (by omega), List.getElem?_eq_none (by simp [ints]; omega)]
      · intro y hy
        obtain ⟨v, hv, rfl⟩ := List.mem_map.1 hy
        obtain ⟨i, hi, rfl⟩ := List.mem_iff_getElem.1 hv
        obtain ⟨z, hz, h1, h2⟩ := each i (by omega)
        rw [List.getElem?_eq_getElem hi] at hz
        rw [Option.some.inj hz]; exact ⟨h1, h2⟩
    · cases h
theorem open_dig {fuel : Nat} {cs : List Value} {x : DataW H × List MemPlace} (h : DataW.trod enc Tryz.prog W 0 (fun _ => true) true fuel 28 cs = some x) : ∃ k : List Int, cs = ints .u8 k ∧ k.length = 32 ∧ Byts k := by
  cases fuel with
  | zero => simp [DataW.trod] at h
  | succ n =>
    rw [DataW.trod_step] at h
    unfold DataW.trodStep at h
    simp only [Tryz.underlying28, cellsD, cells5] at h
    split at h
    · rename_i hl
      obtain ⟨xs, hm, _⟩ := Option.map_eq_some_iff.1 h
      have each : ∀ i, i < 32 → ∃ z, cs[i]? = some (.int .u8 z) ∧ 0 ≤ z ∧ z < 256 := fun i hi => by
        have := mapM_some_get hm i i (by simp [hi])
        have hxl := mapM_some_length hm
        simp at hxl
        rw [List.getElem?_eq_getElem (by omega)] at this
        obtain ⟨z, hz, _, hw⟩ := DataW.trod_int Tryz.underlying5 this
        have hb := bounds_u8 hw
        refine ⟨z, ?_, by omega, by omega⟩
        have e : ((cs.drop (i * 1)).take 1)[0]? = cs[i]? := by simp
        rw [← e, hz]; rfl
      refine ⟨cs.map intOf, ?_, by simp [hl], ?_⟩
      · apply List.ext_getElem?
        intro i
        by_cases hi : i < 32
        · obtain ⟨z, hz, _⟩ := each i hi
          simp [ints, hz, intOf]
        · rw [List.getElem?_eq_none (by omega), List.getElem?_eq_none (by simp [ints]; omega)]
      · intro y hy
        obtain ⟨v, hv, rfl⟩ := List.mem_map.1 hy
        obtain ⟨i, hi, rfl⟩ := List.mem_iff_getElem.1 hv
        obtain ⟨z, hz, h1, h2⟩ := each i (by omega)
        rw [List.getElem?_eq_getElem hi] at hz
        rw [Option.some.inj hz]; exact ⟨h1, h2⟩
    · cases h
end
set_option maxRecDepth 100000 in
/-- A slice of bytes that came in. -/
theorem open_bytesD {H : Type} {enc : TypeId × Value → H} {W : World} {v : Value} {d : DataW H} {p : List MemPlace} {b0 : Nat}
    (hv : Value.okWide Tryz.prog W .any b0 30 v) (h : DataW.Trod enc Tryz.prog W 0 (fun _ => true) true 30 v d p) :
    ∃ (zs : List Int) (sp : Option Addr) (cap : Nat), v = .slice sp zs.length cap ∧ Byts zs ∧ Src W sp cap zs ∧ (sp = none → cap = 0) ∧ (zs.length = 0 ∨ ∃ el spare, d = .slice el spare ∧ el.length = zs.length) := by
  obtain ⟨a0, len0, cap0, rfl⟩ := okWide_slice Tryz.underlying30 hv
  obtain ⟨fuel, hf⟩ := h
  rcases open_ints Tryz.underlying30 Tryz.underlying5 cells5 hf with ⟨hcs, hx⟩ | ⟨a, len, cap, zs, hcs, _, hl, hm, hz, hx, hcell, hwz⟩
  · simp [Value.cells] at hcs
    obtain ⟨rfl, rfl, rfl⟩ := hcs
    refine ⟨[], none, 0, rfl, fun x hx => by simp at hx, Src.nil W, fun _ => rfl, ?_⟩
    exact Or.inl rfl
  · simp [Value.cells] at hcs
    obtain ⟨rfl, rfl, rfl⟩ := hcs
    have hzl : zs.length = cap0 := by simpa using hz
    have hll : (zs.take len0).length = len0 := by rw [List.length_take]; omega
    refine ⟨zs.take len0, some a, cap0, by rw [hll], fun x hx => ?_, ⟨by rw [hll]; exact hl, hm, ?_⟩, (fun h => by cases h), ?_⟩
    · have := bounds_u8 (hwz x (List.mem_of_mem_take hx))
      omega
    · rw [hll]
      by_cases hL : 0 < len0
      · have hc0 := hcell 0 (by omega)
        have hsp : a.spot = none := by have := World.cell?_spot hc0; unfold Addr.add at this; split at this <;> simp_all
        obtain ⟨b, o, spot⟩ := a
        obtain rfl : spot = none := hsp
        refine ⟨b, o, fun _ => by have := block_lt_of_cell hc0; rwa [Addr.add_mid] at this, fun _ => rfl, fun j hj => ?_⟩
        have := hcell j (by omega)
        rw [Addr.add_mid] at this
        rw [this]
        congr 2
        simp [List.getElem?_take, hj]
      · exact ⟨0, 0, fun h => by omega, fun h => by omega, fun j hj => by omega⟩
    · simp only [Prod.mk.injEq] at hx
      exact Or.inr ⟨_, _, hx.1, by simp [lits]⟩
set_option maxRecDepth 100000 in
/-- An array of bytes by value. -/
theorem open_digest {H : Type} {enc : TypeId × Value → H} {W : World} {v : Value} {d : DataW H} {p : List MemPlace} {b0 : Nat}
    (hv : Value.okWide Tryz.prog W .any b0 28 v) (h : DataW.Trod enc Tryz.prog W 0 (fun _ => true) true 28 v d p) : ∃ zs : List Int, zs.length = 32 ∧ Byts zs ∧ v = .agg (ints .u8 zs).toArray := by
  obtain ⟨cs, rfl, hsz, _⟩ : ∃ cs, v = .agg cs ∧ cs.size = Tryz.prog.cellsOf 28 ∧ Row.okWide Tryz.prog W .any b0 28 cs := by
    simpa [Value.okWide, Tryz.underlying28] using hv
  obtain ⟨fuel, hf⟩ := h
  obtain ⟨k, h1, h2, h3⟩ := open_dig hf
  exact ⟨k, h2, h3, by rw [← h1]; rfl⟩
set_option maxRecDepth 100000 in
theorem open_path {H : Type} {enc : TypeId × Value → H} {W : World} {v : Value} {d : DataW H} {p : List MemPlace} {b0 : Nat}
    (hv : Value.okWide Tryz.prog W .any b0 24 v) (h : DataW.Trod enc Tryz.prog W 0 (fun _ => true) true 24 v d p) : ∃ zs : List Int, zs.length = 32 ∧ Byts zs ∧ v = .agg (ints .u8 zs).toArray := by
  obtain ⟨cs, rfl, hsz, _⟩ : ∃ cs, v = .agg cs ∧ cs.size = Tryz.prog.cellsOf 24 ∧ Row.okWide Tryz.prog W .any b0 24 cs := by
    simpa [Value.okWide, Tryz.underlying24] using hv
  obtain ⟨fuel, hf⟩ := h
  obtain ⟨k, h1, h2, h3⟩ := open_key hf
  exact ⟨k, h2, h3, by rw [← h1]; rfl⟩
theorem cells4 : Tryz.prog.cellsOf 4 = 1 := by kernel_rfl
theorem cellsB : Tryz.prog.cellsOf 30 = 1 := by kernel_rfl
theorem cellsC : Tryz.prog.cellsOf 79 = 34 := by kernel_rfl
theorem bytesC : Tryz.prog.bytesOf 79 = 64 := by kernel_rfl
/-- No slice in it is beyond the reach. -/
def WS {H : Type} (t : TypeId) (d : DataW H) : Prop := ∀ n ∈ d.weights Tryz.prog t, n ≤ reachBytes
theorem weightsAll_mem {H : Type} {P : Program} {e : TypeId} : ∀ {l : List (DataW H)} {d : DataW H}, d ∈ l → ∀ n ∈ d.weights P e, n ∈ DataW.weightsAll P e l
  | x :: l, d, hd, n, hn => by
    simp only [DataW.weightsAll, List.mem_append]
    rcases List.mem_cons.1 hd with rfl | h
    · exact Or.inl hn
    · exact Or.inr (weightsAll_mem h n hn)
theorem WS.slice {H : Type} {t e : TypeId} {el sp : List (DataW H)} (hu : Tryz.prog.underlying t = some (.slice e)) (h : WS t (.slice el sp)) : (el.length + sp.length) * Tryz.prog.bytesOf e ≤ reachBytes ∧ ∀ d ∈ el, WS e d :=
  ⟨h _ (by simp [DataW.weights, hu]), fun d hd n hn => h n (by
    simp only [DataW.weights, hu, List.mem_cons, List.mem_append]
    exact Or.inr (Or.inl (weightsAll_mem hd n hn)))⟩
theorem WS.field {H : Type} {t : TypeId} {fs : Array Field} {ds : List (DataW H)} (hu : Tryz.prog.underlying t = some (.struct fs)) (h : WS t (.agg ds)) {j : Nat} {f : Field} {d : DataW H} (hf : fs[j]? = some f) (hd : ds[j]? = some d) : WS f.type d :=
  fun n hn => h n (by
    simp only [DataW.weights, hu]
    exact DataW.weights_mem_each (by rw [List.getElem?_map]; simp [hf]) hd n hn)
section
variable {H : Type} {enc : TypeId × Value → H} {W : World}
theorem open_bytesN {fuel : Nat} {v : Value} {d : DataW H} {p : List MemPlace} (hw : WS 30 d) (hf : DataW.trod enc Tryz.prog W 0 (fun _ => true) true fuel 30 [v] = some (d, p)) :
    ∃ (zs : List Int) (sp : Option Addr) (cap : Nat), v = .slice sp zs.length cap ∧ Byts zs ∧ Src W sp cap zs ∧ (sp = none → cap = 0) ∧ zs.length ≤ 140737488351232 := by
  rcases open_ints Tryz.underlying30 Tryz.underlying5 cells5 hf with ⟨hcs, hx⟩ | ⟨a, len, cap, zs, hcs, _, hl, hm, hz, hx, hcell, hwz⟩
  · simp at hcs
    subst hcs
    exact ⟨[], none, 0, rfl, fun x hx => by simp at hx, Src.nil W, fun _ => rfl, by simp⟩
  · simp at hcs
    subst hcs
    have hzl : zs.length = cap := by simpa using hz
    have hll : (zs.take len).length = len := by rw [List.length_take]; omega
    refine ⟨zs.take len, some a, cap, by rw [hll], fun x hx => ?_, ⟨by rw [hll]; exact hl, hm, ?_⟩, (fun h => by cases h), ?_⟩
    · have := bounds_u8 (hwz x (List.mem_of_mem_take hx))
      omega
    · rw [hll]
      by_cases hL : 0 < len
      · have hc0 := hcell 0 (by omega)
        have hsp : a.spot = none := by have := World.cell?_spot hc0; unfold Addr.add at this; split at this <;> simp_all
        obtain ⟨b, o, spot⟩ := a
        obtain rfl : spot = none := hsp
        refine ⟨b, o, fun _ => by have := block_lt_of_cell hc0; rwa [Addr.add_mid] at this, fun _ => rfl, fun j hj => ?_⟩
        have := hcell j (by omega)
        rw [Addr.add_mid] at this
        rw [this]
        congr 2
        simp [List.getElem?_take, hj]
      · exact ⟨0, 0, fun h => by omega, fun h => by omega, fun j hj => by omega⟩
    · rw [hll]
      simp only [Prod.mk.injEq] at hx
      rw [hx.1] at hw
      have := (hw.slice Tryz.underlying30).1
      rw [Tryz.bytes5] at this
      simp [lits, reachBytes] at this
      omega
/-- What a slice of changes that came in reads as. -/
theorem open_chs {fuel : Nat} {v : Value} {d : DataW H} {p : List MemPlace} (hw : WS 22 d) (hf : DataW.trod enc Tryz.prog W 0 (fun _ => true) true fuel 22 [v] = some (d, p)) :
    ∃ (cs : List Chg) (sp : Option Addr) (cap b o : Nat) (ms : List MC), v = .slice sp cs.length cap ∧ Chs W sp cap cs b o ms ∧ (∀ c ∈ cs, OkC c) ∧ cs.length ≤ 2199023255488 := by
  rcases Deep.open_slice Tryz.underlying22 hf with ⟨hcs, hx⟩ | ⟨a, len, cap, m, n, D, Pl, hcs, _, hl, hm, hmm, hx, hrow⟩
  · simp at hcs
    subst hcs
    exact ⟨[], none, 0, 0, 0, [], rfl, ⟨by simp, by simp [maxLen], fun _ => rfl, fun h => by simp at h, fun i hi => by simp at hi, SaysL.nil W⟩, fun c hc => by simp at hc, by simp⟩
  · simp at hcs
    subst hcs
    simp only [Prod.mk.injEq] at hx
    obtain ⟨rfl, _⟩ := hx
    simp only [if_true] at hmm
    subst hmm
    obtain ⟨w1, w2⟩ := hw.slice Tryz.underlying22
    rw [bytesC] at w1
    simp [reachBytes] at w1
    have each : ∀ i, i < len → ∃ q : MC × Chg, (∀ j u, (encM q.1)[j]? = some u → W.cell? (a.add (i * 34 + j)) = some u) ∧ Says W q.1 q.2 ∧ OkC q.2 := by
      intro i hi
      obtain ⟨cs', h1, h2⟩ := hrow i (by omega)
      rw [cellsC] at h1
      obtain ⟨_, hlen, hcell⟩ := World.cells?_some h1
      obtain ⟨xs, k, hk, hxy, _, hxl, hfd⟩ := DataW.trod_struct Tryz.underlying79 h2
      have hd := w2 (D i) (List.mem_map.2 ⟨i, List.mem_range.2 hi, rfl⟩)
      have hxl' : xs.length = 3 := hxl
      simp only [Prod.mk.injEq] at hxy
      rw [hxy.1] at hd
      have g0 : DataW.trod enc Tryz.prog W 0 (fun _ => true) true k 24 ((cs'.drop 0).take 32) = some xs[0] := by
        have := hfd 0 _ rfl
        rw [List.getElem?_eq_getElem (by omega)] at this
        change DataW.trod enc Tryz.prog W 0 (fun _ => true) true k 24 ((cs'.drop 0).take (Tryz.prog.cellsOf 24)) = _ at this
        rw [cellsK] at this; exact this
      have g1 : DataW.trod enc Tryz.prog W 0 (fun _ => true) true k 4 ((cs'.drop 32).take 1) = some xs[1] := by
        have := hfd 1 _ rfl
        rw [List.getElem?_eq_getElem (by omega)] at this
        change DataW.trod enc Tryz.prog W 0 (fun _ => true) true k 4 ((cs'.drop 32).take (Tryz.prog.cellsOf 4)) = _ at this
        rw [cells4] at this; exact this
      have g2 : DataW.trod enc Tryz.prog W 0 (fun _ => true) true k 30 ((cs'.drop 33).take 1) = some xs[2] := by
        have := hfd 2 _ rfl
        rw [List.getElem?_eq_getElem (by omega)] at this
        change DataW.trod enc Tryz.prog W 0 (fun _ => true) true k 30 ((cs'.drop 33).take (Tryz.prog.cellsOf 30)) = _ at this
        rw [cellsB] at this; exact this
      obtain ⟨key, e0, lk, yk⟩ := open_key g0
      obtain ⟨bl, e1, _⟩ := DataW.trod_bool Tryz.underlying4 g1
      have e2 : ∃ sv, (cs'.drop 33).take 1 = [sv] := by
        rw [List.take_one, List.head?_drop, List.getElem?_eq_getElem (by omega)]; exact ⟨_, rfl⟩
      obtain ⟨sv, e2⟩ := e2
      rw [e2] at g2
      have hws : WS 30 (xs[2]).1 := hd.field Tryz.underlying79 (j := 2) rfl (by rw [List.getElem?_map, List.getElem?_eq_getElem (by omega)]; rfl)
      obtain ⟨val, sp, cap', e3, yv, hS, hnil, hvl⟩ := open_bytesN (d := (xs[2]).1) (p := (xs[2]).2) hws g2
      have hcs : cs' = encM ⟨key, bl, sv⟩ := by
        have : cs' = (cs'.drop 0).take 32 ++ ((cs'.drop 32).take 1 ++ (cs'.drop 33).take 1) := by
          apply List.ext_getElem?
          intro j
          by_cases h32 : j < 32
          · rw [List.getElem?_append_left (by simp; omega)]; simp [h32]
          · rw [List.getElem?_append_right (by simp; omega)]
            have hmin : ((cs'.drop 0).take 32).length = 32 := by simp; omega
            rw [hmin]
            by_cases h33 : j < 33
            · obtain rfl : j = 32 := by omega
              rw [List.getElem?_append_left (by simp; omega)]; simp
            · rw [List.getElem?_append_right (by simp; omega)]
              have hm2 : ((cs'.drop 32).take 1).length = 1 := by simp; omega
              rw [hm2]
              by_cases h34 : j < 34
              · obtain rfl : j = 33 := by omega
                simp
              · rw [List.getElem?_eq_none (by omega), List.getElem?_eq_none (by simp; omega)]
        rw [this, e0, e1, e2]; rfl
      refine ⟨(⟨key, bl, sv⟩, ⟨key, bl, val⟩), fun j u hu => ?_, ⟨rfl, lk, rfl, sp, cap', e3, hnil, hS⟩, lk, yk, yv, hvl⟩
      rw [← hcs] at hu
      have hj := (List.getElem?_eq_some_iff.1 hu).1
      have := hcell j (by omega)
      rw [Deep.add_add] at this
      rw [this, hu]
    haveI : Inhabited (MC × Chg) := ⟨(dM, dC)⟩
    obtain ⟨q, hq⟩ := Deep.choose_lt (α := MC × Chg) each
    have gm : ∀ i, i < len → ((List.range len).map fun i => (q i).1).getD i dM = (q i).1 := fun i hi => by simp [hi]
    have gc : ∀ i, i < len → ((List.range len).map fun i => (q i).2).getD i dC = (q i).2 := fun i hi => by simp [hi]
    have hlen : ((List.range len).map fun i => (q i).2).length = len := by simp
    have says : SaysL W ((List.range len).map fun i => (q i).1) ((List.range len).map fun i => (q i).2) := ⟨by simp, fun i hi => by
      rw [hlen] at hi
      rw [gm i hi, gc i hi]; exact (hq i hi).2.1⟩
    have okc : ∀ c ∈ (List.range len).map fun i => (q i).2, OkC c := fun c hc => by
      obtain ⟨i, hi, rfl⟩ := List.mem_map.1 hc
      exact (hq i (List.mem_range.1 hi)).2.2
    by_cases hz : 0 < len
    · have hsp : a.spot = none := by
        have := (hq 0 hz).1 0 ((encM (q 0).1)[0]'(by rw [(hq 0 hz).2.1.len]; omega)) (List.getElem?_eq_getElem _)
        have := World.cell?_spot this
        unfold Addr.add at this; split at this <;> simp_all
      obtain ⟨b, o, spot⟩ := a
      obtain rfl : spot = none := hsp
      have hblk : b < W.heap.size := by
        have := (hq 0 hz).1 0 ((encM (q 0).1)[0]'(by rw [(hq 0 hz).2.1.len]; omega)) (List.getElem?_eq_getElem _)
        have := block_lt_of_cell this; rwa [Addr.add_mid] at this
      refine ⟨(List.range len).map fun i => (q i).2, some ⟨b, o, none⟩, m, b, o, (List.range len).map fun i => (q i).1, by rw [hlen], ⟨by rw [hlen]; exact hl, hm, (fun h => by cases h), fun _ => ⟨hblk, rfl⟩, fun i hi j u hu => ?_, says⟩, okc, by rw [hlen]; omega⟩
      rw [hlen] at hi
      rw [gm i hi] at hu
      have := (hq i hi).1 j u hu
      rw [Addr.add_mid, ← Nat.add_assoc] at this
      exact this
    · refine ⟨(List.range len).map fun i => (q i).2, some a, m, 0, 0, (List.range len).map fun i => (q i).1, by rw [hlen], ⟨by rw [hlen]; exact hl, hm, (fun h => by cases h), fun h => by rw [hlen] at h; omega, fun i hi => by rw [hlen] at hi; omega, says⟩, okc, by rw [hlen]; omega⟩
end
end Go.Proofs.YtbjahdbmkcamoaaGreatDoor
