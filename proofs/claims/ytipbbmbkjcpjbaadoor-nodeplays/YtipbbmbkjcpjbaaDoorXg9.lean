import Derived.Test.YtipbbmbkjcpjbaaDoorXf9
import Derived.Test.YtipbbmbkjcpjbaaDoorCards
import Derived.Test.YtipbbmbkjcpjbaaDoorTie
import Derived.ProofKit
import Derived.OpenShut
import Derived.SizedLaws
import Derived.Deep.DeepHandedRow
import Derived.Deep.Slices
import Derived.Lib.LaidTab
namespace Go.Proofs.YtipbbmbkjcpjbaaDoor
set_option linter.unusedVariables false
set_option linter.unusedSimpArgs false
open Go.ChangeShapes Go.WideShapes Go.ChangeAt Go.RowKit

theorem own_knob : ownKnob Tryd.prog.godebug = none := by kernel_rfl
theorem Tryd.laidOut : laidOutB Tryd.prog = true := by kernel_rfl
theorem cells5 : Tryd.prog.cellsOf 5 = 1 := by kernel_rfl
theorem Tryd.bytes5 : Tryd.prog.bytesOf 5 = 1 := by kernel_rfl
theorem cellsD : Tryd.prog.cellsOf 27 = 32 := by kernel_rfl
theorem cellsK : Tryd.prog.cellsOf 26 = 32 := by kernel_rfl
theorem gF : Tryd.prog.globalNamed "ledger/digest.firstState" = some 0 := by kernel_rfl
theorem gK : Tryd.prog.globalNamed "ledger/digest.roundConstants" = some 3 := by kernel_rfl
theorem gFt : (Tryd.prog.globals[0]?).map (·.type) = some 93 := by kernel_rfl
theorem gKt : (Tryd.prog.globals[3]?).map (·.type) = some 100 := by kernel_rfl
theorem cellsA8 : Tryd.prog.cellsOf 93 = 8 := by kernel_rfl
theorem cellsA64 : Tryd.prog.cellsOf 100 = 64 := by kernel_rfl
theorem cellsU : Tryd.prog.cellsOf 92 = 1 := by kernel_rfl
theorem glob_of {W : World} (hF : Lib.TabIs Tryd.prog W "ledger/digest.firstState" .u32 fTab) (hK : Lib.TabIs Tryd.prog W "ledger/digest.roundConstants" .u32 kTab) : Glob W := by
  have cK : ∀ j, j < 64 → W.cell? ⟨3, j, none⟩ = some (.int .u32 (kTab.getD j 0)) := fun j hj => hK.cell gK j hj
  have cF : ∀ j, j < 8 → W.cell? ⟨0, j, none⟩ = some (.int .u32 (fTab.getD j 0)) := fun j hj => hF.cell gF j hj
  refine ⟨by have h1 := block_lt_of_cell (cK 0 (by omega)); have h2 := block_lt_of_cell (cF 0 (by omega)); simp only at h1 h2; omega, fun j v hv => ?_, fun j v hv => ?_⟩
  · have hj : j < kTab.length := by have := (List.getElem?_eq_some_iff.1 hv).1; rwa [ints_len] at this
    rw [ints_get .u32 kTab j hj] at hv
    rw [Nat.zero_add, ← hv]; exact cK j hj
  · have hj : j < fTab.length := by have := (List.getElem?_eq_some_iff.1 hv).1; rwa [ints_len] at this
    rw [ints_get .u32 fTab j hj] at hv
    rw [Nat.zero_add, ← hv]; exact cF j hj
theorem gRF : Tryd.prog.globalNamed "ledger/ledgerref1.first" = some 1 := by kernel_rfl
theorem gRK : Tryd.prog.globalNamed "ledger/ledgerref1.consts" = some 2 := by kernel_rfl
theorem gRFt : (Tryd.prog.globals[1]?).map (·.type) = some 93 := by kernel_rfl
theorem gRKt : (Tryd.prog.globals[2]?).map (·.type) = some 100 := by kernel_rfl
theorem globR_of {W : World} (hF : Lib.TabIs Tryd.prog W "ledger/ledgerref1.first" .u32 fTab) (hK : Lib.TabIs Tryd.prog W "ledger/ledgerref1.consts" .u32 kTab) : GlobR W := by
  have cK : ∀ j, j < 64 → W.cell? ⟨2, j, none⟩ = some (.int .u32 (kTab.getD j 0)) := fun j hj => hK.cell gRK j hj
  have cF : ∀ j, j < 8 → W.cell? ⟨1, j, none⟩ = some (.int .u32 (fTab.getD j 0)) := fun j hj => hF.cell gRF j hj
  refine ⟨fun j v hv => ?_, fun j v hv => ?_⟩
  · have hj : j < kTab.length := by have := (List.getElem?_eq_some_iff.1 hv).1; rwa [ints_len] at this
    rw [ints_get .u32 kTab j hj] at hv
    rw [Nat.zero_add, ← hv]; exact cK j hj
  · have hj : j < fTab.length := by have := (List.getElem?_eq_some_iff.1 hv).1; rwa [ints_len] at this
    rw [ints_get .u32 fTab j hj] at hv
    rw [Nat.zero_add, ← hv]; exact cF j hj
theorem tab4 {W : World} (h : laidMetH Tryd.prog Rows.nodePlaysRow.laid W) : Gb W := by
  obtain ⟨ps, ⟨g1, t1, cs1, f1, p1, q1, hg1, ht1, hv1, hd1, ⟨g2, t2, cs2, f2, p2, q2, hg2, ht2, hv2, hd2, ⟨g3, t3, cs3, f3, p3, q3, hg3, ht3, hv3, hd3, ⟨g4, t4, cs4, f4, p4, q4, hg4, ht4, hv4, hd4, _, _⟩, _⟩, _⟩, _⟩, _⟩ := h
  obtain rfl := Option.some.inj (gRF.symm.trans hg1)
  obtain rfl := Option.some.inj (gRFt.symm.trans ht1)
  obtain rfl := Option.some.inj (gRK.symm.trans hg2)
  obtain rfl := Option.some.inj (gRKt.symm.trans ht2)
  obtain rfl := Option.some.inj (gF.symm.trans hg3)
  obtain rfl := Option.some.inj (gFt.symm.trans ht3)
  obtain rfl := Option.some.inj (gK.symm.trans hg4)
  obtain rfl := Option.some.inj (gKt.symm.trans ht4)
  refine ⟨glob_of ?_ ?_, globR_of ?_ ?_⟩ <;> unfold Lib.TabIs
  · rw [hv3, ← Lib.cells_of_tab (zs := fTab) Tryd.underlying93 Tryd.underlying92 cellsU cellsA8 hd3]
  · rw [hv4, ← Lib.cells_of_tab (zs := kTab) Tryd.underlying100 Tryd.underlying92 cellsU cellsA64 hd4]
  · rw [hv1, ← Lib.cells_of_tab (zs := fTab) Tryd.underlying93 Tryd.underlying92 cellsU cellsA8 hd1]
  · rw [hv2, ← Lib.cells_of_tab (zs := kTab) Tryd.underlying100 Tryd.underlying92 cellsU cellsA64 hd2]
def putTab (zs : List Int) : Obj → Obj
  | .cells _ t frozen => .cells (ints .u32 zs).toArray t frozen
  | o => o
/-- A world for the witness: the settled one, the four tables holding what their text lays. -/
noncomputable def laidWorld (os : Os) : World :=
  { World.holding Tryd.prog os ⟨#[], #[], []⟩ with heap := ((((World.holding Tryd.prog os ⟨#[], #[], []⟩).heap.modify 0 (putTab fTab)).modify 3 (putTab kTab)).modify 1 (putTab fTab)).modify 2 (putTab kTab) }
/-- No slice in it is beyond the reach. -/
def WS {H : Type} (t : TypeId) (d : DataW H) : Prop := ∀ n ∈ d.weights Tryd.prog t, n ≤ reachBytes
theorem weightsAll_mem {H : Type} {P : Program} {e : TypeId} : ∀ {l : List (DataW H)} {d : DataW H}, d ∈ l → ∀ n ∈ d.weights P e, n ∈ DataW.weightsAll P e l
  | x :: l, d, hd, n, hn => by
    simp only [DataW.weightsAll, List.mem_append]
    rcases List.mem_cons.1 hd with rfl | h
    · exact Or.inl hn
    · exact Or.inr (weightsAll_mem h n hn)
theorem WS.slice {H : Type} {t e : TypeId} {el sp : List (DataW H)} (hu : Tryd.prog.underlying t = some (.slice e)) (h : WS t (.slice el sp)) : (el.length + sp.length) * Tryd.prog.bytesOf e ≤ reachBytes ∧ ∀ d ∈ el, WS e d :=
  ⟨h _ (by simp [DataW.weights, hu]), fun d hd n hn => h n (by
    simp only [DataW.weights, hu, List.mem_cons, List.mem_append]
    exact Or.inr (Or.inl (weightsAll_mem hd n hn)))⟩
theorem WS.field {H : Type} {t : TypeId} {fs : Array Field} {ds : List (DataW H)} (hu : Tryd.prog.underlying t = some (.struct fs)) (h : WS t (.agg ds)) {j : Nat} {f : Field} {d : DataW H} (hf : fs[j]? = some f) (hd : ds[j]? = some d) : WS f.type d :=
  fun n hn => h n (by
    simp only [DataW.weights, hu]
    exact DataW.weights_mem_each (by rw [List.getElem?_map]; simp [hf]) hd n hn)
section
variable {H : Type} {enc : TypeId × Value → H} {W : World}
theorem open_key {fuel : Nat} {cs : List Value} {x : DataW H × List MemPlace} (h : DataW.trod enc Tryd.prog W 0 (fun _ => true) true fuel 26 cs = some x) : ∃ k : List Int, cs = ints .u8 k ∧ k.length = 32 ∧ Byts k := by
  cases fuel with
  | zero => simp [DataW.trod] at h
  | succ n =>
    rw [DataW.trod_step] at h
    unfold DataW.trodStep at h
    simp only [Tryd.underlying26, cellsK, cells5] at h
    split at h
    · rename_i hl
      obtain ⟨xs, hm, _⟩ := Option.map_eq_some_iff.1 h
      have each : ∀ i, i < 32 → ∃ z, cs[i]? = some (.int .u8 z) ∧ 0 ≤ z ∧ z < 256 := fun i hi => by
        have := mapM_some_get hm i i (by simp [hi])
        have hxl := mapM_some_length hm
        simp at hxl
        rw [List.getElem?_eq_getElem (by omega)] at this
        obtain ⟨z, hz, _, hw⟩ := DataW.trod_int Tryd.underlying5 this
        have hb := bounds_u8 hw
        refine ⟨z, ?_, by omega, by omega⟩
        have e : ((cs.drop (i * 1)).take 1)[0]? = cs[i]? := by simp
        rw [← e, hz]; rfl
      refine ⟨cs.map intOf, ?_, by simp [hl], ?_⟩
      · apply List.ext_getElem?
        intro i
        by_cases hi : i < 32
        · obtain ⟨z, hz, _⟩ := each i hi
          simp [ints, hz, intOf]
        · rw [List.getElem?_eq_none (by omega), List.getElem?_eq_none (by simp [ints]; omega)]
      · intro y hy
        obtain ⟨v, hv, rfl⟩ := List.mem_map.1 hy
        obtain ⟨i, hi, rfl⟩ := List.mem_iff_getElem.1 hv
        obtain ⟨z, hz, h1, h2⟩ := each i (by omega)
        rw [List.getElem?_eq_getElem hi] at hz
        rw [Option.some.inj hz]; exact ⟨h1, h2⟩
    · cases h
theorem open_dig {fuel : Nat} {cs : List Value} {x : DataW H × List MemPlace} (h : DataW.trod enc Tryd.prog W 0 (fun _ => true) true fuel 27 cs = some x) : ∃ k : List Int, cs = ints .u8 k ∧ k.length = 32 ∧ Byts k := by
  cases fuel with
  | zero => simp [DataW.trod] at h
  | succ n =>
    rw [DataW.trod_step] at h
    unfold DataW.trodStep at h
    simp only [Tryd.underlying27, cellsD, cells5] at h
    split at h
    · rename_i hl
      obtain ⟨xs, hm, _⟩ := Option.map_eq_some_iff.1 h
      have each : ∀ i, i < 32 → ∃ z, cs[i]? = some (.int .u8 z) ∧ 0 ≤ z ∧ z < 256 := fun i hi => by
        have := mapM_some_get hm i i (by simp [hi])
        have hxl := mapM_some_length hm
        simp at hxl
        rw [List.getElem?_eq_getElem (by omega)] at this
        obtain ⟨z, hz, _, hw⟩ := DataW.trod_int Tryd.underlying5 this
        have hb := bounds_u8 hw
        refine ⟨z, ?_, by omega, by omega⟩
        have e : ((cs.drop (i * 1)).take 1)[0]? = cs[i]? := by simp
        rw [← e, hz]; rfl
      refine ⟨cs.map intOf, ?_, by simp [hl], ?_⟩
      · apply List.ext_getElem?
        intro i
        by_cases hi : i < 32
        · obtain ⟨z, hz, _⟩ := each i hi
          simp [ints, hz, intOf]
        · rw [List.getElem?_eq_none (by omega), List.getElem?_eq_none (by simp [ints]; omega)]
      · intro y hy
        obtain ⟨v, hv, rfl⟩ := List.mem_map.1 hy
        obtain ⟨i, hi, rfl⟩ := List.mem_iff_getElem.1 hv
        obtain ⟨z, hz, h1, h2⟩ := each i (by omega)
        rw [List.getElem?_eq_getElem hi] at hz
        rw [Option.some.inj hz]; exact ⟨h1, h2⟩
    · cases h
theorem open_bytesN {fuel : Nat} {v : Value} {d : DataW H} {p : List MemPlace} (hw : WS 28 d) (hf : DataW.trod enc Tryd.prog W 0 (fun _ => true) true fuel 28 [v] = some (d, p)) :
    ∃ (zs : List Int) (sp : Option Addr) (cap : Nat), v = .slice sp zs.length cap ∧ Byts zs ∧ Src W sp cap zs ∧ (sp = none → cap = 0) ∧ zs.length ≤ 140737488351232 := by
  rcases open_ints Tryd.underlying28 Tryd.underlying5 cells5 hf with ⟨hcs, hx⟩ | ⟨a, len, cap, zs, hcs, _, hl, hm, hz, hx, hcell, hwz⟩
  · simp at hcs
    subst hcs
    exact ⟨[], none, 0, rfl, fun x hx => by simp at hx, Src.nil W, fun _ => rfl, by simp⟩
  · simp at hcs
    subst hcs
    have hzl : zs.length = cap := by simpa using hz
    have hll : (zs.take len).length = len := by rw [List.length_take]; omega
    refine ⟨zs.take len, some a, cap, by rw [hll], fun x hx => ?_, ⟨by rw [hll]; exact hl, hm, ?_⟩, (fun h => by cases h), ?_⟩
    · have := bounds_u8 (hwz x (List.mem_of_mem_take hx))
      omega
    · rw [hll]
      by_cases hL : 0 < len
      · have hc0 := hcell 0 (by omega)
        have hsp : a.spot = none := by have := World.cell?_spot hc0; unfold Addr.add at this; split at this <;> simp_all
        obtain ⟨b, o, spot⟩ := a
        obtain rfl : spot = none := hsp
        refine ⟨b, o, fun _ => by have := block_lt_of_cell hc0; rwa [Addr.add_mid] at this, fun _ => rfl, fun j hj => ?_⟩
        have := hcell j (by omega)
        rw [Addr.add_mid] at this
        rw [this]
        congr 2
        simp [List.getElem?_take, hj]
      · exact ⟨0, 0, fun h => by omega, fun h => by omega, fun j hj => by omega⟩
    · rw [hll]
      simp only [Prod.mk.injEq] at hx
      rw [hx.1] at hw
      have := (hw.slice Tryd.underlying28).1
      rw [Tryd.bytes5] at this
      simp [lits, reachBytes] at this
      omega
end
theorem cut_at (l : List Value) (n m : Nat) : l.drop n = (l.drop n).take m ++ l.drop (n + m) := by
  have := (List.take_append_drop m (l.drop n)).symm
  rwa [List.drop_drop] at this
theorem trod_one {H : Type} {enc : TypeId × Value → H} {W : World} {l : List Value} {n : Nat} (h : n < l.length) : ∃ sv, (l.drop n).take 1 = [sv] := by
  rw [List.take_one, List.head?_drop, List.getElem?_eq_getElem h]; exact ⟨_, rfl⟩
set_option maxRecDepth 100000 in
theorem open_script {H : Type} {enc : TypeId × Value → H} {W : World} {fuel : Nat} {v : Value} {d : DataW H} {p : List MemPlace} (hw : WS 22 d) (hf : DataW.trod enc Tryd.prog W 0 (fun _ => true) true fuel 22 [v] = some (d, p)) :
    ∃ (ops : List NOp) (sp : Option Addr) (cap : Nat), v = .slice sp ops.length cap ∧ SC W sp ops ∧ (∀ o ∈ ops, NOk o ∧ VOk W o) ∧ (ops.length : Int) ≤ 9223372036854775807 := by
  rcases Deep.open_slice Tryd.underlying22 hf with ⟨hcs, hx⟩ | ⟨a, len, cap, m, n, D, Pl, hcs, _, hl, hm, hmm, hx, hrow⟩
  · simp at hcs
    subst hcs
    exact ⟨[], none, 0, rfl, ⟨0, 0, fun h => by simp at h, fun i hi => by simp at hi⟩, fun c hc => by simp at hc, by decide⟩
  · simp at hcs
    subst hcs
    simp only [Prod.mk.injEq] at hx
    obtain ⟨rfl, _⟩ := hx
    simp only [if_true] at hmm
    subst hmm
    obtain ⟨w1, w2⟩ := hw.slice Tryd.underlying22
    have each : ∀ i, i < len → ∃ q : NOp, (∀ j u, (opC q)[j]? = some u → W.cell? (a.add (i * 203 + j)) = some u) ∧ NOk q ∧ VOk W q := by
      intro i hi
      obtain ⟨cs', h1, h2⟩ := hrow i (by omega)
      rw [show Tryd.prog.cellsOf 32 = 203 by kernel_rfl] at h1
      obtain ⟨_, hlen, hcell⟩ := World.cells?_some h1
      obtain ⟨xs, k, hk, hxy, _, hxl, hfd⟩ := DataW.trod_struct Tryd.underlying32 h2
      have hd := w2 (D i) (List.mem_map.2 ⟨i, List.mem_range.2 hi, rfl⟩)
      have hxl' : xs.length = 9 := hxl
      simp only [Prod.mk.injEq] at hxy
      rw [hxy.1] at hd
      have g0 : DataW.trod enc Tryd.prog W 0 (fun _ => true) true k 3 ((cs'.drop 0).take 1) = some xs[0] := by
        have := hfd 0 _ rfl
        rw [List.getElem?_eq_getElem (by omega)] at this
        change DataW.trod enc Tryd.prog W 0 (fun _ => true) true k 3 ((cs'.drop 0).take (Tryd.prog.cellsOf 3)) = _ at this
        rw [show Tryd.prog.cellsOf 3 = 1 by kernel_rfl] at this; exact this
      have g1 : DataW.trod enc Tryd.prog W 0 (fun _ => true) true k 3 ((cs'.drop 1).take 1) = some xs[1] := by
        have := hfd 1 _ rfl
        rw [List.getElem?_eq_getElem (by omega)] at this
        change DataW.trod enc Tryd.prog W 0 (fun _ => true) true k 3 ((cs'.drop 1).take (Tryd.prog.cellsOf 3)) = _ at this
        rw [show Tryd.prog.cellsOf 3 = 1 by kernel_rfl] at this; exact this
      have g2 : DataW.trod enc Tryd.prog W 0 (fun _ => true) true k 3 ((cs'.drop 2).take 1) = some xs[2] := by
        have := hfd 2 _ rfl
        rw [List.getElem?_eq_getElem (by omega)] at this
        change DataW.trod enc Tryd.prog W 0 (fun _ => true) true k 3 ((cs'.drop 2).take (Tryd.prog.cellsOf 3)) = _ at this
        rw [show Tryd.prog.cellsOf 3 = 1 by kernel_rfl] at this; exact this
      have g3 : DataW.trod enc Tryd.prog W 0 (fun _ => true) true k 3 ((cs'.drop 3).take 1) = some xs[3] := by
        have := hfd 3 _ rfl
        rw [List.getElem?_eq_getElem (by omega)] at this
        change DataW.trod enc Tryd.prog W 0 (fun _ => true) true k 3 ((cs'.drop 3).take (Tryd.prog.cellsOf 3)) = _ at this
        rw [show Tryd.prog.cellsOf 3 = 1 by kernel_rfl] at this; exact this
      have g4 : DataW.trod enc Tryd.prog W 0 (fun _ => true) true k 26 ((cs'.drop 4).take 32) = some xs[4] := by
        have := hfd 4 _ rfl
        rw [List.getElem?_eq_getElem (by omega)] at this
        change DataW.trod enc Tryd.prog W 0 (fun _ => true) true k 26 ((cs'.drop 4).take (Tryd.prog.cellsOf 26)) = _ at this
        rw [show Tryd.prog.cellsOf 26 = 32 by kernel_rfl] at this; exact this
      have g5 : DataW.trod enc Tryd.prog W 0 (fun _ => true) true k 27 ((cs'.drop 36).take 32) = some xs[5] := by
        have := hfd 5 _ rfl
        rw [List.getElem?_eq_getElem (by omega)] at this
        change DataW.trod enc Tryd.prog W 0 (fun _ => true) true k 27 ((cs'.drop 36).take (Tryd.prog.cellsOf 27)) = _ at this
        rw [show Tryd.prog.cellsOf 27 = 32 by kernel_rfl] at this; exact this
      have g6 : DataW.trod enc Tryd.prog W 0 (fun _ => true) true k 27 ((cs'.drop 68).take 32) = some xs[6] := by
        have := hfd 6 _ rfl
        rw [List.getElem?_eq_getElem (by omega)] at this
        change DataW.trod enc Tryd.prog W 0 (fun _ => true) true k 27 ((cs'.drop 68).take (Tryd.prog.cellsOf 27)) = _ at this
        rw [show Tryd.prog.cellsOf 27 = 32 by kernel_rfl] at this; exact this
      have g7 : DataW.trod enc Tryd.prog W 0 (fun _ => true) true k 28 ((cs'.drop 100).take 1) = some xs[7] := by
        have := hfd 7 _ rfl
        rw [List.getElem?_eq_getElem (by omega)] at this
        change DataW.trod enc Tryd.prog W 0 (fun _ => true) true k 28 ((cs'.drop 100).take (Tryd.prog.cellsOf 28)) = _ at this
        rw [show Tryd.prog.cellsOf 28 = 1 by kernel_rfl] at this; exact this
      have g8 : DataW.trod enc Tryd.prog W 0 (fun _ => true) true k 30 ((cs'.drop 101).take 102) = some xs[8] := by
        have := hfd 8 _ rfl
        rw [List.getElem?_eq_getElem (by omega)] at this
        change DataW.trod enc Tryd.prog W 0 (fun _ => true) true k 30 ((cs'.drop 101).take (Tryd.prog.cellsOf 30)) = _ at this
        rw [show Tryd.prog.cellsOf 30 = 102 by kernel_rfl] at this; exact this
      obtain ⟨z0, e0, _, b0⟩ := DataW.trod_int Tryd.underlying3 g0
      obtain ⟨z1, e1, _, b1⟩ := DataW.trod_int Tryd.underlying3 g1
      obtain ⟨z2, e2, _, b2⟩ := DataW.trod_int Tryd.underlying3 g2
      obtain ⟨z3, e3, _, b3⟩ := DataW.trod_int Tryd.underlying3 g3
      obtain ⟨k4, e4, l4, y4⟩ := open_key g4
      obtain ⟨k5, e5, l5, y5⟩ := open_dig g5
      obtain ⟨k6, e6, l6, y6⟩ := open_dig g6
      obtain ⟨sv, e7⟩ := trod_one (enc := enc) (W := W) (l := cs') (n := 100) (by omega)
      rw [e7] at g7
      have hws : WS 28 (xs[7]).1 := hd.field Tryd.underlying32 (j := 7) rfl (by rw [List.getElem?_map, List.getElem?_eq_getElem (by omega)]; rfl)
      obtain ⟨val, sp, cap', e8, yv, hS, hnil, hvl⟩ := open_bytesN (d := (xs[7]).1) (p := (xs[7]).2) hws g7
      subst e8
      obtain ⟨ys, kn, _, _, _, hyl, hfn⟩ := DataW.trod_struct (x := xs[8]) Tryd.underlying30 g8
      have hyl' : ys.length = 9 := hyl
      obtain ⟨nd, hnd⟩ : ∃ nd, nd = (cs'.drop 101).take 102 := ⟨_, rfl⟩
      have hnl : nd.length = 102 := by rw [hnd]; simp; omega
      rw [← hnd] at hfn
      have n0 : DataW.trod enc Tryd.prog W 0 (fun _ => true) true kn 3 ((nd.drop 0).take 1) = some ys[0] := by
        have := hfn 0 _ rfl
        rw [List.getElem?_eq_getElem (by omega)] at this
        change DataW.trod enc Tryd.prog W 0 (fun _ => true) true kn 3 ((nd.drop 0).take (Tryd.prog.cellsOf 3)) = _ at this
        rw [show Tryd.prog.cellsOf 3 = 1 by kernel_rfl] at this; exact this
      have n1 : DataW.trod enc Tryd.prog W 0 (fun _ => true) true kn 3 ((nd.drop 1).take 1) = some ys[1] := by
        have := hfn 1 _ rfl
        rw [List.getElem?_eq_getElem (by omega)] at this
        change DataW.trod enc Tryd.prog W 0 (fun _ => true) true kn 3 ((nd.drop 1).take (Tryd.prog.cellsOf 3)) = _ at this
        rw [show Tryd.prog.cellsOf 3 = 1 by kernel_rfl] at this; exact this
      have n2 : DataW.trod enc Tryd.prog W 0 (fun _ => true) true kn 3 ((nd.drop 2).take 1) = some ys[2] := by
        have := hfn 2 _ rfl
        rw [List.getElem?_eq_getElem (by omega)] at this
        change DataW.trod enc Tryd.prog W 0 (fun _ => true) true kn 3 ((nd.drop 2).take (Tryd.prog.cellsOf 3)) = _ at this
        rw [show Tryd.prog.cellsOf 3 = 1 by kernel_rfl] at this; exact this
      have n3 : DataW.trod enc Tryd.prog W 0 (fun _ => true) true kn 3 ((nd.drop 3).take 1) = some ys[3] := by
        have := hfn 3 _ rfl
        rw [List.getElem?_eq_getElem (by omega)] at this
        change DataW.trod enc Tryd.prog W 0 (fun _ => true) true kn 3 ((nd.drop 3).take (Tryd.prog.cellsOf 3)) = _ at this
        rw [show Tryd.prog.cellsOf 3 = 1 by kernel_rfl] at this; exact this
      have n4 : DataW.trod enc Tryd.prog W 0 (fun _ => true) true kn 3 ((nd.drop 4).take 1) = some ys[4] := by
        have := hfn 4 _ rfl
        rw [List.getElem?_eq_getElem (by omega)] at this
        change DataW.trod enc Tryd.prog W 0 (fun _ => true) true kn 3 ((nd.drop 4).take (Tryd.prog.cellsOf 3)) = _ at this
        rw [show Tryd.prog.cellsOf 3 = 1 by kernel_rfl] at this; exact this
      have n5 : DataW.trod enc Tryd.prog W 0 (fun _ => true) true kn 27 ((nd.drop 5).take 32) = some ys[5] := by
        have := hfn 5 _ rfl
        rw [List.getElem?_eq_getElem (by omega)] at this
        change DataW.trod enc Tryd.prog W 0 (fun _ => true) true kn 27 ((nd.drop 5).take (Tryd.prog.cellsOf 27)) = _ at this
        rw [show Tryd.prog.cellsOf 27 = 32 by kernel_rfl] at this; exact this
      have n6 : DataW.trod enc Tryd.prog W 0 (fun _ => true) true kn 27 ((nd.drop 37).take 32) = some ys[6] := by
        have := hfn 6 _ rfl
        rw [List.getElem?_eq_getElem (by omega)] at this
        change DataW.trod enc Tryd.prog W 0 (fun _ => true) true kn 27 ((nd.drop 37).take (Tryd.prog.cellsOf 27)) = _ at this
        rw [show Tryd.prog.cellsOf 27 = 32 by kernel_rfl] at this; exact this
      have n7 : DataW.trod enc Tryd.prog W 0 (fun _ => true) true kn 26 ((nd.drop 69).take 32) = some ys[7] := by
        have := hfn 7 _ rfl
        rw [List.getElem?_eq_getElem (by omega)] at this
        change DataW.trod enc Tryd.prog W 0 (fun _ => true) true kn 26 ((nd.drop 69).take (Tryd.prog.cellsOf 26)) = _ at this
        rw [show Tryd.prog.cellsOf 26 = 32 by kernel_rfl] at this; exact this
      have n8 : DataW.trod enc Tryd.prog W 0 (fun _ => true) true kn 28 ((nd.drop 101).take 1) = some ys[8] := by
        have := hfn 8 _ rfl
        rw [List.getElem?_eq_getElem (by omega)] at this
        change DataW.trod enc Tryd.prog W 0 (fun _ => true) true kn 28 ((nd.drop 101).take (Tryd.prog.cellsOf 28)) = _ at this
        rw [show Tryd.prog.cellsOf 28 = 1 by kernel_rfl] at this; exact this
      obtain ⟨y0, f0, _, _⟩ := DataW.trod_int Tryd.underlying3 n0
      obtain ⟨y1, f1, _, _⟩ := DataW.trod_int Tryd.underlying3 n1
      obtain ⟨y2, f2, _, _⟩ := DataW.trod_int Tryd.underlying3 n2
      obtain ⟨y3, f3, _, _⟩ := DataW.trod_int Tryd.underlying3 n3
      obtain ⟨y4', f4, _, _⟩ := DataW.trod_int Tryd.underlying3 n4
      obtain ⟨u5, f5, _, _⟩ := open_dig n5
      obtain ⟨u6, f6, _, _⟩ := open_dig n6
      obtain ⟨u7, f7, _, _⟩ := open_key n7
      obtain ⟨sn, f8⟩ := trod_one (enc := enc) (W := W) (l := nd) (n := 101) (by omega)
      rw [f8] at n8
      have hd8 : WS 30 (xs[8]).1 := hd.field Tryd.underlying32 (j := 8) rfl (by rw [List.getElem?_map, List.getElem?_eq_getElem (by omega)]; rfl)
      have hsn : sn.oneCell' = true := by
        rcases open_ints Tryd.underlying28 Tryd.underlying5 cells5 n8 with ⟨hcs, _⟩ | ⟨a, len, cap, zs, hcs, _⟩
        · simp at hcs; rw [hcs]; rfl
        · simp at hcs; rw [hcs]; rfl
      have hne : nd = [.int .i64 y0] ++ ([.int .i64 y1] ++ ([.int .i64 y2] ++ ([.int .i64 y3] ++ ([.int .i64 y4'] ++ (ints .u8 u5 ++ (ints .u8 u6 ++ (ints .u8 u7 ++ ([sn] ++ nd.drop 102)))))))) := by
        rw [← f0, ← f1, ← f2, ← f3, ← f4, ← f5, ← f6, ← f7, ← f8, ← cut_at nd 101 1, ← cut_at nd 69 32, ← cut_at nd 37 32, ← cut_at nd 5 32, ← cut_at nd 4 1, ← cut_at nd 3 1, ← cut_at nd 2 1, ← cut_at nd 1 1, ← cut_at nd 0 1]; rfl
      rw [List.drop_of_length_le (by omega : nd.length ≤ 102)] at hne
      have hn1 : ∀ x ∈ nd, x.oneCell' = true := fun x hx => by
        rw [hne] at hx
        simp only [List.mem_append, List.mem_cons, List.not_mem_nil, or_false] at hx
        rcases hx with rfl | rfl | rfl | rfl | rfl | hx | hx | hx | rfl
        · rfl
        · rfl
        · rfl
        · rfl
        · rfl
        · exact ints_one _ _ x hx
        · exact ints_one _ _ x hx
        · exact ints_one _ _ x hx
        · exact hsn
      have hcs : cs' = opC ⟨z0, z1, z2, z3, k4, k5, k6, .slice sp val.length cap', nd⟩ := by
        have : cs' = [.int .i64 z0] ++ ([.int .i64 z1] ++ ([.int .i64 z2] ++ ([.int .i64 z3] ++ (ints .u8 k4 ++ (ints .u8 k5 ++ (ints .u8 k6 ++ ([.slice sp val.length cap'] ++ (nd ++ cs'.drop 203)))))))) := by
          rw [← e0, ← e1, ← e2, ← e3, ← e4, ← e5, ← e6, ← e7, hnd, ← cut_at cs' 101 102, ← cut_at cs' 100 1, ← cut_at cs' 68 32, ← cut_at cs' 36 32, ← cut_at cs' 4 32, ← cut_at cs' 3 1, ← cut_at cs' 2 1, ← cut_at cs' 1 1, ← cut_at cs' 0 1]; rfl
        rw [List.drop_of_length_le (by omega : cs'.length ≤ 203), List.append_nil] at this
        exact this
      refine ⟨⟨z0, z1, z2, z3, k4, k5, k6, .slice sp val.length cap', nd⟩, fun j u hu => ?_, ⟨l4, l5, l6, hnl, y4, rfl, hn1⟩, ⟨val, sp, cap', rfl, hS, hnil, hvl⟩⟩
      rw [← hcs] at hu
      have hj := (List.getElem?_eq_some_iff.1 hu).1
      have := hcell j (by omega)
      rw [Deep.add_add] at this
      rw [this, hu]
    haveI : Inhabited NOp := ⟨zOp⟩
    obtain ⟨q, hq⟩ := Deep.choose_lt (α := NOp) each
    have gm : ∀ i, i < len → ((List.range len).map q).getD i zOp = q i := fun i hi => by simp [hi]
    have hlen : ((List.range len).map q).length = len := by simp
    have okc : ∀ c ∈ (List.range len).map q, NOk c ∧ VOk W c := fun c hc => by
      obtain ⟨i, hi, rfl⟩ := List.mem_map.1 hc
      exact (hq i (List.mem_range.1 hi)).2
    have hmx : (len : Int) ≤ 9223372036854775807 := by unfold maxLen at hm; omega
    by_cases hz : 0 < len
    · have c00 := (hq 0 hz).1 0 _ rfl
      have hsp : a.spot = none := by
        have := World.cell?_spot c00
        unfold Addr.add at this; split at this <;> simp_all
      obtain ⟨b, o, spot⟩ := a
      obtain rfl : spot = none := hsp
      have hblk : b < W.heap.size := by
        have := block_lt_of_cell c00; rwa [Addr.add_mid] at this
      refine ⟨(List.range len).map q, some ⟨b, o, none⟩, m, by rw [hlen], ⟨b, o, fun _ => ⟨hblk, rfl⟩, fun i hi => ?_⟩, okc, by rw [hlen]; exact hmx⟩
      rw [hlen] at hi
      rw [gm i hi]
      intro j u hu
      have := (hq i hi).1 j u hu
      rw [Addr.add_mid, ← Nat.add_assoc] at this
      exact this
    · exact ⟨(List.range len).map q, some a, m, by rw [hlen], ⟨0, 0, fun h => by rw [hlen] at h; omega, fun i hi => by rw [hlen] at hi; omega⟩, okc, by rw [hlen]; exact hmx⟩
end Go.Proofs.YtipbbmbkjcpjbaaDoor
