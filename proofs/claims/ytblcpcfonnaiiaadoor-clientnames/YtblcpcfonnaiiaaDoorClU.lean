import Derived.Test.YtblcpcfonnaiiaaDoorClV
import Derived.Test.YtblcpcfonnaiiaaDoorCards
import Derived.Test.YtblcpcfonnaiiaaDoorTie
import Derived.ProofKit
import Derived.OpenShut
import Derived.SizedLaws
import Derived.Deep.DeepHandedRow
import Derived.Deep.Slices
import Derived.Lib.LaidTab
namespace Go.Proofs.YtblcpcfonnaiiaaDoor
set_option linter.unusedVariables false
set_option linter.unusedSimpArgs false
open Go.ChangeShapes Go.WideShapes Go.ChangeAt Go.RowKit

theorem own_knob : ownKnob Tryd.prog.godebug = none := by kernel_rfl
theorem Tryd.laidOut : laidOutB Tryd.prog = true := by kernel_rfl
theorem cells5 : Tryd.prog.cellsOf 5 = 1 := by kernel_rfl
theorem Tryd.bytes5 : Tryd.prog.bytesOf 5 = 1 := by kernel_rfl
theorem cellsD : Tryd.prog.cellsOf 29 = 32 := by kernel_rfl
theorem cellsK : Tryd.prog.cellsOf 31 = 32 := by kernel_rfl
theorem gF : Tryd.prog.globalNamed "ledger/digest.firstState" = some 0 := by kernel_rfl
theorem gK : Tryd.prog.globalNamed "ledger/digest.roundConstants" = some 3 := by kernel_rfl
theorem gFt : (Tryd.prog.globals[0]?).map (·.type) = some 73 := by kernel_rfl
theorem gKt : (Tryd.prog.globals[3]?).map (·.type) = some 85 := by kernel_rfl
theorem cellsA8 : Tryd.prog.cellsOf 73 = 8 := by kernel_rfl
theorem cellsA64 : Tryd.prog.cellsOf 85 = 64 := by kernel_rfl
theorem cellsU : Tryd.prog.cellsOf 72 = 1 := by kernel_rfl
theorem glob_of {W : World} (hF : Lib.TabIs Tryd.prog W "ledger/digest.firstState" .u32 fTab) (hK : Lib.TabIs Tryd.prog W "ledger/digest.roundConstants" .u32 kTab) : Glob W := by
  have cK : ∀ j, j < 64 → W.cell? ⟨3, j, none⟩ = some (.int .u32 (kTab.getD j 0)) := fun j hj => hK.cell gK j hj
  have cF : ∀ j, j < 8 → W.cell? ⟨0, j, none⟩ = some (.int .u32 (fTab.getD j 0)) := fun j hj => hF.cell gF j hj
  refine ⟨by have h1 := block_lt_of_cell (cK 0 (by omega)); have h2 := block_lt_of_cell (cF 0 (by omega)); simp only at h1 h2; omega, fun j v hv => ?_, fun j v hv => ?_⟩
  · have hj : j < kTab.length := by have := (List.getElem?_eq_some_iff.1 hv).1; rwa [ints_len] at this
    rw [ints_get .u32 kTab j hj] at hv
    rw [Nat.zero_add, ← hv]; exact cK j hj
  · have hj : j < fTab.length := by have := (List.getElem?_eq_some_iff.1 hv).1; rwa [ints_len] at this
    rw [ints_get .u32 fTab j hj] at hv
    rw [Nat.zero_add, ← hv]; exact cF j hj
theorem gRF : Tryd.prog.globalNamed "ledger/ledgerref1.first" = some 1 := by kernel_rfl
theorem gRK : Tryd.prog.globalNamed "ledger/ledgerref1.consts" = some 2 := by kernel_rfl
theorem gRFt : (Tryd.prog.globals[1]?).map (·.type) = some 73 := by kernel_rfl
theorem gRKt : (Tryd.prog.globals[2]?).map (·.type) = some 85 := by kernel_rfl
theorem globR_of {W : World} (hF : Lib.TabIs Tryd.prog W "ledger/ledgerref1.first" .u32 fTab) (hK : Lib.TabIs Tryd.prog W "ledger/ledgerref1.consts" .u32 kTab) : GlobR W := by
  have cK : ∀ j, j < 64 → W.cell? ⟨2, j, none⟩ = some (.int .u32 (kTab.getD j 0)) := fun j hj => hK.cell gRK j hj
  have cF : ∀ j, j < 8 → W.cell? ⟨1, j, none⟩ = some (.int .u32 (fTab.getD j 0)) := fun j hj => hF.cell gRF j hj
  refine ⟨fun j v hv => ?_, fun j v hv => ?_⟩
  · have hj : j < kTab.length := by have := (List.getElem?_eq_some_iff.1 hv).1; rwa [ints_len] at this
    rw [ints_get .u32 kTab j hj] at hv
    rw [Nat.zero_add, ← hv]; exact cK j hj
  · have hj : j < fTab.length := by have := (List.getElem?_eq_some_iff.1 hv).1; rwa [ints_len] at this
    rw [ints_get .u32 fTab j hj] at hv
    rw [Nat.zero_add, ← hv]; exact cF j hj
theorem tab4 {W : World} (h : laidMetH Tryd.prog Rows.clientNamesRow.laid W) : Gb W := by
  obtain ⟨ps, ⟨g1, t1, cs1, f1, p1, q1, hg1, ht1, hv1, hd1, ⟨g2, t2, cs2, f2, p2, q2, hg2, ht2, hv2, hd2, ⟨g3, t3, cs3, f3, p3, q3, hg3, ht3, hv3, hd3, ⟨g4, t4, cs4, f4, p4, q4, hg4, ht4, hv4, hd4, _, _⟩, _⟩, _⟩, _⟩, _⟩ := h
  obtain rfl := Option.some.inj (gRF.symm.trans hg1)
  obtain rfl := Option.some.inj (gRFt.symm.trans ht1)
  obtain rfl := Option.some.inj (gRK.symm.trans hg2)
  obtain rfl := Option.some.inj (gRKt.symm.trans ht2)
  obtain rfl := Option.some.inj (gF.symm.trans hg3)
  obtain rfl := Option.some.inj (gFt.symm.trans ht3)
  obtain rfl := Option.some.inj (gK.symm.trans hg4)
  obtain rfl := Option.some.inj (gKt.symm.trans ht4)
  refine ⟨glob_of ?_ ?_, globR_of ?_ ?_⟩ <;> unfold Lib.TabIs
  · rw [hv3, ← Lib.cells_of_tab (zs := fTab) Tryd.underlying73 Tryd.underlying72 cellsU cellsA8 hd3]
  · rw [hv4, ← Lib.cells_of_tab (zs := kTab) Tryd.underlying85 Tryd.underlying72 cellsU cellsA64 hd4]
  · rw [hv1, ← Lib.cells_of_tab (zs := fTab) Tryd.underlying73 Tryd.underlying72 cellsU cellsA8 hd1]
  · rw [hv2, ← Lib.cells_of_tab (zs := kTab) Tryd.underlying85 Tryd.underlying72 cellsU cellsA64 hd2]
def putTab (zs : List Int) : Obj → Obj
  | .cells _ t frozen => .cells (ints .u32 zs).toArray t frozen
  | o => o
/-- A world for the witness: the settled one, the four tables holding what their text lays. -/
noncomputable def laidWorld (os : Os) : World :=
  { World.holding Tryd.prog os ⟨#[], #[], []⟩ with heap := ((((World.holding Tryd.prog os ⟨#[], #[], []⟩).heap.modify 0 (putTab fTab)).modify 3 (putTab kTab)).modify 1 (putTab fTab)).modify 2 (putTab kTab) }


set_option maxRecDepth 100000 in
theorem clientNames_contract (H : Type) (enc : TypeId × Value → H) (W : World) (base : Nat) (args : Array Value) (ds gs : List (DataW H)) (before : List MemPlace)
    (hval : ∀ (j : Nat) t v, Tryd.f3.params[j]? = some t → args[j]? = some v → Value.okWide Tryd.prog W .any base t v)
    (hW : DataW.Whole enc Tryd.prog Tryd.f3.params.toList Rows.clientNamesSpec.vars false W args.toList ds gs before) (hL : laidMetH Tryd.prog Rows.clientNamesRow.laid W)
    (hsz : (DataW.weightsEach Tryd.prog (Tryd.f3.params.toList ++ Rows.clientNamesSpec.plain.varTypes Tryd.prog) (ds ++ gs)).all (· ≤ reachBytes) = true) :
    Calls Tryd.prog 3 args W fun e W' => ∃ v, e = .returned v ∧ Rows.clientNamesSpec.post enc Tryd.prog Tryd.f3 false true false false W args v W' := by
  have hW' := hW
  obtain ⟨p, q, hA0, hV, rfl, hfz, hnd⟩ := hW
  have hA : DataW.TrodAll enc Tryd.prog W 0 (fun _ => true) true Tryd.f3.params.toList args.toList ds p := hA0
  rw [Tryd.params3] at hA hval hsz
  obtain ⟨ha, rfl, rfl⟩ := trodAll_nil hA
  obtain rfl : args = #[] := by cases args; simp_all
  obtain ⟨rfl, rfl⟩ := trodVars_none hV
  have hG : Gb W := tab4 hL
  clear hA0
  refine (clientNames_any W hG).mono fun e W' ⟨he, bel⟩ => ?_
  subst he
  exact ⟨_, rfl, _, _, _, [], _, [], hW', trodAll_mk1 (shut_bool Tryd.underlying4 _), trodAll_mk0, rfl, bel.frame _, fun h => by cases h⟩

theorem clientNames_laid (os : Os) : laidMet Tryd.prog Rows.clientNamesRow.laid ((laidWorld os).forCall (fun _ _ => 0) ⟨#[], #[], []⟩).memory :=
  laidMet_of_run' 8 (by kernel_rfl) (by kernel_rfl)
def clientNames_xs {H : Type} : List (DataW H) := []
theorem clientNames_reads (os : Os) {H : Type} (enc : TypeId × Value → H) : ∃ places, DataW.whole enc Tryd.prog ((laidWorld os).forCall (fun _ _ => 0) ⟨#[], #[], []⟩).memory Tryd.f3.params.toList Rows.clientNamesSpec.vars false (#[] : Array Value).toList 8 = some (clientNames_xs, [], places) :=
  ⟨[], by kernel_rfl⟩
set_option maxRecDepth 100000 in
theorem clientNames_lifted (os : Os) (started : os.Started) (H : Type) (enc : TypeId × Value → H) (F : Stop.Interp) :
    ReturnsInHanded {} Tryd.checked os 3 .any ((OpenSpec.ofChange Rows.clientNamesSpec).preRow enc Tryd.prog Tryd.f3 Rows.clientNamesRow.domain false Rows.clientNamesRow.laid) (((OpenSpec.ofChange Rows.clientNamesSpec).at F).post enc Tryd.prog Tryd.f3 false true false false) := by
  obtain ⟨places, hx⟩ := clientNames_reads os enc
  refine returnsInHanded_of_row (C := Tryd.checked) (s := OpenSpec.ofChange Rows.clientNamesSpec) own_knob started (by kernel_rfl) Tryd.func3
    (witness_row_at (enc := enc) (C := Tryd.checked) false (laidWorld os) #[] rfl (by kernel_rfl) (by kernel_rfl) (by kernel_rfl)
      (OpenSpec.preRow_of_cond 8 hx (by kernel_rfl) (fun k hk => by cases hk) (by kernel_rfl) (clientNames_laid os))) ?_
  intro W base args ds gs before hval hW _ _ hsz hL _ _
  exact clientNames_contract H enc W base args ds gs before hval hW hL hsz

theorem clientNames_said : Rows.ClientNamesSaid :=
  OpenClaim.holds_of_cond 3 Tryd.f3 rfl rfl rfl rfl rfl rfl rfl ⟨rfl, rfl, rfl, rfl, rfl⟩ rfl rfl rfl rfl rfl (by kernel_rfl) Tryd.func3 (by kernel_rfl)
    (of_decide_eq_true (by kernel_rfl)) (by unfold Func.isWrapper; first | (rw [if_pos (by decide +kernel)]; kernel_rfl) | (rw [if_neg (by decide +kernel)]; exact ⟨rfl, rfl⟩))
    (fun os started H enc _ F => by rw [OpenClaim.pre_eq_preRow]; exact clientNames_lifted os started H enc F)

theorem clientNames_plain (f : FuncId) (fn : Func) (hf : Tryd.pinned.checked.prog.funcNamed "ledger/ledgerlaw13.ClientNames" = some f) (hfn : Tryd.pinned.checked.prog.funcs[f]? = some fn) :
    false = Tryd.pinned.checked.prog.looks [] ∧ ∀ (j : Nat) t, fn.params[j]? = some t → Tryd.pinned.checked.prog.wantsStandIn t = false := by
  obtain rfl : f = 3 := Option.some.inj ((show Tryd.prog.funcNamed "ledger/ledgerlaw13.ClientNames" = some 3 by kernel_rfl).symm.trans hf) |>.symm
  obtain rfl : fn = Tryd.f3 := (Option.some.inj (Tryd.func3.symm.trans hfn)).symm
  refine ⟨by kernel_rfl, fun j t ht => ?_⟩
  rw [Tryd.params3] at ht
  have hm := Array.mem_of_getElem? ht
  simp at hm

theorem clientNames_card : Rows.ClientNamesCardSaid :=
  Claim7.holds_tied_plain_at .later [] _ _ _ _ clientNames_said (fun _ h => by cases h) (by kernel_rfl) (fun _ h => by cases h) clientNames_row_tie rfl ⟨rfl, rfl⟩ (by kernel_rfl) rfl clientNames_plain (by kernel_rfl)
#print axioms clientNames_card
end Go.Proofs.YtblcpcfonnaiiaaDoor
