import Derived.Test.YtpjfpepjledlmaaGreatDoorPr5
import Derived.Test.YtpjfpepjledlmaaGreatDoorCards
import Derived.Test.YtpjfpepjledlmaaGreatDoorTie
import Derived.ProofKit
import Derived.OpenShut
import Derived.SizedLaws
import Derived.Deep.DeepHandedRow
import Derived.Deep.Slices
import Derived.Lib.LaidTab
namespace Go.Proofs.YtpjfpepjledlmaaGreatDoor
set_option linter.unusedVariables false
set_option linter.unusedSimpArgs false
open Go.ChangeShapes Go.WideShapes Go.ChangeAt Go.RowKit

theorem own_knob : ownKnob Tryz.prog.godebug = none := by kernel_rfl
theorem Tryz.laidOut : laidOutB Tryz.prog = true := by kernel_rfl
theorem cells5 : Tryz.prog.cellsOf 5 = 1 := by kernel_rfl
theorem Tryz.bytes5 : Tryz.prog.bytesOf 5 = 1 := by kernel_rfl
theorem cellsK : Tryz.prog.cellsOf 23 = 32 := by kernel_rfl
theorem gF : Tryz.prog.globalNamed "ledger/digest.firstState" = some 0 := by kernel_rfl
theorem gK : Tryz.prog.globalNamed "ledger/digest.roundConstants" = some 1 := by kernel_rfl
theorem gFt : (Tryz.prog.globals[0]?).map (·.type) = some 190 := by kernel_rfl
theorem gKt : (Tryz.prog.globals[1]?).map (·.type) = some 203 := by kernel_rfl
theorem cellsA8 : Tryz.prog.cellsOf 190 = 8 := by kernel_rfl
theorem cellsA64 : Tryz.prog.cellsOf 203 = 64 := by kernel_rfl
theorem cellsU : Tryz.prog.cellsOf 189 = 1 := by kernel_rfl
theorem glob_of {W : World} (hF : Lib.TabIs Tryz.prog W "ledger/digest.firstState" .u32 fTab) (hK : Lib.TabIs Tryz.prog W "ledger/digest.roundConstants" .u32 kTab) : Glob W := by
  have cK : ∀ j, j < 64 → W.cell? ⟨1, j, none⟩ = some (.int .u32 (kTab.getD j 0)) := fun j hj => hK.cell gK j hj
  have cF : ∀ j, j < 8 → W.cell? ⟨0, j, none⟩ = some (.int .u32 (fTab.getD j 0)) := fun j hj => hF.cell gF j hj
  refine ⟨by have h1 := block_lt_of_cell (cK 0 (by omega)); have h2 := block_lt_of_cell (cF 0 (by omega)); simp only at h1 h2; omega, fun j v hv => ?_, fun j v hv => ?_⟩
  · have hj : j < kTab.length := by have := (List.getElem?_eq_some_iff.1 hv).1; rwa [ints_len] at this
    rw [ints_get .u32 kTab j hj] at hv
    rw [Nat.zero_add, ← hv]; exact cK j hj
  · have hj : j < fTab.length := by have := (List.getElem?_eq_some_iff.1 hv).1; rwa [ints_len] at this
    rw [ints_get .u32 fTab j hj] at hv
    rw [Nat.zero_add, ← hv]; exact cF j hj
theorem tab2 {W : World} (h : laidMetH Tryz.prog Rows.proofRefusesRow.laid W) : Glob W := by
  have hF : Lib.TabIs Tryz.prog W "ledger/digest.firstState" .u32 fTab := Lib.tabIs_of_head (rest := [("ledger/digest.roundConstants", Rows.laid_ledger_digest_roundConstants)]) gF gFt Tryz.underlying190 Tryz.underlying189 cellsU cellsA8 h
  refine glob_of hF ?_
  obtain ⟨ps, ⟨g1, t1, cs1, f1, p1, q1, _, _, _, _, ⟨g2, t2, cs2, f2, p2, q2, hg2, ht2, hv2, hd2, _, _⟩, _⟩, _⟩ := h
  obtain rfl := Option.some.inj (gK.symm.trans hg2)
  obtain rfl := Option.some.inj (gKt.symm.trans ht2)
  unfold Lib.TabIs
  rw [hv2, ← Lib.cells_of_tab (zs := kTab) Tryz.underlying203 Tryz.underlying189 cellsU cellsA64 hd2]
def putTab (zs : List Int) : Obj → Obj
  | .cells _ t frozen => .cells (ints .u32 zs).toArray t frozen
  | o => o
/-- A world for the witness: the settled one, the two tables holding what their text lays. -/
noncomputable def laidWorld (os : Os) : World :=
  { World.holding Tryz.prog os ⟨#[], #[], []⟩ with heap := ((World.holding Tryz.prog os ⟨#[], #[], []⟩).heap.modify 0 (putTab fTab)).modify 1 (putTab kTab) }
section
variable {H : Type} {enc : TypeId × Value → H} {W : World}
theorem open_key {fuel : Nat} {cs : List Value} {x : DataW H × List MemPlace} (h : DataW.trod enc Tryz.prog W 0 (fun _ => true) true fuel 23 cs = some x) : ∃ k : List Int, cs = ints .u8 k ∧ k.length = 32 ∧ Byts k := by
  cases fuel with
  | zero => simp [DataW.trod] at h
  | succ n =>
    rw [DataW.trod_step] at h
    unfold DataW.trodStep at h
    simp only [Tryz.underlying23, cellsK, cells5] at h
    split at h
    · rename_i hl
      obtain ⟨xs, hm, _⟩ := Option.map_eq_some_iff.1 h
      have each : ∀ i, i < 32 → ∃ z, cs[i]? = some (.int .u8 z) ∧ 0 ≤ z ∧ z < 256 := fun i hi => by
        have := mapM_some_get hm i i (by simp [hi])
        have hxl := mapM_some_length hm
        simp at hxl
        rw [List.getElem?_eq_getElem (by omega)] at this
        obtain ⟨z, hz, _, hw⟩ := DataW.trod_int Tryz.underlying5 this
        have hb := bounds_u8 hw
        refine ⟨z, ?_, by omega, by omega⟩
        have e : ((cs.drop (i * 1)).take 1)[0]? = cs[i]? := by simp
        rw [← e, hz]; rfl
      refine ⟨cs.map intOf, ?_, by simp [hl], ?_⟩
      · apply List.ext_getElem?
        intro i
        by_cases hi : i < 32
        · obtain ⟨z, hz, _⟩ := each i hi
          simp [ints, hz, intOf]
        · rw [List.getElem?_eq_none (by omega), List.getElem?_eq_none (by simp [ints]; omega)]
      · intro y hy
        obtain ⟨v, hv, rfl⟩ := List.mem_map.1 hy
        obtain ⟨i, hi, rfl⟩ := List.mem_iff_getElem.1 hv
        obtain ⟨z, hz, h1, h2⟩ := each i (by omega)
        rw [List.getElem?_eq_getElem hi] at hz
        rw [Option.some.inj hz]; exact ⟨h1, h2⟩
    · cases h
end
set_option maxRecDepth 100000 in
theorem open_path {H : Type} {enc : TypeId × Value → H} {W : World} {v : Value} {d : DataW H} {p : List MemPlace} {b0 : Nat}
    (hv : Value.okWide Tryz.prog W .any b0 23 v) (h : DataW.Trod enc Tryz.prog W 0 (fun _ => true) true 23 v d p) : ∃ zs : List Int, zs.length = 32 ∧ Byts zs ∧ v = .agg (ints .u8 zs).toArray := by
  obtain ⟨cs, rfl⟩ : ∃ cs, v = .agg cs := by
    have hu := Tryz.underlying23
    generalize Tryz.prog = P at hv hu
    simp only [Value.okWide, hu] at hv
    obtain ⟨cs, e, _⟩ := hv
    exact ⟨cs, e⟩
  obtain ⟨fuel, hf⟩ := h
  obtain ⟨k, h1, h2, h3⟩ := open_key hf
  exact ⟨k, h2, h3, by rw [← h1]; rfl⟩
def zeroA {H : Type} : DataW H := .agg [.lit (.int .u8 0), .lit (.int .u8 0), .lit (.int .u8 0), .lit (.int .u8 0), .lit (.int .u8 0), .lit (.int .u8 0), .lit (.int .u8 0), .lit (.int .u8 0), .lit (.int .u8 0), .lit (.int .u8 0), .lit (.int .u8 0), .lit (.int .u8 0), .lit (.int .u8 0), .lit (.int .u8 0), .lit (.int .u8 0), .lit (.int .u8 0), .lit (.int .u8 0), .lit (.int .u8 0), .lit (.int .u8 0), .lit (.int .u8 0), .lit (.int .u8 0), .lit (.int .u8 0), .lit (.int .u8 0), .lit (.int .u8 0), .lit (.int .u8 0), .lit (.int .u8 0), .lit (.int .u8 0), .lit (.int .u8 0), .lit (.int .u8 0), .lit (.int .u8 0), .lit (.int .u8 0), .lit (.int .u8 0)]

set_option maxRecDepth 100000 in
theorem proofRefuses_contract (H : Type) (enc : TypeId × Value → H) (W : World) (base : Nat) (args : Array Value) (ds gs : List (DataW H)) (before : List MemPlace)
    (hval : ∀ (j : Nat) t v, Tryz.f3.params[j]? = some t → args[j]? = some v → Value.okWide Tryz.prog W .any base t v)
    (hW : DataW.Whole enc Tryz.prog Tryz.f3.params.toList Rows.proofRefusesSpec.vars false W args.toList ds gs before) (hL : laidMetH Tryz.prog Rows.proofRefusesRow.laid W)
    (hsz : (DataW.weightsEach Tryz.prog (Tryz.f3.params.toList ++ Rows.proofRefusesSpec.plain.varTypes Tryz.prog) (ds ++ gs)).all (· ≤ reachBytes) = true) :
    Calls Tryz.prog 3 args W fun e W' => ∃ v, e = .returned v ∧ Rows.proofRefusesSpec.post enc Tryz.prog Tryz.f3 false true false false W args v W' := by
  have hW' := hW
  obtain ⟨p, q, hA0, hV, rfl, hfz, hnd⟩ := hW
  have hA : DataW.TrodAll enc Tryz.prog W 0 (fun _ => true) true Tryz.f3.params.toList args.toList ds p := hA0
  rw [Tryz.params3] at hA hval hsz
  obtain ⟨v0, vs0, d0, ds0, p0, q0, hargs, rfl, rfl, h0, r0⟩ := trodAll_cons hA
  obtain ⟨v1, vs1, d1, ds1, p1, q1, rfl, rfl, rfl, h1, r1⟩ := trodAll_cons r0
  obtain ⟨v2, vs2, d2, ds2, p2, q2, rfl, rfl, rfl, h2, r2⟩ := trodAll_cons r1
  obtain ⟨v3, vs3, d3, ds3, p3, q3, rfl, rfl, rfl, h3, r3⟩ := trodAll_cons r2
  obtain ⟨rfl, rfl, rfl⟩ := trodAll_nil r3
  obtain rfl : args = #[v0, v1, v2, v3] := by cases args; simp_all
  obtain ⟨rfl, rfl⟩ := trodVars_none hV
  have hG : Glob W := tab2 hL
  obtain ⟨a0, rfl, rfl, rfl, w0⟩ := open_int Tryz.underlying3 (hval 0 3 v0 rfl rfl) h0
  obtain ⟨a1, rfl, rfl, rfl, w1⟩ := open_int Tryz.underlying3 (hval 1 3 v1 rfl rfl) h1
  obtain ⟨a2, rfl, rfl, rfl, w2⟩ := open_int Tryz.underlying3 (hval 2 3 v2 rfl rfl) h2
  have k3 := h3
  have lt3 : ∀ x ∈ p3, x.block < W.heap.size := by obtain ⟨m, hm⟩ := k3; exact DataW.trod_lt m _ _ _ hm
  obtain ⟨zs3, hl3, y3, rfl⟩ := open_path (hval 3 23 v3 rfl rfl) h3
  clear hA0
  refine (proofRefuses_any W hG a0 a1 a2 (ints .u8 zs3) (by rw [ints_len, hl3]) (ints_one .u8 zs3)).mono fun e W' ⟨he, bel⟩ => ?_
  subst he
  exact ⟨_, rfl, _, _, _, [], _, [], hW', trodAll_mk1 (shut_bool Tryz.underlying4 _), (trodAll_cons_mk (shut_int Tryz.underlying3 w0) (trodAll_cons_mk (shut_int Tryz.underlying3 w1) (trodAll_cons_mk (shut_int Tryz.underlying3 w2) (trodAll_cons_mk (Below.trod Tryz.laidOut (by kernel_rfl) (of_decide_eq_true (by kernel_rfl)) k3 bel lt3) trodAll_mk0)))), rfl, bel.frame _, fun h => by cases h⟩

theorem proofRefuses_laid (os : Os) : laidMet Tryz.prog Rows.proofRefusesRow.laid ((laidWorld os).forCall (fun _ _ => 0) ⟨#[], #[.int .i64 0, .int .i64 0, .int .i64 0, .agg (ints .u8 z32).toArray], []⟩).memory :=
  laidMet_of_run' 8 (by kernel_rfl) (by kernel_rfl)
def proofRefuses_xs {H : Type} : List (DataW H) := [.lit (.int .i64 0), .lit (.int .i64 0), .lit (.int .i64 0), zeroA]
theorem proofRefuses_reads (os : Os) {H : Type} (enc : TypeId × Value → H) : ∃ places, DataW.whole enc Tryz.prog ((laidWorld os).forCall (fun _ _ => 0) ⟨#[], #[.int .i64 0, .int .i64 0, .int .i64 0, .agg (ints .u8 z32).toArray], []⟩).memory Tryz.f3.params.toList Rows.proofRefusesSpec.vars false (#[.int .i64 0, .int .i64 0, .int .i64 0, .agg (ints .u8 z32).toArray] : Array Value).toList 8 = some (proofRefuses_xs, [], places) :=
  ⟨[], by kernel_rfl⟩
set_option maxRecDepth 100000 in
theorem proofRefuses_lifted (os : Os) (started : os.Started) (H : Type) (enc : TypeId × Value → H) (F : Stop.Interp) :
    ReturnsInHanded {} Tryz.checked os 3 .any ((OpenSpec.ofChange Rows.proofRefusesSpec).preRow enc Tryz.prog Tryz.f3 Rows.proofRefusesRow.domain false Rows.proofRefusesRow.laid) (((OpenSpec.ofChange Rows.proofRefusesSpec).at F).post enc Tryz.prog Tryz.f3 false true false false) := by
  obtain ⟨places, hx⟩ := proofRefuses_reads os enc
  refine returnsInHanded_of_row (C := Tryz.checked) (s := OpenSpec.ofChange Rows.proofRefusesSpec) own_knob started (by kernel_rfl) Tryz.func3
    (witness_row_at (enc := enc) (C := Tryz.checked) false (laidWorld os) #[.int .i64 0, .int .i64 0, .int .i64 0, .agg (ints .u8 z32).toArray] rfl (by kernel_rfl) (by kernel_rfl) (by kernel_rfl)
      (OpenSpec.preRow_of_cond 8 hx (by kernel_rfl) (fun k hk => by cases hk) (by kernel_rfl) (proofRefuses_laid os))) ?_
  intro W base args ds gs before hval hW _ _ hsz hL _ _
  exact proofRefuses_contract H enc W base args ds gs before hval hW hL hsz

theorem proofRefuses_said : Rows.ProofRefusesSaid :=
  OpenClaim.holds_of_cond 3 Tryz.f3 rfl rfl rfl rfl rfl rfl rfl ⟨rfl, rfl, rfl, rfl, rfl⟩ rfl rfl rfl rfl rfl (by kernel_rfl) Tryz.func3 (by kernel_rfl)
    (of_decide_eq_true (by kernel_rfl)) (by unfold Func.isWrapper; first | (rw [if_pos (by decide +kernel)]; kernel_rfl) | (rw [if_neg (by decide +kernel)]; exact ⟨rfl, rfl⟩))
    (fun os started H enc _ F => by rw [OpenClaim.pre_eq_preRow]; exact proofRefuses_lifted os started H enc F)

theorem proofRefuses_plain (f : FuncId) (fn : Func) (hf : Tryz.pinned.checked.prog.funcNamed "ledger/ledgerlaw12.ProofRefuses" = some f) (hfn : Tryz.pinned.checked.prog.funcs[f]? = some fn) :
    true = Tryz.pinned.checked.prog.looks [] ∧ ∀ (j : Nat) t, fn.params[j]? = some t → Tryz.pinned.checked.prog.wantsStandIn t = false := by
  obtain rfl : f = 3 := Option.some.inj ((show Tryz.prog.funcNamed "ledger/ledgerlaw12.ProofRefuses" = some 3 by kernel_rfl).symm.trans hf) |>.symm
  obtain rfl : fn = Tryz.f3 := (Option.some.inj (Tryz.func3.symm.trans hfn)).symm
  refine ⟨by kernel_rfl, fun j t ht => ?_⟩
  rw [Tryz.params3] at ht
  have hm := Array.mem_of_getElem? ht
  have hall : ([3, 3, 3, 23] : List Nat).all (fun t => !(Tryz.prog.wantsStandIn t)) = true := by kernel_rfl
  have hq := List.all_eq_true.1 hall t (by simpa using hm)
  show Tryz.prog.wantsStandIn t = false
  simpa using hq

theorem proofRefuses_card : Rows.ProofRefusesCardSaid :=
  Claim7.holds_tied_plain_at .later [] _ _ _ _ proofRefuses_said (fun _ h => by cases h) (by kernel_rfl) (fun _ h => by cases h) proofRefuses_row_tie rfl ⟨rfl, rfl⟩ (by kernel_rfl) rfl proofRefuses_plain (by kernel_rfl)
#print axioms proofRefuses_card
end Go.Proofs.YtpjfpepjledlmaaGreatDoor
