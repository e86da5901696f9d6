import Derived.Test.YtbjahdbmkcamoaaDoorTsC
namespace Go.Proofs.YtbjahdbmkcamoaaDoor
set_option linter.unusedVariables false
set_option linter.unusedSimpArgs false
open Go.ChangeShapes Go.WideShapes Go.ChangeAt Go.RowKit

theorem truths_any (w : World) (hG : Gb w) (k : Int) (cs : List Chg) (sp : Option Addr) (cap b o : Nat) (ms : List MC) (hC : Chs w sp cap cs b o ms) (hok : ∀ c ∈ cs, OkC c) (hcl : cs.length ≤ 2199023255488) (kss : List (List Int)) (sp2 : Option Addr) (cap2 : Nat) (hS2 : SrcD w sp2 cap2 kss) (hn2 : sp2 = none → cap2 = 0) (hyk : ∀ d ∈ kss, Bys d) (hkl : kss.length ≤ 140737488355000) :
    Calls Tryd.prog 3 #[.int .i64 k, .slice sp cs.length cap, .slice sp2 kss.length cap2] w fun e w' => e = .returned (.bool true) ∧ Below w.heap.size w w' := by
  by_cases hl : kss.length ≤ 100000
  · exact truths_few w hG k cs sp cap b o ms hC hok kss sp2 cap2 hS2 hn2 hyk hl
  · exact truths_many w hG k cs sp cap kss sp2 cap2 (by omega) (by omega) (by omega)

set_option maxRecDepth 100000 in
theorem clientTruths_contract (H : Type) (enc : TypeId × Value → H) (W : World) (base : Nat) (args : Array Value) (ds gs : List (DataW H)) (before : List MemPlace)
    (hval : ∀ (j : Nat) t v, Tryd.f3.params[j]? = some t → args[j]? = some v → Value.okWide Tryd.prog W .any base t v)
    (hW : DataW.Whole enc Tryd.prog Tryd.f3.params.toList Rows.clientTruthsSpec.vars false W args.toList ds gs before) (hL : laidMetH Tryd.prog Rows.clientTruthsRow.laid W)
    (hsz : (DataW.weightsEach Tryd.prog (Tryd.f3.params.toList ++ Rows.clientTruthsSpec.plain.varTypes Tryd.prog) (ds ++ gs)).all (· ≤ reachBytes) = true) :
    Calls Tryd.prog 3 args W fun e W' => ∃ v, e = .returned v ∧ Rows.clientTruthsSpec.post enc Tryd.prog Tryd.f3 false true false false W args v W' := by
  have hW' := hW
  obtain ⟨p, q, hA0, hV, rfl, hfz, hnd⟩ := hW
  have hA : DataW.TrodAll enc Tryd.prog W 0 (fun _ => true) true Tryd.f3.params.toList args.toList ds p := hA0
  rw [Tryd.params3] at hA hval hsz
  obtain ⟨v0, vs0, d0, ds0, p0, q0, hargs, rfl, rfl, h0, r0⟩ := trodAll_cons hA
  obtain ⟨v1, vs1, d1, ds1, p1, q1, rfl, rfl, rfl, h1, r1⟩ := trodAll_cons r0
  obtain ⟨v2, vs2, d2, ds2, p2, q2, rfl, rfl, rfl, h2, r2⟩ := trodAll_cons r1
  obtain ⟨rfl, rfl, rfl⟩ := trodAll_nil r2
  obtain rfl : args = #[v0, v1, v2] := by cases args; simp_all
  obtain ⟨rfl, rfl⟩ := trodVars_none hV
  have hG : Gb W := tab4 hL
  obtain ⟨a0, rfl, rfl, rfl, w0⟩ := open_int Tryd.underlying3 (hval 0 3 v0 rfl rfl) h0
  have k1 := h1
  have lt1 : ∀ x ∈ p1, x.block < W.heap.size := by obtain ⟨m, hm⟩ := k1; exact DataW.trod_lt m _ _ _ hm
  have ws1 : WS 22 d1 := fun n hn => by
    have := List.all_eq_true.1 hsz n (DataW.weights_mem_each (j := 1) rfl rfl n hn)
    simpa using this
  obtain ⟨a1x, len1x, cap1x, rfl⟩ := okWide_slice Tryd.underlying22 (hval 1 22 v1 rfl rfl)
  obtain ⟨fuel1, hf1⟩ := h1
  change DataW.trod enc Tryd.prog W 0 (fun _ => true) true fuel1 22 [Value.slice a1x len1x cap1x] = some (d1, p1) at hf1
  obtain ⟨vv1, hvv1⟩ : ∃ vv, vv = Value.slice a1x len1x cap1x := ⟨_, rfl⟩
  rw [← hvv1] at hf1 k1 hval hA0 hW' ⊢
  clear hvv1
  obtain ⟨cs1, sp1, cap1, b1, o1, ms1, rfl, hC1, ok1, hlen1⟩ := open_chs ws1 hf1
  have k2 := h2
  have lt2 : ∀ x ∈ p2, x.block < W.heap.size := by obtain ⟨m, hm⟩ := k2; exact DataW.trod_lt m _ _ _ hm
  have ws2 : WS 23 d2 := fun n hn => by
    have := List.all_eq_true.1 hsz n (DataW.weights_mem_each (j := 2) rfl rfl n hn)
    simpa using this
  obtain ⟨a2x, len2x, cap2x, rfl⟩ := okWide_slice Tryd.underlying23 (hval 2 23 v2 rfl rfl)
  obtain ⟨fuel2, hf2⟩ := h2
  change DataW.trod enc Tryd.prog W 0 (fun _ => true) true fuel2 23 [Value.slice a2x len2x cap2x] = some (d2, p2) at hf2
  obtain ⟨vv2, hvv2⟩ : ∃ vv, vv = Value.slice a2x len2x cap2x := ⟨_, rfl⟩
  rw [← hvv2] at hf2 k2 hval hA0 hW' ⊢
  clear hvv2
  obtain ⟨ks2, sp2, cap2, rfl, hS2, hn2, y2, hlen2⟩ := open_keys ws2 hf2
  clear hA0
  refine (truths_any W hG a0 cs1 sp1 cap1 b1 o1 ms1 hC1 ok1 hlen1 ks2 sp2 cap2 hS2 hn2 y2 hlen2).mono fun e W' ⟨he, bel⟩ => ?_
  subst he
  exact ⟨_, rfl, _, _, _, [], _, [], hW', trodAll_mk1 (shut_bool Tryd.underlying4 _), (trodAll_cons_mk (shut_int Tryd.underlying3 w0) (trodAll_cons_mk (Below.trod Tryd.laidOut (by kernel_rfl) (of_decide_eq_true (by kernel_rfl)) k1 bel lt1) (trodAll_cons_mk (Below.trod Tryd.laidOut (by kernel_rfl) (of_decide_eq_true (by kernel_rfl)) k2 bel lt2) trodAll_mk0))), rfl, bel.frame _, fun h => by cases h⟩

theorem clientTruths_laid (os : Os) : laidMet Tryd.prog Rows.clientTruthsRow.laid ((laidWorld os).forCall (fun _ _ => 0) ⟨#[], #[.int .i64 0, .slice none 0 0, .slice none 0 0], []⟩).memory :=
  laidMet_of_run' 8 (by kernel_rfl) (by kernel_rfl)
def clientTruths_xs {H : Type} : List (DataW H) := [.lit (.int .i64 0), .nil, .nil]
theorem clientTruths_reads (os : Os) {H : Type} (enc : TypeId × Value → H) : ∃ places, DataW.whole enc Tryd.prog ((laidWorld os).forCall (fun _ _ => 0) ⟨#[], #[.int .i64 0, .slice none 0 0, .slice none 0 0], []⟩).memory Tryd.f3.params.toList Rows.clientTruthsSpec.vars false (#[.int .i64 0, .slice none 0 0, .slice none 0 0] : Array Value).toList 8 = some (clientTruths_xs, [], places) :=
  ⟨[], by kernel_rfl⟩
set_option maxRecDepth 100000 in
theorem clientTruths_lifted (os : Os) (started : os.Started) (H : Type) (enc : TypeId × Value → H) (F : Stop.Interp) :
    ReturnsInHanded {} Tryd.checked os 3 .any ((OpenSpec.ofChange Rows.clientTruthsSpec).preRow enc Tryd.prog Tryd.f3 Rows.clientTruthsRow.domain false Rows.clientTruthsRow.laid) (((OpenSpec.ofChange Rows.clientTruthsSpec).at F).post enc Tryd.prog Tryd.f3 false true false false) := by
  obtain ⟨places, hx⟩ := clientTruths_reads os enc
  refine returnsInHanded_of_row (C := Tryd.checked) (s := OpenSpec.ofChange Rows.clientTruthsSpec) own_knob started (by kernel_rfl) Tryd.func3
    (witness_row_at (enc := enc) (C := Tryd.checked) false (laidWorld os) #[.int .i64 0, .slice none 0 0, .slice none 0 0] rfl (by kernel_rfl) (by kernel_rfl) (by kernel_rfl)
      (OpenSpec.preRow_of_cond 8 hx (by kernel_rfl) (fun k hk => by cases hk) (by kernel_rfl) (clientTruths_laid os))) ?_
  intro W base args ds gs before hval hW _ _ hsz hL _ _
  exact clientTruths_contract H enc W base args ds gs before hval hW hL hsz

theorem clientTruths_said : Rows.ClientTruthsSaid :=
  OpenClaim.holds_of_cond 3 Tryd.f3 rfl rfl rfl rfl rfl rfl rfl ⟨rfl, rfl, rfl, rfl, rfl⟩ rfl rfl rfl rfl rfl (by kernel_rfl) Tryd.func3 (by kernel_rfl)
    (of_decide_eq_true (by kernel_rfl)) (by unfold Func.isWrapper; first | (rw [if_pos (by decide +kernel)]; kernel_rfl) | (rw [if_neg (by decide +kernel)]; exact ⟨rfl, rfl⟩))
    (fun os started H enc _ F => by rw [OpenClaim.pre_eq_preRow]; exact clientTruths_lifted os started H enc F)

theorem clientTruths_plain (f : FuncId) (fn : Func) (hf : Tryd.pinned.checked.prog.funcNamed "ledger/ledgerlaw13.ClientTruths" = some f) (hfn : Tryd.pinned.checked.prog.funcs[f]? = some fn) :
    false = Tryd.pinned.checked.prog.looks [] ∧ ∀ (j : Nat) t, fn.params[j]? = some t → Tryd.pinned.checked.prog.wantsStandIn t = false := by
  obtain rfl : f = 3 := Option.some.inj ((show Tryd.prog.funcNamed "ledger/ledgerlaw13.ClientTruths" = some 3 by kernel_rfl).symm.trans hf) |>.symm
  obtain rfl : fn = Tryd.f3 := (Option.some.inj (Tryd.func3.symm.trans hfn)).symm
  refine ⟨by kernel_rfl, fun j t ht => ?_⟩
  rw [Tryd.params3] at ht
  have hm := Array.mem_of_getElem? ht
  have hall : ([3, 22, 23] : List Nat).all (fun t => !(Tryd.prog.wantsStandIn t)) = true := by kernel_rfl
  have hq := List.all_eq_true.1 hall t (by simpa using hm)
  show Tryd.prog.wantsStandIn t = false
  simpa using hq

theorem clientTruths_card : Rows.ClientTruthsCardSaid :=
  Claim7.holds_tied_plain_at .later [] _ _ _ _ clientTruths_said (fun _ h => by cases h) (by kernel_rfl) (fun _ h => by cases h) clientTruths_row_tie rfl ⟨rfl, rfl⟩ (by kernel_rfl) rfl clientTruths_plain (by kernel_rfl)
#print axioms clientTruths_card
end Go.Proofs.YtbjahdbmkcamoaaDoor
